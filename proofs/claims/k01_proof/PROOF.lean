import PyProof.Rows.All
import PySem.PyData
import Wide.All
import OpenK.AllK
import Wide.FinOn
import HandS.ForMost
import HandS.ForExc
import HandS.Zip
import HandS.Walk
import HandS.IsInst
import HandS.Wide
import HandS.Gcd
import HandS.Flow
import KE.KMathG
import HandS.Star
import KE.GoesEnum
import KE.GoesMore
import HandS.Style
import HandS.TupAny
import HandS.ExcCtx
import HandS.SuiteRaise
import HandS.Strs
import HandS.Deep
import HandS.Conv
import HandS.TupMul
import HandS.HotCalls
import HandS.ListItems
import HandS.DictComp
import KE.DatumOrd
import HandS.SortKw
import PySem.Challenge.RW_wattkeep_k01_whole_systems
set_option autoImplicit false
namespace WK
open PySem
mutual
def sameD : PyData → PyData → Bool
  | .none, .none => true
  | .bool a, .bool b => a == b
  | .int a, .int b => a == b
  | .str a, .str b => decide (a = b)
  | .list a, .list b => sameL a b
  | .tuple a, .tuple b => sameL a b
  | .dict a, .dict b => sameP a b
  | _, _ => false
def sameL : List PyData → List PyData → Bool
  | [], [] => true
  | a :: r, b :: s => sameD a b && sameL r s
  | _, _ => false
def sameP : List (PyData × PyData) → List (PyData × PyData) → Bool
  | [], [] => true
  | (a, c) :: r, (b, d) :: s => sameD a b && sameD c d && sameP r s
  | _, _ => false
end
mutual
theorem sameD_refl : ∀ a : PyData, sameD a a = true
  | .none => rfl
  | .bool a => by unfold sameD; exact beq_self_eq_true a
  | .int a => by unfold sameD; exact beq_self_eq_true a
  | .str a => by unfold sameD; exact decide_eq_true rfl
  | .list a => by unfold sameD; exact sameL_refl a
  | .tuple a => by unfold sameD; exact sameL_refl a
  | .dict a => by unfold sameD; exact sameP_refl a
theorem sameL_refl : ∀ a : List PyData, sameL a a = true
  | [] => rfl
  | a :: r => by unfold sameL; rw [sameD_refl a, sameL_refl r]; rfl
theorem sameP_refl : ∀ a : List (PyData × PyData), sameP a a = true
  | [] => rfl
  | (a, c) :: r => by unfold sameP; rw [sameD_refl a, sameD_refl c, sameP_refl r]; rfl
end
mutual
theorem sameD_eq : ∀ a b : PyData, sameD a b = true → a = b
  | .none, b, h => by cases b <;> first | rfl | (unfold sameD at h; cases h)
  | .bool a, b, h => by
    cases b <;> unfold sameD at h <;> first | cases h; done | skip
    rw [eq_of_beq h]
  | .int a, b, h => by
    cases b <;> unfold sameD at h <;> first | cases h; done | skip
    rw [eq_of_beq h]
  | .str a, b, h => by
    cases b <;> unfold sameD at h <;> first | cases h; done | skip
    rw [of_decide_eq_true h]
  | .list a, b, h => by
    cases b <;> unfold sameD at h <;> first | cases h; done | skip
    rw [sameL_eq a _ h]
  | .tuple a, b, h => by
    cases b <;> unfold sameD at h <;> first | cases h; done | skip
    rw [sameL_eq a _ h]
  | .dict a, b, h => by
    cases b <;> unfold sameD at h <;> first | cases h; done | skip
    rw [sameP_eq a _ h]
theorem sameL_eq : ∀ a b : List PyData, sameL a b = true → a = b
  | [], b, h => by cases b <;> first | rfl | (unfold sameL at h; cases h)
  | a :: r, [], h => by unfold sameL at h; cases h
  | a :: r, b :: s, h => by
    unfold sameL at h
    rw [Bool.and_eq_true] at h
    rw [sameD_eq a b h.1, sameL_eq r s h.2]
theorem sameP_eq : ∀ a b : List (PyData × PyData), sameP a b = true → a = b
  | [], b, h => by cases b <;> first | rfl | (unfold sameP at h; cases h)
  | (a, c) :: r, [], h => by unfold sameP at h; cases h
  | (a, c) :: r, (b, d) :: s, h => by
    unfold sameP at h
    rw [Bool.and_eq_true, Bool.and_eq_true] at h
    rw [sameD_eq a b h.1.1, sameD_eq c d h.1.2, sameP_eq r s h.2]
end
instance : DecidableEq PyData := fun a b => if h : sameD a b = true then .isTrue (sameD_eq a b h) else .isFalse fun e => h (by rw [e]; exact sameD_refl b)
end WK

set_option Elab.async false
set_option linter.all false
set_option maxRecDepth 100000
set_option autoImplicit false
set_option maxHeartbeats 2000000
namespace WK
open PySem PySem.Spec PyProof.Rows L2

inductive SV where
  | d (x : PyData)
  | o (n : Nat)
  | k (ds : List PyData)
  deriving DecidableEq
inductive MO where
  | lst (xs : List SV)
  | dct (kvs : List (Key × SV))
  | ins (c : Str) (fs : List (Str × SV))
  | gone
  deriving DecidableEq
abbrev MM := List MO
abbrev SE := List (Option SV)
inductive R (α : Type) where
  | ok (a : α) (m : MM)
  | err (c : Str) (m : MM)
  | bad
def R.bind {α β : Type} (r : R α) (g : α → MM → R β) : R β := match r with
  | .ok a m => g a m
  | .err c m => .err c m
  | .bad => .bad
def R.map {α β : Type} (g : α → β) (r : R α) : R β := r.bind fun a m => .ok (g a) m

@[simp] theorem bind_ok {α β : Type} (a : α) (m : MM) (g : α → MM → R β) : (R.ok a m).bind g = g a m := rfl
@[simp] theorem bind_err {α β : Type} (c : Str) (m : MM) (g : α → MM → R β) : (R.err c m : R α).bind g = .err c m := rfl
@[simp] theorem bind_bad {α β : Type} (g : α → MM → R β) : (R.bad : R α).bind g = .bad := rfl
def Live (m : MM) (ι : Nat → Addr) (a : Addr) : Prop := ∃ n o, m[n]? = some o ∧ o ≠ .gone ∧ ι n = a
def SqN (K : PySem.W.Frag) (H : Hp) (a : Addr) (xs : List V) : Prop :=
  (∃ o, H a = some (.frz o (.tup xs)) ∧ o.dict = none) ∨
    ∃ (o : Obj) (its : Array Value) (n : Nat), K.lookup a = some o ∧ o.cls = .type "tuple" ∧ o.dict = none ∧ o.data = .seq its n ∧ its.size ≤ sizeLine ∧ Vals xs its.toList
theorem SqN.t {K : PySem.W.Frag} {H : Hp} {a : Addr} {xs : List V} (h : SqN K H a xs) : SqT K H a xs := by
  rcases h with ⟨o, h, _⟩ | ⟨o, its, n, h1, h2, _, h3, h4, h5⟩
  · exact .inl (.inr ⟨o, h⟩)
  · exact .inr ⟨o, its, n, h1, h2, h3, h4, h5⟩
theorem SqN.new {K : PySem.W.Frag} {H : Hp} {a : Addr} {xs : List V} {o : Obj} (d : o.dict = none) : SqN K (upd H a (.frz o (.tup xs))) a xs := .inl ⟨o, upd_same, d⟩
mutual
inductive Rp (K : PySem.W.Frag) (F : Hp) : V → PyData → Prop
  | non : Rp K F .non .none
  | bl (b : Bool) : Rp K F (.bl b) (.bool b)
  | int (i : Int) : Rp K F (.int i) (.int i)
  | str (x : Str) : Rp K F (.str x) (.str x)
  | lst {a : Addr} {xs : List V} {ds : List PyData} : Rd F a (.lst xs) → RpAll K F xs ds → Rp K F (.ref a) (.list ds)
  | tup {a : Addr} {xs : List V} {ds : List PyData} : SqN K F a xs → RpAll K F xs ds → Rp K F (.ref a) (.tuple ds)
inductive RpAll (K : PySem.W.Frag) (F : Hp) : List V → List PyData → Prop
  | nil : RpAll K F [] []
  | cons {v : V} {vs : List V} {d : PyData} {ds : List PyData} : Rp K F v d → RpAll K F vs ds → RpAll K F (v :: vs) (d :: ds)
end
def RV (K : PySem.W.Frag) (F : Hp) (ι : Nat → Addr) (k : Nat) (v : V) : SV → Prop
  | .d x => Rp K F v x
  | .o n => n < k ∧ v = .ref (ι n)
  | .k ds => ∃ a vs, v = .ref a ∧ SqL K F a vs ∧ RpAll K F vs ds
abbrev RVs (K : PySem.W.Frag) (F : Hp) (ι : Nat → Addr) (k : Nat) : List V → List SV → Prop := Paired (RV K F ι k)

def clsAt (K : PySem.W.Frag) (c : Str) : Addr := match PySem.W.nsIn K mainGlobals c with
  | some (some (.ref a)) => a
  | _ => 0
abbrev RKs {κ : Type} (K : PySem.W.Frag) (F : Hp) (ι : Nat → Addr) (k : Nat) : List (κ × V) → List (κ × SV) → Prop := Paired fun p q => p.1 = q.1 ∧ RV K F ι k p.2 q.2
def RO (K : PySem.W.Frag) (F : Hp) (ι : Nat → Addr) (k : Nat) : MO → HO → Prop
  | .lst xs, .lst vs => RVs K F ι k vs xs
  | .dct kvs, .dK vs => RKs K F ι k vs kvs
  | .ins c fs, .ins C _ vs => C = clsAt K c ∧ RKs K F ι k vs fs
  | _, _ => False
structure WR (K : PySem.W.Frag) (F H : Hp) (ι : Nat → Addr) (m : MM) : Prop where
  sub : ∀ a o, F a = some o → H a = some o
  obj : ∀ n o, m[n]? = some o → o ≠ .gone → F (ι n) = none ∧ ∃ u, H (ι n) = some u ∧ RO K F ι m.length o u
  inj : ∀ i j, i < m.length → j < m.length → ι i = ι j → i = j
  al : ∀ n, n < m.length → H (ι n) ≠ none
structure Stp (F H : Hp) (ι : Nat → Addr) (m : MM) (F' H' : Hp) (ι' : Nat → Addr) (m' : MM) : Prop where
  len : m.length ≤ m'.length
  same : ∀ n, n < m.length → ι' n = ι n
  new : ∀ n, m.length ≤ n → n < m'.length → H (ι' n) = none
  gone : ∀ n : Nat, m[n]? = some MO.gone → m'[n]? = some MO.gone
  keep : ∀ a o, H a = some o → ¬ Live m ι a → H' a = some o
  trk : ∀ a, H' a = none → H a = none
  frz : ∀ a o, F a = some o → F' a = some o
  thw : ∀ a o, F' a = some o → F a = some o ∨ H a = none ∨ Live m ι a

section
variable {K : PySem.W.Frag} {F H F1 H1 F2 H2 : Hp} {ι ι1 ι2 : Nat → Addr} {m m1 m2 : MM}
theorem live_lt {a : Addr} (h : Live m ι a) : ∃ n, n < m.length ∧ ι n = a := by
  obtain ⟨n, xs, e, _, z⟩ := h
  exact ⟨n, (List.getElem?_eq_some_iff.mp e).1, z⟩
theorem Stp.refl : Stp F H ι m F H ι m := ⟨Nat.le_refl _, fun _ _ => rfl, fun n h1 h2 => absurd h1 (by omega), fun _ h => h, fun _ _ h _ => h, fun _ h => h, fun _ _ h => h, fun _ _ h => .inl h⟩
theorem Stp.live (s : Stp F H ι m F1 H1 ι1 m1) {a : Addr} (h : Live m1 ι1 a) : Live m ι a ∨ H a = none := by
  obtain ⟨n, xs, e, ng, z⟩ := h
  by_cases hn : n < m.length
  · left
    obtain ⟨mo, hm⟩ : ∃ mo, m[n]? = some mo := ⟨m[n], List.getElem?_eq_getElem hn⟩
    refine ⟨n, mo, hm, fun q => ?_, by rw [← s.same n hn]; exact z⟩
    subst q
    rw [s.gone n hm] at e
    exact ng (Option.some.inj e).symm
  · right
    rw [← z]
    exact s.new n (by omega) (List.getElem?_eq_some_iff.mp e).1
theorem Stp.trans (s : Stp F H ι m F1 H1 ι1 m1) (t : Stp F1 H1 ι1 m1 F2 H2 ι2 m2) : Stp F H ι m F2 H2 ι2 m2 := by
  refine ⟨Nat.le_trans s.len t.len, fun n hn => ?_, fun n h1 h2 => ?_, fun n h => t.gone n (s.gone n h), fun a o h l => ?_, fun a h => s.trk a (t.trk a h), fun a o h => t.frz a o (s.frz a o h), fun a o h => ?_⟩
  · rw [t.same n (Nat.lt_of_lt_of_le hn s.len), s.same n hn]
  · by_cases hn : n < m1.length
    · rw [t.same n hn]
      exact s.new n h1 hn
    · exact s.trk _ (t.new n (by omega) h2)
  · refine t.keep a o (s.keep a o h l) fun l1 => ?_
    rcases s.live l1 with z | z
    · exact l z
    · rw [h] at z
      cases z
  · rcases t.thw a o h with z | z | z
    · exact s.thw a o z
    · exact .inr (.inl (s.trk a z))
    · rcases s.live z with z | z
      · exact .inr (.inr z)
      · exact .inr (.inl z)

theorem sqL_up (e : ∀ a o, F a = some o → F1 a = some o) {a : Addr} {xs : List V} (h : SqL K F a xs) : SqL K F1 a xs := by
  rcases h with (h | ⟨o, h⟩) | h
  · exact .inl (.inl (e _ _ h))
  · exact .inl (.inr ⟨o, e _ _ h⟩)
  · exact .inr h
theorem sqT_up (e : ∀ a o, F a = some o → F1 a = some o) {a : Addr} {xs : List V} (h : SqT K F a xs) : SqT K F1 a xs := by
  rcases h with (h | ⟨o, h⟩) | h
  · exact .inl (.inl (e _ _ h))
  · exact .inl (.inr ⟨o, e _ _ h⟩)
  · exact .inr h
theorem sqN_up (e : ∀ a o, F a = some o → F1 a = some o) {a : Addr} {xs : List V} (h : SqN K F a xs) : SqN K F1 a xs := by
  rcases h with ⟨o, h, d⟩ | h
  · exact .inl ⟨o, e _ _ h, d⟩
  · exact .inr h
theorem rd_up (e : ∀ a o, F a = some o → F1 a = some o) {a : Addr} {u : HO} (h : Rd F a u) : Rd F1 a u := by
  rcases h with h | ⟨o, h⟩
  · exact .inl (e _ _ h)
  · exact .inr ⟨o, e _ _ h⟩
mutual
theorem rp_up (e : ∀ a o, F a = some o → F1 a = some o) : ∀ (x : PyData) (v : V), Rp K F v x → Rp K F1 v x
  | .none, _, h => by cases h; exact .non
  | .bool b, _, h => by cases h; exact .bl b
  | .int b, _, h => by cases h; exact .int b
  | .str b, _, h => by cases h; exact .str b
  | .list ds, _, h => by
    cases h with
    | lst hs ha => exact .lst (rd_up e hs) (rpAll_up e ds _ ha)
  | .tuple ds, _, h => by
    cases h with
    | tup hs ha => exact .tup (sqN_up e hs) (rpAll_up e ds _ ha)
  | .dict _, _, h => by cases h
theorem rpAll_up (e : ∀ a o, F a = some o → F1 a = some o) : ∀ (ds : List PyData) (vs : List V), RpAll K F vs ds → RpAll K F1 vs ds
  | [], _, h => by cases h; exact .nil
  | d :: ds, _, h => by
    cases h with
    | cons h1 h2 => exact .cons (rp_up e d _ h1) (rpAll_up e ds _ h2)
end
mutual
theorem rp_dp : ∀ (x : PyData) (v : V), Rp K F v x → Dp K F v x
  | .none, _, h => by cases h; exact .non
  | .bool b, _, h => by cases h; exact .bl b
  | .int b, _, h => by cases h; exact .int b
  | .str b, _, h => by cases h; exact .str b
  | .list ds, _, h => by
    cases h with
    | lst hs ha => exact .lst (.inl hs) (rpAll_dp ds _ ha)
  | .tuple ds, _, h => by
    cases h with
    | tup hs ha => exact .tup hs.t (rpAll_dp ds _ ha)
  | .dict _, _, h => by cases h
theorem rpAll_dp : ∀ (ds : List PyData) (vs : List V), RpAll K F vs ds → DpAll K F vs ds
  | [], _, h => by cases h; exact .nil
  | d :: ds, _, h => by
    cases h with
    | cons h1 h2 => exact .cons (rp_dp d _ h1) (rpAll_dp ds _ h2)
end
theorem RpAll.length : ∀ {vs : List V} {ds : List PyData}, RpAll K F vs ds → vs.length = ds.length
  | _, _, .nil => rfl
  | _, _, .cons _ t => congrArg (· + 1) t.length
theorem RpAll.get : ∀ {vs : List V} {ds : List PyData} {i : Nat} {d : PyData}, RpAll K F vs ds → ds[i]? = some d → ∃ v, vs[i]? = some v ∧ Rp K F v d
  | _, _, _, _, .nil, e => by simp at e
  | _, _, 0, _, .cons r _, e => by
    rw [List.getElem?_cons_zero] at e
    cases e
    exact ⟨_, rfl, r⟩
  | _, _, i + 1, _, .cons _ t, e => by
    rw [List.getElem?_cons_succ] at e
    obtain ⟨v, h1, h2⟩ := RpAll.get t e
    exact ⟨v, by rw [List.getElem?_cons_succ]; exact h1, h2⟩
theorem RpAll.append : ∀ {vs ws : List V} {ds es : List PyData}, RpAll K F vs ds → RpAll K F ws es → RpAll K F (vs ++ ws) (ds ++ es)
  | _, _, _, _, .nil, s => s
  | _, _, _, _, .cons r t, s => .cons r (t.append s)
theorem RpAll.take : ∀ {vs : List V} {ds : List PyData} (n : Nat), RpAll K F vs ds → RpAll K F (vs.take n) (ds.take n)
  | _, _, 0, _ => .nil
  | _, _, _ + 1, .nil => .nil
  | _, _, n + 1, .cons r t => .cons r (RpAll.take n t)
theorem RpAll.drop : ∀ {vs : List V} {ds : List PyData} (n : Nat), RpAll K F vs ds → RpAll K F (vs.drop n) (ds.drop n)
  | _, _, 0, r => r
  | _, _, _ + 1, .nil => .nil
  | _, _, n + 1, .cons _ t => RpAll.drop n t
theorem RpAll.rep {v : V} {d : PyData} (r : Rp K F v d) : ∀ n : Nat, RpAll K F (List.replicate n v) (List.replicate n d)
  | 0 => .nil
  | n + 1 => .cons r (RpAll.rep r n)
theorem RV.up (s : Stp F H ι m F1 H1 ι1 m1) {v : V} {x : SV} (h : RV K F ι m.length v x) : RV K F1 ι1 m1.length v x := by
  cases x with
  | d x => exact rp_up s.frz x v h
  | o n => exact ⟨Nat.lt_of_lt_of_le h.1 s.len, by rw [s.same n h.1]; exact h.2⟩
  | k ds =>
    obtain ⟨a, vs, e, h1, h2⟩ := h
    exact ⟨a, vs, e, sqL_up s.frz h1, rpAll_up s.frz _ _ h2⟩
theorem RVs.up (s : Stp F H ι m F1 H1 ι1 m1) : ∀ {vs : List V} {xs : List SV}, RVs K F ι m.length vs xs → RVs K F1 ι1 m1.length vs xs
  | _, _, .nil => .nil
  | _, _, .cons h t => .cons (h.up s) (RVs.up s t)
theorem RKs.up {κ : Type} (s : Stp F H ι m F1 H1 ι1 m1) : ∀ {vs : List (κ × V)} {xs : List (κ × SV)}, RKs K F ι m.length vs xs → RKs K F1 ι1 m1.length vs xs
  | _, _, .nil => .nil
  | _, _, .cons h t => .cons ⟨h.1, h.2.up s⟩ (RKs.up s t)
theorem RO.up (s : Stp F H ι m F1 H1 ι1 m1) {o : MO} {u : HO} (h : RO K F ι m.length o u) : RO K F1 ι1 m1.length o u := by
  cases o <;> cases u <;> first | exact h.elim | skip
  · exact RVs.up s h
  · exact RKs.up s h
  · exact ⟨h.1, RKs.up s h.2⟩
theorem WR.lst (w : WR K F H ι m) (n : Nat) (xs : List SV) (e : m[n]? = some (.lst xs)) : F (ι n) = none ∧ ∃ vs, H (ι n) = some (.lst vs) ∧ RVs K F ι m.length vs xs := by
  obtain ⟨h1, u, h2, h3⟩ := w.obj n _ e (fun q => nomatch q)
  cases u <;> first | exact False.elim h3 | skip
  exact ⟨h1, _, h2, h3⟩
theorem WR.dct (w : WR K F H ι m) (n : Nat) (xs : List (Key × SV)) (e : m[n]? = some (.dct xs)) : F (ι n) = none ∧ ∃ vs, H (ι n) = some (.dK vs) ∧ RKs K F ι m.length vs xs := by
  obtain ⟨h1, u, h2, h3⟩ := w.obj n _ e (fun q => nomatch q)
  cases u <;> first | exact False.elim h3 | skip
  exact ⟨h1, _, h2, h3⟩
theorem WR.ins (w : WR K F H ι m) (n : Nat) (c : Str) (xs : List (Str × SV)) (e : m[n]? = some (.ins c xs)) : F (ι n) = none ∧ ∃ dx vs, H (ι n) = some (.ins (clsAt K c) dx vs) ∧ RKs K F ι m.length vs xs := by
  obtain ⟨h1, u, h2, h3⟩ := w.obj n _ e (fun q => nomatch q)
  cases u <;> first | exact False.elim h3 | skip
  obtain ⟨rfl, h3⟩ := h3
  exact ⟨h1, _, _, h2, h3⟩
theorem WR.fin (w : WR K F H ι m) {a : Addr} {o : HO} (h : F a = some o) : ¬ Live m ι a := fun ⟨n, xs, e, ng, z⟩ => by
  have := (w.obj n xs e ng).1
  rw [z, h] at this
  cases this
theorem sqL_in (w : WR K F H ι m) {a : Addr} {xs : List V} (h : SqL K F a xs) : SqL K H a xs := sqL_up w.sub h
theorem sqN_in (w : WR K F H ι m) {a : Addr} {xs : List V} (h : SqN K F a xs) : SqN K H a xs := sqN_up w.sub h
theorem rd_in (w : WR K F H ι m) {a : Addr} {u : HO} (h : Rd F a u) : Rd H a u := rd_up w.sub h
theorem rp_in (w : WR K F H ι m) {v : V} {x : PyData} (h : Rp K F v x) : Rp K H v x := rp_up w.sub x v h
theorem dp_in (w : WR K F H ι m) {v : V} {x : PyData} (h : Rp K F v x) : Dp K H v x := rp_dp x v (rp_in w h)

def Slots (K : PySem.W.Frag) (F : Hp) (ι : Nat → Addr) (k : Nat) (σ : L2.St) (ρ : SE) : Prop :=
  σ.length = ρ.length ∧ ∀ (i : Nat) (x : SV), ρ[i]? = some (some x) → ∃ v, σ[i]? = some (some v) ∧ RV K F ι k v x
theorem Slots.up {σ : L2.St} {ρ : SE} (s : Stp F H ι m F1 H1 ι1 m1) (h : Slots K F ι m.length σ ρ) : Slots K F1 ι1 m1.length σ ρ :=
  ⟨h.1, fun i x e => let ⟨v, e1, r⟩ := h.2 i x e; ⟨v, e1, r.up s⟩⟩
theorem Slots.set {σ : L2.St} {ρ : SE} {k : Nat} (h : Slots K F ι k σ ρ) {v : V} {x : SV} (r : RV K F ι k v x) (i : Nat) : Slots K F ι k (σ.set i (some v)) (ρ.set i (some x)) := by
  refine ⟨by rw [List.length_set, List.length_set]; exact h.1, fun j y e => ?_⟩
  by_cases hj : i = j
  · subst hj
    rw [List.getElem?_set] at e
    split at e
    · split at e
      · have e' := Option.some.inj (Option.some.inj e)
        subst e'
        refine ⟨v, ?_, r⟩
        rw [List.getElem?_set, if_pos rfl, if_pos (by rw [h.1]; assumption)]
      · cases e
    · rename_i z
      exact absurd rfl z
  · rw [List.getElem?_set_ne hj] at e
    obtain ⟨w, e1, r1⟩ := h.2 j y e
    exact ⟨w, by rw [List.getElem?_set_ne hj]; exact e1, r1⟩

structure Cn where
  K : PySem.W.Frag
  mg : Str → Option Value
  E : L2.St → XK
def clsOf (mg : Str → Option Value) (c : Str) : Value := (mg c).getD Value.none
end
def Out (C : Cn) (σ : L2.St) (F H : Hp) (ι : Nat → Addr) (m : MM) {α β : Type} (rel : Hp → (Nat → Addr) → Nat → β → α → Prop) (r : R α) (Q : β → Hp → Prop) : Prop :=
  match r with
  | .ok a m' => ∀ b F' H' ι', Stp F H ι m F' H' ι' m' → WR C.K F' H' ι' m' → rel F' ι' m'.length b a → Q b H'
  | .err c m' => ∀ F' H' ι', Stp F H ι m F' H' ι' m' → WR C.K F' H' ι' m' → C.E σ (clsOf C.mg c) none H'
  | .bad => False
section
variable {σ : L2.St} {C : Cn} {F H F1 H1 F2 H2 : Hp} {ι ι1 ι2 : Nat → Addr} {m m1 m2 : MM} {α β γ δ : Type} {rel : Hp → (Nat → Addr) → Nat → β → α → Prop} {rel' : Hp → (Nat → Addr) → Nat → δ → γ → Prop}
theorem Out.shift {r : R α} {Q : β → Hp → Prop} (s : Stp F H ι m F1 H1 ι1 m1) (h : Out C σ F H ι m rel r Q) : Out C σ F1 H1 ι1 m1 rel r Q := by
  cases r with
  | ok a m' => exact fun b F' H' ι' t w q => h b F' H' ι' (s.trans t) w q
  | err c m' => exact fun F' H' ι' t w => h F' H' ι' (s.trans t) w
  | bad => exact h
theorem Out.bind {r : R α} {g : α → MM → R γ} {Q : δ → Hp → Prop} {Q1 : β → Hp → Prop} (h : Out C σ F H ι m rel' (r.bind g) Q)
    (k : ∀ a m1 b F1 H1 ι1, r = .ok a m1 → Stp F H ι m F1 H1 ι1 m1 → WR C.K F1 H1 ι1 m1 → rel F1 ι1 m1.length b a → Out C σ F1 H1 ι1 m1 rel' (g a m1) Q → Q1 b H1) : Out C σ F H ι m rel r Q1 := by
  cases r with
  | ok a m' => exact fun b F' H' ι' t w q => k a m' b F' H' ι' rfl t w q (Out.shift t h)
  | err c m' => exact h
  | bad => exact h
theorem Out.ok {a : α} {b : β} {Q : β → Hp → Prop} (h : Out C σ F H ι m rel (.ok a m) Q) (w : WR C.K F H ι m) (r : rel F ι m.length b a) : Q b H := h b F H ι Stp.refl w r
theorem Out.ok' {a : α} {b : β} {Q : β → Hp → Prop} (h : Out C σ F H ι m rel (.ok a m1) Q) (s : Stp F H ι m F1 H1 ι1 m1) (w : WR C.K F1 H1 ι1 m1) (r : rel F1 ι1 m1.length b a) : Q b H1 := h b F1 H1 ι1 s w r
theorem Out.not_bad {Q : β → Hp → Prop} (h : Out C σ F H ι m rel (.bad : R α) Q) : False := h
theorem Out.imp {r : R α} {Q Q' : β → Hp → Prop} (h : Out C σ F H ι m rel r Q) (k : ∀ b H', Q b H' → Q' b H') : Out C σ F H ι m rel r Q' := by
  cases r with
  | ok a m' => exact fun b F' H' ι' t w q => k _ _ (h b F' H' ι' t w q)
  | err c m' => exact h
  | bad => exact h
end
abbrev relV (K : PySem.W.Frag) : Hp → (Nat → Addr) → Nat → V → SV → Prop := fun F ι k v x => RV K F ι k v x
abbrev relA (K : PySem.W.Frag) : Hp → (Nat → Addr) → Nat → List V → List SV → Prop := fun F ι k v x => RVs K F ι k v x
abbrev relB : Hp → (Nat → Addr) → Nat → Bool → Bool → Prop := fun _ _ _ b c => b = c

abbrev EF := SE → MM → R SV
abbrev TF := SE → MM → R Bool
abbrev AF := SE → MM → R (List SV)
def At (C : Cn) (σ : L2.St) (H : Hp) (P : SE → Hp → (Nat → Addr) → MM → Prop) : Prop := ∃ ρ F ι m, WR C.K F H ι m ∧ Slots C.K F ι m.length σ ρ ∧ P ρ F ι m
def tS (C : Cn) (f : EF) : TE := fun σ H Q => At C σ H fun ρ F ι m => Out C σ F H ι m (relV C.K) (f ρ m) Q
def tT (C : Cn) (f : TF) : TT := fun σ H Q => At C σ H fun ρ F ι m => Out C σ F H ι m relB (f ρ m) Q
def tA (C : Cn) (f : AF) : TA := fun σ H Q => At C σ H fun ρ F ι m => Out C σ F H ι m (relA C.K) (f ρ m) Q
inductive RS where
  | nx (ρ : SE) (m : MM)
  | rt (x : SV) (m : MM)
  | bk (ρ : SE) (m : MM)
  | ct (ρ : SE) (m : MM)
  | err (c : Str) (ρ : SE) (m : MM)
  | bad
abbrev SF := SE → MM → RS
def RS.bind (r : RS) (g : SF) : RS := match r with
  | .nx ρ m => g ρ m
  | r => r
def R.then {α : Type} (r : R α) (ρ : SE) (g : α → MM → RS) : RS := match r with
  | .ok a m => g a m
  | .err c m => .err c ρ m
  | .bad => .bad
@[simp] theorem then_ok {α : Type} (a : α) (m : MM) (ρ : SE) (g : α → MM → RS) : (R.ok a m).then ρ g = g a m := rfl
@[simp] theorem then_err {α : Type} (c : Str) (m : MM) (ρ : SE) (g : α → MM → RS) : (R.err c m : R α).then ρ g = .err c ρ m := rfl
@[simp] theorem then_bad {α : Type} (ρ : SE) (g : α → MM → RS) : (R.bad : R α).then ρ g = .bad := rfl
@[simp] theorem sbind_nx (ρ : SE) (m : MM) (g : SF) : (RS.nx ρ m).bind g = g ρ m := rfl
@[simp] theorem sbind_rt (x : SV) (m : MM) (g : SF) : (RS.rt x m).bind g = .rt x m := rfl
@[simp] theorem sbind_bk (ρ : SE) (m : MM) (g : SF) : (RS.bk ρ m).bind g = .bk ρ m := rfl
@[simp] theorem sbind_ct (ρ : SE) (m : MM) (g : SF) : (RS.ct ρ m).bind g = .ct ρ m := rfl
@[simp] theorem sbind_err (c : Str) (ρ : SE) (m : MM) (g : SF) : (RS.err c ρ m).bind g = .err c ρ m := rfl
@[simp] theorem sbind_bad (g : SF) : RS.bad.bind g = .bad := rfl
def Onto (C : Cn) (F H : Hp) (ι : Nat → Addr) (m : MM) (ρ' : SE) (m' : MM) (N : L2.St → Hp → Prop) : Prop :=
  ∀ σ' F' H' ι', Stp F H ι m F' H' ι' m' → WR C.K F' H' ι' m' → Slots C.K F' ι' m'.length σ' ρ' → N σ' H'
def OutS (C : Cn) (F H : Hp) (ι : Nat → Addr) (m : MM) (r : RS) (D : Ends) : Prop :=
  match r with
  | .nx ρ' m' => Onto C F H ι m ρ' m' D.nx
  | .bk ρ' m' => Onto C F H ι m ρ' m' D.bk
  | .ct ρ' m' => Onto C F H ι m ρ' m' D.ct
  | .rt x m' => ∀ v F' H' ι', Stp F H ι m F' H' ι' m' → WR C.K F' H' ι' m' → RV C.K F' ι' m'.length v x → D.rt v H'
  | .err c ρ' m' => Onto C F H ι m ρ' m' fun σ' H' => C.E σ' (clsOf C.mg c) none H'
  | .bad => False
def tSS (C : Cn) (s : SF) : TS := fun D σ H => At C σ H fun ρ F ι m => OutS C F H ι m (s ρ m) D
section
variable {C : Cn} {F H F1 H1 : Hp} {ι ι1 : Nat → Addr} {m m1 : MM} {α β : Type} {rel : Hp → (Nat → Addr) → Nat → β → α → Prop}
theorem Onto.shift {ρ' : SE} {m' : MM} {N : L2.St → Hp → Prop} (s : Stp F H ι m F1 H1 ι1 m1) (h : Onto C F H ι m ρ' m' N) : Onto C F1 H1 ι1 m1 ρ' m' N :=
  fun σ' F' H' ι' t w q => h σ' F' H' ι' (s.trans t) w q
theorem OutS.shift {r : RS} {D : Ends} (s : Stp F H ι m F1 H1 ι1 m1) (h : OutS C F H ι m r D) : OutS C F1 H1 ι1 m1 r D := by
  cases r with
  | nx ρ' m' => exact Onto.shift s h
  | bk ρ' m' => exact Onto.shift s h
  | ct ρ' m' => exact Onto.shift s h
  | rt x m' => exact fun v F' H' ι' t w q => h v F' H' ι' (s.trans t) w q
  | err c ρ' m' => exact Onto.shift s h
  | bad => exact h
theorem OutS.then {σ : L2.St} {ρ : SE} {r : R α} {g : α → MM → RS} {D : Ends} {Q1 : β → Hp → Prop} (sl : Slots C.K F ι m.length σ ρ) (h : OutS C F H ι m (r.then ρ g) D)
    (k : ∀ a m1 b F1 H1 ι1, r = .ok a m1 → Stp F H ι m F1 H1 ι1 m1 → WR C.K F1 H1 ι1 m1 → rel F1 ι1 m1.length b a → OutS C F1 H1 ι1 m1 (g a m1) D → Q1 b H1) : Out C σ F H ι m rel r Q1 := by
  cases r with
  | ok a m' => exact fun b F' H' ι' t w q => k a m' b F' H' ι' rfl t w q (OutS.shift t h)
  | err c m' => exact fun F' H' ι' t w => h σ F' H' ι' t w (sl.up t)
  | bad => exact h
end

section
variable {X : Cx}
theorem peI {e : Expr} {t t' : TE} (h : PE X e t) (i : ∀ σ H Q, t' σ H Q → t σ H Q) : PE X e t' := ⟨fun pins s σ H Q I w => h.run pins s σ H Q I (i σ H Q w)⟩
theorem ptI {e : Expr} {t t' : TT} (h : PT X e t) (i : ∀ σ H Q, t' σ H Q → t σ H Q) : PT X e t' := ⟨fun pins s σ H Q I w => h.run pins s σ H Q I (i σ H Q w)⟩
theorem paI {e : List Expr} {t t' : TA} (h : PA X e t) (i : ∀ σ H Q, t' σ H Q → t σ H Q) : PA X e t' := ⟨fun pos pins s σ H Q I w => h.run pos pins s σ H Q I (i σ H Q w)⟩
theorem psI {e : Stmt} {t t' : TS} (h : PS X e t) (i : ∀ D σ H, t' D σ H → t D σ H) : PS X e t' := ⟨fun pins s σ H D I w => h.run pins s σ H D I (i D σ H w)⟩
theorem pssI {e : List Stmt} {t t' : TS} (h : PSs X e t) (i : ∀ D σ H, t' D σ H → t D σ H) : PSs X e t' := ⟨fun pins s σ H D I w => h.run pins s σ H D I (i D σ H w)⟩
end
end WK

set_option Elab.async false
set_option linter.all false
set_option maxRecDepth 100000
set_option autoImplicit false
set_option maxHeartbeats 2000000
namespace WK
open PySem PySem.Spec PyProof.Rows L2

section
variable {K : PySem.W.Frag} {F H : Hp} {ι : Nat → Addr} {m : MM} {p : Addr}
theorem WR.ne (w : WR K F H ι m) (hp : H p = none) {n : Nat} (h : n < m.length) : ι n ≠ p := fun e => w.al n h (by rw [e]; exact hp)
theorem WR.free (w : WR K F H ι m) (hp : H p = none) : F p = none := by
  cases q : F p with
  | none => rfl
  | some o =>
    rw [w.sub p o q] at hp
    cases hp
theorem WR.lt {n : Nat} {mo : MO} (h : m[n]? = some mo) : n < m.length := (List.getElem?_eq_some_iff.mp h).1
theorem WR.frz_stp (w : WR K F H ι m) (hp : H p = none) (o : HO) : Stp F H ι m (upd F p o) (upd H p o) ι m := by
  refine ⟨Nat.le_refl _, fun _ _ => rfl, fun n h1 h2 => absurd h1 (by omega), fun _ h => h, fun a u h _ => ?_, fun a h => ?_, fun a u h => ?_, fun a u h => ?_⟩
  · rw [upd_ne (ne_of_none h hp)]
    exact h
  · by_cases e : a = p
    · rw [e]
      exact hp
    · rw [upd_ne e] at h
      exact h
  · rw [upd_ne (ne_of_none h (w.free hp))]
    exact h
  · by_cases e : a = p
    · rw [e]
      exact .inr (.inl hp)
    · rw [upd_ne e] at h
      exact .inl h
theorem WR.frz (w : WR K F H ι m) (hp : H p = none) (o : HO) : WR K (upd F p o) (upd H p o) ι m := by
  have s := w.frz_stp hp o
  refine ⟨fun a u h => ?_, fun n xs e ng => ?_, w.inj, fun n hn => ?_⟩
  · by_cases e : a = p
    · rw [e] at h ⊢
      rw [upd_same] at h ⊢
      exact h
    · rw [upd_ne e] at h ⊢
      exact w.sub a u h
  · obtain ⟨h1, vs, h2, h3⟩ := w.obj n xs e ng
    have ne := w.ne hp (WR.lt e)
    exact ⟨by rw [upd_ne ne]; exact h1, vs, by rw [upd_ne ne]; exact h2, h3.up s⟩
  · rw [upd_ne (w.ne hp hn)]
    exact w.al n hn
def ext (ι : Nat → Addr) (k : Nat) (p : Addr) : Nat → Addr := fun n => if n = k then p else ι n
theorem ext_self (k : Nat) : ext ι k p k = p := if_pos rfl
theorem ext_ne {k n : Nat} (h : n ≠ k) : ext ι k p n = ι n := if_neg h
theorem WR.add_stp (w : WR K F H ι m) (hp : H p = none) (v : HO) (o : MO) : Stp F H ι m F (upd H p v) (ext ι m.length p) (m ++ [o]) := by
  refine ⟨by rw [List.length_append]; omega, fun n hn => ext_ne (by omega), fun n h1 h2 => ?_, fun n h => ?_, fun a u h _ => ?_, fun a h => ?_, fun a u h => h, fun a u h => .inl h⟩
  · rw [List.length_append] at h2
    have e : n = m.length := by
      have : [o].length = 1 := rfl
      omega
    rw [e, ext_self]
    exact hp
  · rw [List.getElem?_append_left (WR.lt h)]
    exact h
  · rw [upd_ne (ne_of_none h hp)]
    exact h
  · by_cases e : a = p
    · rw [e]
      exact hp
    · rw [upd_ne e] at h
      exact h
theorem WR.add (w : WR K F H ι m) (hp : H p = none) {v : HO} {o : MO} (r : RO K F ι m.length o v) : WR K F (upd H p v) (ext ι m.length p) (m ++ [o]) := by
  have s := w.add_stp hp v o
  have ln : (m ++ [o]).length = m.length + 1 := by rw [List.length_append] <;> rfl
  refine ⟨fun a u h => ?_, fun n ys e ng => ?_, fun i j hi hj e => ?_, fun n hn => ?_⟩
  · have := w.sub a u h
    rw [upd_ne (ne_of_none this hp)]
    exact this
  · by_cases hn : n < m.length
    · rw [List.getElem?_append_left hn] at e
      obtain ⟨h1, ws, h2, h3⟩ := w.obj n ys e ng
      have ne := w.ne hp hn
      rw [ext_ne (by omega)]
      exact ⟨h1, ws, by rw [upd_ne ne]; exact h2, h3.up s⟩
    · have en : n = m.length := by
        have := WR.lt e
        omega
      subst en
      rw [List.getElem?_append_right (Nat.le_refl _), Nat.sub_self] at e
      cases e
      rw [ext_self]
      exact ⟨w.free hp, v, upd_same, r.up s⟩
  · rw [ln] at hi hj
    by_cases h1 : i = m.length
    · by_cases h2 : j = m.length
      · omega
      · rw [h1, ext_self, ext_ne h2] at e
        exact absurd e.symm (w.ne hp (by omega))
    · by_cases h2 : j = m.length
      · rw [h2, ext_self, ext_ne h1] at e
        exact absurd e (w.ne hp (by omega))
      · rw [ext_ne h1, ext_ne h2] at e
        exact w.inj i j (by omega) (by omega) e
  · rw [ln] at hn
    by_cases h1 : n = m.length
    · rw [h1, ext_self, upd_same]
      exact fun z => nomatch z
    · rw [ext_ne h1, upd_ne (w.ne hp (by omega))]
      exact w.al n (by omega)
theorem WR.mut_stp (w : WR K F H ι m) (hp : H p = none) (vs : List V) (xs : List SV) : Stp F H ι m F (upd H p (.lst vs)) (ext ι m.length p) (m ++ [.lst xs]) := w.add_stp hp _ _
theorem WR.mut (w : WR K F H ι m) (hp : H p = none) {vs : List V} {xs : List SV} (r : RVs K F ι m.length vs xs) : WR K F (upd H p (.lst vs)) (ext ι m.length p) (m ++ [.lst xs]) := w.add hp (o := .lst xs) (v := .lst vs) r
theorem WR.chg_stp (w : WR K F H ι m) {n : Nat} {o o' : MO} (e : m[n]? = some o) (ng : o ≠ .gone) (v : HO) : Stp F H ι m F (upd H (ι n) v) ι (m.set n o') := by
  have hn := WR.lt e
  refine ⟨by rw [List.length_set]; exact Nat.le_refl _, fun _ _ => rfl, fun k h1 h2 => absurd h1 (by rw [List.length_set] at h2; omega), fun k h => ?_, fun a u h l => ?_, fun a h => ?_, fun a u h => h, fun a u h => .inl h⟩
  · have : k ≠ n := fun z => by
      rw [z, e] at h
      exact ng (Option.some.inj h)
    rw [List.getElem?_set_ne (Ne.symm this)]
    exact h
  · have : a ≠ ι n := fun z => l ⟨n, o, e, ng, z.symm⟩
    rw [upd_ne this]
    exact h
  · by_cases z : a = ι n
    · rw [z, upd_same] at h
      cases h
    · rw [upd_ne z] at h
      exact h
theorem WR.chg (w : WR K F H ι m) {n : Nat} {o o' : MO} (e : m[n]? = some o) (ng : o ≠ .gone) {v : HO} (r : RO K F ι m.length o' v) : WR K F (upd H (ι n) v) ι (m.set n o') := by
  have hn := WR.lt e
  have s := w.chg_stp (o' := o') e ng v
  refine ⟨fun a u h => ?_, fun k zs ek ng' => ?_, fun i j hi hj => w.inj i j (by rw [List.length_set] at hi; exact hi) (by rw [List.length_set] at hj; exact hj), fun k hk => ?_⟩
  · have : a ≠ ι n := fun z => w.fin h ⟨n, o, e, ng, z.symm⟩
    rw [upd_ne this]
    exact w.sub a u h
  · by_cases z : k = n
    · subst z
      rw [List.getElem?_set_self hn] at ek
      cases ek
      exact ⟨(w.obj k o e ng).1, v, upd_same, r.up s⟩
    · rw [List.getElem?_set_ne (Ne.symm z)] at ek
      obtain ⟨h1, ws, h2, h3⟩ := w.obj k zs ek ng'
      have ne : ι k ≠ ι n := fun q => z (w.inj k n (WR.lt ek) hn q)
      exact ⟨h1, ws, by rw [upd_ne ne]; exact h2, h3.up s⟩
  · rw [List.length_set] at hk
    by_cases z : ι k = ι n
    · rw [z, upd_same]
      exact fun q => nomatch q
    · rw [upd_ne z]
      exact w.al k hk
theorem WR.put_stp (w : WR K F H ι m) {n : Nat} {xs ys : List SV} (e : m[n]? = some (.lst xs)) (vs : List V) : Stp F H ι m F (upd H (ι n) (.lst vs)) ι (m.set n (.lst ys)) := w.chg_stp e (fun q => nomatch q) _
theorem WR.put (w : WR K F H ι m) {n : Nat} {xs ys : List SV} (e : m[n]? = some (.lst xs)) {vs : List V} (r : RVs K F ι m.length vs ys) : WR K F (upd H (ι n) (.lst vs)) ι (m.set n (.lst ys)) := w.chg e (fun q => nomatch q) (o' := .lst ys) (v := .lst vs) r
theorem WR.stop_stp (w : WR K F H ι m) {n : Nat} {xs : List SV} (e : m[n]? = some (.lst xs)) (o : HO) : Stp F H ι m (upd F (ι n) o) H ι (m.set n .gone) := by
  have hn := WR.lt e
  refine ⟨by rw [List.length_set]; exact Nat.le_refl _, fun _ _ => rfl, fun k h1 h2 => absurd h1 (by rw [List.length_set] at h2; omega), fun k h => ?_, fun a u h l => h, fun a h => h, fun a u h => ?_, fun a u h => ?_⟩
  · by_cases z : k = n
    · subst z
      exact List.getElem?_set_self hn
    · rw [List.getElem?_set_ne (Ne.symm z)]
      exact h
  · have : a ≠ ι n := fun z => w.fin h ⟨n, _, e, (fun q => nomatch q), z.symm⟩
    rw [upd_ne this]
    exact h
  · by_cases z : a = ι n
    · exact .inr (.inr ⟨n, _, e, (fun q => nomatch q), z.symm⟩)
    · rw [upd_ne z] at h
      exact .inl h
theorem WR.stop (w : WR K F H ι m) {n : Nat} {xs : List SV} (e : m[n]? = some (.lst xs)) {vs : List V} (h : H (ι n) = some (.lst vs)) : WR K (upd F (ι n) (.lst vs)) H ι (m.set n .gone) := by
  have hn := WR.lt e
  have s := w.stop_stp e (.lst vs)
  refine ⟨fun a u q => ?_, fun k zs ek ng => ?_, fun i j hi hj => w.inj i j (by rw [List.length_set] at hi; exact hi) (by rw [List.length_set] at hj; exact hj), fun k hk => w.al k (by rw [List.length_set] at hk; exact hk)⟩
  · by_cases z : a = ι n
    · rw [z, upd_same] at q
      rw [z, h]
      exact q
    · rw [upd_ne z] at q
      exact w.sub a u q
  · by_cases z : k = n
    · subst z
      rw [List.getElem?_set_self hn] at ek
      exact absurd (Option.some.inj ek).symm ng
    · rw [List.getElem?_set_ne (Ne.symm z)] at ek
      obtain ⟨h1, ws, h2, h3⟩ := w.obj k zs ek ng
      have ne : ι k ≠ ι n := fun q => z (w.inj k n (WR.lt ek) hn q)
      exact ⟨by rw [upd_ne ne]; exact h1, ws, h2, h3.up s⟩
end

def datas : List SV → Option (List PyData)
  | [] => some []
  | .d x :: r => match datas r with
    | some xs => some (x :: xs)
    | none => none
  | .o _ :: _ => none
  | .k _ :: _ => none
theorem datas_rp {K : PySem.W.Frag} {F : Hp} {ι : Nat → Addr} {k : Nat} : ∀ {vs : List V} {xs : List SV} {ds : List PyData}, RVs K F ι k vs xs → datas xs = some ds → RpAll K F vs ds
  | _, _, _, .nil, e => by
    cases e
    exact .nil
  | _, .d x :: r, ds, .cons h t, e => by
    unfold datas at e
    cases q : datas r with
    | none =>
      rw [q] at e
      cases e
    | some xs =>
      rw [q] at e
      cases e
      exact .cons h (datas_rp t q)
  | _, .o n :: r, ds, .cons h t, e => by cases e
  | _, .k n :: r, ds, .cons h t, e => by cases e
theorem rvs_of {K : PySem.W.Frag} {F : Hp} {ι : Nat → Addr} {k : Nat} : ∀ {vs : List V} {ds : List PyData}, RpAll K F vs ds → RVs K F ι k vs (ds.map .d)
  | _, _, .nil => .nil
  | _, _, .cons h t => .cons h (rvs_of t)
@[simp] theorem datas_map (ds : List PyData) : datas (ds.map .d) = some ds := by
  induction ds with
  | nil => rfl
  | cons d r ih =>
    show (match datas (r.map .d) with | some xs => some (d :: xs) | none => none) = _
    rw [ih]

section
variable {X : Cx} {C : Cn}

def fVar (i : Nat) : EF := fun ρ m => match ρ[i]? with
  | some (some x) => .ok x m
  | _ => .bad
def fC (x : PyData) : EF := fun _ m => .ok (.d x) m
theorem at_intro {σ : L2.St} {H : Hp} {P : SE → Hp → (Nat → Addr) → MM → Prop} {ρ : SE} {F : Hp} {ι : Nat → Addr} {m : MM} (w : WR C.K F H ι m) (s : Slots C.K F ι m.length σ ρ) (p : P ρ F ι m) : At C σ H P := ⟨ρ, F, ι, m, w, s, p⟩
theorem de_var {i : Nat} {e : Expr} (h : PE X e (tVar i)) : PE X e (tS C (fVar i)) := peI h fun σ H Q ⟨ρ, F, ι, m, w, s, o⟩ => by
  dsimp only at o
  unfold fVar at o
  split at o
  · rename_i x hx
    obtain ⟨v, e1, r⟩ := s.2 i x hx
    exact ⟨v, e1, o.ok w r⟩
  · exact o.not_bad.elim
def Lit (K : PySem.W.Frag) (v : V) (x : PyData) : Prop := ∀ F : Hp, Rp K F v x
theorem de_c {v : V} {x : PyData} {e : Expr} (h : PE X e (tC v)) (l : Lit C.K v x) : PE X e (tS C (fC x)) := peI h fun σ H Q ⟨ρ, F, ι, m, w, s, o⟩ => o.ok w (l F)
theorem lit_int {K : PySem.W.Frag} {i : Int} : Lit K (.int i) (.int i) := fun _ => .int i
theorem lit_bl {K : PySem.W.Frag} {i : Bool} : Lit K (.bl i) (.bool i) := fun _ => .bl i
theorem lit_non {K : PySem.W.Frag} : Lit K .non .none := fun _ => .non
theorem lit_str {K : PySem.W.Frag} {i : Str} : Lit K (.str i) (.str i) := fun _ => .str i
theorem de_int {i j pos} : PE X (.Constant (.int i) j pos) (tS C (fC (.int i))) := de_c pe_int lit_int
theorem de_bl {i j pos} : PE X (.Constant (.bool i) j pos) (tS C (fC (.bool i))) := de_c pe_bl lit_bl
theorem de_non {j pos} : PE X (.Constant .none j pos) (tS C (fC .none)) := de_c pe_non lit_non
theorem de_str {i j pos} : PE X (.Constant (.str i) j pos) (tS C (fC (.str i))) := de_c pe_str lit_str
theorem lit_tup {K : PySem.W.Frag} {a : Addr} {o : Obj} {its : Array Value} {n : Nat} {vs : List V} {ds : List PyData} (k : K.lookup a = some o) (c : o.cls = .type "tuple") (nd : o.dict = none) (d : o.data = .seq its n) (z : its.size ≤ sizeLine) (r : Vals vs its.toList)
    (l : ∀ F : Hp, RpAll K F vs ds) : Lit K (.ref a) (.tuple ds) := fun F => .tup (.inr ⟨o, its, n, k, c, nd, d, z, r⟩) (l F)

abbrev OF := SV → SV → MM → R SV
def fBin (op : OF) (f g : EF) : EF := fun ρ m => (f ρ m).bind fun x m1 => (g ρ m1).bind fun y m2 => op x y m2
def OpD (C : Cn) (r : R2) (op : OF) : Prop := ∀ (σ : L2.St) (F H : Hp) (ι : Nat → Addr) (m : MM) (x y : SV) (v u : V) (Q : VK), WR C.K F H ι m → RV C.K F ι m.length v x → RV C.K F ι m.length u y → Out C σ F H ι m (relV C.K) (op x y m) Q → r v u H Q
theorem bin_i {r : R2} {op : OF} {f g : EF} (h : OpD C r op) (σ : L2.St) (H : Hp) (Q : VK) (q : tS C (fBin op f g) σ H Q) : tOp r (tS C f) (tS C g) σ H Q := by
  obtain ⟨ρ, F, ι, m, w, s, o⟩ := q
  refine at_intro w s (o.bind fun x m1 v F1 H1 ι1 _ st w1 rv o1 => ?_)
  refine at_intro w1 (s.up st) (o1.bind fun y m2 u F2 H2 ι2 _ st2 w2 ru o2 => ?_)
  exact h σ F2 H2 ι2 m2 x y v u Q w2 (rv.up st2) ru o2
theorem de_bin {a b : Expr} {o : Operator} {r : R2} {op : OF} {f g : EF} {pos : Pos} (ho : OpR X (binaryOp o) r) (h : OpD C r op) (ha : PE X a (tS C f)) (hb : PE X b (tS C g)) : PE X (.BinOp a o b pos) (tS C (fBin op f g)) :=
  peI (pe_op ho ha hb) fun σ H Q q => bin_i h σ H Q q
def iiI (c : Int → Int → Bool) (g : Int → Int → Int) : OF := fun x y m => match x, y with
  | .d (.int i), .d (.int j) => if c i j then .ok (.d (.int (g i j))) m else .bad
  | _, _ => .bad
def iiB (g : Int → Int → Bool) : OF := fun x y m => match x, y with
  | .d (.int i), .d (.int j) => .ok (.d (.bool (g i j))) m
  | _, _ => .bad
theorem rv_int {K : PySem.W.Frag} {F : Hp} {ι : Nat → Addr} {k : Nat} {v : V} {i : Int} (h : RV K F ι k v (.d (.int i))) : v = .int i := by
  have h' : Rp K F v (.int i) := h
  cases h'
  rfl
theorem rv_bl {K : PySem.W.Frag} {F : Hp} {ι : Nat → Addr} {k : Nat} {v : V} {i : Bool} (h : RV K F ι k v (.d (.bool i))) : v = .bl i := by
  have h' : Rp K F v (.bool i) := h
  cases h'
  rfl
theorem rv_non {K : PySem.W.Frag} {F : Hp} {ι : Nat → Addr} {k : Nat} {v : V} (h : RV K F ι k v (.d .none)) : v = .non := by
  have h' : Rp K F v .none := h
  cases h'
  rfl
theorem rv_str {K : PySem.W.Frag} {F : Hp} {ι : Nat → Addr} {k : Nat} {v : V} {i : Str} (h : RV K F ι k v (.d (.str i))) : v = .str i := by
  have h' : Rp K F v (.str i) := h
  cases h'
  rfl
theorem rv_lst {K : PySem.W.Frag} {F : Hp} {ι : Nat → Addr} {k : Nat} {v : V} {ds : List PyData} (h : RV K F ι k v (.d (.list ds))) : ∃ a vs, v = .ref a ∧ Rd F a (.lst vs) ∧ RpAll K F vs ds := by
  have h' : Rp K F v (.list ds) := h
  cases h' with
  | lst h1 h2 => exact ⟨_, _, rfl, h1, h2⟩
theorem rv_tup {K : PySem.W.Frag} {F : Hp} {ι : Nat → Addr} {k : Nat} {v : V} {ds : List PyData} (h : RV K F ι k v (.d (.tuple ds))) : ∃ a vs, v = .ref a ∧ SqN K F a vs ∧ RpAll K F vs ds := by
  have h' : Rp K F v (.tuple ds) := h
  cases h' with
  | tup h1 h2 => exact ⟨_, _, rfl, h1, h2⟩
theorem opd_iiI {c : Int → Int → Bool} {P : Int → Int → Prop} {g : Int → Int → Int} (hc : ∀ i j, c i j = true → P i j) : OpD C (rI P fun i j => .int (g i j)) (iiI c g) := by
  intro σ F H ι m x y v u Q w rv ru o
  unfold iiI at o
  split at o
  · rename_i i j
    split at o
    · rename_i hij
      exact ⟨i, j, rv_int rv, rv_int ru, hc i j hij, o.ok w (Rp.int _)⟩
    · exact o.not_bad.elim
  · exact o.not_bad.elim
theorem opd_iiI0 {g : Int → Int → Int} : OpD C (rI0 fun i j => .int (g i j)) (iiI (fun _ _ => true) g) := by
  intro σ F H ι m x y v u Q w rv ru o
  unfold iiI at o
  split at o
  · rename_i i j
    rw [if_pos rfl] at o
    exact ⟨i, j, rv_int rv, rv_int ru, o.ok w (Rp.int _)⟩
  · exact o.not_bad.elim
theorem opd_iiB {g : Int → Int → Bool} : OpD C (rI0 fun i j => .bl (g i j)) (iiB g) := by
  intro σ F H ι m x y v u Q w rv ru o
  unfold iiB at o
  split at o
  · rename_i i j
    exact ⟨i, j, rv_int rv, rv_int ru, o.ok w (Rp.bl _)⟩
  · exact o.not_bad.elim
def okMul (i j : Int) : Bool := decide (i.natAbs.log2 + j.natAbs.log2 < 1000000)
def okDiv (_ j : Int) : Bool := decide (j ≠ 0) && decide (j.natAbs.log2 < 9000)
def okMod (_ j : Int) : Bool := decide (j ≠ 0)
def okPow (i j : Int) : Bool := decide (0 ≤ j) && decide (j ≤ 1000000) && decide (i.natAbs < 2 ^ 64)
def oSub : OF := iiI (fun _ _ => true) fun i j => i - j
def oDiv : OF := iiI okDiv fun i j => i.fdiv j
def oMod : OF := iiI okMod fun i j => i.fmod j
def oPow : OF := iiI okPow fun i j => i ^ j.toNat
def CDivG (i j : Int) : Prop := j ≠ 0 ∧ j.natAbs.log2 < 9000
theorem op_fdivG : OpR X (binaryOp .FloorDiv) (rI CDivG fun i j => .int (i.fdiv j)) := opI fun i j _ _ _ _ _ hc q => floordiv_int hc.1 q (.inl (PyProof.noPylong_of_log2 hc.2))
variable {a b : Expr} {f g : EF} {pos : Pos}
theorem de_sub (ha : PE X a (tS C f)) (hb : PE X b (tS C g)) : PE X (.BinOp a .Sub b pos) (tS C (fBin oSub f g)) := de_bin op_sub opd_iiI0 ha hb
theorem de_div (ha : PE X a (tS C f)) (hb : PE X b (tS C g)) : PE X (.BinOp a .FloorDiv b pos) (tS C (fBin oDiv f g)) := de_bin op_fdivG (opd_iiI fun i j h => by
  unfold okDiv at h
  rw [Bool.and_eq_true] at h
  exact ⟨of_decide_eq_true h.1, of_decide_eq_true h.2⟩) ha hb
theorem de_mod (ha : PE X a (tS C f)) (hb : PE X b (tS C g)) : PE X (.BinOp a .Mod b pos) (tS C (fBin oMod f g)) := de_bin op_modN (opd_iiI fun i j h => of_decide_eq_true h) ha hb
theorem de_pow (ha : PE X a (tS C f)) (hb : PE X b (tS C g)) : PE X (.BinOp a .Pow b pos) (tS C (fBin oPow f g)) := de_bin op_pow (opd_iiI fun i j h => by
  unfold okPow at h
  rw [Bool.and_eq_true, Bool.and_eq_true] at h
  exact ⟨of_decide_eq_true h.1.1, of_decide_eq_true h.1.2, of_decide_eq_true h.2⟩) ha hb

def fUn (op : SV → MM → R SV) (f : EF) : EF := fun ρ m => (f ρ m).bind op
def oNeg : SV → MM → R SV := fun x m => match x with
  | .d (.int i) => .ok (.d (.int (-i))) m
  | _ => .bad
theorem de_neg (ha : PE X a (tS C f)) : PE X (.UnaryOp .USub a pos) (tS C (fUn oNeg f)) := peI (pe_un un_neg ha) fun σ H Q ⟨ρ, F, ι, m, w, s, o⟩ => by
  refine at_intro w s (Out.bind (rel' := relV C.K) (g := oNeg) o fun x m1 v F1 H1 ι1 _ st w1 rv o1 => ?_)
  unfold oNeg at o1
  split at o1
  · exact ⟨_, rv_int rv, o1.ok w1 (Rp.int _)⟩
  · exact o1.not_bad.elim

def oLt : OF := iiB fun i j => decide (i < j)
def oLe : OF := iiB fun i j => decide (i ≤ j)
def oGt : OF := iiB fun i j => decide (j < i)
def oGe : OF := iiB fun i j => decide (j ≤ i)
def oEq : OF := fun x y m => match x, y with
  | .d a, .d b => if SeqAt.shaped a && SeqAt.shaped b then .ok (.d (.bool (PyData.eqv a b))) m else .bad
  | _, _ => .bad
def oNe : OF := fun x y m => match x, y with
  | .d a, .d b => if SeqAt.shaped a && SeqAt.shaped b then .ok (.d (.bool (!PyData.eqv a b))) m else .bad
  | _, _ => .bad
def oIsN : OF := fun x y m => match x, y with
  | .d .none, .d .none => .ok (.d (.bool true)) m
  | _, .d .none => .ok (.d (.bool false)) m
  | _, _ => .bad
def oNotN : OF := fun x y m => match x, y with
  | .d .none, .d .none => .ok (.d (.bool false)) m
  | _, .d .none => .ok (.d (.bool true)) m
  | _, _ => .bad
theorem opd_eq : OpD C (rEqD C.K) oEq := by
  intro σ F H ι m x y v u Q w rv ru o
  unfold oEq at o
  split at o
  · rename_i a b
    split at o
    · rename_i h
      rw [Bool.and_eq_true] at h
      exact ⟨a, b, dp_in w rv, dp_in w ru, h.1, h.2, o.ok w (Rp.bl _)⟩
    · exact o.not_bad.elim
  · exact o.not_bad.elim
theorem opd_ne : OpD C (rNeD C.K) oNe := by
  intro σ F H ι m x y v u Q w rv ru o
  unfold oNe at o
  split at o
  · rename_i a b
    split at o
    · rename_i h
      rw [Bool.and_eq_true] at h
      exact ⟨a, b, dp_in w rv, dp_in w ru, h.1, h.2, o.ok w (Rp.bl _)⟩
    · exact o.not_bad.elim
  · exact o.not_bad.elim
theorem non_dec {K : PySem.W.Frag} {F : Hp} {ι : Nat → Addr} {k : Nat} {v : V} {x : SV} (h : RV K F ι k v x) (hx : x ≠ .d .none) : v ≠ .non := by
  cases x with
  | d x =>
    have h' : Rp K F v x := h
    cases h' with
    | non => exact absurd rfl hx
    | _ => exact fun z => nomatch z
  | o n =>
    rw [h.2]
    exact fun z => nomatch z
  | k ds =>
    obtain ⟨a, vs, e, _⟩ := h
    rw [e]
    exact fun z => nomatch z
theorem opd_isN : OpD C (fun x y H Q => y = .non ∧ Q (.bl (decide (x = .non))) H) oIsN := by
  intro σ F H ι m x y v u Q w rv ru o
  unfold oIsN at o
  split at o
  · refine ⟨rv_non ru, ?_⟩
    rw [rv_non rv]
    exact o.ok w (Rp.bl _)
  · rename_i hx
    refine ⟨rv_non ru, ?_⟩
    rw [decide_eq_false (non_dec rv fun z => hx z)]
    exact o.ok w (Rp.bl _)
  · exact o.not_bad.elim
theorem opd_notN : OpD C (fun x y H Q => y = .non ∧ Q (.bl (!decide (x = .non))) H) oNotN := by
  intro σ F H ι m x y v u Q w rv ru o
  unfold oNotN at o
  split at o
  · refine ⟨rv_non ru, ?_⟩
    rw [rv_non rv]
    exact o.ok w (Rp.bl _)
  · rename_i hx
    refine ⟨rv_non ru, ?_⟩
    rw [decide_eq_false (non_dec rv fun z => hx z)]
    exact o.ok w (Rp.bl _)
  · exact o.not_bad.elim
structure CmpD (X : Cx) (C : Cn) (c : CmpOp) (op : OF) : Prop where
  ex : ∃ r : R2, OpR X (compareOp c) r ∧ OpD C r op
theorem cmp_lt : CmpD X C .Lt oLt := ⟨_, op_lt, opd_iiB⟩
theorem cmp_le : CmpD X C .LtE oLe := ⟨_, op_le, opd_iiB⟩
theorem cmp_gt : CmpD X C .Gt oGt := ⟨_, op_gt, opd_iiB⟩
theorem cmp_ge : CmpD X C .GtE oGe := ⟨_, op_ge, opd_iiB⟩
theorem cmp_eq (hk : X.K = C.K) (hu : X.A.units + 65 < cLine) : CmpD X C .Eq oEq := ⟨_, op_eqD (by omega), by rw [hk]; exact opd_eq⟩
theorem cmp_ne (hk : X.K = C.K) (hu : X.A.units + 65 < cLine) : CmpD X C .NotEq oNe := ⟨_, op_neD (by omega), by rw [hk]; exact opd_ne⟩
theorem cmp_isN : CmpD X C .Is oIsN := ⟨_, op_isN, opd_isN⟩
theorem cmp_notN : CmpD X C .IsNot oNotN := ⟨_, op_notN, opd_notN⟩
theorem de_cmp {c : CmpOp} {op : OF} (h : CmpD X C c op) (ha : PE X a (tS C f)) (hb : PE X b (tS C g)) (hm : behindInMarks c b = false) : PE X (.Compare a [c] [b] pos) (tS C (fBin op f g)) := by
  obtain ⟨r, h1, h2⟩ := h
  exact peI (pe_cmpR h1 ha hb hm) fun σ H Q q => bin_i h2 σ H Q q
def asB : SV → MM → R Bool := fun x m => match x with
  | .d (.bool b) => .ok b m
  | _ => .bad
def fTest (f : EF) : TF := fun ρ m => (f ρ m).bind asB
theorem test_i (σ : L2.St) (H : Hp) (Q : Bool → Hp → Prop) {t : TE} {f : EF} (ht : ∀ (Q : VK), tS C f σ H Q → t σ H Q) (q : tT C (fTest f) σ H Q) : tTest t σ H Q := by
  obtain ⟨ρ, F, ι, m, w, s, o⟩ := q
  refine ht _ (at_intro w s (Out.bind (rel' := relB) (g := asB) o fun x m1 v F1 H1 ι1 _ st w1 rv o1 => ?_))
  unfold asB at o1
  split at o1
  · exact ⟨_, rv_bl rv, o1.ok w1 rfl⟩
  · exact o1.not_bad.elim
theorem dt_cmp {c : CmpOp} {op : OF} (h : CmpD X C c op) (ha : PE X a (tS C f)) (hb : PE X b (tS C g)) (hm : behindInMarks c b = false) : PT X (.Compare a [c] [b] pos) (tT C (fTest (fBin op f g))) := by
  obtain ⟨r, h1, h2⟩ := h
  exact ptI (pt_cmpR h1 ha hb hm) fun σ H Q q => test_i σ H Q (fun Q q => bin_i h2 σ H Q q) q
def fChain (op op' : OF) (f g h : EF) : EF := fun ρ m => (f ρ m).bind fun x m1 => (g ρ m1).bind fun y m2 => (op x y m2).bind fun z m3 => match z with
  | .d (.bool true) => (h ρ m3).bind fun w m4 => op' y w m4
  | .d (.bool false) => .ok (.d (.bool false)) m3
  | _ => .bad
theorem chain_i {r r' : R2} {op op' : OF} {h : EF} (h1 : OpD C r op) (h2 : OpD C r' op') (σ : L2.St) (H : Hp) (Q : VK) (q : tS C (fChain op op' f g h) σ H Q) : tChain r r' (tS C f) (tS C g) (tS C h) σ H Q := by
  obtain ⟨ρ, F, ι, m, w, s, o⟩ := q
  refine at_intro w s (o.bind fun x m1 v F1 H1 ι1 _ st w1 rv o1 => ?_)
  refine at_intro w1 (s.up st) (o1.bind fun y m2 u F2 H2 ι2 _ st2 w2 ru o2 => ?_)
  refine h1 σ F2 H2 ι2 m2 x y v u _ w2 (rv.up st2) ru (o2.bind fun z m3 zv F3 H3 ι3 _ st3 w3 rz o3 => ?_)
  split at o3
  · refine ⟨true, rv_bl rz, ?_⟩
    rw [if_pos rfl]
    refine at_intro w3 (((s.up st).up st2).up st3) (o3.bind fun w' m4 wv F4 H4 ι4 _ st4 w4 rw' o4 => ?_)
    exact h2 σ F4 H4 ι4 m4 y w' u wv Q w4 ((ru.up st3).up st4) rw' o4
  · refine ⟨false, rv_bl rz, ?_⟩
    rw [if_neg Bool.false_ne_true]
    exact o3.ok w3 (Rp.bl _)
  · exact o3.not_bad.elim
theorem dt_chain {c : Expr} {o o' : CmpOp} {op op' : OF} {h : EF} (h1 : CmpD X C o op) (h2 : CmpD X C o' op') (ha : PE X a (tS C f)) (hb : PE X b (tS C g)) (hc : PE X c (tS C h)) (hm : lastMarks [o, o'] [b, c] = false) : PT X (.Compare a [o, o'] [b, c] pos) (tT C (fTest (fChain op op' f g h))) := by
  obtain ⟨r, r1, d1⟩ := h1
  obtain ⟨r', r2, d2⟩ := h2
  exact ptI (pt_chain r1 r2 ha hb hc hm) fun σ H Q q => test_i σ H Q (fun Q q => chain_i d1 d2 σ H Q q) q

def tru : SV → MM → R Bool := fun x m => match x with
  | .d .none => .ok false m
  | .d (.bool b) => .ok b m
  | .d (.int i) => .ok (i != 0) m
  | .d (.str y) => if y.length ≤ sizeLine then .ok ((y.length : Int) != 0) m else .bad
  | .d (.list xs) => .ok (!xs.isEmpty) m
  | .d (.tuple xs) => .ok (!xs.isEmpty) m
  | .o n => match m[n]? with
    | some (.lst xs) => .ok (!xs.isEmpty) m
    | _ => .bad
  | _ => .bad
def fTru (f : EF) : TF := fun ρ m => (f ρ m).bind tru
theorem emp_len {α β : Type} {xs : List α} {ys : List β} (h : xs.length = ys.length) : xs.isEmpty = ys.isEmpty := by
  cases xs <;> cases ys <;> first | rfl | cases h
theorem dt_tru {e : Expr} (hk : X.K = C.K) (h : PE X e (tS C f)) (he : ∀ whole, isTrue e X.env whole = (do let v ← whole; standAt e.pos; holding [v] (truthy v))) : PT X e (tT C (fTru f)) := ptI (pt_truth h he) fun σ H Q ⟨ρ, F, ι, m, w, s, o⟩ => by
  refine at_intro w s (Out.bind (rel' := relB) (g := tru) o fun x m1 v F1 H1 ι1 _ st w1 rv o1 => ?_)
  rw [hk]
  unfold tru at o1
  split at o1
  · rw [rv_non rv]
    exact ⟨_, rfl, o1.ok w1 rfl⟩
  · rw [rv_bl rv]
    exact ⟨_, rfl, o1.ok w1 rfl⟩
  · rw [rv_int rv]
    exact ⟨_, rfl, o1.ok w1 rfl⟩
  · rw [rv_str rv]
    split at o1
    · rename_i hz
      exact ⟨_, ⟨hz, rfl⟩, o1.ok w1 rfl⟩
    · exact o1.not_bad.elim
  · obtain ⟨a, vs, rfl, h1, h2⟩ := rv_lst rv
    refine ⟨_, Or.inl ⟨vs, .inl (rd_in w1 h1), rfl⟩, ?_⟩
    rw [emp_len h2.length]
    exact o1.ok w1 rfl
  · obtain ⟨a, vs, rfl, h1, h2⟩ := rv_tup rv
    refine ⟨_, Or.inr (Or.inl ⟨vs, (sqN_in w1 h1).t, rfl⟩), ?_⟩
    rw [emp_len h2.length]
    exact o1.ok w1 rfl
  · split at o1
    · rename_i xs hn
      obtain ⟨_, vs, h2, h3⟩ := w1.lst _ xs hn
      rw [rv.2]
      refine ⟨_, Or.inl ⟨vs, SqL.of h2, rfl⟩, ?_⟩
      rw [emp_len (Paired.length h3)]
      exact o1.ok w1 rfl
    · exact o1.not_bad.elim
  · exact o1.not_bad.elim
variable {t u : TF} {rest : List Expr}
def fAnd (t u : TF) : TF := fun ρ m => (t ρ m).bind fun b m1 => if b then u ρ m1 else .ok false m1
def fOr (t u : TF) : TF := fun ρ m => (t ρ m).bind fun b m1 => if b then .ok true m1 else u ρ m1
def fNot (t : TF) : TF := fun ρ m => (t ρ m).bind fun b m1 => .ok (!b) m1
theorem pwI {e : Expr} {t t' : TT} (h : PW X e t) (i : ∀ σ H Q, t' σ H Q → t σ H Q) : PW X e t' := ⟨fun wh pins s σ H Q I w => h.run wh pins s σ H Q I (i σ H Q w)⟩
theorem dw_and1 (ha : PT X a (tT C t)) : PW X (.BoolOp .And [a] pos) (tT C t) := pw_and1 ha
theorem dw_or1 (ha : PT X a (tT C t)) : PW X (.BoolOp .Or [a] pos) (tT C t) := pw_or1 ha
theorem dw_and (ha : PT X a (tT C t)) (hb : PW X (.BoolOp .And (b :: rest) pos) (tT C u)) : PW X (.BoolOp .And (a :: b :: rest) pos) (tT C (fAnd t u)) := pwI (pw_and ha hb) fun σ H Q ⟨ρ, F, ι, m, w, s, o⟩ => by
  dsimp only at o
  unfold fAnd at o
  refine at_intro w s (Out.bind o fun x m1 v F1 H1 ι1 _ st w1 rv o1 => ?_)
  have rv' : v = x := rv
  subst rv'
  cases v with
  | true =>
    rw [if_pos rfl] at o1 ⊢
    exact at_intro w1 (s.up st) o1
  | false =>
    rw [if_neg Bool.false_ne_true] at o1 ⊢
    exact o1.ok w1 rfl
theorem dw_or (ha : PT X a (tT C t)) (hb : PW X (.BoolOp .Or (b :: rest) pos) (tT C u)) : PW X (.BoolOp .Or (a :: b :: rest) pos) (tT C (fOr t u)) := pwI (pw_or ha hb) fun σ H Q ⟨ρ, F, ι, m, w, s, o⟩ => by
  dsimp only at o
  unfold fOr at o
  refine at_intro w s (Out.bind o fun x m1 v F1 H1 ι1 _ st w1 rv o1 => ?_)
  have rv' : v = x := rv
  subst rv'
  cases v with
  | true =>
    rw [if_pos rfl] at o1 ⊢
    exact o1.ok w1 rfl
  | false =>
    rw [if_neg Bool.false_ne_true] at o1 ⊢
    exact at_intro w1 (s.up st) o1
theorem dt_w {e : Expr} (h : PW X e (tT C t)) : PT X e (tT C t) := h.pt
theorem dt_not (ha : PT X a (tT C t)) : PT X (.UnaryOp .Not a pos) (tT C (fNot t)) := ptI (pt_not ha) fun σ H Q ⟨ρ, F, ι, m, w, s, o⟩ => by
  refine at_intro w s (Out.bind (rel' := relB) (g := fun b m1 => .ok (!b) m1) o fun x m1 v F1 H1 ι1 _ st w1 rv o1 => ?_)
  have rv' : v = x := rv
  subst rv'
  exact o1.ok w1 rfl
def fAndV (f g : EF) : EF := fun ρ m => (f ρ m).bind fun x m1 => match x with
  | .d (.bool true) => g ρ m1
  | .d (.bool false) => .ok (.d (.bool false)) m1
  | _ => .bad
def fOrV (f g : EF) : EF := fun ρ m => (f ρ m).bind fun x m1 => match x with
  | .d (.bool true) => .ok (.d (.bool true)) m1
  | .d (.bool false) => g ρ m1
  | _ => .bad
def oNotV : SV → MM → R SV := fun x m => match x with
  | .d (.bool b) => .ok (.d (.bool (!b))) m
  | _ => .bad
theorem de_andV (ha : PE X a (tS C f)) (hb : PE X (.BoolOp .And (b :: rest) pos) (tS C g)) : PE X (.BoolOp .And (a :: b :: rest) pos) (tS C (fAndV f g)) := peI (pe_and ha hb) fun σ H Q ⟨ρ, F, ι, m, w, s, o⟩ => by
  refine at_intro w s (o.bind fun x m1 v F1 H1 ι1 _ st w1 rv o1 => ?_)
  split at o1
  · exact ⟨true, rv_bl rv, by rw [if_pos rfl]; exact at_intro w1 (s.up st) o1⟩
  · exact ⟨false, rv_bl rv, by rw [if_neg Bool.false_ne_true]; exact o1.ok w1 (Rp.bl _)⟩
  · exact o1.not_bad.elim
theorem de_one {op} (h : PE X a (tS C f)) : PE X (.BoolOp op [a] pos) (tS C f) := pe_one h
theorem de_notV (ha : PE X a (tS C f)) : PE X (.UnaryOp .Not a pos) (tS C (fUn oNotV f)) := peI (pe_not ha) fun σ H Q ⟨ρ, F, ι, m, w, s, o⟩ => by
  refine at_intro w s (Out.bind (rel' := relV C.K) (g := oNotV) o fun x m1 v F1 H1 ι1 _ st w1 rv o1 => ?_)
  unfold oNotV at o1
  split at o1
  · exact ⟨_, rv_bl rv, o1.ok w1 (Rp.bl _)⟩
  · exact o1.not_bad.elim
def fIf (t : TF) (f g : EF) : EF := fun ρ m => (t ρ m).bind fun b m1 => if b then f ρ m1 else g ρ m1
theorem de_if {c : Expr} (hc : PT X c (tT C t)) (ha : PE X a (tS C f)) (hb : PE X b (tS C g)) : PE X (.IfExp c a b pos) (tS C (fIf t f g)) := peI (pe_ifExp hc ha hb) fun σ H Q ⟨ρ, F, ι, m, w, s, o⟩ => by
  refine at_intro w s (o.bind fun x m1 v F1 H1 ι1 _ st w1 rv o1 => ?_)
  have rv' : v = x := rv
  subst rv'
  cases v with
  | true =>
    rw [if_pos rfl] at o1 ⊢
    exact at_intro w1 (s.up st) o1
  | false =>
    rw [if_neg Bool.false_ne_true] at o1 ⊢
    exact at_intro w1 (s.up st) o1
end
end WK

set_option Elab.async false
set_option linter.all false
set_option maxRecDepth 100000
set_option autoImplicit false
set_option maxHeartbeats 2000000
namespace WK
open PySem PySem.Spec PyProof.Rows L2

def cap : Nat := 10000
theorem cap_ok {n : Nat} (h : n ≤ cap) : n ≤ sizeLine := Nat.le_trans h (by decide)
theorem cap_lt {n : Nat} (h : n < cap) : n < sizeLine := Nat.lt_of_lt_of_le h (by decide)

def itemsOf : SV → MM → R (List SV) := fun x m => match x with
  | .d (.list ds) => .ok (ds.map .d) m
  | .d (.tuple ds) => .ok (ds.map .d) m
  | .k ds => .ok (ds.map .d) m
  | .o n => match m[n]? with
    | some (.lst xs) => .ok xs m
    | _ => .bad
  | _ => .bad
theorem items_sq {K : PySem.W.Frag} {F H : Hp} {ι : Nat → Addr} {m m' : MM} {v : V} {x : SV} {xs : List SV} (w : WR K F H ι m) (r : RV K F ι m.length v x) (e : itemsOf x m = .ok xs m') :
    m' = m ∧ ∃ a vs, v = .ref a ∧ (SqL K H a vs ∨ SqT K H a vs) ∧ RVs K F ι m.length vs xs := by
  unfold itemsOf at e
  split at e
  · cases e
    obtain ⟨a, vs, rfl, h1, h2⟩ := rv_lst r
    exact ⟨rfl, a, vs, rfl, .inl (.inl (rd_in w h1)), rvs_of h2⟩
  · cases e
    obtain ⟨a, vs, rfl, h1, h2⟩ := rv_tup r
    exact ⟨rfl, a, vs, rfl, .inr (sqN_in w h1).t, rvs_of h2⟩
  · cases e
    obtain ⟨a, vs, rfl, h1, h2⟩ := r
    exact ⟨rfl, a, vs, rfl, .inl (sqL_in w h1), rvs_of h2⟩
  · split at e
    · rename_i ys hn
      cases e
      obtain ⟨_, vs, h2, h3⟩ := w.lst _ _ hn
      exact ⟨rfl, _, vs, r.2, .inl (SqL.of h2), h3⟩
    · cases e
  · cases e

def NTup (H : Hp) (xs : List V) (Q : VK) : Prop := ∀ (p : Addr) (o : Obj), H p = none → o.dict = none → Q (.ref p) (upd H p (.frz o (.tup xs)))
section
variable {X : Cx} {es : List Expr} {pos : Pos} {t : TA} {pins : List (Addr × Obj)} {σ : L2.St} {H : Hp} {s : Shared}
theorem Inv.ntup {us : List Value} {xs : List V} {tk : Nat} {Q : VK} (I : Inv X pins σ H s) (r : Vals xs us) (z : xs.length ≤ sizeLine) (q : NTup H xs Q) :
    EP X pins σ Q (.ref s.heap.objs.size) { s with heap := s.heap.push { cls := .type "tuple", data := .seq us.toArray }, toks := tk } := by
  have e := Heap.get?_push_size s.heap (o := { cls := .type "tuple", data := .seq us.toArray }) rfl
  refine ⟨.ref s.heap.objs.size, _, I.laid (t' := tk) (o := .frz { cls := .type "tuple", data := .seq us.toArray } (.tup xs)) (fun b u e => Heap.get?_push_of_some _ e) (Nat.le_refl _) ?_, rfl, q _ _ (I.hok.fresh (Nat.le_refl _)) rfl⟩
  exact ⟨e, z, us, r, ⟨_, e, rfl, _, rfl⟩⟩
theorem pe_tupN {x1} (h : PA X es t) : PE X (.Tuple es x1 pos) (fun σ H Q => t σ H fun xs H1 => xs.length ≤ sizeLine ∧ NTup H1 xs Q) := by
  constructor
  intro pins s σ H Q I hq
  exact wpAny_Tuple_spliced (thn (h.run pos pins s σ H _ I hq) fun us s1 ⟨xs, H1, I1, r, z, q⟩ => ⟨by rw [← r.length]; exact z, Inv.ntup (tk := s1.toks) I1 r z q⟩)
theorem call_tupleN : CallR X (.type "tuple") (fun xs H Q => ∃ p ys, xs = [.ref p] ∧ ((SqL X.K H p ys ∧ NTup H ys Q) ∨ (SqT X.K H p ys ∧ Q (.ref p) H))) := by
  intro pins s σ H xs us Q I r h
  obtain ⟨p, ys, rfl, h⟩ := h
  obtain ⟨u, rfl, rx⟩ := vals1 r
  cases rx
  rcases h with ⟨hq, q⟩ | ⟨hq, q⟩
  · obtain ⟨its, r', pl, hz⟩ := I.list hq
    have hlen := r'.length
    refine call_tuple_list pl.isList (fun h' kp => ?_) (by rw [List.size_toArray]; omega)
    exact Inv.ntup (tk := s.toks) (s := { s with heap := h' }) (I.kept (t' := s.toks) kp) r' hz q
  · obtain ⟨its, r', pl, _⟩ := I.tuple hq
    exact call_tuple_same pl ⟨.ref p, H, I, rfl, q⟩
end
section
variable {X : Cx} {C : Cn} {f g : EF} {fa ga : AF} {e : Expr} {es : List Expr} {pos : Pos}

def aNil : AF := fun _ m => .ok [] m
def aCons (f : EF) (g : AF) : AF := fun ρ m => (f ρ m).bind fun x m1 => (g ρ m1).bind fun xs m2 => .ok (x :: xs) m2
def aStar (f : EF) (g : AF) : AF := fun ρ m => (f ρ m).bind fun x m1 => (itemsOf x m1).bind fun xs m2 => (g ρ m2).bind fun ys m3 => .ok (xs ++ ys) m3
theorem da_nil : PA X [] (tA C aNil) := paI pa_nil fun σ H Q q => by
  obtain ⟨ρ, F, ι, m, w, s, o⟩ := q
  exact o.ok w .nil
theorem da_cons (ha : PE X e (tS C f)) (hr : PA X es (tA C ga)) (hs : starEach (e :: es) X.env = (false, eval e X.env) :: starEach es X.env) : PA X (e :: es) (tA C (aCons f ga)) := paI (pa_cons ha hr hs) fun σ H Q q => by
  obtain ⟨ρ, F, ι, m, w, s, o⟩ := q
  refine at_intro w s (o.bind fun x m1 v F1 H1 ι1 _ st w1 rv o1 => ?_)
  refine at_intro w1 (s.up st) (o1.bind fun xs m2 vs F2 H2 ι2 _ st2 w2 rvs o2 => ?_)
  exact o2.ok w2 (.cons (rv.up st2) rvs)
theorem RVs.append {K : PySem.W.Frag} {F : Hp} {ι : Nat → Addr} {k : Nat} : ∀ {vs ws : List V} {xs ys : List SV}, RVs K F ι k vs xs → RVs K F ι k ws ys → RVs K F ι k (vs ++ ws) (xs ++ ys)
  | _, _, _, _, .nil, s => s
  | _, _, _, _, .cons r t, s => .cons r (RVs.append t s)
theorem da_star {p : Pos} (hk : X.K = C.K) (ha : PE X e (tS C f)) (hr : PA X es (tA C ga)) (hs : starEach (.Starred e p :: es) X.env = (true, eval e X.env) :: starEach es X.env) : PA X (.Starred e p :: es) (tA C (aStar f ga)) := paI (StX.pa_star ha hr hs) fun σ H Q q => by
  obtain ⟨ρ, F, ι, m, w, s, o⟩ := q
  refine at_intro w s (o.bind fun x m1 v F1 H1 ι1 _ st w1 rv o1 => ?_)
  rw [hk]
  cases q : itemsOf x m1 with
  | ok xs m1' =>
    rw [q] at o1
    obtain ⟨e1, a, vs, e2, h1, h2⟩ := items_sq w1 rv q
    subst e1
    subst e2
    refine ⟨a, vs, rfl, h1.symm, ?_⟩
    rw [bind_ok] at o1
    refine at_intro w1 (s.up st) (o1.bind fun ys m2 us F2 H2 ι2 _ st2 w2 rvs o2 => ?_)
    exact o2.ok w2 (RVs.append (h2.up st2) rvs)
  | err c m1' =>
    exfalso
    unfold itemsOf at q
    split at q
    · cases q
    · cases q
    · cases q
    · split at q <;> cases q
    · cases q
  | bad =>
    rw [q] at o1
    exact o1.not_bad.elim

abbrev LF := SE → MM → R (List SV)
def OutL (C : Cn) (σ : L2.St) (F H : Hp) (ι : Nat → Addr) (m : MM) (r : R (List SV)) (Q : VK) : Prop :=
  Out C σ F H ι m (relA C.K) r fun vs H' => ∀ p, H' p = none → Q (.ref p) (upd H' p (.lst vs))
def tL (C : Cn) (f : LF) : TE := fun σ H Q => At C σ H fun ρ F ι m => OutL C σ F H ι m (f ρ m) Q
def fFz (f : LF) : EF := fun ρ m => (f ρ m).bind fun xs m1 => match datas xs with
  | some ds => .ok (.d (.list ds)) m1
  | none => .bad
theorem fz_i {f : LF} (σ : L2.St) (H : Hp) (Q : VK) (q : tS C (fFz f) σ H Q) : tL C f σ H Q := by
  obtain ⟨ρ, F, ι, m, w, s, o⟩ := q
  refine at_intro w s (Out.bind o fun xs m1 vs F1 H1 ι1 _ st w1 rv o1 => ?_)
  intro p hp
  cases q : datas xs with
  | none =>
    rw [q] at o1
    exact o1.not_bad.elim
  | some ds =>
    rw [q] at o1
    refine o1.ok' (w1.frz_stp hp (.lst vs)) (w1.frz hp (.lst vs)) ?_
    refine Rp.lst (.inl upd_same) ?_
    have st2 := w1.frz_stp hp (HO.lst vs)
    exact rpAll_up st2.frz ds vs (datas_rp rv q)
theorem de_fz {f : LF} (h : PE X e (tL C f)) : PE X e (tS C (fFz f)) := peI h fun σ H Q q => fz_i σ H Q q
def fOwn (f : LF) : EF := fun ρ m => (f ρ m).bind fun xs m1 => .ok (.o m1.length) (m1 ++ [.lst xs])
theorem own_i {f : LF} (σ : L2.St) (H : Hp) (Q : VK) (q : tS C (fOwn f) σ H Q) : tL C f σ H Q := by
  obtain ⟨ρ, F, ι, m, w, s, o⟩ := q
  refine at_intro w s (Out.bind o fun xs m1 vs F1 H1 ι1 _ st w1 rv o1 => ?_)
  intro p hp
  refine o1.ok' (w1.mut_stp hp vs xs) (w1.mut hp rv) ⟨?_, ?_⟩
  · rw [List.length_append]
    exact Nat.lt_succ_self _
  · rw [ext_self]
theorem de_own {f : LF} (h : PE X e (tL C f)) : PE X e (tS C (fOwn f)) := peI h fun σ H Q q => own_i σ H Q q
def fLst (fa : AF) : LF := fun ρ m => (fa ρ m).bind fun xs m1 => if xs.length ≤ cap then .ok xs m1 else .bad
theorem dl_lst (h : PA X es (tA C fa)) : PE X (.List es pos) (tL C (fLst fa)) := peI (pe_lst h) fun σ H Q q => by
  obtain ⟨ρ, F, ι, m, w, s, o⟩ := q
  refine at_intro w s (Out.bind o fun xs m1 vs F1 H1 ι1 _ st w1 rv o1 => ?_)
  split at o1
  · rename_i hz
    exact ⟨cap_ok (by rw [Paired.length rv]; exact hz), o1.ok w1 rv⟩
  · exact o1.not_bad.elim
theorem Out.ntup {σ : L2.St} {F H : Hp} {ι : Nat → Addr} {m : MM} {vs : List V} {ds : List PyData} {Q : VK} (o : Out C σ F H ι m (relV C.K) (.ok (.d (.tuple ds)) m) Q) (w : WR C.K F H ι m) (hr : RpAll C.K F vs ds) : NTup H vs Q := fun p ob hp hd => by
  have st2 := w.frz_stp hp (HO.frz ob (.tup vs))
  exact o.ok' st2 (w.frz hp _) (Rp.tup (SqN.new hd) (rpAll_up st2.frz ds vs hr))
def fTup (fa : AF) : EF := fun ρ m => (fa ρ m).bind fun xs m1 => match datas xs with
  | some ds => if ds.length ≤ cap then .ok (.d (.tuple ds)) m1 else .bad
  | none => .bad
theorem de_tup {k : Nat} (h : PA X es (tA C fa)) : PE X (.Tuple es k pos) (tS C (fTup fa)) := peI (pe_tupN h) fun σ H Q q => by
  obtain ⟨ρ, F, ι, m, w, s, o⟩ := q
  refine at_intro w s (Out.bind o fun xs m1 vs F1 H1 ι1 _ st w1 rv o1 => ?_)
  cases q : datas xs with
  | none =>
    rw [q] at o1
    exact o1.not_bad.elim
  | some ds =>
    rw [q] at o1
    dsimp only at o1
    have hr := datas_rp rv q
    split at o1
    · rename_i hz
      exact ⟨cap_ok (by rw [hr.length]; exact hz), o1.ntup w1 hr⟩
    · exact o1.not_bad.elim

abbrev CF := List SV → MM → R SV
def fCall (op : CF) (fa : AF) : EF := fun ρ m => (fa ρ m).bind op
def CallD (C : Cn) (r : List V → Hp → VK → Prop) (op : CF) : Prop := ∀ (σ : L2.St) (F H : Hp) (ι : Nat → Addr) (m : MM) (xs : List SV) (vs : List V) (Q : VK), WR C.K F H ι m → RVs C.K F ι m.length vs xs → Out C σ F H ι m (relV C.K) (op xs m) Q → r vs H Q
theorem de_call {r : List V → Hp → VK → Prop} {op : CF} (hp : PE X e (tCB r (tA C fa))) (h : CallD C r op) : PE X e (tS C (fCall op fa)) := peI hp fun σ H Q q => by
  obtain ⟨ρ, F, ι, m, w, s, o⟩ := q
  exact at_intro w s (Out.bind o fun xs m1 vs F1 H1 ι1 _ st w1 rv o1 => h σ F1 H1 ι1 m1 xs vs Q w1 rv o1)
abbrev CLF := List SV → MM → R (List SV)
def fCallL (op : CLF) (fa : AF) : LF := fun ρ m => (fa ρ m).bind op
def CallLD (C : Cn) (r : List V → Hp → VK → Prop) (op : CLF) : Prop := ∀ (σ : L2.St) (F H : Hp) (ι : Nat → Addr) (m : MM) (xs : List SV) (vs : List V) (Q : VK), WR C.K F H ι m → RVs C.K F ι m.length vs xs → OutL C σ F H ι m (op xs m) Q → r vs H Q
theorem dl_call {r : List V → Hp → VK → Prop} {op : CLF} (hp : PE X e (tCB r (tA C fa))) (h : CallLD C r op) : PE X e (tL C (fCallL op fa)) := peI hp fun σ H Q q => by
  obtain ⟨ρ, F, ι, m, w, s, o⟩ := q
  exact at_intro w s (Out.bind o fun xs m1 vs F1 H1 ι1 _ st w1 rv o1 => h σ F1 H1 ι1 m1 xs vs Q w1 rv o1)
theorem rvs1 {K : PySem.W.Frag} {F : Hp} {ι : Nat → Addr} {k : Nat} {vs : List V} {x : SV} (h : RVs K F ι k vs [x]) : ∃ v, vs = [v] ∧ RV K F ι k v x := by
  cases h with
  | cons h t => cases t; exact ⟨_, rfl, h⟩
theorem rvs2 {K : PySem.W.Frag} {F : Hp} {ι : Nat → Addr} {k : Nat} {vs : List V} {x y : SV} (h : RVs K F ι k vs [x, y]) : ∃ v u, vs = [v, u] ∧ RV K F ι k v x ∧ RV K F ι k u y := by
  cases h with
  | cons h t =>
    obtain ⟨u, rfl, h2⟩ := rvs1 t
    exact ⟨_, _, rfl, h, h2⟩
def oLen : CF := fun xs m => match xs with
  | [.d (.str y)] => if y.length ≤ sizeLine then .ok (.d (.int y.length)) m else .bad
  | [x] => (itemsOf x m).bind fun ys m1 => .ok (.d (.int ys.length)) m1
  | _ => .bad
def rLen (K : PySem.W.Frag) : List V → Hp → VK → Prop := fun xs H Q => (∃ p ys, xs = [.ref p] ∧ (SqL K H p ys ∨ SqT K H p ys) ∧ Q (.int ys.length) H) ∨ (∃ z, xs = [.str z] ∧ z.length ≤ sizeLine ∧ Q (.int z.length) H)
theorem cr_len : CallR X (.builtin "len") (rLen X.K) := call_len_seq.or call_len_str
theorem items_case {x : SV} {m : MM} : itemsOf x m = .bad ∨ ∃ xs, itemsOf x m = .ok xs m := by
  unfold itemsOf
  split
  · exact .inr ⟨_, rfl⟩
  · exact .inr ⟨_, rfl⟩
  · exact .inr ⟨_, rfl⟩
  · split
    · exact .inr ⟨_, rfl⟩
    · exact .inl rfl
  · exact .inl rfl
theorem cd_len : CallD C (rLen C.K) oLen := by
  intro σ F H ι m xs vs Q w r o
  unfold oLen at o
  split at o
  · obtain ⟨v, rfl, rv⟩ := rvs1 r
    split at o
    · rename_i hz
      rw [rv_str rv]
      exact .inr ⟨_, rfl, hz, o.ok w (Rp.int _)⟩
    · exact o.not_bad.elim
  · rename_i x _
    obtain ⟨v, rfl, rv⟩ := rvs1 r
    rcases items_case (x := x) (m := m) with q | ⟨ys, q⟩
    · rw [q] at o
      exact o.not_bad.elim
    · rw [q] at o
      obtain ⟨_, a, us, rfl, h1, h2⟩ := items_sq w rv q
      refine .inl ⟨a, us, rfl, h1, ?_⟩
      rw [Paired.length h2]
      exact o.ok w (Rp.int _)
  · exact o.not_bad.elim
def oMax : CF := fun xs m => match xs with
  | [.d (.int i), .d (.int j)] => .ok (.d (.int (if j > i then j else i))) m
  | _ => .bad
def oMin : CF := fun xs m => match xs with
  | [.d (.int i), .d (.int j)] => .ok (.d (.int (if j < i then j else i))) m
  | _ => .bad
def oInt : CF := fun xs m => match xs with
  | [.d (.int i)] => .ok (.d (.int i)) m
  | _ => .bad
def oGcd : CF := fun xs m => match xs with
  | [.d (.int i), .d (.int j)] => .ok (.d (.int ((Nat.gcd i.natAbs j.natAbs : Nat) : Int))) m
  | _ => .bad
@[irreducible] def lcmTop : Nat := 2 ^ 13000
theorem lt_lcmTop {n k : Nat} (h : n < 2 ^ k) (hk : k ≤ 13000) : n < lcmTop := by
  unfold lcmTop
  exact Nat.lt_of_lt_of_le h (Nat.pow_le_pow_right (by decide) hk)
theorem lcmTop_lt {n : Nat} (h : n < lcmTop) : n < 2 ^ (12999 + 1) := by
  unfold lcmTop at h
  exact h
def oLcm : CF := fun xs m => match xs with
  | [.d (.int i), .d (.int j)] => if i.natAbs < lcmTop ∧ j.natAbs < lcmTop then .ok (.d (.int ((Nat.lcm i.natAbs j.natAbs : Nat) : Int))) m else .bad
  | _ => .bad
theorem cd_max : CallD C (fun xs H Q => ∃ i j, xs = [.int i, .int j] ∧ Q (.int (if j > i then j else i)) H) oMax := by
  intro σ F H ι m xs vs Q w r o
  unfold oMax at o
  split at o
  · obtain ⟨v, u, rfl, rv, ru⟩ := rvs2 r
    rw [rv_int rv, rv_int ru]
    exact ⟨_, _, rfl, o.ok w (Rp.int _)⟩
  · exact o.not_bad.elim
theorem cd_min : CallD C (fun xs H Q => ∃ i j, xs = [.int i, .int j] ∧ Q (.int (if j < i then j else i)) H) oMin := by
  intro σ F H ι m xs vs Q w r o
  unfold oMin at o
  split at o
  · obtain ⟨v, u, rfl, rv, ru⟩ := rvs2 r
    rw [rv_int rv, rv_int ru]
    exact ⟨_, _, rfl, o.ok w (Rp.int _)⟩
  · exact o.not_bad.elim
theorem cd_int : CallD C (fun xs H Q => (∃ i, xs = [.int i] ∧ Q (.int i) H) ∨ ∃ k, xs = [.bl k] ∧ Q (.int (if k then 1 else 0)) H) oInt := by
  intro σ F H ι m xs vs Q w r o
  unfold oInt at o
  split at o
  · obtain ⟨v, rfl, rv⟩ := rvs1 r
    rw [rv_int rv]
    exact .inl ⟨_, rfl, o.ok w (Rp.int _)⟩
  · exact o.not_bad.elim
theorem cd_gcd : CallD C rGcd oGcd := by
  intro σ F H ι m xs vs Q w r o
  unfold oGcd at o
  split at o
  · obtain ⟨v, u, rfl, rv, ru⟩ := rvs2 r
    rw [rv_int rv, rv_int ru]
    exact ⟨_, _, rfl, o.ok w (Rp.int _)⟩
  · exact o.not_bad.elim
def rLcm : List V → Hp → VK → Prop := fun vs H Q => ∃ a b : Int, vs = [.int a, .int b] ∧ (a.natAbs < lcmTop ∧ b.natAbs < lcmTop) ∧ Q (.int ((Nat.lcm a.natAbs b.natAbs : Nat) : Int)) H
theorem cr_lcm : CallR X (.builtin "math.lcm") rLcm := by
  intro pins s σ H vs us Q I r h
  obtain ⟨a, b, rfl, ⟨h1, h2⟩, q⟩ := h
  obtain ⟨t, u, rfl⟩ := Vals.int2 r
  have k1 := lcmTop_lt h1
  have k2 := lcmTop_lt h2
  have one : 1 < 2 ^ (12999 + 1) := Nat.lt_of_lt_of_le (show 1 < 2 ^ 1 by decide) (Nat.pow_le_pow_right (by decide) (by decide))
  have m1 : (max 1 a.natAbs).log2 ≤ 12999 := PySem.W.mg_log (Nat.max_lt.mpr ⟨one, k1⟩)
  have m2 : (max a.natAbs b.natAbs).log2 ≤ 12999 := PySem.W.mg_log (Nat.max_lt.mpr ⟨k1, k2⟩)
  have le : Nat.lcm a.natAbs b.natAbs < 2 ^ (25999 + 1) := Nat.lt_of_le_of_lt (Nat.div_le_self _ _) (Nat.lt_of_lt_of_eq (Nat.mul_lt_mul'' k1 k2) (by rw [← Nat.pow_add]))
  have sz : ((((Nat.lcm 1 a.natAbs).lcm b.natAbs : Nat) : Int)).natAbs.log2 < bitsLine := by
    rw [Nat.lcm_one_left, Int.natAbs_natCast]
    exact Nat.lt_of_le_of_lt (PySem.W.mg_log le) (by decide)
  refine PySem.call_function_meets PySem.W.MGF.kind_lcm PySem.W.MGF.plain_lcm PySem.W.MGF.entry_lcm (PySem.W.MGF.args_lcm _ _) (PySem.W.mg_run_lcm a t b u (by omega) (by omega) sz).meets ?_
  rw [Nat.lcm_one_left]
  exact ⟨.int _, H, I.tok _, ⟨_, rfl⟩, q⟩
theorem cd_lcm : CallD C rLcm oLcm := by
  intro σ F H ι m xs vs Q w r o
  unfold oLcm at o
  split at o
  · obtain ⟨v, u, rfl, rv, ru⟩ := rvs2 r
    rw [rv_int rv, rv_int ru]
    split at o
    · rename_i hz
      exact ⟨_, _, rfl, hz, o.ok w (Rp.int _)⟩
    · exact o.not_bad.elim
  · exact o.not_bad.elim
def bools : List PyData → Option (List Bool)
  | [] => some []
  | .bool b :: r => match bools r with
    | some bs => some (b :: bs)
    | none => none
  | _ :: _ => none
theorem bools_v {K : PySem.W.Frag} {F : Hp} : ∀ {vs : List V} {ds : List PyData} {bs : List Bool}, RpAll K F vs ds → bools ds = some bs → vs = bs.map V.bl
  | _, _, _, .nil, e => by
    cases e
    rfl
  | _, .bool b :: r, bs, .cons h t, e => by
    unfold bools at e
    cases q : bools r with
    | none =>
      rw [q] at e
      cases e
    | some cs =>
      rw [q] at e
      cases e
      cases h
      rw [bools_v t q]
      rfl
  | _, .none :: r, bs, .cons h t, e => by cases e
  | _, .int _ :: r, bs, .cons h t, e => by cases e
  | _, .str _ :: r, bs, .cons h t, e => by cases e
  | _, .list _ :: r, bs, .cons h t, e => by cases e
  | _, .tuple _ :: r, bs, .cons h t, e => by cases e
  | _, .dict _ :: r, bs, .cons h t, e => by cases e
def oAll : CF := fun xs m => match xs with
  | [.d (.list ds)] => match bools ds with
    | some bs => .ok (.d (.bool (bs.all id))) m
    | none => .bad
  | _ => .bad
theorem cd_all : CallD C (rAll C.K) oAll := by
  intro σ F H ι m xs vs Q w r o
  unfold oAll at o
  split at o
  · obtain ⟨v, rfl, rv⟩ := rvs1 r
    split at o
    · rename_i bs hb
      obtain ⟨a, us, rfl, h1, h2⟩ := rv_lst rv
      refine ⟨a, bs, rfl, ?_, o.ok w (Rp.bl _)⟩
      rw [← bools_v h2 hb]
      exact .inl (rd_in w h1)
    · exact o.not_bad.elim
  · exact o.not_bad.elim
def oTuple : CF := fun xs m => match xs with
  | [.d (.tuple ds)] => .ok (.d (.tuple ds)) m
  | [x] => (itemsOf x m).bind fun ys m1 => match datas ys with
    | some ds => .ok (.d (.tuple ds)) m1
    | none => .bad
  | _ => .bad
theorem cd_tuple : CallD C (fun xs H Q => ∃ p ys, xs = [.ref p] ∧ ((SqL C.K H p ys ∧ NTup H ys Q) ∨ (SqT C.K H p ys ∧ Q (.ref p) H))) oTuple := by
  intro σ F H ι m xs vs Q w r o
  unfold oTuple at o
  split at o
  · obtain ⟨v, rfl, rv⟩ := rvs1 r
    obtain ⟨a, us, rfl, h1, h2⟩ := rv_tup rv
    exact ⟨a, us, rfl, .inr ⟨(sqN_in w h1).t, o.ok w (Rp.tup h1 h2)⟩⟩
  · rename_i x hx
    obtain ⟨v, rfl, rv⟩ := rvs1 r
    rcases items_case (x := x) (m := m) with q | ⟨ys, q⟩
    · rw [q] at o
      exact o.not_bad.elim
    · rw [q, bind_ok] at o
      have hs : ∃ a us, v = .ref a ∧ SqL C.K H a us ∧ RVs C.K F ι m.length us ys := by
        unfold itemsOf at q
        split at q
        · cases q
          obtain ⟨a, us, rfl, h1, h2⟩ := rv_lst rv
          exact ⟨a, us, rfl, .inl (rd_in w h1), rvs_of h2⟩
        · exact absurd rfl (hx _)
        · cases q
          obtain ⟨a, us, rfl, h1, h2⟩ := rv
          exact ⟨a, us, rfl, sqL_in w h1, rvs_of h2⟩
        · split at q
          · rename_i zs hn
            cases q
            obtain ⟨_, us, h2, h3⟩ := w.lst _ _ hn
            exact ⟨_, us, rv.2, SqL.of h2, h3⟩
          · cases q
        · cases q
      obtain ⟨a, us, rfl, h1, h2⟩ := hs
      cases qd : datas ys with
      | none =>
        rw [qd] at o
        exact o.not_bad.elim
      | some ds =>
        rw [qd] at o
        exact ⟨a, us, rfl, .inl ⟨h1, o.ntup w (datas_rp h2 qd)⟩⟩
  · exact o.not_bad.elim
def oList : CLF := fun xs m => match xs with
  | [x] => itemsOf x m
  | _ => .bad
theorem cd_list : CallLD C (fun xs H Q => ∃ p ys, xs = [.ref p] ∧ (SqL C.K H p ys ∨ SqT C.K H p ys) ∧ ∀ l, H l = none → Q (.ref l) (upd H l (.lst ys))) oList := by
  intro σ F H ι m xs vs Q w r o
  unfold oList at o
  split at o
  · rename_i x
    obtain ⟨v, rfl, rv⟩ := rvs1 r
    rcases items_case (x := x) (m := m) with q | ⟨ys, q⟩
    · rw [q] at o
      exact o.not_bad.elim
    · rw [q] at o
      obtain ⟨_, a, us, rfl, h1, h2⟩ := items_sq w rv q
      exact ⟨a, us, rfl, h1, Out.ok o w h2⟩
  · exact Out.not_bad o |>.elim
def tyN : PyData → String
  | .none => "NoneType"
  | .bool _ => "bool"
  | .int _ => "int"
  | .str _ => "str"
  | .list _ => "list"
  | .tuple _ => "tuple"
  | .dict _ => "dict"
def isT (T : String) (x : SV) (m : MM) : Option Bool := match x with
  | .d x => kitB (tyN x) T
  | .k _ => none
  | .o n => match m[n]? with
    | some (.lst _) => kitB "list" T
    | _ => none
def fIsi (T : String) (f : EF) : EF := fun ρ m => (f ρ m).bind fun x m1 => match isT T x m1 with
  | some b => .ok (.d (.bool b)) m1
  | none => .bad
theorem ty_of {K : PySem.W.Frag} {F H : Hp} {ι : Nat → Addr} {m : MM} {v : V} {x : PyData} (w : WR K F H ι m) (r : Rp K F v x) : TyX K H v (.type (tyN x)) := by
  cases r with
  | non => exact .base .non
  | bl b => exact .base (.bl b)
  | int b => exact .base (.int b)
  | str b => exact .base (.str b)
  | lst h1 h2 =>
    rcases rd_in w h1 with h | ⟨o, h⟩
    · exact .base (.lst h)
    · exact .base (.frz h)
  | tup h1 h2 =>
    rcases sqN_in w h1 with ⟨o, h, _⟩ | ⟨o, its, n, k, c, _⟩
    · exact .fTuple h
    · exact .kTuple k c
theorem de_isi {T : String} (hp : PE X e (tCB (rIsi C.K) (tCons (tS C f) (tCons (tC (.ty T)) tNil)))) : PE X e (tS C (fIsi T f)) := peI hp fun σ H Q q => by
  obtain ⟨ρ, F, ι, m, w, s, o⟩ := q
  refine at_intro w s (o.bind fun x m1 v F1 H1 ι1 _ st w1 rv o1 => ?_)
  cases q : isT T x m1 with
  | none =>
    rw [q] at o1
    exact o1.not_bad.elim
  | some b =>
    rw [q] at o1
    cases x with
    | d x => exact ⟨v, .ty T, .type (tyN x), .type T, b, rfl, .ty T, ty_of w1 rv, kit_ty q, o1.ok w1 (Rp.bl _)⟩
    | o n =>
      rw [rv.2]
      unfold isT at q
      dsimp only at q
      split at q
      · rename_i xs hn
        obtain ⟨_, vs, h2, h3⟩ := w1.lst _ _ hn
        exact ⟨_, .ty T, .type "list", .type T, b, rfl, .ty T, .base (.lst h2), kit_ty q, o1.ok w1 (Rp.bl _)⟩
      · cases q
    | k ds => cases q

def keyOf : SV → Option Key
  | .d (.int i) => some (.inl i)
  | .d (.str z) => some (.inr z)
  | _ => none
theorem keyOf_v {K : PySem.W.Frag} {F : Hp} {ι : Nat → Addr} {k : Nat} {v : V} {y : SV} {q : Key} (r : RV K F ι k v y) (h : keyOf y = some q) : v = kV q := by
  unfold keyOf at h
  split at h
  · cases h
    rw [rv_int r]
    rfl
  · cases h
    rw [rv_str r]
    rfl
  · cases h
section
variable {κ : Type} [DecidableEq κ]
def valS (kvs : List (κ × SV)) (k : κ) : Option SV := (kvs.find? fun kv => decide (kv.1 = k)).map (·.2)
def putS (kvs : List (κ × SV)) (k : κ) (v : SV) : List (κ × SV) :=
  if (kvs.any fun kv => decide (kv.1 = k)) = true then kvs.map (fun kv => if kv.1 = k then (kv.1, v) else kv) else kvs ++ [(k, v)]
variable {K : PySem.W.Frag} {F : Hp} {ι : Nat → Addr} {n : Nat}
theorem rks_val (k : κ) : ∀ {vs : List (κ × V)} {kvs : List (κ × SV)}, RKs K F ι n vs kvs → (valS kvs k = none ∧ valV vs k = none) ∨ ∃ x v, valS kvs k = some x ∧ valV vs k = some v ∧ RV K F ι n v x
  | _, _, .nil => .inl ⟨rfl, rfl⟩
  | _, _, .cons (a := p) (b := q) h t => by
    by_cases e : q.1 = k
    · refine .inr ⟨q.2, p.2, ?_, valV_pos (h.1.trans e), h.2⟩
      unfold valS
      rw [List.find?_cons, decide_eq_true e]
      rfl
    · have e2 : ¬ p.1 = k := fun z => e (h.1.symm.trans z)
      have ih := rks_val k t
      have h1 : ∀ r, valS (q :: r) k = valS r k := fun r => by
        unfold valS
        rw [List.find?_cons, decide_eq_false e]
      rw [h1, valV_neg e2]
      exact ih
theorem rks_any (k : κ) : ∀ {vs : List (κ × V)} {kvs : List (κ × SV)}, RKs K F ι n vs kvs → (vs.any fun kv => decide (kv.1 = k)) = (kvs.any fun kv => decide (kv.1 = k))
  | _, _, .nil => rfl
  | _, _, .cons h t => by rw [List.any_cons, List.any_cons, rks_any k t, h.1]
theorem rks_map (k : κ) {v : V} {x : SV} (r : RV K F ι n v x) : ∀ {vs : List (κ × V)} {kvs : List (κ × SV)}, RKs K F ι n vs kvs → RKs K F ι n (vs.map fun kv => if kv.1 = k then (kv.1, v) else kv) (kvs.map fun kv => if kv.1 = k then (kv.1, x) else kv)
  | _, _, .nil => .nil
  | _, _, .cons (a := p) (b := q) h t => by
    refine .cons ?_ (rks_map k r t)
    dsimp only
    by_cases e : q.1 = k
    · rw [if_pos (h.1.trans e), if_pos e]
      exact ⟨h.1, r⟩
    · rw [if_neg (fun z => e (h.1.symm.trans z)), if_neg e]
      exact h
theorem rks_snoc {k : κ} {v : V} {x : SV} (r : RV K F ι n v x) : ∀ {vs : List (κ × V)} {kvs : List (κ × SV)}, RKs K F ι n vs kvs → RKs K F ι n (vs ++ [(k, v)]) (kvs ++ [(k, x)])
  | _, _, .nil => .cons ⟨rfl, r⟩ .nil
  | _, _, .cons h t => .cons h (rks_snoc r t)
theorem rks_put {k : κ} {v : V} {x : SV} {vs : List (κ × V)} {kvs : List (κ × SV)} (r : RV K F ι n v x) (h : RKs K F ι n vs kvs) : RKs K F ι n (putK vs k v) (putS kvs k x) := by
  unfold putK putS
  rw [rks_any k h]
  split
  · exact rks_map k r h
  · exact rks_snoc r h
end
def dctOf (x : SV) (m : MM) : Option (List (Key × SV)) := match x with
  | .o n => match m[n]? with
    | some (.dct kvs) => some kvs
    | _ => none
  | _ => none
theorem dctOf_r {K : PySem.W.Frag} {F H : Hp} {ι : Nat → Addr} {m : MM} {v : V} {x : SV} {kvs : List (Key × SV)} (w : WR K F H ι m) (r : RV K F ι m.length v x) (h : dctOf x m = some kvs) :
    ∃ n vs, x = .o n ∧ m[n]? = some (.dct kvs) ∧ v = .ref (ι n) ∧ H (ι n) = some (.dK vs) ∧ RKs K F ι m.length vs kvs := by
  unfold dctOf at h
  split at h
  · rename_i n
    split at h
    · rename_i kvs' hn
      cases h
      obtain ⟨_, vs, h2, h3⟩ := w.dct _ _ hn
      exact ⟨n, vs, rfl, hn, r.2, h2, h3⟩
    · cases h
  · cases h
def oIxD (kvs : List (Key × SV)) (y : SV) (m : MM) : R SV := match keyOf y with
  | some k => match valS kvs k with
    | some v => .ok v m
    | none => .bad
  | none => .bad
def oIxS : OF := fun x y m => match y with
  | .d (.int i) => match x with
    | .d (.str z) => match atI z.cps.toList i with
      | some c => if z.length ≤ sizeLine then .ok (.d (.str ⟨#[c]⟩)) m else .bad
      | none => .bad
    | _ => (itemsOf x m).bind fun ys m1 => match atI ys i with
      | some v => .ok v m1
      | none => .bad
  | _ => .bad
def oIx : OF := fun x y m => match dctOf x m with
  | some kvs => oIxD kvs y m
  | none => oIxS x y m
theorem rvs_at {K : PySem.W.Frag} {F : Hp} {ι : Nat → Addr} {k : Nat} {vs : List V} {xs : List SV} {i : Int} {x : SV} (r : RVs K F ι k vs xs) (h : atI xs i = some x) : ∃ v, atI vs i = some v ∧ RV K F ι k v x := by
  have get : ∀ {vs : List V} {xs : List SV} {j : Nat}, RVs K F ι k vs xs → xs[j]? = some x → ∃ v, vs[j]? = some v ∧ RV K F ι k v x := by
    intro vs xs j r
    induction r generalizing j with
    | nil => intro e; simp at e
    | cons h t ih =>
      intro e
      cases j with
      | zero =>
        rw [List.getElem?_cons_zero] at e
        cases e
        exact ⟨_, rfl, h⟩
      | succ j =>
        rw [List.getElem?_cons_succ] at e ⊢
        exact ih e
  unfold atI at h ⊢
  rw [Paired.length r]
  cases q : ixN xs.length i with
  | none =>
    rw [q] at h
    cases h
  | some j =>
    rw [q] at h
    exact get r h
def rIxDk : R2 := fun x y H Q => ∃ a v, x = .ref a ∧ DGet H a y (some v) ∧ Q v H
theorem ix_dk (hu : X.A.units + 65 < cLine) : IxR X rIxDk := by
  intro value slice pins s σ H x y v u Q I rx ry h hs
  obtain ⟨a, w, rfl, g, q⟩ := h
  cases rx
  exact tail_any (dict_typeIs I g) PySem.F.slot_dict_getitem.lookup (d_getItem (by omega) I g ry fun w' s3 I3 rw' => ⟨w, H, I3, rw', q⟩) hs
def rIxU (K : PySem.W.Frag) : R2 := fun x y H Q => rIxDk x y H Q ∨ rIx K x y H Q
theorem opd_ix : OpD C (rIxU C.K) oIx := by
  intro σ F H ι m x y v u Q w rv ru o
  unfold oIx at o
  cases hd : dctOf x m with
  | some kvs =>
    rw [hd] at o
    dsimp only at o
    obtain ⟨n, vs, rfl, hn, rfl, hH, hr⟩ := dctOf_r w rv hd
    unfold oIxD at o
    split at o
    · rename_i k hk
      split at o
      · rename_i z hz
        have ev := keyOf_v ru hk
        subst ev
        rcases rks_val k hr with ⟨e, _⟩ | ⟨z', zv, e1, e2, e3⟩
        · rw [e] at hz
          cases hz
        · rw [e1] at hz
          cases hz
          exact .inl ⟨_, zv, rfl, by rw [← e2]; exact DGet.k hH, o.ok w e3⟩
      · exact o.not_bad.elim
    · exact o.not_bad.elim
  | none =>
  rw [hd] at o
  dsimp only at o
  refine .inr ?_
  unfold oIxS at o
  split at o
  · rename_i i
    split at o
    · rename_i z
      split at o
      · rename_i c hc
        split at o
        · rename_i hz
          rw [rv_int ru, rv_str rv]
          exact .inr (.inr ⟨_, _, _, rfl, rfl, hz, hc, o.ok w (Rp.str _)⟩)
        · exact o.not_bad.elim
      · exact o.not_bad.elim
    · rcases items_case (x := x) (m := m) with q | ⟨ys, q⟩
      · rw [q] at o
        exact o.not_bad.elim
      · rw [q, bind_ok] at o
        split at o
        · rename_i z hz
          obtain ⟨_, a, us, rfl, h1, h2⟩ := items_sq w rv q
          obtain ⟨zv, e1, r1⟩ := rvs_at h2 hz
          rw [rv_int ru]
          rcases h1 with h1 | h1
          · exact .inl ⟨a, us, i, zv, rfl, rfl, h1, e1, o.ok w r1⟩
          · exact .inr (.inl ⟨a, us, i, zv, rfl, rfl, h1, e1, o.ok w r1⟩)
        · exact o.not_bad.elim
  · exact o.not_bad.elim
theorem de_ix {a b : Expr} (hk : X.K = C.K) (hu : X.A.units + 65 < cLine) (ha : PE X a (tS C f)) (hb : PE X b (tS C g)) (hs : PlainIx b) : PE X (.Subscript a b pos) (tS C (fBin oIx f g)) := peI (pe_ix ((ix_dk hu).or ix_seq) ha hb hs) fun σ H Q q => by
  rw [hk]
  exact bin_i opd_ix σ H Q q

abbrev PF := SE → MM → R (Option Int)
def tP (C : Cn) (f : PF) : TO := fun σ H Q => At C σ H fun ρ F ι m => Out C σ F H ι m (fun _ _ _ b a => b = a) (f ρ m) Q
def pNone : PF := fun _ m => .ok none m
def pSome (f : EF) : PF := fun ρ m => (f ρ m).bind fun x m1 => match x with
  | .d (.int i) => .ok (some i) m1
  | _ => .bad
theorem poI {e : Option Expr} {t t' : TO} (h : PO X e t) (i : ∀ σ H Q, t' σ H Q → t σ H Q) : PO X e t' := ⟨fun pins s σ H Q I w => h.run pins s σ H Q I (i σ H Q w)⟩
theorem dp_none : PO X none (tP C pNone) := poI po_none fun σ H Q q => by
  obtain ⟨ρ, F, ι, m, w, s, o⟩ := q
  exact o.ok w rfl
theorem dp_some (h : PE X e (tS C f)) : PO X (some e) (tP C (pSome f)) := poI (po_some h) fun σ H Q q => by
  obtain ⟨ρ, F, ι, m, w, s, o⟩ := q
  refine at_intro w s (Out.bind o fun x m1 v F1 H1 ι1 _ st w1 rv o1 => ?_)
  split at o1
  · exact ⟨_, rv_int rv, o1.ok w1 rfl⟩
  · exact o1.not_bad.elim
def cutG {α : Type} (xs : List α) (lo hi : Option Int) : List α := (xs.drop (HT.sIx xs.length 0 lo)).take (HT.sIx xs.length xs.length hi - HT.sIx xs.length 0 lo)
def listOf : SV → MM → R (List SV) := fun x m => match x with
  | .d (.list ds) => .ok (ds.map .d) m
  | .o n => match m[n]? with
    | some (.lst xs) => .ok xs m
    | _ => .bad
  | _ => .bad
theorem list_case {x : SV} {m : MM} : listOf x m = .bad ∨ ∃ xs, listOf x m = .ok xs m := by
  unfold listOf
  split
  · exact .inr ⟨_, rfl⟩
  · split
    · exact .inr ⟨_, rfl⟩
    · exact .inl rfl
  · exact .inl rfl
theorem list_sq {K : PySem.W.Frag} {F H : Hp} {ι : Nat → Addr} {m m' : MM} {v : V} {x : SV} {xs : List SV} (w : WR K F H ι m) (r : RV K F ι m.length v x) (e : listOf x m = .ok xs m') :
    ∃ a vs, v = .ref a ∧ Rd H a (.lst vs) ∧ RVs K F ι m.length vs xs := by
  unfold listOf at e
  split at e
  · cases e
    obtain ⟨a, vs, rfl, h1, h2⟩ := rv_lst r
    exact ⟨a, vs, rfl, rd_in w h1, rvs_of h2⟩
  · split at e
    · rename_i ys hn
      cases e
      obtain ⟨_, vs, h2, h3⟩ := w.lst _ _ hn
      exact ⟨_, vs, r.2, .inl h2, h3⟩
    · cases e
  · cases e
theorem RVs.take {K : PySem.W.Frag} {F : Hp} {ι : Nat → Addr} {k : Nat} : ∀ {vs : List V} {xs : List SV} (n : Nat), RVs K F ι k vs xs → RVs K F ι k (vs.take n) (xs.take n)
  | _, _, 0, _ => .nil
  | _, _, _ + 1, .nil => .nil
  | _, _, n + 1, .cons r t => .cons r (RVs.take n t)
theorem RVs.drop {K : PySem.W.Frag} {F : Hp} {ι : Nat → Addr} {k : Nat} : ∀ {vs : List V} {xs : List SV} (n : Nat), RVs K F ι k vs xs → RVs K F ι k (vs.drop n) (xs.drop n)
  | _, _, 0, r => r
  | _, _, _ + 1, .nil => .nil
  | _, _, n + 1, .cons _ t => RVs.drop n t
end
end WK

set_option Elab.async false
set_option linter.all false
set_option maxRecDepth 100000
set_option autoImplicit false
set_option maxHeartbeats 2000000
namespace WK
open PySem PySem.Spec PyProof.Rows L2

def SqB (K : PySem.W.Frag) (H : Hp) : Bool → Addr → List V → Prop
  | true, a, xs => SqL K H a xs
  | false, a, xs => SqT K H a xs
def HdB (h : Heap) : Bool → Addr → Array Value → Prop
  | true, a, its => h.IsList a its
  | false, a, its => h.IsTuple a its
def ItB (h : Heap) : Bool → Addr → Addr → Nat → Prop
  | true, it, a, i => h.IsListIter it a i
  | false, it, a, i => h.IsTupleIter it a i
def newIt : Bool → Addr → Obj
  | true, a => { cls := .type "list_iterator", data := .fields #[.ref a, .int 0 0] }
  | false, a => { cls := .type "tuple_iterator", data := .fields #[.ref a, .int 0 0] }
section
variable {X : Cx} {pins : List (Addr × Obj)} {σ : L2.St} {H : Hp} {s : Shared} {k : Bool} {a : Addr} {xs : List V}
theorem seqB (I : Inv X pins σ H s) (h : SqB X.K H k a xs) : ∃ its : List Value, Vals xs its ∧ HdB s.heap k a its.toArray ∧ a < s.heap.objs.size := by
  cases k with
  | true =>
    obtain ⟨its, r, p, _⟩ := I.list (show SqL X.K H a xs from h)
    exact ⟨its, r, p.isList, p.lt⟩
  | false =>
    obtain ⟨its, r, p, _⟩ := I.tuple (show SqT X.K H a xs from h)
    exact ⟨its, r, p, p.lt⟩
theorem beginsB (k : Bool) (a : Addr) (its : Array Value) : Begins (.ref a) (newIt k a) (fun h => HdB h k a its) := by
  cases k with
  | true => exact begins_list a its
  | false => exact begins_tuple a its
theorem drawsB {P : Program} {w : World} {A : Around} (hh : A.handled = none) (k : Bool) {it a : Addr} (hne : a ≠ it) (its : Array Value) :
    Draws P w A it [it, a] its.size (fun i v => its[i]? = some v) (fun i h => ItB h k it a i ∧ HdB h k a its) := by
  cases k with
  | true => exact Draws.list hh it a hne its
  | false => exact Draws.tuple hh it a hne its
theorem itB_new {h : Heap} {k : Bool} {it a : Addr} (e : h.get? it = some (newIt k a)) : ItB h k it a 0 := by
  cases k with
  | true => exact ⟨_, e, rfl, rfl⟩
  | false => exact ⟨_, e, rfl, rfl⟩
theorem itB_at {h h' : Heap} {k : Bool} {it a : Addr} {i : Nat} (x : ItB h k it a i) (e : ∀ o, h.get? it = some o → h'.get? it = some o) : ItB h' k it a i := by
  cases k with
  | true => exact Heap.IsListIter.at x e
  | false => exact Heap.IsTupleIter.at x e
theorem itB_obj {h : Heap} {k : Bool} {it a : Addr} {i : Nat} (x : ItB h k it a i) : ∃ o, h.get? it = some o ∧ ∀ v, o.data ≠ .cell v := by
  cases k with
  | true =>
    obtain ⟨o, e, _, d⟩ := x
    exact ⟨o, e, fun v z => by rw [d] at z; cases z⟩
  | false =>
    obtain ⟨o, e, _, d⟩ := x
    exact ⟨o, e, fun v z => by rw [d] at z; cases z⟩
end

def ItZ (K : PySem.W.Frag) (k1 : Bool) (a : Addr) (xs : List V) (k2 : Bool) (b : Addr) (ys : List V) : It :=
  ⟨fun i H => SqB K H k1 a xs ∧ SqB K H k2 b ys ∧ i < min xs.length ys.length,
    fun i H v H' => ∃ T x y o, v = .ref T ∧ H T = none ∧ o.dict = none ∧ H' = upd H T (.frz o (.tup [x, y])) ∧ xs[i]? = some x ∧ ys[i]? = some y,
    fun i H => SqB K H k1 a xs ∧ SqB K H k2 b ys ∧ i = min xs.length ys.length⟩
theorem turn_zipB {P : Program} {w : World} {K : PySem.W.Frag} {elts : List Expr} {kk : Nat} {tpos : Pos} {a b z TI TO i1 i2 : Addr} {k1 k2 : Bool} {xs ys : List V} (S : ZipSep2 z TI TO i1 i2 [i1, a] [i2, b]) (na : a ≠ i1) (nb : b ≠ i2) :
    Turn P w K (.Tuple elts kk tpos) (ItZ K k1 a xs k2 b ys) [z, TI, TO, i1, i2] z (fun i h => IsZip h z TI TO .none ∧ IsTupOf2 h TI (.ref i1) (.ref i2) ∧ (∃ x y, IsTupOf2 h TO x y) ∧ ItB h k1 i1 a i ∧ ItB h k2 i2 b i) where
  mem := List.mem_cons_self
  obj := fun i h st c hc => by
    obtain ⟨hz, hI, ⟨x, y, hO⟩, h1, h2⟩ := st
    have hc' : c = z ∨ c = TI ∨ c = TO ∨ c = i1 ∨ c = i2 := by simpa using hc
    rcases hc' with e | e | e | e | e <;> subst e
    · exact ⟨_, hz, fun v q => nomatch q⟩
    · exact ⟨_, hI, fun v q => nomatch q⟩
    · exact ⟨_, hO, fun v q => nomatch q⟩
    · exact itB_obj h1
    · exact itB_obj h2
  keep := fun i h h' st k => by
    obtain ⟨hz, hI, ⟨x, y, hO⟩, h1, h2⟩ := st
    exact ⟨k z (by simp) _ hz, k TI (by simp) _ hI, ⟨x, y, k TO (by simp) _ hO⟩, itB_at h1 fun o q => k i1 (by simp) o q, itB_at h2 fun o q => k i2 (by simp) o q⟩
  item := by
    intro X hP hw hK hc i pins s σ H E I hf st hg
    subst hP hw hK
    obtain ⟨hz, hI, ⟨x0, y0, hO⟩, h1, h2⟩ := st
    obtain ⟨qx, qy, hlt⟩ := hg
    obtain ⟨its, rv, p1, l1⟩ := seqB I qx
    obtain ⟨its2, rv2, p2, l2⟩ := seqB I qy
    have n1 := rv.length
    have n2 := rv2.length
    have hh : X.A.in1.handled = none := I.ok.hd hc
    refine wpAny_pyNext_zipD2_item S (drawsB hh k1 na its.toArray) (drawsB hh k2 nb its2.toArray) hz hI hO ⟨h1, p1⟩ ⟨h2, p2⟩ (by rw [List.size_toArray]; omega) (by rw [List.size_toArray]; omega) fun u1 u2 h' tk e1 e2 z' TO' st1 st2 hT hsz hk => ?_
    refine ⟨_, rfl, wpAny_letOwnedTupleGo_zip (s := { s with heap := h', toks := tk }) z' fun h'' z'' sb => ?_⟩
    have hlz : z < s.heap.objs.size := Heap.lt_size hz
    have hT2 : h''.get? s.heap.objs.size = some { cls := .type "tuple", data := .seq #[u1, u2] } := (sb.2 _ (Nat.ne_of_gt hlz)).trans hT
    have g1 : ∃ x, xs[i]? = some x ∧ RelV x u1 := by
      have lt : i < xs.length := by omega
      refine ⟨xs[i], List.getElem?_eq_getElem lt, ?_⟩
      obtain ⟨u, hu, ru⟩ := rv.get (List.getElem?_eq_getElem lt)
      have e1' : its[i]? = some u1 := by simpa using e1
      rw [hu] at e1'
      cases e1'
      exact ru
    have g2 : ∃ y, ys[i]? = some y ∧ RelV y u2 := by
      have lt : i < ys.length := by omega
      refine ⟨ys[i], List.getElem?_eq_getElem lt, ?_⟩
      obtain ⟨u, hu, ru⟩ := rv2.get (List.getElem?_eq_getElem lt)
      have e2' : its2[i]? = some u2 := by simpa using e2
      rw [hu] at e2'
      cases e2'
      exact ru
    obtain ⟨x, hx, rx⟩ := g1
    obtain ⟨y, hy, ry⟩ := g2
    have new : ObjOk X.prog X.w (upd H s.heap.objs.size (.frz { cls := .type "tuple", data := .seq #[u1, u2] } (.tup [x, y]))) h'' s.heap.objs.size (.frz { cls := .type "tuple", data := .seq #[u1, u2] } (.tup [x, y])) :=
      ⟨hT2, by show 2 ≤ sizeLine; decide, [u1, u2], .cons rx (.cons ry .nil), ⟨_, hT2, rfl, _, rfl⟩⟩
    have I1 : Inv X pins σ (upd H s.heap.objs.size (.frz { cls := .type "tuple", data := .seq #[u1, u2] } (.tup [x, y]))) { s with heap := h'', toks := tk } :=
      I.turnedNew (t' := tk) (ch := [z, TI, TO, i1, i2]) (fun c o hb q => (sb.2 c (fun w => hb (by simp [w]))).trans (hk c o (fun w => hb (by simp [w])) (fun w => hb (by simp [w])) (fun w => hb (by simp [w])) (fun w => hb (by simp [w])) q)) hf (Nat.le_refl _) new
    refine ⟨.ref s.heap.objs.size, _, I1, rfl, ⟨_, x, y, _, rfl, I.hok.fresh (Nat.le_refl _), rfl, rfl, hx, hy⟩, ⟨z'', ?_, ⟨u1, u2, ?_⟩, ?_, ?_⟩, fun c hcm => ?_⟩
    · exact (sb.2 _ S.TIz).trans (hk _ _ S.TIz S.TITO S.TIi1 S.TIi2 hI)
    · exact (sb.2 _ S.TOz).trans TO'
    · exact itB_at st1.1 fun o q => (sb.2 _ (Ne.symm S.zi1)).trans q
    · exact itB_at st2.1 fun o q => (sb.2 _ (Ne.symm S.zi2)).trans q
    · have hlt' : c < s.heap.objs.size := by
        have hc' : c = z ∨ c = TI ∨ c = TO ∨ c = i1 ∨ c = i2 := by simpa using hcm
        rcases hc' with e | e | e | e | e <;> subst e
        · exact hlz
        · exact Heap.lt_size hI
        · exact Heap.lt_size hO
        · obtain ⟨o, q, _⟩ := itB_obj h1
          exact Heap.lt_size q
        · obtain ⟨o, q, _⟩ := itB_obj h2
          exact Heap.lt_size q
      rw [upd_ne (Nat.ne_of_lt hlt')]
      exact (hf c hcm).1
  done := by
    intro X hP hw hK hc i pins s σ H E I hf st hg
    subst hP hw hK
    obtain ⟨hz, hI, ⟨x0, y0, hO⟩, h1, h2⟩ := st
    obtain ⟨qx, qy, he⟩ := hg
    obtain ⟨its, rv, p1, l1⟩ := seqB I qx
    obtain ⟨its2, rv2, p2, l2⟩ := seqB I qy
    have n1 := rv.length
    have n2 := rv2.length
    have hh : X.A.in1.handled = none := I.ok.hd hc
    exact wpAny_pyNext_zipD2_end S (drawsB hh k1 na its.toArray) (drawsB hh k2 nb its2.toArray) hz hI hO ⟨h1, p1⟩ ⟨h2, p2⟩ (by rw [List.size_toArray]; omega) (by rw [List.size_toArray]; omega) (by rw [List.size_toArray, List.size_toArray]; omega) fun h' tk hk =>
      ⟨rfl, I.turnedL (t' := tk) (ch := [z, TI, TO, i1, i2]) (fun c o hb q => hk c o (fun w => hb (by simp [w])) (fun w => hb (by simp [w])) (fun w => hb (by simp [w])) (fun w => hb (by simp [w])) q) hf⟩
  self := fun A i s Q E st h => wpAny_pyIter_zip st.1 h
def iZipB (K : PySem.W.Frag) (ta : TA) : TI := fun σ H R => ta σ H fun vs H1 => ∃ k1 k2 a b xs ys, vs = [.ref a, .ref b] ∧ SqB K H1 k1 a xs ∧ SqB K H1 k2 b ys ∧ R (ItZ K k1 a xs k2 b ys) H1
theorem pi_zipB {X : Cx} {e e2 : Expr} {ta : TA} {p pos tpos : Pos} {elts : List Expr} {kk : Nat} (hg : Gl X "zip") (hm : X.mg "zip" = none) (ha : PA X [e, e2] ta)
    (hs : starEach [e, e2] X.env = (false, eval e X.env) :: starEach [e2] X.env := by rfl) (hpl : (backTo pos (starEach [e2] X.env)).any (·.1) = false := by rfl) :
    PI X (.Tuple elts kk tpos) (.Call (.Name "zip" p) [e, e2] [] pos) (iZipB X.K ta) := by
  constructor
  intro pins s σ H R I h
  refine Call_ (ld_blt I hg hm PyProof.Rows.boot_zip (PyProof.Rows.callWith_type1 (thn (ha.run pos pins s σ H _ I h) fun us s1 q0 => ?_) hs hpl))
  obtain ⟨vs, H1, I1, r1, k1, k2, a, b, xs, ys, ex, hqx, hqy, q⟩ := q0
  subst ex
  obtain ⟨u1, u2, rfl, ra, rb⟩ := Vals.two r1
  cases ra
  cases rb
  obtain ⟨its, rv, p1, l1⟩ := seqB I1 hqx
  obtain ⟨its2, rv2, p2, l2⟩ := seqB I1 hqy
  generalize hN : s1.heap.objs.size = N at l1 l2
  have sep : ZipSep2 (N + 4) (N + 2) (N + 3) N (N + 1) [N, a] [N + 1, b] := zip_sep2 (fp1 := [a]) (fp2 := [b]) (fun c hc => by rw [List.mem_singleton.mp hc]; exact l1) (fun c hc => by rw [List.mem_singleton.mp hc]; exact l2)
  refine zip_begins2 (beginsB k1 a its.toArray) (beginsB k2 b its2.toArray) p1 p2 fun h' hz hTI hTO h1 h2 hsz hk => ?_
  rw [hN] at hz hTI hTO h1 h2 ⊢
  refine wpAny_pyIter_zip hz ?_
  have I2 : Inv X pins σ H1 { s1 with heap := h' } := I1.kept (t' := s1.toks) hk
  refine ⟨N + 4, [N + 4, N + 2, N + 3, N, N + 1], _, _, H1, rfl, I2, turn_zipB sep (Nat.ne_of_lt l1) (Nat.ne_of_lt (Nat.lt_succ_of_lt l2)), ⟨hz, hTI, ⟨_, _, hTO⟩, itB_new h1, itB_new h2⟩, fun c hcm => ?_, q⟩
  have hle : s1.heap.objs.size ≤ c := by
    have e' : c = N + 4 ∨ c = N + 2 ∨ c = N + 3 ∨ c = N ∨ c = N + 1 := by simpa using hcm
    rw [hN]
    rcases e' with e | e | e | e | e <;> subst e
    · exact Nat.le_add_right _ _
    · exact Nat.le_add_right _ _
    · exact Nat.le_add_right _ _
    · exact Nat.le_refl _
    · exact Nat.le_add_right _ _
  have fr : H1 c = none := I1.hok.fresh hle
  exact I1.fpOk hle fr

theorem meets_en1 {v : Value} {o : Obj} {B : Heap → Prop} (b : Begins v o B) :
    Meets (Builtin.«enumerate.__new__» ⟨[.type "enumerate", v], []⟩) (fun _ R s => B s.heap ∧
      R (.ok (.ret (.ref (s.heap.push o).objs.size))) { s with heap := (s.heap.push o).push { cls := .type "enumerate", data := .fields #[.none, .bool false, .ref s.heap.objs.size, rawInt 0, .none, .none] } }) :=
  .of_wp fun prog w A R s h => by
    obtain ⟨hp, g, d, tk, os⟩ := s
    obtain ⟨hb, h⟩ := h
    have sub := sub_enumerate
    have it : ∀ {A' : Around} {E : Value → Shared → Prop} {Q : Value → Shared → Prop}, Q (.ref hp.objs.size) ⟨hp.push o, g, d, tk, os⟩ → wpAny (model prog w) A' (pyIter v) Q E ⟨hp, g, d, tk, os⟩ :=
      fun q => b.iter prog w _ _ ⟨hp, g, d, tk, os⟩ _ hb q
    wp_walk using it
    refine wpAny_stack_any fun st => wpAny_pure ?_
    split
    · rename_i c _ _ _ _ _
      cases (c == Value.type "enumerate")
      · wp_walk using it
        exact ⟨_, rfl, h⟩
      · wp_walk using it
        exact ⟨_, rfl, h⟩
    · wp_walk using it
      exact ⟨_, rfl, h⟩
theorem call_en1 {prog : Program} {w : World} {A : Around} {E : Value → Shared → Prop} {s : Shared} {v : Value} {o : Obj} {B : Heap → Prop} {Q : Value → Shared → Prop} (b : Begins v o B) (hb : B s.heap)
    (h : ∀ h', IsEnum h' (s.heap.objs.size + 1) s.heap.objs.size 0 .none → h'.get? s.heap.objs.size = some o → (∀ c u, s.heap.get? c = some u → h'.get? c = some u) → Q (.ref (s.heap.objs.size + 1)) { s with heap := h' }) :
    wpAny (model prog w) A (call (.type "enumerate") [v]) Q E s := by
  refine callType_new F.called_enumerate (by decide) (F.typeCall_enumerate_1 _) (F.newCall_enumerate_1 _) (fun obj => F.args_object_init_2 obj _) F.entry_enumerate_new (meets_en1 b) ⟨hb, ?_⟩
  have hz : (s.heap.push o).objs.size = s.heap.objs.size + 1 := Heap.size_push ..
  show _ ∧ _
  rw [hz]
  have he : IsEnum ((s.heap.push o).push { cls := .type "enumerate", data := .fields #[.none, .bool false, .ref s.heap.objs.size, rawInt 0, .none, .none] }) (s.heap.objs.size + 1) s.heap.objs.size 0 .none := by
    have q := Heap.get?_push_size (s.heap.push o) (o := { cls := .type "enumerate", data := .fields #[.none, .bool false, .ref s.heap.objs.size, rawInt 0, .none, .none] }) rfl
    rw [hz] at q
    exact q
  exact ⟨⟨_, he, rfl⟩, h _ he (Heap.get?_push_of_some _ (Heap.get?_push_size _ b.free)) fun c u x => Heap.get?_push_of_some _ (Heap.get?_push_of_some _ x)⟩
def ItE (K : PySem.W.Frag) (k : Bool) (a : Addr) (xs : List V) : It :=
  ⟨fun i H => SqB K H k a xs ∧ i < xs.length, fun i H v H' => ∃ T x o, v = .ref T ∧ H T = none ∧ o.dict = none ∧ H' = upd H T (.frz o (.tup [.int (i : Nat), x])) ∧ xs[i]? = some x, fun i H => SqB K H k a xs ∧ i = xs.length⟩
theorem turn_enB {P : Program} {w : World} {K : PySem.W.Frag} {elts : List Expr} {kk : Nat} {tpos : Pos} {a e it : Addr} {k : Bool} {xs : List V} (hne : e ≠ it) (na : a ≠ it) (nea : e ≠ a) :
    Turn P w K (.Tuple elts kk tpos) (ItE K k a xs) [e, it] e (fun i h => (∃ old, IsEnum h e it ((i : Nat) : Int) old) ∧ ItB h k it a i) where
  mem := List.mem_cons_self
  obj := fun i h st c hc => by
    obtain ⟨⟨old, he⟩, hi⟩ := st
    have hc' : c = e ∨ c = it := by simpa using hc
    rcases hc' with q | q <;> subst q
    · exact ⟨_, he, fun v q => nomatch q⟩
    · exact itB_obj hi
  keep := fun i h h' st kp => by
    obtain ⟨⟨old, he⟩, hi⟩ := st
    exact ⟨⟨old, kp e (by simp) _ he⟩, itB_at hi fun o q => kp it (by simp) o q⟩
  item := by
    intro X hP hw hK hc i pins s σ H E I hf st hg
    subst hP hw hK
    obtain ⟨⟨old, he⟩, hi⟩ := st
    obtain ⟨qx, hlt⟩ := hg
    obtain ⟨its, rv, p1, l1⟩ := seqB I qx
    have n1 := rv.length
    have hh : X.A.in1.handled = none := I.ok.hd hc
    have nef : e ∉ [it, a] := fun q => by
      rcases List.mem_cons.mp q with q | q
      · exact hne q
      · exact nea (List.mem_singleton.mp q)
    refine wpAny_pyNext_enum_itemC (drawsB hh k na its.toArray) he ⟨hi, p1⟩ (by rw [List.size_toArray]; omega) hne nef fun u h' tk e1 ho st' hT hsz hk => ?_
    refine ⟨_, rfl, wpAny_letOwnedTupleGo_enum (s := { s with heap := h', toks := tk + 1 }) ho fun h'' he' sb => ?_⟩
    have hle : e < s.heap.objs.size := Heap.lt_size he
    have hT2 : h''.get? s.heap.objs.size = some { cls := .type "tuple", data := .seq #[.int ((i : Nat) : Int) tk, u] } := (sb.2 _ (Nat.ne_of_gt hle)).trans hT
    have g1 : ∃ x, xs[i]? = some x ∧ RelV x u := by
      refine ⟨xs[i], List.getElem?_eq_getElem hlt, ?_⟩
      obtain ⟨u', hu, ru⟩ := rv.get (List.getElem?_eq_getElem hlt)
      have e1' : its[i]? = some u := by simpa using e1
      rw [hu] at e1'
      cases e1'
      exact ru
    obtain ⟨x, hx, rx⟩ := g1
    have new : ObjOk X.prog X.w (upd H s.heap.objs.size (.frz { cls := .type "tuple", data := .seq #[.int ((i : Nat) : Int) tk, u] } (.tup [.int (i : Nat), x]))) h'' s.heap.objs.size (.frz { cls := .type "tuple", data := .seq #[.int ((i : Nat) : Int) tk, u] } (.tup [.int (i : Nat), x])) :=
      ⟨hT2, by show 2 ≤ sizeLine; decide, [.int ((i : Nat) : Int) tk, u], .cons ⟨_, rfl⟩ (.cons rx .nil), ⟨_, hT2, rfl, _, rfl⟩⟩
    have I1 : Inv X pins σ (upd H s.heap.objs.size (.frz { cls := .type "tuple", data := .seq #[.int ((i : Nat) : Int) tk, u] } (.tup [.int (i : Nat), x]))) { s with heap := h'', toks := tk + 1 } :=
      I.turnedNew (t' := tk + 1) (ch := [e, it]) (fun c o hb q => (sb.2 c (fun w => hb (by simp [w]))).trans (hk c o (fun w => hb (by simp [w])) (fun w => hb (by simp [w])) q)) hf (Nat.le_refl _) new
    refine ⟨.ref s.heap.objs.size, _, I1, rfl, ⟨_, x, _, rfl, I.hok.fresh (Nat.le_refl _), rfl, rfl, hx⟩, ⟨⟨u, ?_⟩, itB_at st'.1 fun o q => (sb.2 _ (Ne.symm hne)).trans q⟩, fun c hcm => ?_⟩
    · have e2 : ((i + 1 : Nat) : Int) = (i : Int) + 1 := by omega
      rw [e2]
      exact he'
    · have hlt' : c < s.heap.objs.size := by
        have hc' : c = e ∨ c = it := by simpa using hcm
        rcases hc' with q | q <;> subst q
        · exact hle
        · obtain ⟨o, q, _⟩ := itB_obj hi
          exact Heap.lt_size q
      rw [upd_ne (Nat.ne_of_lt hlt')]
      exact (hf c hcm).1
  done := by
    intro X hP hw hK hc i pins s σ H E I hf st hg
    subst hP hw hK
    obtain ⟨⟨old, he⟩, hi⟩ := st
    obtain ⟨qx, hend⟩ := hg
    obtain ⟨its, rv, p1, l1⟩ := seqB I qx
    have n1 := rv.length
    have hh : X.A.in1.handled = none := I.ok.hd hc
    have sz : i = its.toArray.size := by rw [List.size_toArray]; omega
    subst sz
    exact wpAny_pyNext_enum_endD (drawsB hh k na its.toArray) he ⟨hi, p1⟩ fun h' hk => ⟨rfl, I.turnedL (t' := s.toks) (ch := [e, it]) (fun c o hb q => hk c o (fun w => hb (by simp [w])) q) hf⟩
  self := fun A i s Q E st h => by
    obtain ⟨⟨old, he⟩, _⟩ := st
    exact wpAny_pyIter_enum he h
def iEnB (K : PySem.W.Frag) (ta : TA) : TI := fun σ H R => ta σ H fun vs H1 => ∃ k a xs, vs = [.ref a] ∧ SqB K H1 k a xs ∧ R (ItE K k a xs) H1
theorem pi_enB {X : Cx} {e : Expr} {ta : TA} {p pos tpos : Pos} {elts : List Expr} {kk : Nat} (hg : Gl X "enumerate") (hm : X.mg "enumerate" = none) (ha : PA X [e] ta) (hs : starEach [e] X.env = [(false, eval e X.env)] := by rfl) :
    PI X (.Tuple elts kk tpos) (.Call (.Name "enumerate" p) [e] [] pos) (iEnB X.K ta) := by
  constructor
  intro pins s σ H R I h
  refine Call_ (ld_blt I hg hm boot_enumerate (PyProof.Rows.callWith_type1 (thn (ha.run pos pins s σ H _ I h) fun us s1 q0 => ?_) hs rfl))
  obtain ⟨vs, H1, I1, r1, k, a, xs, ex, hq, q⟩ := q0
  subst ex
  obtain ⟨u1, rfl, ra⟩ := Vals.one r1
  cases ra
  obtain ⟨its, rv, p1, l1⟩ := seqB I1 hq
  refine call_en1 (beginsB k a its.toArray) p1 fun h' he hit hk => wpAny_pyIter_enum he ?_
  have I2 : Inv X pins σ H1 { s1 with heap := h' } := I1.kept (t' := s1.toks) hk
  refine ⟨s1.heap.objs.size + 1, [s1.heap.objs.size + 1, s1.heap.objs.size], _, _, H1, rfl, I2, turn_enB (Nat.succ_ne_self _) (Nat.ne_of_lt l1) (Nat.ne_of_gt (Nat.lt_succ_of_lt l1)), ⟨⟨_, he⟩, itB_new hit⟩, fun c hcm => ?_, q⟩
  have hle : s1.heap.objs.size ≤ c := by
    have e' : c = s1.heap.objs.size + 1 ∨ c = s1.heap.objs.size := by simpa using hcm
    rcases e' with z | z <;> subst z
    · exact Nat.le_add_right _ _
    · exact Nat.le_refl _
  have fr : H1 c = none := I1.hok.fresh hle
  exact I1.fpOk hle fr

def ItS (K : PySem.W.Frag) (k : Bool) (a : Addr) (xs : List V) : It :=
  ⟨fun i H => SqB K H k a xs ∧ i < xs.length, fun i H v H' => H' = H ∧ xs[i]? = some v, fun i H => SqB K H k a xs ∧ i = xs.length⟩
theorem turn_mono {P : Program} {w : World} {K : PySem.W.Frag} {tg : Expr} {J J' : It} {fp : List Addr} {it : Addr} {tn : Nat → Heap → Prop} (T : Turn P w K tg J fp it tn) (h1 : ∀ i H, J'.go i H → J.go i H) (h2 : ∀ i H v H', J'.go i H → J.yld i H v H' → J'.yld i H v H')
    (h3 : ∀ i H, J'.stop i H → J.stop i H) : Turn P w K tg J' fp it tn where
  mem := T.mem
  obj := T.obj
  keep := T.keep
  item := fun X hP hw hK hc i pins s σ H E I hf st hg => by
    refine thn (T.item X hP hw hK hc i pins s σ H E I hf st (h1 i H hg)) fun r s1 ⟨u, e, q⟩ => ⟨u, e, thn q fun _ s2 ⟨x, H', I', rx, y, st', fr⟩ => ⟨x, H', I', rx, h2 i H x H' hg y, st', fr⟩⟩
  done := fun X hP hw hK hc i pins s σ H E I hf st hg => T.done X hP hw hK hc i pins s σ H E I hf st (h3 i H hg)
  self := T.self
def iSeqB (K : PySem.W.Frag) (tl : TE) : TI := fun σ H R => tl σ H fun x H1 => (∃ k a xs, x = .ref a ∧ SqB K H1 k a xs ∧ R (ItS K k a xs) H1) ∨ ∃ z, x = .str z ∧ R (Its z) H1
theorem pi_seqB {X : Cx} {tg l : Expr} {tl : TE} (hl : PE X l tl) : PI X tg l (iSeqB X.K tl) := by
  constructor
  intro pins s σ H R I h
  refine thn (hl.run pins s σ H _ I h) fun v s1 q0 => ?_
  obtain ⟨x, H1, I1, r1, q0⟩ := q0
  rcases q0 with ⟨k, a, xs, ex, hq, q⟩ | ⟨z, ez, q⟩
  rotate_left
  · subst ez
    obtain ⟨t, rfl⟩ := r1
    cases ha : z.cps.all (· < 128)
    · exact wpAny_pyIter_wide ha (pi_one (tk := s1.toks) I1 _ (turn_str _ z t "str_iterator" (.inr rfl)) ⟨_, Heap.get?_push_size _ rfl, rfl, rfl⟩ q)
    · exact wpAny_pyIter_ascii ha (pi_one (tk := s1.toks) I1 _ (turn_str _ z t "str_ascii_iterator" (.inl rfl)) ⟨_, Heap.get?_push_size _ rfl, rfl, rfl⟩ q)
  subst ex
  cases r1
  obtain ⟨its, rv, p1, l1⟩ := seqB I1 hq
  refine (beginsB k a its.toArray).iter X.prog X.w X.A _ s1 _ p1 ?_
  have e0 : (s1.heap.push (newIt k a)).get? s1.heap.objs.size = some (newIt k a) := Heap.get?_push_size _ (beginsB k a its.toArray).free
  have fp : ∀ b ∈ [s1.heap.objs.size], FpOk X pins H1 b := fun b hb => by
    rw [List.mem_singleton.mp hb]
    exact I1.fpOk (Nat.le_refl _) (I1.hok.fresh (Nat.le_refl _))
  have I2 : Inv X pins σ H1 { s1 with heap := s1.heap.push (newIt k a) } := I1.kept (t' := s1.toks) fun b o e => Heap.get?_push_of_some _ e
  cases k with
  | true =>
    refine ⟨s1.heap.objs.size, [s1.heap.objs.size], _, ItS X.K true a xs, H1, rfl, I2, turn_mono (turn_list a _) (fun i H g => ?_) (fun i H v H' g y => ?_) (fun i H g => ?_), (show Heap.IsListIter _ _ _ _ from itB_new (k := true) e0), fp, q⟩
    · exact ⟨xs, xs[i]'g.2, g.1, List.getElem?_eq_getElem g.2⟩
    · exact ⟨y.1, y.2 xs g.1⟩
    · exact ⟨xs, g.1, Nat.le_of_eq g.2.symm⟩
  | false =>
    refine ⟨s1.heap.objs.size, [s1.heap.objs.size], _, ItS X.K false a xs, H1, rfl, I2, turn_mono (turn_tuple a _) (fun i H g => ?_) (fun i H v H' g y => ?_) (fun i H g => ?_), (show Heap.IsTupleIter _ _ _ _ from itB_new (k := false) e0), fp, q⟩
    · exact ⟨xs, xs[i]'g.2, g.1, List.getElem?_eq_getElem g.2⟩
    · exact ⟨y.1, y.2 xs g.1⟩
    · exact ⟨xs, g.1, Nat.le_of_eq g.2.symm⟩
end WK

set_option Elab.async false
set_option linter.all false
set_option maxRecDepth 100000
set_option autoImplicit false
set_option maxHeartbeats 2000000
namespace WK
open PySem PySem.Spec PyProof.Rows L2

def ItD (K : PySem.W.Frag) (J : It) (F0 : Hp) (ds : List PyData) : Prop :=
  ∀ F H ι m, (∀ a o, F0 a = some o → F a = some o) → WR K F H ι m →
    (∀ (i : Nat) x, ds[i]? = some x → J.go i H ∧ ∀ v H', J.yld i H v H' → ∃ F', Stp F H ι m F' H' ι m ∧ WR K F' H' ι m ∧ Rp K F' v x) ∧ J.stop ds.length H
abbrev IF := SE → MM → R (List PyData)
def tI (C : Cn) (f : IF) : TI := fun σ H R => At C σ H fun ρ F ι m => Out C σ F H ι m (fun F _ _ J ds => ItD C.K J F ds) (f ρ m) R
theorem piI {X : Cx} {tg e : Expr} {t t' : TI} (h : PI X tg e t) (i : ∀ σ H R, t' σ H R → t σ H R) : PI X tg e t' := ⟨fun pins s σ H R I w => h.run pins s σ H R I (i σ H R w)⟩
def seqD : SV → Option (List PyData)
  | .d (.list ds) => some ds
  | .d (.tuple ds) => some ds
  | _ => none
def liftD (o : Option (List PyData)) (m : MM) : R (List PyData) := match o with
  | some ds => .ok ds m
  | none => .bad
section
variable {X : Cx} {C : Cn} {f : EF} {fa : AF} {e tg : Expr}
theorem seqD_sq {K : PySem.W.Frag} {F : Hp} {ι : Nat → Addr} {k : Nat} {v : V} {x : SV} {ds : List PyData} (r : RV K F ι k v x) (h : seqD x = some ds) : ∃ b a vs, v = .ref a ∧ SqB K F b a vs ∧ RpAll K F vs ds := by
  unfold seqD at h
  split at h
  · cases h
    obtain ⟨a, vs, rfl, h1, h2⟩ := rv_lst r
    exact ⟨true, a, vs, rfl, .inl h1, h2⟩
  · cases h
    obtain ⟨a, vs, rfl, h1, h2⟩ := rv_tup r
    exact ⟨false, a, vs, rfl, h1.t, h2⟩
  · cases h
theorem sqB_up {K : PySem.W.Frag} {F F1 : Hp} (e : ∀ a o, F a = some o → F1 a = some o) {b : Bool} {a : Addr} {xs : List V} (h : SqB K F b a xs) : SqB K F1 b a xs := by
  cases b with
  | true => exact sqL_up e h
  | false => exact sqT_up e h
def walkD : SV → Option (List PyData)
  | .d (.str z) => some (z.cps.toList.map fun c => .str ⟨#[c]⟩)
  | x => seqD x
def iSeq (f : EF) : IF := fun ρ m => (f ρ m).bind fun x m1 => liftD (walkD x) m1
theorem di_seq (hk : X.K = C.K) (h : PE X e (tS C f)) : PI X tg e (tI C (iSeq f)) := piI (pi_seqB h) fun σ H Q q => by
  obtain ⟨ρ, F, ι, m, w, s, o⟩ := q
  refine at_intro w s (Out.bind o fun x m1 v F1 H1 ι1 _ st w1 rv o1 => ?_)
  rw [hk]
  unfold walkD at o1
  split at o1
  · rename_i z _
    refine .inr ⟨z, rv_str rv, Out.ok o1 w1 ?_⟩
    intro F' H' ι' m' hF w'
    have wk := walk_str (z := z)
    have ln : (z.cps.toList.map fun c => PyData.str ⟨#[c]⟩).length = z.cps.size := by rw [List.length_map, Array.length_toList]
    refine ⟨fun i x hi => ?_, by rw [ln]; exact wk.stops H' trivial⟩
    have hlt := (List.getElem?_eq_some_iff.mp hi).1
    rw [ln] at hlt
    rw [List.getElem?_map] at hi
    refine ⟨wk.goes i H' hlt trivial, fun v' H'' y => ?_⟩
    obtain ⟨e1, c, hc, e2⟩ := wk.yields i H' v' H'' hlt trivial y
    subst e1
    subst e2
    have hc' : z.cps.toList[i]? = some c := by rw [Array.getElem?_toList]; exact hc
    rw [hc'] at hi
    cases hi
    exact ⟨F', Stp.refl, w', Rp.str _⟩
  · cases q : seqD x with
    | none =>
      rw [q] at o1
      exact (Out.not_bad o1).elim
    | some ds =>
      rw [q] at o1
      obtain ⟨b, a, vs, rfl, h1, h2⟩ := seqD_sq rv q
      refine .inl ⟨b, a, vs, rfl, sqB_up w1.sub h1, Out.ok o1 w1 ?_⟩
      intro F' H' ι' m' hF w'
      have hs := sqB_up w'.sub (sqB_up hF h1)
      refine ⟨fun i x hi => ?_, hs, h2.length.symm⟩
      obtain ⟨u, hu, ru⟩ := h2.get hi
      refine ⟨⟨hs, (List.getElem?_eq_some_iff.mp hu).1⟩, fun v' H'' y => ?_⟩
      obtain ⟨e1, e2⟩ := y
      subst e1
      rw [hu] at e2
      cases e2
      exact ⟨F', Stp.refl, w', rp_up hF x u ru⟩
def rangeD (lo : Int) (n : Nat) : List PyData := (List.range n).map fun i => .int (lo + (i : Nat))
theorem rangeD_len (lo : Int) (n : Nat) : (rangeD lo n).length = n := by
  unfold rangeD
  rw [List.length_map, List.length_range]
theorem itr_d {K : PySem.W.Frag} {F : Hp} (lo : Int) (n : Nat) : ItD K (Itr lo n) F (rangeD lo n) := by
  intro F' H' ι' m' hF w'
  refine ⟨fun i x hi => ?_, ?_⟩
  · have hlt : i < n := by
      have := (List.getElem?_eq_some_iff.mp hi).1
      rw [rangeD_len] at this
      exact this
    unfold rangeD at hi
    rw [List.getElem?_map, List.getElem?_range hlt] at hi
    cases hi
    refine ⟨hlt, fun v H'' y => ?_⟩
    obtain ⟨e1, e2⟩ := y
    subst e1
    subst e2
    exact ⟨F', Stp.refl, w', Rp.int _⟩
  · show n ≤ (rangeD lo n).length
    rw [rangeD_len]
    exact Nat.le_refl _
def iRange1 (fa : AF) : IF := fun ρ m => (fa ρ m).bind fun xs m1 => match xs with
  | [.d (.int j)] => if -(2 ^ 62) ≤ j ∧ j < 2 ^ 62 then .ok (rangeD 0 j.toNat) m1 else .bad
  | _ => .bad
theorem di_range1 (h : PI X tg e (iRng1 (tA C fa))) : PI X tg e (tI C (iRange1 fa)) := piI h fun σ H Q q => by
  obtain ⟨ρ, F, ι, m, w, s, o⟩ := q
  refine at_intro w s (Out.bind o fun xs m1 vs F1 H1 ι1 _ st w1 rv o1 => ?_)
  split at o1
  · split at o1
    · rename_i hz
      obtain ⟨v, rfl, r⟩ := rvs1 rv
      rw [rv_int r]
      exact ⟨_, rfl, hz.1, hz.2, Out.ok o1 w1 (itr_d _ _)⟩
    · exact (Out.not_bad o1).elim
  · exact (Out.not_bad o1).elim
def zipD (ds es : List PyData) : List PyData := List.zipWith (fun a b => .tuple [a, b]) ds es
def iZip (fa : AF) : IF := fun ρ m => (fa ρ m).bind fun xs m1 => match xs with
  | [x, y] => match seqD x, seqD y with
    | some ds, some es => .ok (zipD ds es) m1
    | _, _ => .bad
  | _ => .bad
theorem zipD_len (ds es : List PyData) : (zipD ds es).length = min ds.length es.length := List.length_zipWith
theorem di_zip (hk : X.K = C.K) (h : PI X tg e (iZipB X.K (tA C fa))) : PI X tg e (tI C (iZip fa)) := piI h fun σ H Q q => by
  obtain ⟨ρ, F, ι, m, w, s, o⟩ := q
  refine at_intro w s (Out.bind o fun xs m1 vs F1 H1 ι1 _ st w1 rv o1 => ?_)
  rw [hk]
  split at o1
  · split at o1
    · rename_i ds es hd he
      obtain ⟨v, u, rfl, r, r2⟩ := rvs2 rv
      obtain ⟨k1, a, xs, rfl, h1, h2⟩ := seqD_sq r hd
      obtain ⟨k2, b, ys, rfl, h3, h4⟩ := seqD_sq r2 he
      refine ⟨k1, k2, a, b, xs, ys, rfl, sqB_up w1.sub h1, sqB_up w1.sub h3, Out.ok o1 w1 ?_⟩
      intro F' H' ι' m' hF w'
      have s1 := sqB_up w'.sub (sqB_up hF h1)
      have s2 := sqB_up w'.sub (sqB_up hF h3)
      have l1 := h2.length
      have l2 := h4.length
      refine ⟨fun i x hi => ?_, s1, s2, by rw [zipD_len, l1, l2]⟩
      unfold zipD at hi
      rw [List.getElem?_zipWith] at hi
      split at hi
      · rename_i c d hc hd'
        cases hi
        obtain ⟨uc, huc, rc⟩ := h2.get hc
        obtain ⟨ud, hud, rd⟩ := h4.get hd'
        have b1 := (List.getElem?_eq_some_iff.mp huc).1
        have b2 := (List.getElem?_eq_some_iff.mp hud).1
        refine ⟨⟨s1, s2, by omega⟩, fun v' H'' y => ?_⟩
        obtain ⟨T, x', y', ob, rfl, hT, hd0, rfl, e1, e2⟩ := y
        rw [huc] at e1
        cases e1
        rw [hud] at e2
        cases e2
        have st' := w'.frz_stp hT (HO.frz ob (.tup [uc, ud]))
        refine ⟨_, st', w'.frz hT _, Rp.tup (SqN.new hd0) (rpAll_up st'.frz _ _ (.cons (rp_up hF _ _ rc) (.cons (rp_up hF _ _ rd) .nil)))⟩
      · cases hi
    · exact (Out.not_bad o1).elim
  · exact (Out.not_bad o1).elim
def enumD (ds : List PyData) : List PyData := ds.mapIdx fun i d => .tuple [.int (i : Nat), d]
def iEnum (fa : AF) : IF := fun ρ m => (fa ρ m).bind fun xs m1 => match xs with
  | [x] => match seqD x with
    | some ds => .ok (enumD ds) m1
    | none => .bad
  | _ => .bad
theorem di_enum (hk : X.K = C.K) (h : PI X tg e (iEnB X.K (tA C fa))) : PI X tg e (tI C (iEnum fa)) := piI h fun σ H Q q => by
  obtain ⟨ρ, F, ι, m, w, s, o⟩ := q
  refine at_intro w s (Out.bind o fun xs m1 vs F1 H1 ι1 _ st w1 rv o1 => ?_)
  rw [hk]
  split at o1
  · split at o1
    · rename_i ds hd
      obtain ⟨v, rfl, r⟩ := rvs1 rv
      obtain ⟨k1, a, xs, rfl, h1, h2⟩ := seqD_sq r hd
      refine ⟨k1, a, xs, rfl, sqB_up w1.sub h1, Out.ok o1 w1 ?_⟩
      intro F' H' ι' m' hF w'
      have s1 := sqB_up w'.sub (sqB_up hF h1)
      have l1 := h2.length
      refine ⟨fun i x hi => ?_, s1, by unfold enumD; rw [List.length_mapIdx, l1]⟩
      unfold enumD at hi
      rw [List.getElem?_mapIdx] at hi
      cases hc : ds[i]? with
      | none =>
        rw [hc] at hi
        cases hi
      | some c =>
        rw [hc] at hi
        cases hi
        obtain ⟨uc, huc, rc⟩ := h2.get hc
        refine ⟨⟨s1, (List.getElem?_eq_some_iff.mp huc).1⟩, fun v' H'' y => ?_⟩
        obtain ⟨T, x', ob, rfl, hT, hd0, rfl, e1⟩ := y
        rw [huc] at e1
        cases e1
        have st' := w'.frz_stp hT (HO.frz ob (.tup [.int (i : Nat), uc]))
        refine ⟨_, st', w'.frz hT _, Rp.tup (SqN.new hd0) (rpAll_up st'.frz _ _ (.cons (.int _) (.cons (rp_up hF _ _ rc) .nil)))⟩
    · exact (Out.not_bad o1).elim
  · exact (Out.not_bad o1).elim
end

abbrev GF := PyData → SE → Option SE
def TgD (C : Cn) (g : TG) (tg : GF) (vs : List Nat) : Prop := ∀ F H ι (m : MM) v x σ ρ ρ' (Q : L2.St → Hp → Prop), WR C.K F H ι m → Slots C.K F ι m.length σ ρ → Rp C.K F v x → tg x ρ = some ρ' →
  (∀ σ', Slots C.K F ι m.length σ' ρ' → wipe σ' vs = wipe σ vs → Q σ' H) → g v σ H Q
abbrev GFs := List PyData → SE → Option SE
def TgsD (C : Cn) (g : TGs) (tg : GFs) (vs : List Nat) : Prop := ∀ F H ι (m : MM) us xs σ ρ ρ' (Q : L2.St → Hp → Prop), WR C.K F H ι m → Slots C.K F ι m.length σ ρ → RpAll C.K F us xs → tg xs ρ = some ρ' →
  (∀ σ', Slots C.K F ι m.length σ' ρ' → wipe σ' vs = wipe σ vs → Q σ' H) → g us σ H Q
theorem wipe_get {σ : L2.St} {vs : List Nat} {i : Nat} : (wipe σ vs)[i]? = if i ∈ vs then (if i < σ.length then some none else none) else σ[i]? := by
  induction vs with
  | nil => rw [if_neg List.not_mem_nil]; rfl
  | cons v r ih =>
    show ((wipe σ r).set v none)[i]? = _
    by_cases h : v = i
    · subst h
      rw [if_pos List.mem_cons_self, List.getElem?_set, if_pos rfl, wipe_length]
    · rw [List.getElem?_set_ne h, ih]
      by_cases h2 : i ∈ r
      · rw [if_pos h2, if_pos (List.mem_cons_of_mem _ h2)]
      · rw [if_neg h2, if_neg fun z => by
          rcases List.mem_cons.mp z with z | z
          · exact h z.symm
          · exact h2 z]
theorem wipe_set {σ : L2.St} {vs : List Nat} {i : Nat} {x : Option V} (h : i ∈ vs) : wipe (σ.set i x) vs = wipe σ vs := by
  apply List.ext_getElem?
  intro j
  rw [wipe_get, wipe_get, List.length_set]
  by_cases hj : j ∈ vs
  · rw [if_pos hj, if_pos hj]
  · rw [if_neg hj, if_neg hj, List.getElem?_set_ne fun z => hj (by rw [← z]; exact h)]
theorem wipe_twice {σ : L2.St} {vs : List Nat} : wipe (wipe σ vs) vs = wipe σ vs := by
  apply List.ext_getElem?
  intro j
  rw [wipe_get, wipe_get, wipe_length]
  by_cases h : j ∈ vs
  · rw [if_pos h, if_pos h]
  · rw [if_neg h, if_neg h]
def gN (i : Nat) : GF := fun x ρ => some (ρ.set i (some (.d x)))
section
variable {C : Cn}
theorem tg_name {i : Nat} {vs : List Nat} (h : i ∈ vs) : TgD C (gName i) (gN i) vs := by
  intro F H ι m v x σ ρ ρ' Q w s r e q
  cases e
  exact q _ (s.set (x := .d x) r i) (wipe_set h)
def gsNil : GFs := fun xs ρ => match xs with | [] => some ρ | _ => none
theorem tgs_nil {vs : List Nat} : TgsD C gNil gsNil vs := by
  intro F H ι m us xs σ ρ ρ' Q w s r e q
  cases r with
  | nil =>
    cases e
    exact ⟨rfl, q σ s rfl⟩
  | cons _ _ => cases e
def gsCons (g : GF) (r : GFs) : GFs := fun xs ρ => match xs with
  | x :: ys => match g x ρ with
    | some ρ1 => r ys ρ1
    | none => none
  | [] => none
theorem tgs_cons {g : TG} {gs : TGs} {a : GF} {b : GFs} {vs : List Nat} (h1 : TgD C g a vs) (h2 : TgsD C gs b vs) : TgsD C (gCons g gs) (gsCons a b) vs := by
  intro F H ι m us xs σ ρ ρ' Q w s r e q
  cases r with
  | nil => cases e
  | cons r0 rr =>
    unfold gsCons at e
    dsimp only at e
    split at e
    · rename_i ρ1 e1
      refine ⟨_, _, rfl, h1 F H ι m _ _ σ ρ ρ1 _ w s r0 e1 fun σ1 s1 z1 => ?_⟩
      exact h2 F H ι m _ _ σ1 ρ1 ρ' _ w s1 rr e fun σ2 s2 z2 => q σ2 s2 (z2.trans z1)
    · cases e
def gT (n : Nat) (gs : GFs) : GF := fun x ρ => match x with
  | .tuple ds => if ds.length = n then gs ds ρ else none
  | _ => none
theorem tg_tup {n : Nat} {gs : TGs} {b : GFs} {vs : List Nat} (h : TgsD C gs b vs) : TgD C (gTup C.K n gs) (gT n b) vs := by
  intro F H ι m v x σ ρ ρ' Q w s r e q
  unfold gT at e
  split at e
  · split at e
    · rename_i ds hn
      obtain ⟨a, us, rfl, h1, h2⟩ := rv_tup (ι := ι) (k := m.length) (show RV C.K F ι m.length v (.d (.tuple ds)) from r)
      exact ⟨a, us, rfl, (sqN_in w h1).t, by rw [h2.length]; exact hn, h F H ι m us ds σ ρ ρ' Q w s h2 e q⟩
    · cases e
  · cases e
end

def wipeS (ρ : SE) : List Nat → SE
  | [] => ρ
  | v :: vs => (wipeS ρ vs).set v none
theorem Slots.wipe {K : PySem.W.Frag} {F : Hp} {ι : Nat → Addr} {k : Nat} {σ : L2.St} {ρ : SE} (s : Slots K F ι k σ ρ) : ∀ vs : List Nat, Slots K F ι k (L2.wipe σ vs) (wipeS ρ vs)
  | [] => s
  | v :: vs => by
    have ih := Slots.wipe s vs
    refine ⟨by unfold L2.wipe wipeS; rw [List.length_set, List.length_set]; exact ih.1, fun i x e => ?_⟩
    unfold wipeS at e
    have ne : v ≠ i := fun z => by
      subst z
      rw [List.getElem?_set, if_pos rfl] at e
      split at e <;> cases e
    rw [List.getElem?_set_ne ne] at e
    obtain ⟨u, h1, h2⟩ := ih.2 i x e
    exact ⟨u, by unfold L2.wipe; rw [List.getElem?_set_ne ne]; exact h1, h2⟩
def R.nox {α : Type} (r : R α) : R α := match r with
  | .ok a m => .ok a m
  | _ => .bad
def compS (tg : GF) (own : List Nat) (ft : TF) (fe : EF) (ρ : SE) : List PyData → MM → R (List SV)
  | [], m => .ok [] m
  | x :: r, m => match tg x (wipeS ρ own) with
    | none => .bad
    | some ρ1 => (ft ρ1 m).nox.bind fun b m1 => if b then (fe ρ1 m1).nox.bind fun y m2 => (compS tg own ft fe ρ r m2).bind fun ys m3 => .ok (y :: ys) m3 else compS tg own ft fe ρ r m1
def fComp (fi : IF) (tg : GF) (own : List Nat) (ft : TF) (fe : EF) : LF := fun ρ m => (fi ρ m).bind fun ds m1 => if ds.length ≤ cap then compS tg own ft fe ρ ds m1 else .bad
abbrev Cn.in0 (C : Cn) : Cn := { C with E := fun _ => E0 }
section
variable {C : Cn} {F H F1 H1 : Hp} {ι ι1 : Nat → Addr} {m m1 : MM} {α β : Type} {rel : Hp → (Nat → Addr) → Nat → β → α → Prop}
theorem Out.nox {σ : L2.St} {r : R α} {g : α → MM → R (List SV)} {δ : Type} {rel' : Hp → (Nat → Addr) → Nat → δ → List SV → Prop} {Q : δ → Hp → Prop} {Q1 : β → Hp → Prop} (h : Out C σ F H ι m rel' (r.nox.bind g) Q)
    (k : ∀ a m1 b F1 H1 ι1, r = .ok a m1 → Stp F H ι m F1 H1 ι1 m1 → WR C.K F1 H1 ι1 m1 → rel F1 ι1 m1.length b a → Q1 b H1) : Out C.in0 σ F H ι m rel r Q1 := by
  cases r with
  | ok a m' => exact fun b F' H' ι' t w q => k a m' b F' H' ι' rfl t w q
  | err c m' => exact h.elim
  | bad => exact h.elim
theorem WR.side {K : PySem.W.Frag} (w : WR K F H ι m) {D : Addr} (hF : F D = none) (hl : ∀ n, n < m.length → ι n ≠ D) (o : HO) : WR K F (upd H D o) ι m := by
  refine ⟨fun a u h => ?_, fun n xs e ng => ?_, w.inj, fun n hn => ?_⟩
  · have : a ≠ D := fun z => by rw [z, hF] at h; cases h
    rw [upd_ne this]
    exact w.sub a u h
  · obtain ⟨h1, vs, h2, h3⟩ := w.obj n xs e ng
    exact ⟨h1, vs, by rw [upd_ne (hl n (WR.lt e))]; exact h2, h3⟩
  · rw [upd_ne (hl n hn)]
    exact w.al n hn
def hide (H : Hp) (D : Addr) : Hp := fun a => if a = D then none else H a
theorem hide_same {D : Addr} : hide H D D = none := if_pos rfl
theorem hide_ne {D a : Addr} (h : a ≠ D) : hide H D a = H a := if_neg h
theorem hide_upd {D : Addr} {o : HO} (h : H D = some o) : upd (hide H D) D o = H := by
  funext a
  by_cases z : a = D
  · rw [z, upd_same, h]
  · rw [upd_ne z, hide_ne z]
theorem WR.hide {K : PySem.W.Frag} (w : WR K F H ι m) {D : Addr} (hF : F D = none) (hl : ∀ n, n < m.length → ι n ≠ D) : WR K F (hide H D) ι m := by
  refine ⟨fun a u h => ?_, fun n xs e ng => ?_, w.inj, fun n hn => ?_⟩
  · have : a ≠ D := fun z => by rw [z, hF] at h; cases h
    rw [hide_ne this]
    exact w.sub a u h
  · obtain ⟨h1, vs, h2, h3⟩ := w.obj n xs e ng
    exact ⟨h1, vs, by rw [hide_ne (hl n (WR.lt e))]; exact h2, h3⟩
  · rw [hide_ne (hl n hn)]
    exact w.al n hn
theorem Stp.side (s : Stp F H ι m F1 H1 ι1 m1) {D : Addr} (hD : H D = none) (o : HO) : Stp F H ι m F1 (upd H1 D o) ι1 m1 := by
  refine ⟨s.len, s.same, s.new, s.gone, fun a u h l => ?_, fun a h => ?_, s.frz, s.thw⟩
  · have : a ≠ D := fun z => by rw [z, hD] at h; cases h
    rw [upd_ne this]
    exact s.keep a u h l
  · by_cases z : a = D
    · rw [z]; exact hD
    · rw [upd_ne z] at h
      exact s.trk a h
theorem Stp.hide (s : Stp F H ι m F1 H1 ι1 m1) {D : Addr} (hD : H D = none) : Stp F H ι m F1 (WK.hide H1 D) ι1 m1 := by
  refine ⟨s.len, s.same, s.new, s.gone, fun a u h l => ?_, fun a h => ?_, s.frz, s.thw⟩
  · have : a ≠ D := fun z => by rw [z, hD] at h; cases h
    rw [hide_ne this]
    exact s.keep a u h l
  · by_cases z : a = D
    · rw [z]; exact hD
    · rw [hide_ne z] at h
      exact s.trk a h
theorem side_ne {D : Addr} (s : Stp F H ι m F1 H1 ι1 m1) (hF : F D = none) (hl : ∀ n, n < m.length → ι n ≠ D) {o : HO} (hD : H D = some o) : F1 D = none ∧ (∀ n, n < m1.length → ι1 n ≠ D) ∧ H1 D = some o := by
  have nl : ¬ Live m ι D := fun l => by
    obtain ⟨n, hn, e⟩ := live_lt l
    exact hl n hn e
  refine ⟨?_, fun n hn e => ?_, s.keep D o hD nl⟩
  · cases q : F1 D with
    | none => rfl
    | some u =>
      rcases s.thw D u q with z | z | z
      · rw [hF] at z; cases z
      · rw [hD] at z; cases z
      · exact absurd z nl
  · by_cases h : n < m.length
    · rw [s.same n h] at e
      exact hl n h e
    · have := s.new n (by omega) hn
      rw [e, hD] at this
      cases this
end
section
variable {C : Cn} {wi : TI} {g : TG} {tg : GF} {own : List Nat} {ft : TF} {fe : EF} {fi : IF}
theorem comp_i (hg : TgD C.in0 g tg own) (σ : L2.St) (H : Hp) (Q : VK) (q : tL C (fComp fi tg own ft fe) σ H Q) : tLc (tI C fi) g (tT C.in0 ft) (tS C.in0 fe) own σ H Q := by
  obtain ⟨ρ, F, ι, m, w, s, o⟩ := q
  refine at_intro w s (Out.bind o fun ds m1 J F1 H1 ι1 _ st w1 it o1 => ?_)
  split at o1
  · rename_i hcap
    generalize hT : compS tg own ft fe ρ ds m1 = told at o1
    intro D hD
    have slots1 := s.up st
    have fD : F1 D = none := w1.free hD
    have lD : ∀ n, n < m1.length → ι1 n ≠ D := fun n hn => w1.ne hD hn
    -- the word: what is made so far, what is left
    refine ⟨fun i k H' => ∃ F' ι' m' acc ys, i + k = ds.length ∧ Stp F1 H1 ι1 m1 F' H' ι' m' ∧ WR C.K F' H' ι' m' ∧ H' D = some (.lst acc) ∧ F' D = none ∧ (∀ n, n < m'.length → ι' n ≠ D) ∧ RVs C.K F' ι' m'.length acc ys ∧ acc.length ≤ i ∧
      told = (compS tg own ft fe ρ (ds.drop i) m').bind (fun zs m2 => .ok (ys ++ zs) m2),
      ⟨ds.length, F1, ι1, m1, [], [], by omega, Stp.refl.side hD _, w1.side fD lD _, upd_same, fD, lD, .nil, Nat.zero_le _, ?_⟩, ?_⟩
    · rw [List.drop_zero, hT]
      cases told <;> rfl
    · rintro i k H' ⟨F', ι', m', acc, ys, ek, st', w', hacc, fD', lD', racc, hlen, heq⟩
      have itn := it F' H' ι' m' st'.frz w'
      by_cases hi : i < ds.length
      · have hx : ds[i]? = some ds[i] := List.getElem?_eq_getElem hi
        obtain ⟨go, yl⟩ := itn.1 i _ hx
        have hdrop : ds.drop i = ds[i] :: ds.drop (i + 1) := List.drop_eq_getElem_cons hi
        rw [hdrop] at heq
        refine .inr ⟨go, fun H'' => ∃ F' ι' m' acc ys, (i + 1) + (k - 1) = ds.length ∧ Stp F1 H1 ι1 m1 F' H'' ι' m' ∧ WR C.K F' H'' ι' m' ∧ H'' D = some (.lst acc) ∧ F' D = none ∧ (∀ n, n < m'.length → ι' n ≠ D) ∧ RVs C.K F' ι' m'.length acc ys ∧ acc.length ≤ i + 1 ∧
          told = (compS tg own ft fe ρ (ds.drop (i + 1)) m').bind (fun zs m2 => .ok (ys ++ zs) m2), fun H'' nx => ⟨k - 1, by omega, nx⟩, fun x H2 y => ?_⟩
        obtain ⟨F2, st2, w2, rx⟩ := yl x H2 y
        obtain ⟨fD2, lD2, hD2⟩ := side_ne st2 fD' lD' hacc
        -- the target
        unfold compS at heq
        cases htg : tg ds[i] (wipeS ρ own) with
        | none =>
          rw [htg] at heq
          rw [heq] at o1
          exact (Out.not_bad o1).elim
        | some ρ1 =>
          rw [htg] at heq
          dsimp only at heq
          have slots2 : Slots C.K F2 ι' m'.length (L2.wipe σ own) (wipeS ρ own) := ((slots1.up st').up st2).wipe own
          refine hg F2 H2 ι' m' x ds[i] _ _ ρ1 _ w2 slots2 rx htg fun σ2 s2 z2 => ⟨z2.trans wipe_twice, ?_⟩
          have o2 : OutL C σ F1 H1 ι1 m1 (((ft ρ1 m').nox.bind fun b m1 => if b then (fe ρ1 m1).nox.bind fun y m2 => (compS tg own ft fe ρ (ds.drop (i + 1)) m2).bind fun ys m3 => .ok (y :: ys) m3 else compS tg own ft fe ρ (ds.drop (i + 1)) m1).bind fun zs m2 => .ok (ys ++ zs) m2) Q := by
            rw [← heq]; exact o1
          cases hft : ft ρ1 m' with
          | err c m3 =>
            rw [hft] at o2
            exact (Out.not_bad o2).elim
          | bad =>
            rw [hft] at o2
            exact (Out.not_bad o2).elim
          | ok b m3 =>
            refine at_intro (C := C.in0) w2 s2 (show Out C.in0 σ2 F2 H2 ι' m' relB (ft ρ1 m') _ from ?_)
            rw [hft]
            intro b' F3 H3 ι3 st3 w3 eb
            have eb' : b' = b := eb
            subst eb'
            obtain ⟨fD3, lD3, hD3⟩ := side_ne st3 fD2 lD2 hD2
            have hn : (ft ρ1 m').nox = .ok b' m3 := by rw [hft]; rfl
            rw [hn, bind_ok] at heq
            cases b' with
            | false =>
              rw [if_neg Bool.false_ne_true]
              rw [if_neg Bool.false_ne_true] at heq
              exact ⟨F3, ι3, m3, acc, ys, by omega, (st'.trans st2).trans st3, w3, hD3, fD3, lD3, (racc.up st2).up st3, by omega, heq⟩
            | true =>
              rw [if_pos rfl]
              rw [if_pos rfl] at heq
              cases hfe : fe ρ1 m3 with
              | err c m4 =>
                rw [hfe] at heq
                rw [heq] at o1
                exact (Out.not_bad o1).elim
              | bad =>
                rw [hfe] at heq
                rw [heq] at o1
                exact (Out.not_bad o1).elim
              | ok z m4 =>
                have hn2 : (fe ρ1 m3).nox = .ok z m4 := by rw [hfe]; rfl
                rw [hn2, bind_ok] at heq
                refine at_intro (C := C.in0) w3 (s2.up st3) (show Out C.in0 σ2 F3 H3 ι3 m3 (relV C.K) (fe ρ1 m3) _ from ?_)
                rw [hfe]
                intro zv F4 H4 ι4 st4 w4 rz
                obtain ⟨fD4, lD4, hD4⟩ := side_ne st4 fD3 lD3 hD3
                refine ⟨acc, hD4, cap_lt (by omega), F4, ι4, m4, acc ++ [zv], ys ++ [z], by omega, Stp.side (((st'.trans st2).trans st3).trans st4) hD _, w4.side fD4 lD4 _, upd_same, fD4, lD4,
                  RVs.append (((racc.up st2).up st3).up st4) (.cons rz .nil), by rw [List.length_append]; show acc.length + 1 ≤ i + 1; omega, ?_⟩
                rw [heq]
                cases compS tg own ft fe ρ (ds.drop (i + 1)) m4 with
                | ok zs m5 =>
                  show R.ok _ _ = R.ok _ _
                  rw [List.append_assoc]
                  rfl
                | err c m5 => rfl
                | bad => rfl
      · have ei : i = ds.length := by omega
        subst ei
        refine .inl ⟨itn.2, ?_⟩
        have e0 : ds.drop ds.length = [] := List.drop_length
        rw [e0] at heq
        rw [heq] at o1
        have o2 : OutL C σ F1 H1 ι1 m1 (.ok (ys ++ []) m') Q := o1
        rw [List.append_nil] at o2
        have fin := o2 acc F' (WK.hide H' D) ι' (st'.hide hD) (w'.hide fD' lD') racc D hide_same
        rw [hide_upd hacc] at fin
        exact fin
  · exact (Out.not_bad o1).elim
theorem dl_comp {X : Cx} {elt tgE iter : Expr} {ifs : List Expr} {scope : Scope} {own' : List (Str × Nat)} {pos : Pos} (hp : PE X (.ListComp elt [⟨tgE, iter, ifs, 0⟩] scope pos) (tLc (tI C fi) g (tT C.in0 ft) (tS C.in0 fe) (own'.map (·.2)))) (hg : TgD C.in0 g tg (own'.map (·.2))) :
    PE X (.ListComp elt [⟨tgE, iter, ifs, 0⟩] scope pos) (tL C (fComp fi tg (own'.map (·.2)) ft fe)) := peI hp fun σ H Q q => comp_i hg σ H Q q
end
def tYesF : TF := fun _ m => .ok true m
theorem yes_i {C : Cn} (σ : L2.St) (H : Hp) (Q : Bool → Hp → Prop) (q : tT C tYesF σ H Q) : tYes σ H Q := by
  obtain ⟨ρ, F, ι, m, w, s, o⟩ := q
  exact Out.ok o w rfl
theorem ptsI {X : Cx} {e : List Expr} {t t' : TT} (h : PTs X e t) (i : ∀ σ H Q, t' σ H Q → t σ H Q) : PTs X e t' := ⟨fun pins s σ H Q I w => h.run pins s σ H Q I (i σ H Q w)⟩
theorem dts_nil {X : Cx} {C : Cn} : PTs X [] (tT C tYesF) := ptsI pts_nil fun σ H Q q => yes_i σ H Q q
theorem dts_one {X : Cx} {C : Cn} {c : Expr} {t : TF} (h : PT X c (tT C t)) : PTs X [c] (tT C t) := pts_one h
end WK

set_option Elab.async false
set_option linter.all false
set_option maxRecDepth 100000
set_option autoImplicit false
set_option maxHeartbeats 2000000
namespace WK
open PySem PySem.Spec PyProof.Rows L2
def okRef (k : Nat) : SV → Bool
  | .o n => decide (n < k)
  | _ => true
def okMO (k : Nat) : MO → Bool
  | .lst xs => xs.all (okRef k)
  | .dct kvs => kvs.all fun p => okRef k p.2
  | .ins _ fs => fs.all fun p => okRef k p.2
  | .gone => true
def keepOk (k : Nat) : MM → MM → Bool
  | [], _ => true
  | _ :: _, [] => false
  | o :: r, o' :: r' => (decide (o = o') || okMO k o') && keepOk k r r'
def cut (m m' : MM) : MM := if keepOk m.length m m' then m'.take m.length else m'
section
variable {K : PySem.W.Frag} {F H F1 H1 : Hp} {ι ι1 : Nat → Addr} {m m1 : MM} {C : Cn}
theorem rv_take {k j : Nat} {v : V} {x : SV} (h : RV K F ι j v x) (hx : okRef k x = true) : RV K F ι k v x := by
  cases x with
  | d x => exact h
  | k x => exact h
  | o n => exact ⟨of_decide_eq_true hx, h.2⟩
theorem rvs_take {k j : Nat} : ∀ {vs : List V} {xs : List SV}, RVs K F ι j vs xs → xs.all (okRef k) = true → RVs K F ι k vs xs
  | _, _, .nil, _ => .nil
  | _, _, .cons h t, e => by
    rw [List.all_cons, Bool.and_eq_true] at e
    exact .cons (rv_take h e.1) (rvs_take t e.2)
theorem rks_take {κ : Type} {k j : Nat} : ∀ {vs : List (κ × V)} {xs : List (κ × SV)}, RKs K F ι j vs xs → (xs.all fun p => okRef k p.2) = true → RKs K F ι k vs xs
  | _, _, .nil, _ => .nil
  | _, _, .cons h t, e => by
    rw [List.all_cons, Bool.and_eq_true] at e
    exact .cons ⟨h.1, rv_take h.2 e.1⟩ (rks_take t e.2)
theorem ro_take {k j : Nat} {o : MO} {u : HO} (h : RO K F ι j o u) (e : okMO k o = true) : RO K F ι k o u := by
  cases o <;> cases u <;> first | exact h.elim | skip
  · exact rvs_take h e
  · exact rks_take h e
  · exact ⟨h.1, rks_take h.2 e⟩
theorem WR.take {k : Nat} (w : WR K F H ι m) (hk : k ≤ m.length) (h : (m.take k).all (okMO k) = true) : WR K F H ι (m.take k) := by
  have ln : (m.take k).length = k := by rw [List.length_take]; omega
  refine ⟨w.sub, fun n o e ng => ?_, fun i j hi hj => w.inj i j (by omega) (by omega), fun n hn => w.al n (by omega)⟩
  have hn : n < k := by
    have := WR.lt e
    omega
  have e' : m[n]? = some o := by
    rw [List.getElem?_take] at e
    rw [if_pos hn] at e
    exact e
  obtain ⟨h1, vs, h2, h3⟩ := w.obj n o e' ng
  refine ⟨h1, vs, h2, ?_⟩
  rw [ln]
  exact ro_take h3 (List.all_eq_true.mp h _ (List.mem_of_getElem? e))
theorem Stp.take (s : Stp F H ι m F1 H1 ι1 m1) : Stp F H ι m F1 H1 ι1 (m1.take m.length) := by
  have l := s.len
  have ln : (m1.take m.length).length = m.length := by rw [List.length_take]; omega
  refine ⟨by omega, s.same, fun n h1 h2 => absurd h1 (by omega), fun n e => ?_, s.keep, s.trk, s.frz, s.thw⟩
  have hn : n < m.length := (List.getElem?_eq_some_iff.mp e).1
  rw [List.getElem?_take, if_pos hn]
  exact s.gone n e
theorem rvs_ok {k : Nat} : ∀ {vs : List V} {xs : List SV}, RVs K F ι k vs xs → xs.all (okRef k) = true
  | _, _, .nil => rfl
  | _, _, .cons (b := x) h t => by
    rw [List.all_cons, rvs_ok t, Bool.and_true]
    cases x with
    | o n => exact decide_eq_true h.1
    | d _ => rfl
    | k _ => rfl
theorem rks_ok {κ : Type} {k : Nat} : ∀ {vs : List (κ × V)} {xs : List (κ × SV)}, RKs K F ι k vs xs → (xs.all fun p => okRef k p.2) = true
  | _, _, .nil => rfl
  | _, _, .cons (b := x) h t => by
    rw [List.all_cons, rks_ok t, Bool.and_true]
    obtain ⟨k1, x⟩ := x
    cases x with
    | o n => exact decide_eq_true h.2.1
    | d _ => rfl
    | k _ => rfl
theorem ro_ok {k : Nat} {o : MO} {u : HO} (h : RO K F ι k o u) : okMO k o = true := by
  cases o <;> cases u <;> first | exact h.elim | skip
  · exact rvs_ok h
  · exact rks_ok h
  · exact rks_ok h.2
theorem WR.okm (w : WR K F H ι m) : ∀ o ∈ m, okMO m.length o = true := fun o ho => by
  obtain ⟨n, hn⟩ := List.mem_iff_getElem?.mp ho
  by_cases ng : o = .gone
  · subst ng
    rfl
  · obtain ⟨_, u, _, h⟩ := w.obj n o hn ng
    exact ro_ok h
theorem keep_all {k : Nat} : ∀ {m m1 : MM}, keepOk k m m1 = true → (∀ o ∈ m, okMO k o = true) → (m1.take m.length).all (okMO k) = true
  | [], _, _, _ => rfl
  | _ :: _, [], h, _ => by cases h
  | o :: r, o' :: r', h, g => by
    unfold keepOk at h
    rw [Bool.and_eq_true, Bool.or_eq_true] at h
    rw [List.length_cons, List.take_succ_cons, List.all_cons, keep_all h.2 fun x hx => g x (List.mem_cons_of_mem _ hx), Bool.and_true]
    rcases h.1 with e | e
    · rw [← of_decide_eq_true e]
      exact g o List.mem_cons_self
    · exact e
theorem cut_ok (w0 : WR K F H ι m) (s : Stp F H ι m F1 H1 ι1 m1) (w : WR K F1 H1 ι1 m1) : Stp F H ι m F1 H1 ι1 (cut m m1) ∧ WR K F1 H1 ι1 (cut m m1) := by
  unfold cut
  split
  · rename_i h
    exact ⟨s.take, w.take s.len (keep_all h w0.okm)⟩
  · exact ⟨s, w⟩
theorem cut_len (s : Stp F H ι m F1 H1 ι1 m1) : m.length ≤ (cut m m1).length := by
  have := s.len
  unfold cut
  split
  · rw [List.length_take]
    omega
  · exact this

def okSl (k : Nat) : Option SV → Bool
  | some x => okRef k x
  | none => true
def tidy (m : MM) (ρ : SE) (m' : MM) : MM := if ρ.all (okSl m.length) then cut m m' else m'
theorem slots_take {k j : Nat} {σ : L2.St} {ρ : SE} (s : Slots K F ι j σ ρ) (h : ρ.all (okSl k) = true) : Slots K F ι k σ ρ :=
  ⟨s.1, fun i x e => by
    obtain ⟨v, e1, r⟩ := s.2 i x e
    exact ⟨v, e1, rv_take r (List.all_eq_true.mp h _ (List.mem_of_getElem? e))⟩⟩
theorem slots_mono {k j : Nat} {σ : L2.St} {ρ : SE} (s : Slots K F ι j σ ρ) (h : j ≤ k) : Slots K F ι k σ ρ :=
  ⟨s.1, fun i x e => by
    obtain ⟨v, e1, r⟩ := s.2 i x e
    refine ⟨v, e1, ?_⟩
    cases x with
    | o n => exact ⟨Nat.lt_of_lt_of_le r.1 h, r.2⟩
    | d _ => exact r
    | k _ => exact r⟩
theorem tidy_ok {σ : L2.St} {ρ : SE} (w0 : WR K F H ι m) (s : Stp F H ι m F1 H1 ι1 m1) (w : WR K F1 H1 ι1 m1) (sl : Slots K F1 ι1 m1.length σ ρ) :
    Stp F H ι m F1 H1 ι1 (tidy m ρ m1) ∧ WR K F1 H1 ι1 (tidy m ρ m1) ∧ Slots K F1 ι1 (tidy m ρ m1).length σ ρ := by
  unfold tidy
  split
  · rename_i h
    obtain ⟨s2, w2⟩ := cut_ok w0 s w
    exact ⟨s2, w2, slots_mono (slots_take sl h) (cut_len s)⟩
  · exact ⟨s, w, sl⟩
end
end WK

set_option Elab.async false
set_option linter.all false
set_option maxRecDepth 100000
set_option autoImplicit false
set_option maxHeartbeats 2000000
namespace WK
open PySem PySem.Spec PyProof.Rows L2

section
variable {X : Cx} {C : Cn}
theorem rd_lst {pins : List (Addr × Obj)} {σ : L2.St} {H : Hp} {s : Shared} {l : Addr} {xs : List V} (I : Inv X pins σ H s) (h : Rd H l (.lst xs)) :
    ∃ (its : List Value) (n : Nat), Vals xs its ∧ xs.length = its.length ∧ s.heap.get? l = some { cls := .type "list", data := .seq its.toArray n } := by
  obtain ⟨z, its, n, r, e⟩ := h.ok I.hok
  exact ⟨its, n, r, r.length, e⟩
def rCatR : R2 := fun x y H Q => ∃ l b xs zs, x = .ref l ∧ y = .ref b ∧ Rd H l (.lst xs) ∧ Rd H b (.lst zs) ∧ xs.length + zs.length ≤ sizeLine ∧ ∀ p, H p = none → Q (.ref p) (upd H p (.lst (xs ++ zs)))
theorem op_catR : OpR X (binaryOp .Add) rCatR := by
  rintro pins s σ H x y v u Q I rx ry ⟨l, b, xs, zs, rfl, rfl, hH, hB, hz, q⟩
  cases rx
  cases ry
  obtain ⟨its, n, r, hl, e⟩ := rd_lst I hH
  obtain ⟨its2, n2, r2, hl2, e2⟩ := rd_lst I hB
  have sz : its.toArray.size + its2.toArray.size ≤ sizeLine := by rw [List.size_toArray, List.size_toArray]; omega
  refine PySem.P.add_list e e2 ?_ sz
  rw [show its.toArray ++ its2.toArray = (its ++ its2).toArray by simp]
  have J := I.lnew (t' := s.toks) (r.append r2) (by rw [List.length_append]; exact hz)
  exact ⟨.ref _, _, J, rfl, q _ I.fresh⟩
def rCatN (K : PySem.W.Frag) : R2 := fun x y H Q => ∃ a b xs ys, x = .ref a ∧ y = .ref b ∧ SqT K H a xs ∧ SqT K H b ys ∧ xs.length + ys.length ≤ sizeLine ∧
  (xs = [] → Q (.ref b) H) ∧ (xs ≠ [] → ys = [] → Q (.ref a) H) ∧ (xs ≠ [] → ys ≠ [] → NTup H (xs ++ ys) Q)
theorem op_catN : OpR X (binaryOp .Add) (rCatN X.K) := by
  intro pins s σ H x y v u Q I rx ry h
  obtain ⟨a, b, xs, ys, rfl, rfl, ha, hb, hz, q0, q1, q2⟩ := h
  cases rx
  cases ry
  obtain ⟨its, r1, p1, _⟩ := I.tuple ha
  obtain ⟨its2, r2, p2, _⟩ := I.tuple hb
  by_cases hx : xs = []
  · subst hx
    cases r1
    exact cat_tup0 p1 p2 ⟨.ref b, H, I, rfl, q0 rfl⟩
  · refine HT.cat_tup p1 p2 (fun z => hx (r1.nil_iff.mp z)) (fun z => ⟨.ref a, H, I, rfl, q1 hx (r2.nil_iff.mp z)⟩) (fun z => ?_) (by rw [← r1.length, ← r2.length]; exact hz)
    exact Inv.ntup (tk := s.toks) I (r1.append r2) (by rw [List.length_append]; exact hz) (q2 hx fun w => z (r2.nil_iff.mpr w))
def oAddU : OF := fun x y m => match x, y with
  | .d (.int i), .d (.int j) => .ok (.d (.int (i + j))) m
  | .d (.str i), .d (.str j) => if i.length + j.length ≤ cap then .ok (.d (.str (i ++ j))) m else .bad
  | .d (.tuple xs), .d (.tuple ys) => if xs.length + ys.length ≤ cap then .ok (.d (.tuple (xs ++ ys))) m else .bad
  | x, y => (listOf x m).bind fun xs m1 => (listOf y m1).bind fun ys m2 => match datas xs, datas ys with
    | some ds, some es => if ds.length + es.length ≤ cap then .ok (.d (.list (ds ++ es))) m2 else .bad
    | _, _ => .bad
def rAddU (K : PySem.W.Frag) : R2 := fun x y H Q => (rI0 (fun i j => .int (i + j)) x y H Q ∨ (fun x y H Q => ∃ i j, x = .str i ∧ y = .str j ∧ i.length + j.length ≤ sizeLine ∧ Q (.str (i ++ j)) H : R2) x y H Q) ∨ (rCatN K x y H Q ∨ rCatR x y H Q)
theorem op_addU : OpR X (binaryOp .Add) (rAddU X.K) := OpR.or (OpR.or op_add op_add_str) (OpR.or op_catN op_catR)
theorem opd_addU : OpD C (rAddU C.K) oAddU := by
  intro σ F H ι m x y v u Q w rv ru o
  unfold oAddU at o
  split at o
  · exact .inl (.inl ⟨_, _, rv_int rv, rv_int ru, o.ok w (Rp.int _)⟩)
  · split at o
    · rename_i hz
      exact .inl (.inr ⟨_, _, rv_str rv, rv_str ru, cap_ok hz, o.ok w (Rp.str _)⟩)
    · exact o.not_bad.elim
  · split at o
    · rename_i xs ys hz
      obtain ⟨a, vs, rfl, h1, h2⟩ := rv_tup rv
      obtain ⟨b, us, rfl, h3, h4⟩ := rv_tup ru
      refine .inr (.inl ⟨a, b, vs, us, rfl, rfl, (sqN_in w h1).t, (sqN_in w h3).t, cap_ok (by rw [h2.length, h4.length]; exact hz), fun e => ?_, fun _ e => ?_, fun _ e => o.ntup w (h2.append h4)⟩)
      · subst e
        cases h2
        exact o.ok w (Rp.tup h3 h4)
      · subst e
        cases h4
        rw [List.append_nil] at o
        exact o.ok w (Rp.tup h1 h2)
    · exact o.not_bad.elim
  · rcases list_case (x := x) (m := m) with q | ⟨xs, q⟩
    · rw [q] at o
      exact o.not_bad.elim
    · rw [q, bind_ok] at o
      rcases list_case (x := y) (m := m) with q2 | ⟨ys, q2⟩
      · rw [q2] at o
        exact o.not_bad.elim
      · rw [q2, bind_ok] at o
        obtain ⟨a, vs, rfl, h1, h2⟩ := list_sq w rv q
        obtain ⟨b, us, rfl, h3, h4⟩ := list_sq w ru q2
        split at o
        · rename_i ds es hd he
          split at o
          · rename_i hz
            have r1 := datas_rp h2 hd
            have r2 := datas_rp h4 he
            refine .inr (.inr ⟨a, b, vs, us, rfl, rfl, h1, h3, cap_ok (by rw [r1.length, r2.length]; exact hz), fun p hp => ?_⟩)
            have st := w.frz_stp hp (HO.lst (vs ++ us))
            exact o.ok' st (w.frz hp _) (Rp.lst (.inl upd_same) (rpAll_up st.frz _ _ (r1.append r2)))
          · exact o.not_bad.elim
        · exact o.not_bad.elim
variable {a b e : Expr} {f g : EF} {fa : AF} {pos : Pos}
theorem de_addU (hk : X.K = C.K) (ha : PE X a (tS C f)) (hb : PE X b (tS C g)) : PE X (.BinOp a .Add b pos) (tS C (fBin oAddU f g)) := de_bin (r := rAddU C.K) (by rw [← hk]; exact op_addU) opd_addU ha hb
theorem RVs.rep {K : PySem.W.Frag} {F : Hp} {ι : Nat → Addr} {k : Nat} {vs : List V} {xs : List SV} (r : RVs K F ι k vs xs) : ∀ n : Nat, RVs K F ι k (List.replicate n vs).flatten (List.replicate n xs).flatten
  | 0 => .nil
  | n + 1 => RVs.append r (RVs.rep r n)
def fRep (f : LF) (g : EF) : LF := fun ρ m => (f ρ m).bind fun xs m1 => (g ρ m1).bind fun y m2 => match y with
  | .d (.int k) => if -(2 ^ 63) ≤ k ∧ k < 2 ^ 63 ∧ xs.length * k.toNat ≤ cap then .ok (List.replicate k.toNat xs).flatten m2 else .bad
  | _ => .bad
theorem dl_rep {fl : LF} (ha : PE X a (tL C fl)) (hb : PE X b (tS C g)) : PE X (.BinOp a .Mult b pos) (tL C (fRep fl g)) := peI (pe_op op_rep ha hb) fun σ H Q q => by
  obtain ⟨ρ, F, ι, m, w, s, o⟩ := q
  refine at_intro w s (Out.bind o fun xs m1 vs F1 H1 ι1 _ st w1 rv o1 => ?_)
  intro p hp
  have fp := w1.free hp
  have lp : ∀ n, n < m1.length → ι1 n ≠ p := fun n hn => w1.ne hp hn
  have sd : Stp F1 H1 ι1 m1 F1 (upd H1 p (.lst vs)) ι1 m1 := Stp.refl.side hp _
  refine at_intro (w1.side fp lp _) (s.up st) (Out.bind (Out.shift sd o1) fun y m2 u F2 H2 ι2 _ st2 w2 ru o2 => ?_)
  obtain ⟨_, _, hp2⟩ := side_ne st2 fp lp upd_same
  split at o2
  · split at o2
    · rename_i hz
      refine ⟨p, _, vs, rfl, rv_int ru, hp2, hz.1, hz.2.1, cap_ok (by rw [Paired.length rv]; exact hz.2.2), fun q hq => ?_⟩
      exact o2 _ F2 H2 ι2 Stp.refl w2 (RVs.rep (rv.up (sd.trans st2)) _) q hq
    · exact (Out.not_bad o2).elim
  · exact (Out.not_bad o2).elim
def putApp (n : Nat) (y : SV) (m : MM) : R SV := match m[n]? with
  | some (.lst xs) => if xs.length < cap then .ok (.d .none) (m.set n (.lst (xs ++ [y]))) else .bad
  | _ => .bad
def isLst (m : MM) (x : SV) : Option Nat := match x with
  | .o n => match m[n]? with
    | some (.lst _) => some n
    | _ => none
  | _ => none
def fApp (f g : EF) : EF := fun ρ m => (f ρ m).bind fun x m1 => match isLst m1 x with
  | some n => (g ρ m1).bind fun y m2 => putApp n y m2
  | none => .bad
theorem isLst_o {m : MM} {x : SV} {n : Nat} (h : isLst m x = some n) : x = .o n ∧ ∃ xs, m[n]? = some (.lst xs) := by
  unfold isLst at h
  split at h
  · split at h
    · rename_i xs hn
      cases h
      exact ⟨rfl, xs, hn⟩
    · cases h
  · cases h
theorem de_app (hk : X.K = C.K) (hp : PE X e (tBM X.K "list" rAppend (tS C f) (tCons (tS C g) tNil))) : PE X e (tS C (fApp f g)) := peI hp fun σ H Q q => by
  obtain ⟨ρ, F, ι, m, w, s, o⟩ := q
  refine at_intro w s (o.bind fun x m1 v F1 H1 ι1 _ st w1 rv o1 => ?_)
  rw [hk]
  split at o1
  · rename_i n hx
    obtain ⟨rfl, xs, hn⟩ := isLst_o hx
    obtain ⟨_, vs, h2, _⟩ := w1.lst _ _ hn
    rw [rv.2]
    refine ⟨.inl ⟨rfl, _, SqL.of h2⟩, at_intro w1 (s.up st) (o1.bind fun y m2 u F2 H2 ι2 _ st2 w2 ru o2 => ?_)⟩
    unfold putApp at o2
    split at o2
    · rename_i ys hn2
      split at o2
      · rename_i hz
        obtain ⟨_, us, h4, h5⟩ := w2.lst _ _ hn2
        refine ⟨ι1 n, us, u, rfl, rfl, ?_, cap_lt (by rw [Paired.length h5]; exact hz), ?_⟩
        · rw [← st2.same n rv.1]
          exact h4
        · rw [← st2.same n rv.1]
          exact o2.ok' (w2.put_stp hn2 _) (w2.put hn2 (RVs.append h5 (.cons ru .nil))) Rp.non
      · exact o2.not_bad.elim
    · exact o2.not_bad.elim
  · exact o1.not_bad.elim
end

theorem List.set_getElem?_self' {α : Type} {l : List α} {i : Nat} {x : α} (h : l[i]? = some x) : l.set i x = l := by
  apply List.ext_getElem?
  intro j
  rw [List.getElem?_set]
  split
  · rename_i e
    subst e
    split
    · exact h.symm
    · rename_i n
      rw [List.getElem?_eq_none (by omega)]
  · rfl
section
variable {X : Cx} {C : Cn} {f g : EF} {fa : AF} {t : TF} {a b : SF} {e : Expr} {st : Stmt} {sts : List Stmt} {pos : Pos}
def sSet (i : Nat) (f : EF) : SF := fun ρ m => (f ρ m).then ρ fun x m1 => .nx (ρ.set i (some x)) m1
theorem onto_nx {σ σ' : L2.St} {ρ' : SE} {F H : Hp} {ι : Nat → Addr} {m : MM} {D : Ends} (o : OutS C F H ι m (.nx ρ' m) D) (w : WR C.K F H ι m) (s : Slots C.K F ι m.length σ' ρ') : D.nx σ' H := o σ' F H ι Stp.refl w s
theorem asg_i {i : Nat} (D : Ends) (σ : L2.St) (H : Hp) (q : tSS C (sSet i f) D σ H) : tS C f σ H (fun x H1 => gName i x σ H1 D.nx) := by
  obtain ⟨ρ, F, ι, m, w, s, o⟩ := q
  refine at_intro w s (OutS.then s o fun x m1 v F1 H1 ι1 _ st w1 rv o1 => ?_)
  exact onto_nx (σ := σ) o1 w1 ((s.up st).set rv i)
theorem dst_set {i : Nat} (h : PS X st (tAsg (tS C f) (gName i))) : PS X st (tSS C (sSet i f)) := psI h fun D σ H q => asg_i D σ H q
theorem dst_setFz {i : Nat} {te : TE} {f : LF} (h : PS X st (tAsg te (gName i))) (k : ∀ σ H Q, tL C f σ H Q → te σ H Q) : PS X st (tSS C (sSet i (fFz f))) := psI h fun D σ H q => k _ _ _ (fz_i σ H _ (asg_i D σ H q))
def sUnp (tg : GF) (f : EF) : SF := fun ρ m => (f ρ m).then ρ fun x m1 => match x with
  | .d x => match tg x ρ with
    | some ρ' => .nx ρ' m1
    | none => .bad
  | _ => .bad
theorem dst_unp {tgt : TG} {tg : GF} {vs : List Nat} (h : PS X st (tAsg (tS C f) tgt)) (hg : TgD C tgt tg vs) : PS X st (tSS C (sUnp tg f)) := psI h fun D σ H q => by
  obtain ⟨ρ, F, ι, m, w, s, o⟩ := q
  refine at_intro w s (OutS.then s o fun x m1 v F1 H1 ι1 _ st w1 rv o1 => ?_)
  split at o1
  · split at o1
    · rename_i hx
      exact hg F1 H1 ι1 m1 v _ σ ρ _ D.nx w1 (s.up st) rv hx fun σ' s' _ => onto_nx (σ := σ) o1 w1 s'
    · exact o1.elim
  · exact o1.elim
def sPar2 (i j : Nat) (fa : AF) : SF := fun ρ m => (fa ρ m).then ρ fun xs m1 => match xs with
  | [x, y] => .nx ((ρ.set i (some x)).set j (some y)) m1
  | _ => .bad
theorem dst_par2 {i j : Nat} (h : PS X st (tPar i j (tA C fa))) : PS X st (tSS C (sPar2 i j fa)) := psI h fun D σ H q => by
  obtain ⟨ρ, F, ι, m, w, s, o⟩ := q
  refine at_intro w s (OutS.then s o fun xs m1 vs F1 H1 ι1 _ st w1 rv o1 => ?_)
  split at o1
  · obtain ⟨v, u, rfl, r1, r2⟩ := rvs2 rv
    exact ⟨v, u, rfl, onto_nx (σ := σ) o1 w1 (((s.up st).set r1 i).set r2 j)⟩
  · exact o1.elim
theorem rvs3 {K : PySem.W.Frag} {F : Hp} {ι : Nat → Addr} {k : Nat} {vs : List V} {x y z : SV} (h : RVs K F ι k vs [x, y, z]) : ∃ v u w, vs = [v, u, w] ∧ RV K F ι k v x ∧ RV K F ι k u y ∧ RV K F ι k w z := by
  cases h with
  | cons h t =>
    obtain ⟨u, w, rfl, h2, h3⟩ := rvs2 t
    exact ⟨_, _, _, rfl, h, h2, h3⟩
def sPar3 (i j l : Nat) (fa : AF) : SF := fun ρ m => (fa ρ m).then ρ fun xs m1 => match xs with
  | [x, y, z] => .nx (((ρ.set i (some x)).set j (some y)).set l (some z)) m1
  | _ => .bad
theorem dst_par3 {i j l : Nat} (h : PS X st (tPar3 i j l (tA C fa))) : PS X st (tSS C (sPar3 i j l fa)) := psI h fun D σ H q => by
  obtain ⟨ρ, F, ι, m, w, s, o⟩ := q
  refine at_intro w s (OutS.then s o fun xs m1 vs F1 H1 ι1 _ st w1 rv o1 => ?_)
  split at o1
  · obtain ⟨v, u, z, rfl, r1, r2, r3⟩ := rvs3 rv
    exact ⟨v, u, z, rfl, onto_nx (σ := σ) o1 w1 ((((s.up st).set r1 i).set r2 j).set r3 l)⟩
  · exact o1.elim
def putAt (m : MM) (x i y : SV) : Option MM := match x, i with
  | .o n, .d (.int k) => match m[n]? with
    | some (.lst xs) => match ixN xs.length k with
      | some j => some (m.set n (.lst (xs.set j y)))
      | none => none
    | _ => none
  | _, _ => none
def putD (m : MM) (x i y : SV) : Option MM := match dctOf x m, keyOf i with
  | some kvs, some k => match x with
    | .o n => if kvs.length < cap then some (m.set n (.dct (putS kvs k y))) else none
    | _ => none
  | _, _ => none
def putU (m : MM) (x i y : SV) : Option MM := match dctOf x m with
  | some _ => putD m x i y
  | none => putAt m x i y
def sPut (fo fi f : EF) : SF := fun ρ m => (f ρ m).then ρ fun y m1 => (fo ρ m1).then ρ fun x m2 => (fi ρ m2).then ρ fun i m3 => match putU m3 x i y with
  | some m4 => .nx ρ m4
  | none => .bad
theorem RVs.set {K : PySem.W.Frag} {F : Hp} {ι : Nat → Addr} {k : Nat} {v : V} {x : SV} (h : RV K F ι k v x) : ∀ {vs : List V} {xs : List SV} (j : Nat), RVs K F ι k vs xs → RVs K F ι k (vs.set j v) (xs.set j x)
  | _, _, _, .nil => .nil
  | _, _, 0, .cons _ t => .cons h t
  | _, _, j + 1, .cons r t => .cons r (RVs.set h j t)
def rSetD : V → V → V → Hp → (Hp → Prop) → Prop := fun o i v H Q => ∃ a H', o = .ref a ∧ DPut H a i v H' ∧ Q H'
theorem set_dk (hu : X.A.units + 65 < cLine) : PSet X rSetD := by
  intro pins s σ H o i v ov iv u Q I ro ri rv h
  obtain ⟨a, H', rfl, g, q⟩ := h
  cases ro
  exact d_setItem (by omega) I g ri rv fun s4 I4 => ⟨H', I4, q⟩
def rSetU : V → V → V → Hp → (Hp → Prop) → Prop := fun o i v H Q => rSetD o i v H Q ∨ rSetL o i v H Q
theorem set_u (hu : X.A.units + 65 < cLine) : PSet X rSetU := by
  intro pins s σ H o i v ov iv u Q I ro ri rv h
  rcases h with h | h
  · exact set_dk hu pins s σ H o i v ov iv u Q I ro ri rv h
  · exact set_list pins s σ H o i v ov iv u Q I ro ri rv h
theorem putU_i {F H : Hp} {ι : Nat → Addr} {m m4 : MM} {x i y : SV} {vx vi vy : V} {N : Hp → Prop} (w : WR C.K F H ι m) (rx : RV C.K F ι m.length vx x) (ri : RV C.K F ι m.length vi i) (ry : RV C.K F ι m.length vy y)
    (h : putU m x i y = some m4) (o : ∀ F' H' ι', Stp F H ι m F' H' ι' m4 → WR C.K F' H' ι' m4 → N H') : rSetU vx vi vy H N := by
  unfold putU at h
  cases hd : dctOf x m with
  | some kvs =>
    rw [hd] at h
    dsimp only at h
    obtain ⟨n, vs, rfl, hn, rfl, hH, hr⟩ := dctOf_r w rx hd
    unfold putD at h
    rw [hd] at h
    cases hk : keyOf i with
    | none =>
      rw [hk] at h
      cases h
    | some k =>
      rw [hk] at h
      dsimp only at h
      split at h
      · rename_i hz
        cases h
        have ev := keyOf_v ri hk
        subst ev
        refine .inl ⟨_, _, rfl, DPut.k hH (cap_lt (by rw [Paired.length hr]; exact hz)), ?_⟩
        exact o F _ ι (w.chg_stp hn (fun q => nomatch q) _) (w.chg hn (fun q => nomatch q) (o' := .dct _) (v := .dK _) (rks_put ry hr))
      · cases h
  | none =>
    rw [hd] at h
    dsimp only at h
    unfold putAt at h
    split at h
    · split at h
      · rename_i xs hn
        split at h
        · rename_i j hj
          cases h
          obtain ⟨_, vs, h2, h3⟩ := w.lst _ _ hn
          rw [rv_int ri, rx.2]
          refine .inr ⟨_, vs, _, j, rfl, rfl, h2, by rw [Paired.length h3]; exact hj, ?_⟩
          exact o F _ ι (w.put_stp (ys := xs.set j y) hn (vs.set j vy)) (w.put hn (RVs.set ry j h3))
        · cases h
      · cases h
    · cases h
theorem put_i {σ : L2.St} {ρ : SE} {D : Ends} {F H : Hp} {ι : Nat → Addr} {m : MM} {x i y : SV} {vx vi vy : V} (w : WR C.K F H ι m) (s : Slots C.K F ι m.length σ ρ) (rx : RV C.K F ι m.length vx x) (ri : RV C.K F ι m.length vi i) (ry : RV C.K F ι m.length vy y)
    (o : OutS C F H ι m (match putU m x i y with | some m4 => .nx ρ m4 | none => .bad) D) : rSetU vx vi vy H fun H' => D.nx σ H' := by
  split at o
  · rename_i m4 h
    exact putU_i w rx ri ry h fun F' H' ι' st w' => o σ F' H' ι' st w' (s.up st)
  · exact o.elim
theorem dst_put {fo fi : EF} (h : PS X st (tAsg (tS C f) (gSub (tS C fo) (tS C fi) rSetU))) : PS X st (tSS C (sPut fo fi f)) := psI h fun D σ H q => by
  obtain ⟨ρ, F, ι, m, w, s, o⟩ := q
  refine at_intro w s (OutS.then s o fun y m1 vy F1 H1 ι1 _ st1 w1 ry o1 => ?_)
  refine at_intro w1 (s.up st1) (OutS.then (s.up st1) o1 fun x m2 vx F2 H2 ι2 _ st2 w2 rx o2 => ?_)
  refine at_intro w2 ((s.up st1).up st2) (OutS.then ((s.up st1).up st2) o2 fun i m3 vi F3 H3 ι3 _ st3 w3 ri o3 => ?_)
  exact put_i w3 (((s.up st1).up st2).up st3) (rx.up st3) ri ((ry.up st2).up st3) o3
def sAug (i : Nat) (h : Int → Int → Int) (f : EF) : SF := fun ρ m => match ρ[i]? with
  | some (some (.d (.int x))) => (f ρ m).then ρ fun y m1 => match y with
    | .d (.int j) => .nx (ρ.set i (some (.d (.int (h x j))))) m1
    | _ => .bad
  | _ => .bad
theorem dst_aug {i : Nat} {h : Int → Int → Int} (hp : PS X st (tAug i (tS C f) (ipI h))) : PS X st (tSS C (sAug i h f)) := psI hp fun D σ H q => by
  obtain ⟨ρ, F, ι, m, w, s, o⟩ := q
  unfold sAug at o
  split at o
  · rename_i x hx
    obtain ⟨v, e1, r⟩ := s.2 i _ hx
    refine ⟨v, e1, at_intro w s (OutS.then s o fun y m1 u F1 H1 ι1 _ st w1 ru o1 => ?_)⟩
    split at o1
    · rw [rv_int r, rv_int ru]
      exact ⟨_, _, rfl, rfl, onto_nx (σ := σ) o1 w1 ((s.up st).set (x := .d (.int _)) (Rp.int _) i)⟩
    · exact o1.elim
  · exact o.elim
def sExpr (f : EF) : SF := fun ρ m => (f ρ m).then ρ fun _ m1 => .nx ρ m1
theorem dst_expr (h : PS X st (tDrop (tS C f))) : PS X st (tSS C (sExpr f)) := psI h fun D σ H q => by
  obtain ⟨ρ, F, ι, m, w, s, o⟩ := q
  exact at_intro w s (OutS.then s o fun y m1 u F1 H1 ι1 _ st w1 ru o1 => onto_nx (σ := σ) o1 w1 (s.up st))
def sRet (f : EF) : SF := fun ρ m => (f ρ m).then ρ fun x m1 => .rt x m1
theorem dst_ret (h : PE X e (tS C f)) : PS X (.Return (some e) pos) (tSS C (sRet f)) := psI (ps_ret h) fun D σ H q => by
  obtain ⟨ρ, F, ι, m, w, s, o⟩ := q
  exact at_intro w s (OutS.then s o fun y m1 u F1 H1 ι1 _ st w1 ru o1 => o1 u F1 H1 ι1 Stp.refl w1 ru)
def sRetN : SF := fun _ m => .rt (.d .none) m
def sPass : SF := fun ρ m => .nx ρ m
def sBrk : SF := fun ρ m => .bk ρ m
def sCnt : SF := fun ρ m => .ct ρ m
def sIf (t : TF) (a b : SF) : SF := fun ρ m => (t ρ m).then ρ fun c m1 => if c then a ρ m1 else b ρ m1
theorem dst_if {c : Expr} {as bs : List Stmt} (hc : PT X c (tT C t)) (ha : PSs X as (tSS C a)) (hb : PSs X bs (tSS C b)) : PS X (.If c as bs pos) (tSS C (sIf t a b)) := psI (ps_if hc ha hb) fun D σ H q => by
  obtain ⟨ρ, F, ι, m, w, s, o⟩ := q
  refine at_intro w s (OutS.then s o fun y m1 u F1 H1 ι1 _ st w1 ru o1 => ?_)
  have ru' : u = y := ru
  subst ru'
  cases u with
  | true =>
    rw [if_pos rfl] at o1 ⊢
    exact at_intro w1 (s.up st) o1
  | false =>
    rw [if_neg Bool.false_ne_true] at o1 ⊢
    exact at_intro w1 (s.up st) o1
def sSeq (a b : SF) : SF := fun ρ m => (a ρ m).bind b
theorem outs_bind {F H : Hp} {ι : Nat → Addr} {m : MM} {r : RS} {D : Ends} (o : OutS C F H ι m (r.bind b) D) : OutS C F H ι m r { D with nx := tSS C b D } := by
  cases r with
  | nx ρ' m' => exact fun σ' F' H' ι' st w s => at_intro w s (OutS.shift st o)
  | rt x m' => exact o
  | bk ρ' m' => exact o
  | ct ρ' m' => exact o
  | err c ρ' m' => exact o
  | bad => exact o
theorem dss_cons (ha : PS X st (tSS C a)) (hb : PSs X sts (tSS C b)) : PSs X (st :: sts) (tSS C (sSeq a b)) := pssI (pss_cons ha hb) fun D σ H q => by
  obtain ⟨ρ, F, ι, m, w, s, o⟩ := q
  exact at_intro w s (outs_bind o)
theorem dss_one (ha : PS X st (tSS C a)) : PSs X [st] (tSS C a) := pss_one ha
theorem dss_nil : PSs X [] (tSS C sPass) := pssI pss_nil fun D σ H q => by
  obtain ⟨ρ, F, ι, m, w, s, o⟩ := q
  exact onto_nx (σ := σ) o w s
def sFrz (i : Nat) (b : SF) : SF := fun ρ m => match ρ[i]? with
  | some (some (.o n)) => match m[n]? with
    | some (.lst xs) => match datas xs with
      | some ds => b (ρ.set i (some (.d (.list ds)))) (m.set n .gone)
      | none => .bad
    | _ => .bad
  | _ => .bad
theorem dss_frz {i : Nat} (hb : PSs X sts (tSS C b)) : PSs X sts (tSS C (sFrz i b)) := pssI hb fun D σ H q => by
  obtain ⟨ρ, F, ι, m, w, s, o⟩ := q
  unfold sFrz at o
  split at o
  · rename_i n hx
    obtain ⟨v, e1, r⟩ := s.2 i _ hx
    split at o
    · rename_i xs hn
      split at o
      · rename_i ds hd
        obtain ⟨_, vs, h2, h3⟩ := w.lst _ _ hn
        have st2 := w.stop_stp hn (HO.lst vs)
        refine at_intro (w.stop hn h2) ?_ (OutS.shift st2 o)
        have s2 := s.up st2
        have rp : RV C.K (upd F (ι n) (.lst vs)) ι (m.set n .gone).length v (.d (.list ds)) := by
          rw [r.2]
          exact Rp.lst (.inl upd_same) (rpAll_up st2.frz ds vs (datas_rp h3 hd))
        have s3 := s2.set rp i
        rw [show σ.set i (some v) = σ from List.set_getElem?_self' e1] at s3
        exact s3
      · exact o.elim
    · exact o.elim
  · exact o.elim

def forS (cl : List Nat) (tg : GF) (body : SF) : List PyData → SE → MM → RS
  | [], ρ, m => .nx ρ m
  | x :: r, ρ, m => match tg x ρ with
    | none => .bad
    | some ρ1 => match body ρ1 m with
      | .nx ρ2 m2 => forS cl tg body r (wipeS ρ2 cl) (tidy m (wipeS ρ2 cl) m2)
      | .ct ρ2 m2 => forS cl tg body r (wipeS ρ2 cl) (tidy m (wipeS ρ2 cl) m2)
      | .bk ρ2 m2 => .nx (wipeS ρ2 cl) (tidy m (wipeS ρ2 cl) m2)
      | .rt v m2 => .rt v m2
      | .err c ρ2 m2 => .err c ρ2 m2
      | .bad => .bad
def sFor (cl : List Nat) (fi : IF) (tg : GF) (body : SF) : SF := fun ρ m => (fi ρ m).then ρ fun ds m1 => forS cl tg body ds ρ m1
theorem Slots.clear {K : PySem.W.Frag} {F : Hp} {ι : Nat → Addr} {k : Nat} {σ : L2.St} {ρ : SE} (s : Slots K F ι k σ ρ) : ∀ vs : List Nat, Slots K F ι k σ (wipeS ρ vs)
  | [] => s
  | v :: vs => by
    have ih := Slots.clear s vs
    refine ⟨by unfold wipeS; rw [List.length_set]; exact ih.1, fun i x e => ?_⟩
    unfold wipeS at e
    rw [List.getElem?_set] at e
    split at e
    · split at e <;> cases e
    · exact ih.2 i x e
theorem dst_for {cl : List Nat} {fi : IF} {tgt : TG} {tg : GF} {vs : List Nat} (h : PS X st (tFor (tI C fi) tgt (tSS C a))) (hg : TgD C tgt tg vs) : PS X st (tSS C (sFor cl fi tg a)) := psI h fun D σ H q => by
  obtain ⟨ρ, F, ι, m, w, s, o⟩ := q
  refine at_intro w s (OutS.then s o fun ds m1 J F1 H1 ι1 _ st w1 it o1 => ?_)
  refine ⟨fun i k σ' H' => ∃ ρ' F' ι' m', i + k = ds.length ∧ Stp F1 H1 ι1 m1 F' H' ι' m' ∧ WR C.K F' H' ι' m' ∧ Slots C.K F' ι' m'.length σ' ρ' ∧ OutS C F' H' ι' m' (forS cl tg a (ds.drop i) ρ' m') D,
    ⟨ds.length, ρ, F1, ι1, m1, by omega, Stp.refl, w1, s.up st, o1⟩, ?_⟩
  rintro i k σ' H' ⟨ρ', F', ι', m', ek, st', w', s', o'⟩
  have itn := it F' H' ι' m' st'.frz w'
  by_cases hi : i < ds.length
  · have hx : ds[i]? = some ds[i] := List.getElem?_eq_getElem hi
    obtain ⟨go, yl⟩ := itn.1 i _ hx
    rw [List.drop_eq_getElem_cons hi] at o'
    refine .inr ⟨go, fun σ2 H2 => ∃ ρ' F' ι' m', (i + 1) + (k - 1) = ds.length ∧ Stp F1 H1 ι1 m1 F' H2 ι' m' ∧ WR C.K F' H2 ι' m' ∧ Slots C.K F' ι' m'.length σ2 ρ' ∧ OutS C F' H2 ι' m' (forS cl tg a (ds.drop (i + 1)) ρ' m') D,
      fun σ2 H2 nx => ⟨k - 1, by omega, nx⟩, fun x H2 y => ?_⟩
    obtain ⟨F2, st2, w2, rx⟩ := yl x H2 y
    unfold forS at o'
    split at o'
    · exact o'.elim
    · rename_i ρ1 htg
      refine hg F2 H2 ι' m' x _ σ' ρ' ρ1 _ w2 (s'.up st2) rx htg fun σ2 s2 _ => at_intro w2 s2 ?_
      have o2 := OutS.shift st2 o'
      cases hb : a ρ1 m' with
      | nx ρ2 m2 =>
        rw [hb] at o2
        intro σ3 F3 H3 ι3 st3 w3 s3
        obtain ⟨t1, t2, t3⟩ := tidy_ok w2 st3 w3 (s3.clear cl)
        exact ⟨_, F3, ι3, _, by omega, (st'.trans st2).trans t1, t2, t3, OutS.shift t1 o2⟩
      | ct ρ2 m2 =>
        rw [hb] at o2
        intro σ3 F3 H3 ι3 st3 w3 s3
        obtain ⟨t1, t2, t3⟩ := tidy_ok w2 st3 w3 (s3.clear cl)
        exact ⟨_, F3, ι3, _, by omega, (st'.trans st2).trans t1, t2, t3, OutS.shift t1 o2⟩
      | bk ρ2 m2 =>
        rw [hb] at o2
        intro σ3 F3 H3 ι3 st3 w3 s3
        obtain ⟨t1, t2, t3⟩ := tidy_ok w2 st3 w3 (s3.clear cl)
        exact o2 σ3 F3 H3 ι3 t1 t2 t3
      | rt v m2 =>
        rw [hb] at o2
        exact o2
      | err c ρ2 m2 =>
        rw [hb] at o2
        exact o2
      | bad =>
        rw [hb] at o2
        exact o2
  · have ei : i = ds.length := by omega
    subst ei
    have e0 : ds.drop ds.length = [] := List.drop_length
    rw [e0] at o'
    exact .inl ⟨itn.2, onto_nx (σ := σ') o' w' s'⟩
def whileS (cl : List Nat) (t : TF) (body : SF) : Nat → SE → MM → RS
  | 0, _, _ => .bad
  | n + 1, ρ, m => (t ρ m).then ρ fun c m1 => if c then (match body ρ m1 with
      | .nx ρ2 m2 => whileS cl t body n (wipeS ρ2 cl) (tidy m1 (wipeS ρ2 cl) m2)
      | .ct ρ2 m2 => whileS cl t body n (wipeS ρ2 cl) (tidy m1 (wipeS ρ2 cl) m2)
      | .bk ρ2 m2 => .nx (wipeS ρ2 cl) (tidy m1 (wipeS ρ2 cl) m2)
      | .rt v m2 => .rt v m2
      | .err c ρ2 m2 => .err c ρ2 m2
      | .bad => .bad) else .nx ρ m1
def sWhile (cl : List Nat) (N : Nat) (t : TF) (body : SF) : SF := whileS cl t body N
theorem dst_while {cl : List Nat} {N : Nat} (h : PS X st (tWhile (tT C t) (tSS C a))) : PS X st (tSS C (sWhile cl N t a)) := psI h fun D σ H q => by
  obtain ⟨ρ, F, ι, m, w, s, o⟩ := q
  refine ⟨fun n σ' H' => At C σ' H' fun ρ F ι m => OutS C F H' ι m (whileS cl t a n ρ m) D, ⟨N, at_intro w s o⟩, ?_⟩
  rintro n σ' H' ⟨ρ', F', ι', m', w', s', o'⟩
  cases n with
  | zero => exact o'.elim
  | succ n =>
    unfold whileS at o'
    refine at_intro w' s' (OutS.then s' o' fun y m1 u F1 H1 ι1 _ st w1 ru o1 => ?_)
    have ru' : u = y := ru
    subst ru'
    cases u with
    | false =>
      rw [if_neg Bool.false_ne_true] at o1 ⊢
      exact onto_nx (σ := σ') o1 w1 (s'.up st)
    | true =>
      rw [if_pos rfl] at o1 ⊢
      refine ⟨fun σ2 H2 => At C σ2 H2 fun ρ F ι m => OutS C F H2 ι m (whileS cl t a n ρ m) D, fun σ2 H2 q => ⟨n, Nat.lt_succ_self n, q⟩, at_intro w1 (s'.up st) ?_⟩
      cases hb : a ρ' m1 with
      | nx ρ2 m2 =>
        rw [hb] at o1
        intro σ3 F3 H3 ι3 st3 w3 s3
        obtain ⟨t1, t2, t3⟩ := tidy_ok w1 st3 w3 (s3.clear cl)
        exact at_intro t2 t3 (OutS.shift t1 o1)
      | ct ρ2 m2 =>
        rw [hb] at o1
        intro σ3 F3 H3 ι3 st3 w3 s3
        obtain ⟨t1, t2, t3⟩ := tidy_ok w1 st3 w3 (s3.clear cl)
        exact at_intro t2 t3 (OutS.shift t1 o1)
      | bk ρ2 m2 =>
        rw [hb] at o1
        intro σ3 F3 H3 ι3 st3 w3 s3
        obtain ⟨t1, t2, t3⟩ := tidy_ok w1 st3 w3 (s3.clear cl)
        exact o1 σ3 F3 H3 ι3 t1 t2 t3
      | rt v m2 =>
        rw [hb] at o1
        exact o1
      | err c ρ2 m2 =>
        rw [hb] at o1
        exact o1
      | bad =>
        rw [hb] at o1
        exact o1
end
end WK

set_option Elab.async false
set_option linter.all false
set_option maxRecDepth 100000
set_option autoImplicit false
set_option maxHeartbeats 2000000
namespace WK
open PySem PySem.Spec PyProof.Rows L2

def trim (m : MM) (x : SV) (m' : MM) : R SV := .ok x (if okRef m.length x then cut m m' else m')
def defS (n : Nat) (s : SF) : List SV → MM → R SV := fun xs m => match s (xs.map some ++ List.replicate (n - xs.length) none) m with
  | .nx _ m' => trim m (.d .none) m'
  | .rt x m' => trim m x m'
  | .err c _ m' => .err c (cut m m')
  | _ => .bad
abbrev DF := List SV → MM → R SV
def spS (K : PySem.W.Frag) (mg : Str → Option Value) (n : Nat) (g : DF) : Sp := fun vs H Q E => vs.length = n ∧ ∃ F ι m xs, WR K F H ι m ∧ RVs K F ι m.length vs xs ∧ Out ⟨K, mg, fun _ => E⟩ [] F H ι m (relV K) (g xs m) Q
section
variable {K : PySem.W.Frag} {F H F1 H1 : Hp} {ι ι1 : Nat → Addr} {m m1 : MM} {C : Cn}
theorem trim_out {σ : L2.St} {x : SV} {v : V} {Q : VK} (w0 : WR C.K F H ι m) (o : Out C σ F H ι m (relV C.K) (trim m x m1) Q) (s : Stp F H ι m F1 H1 ι1 m1) (w : WR C.K F1 H1 ι1 m1) (r : RV C.K F1 ι1 m1.length v x) : Q v H1 := by
  unfold trim at o
  split at o
  · rename_i h
    obtain ⟨s2, w2⟩ := cut_ok w0 s w
    refine o v F1 H1 ι1 s2 w2 ?_
    have l := cut_len s
    exact rv_take r (by
      cases x with
      | o n =>
        have := of_decide_eq_true h
        exact decide_eq_true (by omega)
      | d _ => rfl
      | k _ => rfl)
  · exact o v F1 H1 ι1 s w r
end

theorem takes0N {X : Cx} : L2N.Takes X (fun _ _ _ _ => False) := fun _ _ x => by
  obtain ⟨_, _, _, _, _, _, _, _, _, _, _, _, _, _, _, _, z⟩ := x
  exact z.elim
structure Kx (X : Cx) (C : Cn) (k : Nat) : Prop where
  hK : X.K = C.K
  hG : X.mg = C.mg
  room : Room k X.A
  calm : X.calm = true
  tk : L2N.Takes X (fun cls d σ H => C.E σ cls d H)
theorem Kx.pass {X : Cx} {C : Cn} {k : Nat} (q : Kx X C k) (σ : L2.St) : PassesAt (L2N.CX X.prog X.w) X σ (C.E σ) := L2N.passAt q.tk σ
theorem Kx.hu {X : Cx} {C : Cn} {k : Nat} (q : Kx X C k) : X.A.units + 65 < cLine := by have := q.room.un; omega
theorem Kx.blk {X : Cx} {C : Cn} {k : Nat} (q : Kx X C k) (s : Shared) (H : Hp) (scope : Scope) (cenv : Env) (fp : List Addr) : Kx (X.blk s H scope cenv fp) C.in0 k := ⟨q.hK, q.hG, q.room, q.calm, takes0N⟩
theorem Kx.mono {X : Cx} {C : Cn} {j k : Nat} (q : Kx X C k) (h : j ≤ k) : Kx X C j := ⟨q.hK, q.hG, q.room.mono h, q.calm, q.tk⟩
section
variable {P : Program} {w : World} {K : PySem.W.Frag} {mg : Str → Option Value} {base : Heap}
abbrev FnS (P : Program) (w : World) (K : PySem.W.Frag) (mg : Str → Option Value) (base : Heap) (k : Nat) (f : Addr) (fd : FuncData) (ps : List Str) (g : DF) : Prop := FnOk P w K mg base (L2N.CX P w) k f fd ps (spS K mg ps.length g)
theorem slots_start {F : Hp} {ι : Nat → Addr} {k n : Nat} {vs : List V} {xs : List SV} (r : RVs K F ι k vs xs) : Slots K F ι k (vs.map some ++ List.replicate (n - vs.length) none) (xs.map some ++ List.replicate (n - xs.length) none) := by
  have ln := Paired.length r
  refine ⟨by simp [ln], fun i x e => ?_⟩
  rw [ln]
  have cut : i < xs.length := by
    rcases Nat.lt_or_ge i xs.length with h | h
    · exact h
    · rw [List.getElem?_append_right (by rw [List.length_map]; exact h), List.getElem?_replicate] at e
      split at e <;> cases e
  rw [List.getElem?_append_left (by rw [List.length_map]; exact cut), List.getElem?_map] at e
  rw [List.getElem?_append_left (by rw [List.length_map, ln]; exact cut), List.getElem?_map]
  cases hx : xs[i]? with
  | none =>
    rw [hx] at e
    cases e
  | some y =>
    rw [hx] at e
    cases e
    have : ∀ {vs : List V} {xs : List SV} {i : Nat}, RVs K F ι k vs xs → xs[i]? = some x → ∃ v, vs[i]? = some v ∧ RV K F ι k v x := by
      intro vs xs i r
      induction r generalizing i with
      | nil => intro e; simp at e
      | cons h t ih =>
        intro e
        cases i with
        | zero =>
          rw [List.getElem?_cons_zero] at e
          cases e
          exact ⟨_, rfl, h⟩
        | succ i =>
          rw [List.getElem?_cons_succ] at e ⊢
          exact ih e
    obtain ⟨v, h1, h2⟩ := this r hx
    exact ⟨v, by rw [h1]; rfl, h2⟩
theorem body_i {n : Nat} {s : SF} {vs : List V} {H : Hp} {Q : VK} {E : XK} {N : List Str} (h : spS K mg n (defS N.length s) vs H Q E) : tSS ⟨K, mg, fun _ => E⟩ s { nx := fun _ H' => Q .non H', rt := Q } (start N vs) H := by
  obtain ⟨_, F, ι, m, xs, w, r, o⟩ := h
  refine at_intro w (slots_start r) ?_
  unfold defS at o
  cases hb : s (xs.map some ++ List.replicate (N.length - xs.length) none) m with
  | nx ρ' m' =>
    rw [hb] at o
    exact fun σ' F' H' ι' st w' _ => trim_out (v := .non) w o st w' Rp.non
  | rt x m' =>
    rw [hb] at o
    exact fun v F' H' ι' st w' rv => trim_out w o st w' rv
  | err c ρ' m' =>
    rw [hb] at o
    exact fun σ' F' H' ι' st w' _ => o F' H' ι' (cut_ok w st w').1 (cut_ok w st w').2
  | bk ρ' m' =>
    rw [hb] at o
    exact (Out.not_bad o).elim
  | ct ρ' m' =>
    rw [hb] at o
    exact (Out.not_bad o).elim
  | bad =>
    rw [hb] at o
    exact (Out.not_bad o).elim
theorem def_ok {x qual : Str} {st : Stmt} {f : Addr} {fd : FuncData} {N ps : List Str} {k : Nat} {s : SF} (F : Fun K x qual st f fd) (S : FnScope N ps (defScope st))
    (hb : ∀ (cdv : Value) (A : Around) (outer : List Env) (sh : Shared) (H : Hp) (E : XK), Kx (cxOf (L2N.CX P w) P w K mg base N qual (defScope st) f cdv A outer sh H E) ⟨K, mg, fun _ => E⟩ k →
      PassesOwn (model P w) (A.deeper (envOfC qual (defScope st) sh.heap.objs.size f cdv)) (envOfC qual (defScope st) sh.heap.objs.size f cdv) (cxOf (L2N.CX P w) P w K mg base N qual (defScope st) f cdv A outer sh H E).xe →
      PSs (cxOf (L2N.CX P w) P w K mg base N qual (defScope st) f cdv A outer sh H E) (defBody st) (tSS ⟨K, mg, fun _ => E⟩ s)) :
    FnS P w K mg base (k + 1) f fd ps (defS N.length s) :=
by
  obtain ⟨oc, od, kV, doc, pm, an, cdv, ct, osl, rfl, lk, hcd⟩ := F.ex
  exact fn_of lk hcd S (fun vs H Q E h => h.1) fun A outer sh H vs Q E hr h => ⟨_, hb cdv A outer sh H E ⟨rfl, rfl, hr, rfl, L2N.takes_of rfl rfl rfl rfl⟩ (passes_of rfl), body_i h⟩
end

section
variable {X : Cx} {C : Cn} {fa : AF} {e : Expr} {es : List Expr}
def fCallD (n : Nat) (g : DF) (fa : AF) : EF := fun ρ m => (fa ρ m).bind fun xs m1 => if xs.length = n then g xs m1 else .bad
theorem call_i {n : Nat} {g : DF} (hK : X.K = C.K) (hG : X.mg = C.mg) (σ : L2.St) (H : Hp) (Q : VK) (q : tS C (fCallD n g fa) σ H Q) : tCallS (spS X.K X.mg n g) (fun σ => C.E σ) (tA C fa) σ H Q := by
  obtain ⟨ρ, F, ι, m, w, s, o⟩ := q
  refine at_intro w s (Out.bind o fun xs m1 vs F1 H1 ι1 _ st w1 rv o1 => ?_)
  split at o1
  · rename_i hn
    rw [hK, hG]
    refine ⟨by rw [Paired.length rv]; exact hn, F1, ι1, m1, xs, w1, rv, ?_⟩
    cases hg : g xs m1 with
    | ok y m2 =>
      rw [hg] at o1
      exact o1
    | err c m2 =>
      rw [hg] at o1
      exact o1
    | bad =>
      rw [hg] at o1
      exact o1
  · exact (Out.not_bad o1).elim
theorem de_fn {k j : Nat} {f : Addr} {fd : FuncData} {ps : List Str} {g : DF} {x : Str} {p pos : Pos} (q : Kx X C k) (G : FnS X.prog X.w X.K X.mg X.base j f fd ps g) (hj : j ≤ k) (hg : Gl X x) (hm : X.mg x = some (.ref f)) (hk : PySem.W.keepIn X.K (.ref f) = true) (hb : Binds X.K fd ps [])
    (ha : PA X (e :: es) (tA C fa)) (hdb : (x == ("__debug__" : Str)) = false) (he : starEach (e :: es) X.env = (false, eval e X.env) :: starEach es X.env) (hpl : (backTo pos (starEach es X.env)).any (·.1) = false) :
    PE X (.Call (.Name x p) (e :: es) [] pos) (tS C (fCallD ps.length g fa)) :=
  peI (pe_callS (E := fun σ => C.E σ) G (q.room.mono hj) hg hm hk hb (fun σ => q.pass σ) ha hdb he hpl) fun σ H Q h => call_i q.hK q.hG σ H Q h

def sRaise (c : Str) : SF := fun ρ m => .err c ρ m
theorem dst_raise {k : Nat} {st : Stmt} {c : Str} {A : Addr} (q : Kx X C k) (gC : X.mg c = some (.ref A)) (h : ∀ W, L2N.Takes X W → PS X st (fun _ σ H => (fun (_ : L2.St) (H : Hp) (Q : XK) => Q (.ref A) none H) σ H fun cls d H' => W cls d σ H')) : PS X st (tSS C (sRaise c)) := psI (h _ q.tk) fun D σ H z => by
  obtain ⟨ρ, F, ι, m, w, s, o⟩ := z
  have := o σ F H ι Stp.refl w s
  unfold clsOf at this
  rw [← q.hG, gC] at this
  exact this
def sTry (i : Nat) (c : Str) (body suite : SF) : SF := fun ρ m => match body ρ m with
  | .err c' ρ1 m1 => if c' = c then (match suite (ρ1.set i none) m1 with
      | .nx ρ2 m2 => .nx (ρ2.set i none) m2
      | .bk ρ2 m2 => .bk (ρ2.set i none) m2
      | .ct ρ2 m2 => .ct (ρ2.set i none) m2
      | .err _ _ _ => .bad
      | r => r) else .bad
  | r => r
abbrev Cn.try (C : Cn) (W : WX) : Cn := { C with E := fun σ cls d H => W cls d σ H }
theorem Slots.wipe1 {K : PySem.W.Frag} {F : Hp} {ι : Nat → Addr} {k : Nat} {σ : L2.St} {ρ : SE} (s : Slots K F ι k σ ρ) (i : Nat) (v : Option V) : Slots K F ι k (σ.set i v) (ρ.set i none) := by
  refine ⟨by rw [List.length_set, List.length_set]; exact s.1, fun j x e => ?_⟩
  have ne : i ≠ j := fun z => by
    subst z
    rw [List.getElem?_set, if_pos rfl] at e
    split at e <;> cases e
  rw [List.getElem?_set_ne ne] at e ⊢
  exact s.2 j x e
theorem dst_try {k i : Nat} {st : Stmt} {c : Str} {A : Addr} {body suite : SF} (q : Kx X C k) (gC : X.mg c = some (.ref A)) (hx : PySem.W.exmOne X.K (.ref A) (.ref A) = some true)
    (h : PS X st (fun D σ H => tSS (C.try (wAs X.K (.ref A) i (fun _ _ _ => tSS C.in0 suite) (fun _ _ _ _ => False) D)) body D σ H)) : PS X st (tSS C (sTry i c body suite)) := psI h fun D σ H z => by
  obtain ⟨ρ, F, ι, m, w, s, o⟩ := z
  refine at_intro (C := C.try _) w s ?_
  unfold sTry at o
  cases hb : body ρ m with
  | nx ρ' m' =>
    rw [hb] at o
    exact o
  | rt x m' =>
    rw [hb] at o
    exact o
  | bk ρ' m' =>
    rw [hb] at o
    exact o
  | ct ρ' m' =>
    rw [hb] at o
    exact o
  | bad =>
    rw [hb] at o
    exact o
  | err c' ρ1 m1 =>
    rw [hb] at o
    dsimp only at o
    split at o
    · rename_i hc
      subst hc
      intro σ' F' H' ι' st w' s'
      refine ⟨true, ?_, fun _ a _ => ?_, fun z => Bool.noConfusion z⟩
      · unfold clsOf
        show PySem.W.exmOne X.K ((C.mg c').getD Value.none) (.ref A) = some true
        rw [← q.hG, gC]
        exact hx
      · refine at_intro (C := C.in0) w' (s'.wipe1 i _) ?_
        have o2 := OutS.shift st o
        cases hs : suite (ρ1.set i none) m1 with
        | nx ρ2 m2 =>
          rw [hs] at o2
          exact fun σ2 F2 H2 ι2 st2 w2 s2 => o2 _ F2 H2 ι2 st2 w2 (s2.wipe1 i none)
        | rt x m2 =>
          rw [hs] at o2
          exact o2
        | bk ρ2 m2 =>
          rw [hs] at o2
          exact fun σ2 F2 H2 ι2 st2 w2 s2 => o2 _ F2 H2 ι2 st2 w2 (s2.wipe1 i none)
        | ct ρ2 m2 =>
          rw [hs] at o2
          exact fun σ2 F2 H2 ι2 st2 w2 s2 => o2 _ F2 H2 ι2 st2 w2 (s2.wipe1 i none)
        | err c2 ρ2 m2 =>
          rw [hs] at o2
          exact o2.elim
        | bad =>
          rw [hs] at o2
          exact o2.elim
    · exact o.elim
end
end WK
namespace WK
open PySem PySem.Spec PyProof.Rows L2
theorem Kx.tr {X : Cx} {C : Cn} {k : Nat} (q : Kx X C k) {W : WX} {pn : List (Addr × Obj)} {xe : Value → Shared → Prop} (tk : L2N.Takes (X.tr pn xe) W) : Kx (X.tr pn xe) (C.try W) k := ⟨q.hK, q.hG, q.room, q.calm, tk⟩
structure FnT (K : PySem.W.Frag) (mg : Str → Option Value) (x : Str) (st : Stmt) (ps : List Str) where
  a : Addr
  fd : FuncData
  F : Fun K x x st a fd
  g : mg x = some (.ref a)
  b : Binds K fd ps []
structure ExT (K : PySem.W.Frag) (mg : Str → Option Value) (x : Str) where
  a : Addr
  g : mg x = some (.ref a)
  x : PySem.W.excIn K a [.type "ValueError", .type "Exception", .type "BaseException", .type "object"] "ValueError.__new__" = true
  k : PySem.W.keepIn K (.ref a) = true
  b : PySem.W.subIn K (.ref a) (.type "BaseException") = some true
  t : PySem.W.typeIn K (.ref a) = some (.type "type")
  e : PySem.W.exmOne K (.ref a) (.ref a) = some true
structure CoT (K : PySem.W.Frag) (mg : Str → Option Value) (x : Str) (d : PyData) where
  v : V
  u : Value
  g : mg x = some u
  r : RelV v u
  l : Lit K v d
end WK

set_option Elab.async false
set_option linter.all false
set_option maxRecDepth 100000
set_option autoImplicit false
set_option maxHeartbeats 2000000
namespace WK
open PySem PySem.Spec PyProof.Rows L2
section
variable {K : PySem.W.Frag} {h : Heap} {mg : Str → Option Value}
def fnT_mk {x : Str} {st : Stmt} {ps : List Str} {f : Addr} {oc : Value} {od an : Option Addr} {osl : Array (Option Value)} {kV doc pm cdv ct : Value} (X : K.In h) (G : h.Ns mainGlobals mg)
    (a : PySem.W.nsIn K mainGlobals x = some (some (.ref f)))
    (l : K.lookup f = some ⟨oc, od, .func (PySem.W.fnOf x x (defArgs st) (defBody st) (defScope st) .none kV doc pm an cdv ct), osl⟩)
    (c : PySem.W.codeIn K cdv x = true) (k : PySem.W.keepIn K (.ref f) = true)
    (b : ∀ (kV doc pm : Value) (an : Option Addr) (cdv ct : Value) (us : List Value), us.length = ps.length → bindArgs (PySem.W.fnOf x x (defArgs st) (defBody st) (defScope st) .none kV doc pm an cdv ct) { pos := us } = pure (ps.zip us)) : FnT K mg x st ps :=
  ⟨f, _, fun_mk l c k, PySem.W.mg_of X G a, (fun_mk l c k).binds b⟩
theorem exm_mk {C : Addr} (b : PySem.W.subIn K (.ref C) (.type "BaseException") = some true) (t : PySem.W.typeIn K (.ref C) = some (.type "type")) (i : PySem.W.isClsIn K C = true) (m : PySem.W.subIn K (.ref C) (.ref C) = some true) :
    PySem.W.exmOne K (.ref C) (.ref C) = some true := by
  unfold PySem.W.exmOne PySem.W.kitCls
  rw [b, if_pos (by rfl)]
  have e : ((PySem.W.clsIn K C).isSome && PySem.W.typeIn K (.ref C) == some (.type "type")) = true := by
    rw [t]
    exact Bool.and_eq_true_iff.mpr ⟨i, by decide⟩
  show (if ((PySem.W.clsIn K C).isSome && PySem.W.typeIn K (.ref C) == some (.type "type")) = true then PySem.W.subIn K (.ref C) (.ref C) else none) = some true
  rw [if_pos e, m]
def exT_mk {x : Str} {C : Addr} (X : K.In h) (G : h.Ns mainGlobals mg)
    (a : PySem.W.nsIn K mainGlobals x = some (some (.ref C)))
    (e : PySem.W.excIn K C [.type "ValueError", .type "Exception", .type "BaseException", .type "object"] "ValueError.__new__" = true)
    (k : PySem.W.keepIn K (.ref C) = true) (b : PySem.W.subIn K (.ref C) (.type "BaseException") = some true) (t : PySem.W.typeIn K (.ref C) = some (.type "type"))
    (i : PySem.W.isClsIn K C = true) (m : PySem.W.subIn K (.ref C) (.ref C) = some true) : ExT K mg x := ⟨C, PySem.W.mg_of X G a, e, k, b, t, exm_mk b t i m⟩
def coT_int {x : Str} {i : Int} {t : _} (X : K.In h) (G : h.Ns mainGlobals mg) (a : PySem.W.nsIn K mainGlobals x = some (some (.int i t))) : CoT K mg x (.int i) :=
  ⟨.int i, .int i t, PySem.W.mg_of X G a, ⟨t, rfl⟩, lit_int⟩
inductive IntVals : List Value → List Int → Prop where
  | nil : IntVals [] []
  | cons {i t r s} : IntVals r s → IntVals (.int i t :: r) (i :: s)
theorem IntVals.vals : ∀ {us : List Value} {ns : List Int}, IntVals us ns → Vals (ns.map V.int) us
  | _, _, .nil => .nil
  | _, _, .cons h => .cons ⟨_, rfl⟩ h.vals
theorem rpAll_ints {F : Hp} : ∀ ns : List Int, RpAll K F (ns.map V.int) (ns.map PyData.int)
  | [] => .nil
  | i :: r => .cons (.int i) (rpAll_ints r)
def coT_tup {x : Str} {A : Addr} {ns : List Int} {osl : Array (Option Value)} {its : Array Value} {n : Nat} (X : K.In h) (G : h.Ns mainGlobals mg)
    (a : PySem.W.nsIn K mainGlobals x = some (some (.ref A)))
    (l : K.lookup A = some ⟨.type "tuple", none, .seq its n, osl⟩) (z : its.size ≤ sizeLine) (v : IntVals its.toList ns) : CoT K mg x (.tuple (ns.map PyData.int)) :=
  ⟨.ref A, .ref A, PySem.W.mg_of X G a, rfl, lit_tup l rfl rfl rfl z v.vals fun _ => rpAll_ints ns⟩
end
def spLaw (K : PySem.W.Frag) : Sp := fun vs H Q _ => ∃ (a : Addr) (ns : List Int), vs = [.ref a] ∧ SqL K H a (ns.map V.int) ∧ ns.length ≤ 63 ∧ ∀ H', Q (.bl true) H'
def TrueAt (g : DF) : Prop := ∀ ns : List Int, ns.length ≤ 63 → ∃ m', g [.k (ns.map PyData.int)] [] = .ok (.d (.bool true)) m'
section
variable {P : Program} {w : World} {K : PySem.W.Frag} {mg : Str → Option Value} {base : Heap} {k : Nat} {f fa : Addr} {fd : FuncData} {ps : List Str} {g : DF}
theorem cxN_imp {outer : List Env} {H : Hp} {s : Shared} {E : XK} {u : Value} {s' : Shared} (h : L2N.CX P w outer H s E u s') : L2.CX P w outer H s E u s' := by
  obtain ⟨a, B, H', cls, d, e, fl, r⟩ := h
  exact ⟨a, B, H', cls, d, e, L2H.flyingZ_imp (fun _ z => z.zc) fl, r⟩
theorem fnN {sp : Sp} (G : FnOk P w K mg base (L2N.CX P w) k f fd ps sp) : FnOk P w K mg base (L2.CX P w) k f fd ps sp :=
  ⟨G.len, fun A outer s H args us vs Q E hr he hb hv hs => codeAny_mono (G.run A outer s H args us vs Q E hr he hb hv hs) fun r s' h => by
    cases r with
    | error e => exact cxN_imp h
    | ok fl => cases fl <;> exact h⟩
theorem law_imp (G : FnS P w K mg base k f fd ps g) (hl : ps.length = 1) (h : TrueAt g) : FnOk P w K mg base (L2.CX P w) k f fd ps (spLaw K) :=
  (fnN G).imp fun vs H Q E ⟨a, ns, e, hS, hn, q⟩ => by
    subst e
    obtain ⟨m', e⟩ := h ns hn
    refine ⟨hl.symm, H, fun _ => 0, [], [.k (ns.map PyData.int)], ⟨fun _ _ z => z, fun n xs e => by simp at e, fun i j hi => absurd hi (Nat.not_lt_zero _), fun n hn => absurd hn (Nat.not_lt_zero _)⟩,
      .cons ⟨a, _, rfl, hS, rpAll_ints ns⟩ .nil, ?_⟩
    rw [e]
    intro v F' H' ι' st w' r
    have r' : Rp K F' v (.bool true) := r
    cases r'
    exact q H'
theorem law_F {st : Stmt} (T : FnT K mg "law" st ["script"]) (hmg : mg "law" = some (.ref fa)) (G : ∀ base : Heap, FnS P w K mg base k T.a T.fd ["script"] g) (h : TrueAt g)
    (b : ∀ (kV doc pm : Value) (an : Option Addr) (cdv ct : Value) (us : List Value), us.length = 1 → bindArgs (PySem.W.fnOf "law" "law" (defArgs st) (defBody st) (defScope st) .none kV doc pm an cdv ct) { pos := us } = pure ((["script"] : List Str).zip us)) :
    ∃ fd : FuncData, (∀ (s : Shared) (u : Value), BindsTo s fd ⟨[u], []⟩ [("script", u)]) ∧ ∀ base : Heap, K.In base → base.Ns mainGlobals mg → FnOk P w K mg base (L2.CX P w) k fa fd ["script"] (spLaw K) := by
  have e := hmg.symm.trans T.g
  cases e
  obtain ⟨oc, od, kV, doc, pm, an, cdv, ct, osl, e, _⟩ := T.F.ex
  refine ⟨T.fd, fun s u => ?_, fun base _ _ => law_imp (G base) rfl h⟩
  rw [e]
  exact .of_eq (b kV doc pm an cdv ct [u] rfl)
end
end WK

set_option Elab.async false
set_option linter.all false
set_option maxRecDepth 100000
set_option autoImplicit false
set_option maxHeartbeats 4000000
set_option Elab.async false
set_option linter.all false
set_option maxRecDepth 100000
set_option autoImplicit false
set_option maxHeartbeats 2000000
namespace WK
open PySem PySem.Spec PyProof.Rows L2
section
variable {X : Cx} {C : Cn}
def inD (a : PyData) (ds : List PyData) : Bool := ds.any fun z => PyData.eqv z a
def inK (kvs : List (Key × SV)) (y : SV) : Option Bool := match keyOf y with
  | some k => some (valS kvs k).isSome
  | none => none
def oInB (x y : SV) (m : MM) : R Bool := match dctOf y m with
  | some kvs => match inK kvs x with
    | some b => .ok b m
    | none => .bad
  | none => match x, y with
    | .d a, .d (.list ds) => if SeqAt.shaped a && SeqAt.shaped (.list ds) then .ok (inD a ds) m else .bad
    | .d a, .d (.tuple ds) => if SeqAt.shaped a && SeqAt.shaped (.tuple ds) then .ok (inD a ds) m else .bad
    | .d (.str i), .d (.str j) => .ok (!(Builtin.Str.occurrences j i 0 j.length 1).isEmpty) m
    | _, _ => .bad
def oIn : OF := fun x y m => (oInB x y m).bind fun b m1 => .ok (.d (.bool b)) m1
def oNotIn : OF := fun x y m => match x, y with
  | .d (.str _), .d (.str _) => .bad
  | _, _ => (oInB x y m).bind fun b m1 => .ok (.d (.bool (!b))) m1
end
section
variable {X : Cx} {C : Cn} {e : Expr} {es : List Expr} {f g : EF} {fa : AF}
def strsOf : List PyData → Option (List Str)
  | [] => some []
  | .str x :: r => match strsOf r with
    | some ys => some (x :: ys)
    | none => none
  | _ :: _ => none
theorem strsOf_map : ∀ ys : List Str, strsOf (ys.map .str) = some ys
  | [] => rfl
  | y :: ys => by
    show (match strsOf (ys.map .str) with | some ys => some (y :: ys) | none => none) = _
    rw [strsOf_map ys]
def intsOf : List PyData → Option (List Int)
  | [] => some []
  | .int x :: r => match intsOf r with
    | some ys => some (x :: ys)
    | none => none
  | _ :: _ => none
def listD (x : SV) (m : MM) : Option (List PyData) := match listOf x m with
  | .ok ys _ => datas ys
  | _ => none
theorem listD_sq {K : PySem.W.Frag} {F H : Hp} {ι : Nat → Addr} {m : MM} {v : V} {x : SV} {ds : List PyData} (w : WR K F H ι m) (r : RV K F ι m.length v x) (e : listD x m = some ds) :
    ∃ a vs, v = .ref a ∧ Rd H a (.lst vs) ∧ RpAll K F vs ds := by
  unfold listD at e
  rcases list_case (x := x) (m := m) with q | ⟨ys, q⟩
  · rw [q] at e
    cases e
  · rw [q] at e
    obtain ⟨a, vs, rfl, h1, h2⟩ := list_sq w r q
    exact ⟨a, vs, rfl, h1, datas_rp h2 e⟩
def ixD (ds : List PyData) (z : PyData) : Option Nat := ds.findIdx? fun y => PyData.eqv y z
def ixStr (ys : List Str) (z : Str) : Option Nat := ys.findIdx? fun y => decide (y = z)
def oIndex : OF := fun x y m => match y with
  | .d z => match x with
    | .d (.tuple ds) => match z, strsOf ds with
      | .str c, some ys => match ixStr ys c with
        | some j => .ok (.d (.int (j : Nat))) m
        | none => .bad
      | _, _ => .bad
    | .d (.list ds) => if SeqAt.shaped (.list ds) && SeqAt.shaped z then match ixD ds z with
        | some j => .ok (.d (.int (j : Nat))) m
        | none => .bad
      else .bad
    | _ => .bad
  | _ => .bad
def isSeqD : SV → Bool
  | .d (.list _) => true
  | .d (.tuple _) => true
  | _ => false
def fIndex (f g : EF) : EF := fun ρ m => (f ρ m).bind fun x m1 => if isSeqD x then (g ρ m1).bind fun y m2 => oIndex x y m2 else .bad
def rSlN (K : PySem.W.Frag) : V → Option Int → Option Int → Hp → VK → Prop := fun x lo hi H Q => ∃ a xs, x = .ref a ∧ SqT K H a xs ∧
  (HT.sIx xs.length 0 lo = 0 ∧ HT.sIx xs.length xs.length hi = xs.length → Q (.ref a) H) ∧ (¬ (HT.sIx xs.length 0 lo = 0 ∧ HT.sIx xs.length xs.length hi = xs.length) → NTup H (cutV xs lo hi) Q)
theorem sl_tupN : SlR X (rSlN X.K) := by
  intro pins s σ H x v vl vu lo hi sl Q I rx hs pl pu h
  obtain ⟨a, xs, rfl, hx, q1, q2⟩ := h
  cases rx
  obtain ⟨its, r, ht, hz⟩ := I.tuple hx
  have hn : its.toArray.size = xs.length := by rw [List.size_toArray]; exact r.length.symm
  refine ⟨"tuple", _, PyProof.Rows.slot_tuple_getitem.lookup, ht.typeIs, ?_⟩
  by_cases hw : HT.sIx xs.length 0 lo = 0 ∧ HT.sIx xs.length xs.length hi = xs.length
  · exact getItem_tuple_whole ht hs pl pu (by rw [hn]; exact hw) ⟨.ref a, H, I, rfl, q1 hw⟩
  · refine HT.getItem_tuple_cut ht hs pl pu (by rw [hn]; exact hw) ?_ (by rw [hn]; exact hz)
    rw [hn]
    exact Inv.ntup (tk := s.toks) I ((r.drop (HT.sIx xs.length 0 lo)).take (HT.sIx xs.length xs.length hi - HT.sIx xs.length 0 lo)) (Nat.le_trans (cutV_length xs lo hi) hz) (q2 hw)
def oSl (x : SV) (lo hi : Option Int) (m : MM) : R SV := match x with
  | .d (.tuple ds) => .ok (.d (.tuple (cutG ds lo hi))) m
  | .d (.str z) => if z.length ≤ sizeLine then .ok (.d (.str (cutS z lo hi))) m else .bad
  | _ => match listD x m with
    | some ds => .ok (.d (.list (cutG ds lo hi))) m
    | none => .bad
def fSl (f : EF) (lo hi : PF) : EF := fun ρ m => (f ρ m).bind fun x m1 => (lo ρ m1).bind fun a m2 => (hi ρ m2).bind fun b m3 => oSl x a b m3
theorem RpAll.cut {K : PySem.W.Frag} {F : Hp} {vs : List V} {ds : List PyData} (r : RpAll K F vs ds) (lo hi : Option Int) : RpAll K F (cutV vs lo hi) (cutG ds lo hi) := by
  unfold cutV cutG
  rw [r.length]
  exact RpAll.take _ (RpAll.drop _ r)
theorem cutG_whole {α : Type} {xs : List α} {lo hi : Option Int} (h : HT.sIx xs.length 0 lo = 0 ∧ HT.sIx xs.length xs.length hi = xs.length) : cutG xs lo hi = xs := by
  unfold cutG
  rw [h.1, h.2, List.drop_zero, Nat.sub_zero, List.take_length]
theorem de_slice {lo hi : Option Expr} {pl ph : PF} {p2 pos : Pos} (hk : X.K = C.K) (he : PE X e (tS C f)) (hl : PO X lo (tP C pl)) (hu : PO X hi (tP C ph)) : PE X (.Subscript e (.Slice lo hi none p2) pos) (tS C (fSl f pl ph)) :=
    peI (pe_slice (SlR.or (SlR.or sl_list sl_tupN) sl_str) he hl hu) fun σ H Q q => by
  obtain ⟨ρ, F, ι, m, w, s, o⟩ := q
  refine at_intro w s (Out.bind (rel' := relV C.K) o fun x m1 v F1 H1 ι1 _ st w1 rv o1 => ?_)
  refine at_intro w1 (s.up st) (Out.bind o1 fun a m2 av F2 H2 ι2 _ st2 w2 ra o2 => ?_)
  refine at_intro w2 ((s.up st).up st2) (Out.bind o2 fun b m3 bv F3 H3 ι3 _ st3 w3 rb o3 => ?_)
  have ra' : av = a := ra
  have rb' : bv = b := rb
  subst ra'
  subst rb'
  have rv3 := (rv.up st2).up st3
  rw [hk]
  unfold oSl at o3
  split at o3
  · obtain ⟨p, us, rfl, h1, h2⟩ := rv_tup rv3
    refine .inl (.inr ⟨p, us, rfl, (sqN_in w3 h1).t, fun h => ?_, fun _ => o3.ntup w3 (h2.cut _ _)⟩)
    rw [h2.length] at h
    rw [cutG_whole h] at o3
    exact o3.ok w3 (Rp.tup h1 h2)
  · split at o3
    · rename_i hz
      exact .inr ⟨_, rv_str rv3, hz, o3.ok w3 (Rp.str _)⟩
    · exact o3.not_bad.elim
  · split at o3
    · rename_i ds hd
      obtain ⟨p, us, rfl, h1, h2⟩ := listD_sq w3 rv3 hd
      refine .inl (.inl ⟨p, us, rfl, .inl h1, fun q hq => ?_⟩)
      have s3 := w3.frz_stp hq (HO.lst (cutV us av bv))
      exact o3.ok' s3 (w3.frz hq _) (Rp.lst (.inl upd_same) (rpAll_up s3.frz _ _ (h2.cut _ _)))
    · exact o3.not_bad.elim
def rRepN (K : PySem.W.Frag) : R2 := fun x y H Q => ∃ l k xs, x = .ref l ∧ y = .int k ∧ SqT K H l xs ∧ xs ≠ [] ∧ 2 ≤ k ∧ k ≤ 1000 ∧ xs.length ≤ 1000 ∧ NTup H (List.replicate k.toNat xs).flatten Q
theorem op_repN : OpR X (binaryOp .Mult) (rRepN X.K) := by
  intro pins s σ H x y v u Q I rx ry h
  obtain ⟨l, k, xs, rfl, rfl, hT, hne, h1, h2, hz, q⟩ := h
  cases rx
  obtain ⟨t, rfl⟩ := ry
  obtain ⟨its, r, ⟨⟨cls, dd, data, sl⟩, ho, hc, n, hd⟩, hs⟩ := I.tuple hT
  simp only at hc hd
  subst hc hd
  have hle : its.length = xs.length := r.length.symm
  have i0 : its.toArray.isEmpty = false := by
    cases its with
    | nil => exact absurd (List.eq_nil_of_length_eq_zero hle.symm) hne
    | cons a b => rfl
  have sz : its.toArray.size = xs.length := by rw [List.size_toArray, hle]
  have hm : ((its.toArray.size : Nat) : Int) * k ≤ 1000000 := by
    rw [sz]
    have a1 : ((xs.length : Nat) : Int) * k ≤ 1000 * k := Int.mul_le_mul_of_nonneg_right (by omega) (by omega)
    omega
  have fl : (List.replicate k.toNat its).flatten.length ≤ sizeLine := by
    rw [PyProof.Rows.lm_len_rep_flat, hle, sizeLine_eq]
    have a1 : k.toNat * xs.length ≤ 1000 * 1000 := Nat.mul_le_mul (by omega) hz
    omega
  have c0 : (decide (k < -(2 ^ 63)) || decide (k ≥ 2 ^ 63)) = false := by
    rw [decide_eq_false (by omega), decide_eq_false (by omega)] <;> rfl
  have c1 : (its.toArray.isEmpty || k == 1) = false := by
    rw [i0, Bool.false_or]
    exact beq_eq_false_iff_ne.mpr (by omega)
  have c2 : (decide (k ≤ 0) || its.toArray.isEmpty) = false := by
    rw [i0, Bool.or_false]
    exact decide_eq_false (by omega)
  have c4 : Builtin.Tuple.tupleTooMany (((its.toArray.size : Nat) : Int) * k) = false := by
    unfold Builtin.Tuple.tupleTooMany
    rw [sizeLine_eq]
    exact decide_eq_false (by omega)
  refine wpAny_binaryOp_repeat_ref (T := "tuple") (U := "int") (by decide) ⟨_, ho, rfl⟩ (fun s' => typeIs_int s' k t) noFill_tuple_mul F.fills_int_mul F.slot_int_rmul repeat_tuple F.slot_int_index.lookup ?_
  refine call_meets F.slot_int_rmul (typeIs_int s k t) F.entry_int_rmul (F.args_int_rmul_2 _ _) (int_rmul_tuple k t l its.toArray n dd sl) ⟨ho, rfl, ⟨_, ho, rfl⟩, ?_⟩
  refine call_meets F.slot_tuple_mul ⟨_, ho, rfl⟩ F.entry_tuple_mul (F.args_tuple_mul_2 _ _) (tuple_mulW l its.toArray n dd sl k t c0 c1 c2 (by omega) c4 (by rw [size_rep, List.size_toArray]; exact fl)) ⟨ho, ?_⟩
  rw [size_rep]
  exact Inv.ntup (tk := s.toks) I (r.rep k.toNat) (by rw [PyProof.Rows.lm_len_rep_flat, ← hle, ← PyProof.Rows.lm_len_rep_flat]; exact fl) q
def oMulU : OF := fun x y m => match x, y with
  | .d (.int i), .d (.int j) => if okMul i j then .ok (.d (.int (i * j))) m else .bad
  | .d (.tuple ds), .d (.int k) => if ds ≠ [] ∧ 2 ≤ k ∧ k ≤ 1000 ∧ ds.length ≤ 1000 then .ok (.d (.tuple (List.replicate k.toNat ds).flatten)) m else .bad
  | _, _ => .bad
def rMulI : R2 := rI (fun i j => i.natAbs.log2 + j.natAbs.log2 < 1000000) fun i j => .int (i * j)
theorem RpAll.reps {K : PySem.W.Frag} {F : Hp} {vs : List V} {ds : List PyData} (r : RpAll K F vs ds) : ∀ n : Nat, RpAll K F (List.replicate n vs).flatten (List.replicate n ds).flatten
  | 0 => .nil
  | n + 1 => r.append (RpAll.reps r n)
theorem opd_mulU : OpD C (fun x y H Q => rMulI x y H Q ∨ rRepN C.K x y H Q) oMulU := by
  intro σ F H ι m x y v u Q w rv ru o
  unfold oMulU at o
  split at o
  · split at o
    · rename_i i j h
      exact .inl ⟨_, _, rv_int rv, rv_int ru, of_decide_eq_true h, o.ok w (Rp.int _)⟩
    · exact o.not_bad.elim
  · split at o
    · rename_i ds k h
      obtain ⟨a, vs, rfl, h1, h2⟩ := rv_tup rv
      have hl := h2.length
      refine .inr ⟨a, k, vs, rfl, rv_int ru, (sqN_in w h1).t, fun e => h.1 ?_, h.2.1, h.2.2.1, by omega, o.ntup w (h2.reps _)⟩
      rw [e] at hl
      exact List.eq_nil_of_length_eq_zero hl.symm
    · exact o.not_bad.elim
  · exact o.not_bad.elim
variable {a b : Expr} {pos : Pos}
theorem de_mulU (hk : X.K = C.K) (ha : PE X a (tS C f)) (hb : PE X b (tS C g)) : PE X (.BinOp a .Mult b pos) (tS C (fBin oMulU f g)) := de_bin (OpR.or op_mulW (by rw [← hk]; exact op_repN)) opd_mulU ha hb
def fLstRg (f : EF) : LF := fun ρ m => (f ρ m).bind fun x m1 => match x with
  | .d (.int n) => if 0 ≤ n ∧ n ≤ cap then .ok ((List.range n.toNat).map fun i => .d (.int (i : Nat))) m1 else .bad
  | _ => .bad
def uniq {α : Type} [DecidableEq α] (xs : List α) : List α := xs.foldl (fun acc x => if x ∈ acc then acc else acc ++ [x]) []
end
end WK

set_option Elab.async false
set_option linter.all false
set_option maxRecDepth 100000
set_option autoImplicit false
set_option maxHeartbeats 2000000
namespace WK
open PySem PySem.Spec PyProof.Rows L2
section
variable {X : Cx} {C : Cn} {a : Expr} {ta : TE} {f g : EF} {p p2 q pos : Pos}
def cntU (ds : List PyData) : Option Nat := match intsOf ds with
  | some ns => some (uniq ns).length
  | none => match strsOf ds with
    | some ns => some (uniq ns).length
    | none => none
def fLenSet (f : EF) : EF := fun ρ m => (f ρ m).bind fun x m1 => match listD x m1 with
  | some ds => match cntU ds with
    | some n => if ds.length ≤ 4000 then .ok (.d (.int (n : Nat))) m1 else .bad
    | none => .bad
  | none => .bad
end
end WK

set_option Elab.async false
set_option linter.all false
set_option maxRecDepth 100000
set_option autoImplicit false
set_option maxHeartbeats 2000000
namespace WK
open PySem PySem.Spec PyProof.Rows L2
section
variable {X : Cx} {C : Cn} {e : Expr} {es : List Expr} {f g h : EF} {fa : AF} {pos : Pos} {st : Stmt}
abbrev GM := PyData → SE → MM → Option (SE × MM)
def gmSub (fo fi : EF) : GM := fun x ρ m => match fo ρ m with
  | .ok o m1 => match fi ρ m1 with
    | .ok i m2 => match putU m2 o i (.d x) with
      | some m3 => some (ρ, m3)
      | none => none
    | _ => none
  | _ => none
def sAsgE2 (g1 g2 : GM) (f : EF) : SF := fun ρ m => (f ρ m).then ρ fun x m1 => match x with
  | .d x => match g1 x ρ m1 with
    | some (ρ1, m2) => match g2 x ρ1 m2 with
      | some (ρ2, m3) => .nx ρ2 m3
      | none => .bad
    | none => .bad
  | _ => .bad
def frzAll : List SV → MM → Option (List PyData × MM)
  | [], m => some ([], m)
  | .d x :: r, m => match frzAll r m with
    | some (ds, m2) => some (x :: ds, m2)
    | none => none
  | .o k :: r, m => match m[k]? with
    | some (.lst ys) => match datas ys with
      | some es => match frzAll r (m.set k .gone) with
        | some (ds, m2) => some (.list es :: ds, m2)
        | none => none
      | none => none
    | _ => none
  | .k _ :: _, _ => none
def sFrzD (i : Nat) (b : SF) : SF := fun ρ m => match ρ[i]? with
  | some (some (.o n)) => match m[n]? with
    | some (.lst xs) => match frzAll xs m with
      | some (ds, m2) => match m2[n]? with
        | some (.lst _) => b (ρ.set i (some (.d (.list ds)))) (m2.set n .gone)
        | _ => .bad
      | none => .bad
    | _ => .bad
  | _ => .bad
theorem dst_parC2 {i j : Nat} (h : PS X st (tAsg (fun σ H Q => tA C fa σ H fun xs H1 => xs.length ≤ sizeLine ∧ NTup H1 xs Q) (gTup C.K 2 (gCons (gName i) (gCons (gName j) gNil))))) : PS X st (tSS C (sPar2 i j fa)) := psI h fun D σ H q => by
  obtain ⟨ρ, F, ι, m, w, s, o⟩ := q
  refine at_intro w s (OutS.then s o fun xs m1 vs F1 H1 ι1 _ st w1 rv o1 => ?_)
  split at o1
  · obtain ⟨v, u, rfl, r1, r2⟩ := rvs2 rv
    refine ⟨by show 2 ≤ sizeLine; decide, fun p ob hp hd => ?_⟩
    have s2 := w1.frz_stp hp (HO.frz ob (.tup [v, u]))
    refine ⟨p, [v, u], rfl, .inl (.inr ⟨ob, upd_same⟩), rfl, v, [u], rfl, u, [], rfl, rfl, ?_⟩
    exact o1 _ _ _ _ s2 (w1.frz hp _) ((((s.up st).up s2).set (r1.up s2) i).set (r2.up s2) j)
  · exact o1.elim
theorem FnS.bad {P : Program} {w : World} {K : PySem.W.Frag} {mg : Str → Option Value} {base : Heap} {k : Nat} {f : Addr} {fd : FuncData} {ps : List Str} : FnS P w K mg base k f fd ps (fun _ _ => .bad) :=
  ⟨fun vs H Q E h => h.1, fun _ _ _ _ _ _ _ _ _ _ _ _ _ h => by
    obtain ⟨_, F, ι, m, xs, w, r, o⟩ := h
    exact (Out.not_bad o).elim⟩
end
end WK

set_option Elab.async false
set_option linter.all false
set_option maxRecDepth 100000
set_option autoImplicit false
set_option maxHeartbeats 4000000
set_option Elab.async false
set_option linter.all false
set_option maxRecDepth 100000
set_option autoImplicit false
set_option maxHeartbeats 2000000
set_option Elab.async false
set_option linter.all false
set_option maxRecDepth 100000
set_option autoImplicit false
set_option maxHeartbeats 2000000
set_option Elab.async false
set_option linter.all false
set_option maxRecDepth 100000
set_option autoImplicit false
set_option maxHeartbeats 2000000
namespace WK
open PySem PySem.Spec PyProof.Rows L2
structure Kh (X : Cx) (C : Cn) (k : Nat) : Prop where
  hK : X.K = C.K
  hG : X.mg = C.mg
  room : L2H.RoomH k X.A
  hot : L2H.HotC X
  tk : L2N.Takes X (fun cls d σ H => C.E σ cls d H)
theorem Kh.pass {X : Cx} {C : Cn} {k : Nat} (q : Kh X C k) (σ : L2.St) : PassesAt (L2N.CX X.prog X.w) X σ (C.E σ) := L2N.passAt q.tk σ
theorem Kh.hu {X : Cx} {C : Cn} {k : Nat} (q : Kh X C k) : X.A.units + 65 < cLine := by have := q.room.un; omega
theorem Kh.mono {X : Cx} {C : Cn} {j k : Nat} (q : Kh X C k) (h : j ≤ k) : Kh X C j := ⟨q.hK, q.hG, q.room.mono h, q.hot, q.tk⟩
theorem Kx.suite {X : Cx} {C : Cn} {k : Nat} (q : Kx X C k) {a : Addr} {oe : Obj} {cls : Value} {d : Option Addr} {pn : List (Addr × Obj)} (hz : L2N.Zn cls d oe) (hf : ∃ vs, oe.data = .fields vs) : Kh (X.suite a ((a, oe) :: pn)) C.in0 k := by
  obtain ⟨vs, hd⟩ := hf
  exact ⟨q.hK, q.hG, ⟨by have := q.room.dp; exact this, by have := q.room.un; exact this⟩, ⟨(a, oe), ⟨rfl, vs, hd, hz.2.2 vs hd⟩, List.mem_cons_self⟩, takes0N⟩
end WK

set_option Elab.async false
set_option linter.all false
set_option maxRecDepth 100000
set_option autoImplicit false
set_option maxHeartbeats 2000000
set_option Elab.async false
set_option linter.all false
set_option maxRecDepth 100000
set_option autoImplicit false
set_option maxHeartbeats 2000000
namespace WK
open PySem PySem.Spec PyProof.Rows L2
instance {α : Type} : DecidablePred (fun x : Option α => x = none) := fun x => match x with
  | none => .isTrue rfl
  | some _ => .isFalse fun z => nomatch z
end WK

set_option Elab.async false
set_option linter.all false
set_option maxRecDepth 100000
set_option autoImplicit false
set_option maxHeartbeats 2000000
set_option Elab.async false
set_option linter.all false
set_option maxRecDepth 100000
set_option autoImplicit false
set_option maxHeartbeats 4000000
namespace Mn
open PySem PySem.Spec PyProof.Rows L2 WK
@[irreducible] def turns : Nat := 2 ^ 100000
def s_is_integer : SF :=
  (sRet (fAndV (fIsi "int" (fVar 0)) (fUn oNotV (fIsi "bool" (fVar 0)))))
def m_is_integer : DF := defS 1 s_is_integer
def s_is_between : SF :=
  (sRet (fAndV (fCallD 1 m_is_integer (aCons (fVar 0) aNil)) (fChain oLe oLe (fVar 1) (fVar 0) (fVar 2))))
def m_is_between : DF := defS 3 s_is_between
def s_is_ratio : SF :=
  (sSeq (sIf (fOr (fNot (fTru (fIsi "tuple" (fVar 0)))) (fTest (fBin oNe (fCall oLen (aCons (fVar 0) aNil)) (fC (.int 2)))))
  (sRet (fC (.bool false)))
  sPass)
  (sSeq (sUnp (gT 2 (gsCons (gN 1) (gsCons (gN 2) gsNil))) (fVar 0))
  (sRet (fAndV (fCallD 1 m_is_integer (aCons (fVar 1) aNil)) (fAndV (fCallD 1 m_is_integer (aCons (fVar 2) aNil)) (fAndV (fBin oGt (fVar 2) (fC (.int 0))) (fBin oEq (fCall oGcd (aCons (fVar 1) (aCons (fVar 2) aNil))) (fC (.int 1)))))))))
def m_is_ratio : DF := defS 3 s_is_ratio
def s_are_ratios : SF :=
  (sRet (fAndV (fIsi "tuple" (fVar 0)) (fAndV (fBin oEq (fCall oLen (aCons (fVar 0) aNil)) (fVar 1)) (fCall oAll (aCons (fFz (fComp (iSeq (fVar 0)) (gN 2) [2] tYesF (fCallD 1 m_is_ratio (aCons (fVar 2) aNil)))) aNil)))))
def m_are_ratios : DF := defS 3 s_are_ratios
def s_ratio : SF :=
  (sSeq (sSet 2 (fCall oGcd (aCons (fVar 0) (aCons (fVar 1) aNil))))
  (sSeq (sIf (fTest (fBin oLt (fVar 1) (fC (.int 0))))
  (sSet 2 (fUn oNeg (fVar 2)))
  sPass)
  (sRet (fTup (aCons (fBin oDiv (fVar 0) (fVar 2)) (aCons (fBin oDiv (fVar 1) (fVar 2)) aNil))))))
def m_ratio : DF := defS 3 s_ratio
def s_plus : SF :=
  (sRet (fCallD 2 m_ratio (aCons (fBin oAddU (fBin oMulU (fBin oIx (fVar 0) (fC (.int 0))) (fBin oIx (fVar 1) (fC (.int 1)))) (fBin oMulU (fBin oIx (fVar 1) (fC (.int 0))) (fBin oIx (fVar 0) (fC (.int 1))))) (aCons (fBin oMulU (fBin oIx (fVar 0) (fC (.int 1))) (fBin oIx (fVar 1) (fC (.int 1)))) aNil))))
def m_plus : DF := defS 2 s_plus
def s_minus : SF :=
  (sRet (fCallD 2 m_ratio (aCons (fBin oSub (fBin oMulU (fBin oIx (fVar 0) (fC (.int 0))) (fBin oIx (fVar 1) (fC (.int 1)))) (fBin oMulU (fBin oIx (fVar 1) (fC (.int 0))) (fBin oIx (fVar 0) (fC (.int 1))))) (aCons (fBin oMulU (fBin oIx (fVar 0) (fC (.int 1))) (fBin oIx (fVar 1) (fC (.int 1)))) aNil))))
def m_minus : DF := defS 2 s_minus
def s_times : SF :=
  (sRet (fCallD 2 m_ratio (aCons (fBin oMulU (fBin oIx (fVar 0) (fC (.int 0))) (fBin oIx (fVar 1) (fC (.int 0)))) (aCons (fBin oMulU (fBin oIx (fVar 0) (fC (.int 1))) (fBin oIx (fVar 1) (fC (.int 1)))) aNil))))
def m_times : DF := defS 2 s_times
def s_unit : SF :=
  (sRet (fFz (fComp (iRange1 (aCons (fVar 0) aNil)) (gN 2) [2] tYesF (fIf (fTest (fBin oEq (fVar 2) (fVar 1))) (fC (.tuple [(.int 1), (.int 1)])) (fC (.tuple [(.int 0), (.int 1)]))))))
def m_unit : DF := defS 3 s_unit
def s_whole : SF :=
  (sSeq (sSet 1 (fC (.int 1)))
  (sSeq (sFor [] (iSeq (fVar 0)) (gN 2)
  (sSet 1 (fCall oLcm (aCons (fVar 1) (aCons (fBin oIx (fVar 2) (fC (.int 1))) aNil)))))
  (sRet (fTup (aCons (fVar 1) (aCons (fFz (fComp (iSeq (fVar 0)) (gN 2) [2] tYesF (fBin oMulU (fBin oIx (fVar 2) (fC (.int 0))) (fBin oDiv (fVar 1) (fBin oIx (fVar 2) (fC (.int 1))))))) aNil))))))
def m_whole : DF := defS 3 s_whole
def s_slim : SF :=
  (sSeq (sSet 1 (fC (.int 0)))
  (sSeq (sFor [] (iSeq (fVar 0)) (gN 2)
  (sSeq (sSet 1 (fCall oGcd (aCons (fVar 1) (aCons (fVar 2) aNil))))
  (sIf (fTest (fBin oEq (fVar 1) (fC (.int 1))))
  (sRet (fVar 0))
  sPass)))
  (sSeq (sIf (fTest (fBin oEq (fVar 1) (fC (.int 0))))
  (sRet (fVar 0))
  sPass)
  (sRet (fFz (fComp (iSeq (fVar 0)) (gN 2) [2] tYesF (fBin oDiv (fVar 2) (fVar 1))))))))
def m_slim : DF := defS 3 s_slim
def s_is_name : SF :=
  (sSeq (sIf (fOr (fNot (fTru (fIsi "str" (fVar 0)))) (fNot (fTest (fChain oLe oLe (fC (.int 1)) (fCall oLen (aCons (fVar 0) aNil)) (fC (.int 8))))))
  (sRet (fC (.bool false)))
  sPass)
  (sRet (fAndV (fBin oIn (fBin oIx (fVar 0) (fC (.int 0))) (fC (.str "abcdefghijklmnopqrstuvwxyz"))) (fCall oAll (aCons (fFz (fComp (iSeq (fVar 0)) (gN 1) [1] tYesF (fBin oIn (fVar 1) (fC (.str "abcdefghijklmnopqrstuvwxyz0123456789"))))) aNil)))))
def m_is_name : DF := defS 2 s_is_name
def s_is_line : SF :=
  (sSeq (sIf (fOr (fNot (fTru (fIsi "tuple" (fVar 0)))) (fTest (fBin oNe (fCall oLen (aCons (fVar 0) aNil)) (fC (.int 5)))))
  (sRet (fC (.bool false)))
  sPass)
  (sSeq (sUnp (gT 5 (gsCons (gN 2) (gsCons (gN 3) (gsCons (gN 4) (gsCons (gN 5) (gsCons (gN 6) gsNil)))))) (fVar 0))
  (sSeq (sIf (fOr (fTest (fBin oNotIn (fVar 3) (fVar 1))) (fOr (fTest (fBin oNotIn (fVar 4) (fVar 1))) (fTest (fBin oEq (fVar 3) (fVar 4)))))
  (sRet (fC (.bool false)))
  sPass)
  (sRet (fAndV (fCallD 1 m_is_name (aCons (fVar 2) aNil)) (fAndV (fCallD 3 m_is_between (aCons (fVar 5) (aCons (fC (.int 1)) (aCons (fC (.int 99)) aNil)))) (fCallD 3 m_is_between (aCons (fVar 6) (aCons (fC (.int 0)) (aCons (fC (.int 999)) aNil))))))))))
def m_is_line : DF := defS 7 s_is_line
def s_is_user : SF :=
  (sSeq (sIf (fOr (fNot (fTru (fIsi "tuple" (fVar 0)))) (fTest (fBin oNe (fCall oLen (aCons (fVar 0) aNil)) (fC (.int 4)))))
  (sRet (fC (.bool false)))
  sPass)
  (sSeq (sUnp (gT 4 (gsCons (gN 3) (gsCons (gN 4) (gsCons (gN 5) (gsCons (gN 6) gsNil))))) (fVar 0))
  (sRet (fAndV (fCallD 1 m_is_name (aCons (fVar 3) aNil)) (fAndV (fBin oIn (fVar 4) (fVar 1)) (fAndV (fCallD 3 m_is_between (aCons (fVar 5) (aCons (fC (.int 0)) (aCons (fC (.int 999)) aNil)))) (fCallD 3 m_is_between (aCons (fVar 6) (aCons (fC (.int 0)) (aCons (fVar 2) aNil))))))))))
def m_is_user : DF := defS 7 s_is_user
def s_is_grid : SF :=
  (sSeq (sIf (fOr (fNot (fTru (fIsi "tuple" (fVar 0)))) (fTest (fBin oNe (fCall oLen (aCons (fVar 0) aNil)) (fC (.int 4)))))
  (sRet (fC (.bool false)))
  sPass)
  (sSeq (sIf (fNot (fTru (fCall oAll (aCons (fFz (fComp (iSeq (fVar 0)) (gN 6) [6] tYesF (fIsi "tuple" (fVar 6)))) aNil))))
  (sRet (fC (.bool false)))
  sPass)
  (sSeq (sUnp (gT 4 (gsCons (gN 1) (gsCons (gN 2) (gsCons (gN 3) (gsCons (gN 4) gsNil))))) (fVar 0))
  (sSeq (sIf (fOr (fNot (fTest (fChain oLe oLe (fC (.int 1)) (fCall oLen (aCons (fVar 1) aNil)) (fC (.int 8))))) (fTest (fBin oGt (fCall oLen (aCons (fVar 2) aNil)) (fC (.int 14)))))
  (sRet (fC (.bool false)))
  sPass)
  (sSeq (sIf (fOr (fTest (fBin oGt (fCall oLen (aCons (fVar 3) aNil)) (fC (.int 8)))) (fTest (fBin oGt (fCall oLen (aCons (fVar 4) aNil)) (fC (.int 8)))))
  (sRet (fC (.bool false)))
  sPass)
  (sSeq (sIf (fOr (fNot (fTru (fCall oAll (aCons (fFz (fComp (iSeq (fVar 1)) (gN 7) [7] tYesF (fCallD 1 m_is_name (aCons (fVar 7) aNil)))) aNil)))) (fNot (fTru (fCall oAll (aCons (fFz (fComp (iSeq (fVar 2)) (gN 8) [8] tYesF (fCallD 2 m_is_line (aCons (fVar 8) (aCons (fVar 1) aNil))))) aNil)))))
  (sRet (fC (.bool false)))
  sPass)
  (sSeq (sIf (fNot (fTru (fCall oAll (aCons (fFz (fComp (iSeq (fVar 3)) (gN 9) [9] tYesF (fCallD 3 m_is_user (aCons (fVar 9) (aCons (fVar 1) (aCons (fC (.int 999)) aNil)))))) aNil))))
  (sRet (fC (.bool false)))
  sPass)
  (sSeq (sIf (fNot (fTru (fCall oAll (aCons (fFz (fComp (iSeq (fVar 4)) (gN 10) [10] tYesF (fCallD 3 m_is_user (aCons (fVar 10) (aCons (fVar 1) (aCons (fC (.int 9999)) aNil)))))) aNil))))
  (sRet (fC (.bool false)))
  sPass)
  (sSeq (sSet 5 (fBin oAddU (fFz (fCallL oList (aCons (fVar 1) aNil))) (fFz (fComp (iSeq (fBin oAddU (fBin oAddU (fVar 2) (fVar 3)) (fVar 4))) (gN 11) [11] tYesF (fBin oIx (fVar 11) (fC (.int 0)))))))
  (sRet (fBin oEq (fLenSet (fVar 5)) (fCall oLen (aCons (fVar 5) aNil)))))))))))))
def m_is_grid : DF := defS 12 s_is_grid
def s_check_grid : SF :=
  (sIf (fNot (fTru (fCallD 1 m_is_grid (aCons (fVar 0) aNil))))
  (sRaise "BadGrid")
  sPass)
def m_check_grid : DF := defS 1 s_check_grid
def s_line_ends : SF :=
  (sSeq (sSet 1 (fBin oIx (fVar 0) (fC (.int 0))))
  (sRet (fFz (fComp (iSeq (fBin oIx (fVar 0) (fC (.int 1)))) (gN 2) [2] tYesF (fTup (aCons (fIndex (fVar 1) (fBin oIx (fVar 2) (fC (.int 1)))) (aCons (fIndex (fVar 1) (fBin oIx (fVar 2) (fC (.int 2)))) aNil)))))))
def m_line_ends : DF := defS 3 s_line_ends
def s_joined : SF :=
  (sSeq (sSet 3 (fCall oMin (aCons (fBin oIx (fVar 0) (fVar 1)) (aCons (fBin oIx (fVar 0) (fVar 2)) aNil))))
  (sSeq (sSet 4 (fCall oMax (aCons (fBin oIx (fVar 0) (fVar 1)) (aCons (fBin oIx (fVar 0) (fVar 2)) aNil))))
  (sRet (fFz (fComp (iSeq (fVar 0)) (gN 5) [5] tYesF (fIf (fTest (fBin oEq (fVar 5) (fVar 4))) (fVar 3) (fVar 5)))))))
def m_joined : DF := defS 6 s_joined
def s_first_places : SF :=
  (sSeq (sSet 1 (fFz (fLstRg (fCall oLen (aCons (fBin oIx (fVar 0) (fC (.int 0))) aNil)))))
  (sSeq (sFor [2, 3] (iSeq (fCallD 1 m_line_ends (aCons (fVar 0) aNil))) (gT 2 (gsCons (gN 2) (gsCons (gN 3) gsNil)))
  (sSet 1 (fCallD 3 m_joined (aCons (fVar 1) (aCons (fVar 2) (aCons (fVar 3) aNil))))))
  (sRet (fVar 1))))
def m_first_places : DF := defS 4 s_first_places
def s_island_places : SF :=
  (sSeq (sSet 1 (fCallD 1 m_first_places (aCons (fVar 0) aNil)))
  (sSeq (sSet 2 (fCall oLen (aCons (fVar 1) aNil)))
  (sRet (fFz (fComp (iRange1 (aCons (fVar 2) aNil)) (gN 3) [3] (fTest (fBin oEq (fBin oIx (fVar 1) (fVar 3)) (fVar 3))) (fFz (fComp (iRange1 (aCons (fVar 2) aNil)) (gN 4) [4] (fTest (fBin oEq (fBin oIx (fVar 1) (fVar 4)) (fVar 3))) (fVar 4))))))))
def m_island_places : DF := defS 5 s_island_places
def s_cleared : SF :=
  (sSeq (sIf (fTest (fBin oEq (fBin oIx (fVar 0) (fVar 2)) (fC (.int 0))))
  (sRet (fVar 0))
  sPass)
  (sSeq (sSet 3 (fCall oGcd (aCons (fBin oIx (fVar 0) (fVar 2)) (aCons (fBin oIx (fVar 1) (fVar 2)) aNil))))
  (sSeq (sPar2 4 5 (aCons (fBin oDiv (fBin oIx (fVar 1) (fVar 2)) (fVar 3)) (aCons (fBin oDiv (fBin oIx (fVar 0) (fVar 2)) (fVar 3)) aNil)))
  (sRet (fCallD 1 m_slim (aCons (fFz (fComp (iZip (aCons (fVar 0) (aCons (fVar 1) aNil))) (gT 2 (gsCons (gN 6) (gsCons (gN 7) gsNil))) [6, 7] tYesF (fBin oSub (fBin oMulU (fVar 4) (fVar 6)) (fBin oMulU (fVar 5) (fVar 7))))) aNil))))))
def m_cleared : DF := defS 8 s_cleared
def s_eliminated : SF :=
  (sSeq (sPar3 2 3 4 (aCons (fFz (fLst aNil)) (aCons (fFz (fCallL oList (aCons (fVar 0) aNil))) (aCons (fOwn (fLst aNil)) aNil))))
  (sSeq (sFor [5, 6, 7, 8] (iRange1 (aCons (fVar 1) aNil)) (gN 5)
  (sSeq (sSet 6 (fC (.int 0)))
  (sSeq (sWhile [] turns (fAnd (fTest (fBin oLt (fVar 6) (fCall oLen (aCons (fVar 3) aNil)))) (fTest (fBin oEq (fBin oIx (fBin oIx (fVar 3) (fVar 6)) (fVar 5)) (fC (.int 0)))))
  (sAug 6 (fun a b => a + b) (fC (.int 1))))
  (sIf (fTest (fBin oLt (fVar 6) (fCall oLen (aCons (fVar 3) aNil))))
  (sSeq (sSet 7 (fBin oIx (fVar 3) (fVar 6)))
  (sSeq (sSet 8 (fBin oAddU (fSl (fVar 3) pNone (pSome (fVar 6))) (fSl (fVar 3) (pSome (fBin oAddU (fVar 6) (fC (.int 1)))) pNone)))
  (sSeq (sSet 3 (fFz (fComp (iSeq (fVar 8)) (gN 9) [9] tYesF (fCallD 3 m_cleared (aCons (fVar 9) (aCons (fVar 7) (aCons (fVar 5) aNil)))))))
  (sSeq (sSet 2 (fBin oAddU (fFz (fComp (iSeq (fVar 2)) (gN 9) [9] tYesF (fCallD 3 m_cleared (aCons (fVar 9) (aCons (fVar 7) (aCons (fVar 5) aNil)))))) (fFz (fLst (aCons (fVar 7) aNil)))))
  (sExpr (fApp (fVar 4) (fVar 5)))))))
  sPass))))
  (sFrz 4 (sRet (fTup (aCons (fVar 2) (aCons (fVar 3) (aCons (fVar 4) aNil))))))))
def m_eliminated : DF := defS 10 s_eliminated
def s_beside_units : SF :=
  (sRet (fFz (fComp (iEnum (aCons (fVar 0) aNil)) (gT 2 (gsCons (gN 1) (gsCons (gN 2) gsNil))) [1, 2] tYesF (fBin oIx (fCallD 1 m_whole (aCons (fBin oAddU (fFz (fCallL oList (aCons (fVar 2) aNil))) (fCallD 2 m_unit (aCons (fCall oLen (aCons (fVar 0) aNil)) (aCons (fVar 1) aNil)))) aNil)) (fC (.int 1))))))
def m_beside_units : DF := defS 3 s_beside_units
def s_inverted : SF :=
  (sSeq (sSet 1 (fCall oLen (aCons (fVar 0) aNil)))
  (sSeq (sUnp (gT 3 (gsCons (gN 2) (gsCons (gN 3) (gsCons (gN 4) gsNil)))) (fCallD 2 m_eliminated (aCons (fCallD 1 m_beside_units (aCons (fVar 0) aNil)) (aCons (fVar 1) aNil))))
  (sSeq (sIf (fTest (fBin oLt (fCall oLen (aCons (fVar 4) aNil)) (fVar 1)))
  (sRet (fC .none))
  sPass)
  (sRet (fCall oTuple (aCons (fFz (fComp (iZip (aCons (fVar 2) (aCons (fVar 4) aNil))) (gT 2 (gsCons (gN 5) (gsCons (gN 6) gsNil))) [5, 6] tYesF (fCall oTuple (aCons (fFz (fComp (iSeq (fSl (fVar 5) (pSome (fVar 1)) pNone)) (gN 7) [7] tYesF (fCallD 2 m_ratio (aCons (fVar 7) (aCons (fBin oIx (fVar 5) (fVar 6)) aNil))))) aNil)))) aNil))))))
def m_inverted : DF := defS 8 s_inverted
def s_grounded : SF :=
  (sSeq (sSet 1 (fCall oLen (aCons (fBin oIx (fVar 0) (fC (.int 0))) aNil)))
  (sSeq (sSet 2 (fOwn (fComp (iRange1 (aCons (fVar 1) aNil)) (gN 10) [10] tYesF (fOwn (fRep (fLst (aCons (fC (.tuple [(.int 0), (.int 1)])) aNil)) (fVar 1))))))
  (sSeq (sFor [3, 4, 5, 6] (iZip (aCons (fBin oIx (fVar 0) (fC (.int 1))) (aCons (fCallD 1 m_line_ends (aCons (fVar 0) aNil)) aNil))) (gT 2 (gsCons (gN 3) (gsCons (gT 2 (gsCons (gN 4) (gsCons (gN 5) gsNil))) gsNil)))
  (sSeq (sSet 6 (fTup (aCons (fC (.int 1)) (aCons (fBin oIx (fVar 3) (fC (.int 3))) aNil))))
  (sSeq (sPut (fBin oIx (fVar 2) (fVar 4)) (fVar 4) (fCallD 2 m_plus (aCons (fBin oIx (fBin oIx (fVar 2) (fVar 4)) (fVar 4)) (aCons (fVar 6) aNil))))
  (sSeq (sPut (fBin oIx (fVar 2) (fVar 5)) (fVar 5) (fCallD 2 m_plus (aCons (fBin oIx (fBin oIx (fVar 2) (fVar 5)) (fVar 5)) (aCons (fVar 6) aNil))))
  (sSeq (sPut (fBin oIx (fVar 2) (fVar 4)) (fVar 5) (fCallD 2 m_minus (aCons (fBin oIx (fBin oIx (fVar 2) (fVar 4)) (fVar 5)) (aCons (fVar 6) aNil))))
  (sPut (fBin oIx (fVar 2) (fVar 5)) (fVar 4) (fCallD 2 m_minus (aCons (fBin oIx (fBin oIx (fVar 2) (fVar 5)) (fVar 4)) (aCons (fVar 6) aNil)))))))))
  (sSeq (sFor [7, 8, 9] (iSeq (fCallD 1 m_island_places (aCons (fVar 0) aNil))) (gN 7)
  (sSeq (sSet 8 (fBin oIx (fVar 7) (fC (.int 0))))
  (sSeq (sFor [9] (iRange1 (aCons (fVar 1) aNil)) (gN 9)
  (sAsgE2 (gmSub (fBin oIx (fVar 2) (fVar 8)) (fVar 9)) (gmSub (fBin oIx (fVar 2) (fVar 9)) (fVar 8)) (fC (.tuple [(.int 0), (.int 1)]))))
  (sPut (fBin oIx (fVar 2) (fVar 8)) (fVar 8) (fC (.tuple [(.int 1), (.int 1)]))))))
  (sFrzD 2 (sRet (fVar 2)))))))
def m_grounded : DF := defS 11 s_grounded
def s_angle_table : SF :=
  (sSeq (sSet 1 (fCallD 1 m_first_places (aCons (fVar 0) aNil)))
  (sSeq (sSet 2 (fOwn (fComp (iSeq (fCallD 1 m_inverted (aCons (fCallD 1 m_grounded (aCons (fVar 0) aNil)) aNil))) (gN 4) [4] tYesF (fOwn (fCallL oList (aCons (fVar 4) aNil))))))
  (sSeq (sFor [3] (iSeq (fVar 1)) (gN 3)
  (sPut (fBin oIx (fVar 2) (fVar 3)) (fVar 3) (fC (.tuple [(.int 0), (.int 1)]))))
  (sFrzD 2 (sRet (fVar 2))))))
def m_angle_table : DF := defS 5 s_angle_table
def s__law_taken : SF :=
  (sSeq (sIf (fTest (fBin oGt (fBin oIx (fVar 0) (fC (.int 3))) (fC (.int 0))))
  (sSeq (sSet 2 (fBin oMod (fCall oInt (aCons (fBin oIx (fVar 0) (fC (.int 3))) aNil)) (fVar 1)))
  (sSeq (sPut (fVar 0) (fC (.int 3)) (fBin oDiv (fBin oIx (fVar 0) (fC (.int 3))) (fVar 1)))
  (sRet (fVar 2))))
  sPass)
  (sSeq (sPut (fVar 0) (fC (.int 1)) (fBin oAddU (fBin oIx (fVar 0) (fC (.int 1))) (fC (.int 1))))
  (sSeq (sIf (fTest (fBin oGt (fBin oIx (fVar 0) (fC (.int 1))) (fCall oLen (aCons (fBin oIx (fVar 0) (fC (.int 0))) aNil))))
  (sSeq (sPut (fVar 0) (fC (.int 2)) (fBin oMod (fCall oInt (aCons (fBin oAddU (fBin oMulU (fBin oIx (fVar 0) (fC (.int 2))) (fC (.int 48271))) (fC (.int 11))) aNil)) (fC (.int 2147483647))))
  (sRet (fBin oMod (fCall oInt (aCons (fBin oDiv (fBin oIx (fVar 0) (fC (.int 2))) (fC (.int 7))) aNil)) (fVar 1))))
  sPass)
  (sSeq (sSet 3 (fBin oIx (fBin oIx (fVar 0) (fC (.int 0))) (fBin oSub (fBin oIx (fVar 0) (fC (.int 1))) (fC (.int 1)))))
  (sSeq (sPut (fVar 0) (fC (.int 2)) (fBin oMod (fCall oInt (aCons (fBin oAddU (fBin oAddU (fBin oMulU (fBin oIx (fVar 0) (fC (.int 2))) (fC (.int 48271))) (fVar 3)) (fC (.int 11))) aNil)) (fC (.int 2147483647))))
  (sSeq (sIf (fTest (fBin oGe (fVar 3) (fBin oPow (fC (.int 10)) (fC (.int 18)))))
  (sPut (fVar 0) (fC (.int 3)) (fBin oDiv (fVar 3) (fVar 1)))
  sPass)
  (sRet (fBin oMod (fCall oInt (aCons (fVar 3) aNil)) (fVar 1)))))))))
def m__law_taken : DF := defS 4 s__law_taken
def s__law_pick : SF :=
  (sRet (fBin oIx (fVar 1) (fCallD 2 m__law_taken (aCons (fVar 0) (aCons (fCall oLen (aCons (fVar 1) aNil)) aNil)))))
def m__law_pick : DF := defS 2 s__law_pick
def s__law_low : SF :=
  (sSeq (sPar2 2 3 (aCons (fCall oMax (aCons (fVar 0) (aCons (fBin oSub (fC (.int 0)) (fVar 0)) aNil))) (aCons (fCall oMax (aCons (fVar 1) (aCons (fBin oSub (fC (.int 0)) (fVar 1)) aNil))) aNil)))
  (sSeq (sWhile [] turns (fTest (fBin oGt (fVar 3) (fC (.int 0))))
  (sPar2 2 3 (aCons (fVar 3) (aCons (fBin oMod (fVar 2) (fVar 3)) aNil))))
  (sSeq (sSet 2 (fIf (fTest (fBin oGt (fVar 1) (fC (.int 0)))) (fVar 2) (fBin oSub (fC (.int 0)) (fVar 2))))
  (sRet (fTup (aCons (fBin oDiv (fVar 0) (fVar 2)) (aCons (fBin oDiv (fVar 1) (fVar 2)) aNil)))))))
def m__law_low : DF := defS 4 s__law_low
def s__law_add : SF :=
  (sRet (fCallD 2 m__law_low (aCons (fBin oAddU (fBin oMulU (fBin oIx (fVar 0) (fC (.int 0))) (fBin oIx (fVar 1) (fC (.int 1)))) (fBin oMulU (fBin oIx (fVar 1) (fC (.int 0))) (fBin oIx (fVar 0) (fC (.int 1))))) (aCons (fBin oMulU (fBin oIx (fVar 0) (fC (.int 1))) (fBin oIx (fVar 1) (fC (.int 1)))) aNil))))
def m__law_add : DF := defS 2 s__law_add
def s__law_mul : SF :=
  (sRet (fCallD 2 m__law_low (aCons (fBin oMulU (fBin oIx (fVar 0) (fC (.int 0))) (fBin oIx (fVar 1) (fC (.int 0)))) (aCons (fBin oMulU (fBin oIx (fVar 0) (fC (.int 1))) (fBin oIx (fVar 1) (fC (.int 1)))) aNil))))
def m__law_mul : DF := defS 2 s__law_mul
def s__law_total : SF :=
  (sSeq (sSet 1 (fTup (aCons (fC (.int 0)) (aCons (fC (.int 1)) aNil))))
  (sSeq (sFor [2] (iSeq (fVar 0)) (gN 2)
  (sSet 1 (fCallD 2 m__law_add (aCons (fVar 1) (aCons (fVar 2) aNil)))))
  (sRet (fVar 1))))
def m__law_total : DF := defS 3 s__law_total
def s__law_ratio : SF :=
  (sRet (fCallD 2 m__law_low (aCons (fBin oSub (fCallD 2 m__law_taken (aCons (fVar 0) (aCons (fBin oAddU (fBin oMulU (fC (.int 2)) (fVar 1)) (fC (.int 1))) aNil))) (fVar 1)) (aCons (fBin oAddU (fC (.int 1)) (fCallD 2 m__law_taken (aCons (fVar 0) (aCons (fC (.int 4)) aNil)))) aNil))))
def m__law_ratio : DF := defS 2 s__law_ratio
end Mn

set_option Elab.async false
set_option linter.all false
set_option maxRecDepth 100000
set_option autoImplicit false
set_option maxHeartbeats 4000000
namespace Mn
open PySem PySem.Spec PyProof.Rows L2 WK
def s_is_table : SF :=
  (sSeq (sIf (fOr (fNot (fTru (fIsi "tuple" (fVar 0)))) (fNot (fTest (fChain oLe oLe (fC (.int 1)) (fCall oLen (aCons (fVar 0) aNil)) (fC (.int 40))))))
  (sRet (fC (.bool false)))
  sPass)
  (sSeq (sIf (fOr (fNot (fTru (fIsi "tuple" (fBin oIx (fVar 0) (fC (.int 0)))))) (fNot (fTest (fChain oLe oLe (fC (.int 1)) (fCall oLen (aCons (fBin oIx (fVar 0) (fC (.int 0))) aNil)) (fC (.int 40))))))
  (sRet (fC (.bool false)))
  sPass)
  (sRet (fCall oAll (aCons (fFz (fComp (iSeq (fVar 0)) (gN 1) [1] tYesF (fCallD 2 m_are_ratios (aCons (fVar 1) (aCons (fCall oLen (aCons (fBin oIx (fVar 0) (fC (.int 0))) aNil)) aNil))))) aNil)))))
def m_is_table : DF := defS 2 s_is_table
def s_check_table : SF :=
  (sIf (fNot (fTru (fCallD 1 m_is_table (aCons (fVar 0) aNil))))
  (sRaise "BadTable")
  sPass)
def m_check_table : DF := defS 1 s_check_table
def s_rank : SF :=
  (sSeq (sExpr (fCallD 1 m_check_table (aCons (fVar 0) aNil)))
  (sSeq (sSet 1 (fBin oIx (fCallD 2 m_eliminated (aCons (fFz (fComp (iSeq (fVar 0)) (gN 2) [2] tYesF (fBin oIx (fCallD 1 m_whole (aCons (fVar 2) aNil)) (fC (.int 1))))) (aCons (fCall oLen (aCons (fBin oIx (fVar 0) (fC (.int 0))) aNil)) aNil))) (fC (.int 2))))
  (sRet (fCall oLen (aCons (fVar 1) aNil)))))
def m_rank : DF := defS 3 s_rank
def s_worked : SF :=
  (sRet (fCallD 2 m_eliminated (aCons (fCallD 1 m_beside_units (aCons (fFz (fComp (iZip (aCons (fVar 0) (aCons (fVar 1) aNil))) (gT 2 (gsCons (gN 3) (gsCons (gN 4) gsNil))) [3, 4] tYesF (fFz (fLst (aStar (fVar 3) (aCons (fVar 4) aNil)))))) aNil)) (aCons (fVar 2) aNil))))
def m_worked : DF := defS 5 s_worked
def s_refuted : SF :=
  (sSeq (sFor [2] (iSeq (fVar 0)) (gN 2)
  (sIf (fTest (fBin oNe (fBin oIx (fVar 2) (fVar 1)) (fC (.int 0))))
  (sRet (fCall oTuple (aCons (fFz (fComp (iSeq (fSl (fVar 2) (pSome (fBin oAddU (fVar 1) (fC (.int 1)))) pNone)) (gN 3) [3] tYesF (fTup (aCons (fVar 3) (aCons (fC (.int 1)) aNil))))) aNil)))
  sPass))
  (sRet (fC .none)))
def m_refuted : DF := defS 4 s_refuted
def s_solved : SF :=
  (sSeq (sExpr (fCallD 1 m_check_table (aCons (fVar 0) aNil)))
  (sSeq (sIf (fNot (fTru (fCallD 2 m_are_ratios (aCons (fVar 1) (aCons (fCall oLen (aCons (fVar 0) aNil)) aNil)))))
  (sRaise "BadTable")
  sPass)
  (sSeq (sSet 2 (fCall oLen (aCons (fBin oIx (fVar 0) (fC (.int 0))) aNil)))
  (sSeq (sUnp (gT 3 (gsCons (gN 3) (gsCons (gN 4) (gsCons (gN 5) gsNil)))) (fCallD 3 m_worked (aCons (fVar 0) (aCons (fVar 1) (aCons (fVar 2) aNil)))))
  (sSeq (sSet 6 (fCallD 2 m_refuted (aCons (fVar 4) (aCons (fVar 2) aNil))))
  (sSeq (sIf (fTest (fBin oNotN (fVar 6) (fC .none)))
  (sRet (fTup (aCons (fC (.str "none")) (aCons (fVar 6) aNil))))
  sPass)
  (sSeq (sSet 7 (fOwn (fRep (fLst (aCons (fC (.tuple [(.int 0), (.int 1)])) aNil)) (fVar 2))))
  (sSeq (sFor [8, 9] (iZip (aCons (fVar 3) (aCons (fVar 5) aNil))) (gT 2 (gsCons (gN 8) (gsCons (gN 9) gsNil)))
  (sPut (fVar 7) (fVar 9) (fCallD 2 m_ratio (aCons (fBin oIx (fVar 8) (fVar 2)) (aCons (fBin oIx (fVar 8) (fVar 9)) aNil)))))
  (sFrz 7 (sRet (fTup (aCons (fIf (fTest (fBin oEq (fCall oLen (aCons (fVar 5) aNil)) (fVar 2))) (fC (.str "one")) (fC (.str "many"))) (aCons (fCall oTuple (aCons (fVar 7) aNil)) aNil)))))))))))))
def m_solved : DF := defS 10 s_solved
def s_inverse : SF :=
  (sSeq (sExpr (fCallD 1 m_check_table (aCons (fVar 0) aNil)))
  (sSeq (sIf (fTest (fBin oNe (fCall oLen (aCons (fVar 0) aNil)) (fCall oLen (aCons (fBin oIx (fVar 0) (fC (.int 0))) aNil))))
  (sRaise "BadTable")
  sPass)
  (sRet (fCallD 1 m_inverted (aCons (fVar 0) aNil)))))
def m_inverse : DF := defS 1 s_inverse
def s__law_times : SF :=
  (sRet (fFz (fComp (iSeq (fVar 0)) (gN 2) [2] tYesF (fCallD 1 m__law_total (aCons (fFz (fComp (iZip (aCons (fVar 2) (aCons (fVar 1) aNil))) (gT 2 (gsCons (gN 3) (gsCons (gN 4) gsNil))) [3, 4] tYesF (fCallD 2 m__law_mul (aCons (fVar 3) (aCons (fVar 4) aNil))))) aNil)))))
def m__law_times : DF := defS 5 s__law_times
def s_law_N01 : SF :=
  (sSeq (sSet 1 (fOwn (fLst (aCons (fVar 0) (aCons (fC (.int 0)) (aCons (fC (.int 7101)) (aCons (fC (.int 0)) aNil)))))))
  (sSeq (sPar2 2 3 (aCons (fBin oAddU (fC (.int 1)) (fCallD 2 m__law_taken (aCons (fVar 1) (aCons (fC (.int 4)) aNil)))) (aCons (fBin oAddU (fC (.int 1)) (fCallD 2 m__law_taken (aCons (fVar 1) (aCons (fC (.int 4)) aNil)))) aNil)))
  (sSeq (sSet 4 (fOwn (fComp (iRange1 (aCons (fVar 2) aNil)) (gN 17) [17] tYesF (fCall oTuple (aCons (fFz (fComp (iRange1 (aCons (fVar 3) aNil)) (gN 18) [18] tYesF (fCallD 2 m__law_ratio (aCons (fVar 1) (aCons (fC (.int 3)) aNil))))) aNil)))))
  (sSeq (sIf (fAnd (fTest (fBin oGt (fVar 2) (fC (.int 1)))) (fTest (fBin oEq (fCallD 2 m__law_taken (aCons (fVar 1) (aCons (fC (.int 2)) aNil))) (fC (.int 0)))))
  (sSeq (sSet 5 (fCallD 2 m__law_ratio (aCons (fVar 1) (aCons (fC (.int 2)) aNil))))
  (sPut (fVar 4) (fC (.int 0)) (fCall oTuple (aCons (fFz (fComp (iSeq (fBin oIx (fVar 4) (fC (.int 1)))) (gN 19) [19] tYesF (fCallD 2 m__law_mul (aCons (fVar 5) (aCons (fVar 19) aNil))))) aNil))))
  sPass)
  (sFrz 4 (sSeq (sPar2 6 7 (aCons (fCall oTuple (aCons (fVar 4) aNil)) (aCons (fFz (fComp (iRange1 (aCons (fVar 3) aNil)) (gN 18) [18] tYesF (fCallD 2 m__law_ratio (aCons (fVar 1) (aCons (fC (.int 3)) aNil))))) aNil)))
  (sSeq (sSet 8 (fCall oTuple (aCons (fIf (fTest (fBin oEq (fCallD 2 m__law_taken (aCons (fVar 1) (aCons (fC (.int 2)) aNil))) (fC (.int 0)))) (fCallD 2 m__law_times (aCons (fVar 6) (aCons (fVar 7) aNil))) (fFz (fComp (iSeq (fVar 4)) (gN 20) [20] tYesF (fCallD 2 m__law_ratio (aCons (fVar 1) (aCons (fC (.int 3)) aNil)))))) aNil)))
  (sSeq (sPar2 9 10 (aCons (fCallD 2 m_solved (aCons (fVar 6) (aCons (fVar 8) aNil))) (aCons (fCallD 1 m_rank (aCons (fVar 6) aNil)) aNil)))
  (sSeq (sIf (fOr (fTru (fIsi "bool" (fVar 10))) (fOr (fNot (fTru (fIsi "int" (fVar 10)))) (fNot (fTest (fChain oLe oLe (fC (.int 0)) (fVar 10) (fCall oMin (aCons (fVar 2) (aCons (fVar 3) aNil))))))))
  (sRet (fC (.bool false)))
  sPass)
  (sSeq (sIf (fTest (fBin oEq (fBin oIx (fVar 9) (fC (.int 0))) (fC (.str "none"))))
  (sSeq (sSet 11 (fCallD 2 m__law_times (aCons (fFz (fComp (iRange1 (aCons (fVar 3) aNil)) (gN 14) [14] tYesF (fCall oTuple (aCons (fFz (fComp (iSeq (fVar 4)) (gN 20) [20] tYesF (fBin oIx (fVar 20) (fVar 14)))) aNil)))) (aCons (fBin oIx (fVar 9) (fC (.int 1))) aNil))))
  (sSeq (sIf (fOr (fTest (fBin oNe (fFz (fComp (iSeq (fVar 11)) (gN 19) [19] (fTest (fBin oNe (fVar 19) (fTup (aCons (fC (.int 0)) (aCons (fC (.int 1)) aNil))))) (fVar 19))) (fFz (fLst aNil)))) (fTest (fBin oNe (fCall oLen (aCons (fBin oIx (fVar 9) (fC (.int 1))) aNil)) (fVar 2))))
  (sRet (fC (.bool false)))
  sPass)
  (sIf (fTest (fBin oEq (fBin oIx (fCallD 1 m__law_total (aCons (fFz (fComp (iZip (aCons (fBin oIx (fVar 9) (fC (.int 1))) (aCons (fVar 8) aNil))) (gT 2 (gsCons (gN 19) (gsCons (gN 21) gsNil))) [19, 21] tYesF (fCallD 2 m__law_mul (aCons (fVar 19) (aCons (fVar 21) aNil))))) aNil)) (fC (.int 0))) (fC (.int 0))))
  (sRet (fC (.bool false)))
  sPass)))
  (sIf (fOr (fTest (fBin oNe (fCall oLen (aCons (fBin oIx (fVar 9) (fC (.int 1))) aNil)) (fVar 3))) (fTest (fBin oNe (fCallD 2 m__law_times (aCons (fVar 6) (aCons (fBin oIx (fVar 9) (fC (.int 1))) aNil))) (fFz (fCallL oList (aCons (fVar 8) aNil))))))
  (sRet (fC (.bool false)))
  (sIf (fTest (fBin oNe (fBin oIx (fVar 9) (fC (.int 0))) (fIf (fTest (fBin oEq (fVar 10) (fVar 3))) (fC (.str "one")) (fC (.str "many")))))
  (sRet (fC (.bool false)))
  sPass)))
  (sSeq (sIf (fTest (fBin oNe (fCallD 1 m_rank (aCons (fCall oTuple (aCons (fFz (fComp (iRange1 (aCons (fVar 3) aNil)) (gN 14) [14] tYesF (fCall oTuple (aCons (fFz (fComp (iSeq (fVar 4)) (gN 20) [20] tYesF (fBin oIx (fVar 20) (fVar 14)))) aNil)))) aNil)) aNil)) (fVar 10)))
  (sRet (fC (.bool false)))
  sPass)
  (sSeq (sSet 12 (fCall oTuple (aCons (fFz (fComp (iRange1 (aCons (fVar 2) aNil)) (gN 17) [17] tYesF (fCall oTuple (aCons (fFz (fComp (iRange1 (aCons (fVar 2) aNil)) (gN 18) [18] tYesF (fCallD 2 m__law_ratio (aCons (fVar 1) (aCons (fC (.int 3)) aNil))))) aNil)))) aNil)))
  (sSeq (sSet 13 (fCallD 1 m_inverse (aCons (fVar 12) aNil)))
  (sSeq (sIf (fTest (fBin oNe (fBin oIsN (fVar 13) (fC .none)) (fBin oLt (fCallD 1 m_rank (aCons (fVar 12) aNil)) (fVar 2))))
  (sRet (fC (.bool false)))
  sPass)
  (sSeq (sFor [15] (iRange1 (aCons (fVar 2) aNil)) (gN 14)
  (sSeq (sSet 15 (fFz (fComp (iRange1 (aCons (fVar 2) aNil)) (gN 22) [22] tYesF (fIf (fTest (fBin oEq (fVar 22) (fVar 14))) (fTup (aCons (fC (.int 1)) (aCons (fC (.int 1)) aNil))) (fTup (aCons (fC (.int 0)) (aCons (fC (.int 1)) aNil)))))))
  (sIf (fAnd (fTest (fBin oNotN (fVar 13) (fC .none))) (fTest (fBin oNe (fCallD 2 m__law_times (aCons (fVar 12) (aCons (fFz (fComp (iSeq (fVar 13)) (gN 20) [20] tYesF (fBin oIx (fVar 20) (fVar 14)))) aNil))) (fVar 15))))
  (sRet (fC (.bool false)))
  sPass)))
  (sSeq (sTry 16 "BadTable" (sExpr (fCallD 1 m_rank (aCons (fCallD 2 m__law_pick (aCons (fVar 1) (aCons (fFz (fLst (aCons (fTup aNil) (aCons (fTup (aCons (fTup aNil) aNil)) (aCons (fTup (aCons (fTup (aCons (fTup (aCons (fC (.int 1)) (aCons (fC (.int 1)) aNil))) aNil)) (aCons (fTup (aCons (fTup (aCons (fC (.int 1)) (aCons (fC (.int 1)) aNil))) (aCons (fTup (aCons (fC (.int 1)) (aCons (fC (.int 2)) aNil))) aNil))) aNil))) (aCons (fTup (aCons (fTup (aCons (fTup (aCons (fC (.int 2)) (aCons (fC (.int 2)) aNil))) aNil)) aNil)) (aCons (fFz (fLst (aCons (fTup (aCons (fTup (aCons (fC (.int 1)) (aCons (fC (.int 1)) aNil))) aNil)) aNil))) (aCons (fTup (aCons (fTup (aCons (fTup (aCons (fC (.bool true)) (aCons (fC (.int 1)) aNil))) aNil)) aNil)) aNil)))))))) aNil))) aNil)))
  (sRet (fC (.bool true))))
  (sRet (fC (.bool false)))))))))))))))))))
def m_law_N01 : DF := defS 23 s_law_N01
end Mn

set_option Elab.async false
set_option linter.all false
set_option maxRecDepth 100000
set_option autoImplicit false
set_option maxHeartbeats 2000000
namespace WK
open PySem PySem.Spec PyProof.Rows L2
theorem keepOk_same (k : Nat) : ∀ m : MM, keepOk k m m = true
  | [] => rfl
  | o :: r => by
    unfold keepOk
    rw [decide_eq_true rfl, keepOk_same k r]
    rfl
theorem keepOk_app (k : Nat) (l : MM) : ∀ m : MM, keepOk k m (m ++ l) = true
  | [] => rfl
  | o :: r => by
    rw [List.cons_append]
    unfold keepOk
    rw [decide_eq_true rfl, keepOk_app k l r]
    rfl
theorem cut_app (m l : MM) : cut m (m ++ l) = m := by
  unfold cut
  rw [keepOk_app, if_pos rfl, List.take_left]
theorem cut_same (m : MM) : cut m m = m := by
  unfold cut
  rw [keepOk_same, if_pos rfl, List.take_length]
theorem dctOf_o {m : MM} {n : Nat} {xs : List SV} (h : m[n]? = some (.lst xs)) : dctOf (.o n) m = none := by
  have e : dctOf (.o n) m = (match m[n]? with | some (.dct kvs) => some kvs | _ => none) := rfl
  rw [e, h]
def okM (_ : MM) : Prop := True
theorem trim_d {m : MM} {x : PyData} (_ : okM m) : trim m (.d x) m = .ok (.d x) m := by
  unfold trim
  rw [cut_same]
  split <;> rfl
theorem trim_app {m l : MM} {x : SV} (_ : okM m) (hx : okRef m.length x = true) : trim m x (m ++ l) = .ok x m := by
  unfold trim
  rw [if_pos hx, cut_app]
section
variable {m : MM} {i j : Int} {a b c d : PyData} {ds es : List PyData} {bo : Bool}
theorem oGcd_ii : oGcd [.d (.int i), .d (.int j)] m = .ok (.d (.int ((Int.gcd i j : Nat) : Int))) m := rfl
theorem oMax_ii : oMax [.d (.int i), .d (.int j)] m = .ok (.d (.int (max i j))) m := by
  show R.ok (SV.d (.int (if j > i then j else i))) m = _
  congr 3
  split <;> omega
theorem oMin_ii : oMin [.d (.int i), .d (.int j)] m = .ok (.d (.int (min i j))) m := by
  show R.ok (SV.d (.int (if j < i then j else i))) m = _
  congr 3
  split <;> omega
theorem oInt_i : oInt [.d (.int i)] m = .ok (.d (.int i)) m := rfl
theorem oLcm_ii (h : i.natAbs < lcmTop ∧ j.natAbs < lcmTop) : oLcm [.d (.int i), .d (.int j)] m = .ok (.d (.int ((Int.lcm i j : Nat) : Int))) m := if_pos h
theorem oLt_ii : oLt (.d (.int i)) (.d (.int j)) m = .ok (.d (.bool (decide (i < j)))) m := rfl
theorem oLe_ii : oLe (.d (.int i)) (.d (.int j)) m = .ok (.d (.bool (decide (i ≤ j)))) m := rfl
theorem oGt_ii : oGt (.d (.int i)) (.d (.int j)) m = .ok (.d (.bool (decide (j < i)))) m := rfl
theorem oGe_ii : oGe (.d (.int i)) (.d (.int j)) m = .ok (.d (.bool (decide (j ≤ i)))) m := rfl
theorem oAddU_ii : oAddU (.d (.int i)) (.d (.int j)) m = .ok (.d (.int (i + j))) m := rfl
theorem oSub_ii : oSub (.d (.int i)) (.d (.int j)) m = .ok (.d (.int (i - j))) m := rfl
theorem oMulU_ii (h : okMul i j = true) : oMulU (.d (.int i)) (.d (.int j)) m = .ok (.d (.int (i * j))) m := if_pos h
theorem oDiv_ii (h : okDiv i j = true) : oDiv (.d (.int i)) (.d (.int j)) m = .ok (.d (.int (i.fdiv j))) m := if_pos h
theorem oMod_ii (h : j ≠ 0) : oMod (.d (.int i)) (.d (.int j)) m = .ok (.d (.int (i.fmod j))) m := if_pos (decide_eq_true h)
theorem oNeg_i : oNeg (.d (.int i)) m = .ok (.d (.int (-i))) m := rfl
theorem asB_b : asB (.d (.bool bo)) m = .ok bo m := rfl
theorem tru_b : tru (.d (.bool bo)) m = .ok bo m := rfl
theorem oNotV_b : oNotV (.d (.bool bo)) m = .ok (.d (.bool (!bo))) m := rfl
theorem atI_nat' {α : Type} {l : List α} {k : Nat} {x : α} (h : l[k]? = some x) : atI l (k : Int) = some x := atI_nat h
theorem items_o {n : Nat} {xs : List SV} (h0 : m[n]? = some (.lst xs)) : itemsOf (.o n) m = .ok xs m := by
  have e : itemsOf (.o n) m = (match m[n]? with | some (.lst xs) => R.ok xs m | _ => .bad) := rfl
  rw [e, h0]
theorem oIx_list {k : Nat} (h : ds[k]? = some a) : oIx (.d (.list ds)) (.d (.int (k : Int))) m = .ok (.d a) m := by
  have e : oIx (.d (.list ds)) (.d (.int (k : Int))) m = (match atI (ds.map SV.d) (k : Int) with | some v => R.ok v m | none => R.bad) := rfl
  rw [e, atI_nat' (x := .d a) (by rw [List.getElem?_map, h]; rfl)]
theorem oIx_tup {k : Nat} (h : ds[k]? = some a) : oIx (.d (.tuple ds)) (.d (.int (k : Int))) m = .ok (.d a) m := by
  have e : oIx (.d (.tuple ds)) (.d (.int (k : Int))) m = (match atI (ds.map SV.d) (k : Int) with | some v => R.ok v m | none => R.bad) := rfl
  rw [e, atI_nat' (x := .d a) (by rw [List.getElem?_map, h]; rfl)]
theorem oIx_k {k : Nat} (h : ds[k]? = some a) : oIx (.k ds) (.d (.int (k : Int))) m = .ok (.d a) m := by
  have e : oIx (.k ds) (.d (.int (k : Int))) m = (match atI (ds.map SV.d) (k : Int) with | some v => R.ok v m | none => R.bad) := rfl
  rw [e, atI_nat' (x := .d a) (by rw [List.getElem?_map, h]; rfl)]
theorem oIx_o {k n : Nat} {xs : List SV} {y : SV} (h0 : m[n]? = some (.lst xs)) (h : xs[k]? = some y) : oIx (.o n) (.d (.int (k : Int))) m = .ok y m := by
  have d := dctOf_o h0
  have e : oIx (.o n) (.d (.int (k : Int))) m = (match dctOf (.o n) m with | some kvs => oIxD kvs (.d (.int (k : Int))) m | none => (itemsOf (.o n) m).bind fun ys m1 => match atI ys (k : Int) with | some v => R.ok v m1 | none => R.bad) := rfl
  rw [e, d]
  dsimp only
  rw [items_o h0, bind_ok, atI_nat' h]
theorem oIx_t0 : oIx (.d (.tuple (a :: ds))) (.d (.int 0)) m = .ok (.d a) m := oIx_tup (k := 0) rfl
theorem oIx_t1 : oIx (.d (.tuple (a :: b :: ds))) (.d (.int 1)) m = .ok (.d b) m := oIx_tup (k := 1) rfl
theorem oIx_t2 : oIx (.d (.tuple (a :: b :: c :: ds))) (.d (.int 2)) m = .ok (.d c) m := oIx_tup (k := 2) rfl
theorem oIx_l0 : oIx (.d (.list (a :: ds))) (.d (.int 0)) m = .ok (.d a) m := oIx_list (k := 0) rfl
theorem fTup_ok {fa : AF} {ρ : SE} {m1 : MM} {xs : List SV} (h : fa ρ m = .ok xs m1) (hd : datas xs = some ds) (hl : ds.length ≤ cap) : fTup fa ρ m = .ok (.d (.tuple ds)) m1 := by
  unfold fTup
  rw [h, bind_ok, hd]
  exact if_pos hl
theorem datas_nil : datas [] = some [] := rfl
theorem datas_cons {xs : List SV} : datas (.d a :: xs) = (match datas xs with | some ds => some (a :: ds) | none => none) := by
  rfl
theorem oLen_l : oLen [.d (.list ds)] m = .ok (.d (.int ds.length)) m := by
  have e : oLen [.d (.list ds)] m = .ok (.d (.int ((ds.map SV.d).length : Nat))) m := rfl
  rw [e, List.length_map]
theorem oLen_t : oLen [.d (.tuple ds)] m = .ok (.d (.int ds.length)) m := by
  have e : oLen [.d (.tuple ds)] m = .ok (.d (.int ((ds.map SV.d).length : Nat))) m := rfl
  rw [e, List.length_map]
theorem oLen_k : oLen [.k ds] m = .ok (.d (.int ds.length)) m := by
  have e : oLen [.k ds] m = .ok (.d (.int ((ds.map SV.d).length : Nat))) m := rfl
  rw [e, List.length_map]
theorem oTuple_l : oTuple [.d (.list ds)] m = .ok (.d (.tuple ds)) m := by
  have e : oTuple [.d (.list ds)] m = (match datas (ds.map SV.d) with | some ds => R.ok (.d (.tuple ds)) m | none => .bad) := rfl
  rw [e, datas_map]
end
section
variable {tg : GF} {own : List Nat} {ft : TF} {fe : EF} {ρ : SE} {m : MM} {fi : IF} {i : Nat}
theorem comp_all {α : Type} (enc : α → PyData) (g : α → PyData) : ∀ (xs : List α), (∀ x ∈ xs, ∃ ρ1, tg (enc x) (wipeS ρ own) = some ρ1 ∧ ft ρ1 m = .ok true m ∧ fe ρ1 m = .ok (.d (g x)) m) →
    compS tg own ft fe ρ (xs.map enc) m = .ok (xs.map fun x => .d (g x)) m
  | [], _ => rfl
  | x :: r, h => by
    obtain ⟨ρ1, h1, h2, h3⟩ := h x (List.mem_cons_self ..)
    have ih := comp_all enc g r fun y hy => h y (List.mem_cons_of_mem _ hy)
    rw [List.map_cons]
    unfold compS
    simp only [h1]
    rw [h2]
    show (R.ok true m).bind _ = _
    rw [bind_ok, if_pos rfl, h3]
    show (R.ok (SV.d (g x)) m).bind _ = _
    rw [bind_ok, ih]
    rfl
theorem datas_mapd {α : Type} (g : α → PyData) (xs : List α) : datas (xs.map fun x => SV.d (g x)) = some (xs.map g) := by
  have : (xs.map fun x => SV.d (g x)) = (xs.map g).map .d := by
    rw [List.map_map]
    rfl
  rw [this, datas_map]
theorem fz_comp {α : Type} {xs : List α} {enc : α → PyData} {g : α → PyData} (hi : fi ρ m = .ok (xs.map enc) m) (hl : xs.length ≤ cap)
    (h : ∀ x ∈ xs, ∃ ρ1, tg (enc x) (wipeS ρ own) = some ρ1 ∧ ft ρ1 m = .ok true m ∧ fe ρ1 m = .ok (.d (g x)) m) :
    fFz (fComp fi tg own ft fe) ρ m = .ok (.d (.list (xs.map g))) m := by
  unfold fFz fComp
  rw [hi, bind_ok, if_pos (by rw [List.length_map]; exact hl), comp_all enc g xs h, bind_ok, datas_mapd]
theorem fz_compN {α : Type} {xs : List α} {enc : α → PyData} {g : α → PyData} (hi : fi ρ m = .ok (xs.map enc) m) (hl : xs.length ≤ cap)
    (h : ∀ x ∈ xs, fe ((wipeS ρ own).set i (some (.d (enc x)))) m = .ok (.d (g x)) m) :
    fFz (fComp fi (gN i) own tYesF fe) ρ m = .ok (.d (.list (xs.map g))) m :=
  fz_comp hi hl fun x hx => ⟨_, rfl, rfl, h x hx⟩
end
section
variable {tg : GF} {body : SF} {α : Type} {enc : α → PyData} {cl : List Nat}
theorem for_inv (P : Nat → SE → MM → Prop) : ∀ (xs : List α) (k : Nat) (ρ : SE) (m : MM), P k ρ m →
    (∀ (i : Nat) x ρ m, xs[i]? = some x → P (k + i) ρ m → ∃ ρ1, tg (enc x) ρ = some ρ1 ∧ ∃ ρ2 m2, (body ρ1 m = .nx ρ2 m2 ∨ body ρ1 m = .ct ρ2 m2) ∧ P (k + i + 1) (wipeS ρ2 cl) (tidy m (wipeS ρ2 cl) m2)) →
    ∃ ρ' m', forS cl tg body (xs.map enc) ρ m = .nx ρ' m' ∧ P (k + xs.length) ρ' m'
  | [], k, ρ, m, p, _ => ⟨ρ, m, rfl, p⟩
  | x :: r, k, ρ, m, p, h => by
    obtain ⟨ρ1, h1, ρ2, m2, h2, p2⟩ := h 0 x ρ m rfl p
    obtain ⟨ρ', m', e, p'⟩ := for_inv P r (k + 1) (wipeS ρ2 cl) (tidy m (wipeS ρ2 cl) m2) p2 fun i y ρ m hy hp => by
      have := h (i + 1) y ρ m hy (by rw [← Nat.add_assoc, Nat.add_right_comm]; exact hp)
      rw [← Nat.add_assoc, Nat.add_right_comm k i 1] at this
      exact this
    refine ⟨ρ', m', ?_, ?_⟩
    · rw [List.map_cons]
      unfold forS
      simp only [h1]
      rcases h2 with h2 | h2
      · rw [h2]
        exact e
      · rw [h2]
        exact e
    · rw [List.length_cons, Nat.add_comm r.length 1, ← Nat.add_assoc]
      exact p'
end
theorem tidy_same {m : MM} {ρ : SE} : tidy m ρ m = m := by
  unfold tidy
  rw [cut_same]
  split <;> rfl
theorem cut_len_eq {m m2 : MM} (h : m2.length = m.length) : cut m m2 = m2 := by
  unfold cut
  split
  · rw [← h, List.take_length]
  · rfl
theorem tidy_len {m m2 : MM} {ρ : SE} (h : m2.length = m.length) : tidy m ρ m2 = m2 := by
  unfold tidy
  rw [cut_len_eq h]
  split <;> rfl
theorem okM_lst {m l : MM} (_ : okM m) : okM (m ++ l) := trivial
theorem while_inv {cl : List Nat} {t : TF} {body : SF} (P : Nat → SE → MM → Prop) (h : ∀ n ρ m, P (n + 1) ρ m → (∃ m1, t ρ m = .ok false m1 ∧ P 0 ρ m1) ∨ ∃ m1, t ρ m = .ok true m1 ∧ ∃ ρ2 m2, (body ρ m1 = .nx ρ2 m2 ∨ body ρ m1 = .ct ρ2 m2) ∧ P n (wipeS ρ2 cl) (tidy m1 (wipeS ρ2 cl) m2))
    (h0 : ∀ ρ m, P 0 ρ m → ∃ m1, t ρ m = .ok false m1 ∧ P 0 ρ m1) : ∀ (n N : Nat) (ρ : SE) (m : MM), n < N → P n ρ m → ∃ ρ' m', whileS cl t body N ρ m = .nx ρ' m' ∧ P 0 ρ' m'
  | n, 0, ρ, m, hn, _ => absurd hn (Nat.not_lt_zero _)
  | 0, N + 1, ρ, m, _, p => by
    obtain ⟨m1, e, p1⟩ := h0 ρ m p
    refine ⟨ρ, m1, ?_, p1⟩
    unfold whileS
    rw [e]
    rfl
  | n + 1, N + 1, ρ, m, hn, p => by
    rcases h n ρ m p with ⟨m1, e, p1⟩ | ⟨m1, e, ρ2, m2, e2, p2⟩
    · refine ⟨ρ, m1, ?_, p1⟩
      unfold whileS
      rw [e]
      rfl
    · obtain ⟨ρ', m', e3, p3⟩ := while_inv P h h0 n N (wipeS ρ2 cl) (tidy m1 (wipeS ρ2 cl) m2) (by omega) p2
      refine ⟨ρ', m', ?_, p3⟩
      unfold whileS
      rw [e, then_ok, if_pos rfl]
      rcases e2 with e2 | e2
      · rw [e2]
        exact e3
      · rw [e2]
        exact e3


def eQ (r : Rat) : PyData := .tuple [.int r.num, .int (r.den : Int)]
theorem den_pos' (r : Rat) : (0 : Int) < r.den := by
  have := r.den_pos
  omega
theorem div_num {t l : Int} (hl : l ≠ 0) : ((t : Rat) / (l : Rat)).num = l.sign * t / (Int.gcd t l : Nat) := by
  rw [← Rat.divInt_eq_div, Rat.num_divInt, Int.gcd_comm]
theorem div_den {t l : Int} (hl : l ≠ 0) : (((t : Rat) / (l : Rat)).den : Int) = (l.natAbs : Int) / (Int.gcd t l : Nat) := by
  rw [← Rat.divInt_eq_div, Rat.den_divInt, if_neg hl, Int.gcd_comm]
  rfl
theorem gcd_ne {t l : Int} (hl : l ≠ 0) : ((Int.gcd t l : Nat) : Int) ≠ 0 := by
  have : Int.gcd t l ≠ 0 := fun e => hl (Int.gcd_eq_zero_iff.mp e).2
  omega
theorem nrm_pos {t l : Int} (hl : 0 < l) : eQ ((t : Rat) / (l : Rat)) = .tuple [.int (t.fdiv (Int.gcd t l : Nat)), .int (l.fdiv (Int.gcd t l : Nat))] := by
  unfold eQ
  rw [div_num (by omega), div_den (by omega), Int.sign_eq_one_of_pos hl, Int.one_mul, Int.fdiv_eq_ediv_of_nonneg _ (by omega), Int.fdiv_eq_ediv_of_nonneg _ (by omega)]
  have : (l.natAbs : Int) = l := by omega
  rw [this]
theorem fdiv_neg' {a g : Int} (hg : g ≠ 0) (h : g ∣ a) : a.fdiv (-g) = - a / g := by
  obtain ⟨c, rfl⟩ := h
  have e1 : g * c = -g * -c := by grind
  have e2 : -(g * c) = g * (-c) := by grind
  rw [e2, Int.mul_ediv_cancel_left _ hg, e1, Int.mul_fdiv_cancel_left _ (by omega)]
theorem nrm_neg {t l : Int} (hl : l < 0) : eQ ((t : Rat) / (l : Rat)) = .tuple [.int (t.fdiv (-(Int.gcd t l : Nat))), .int (l.fdiv (-(Int.gcd t l : Nat)))] := by
  unfold eQ
  have g0 := gcd_ne (t := t) (l := l) (by omega)
  rw [div_num (by omega), div_den (by omega), Int.sign_eq_neg_one_of_neg hl, fdiv_neg' g0 (Int.gcd_dvd_left ..), fdiv_neg' g0 (Int.gcd_dvd_right ..)]
  have : (l.natAbs : Int) = -l := by omega
  rw [this]
  have e : (-1 : Int) * t = -t := by omega
  rw [e]
theorem log2_lt {n k : Nat} (h : n < 2 ^ k) (hk : 0 < k) : n.log2 < k := by
  by_cases h0 : n = 0
  · subst h0
    rw [Nat.log2_zero]
    exact hk
  · exact (Nat.log2_lt h0).mpr h
theorem okMul_of {i j : Int} {a b : Nat} (hi : i.natAbs < 2 ^ a) (hj : j.natAbs < 2 ^ b) (h : a + b < 900000) : okMul i j = true := by
  refine decide_eq_true ?_
  have h1 := log2_lt (k := a + 1) (Nat.lt_of_lt_of_le hi (Nat.pow_le_pow_right (by decide) (by omega))) (by omega)
  have h2 := log2_lt (k := b + 1) (Nat.lt_of_lt_of_le hj (Nat.pow_le_pow_right (by decide) (by omega))) (by omega)
  omega
theorem okDiv_of {i j : Int} {b : Nat} (h0 : j ≠ 0) (hj : j.natAbs < 2 ^ b) (h : b < 8999) : okDiv i j = true := by
  unfold okDiv
  have h2 := log2_lt (k := b + 1) (Nat.lt_of_lt_of_le hj (Nat.pow_le_pow_right (by decide) (by omega))) (by omega)
  rw [decide_eq_true h0, decide_eq_true (by omega : j.natAbs.log2 < 9000)]
  rfl

theorem fTup_2 {fa : AF} {ρ : SE} {m m1 : MM} {a b : PyData} (h : fa ρ m = .ok [.d a, .d b] m1) : fTup fa ρ m = .ok (.d (.tuple [a, b])) m1 := fTup_ok h rfl (by show 2 ≤ 10000; omega)
theorem fTup_3 {fa : AF} {ρ : SE} {m m1 : MM} {a b c : PyData} (h : fa ρ m = .ok [.d a, .d b, .d c] m1) : fTup fa ρ m = .ok (.d (.tuple [a, b, c])) m1 := fTup_ok h rfl (by show 3 ≤ 10000; omega)
def EuP (n : Nat) (a b : Int) : Prop := (∃ k, n = 2 * k ∧ b < 2 ^ k) ∨ ∃ k, n = 2 * k + 1 ∧ b < a ∧ a < 2 ^ (k + 1)
theorem euP_step {n : Nat} {a b : Int} (ha : 0 ≤ a) (hb : 0 < b) (h : EuP (n + 1) a b) : EuP n b (a % b) := by
  have m1 := Int.emod_nonneg a (by omega : b ≠ 0)
  have m2 := Int.emod_lt_of_pos a hb
  rcases h with ⟨k, e, h⟩ | ⟨k, e, h1, h2⟩
  · obtain ⟨k, rfl⟩ : ∃ j, k = j + 1 := by
      cases k with
      | zero => omega
      | succ j => exact ⟨j, rfl⟩
    exact .inr ⟨k, by omega, m2, h⟩
  · refine .inl ⟨k, by omega, ?_⟩
    have e1 := Int.emod_add_mul_ediv a b
    have q1 : 1 ≤ a / b := by
      rw [Int.le_ediv_iff_mul_le hb]
      omega
    have : b * 1 ≤ b * (a / b) := Int.mul_le_mul_of_nonneg_left q1 (by omega)
    have p : (2 : Int) ^ (k + 1) = 2 * 2 ^ k := by
      rw [Int.pow_succ]
      omega
    omega
theorem euP_zero {a b : Int} (h : EuP 0 a b) : b ≤ 0 := by
  rcases h with ⟨k, e, h⟩ | ⟨k, e, h1, h2⟩
  · have : k = 0 := by omega
    subst this
    have : (2 : Int) ^ 0 = 1 := rfl
    omega
  · omega
theorem gcd_step {a b : Int} (ha : 0 ≤ a) (hb : 0 < b) : Int.gcd b (a % b) = Int.gcd a b := by
  obtain ⟨x, rfl⟩ := Int.eq_ofNat_of_zero_le ha
  obtain ⟨y, rfl⟩ := Int.eq_ofNat_of_zero_le (Int.le_of_lt hb)
  show Nat.gcd y (x % y) = Nat.gcd x y
  rw [Nat.gcd_comm y, ← Nat.gcd_rec, Nat.gcd_comm]

def Sz (B : Nat) (r : Rat) : Prop := r.num.natAbs < 2 ^ B ∧ r.den < 2 ^ B
theorem Sz.mono {B C : Nat} {r : Rat} (h : Sz B r) (hc : B ≤ C) : Sz C r := ⟨Nat.lt_of_lt_of_le h.1 (Nat.pow_le_pow_right (by decide) hc), Nat.lt_of_lt_of_le h.2 (Nat.pow_le_pow_right (by decide) hc)⟩
theorem natAbs_ediv_le {a g : Int} : (a / g).natAbs ≤ a.natAbs := Int.natAbs_ediv_le_natAbs a g
theorem sz_div {t l : Int} {B : Nat} (hl : l ≠ 0) (ht : t.natAbs < 2 ^ B) (hb : l.natAbs < 2 ^ B) : Sz B ((t : Rat) / (l : Rat)) := by
  constructor
  · rw [div_num hl]
    refine Nat.lt_of_le_of_lt natAbs_ediv_le ?_
    rcases Int.lt_or_gt_of_ne hl with h | h
    · rw [Int.sign_eq_neg_one_of_neg h]
      omega
    · rw [Int.sign_eq_one_of_pos h]
      omega
  · have e := div_den (t := t) hl
    have := natAbs_ediv_le (a := (l.natAbs : Int)) (g := ((Int.gcd t l : Nat) : Int))
    omega
theorem rat_eq (r : Rat) : r = (r.num : Rat) / ((r.den : Int) : Rat) := by rw [← Rat.divInt_eq_div, Rat.num_divInt_den]
theorem den_ne (r : Rat) : ((r.den : Int) : Rat) ≠ 0 := by
  have := r.den_nz
  exact_mod_cast (by omega : (r.den : Int) ≠ 0)
theorem add_top (a b : Rat) : ((a.num * (b.den : Int) + b.num * (a.den : Int) : Int) : Rat) / (((a.den : Int) * (b.den : Int) : Int) : Rat) = a + b := by
  have ea := rat_eq a
  have eb := rat_eq b
  have na := den_ne a
  have nb := den_ne b
  have e1 : ((a.num * (b.den : Int) + b.num * (a.den : Int) : Int) : Rat) = (a.num : Rat) * ((b.den : Int) : Rat) + (b.num : Rat) * ((a.den : Int) : Rat) := by
    rw [Rat.intCast_add, Rat.intCast_mul, Rat.intCast_mul]
  have e2 : (((a.den : Int) * (b.den : Int) : Int) : Rat) = ((a.den : Int) : Rat) * ((b.den : Int) : Rat) := by rw [Rat.intCast_mul]
  rw [e1, e2]
  generalize ((a.den : Int) : Rat) = p at *
  generalize ((b.den : Int) : Rat) = q at *
  generalize (a.num : Rat) = x at *
  generalize (b.num : Rat) = y at *
  rw [ea, eb]
  grind
theorem mul_top (a b : Rat) : ((a.num * b.num : Int) : Rat) / (((a.den : Int) * (b.den : Int) : Int) : Rat) = a * b := by
  have ea := rat_eq a
  have eb := rat_eq b
  have na := den_ne a
  have nb := den_ne b
  have e1 : ((a.num * b.num : Int) : Rat) = (a.num : Rat) * (b.num : Rat) := by rw [Rat.intCast_mul]
  have e2 : (((a.den : Int) * (b.den : Int) : Int) : Rat) = ((a.den : Int) : Rat) * ((b.den : Int) : Rat) := by rw [Rat.intCast_mul]
  rw [e1, e2]
  generalize ((a.den : Int) : Rat) = p at *
  generalize ((b.den : Int) : Rat) = q at *
  generalize (a.num : Rat) = x at *
  generalize (b.num : Rat) = y at *
  rw [ea, eb]
  grind
theorem mul_lt_pow {a b A B : Nat} (ha : a < 2 ^ A) (hb : b < 2 ^ B) : a * b < 2 ^ (A + B) := by
  rw [Nat.pow_add]
  exact Nat.mul_lt_mul_of_lt_of_le ha (Nat.le_of_lt hb) (Nat.pos_of_ne_zero (by
    intro e
    have := Nat.two_pow_pos B
    omega))
theorem top_lt {a b c d : Int} {A B : Nat} (ha : a.natAbs < 2 ^ A) (hb : b.natAbs < 2 ^ B) (hc : c.natAbs < 2 ^ B) (hd : d.natAbs < 2 ^ A) : (a * b + c * d).natAbs < 2 ^ (A + B + 1) := by
  have h1 := mul_lt_pow ha hb
  have h2 := mul_lt_pow hc hd
  rw [Nat.add_comm B A] at h2
  rw [← Int.natAbs_mul] at h1 h2
  have := Int.natAbs_add_le (a * b) (c * d)
  have e : 2 ^ (A + B + 1) = 2 ^ (A + B) * 2 := Nat.pow_succ ..
  omega
theorem sz_add {a b : Rat} {A B : Nat} (ha : Sz A a) (hb : Sz B b) : Sz (A + B + 1) (a + b) := by
  rw [← add_top]
  have hd : ((a.den : Int) * (b.den : Int)).natAbs < 2 ^ (A + B) := by
    rw [Int.natAbs_mul]
    exact mul_lt_pow ha.2 hb.2
  refine sz_div (fun e => ?_) (top_lt ha.1 hb.2 hb.1 ha.2) (Nat.lt_trans hd (Nat.pow_lt_pow_right (by decide) (by omega)))
  have := den_pos' a
  have := den_pos' b
  rcases Int.mul_eq_zero.mp e with e | e <;> omega
theorem sz_mul {a b : Rat} {A B : Nat} (ha : Sz A a) (hb : Sz B b) : Sz (A + B) (a * b) := by
  rw [← mul_top]
  have hd : ((a.den : Int) * (b.den : Int)).natAbs < 2 ^ (A + B) := by
    rw [Int.natAbs_mul]
    exact mul_lt_pow ha.2 hb.2
  refine sz_div (fun e => ?_) (by rw [Int.natAbs_mul]; exact mul_lt_pow ha.1 hb.1) hd
  have := den_pos' a
  have := den_pos' b
  rcases Int.mul_eq_zero.mp e with e | e <;> omega
theorem sz_zero {B : Nat} : Sz (B + 1) 0 := ⟨Nat.two_pow_pos _, by
  show 1 < 2 ^ (B + 1)
  have : 1 ≤ 2 ^ B := Nat.two_pow_pos _
  rw [Nat.pow_succ]
  omega⟩
def eT (r : List Rat) : PyData := .tuple (r.map eQ)

theorem oEq_ii {i j : Int} {m : MM} : oEq (.d (.int i)) (.d (.int j)) m = .ok (.d (.bool (decide (i = j)))) m := by
  show (if SeqAt.shaped (.int i) && SeqAt.shaped (.int j) then R.ok (SV.d (.bool (PyData.eqv (.int i) (.int j)))) m else .bad) = _
  rw [if_pos (by rfl : (SeqAt.shaped (.int i) && SeqAt.shaped (.int j)) = true)]
  congr 3
theorem oNe_ii {i j : Int} {m : MM} : oNe (.d (.int i)) (.d (.int j)) m = .ok (.d (.bool (!decide (i = j)))) m := by
  show (if SeqAt.shaped (.int i) && SeqAt.shaped (.int j) then R.ok (SV.d (.bool (!PyData.eqv (.int i) (.int j)))) m else .bad) = _
  rw [if_pos (by rfl : (SeqAt.shaped (.int i) && SeqAt.shaped (.int j)) = true)]
  congr 4



section
variable {m : MM} {ρ : SE} {ds es : List PyData}
theorem range_ok {fa : AF} {k : Nat} {m1 : MM} (h : fa ρ m = .ok [.d (.int (k : Int))] m1) (hk : k < 2 ^ 62) : iRange1 fa ρ m = .ok ((List.range k).map fun i => .int (i : Nat)) m1 := by
  unfold iRange1
  rw [h, bind_ok]
  show (if -(2 ^ 62) ≤ (k : Int) ∧ (k : Int) < 2 ^ 62 then R.ok (rangeD 0 ((k : Int)).toNat) m1 else .bad) = _
  rw [if_pos (by omega)]
  unfold rangeD
  rw [Int.toNat_natCast]
  congr 1
  refine List.map_congr_left fun i _ => ?_
  rw [Int.zero_add]
theorem walk_seq {x : PyData} (hs : seqD (.d x) = some ds) : walkD (.d x) = some ds := by
  cases x <;> first | exact hs | cases hs
theorem iSeq_ok {f : EF} {x : PyData} {m1 : MM} (h : f ρ m = .ok (.d x) m1) (hs : seqD (.d x) = some ds) : iSeq f ρ m = .ok ds m1 := by
  unfold iSeq
  rw [h, bind_ok, walk_seq hs]
  rfl
theorem iSeq_str {f : EF} {z : Str} {m1 : MM} (h : f ρ m = .ok (.d (.str z)) m1) : iSeq f ρ m = .ok (z.cps.toList.map fun c => .str ⟨#[c]⟩) m1 := by
  unfold iSeq
  rw [h, bind_ok]
  rfl
theorem iZip_ok {fa : AF} {x y : PyData} {m1 : MM} (h : fa ρ m = .ok [.d x, .d y] m1) (hx : seqD (.d x) = some ds) (hy : seqD (.d y) = some es) : iZip fa ρ m = .ok (zipD ds es) m1 := by
  unfold iZip
  rw [h, bind_ok]
  dsimp only
  rw [hx, hy]
theorem iEnum_ok {fa : AF} {x : PyData} {m1 : MM} (h : fa ρ m = .ok [.d x] m1) (hx : seqD (.d x) = some ds) : iEnum fa ρ m = .ok (enumD ds) m1 := by
  unfold iEnum
  rw [h, bind_ok]
  dsimp only
  rw [hx]
theorem oAddU_ll (h : ds.length + es.length ≤ cap) : oAddU (.d (.list ds)) (.d (.list es)) m = .ok (.d (.list (ds ++ es))) m := by
  have e : oAddU (.d (.list ds)) (.d (.list es)) m = (match datas (ds.map SV.d), datas (es.map SV.d) with
    | some ds, some es => if ds.length + es.length ≤ cap then R.ok (.d (.list (ds ++ es))) m else .bad
    | _, _ => .bad) := rfl
  rw [e, datas_map, datas_map]
  exact if_pos h
theorem fz_ok {f : LF} {m1 : MM} (h : f ρ m = .ok (ds.map .d) m1) : fFz f ρ m = .ok (.d (.list ds)) m1 := by
  unfold fFz
  rw [h, bind_ok, datas_map]
theorem lst_ok {fa : AF} {xs : List SV} {m1 : MM} (h : fa ρ m = .ok xs m1) (hl : xs.length ≤ cap) : fLst fa ρ m = .ok xs m1 := by
  unfold fLst
  rw [h, bind_ok]
  exact if_pos hl
theorem oSl_l {lo hi : Option Int} : oSl (.d (.list ds)) lo hi m = .ok (.d (.list (cutG ds lo hi))) m := by
  have e : oSl (.d (.list ds)) lo hi m = (match listD (.d (.list ds)) m with | some ds => R.ok (.d (.list (cutG ds lo hi))) m | none => .bad) := rfl
  have d : listD (.d (.list ds)) m = some ds := by
    show datas (ds.map SV.d) = some ds
    exact datas_map ds
  rw [e, d]
theorem cutG_take {α : Type} {xs : List α} {k : Nat} (hk : k ≤ xs.length) : cutG xs none (some (k : Int)) = xs.take k := by
  unfold cutG
  rw [HT.sIx_none, HT.sIx_nat, Nat.min_eq_left hk, Nat.sub_zero, List.drop_zero]
theorem cutG_drop {α : Type} {xs : List α} {k : Nat} : cutG xs (some (k : Int)) none = xs.drop k := by
  unfold cutG
  rw [HT.sIx_none, HT.sIx_nat]
  rcases Nat.lt_or_ge k xs.length with q | q
  · rw [Nat.min_eq_left (by omega), List.take_of_length_le (by rw [List.length_drop]; omega)]
  · rw [Nat.min_eq_right q, List.drop_of_length_le (Nat.le_refl _), List.drop_of_length_le q, List.take_nil]
theorem sl_ok {f : EF} {lo hi : PF} {x : SV} {a b : Option Int} (h : f ρ m = .ok x m) (h1 : lo ρ m = .ok a m) (h2 : hi ρ m = .ok b m) : fSl f lo hi ρ m = oSl x a b m := by
  unfold fSl
  rw [h, bind_ok, h1, bind_ok, h2, bind_ok]
theorem pSome_ok {g : EF} {i : Int} (h : g ρ m = .ok (.d (.int i)) m) : pSome g ρ m = .ok (some i) m := by
  unfold pSome
  rw [h, bind_ok]
theorem take_ok {f : EF} {g : EF} {k : Nat} (h : f ρ m = .ok (.d (.list ds)) m) (hg : g ρ m = .ok (.d (.int (k : Int))) m) (hk : k ≤ ds.length) : fSl f pNone (pSome g) ρ m = .ok (.d (.list (ds.take k))) m := by
  rw [sl_ok h rfl (pSome_ok hg), oSl_l, cutG_take hk]
theorem drop_ok {f : EF} {g : EF} {k : Nat} (h : f ρ m = .ok (.d (.list ds)) m) (hg : g ρ m = .ok (.d (.int (k : Int))) m) : fSl f (pSome g) pNone ρ m = .ok (.d (.list (ds.drop k))) m := by
  rw [sl_ok h (pSome_ok hg) rfl, oSl_l, cutG_drop]
theorem get_app {x : MO} {l : MM} : (m ++ x :: l)[m.length]? = some x := by
  rw [List.getElem?_append_right (Nat.le_refl _), Nat.sub_self]
  rfl
theorem set_app {x y : MO} {l : MM} : (m ++ x :: l).set m.length y = m ++ y :: l := by
  rw [List.set_append_right _ _ (Nat.le_refl _), Nat.sub_self]
  rfl
theorem app_ok {i : Nat} {g : EF} {n : Nat} {xs : List SV} {y : SV} (hi : ρ[i]? = some (some (.o n))) (h : m[n]? = some (.lst xs)) (hg : g ρ m = .ok y m) (hl : xs.length < cap) : fApp (fVar i) g ρ m = .ok (.d .none) (m.set n (.lst (xs ++ [y]))) := by
  unfold fApp fVar
  rw [hi]
  simp only [bind_ok]
  have e : isLst m (.o n) = some n := by
    have e : isLst m (.o n) = (match m[n]? with | some (.lst _) => some n | _ => none) := rfl
    rw [e, h]
  rw [e]
  dsimp only
  rw [hg, bind_ok]
  unfold putApp
  rw [h]
  exact if_pos hl
end
theorem seq_nx {a b : SF} {ρ ρ1 : SE} {m m1 : MM} (h : a ρ m = .nx ρ1 m1) : sSeq a b ρ m = b ρ1 m1 := by
  unfold sSeq
  rw [h]
  rfl
theorem seq_rt {a b : SF} {ρ : SE} {m m1 : MM} {x : SV} (h : a ρ m = .rt x m1) : sSeq a b ρ m = .rt x m1 := by
  unfold sSeq
  rw [h]
  rfl
theorem if_yes {t : TF} {a b : SF} {ρ : SE} {m m1 : MM} (h : t ρ m = .ok true m1) : sIf t a b ρ m = a ρ m1 := by
  unfold sIf
  rw [h]
  rfl
theorem if_no {t : TF} {a b : SF} {ρ : SE} {m m1 : MM} (h : t ρ m = .ok false m1) : sIf t a b ρ m = b ρ m1 := by
  unfold sIf
  rw [h]
  rfl
theorem set_nx {i : Nat} {f : EF} {ρ : SE} {m m1 : MM} {x : SV} (h : f ρ m = .ok x m1) : sSet i f ρ m = .nx (ρ.set i (some x)) m1 := by
  unfold sSet
  rw [h]
  rfl
theorem bin_ok {op : OF} {f g : EF} {ρ : SE} {m m1 m2 : MM} {x y : SV} (h1 : f ρ m = .ok x m1) (h2 : g ρ m1 = .ok y m2) : fBin op f g ρ m = op x y m2 := by
  unfold fBin
  rw [h1, bind_ok, h2, bind_ok]
theorem and_yes {t u : TF} {ρ : SE} {m m1 : MM} (h : t ρ m = .ok true m1) : fAnd t u ρ m = u ρ m1 := by
  unfold fAnd
  rw [h]
  rfl
theorem and_no {t u : TF} {ρ : SE} {m m1 : MM} (h : t ρ m = .ok false m1) : fAnd t u ρ m = .ok false m1 := by
  unfold fAnd
  rw [h]
  rfl
theorem or_no {t u : TF} {ρ : SE} {m m1 : MM} (h : t ρ m = .ok false m1) : fOr t u ρ m = u ρ m1 := by
  unfold fOr
  rw [h]
  rfl
theorem not_ok {t : TF} {ρ : SE} {m m1 : MM} {b : Bool} (h : t ρ m = .ok b m1) : fNot t ρ m = .ok (!b) m1 := by
  unfold fNot
  rw [h]
  rfl
theorem test_ok {f : EF} {ρ : SE} {m m1 : MM} {b : Bool} (h : f ρ m = .ok (.d (.bool b)) m1) : fTest f ρ m = .ok b m1 := by
  unfold fTest
  rw [h]
  rfl
theorem step_nx {a b : SF} {ρ ρ1 : SE} {m m1 : MM} {r : RS} (h : a ρ m = .nx ρ1 m1) (k : b ρ1 m1 = r) : sSeq a b ρ m = r := (seq_nx h).trans k
theorem step_set {i : Nat} {f : EF} {b : SF} {ρ ρ1 : SE} {m m1 : MM} {x : SV} {r : RS} (h : f ρ m = .ok x m1) (e : ρ.set i (some x) = ρ1) (k : b ρ1 m1 = r) : sSeq (sSet i f) b ρ m = r := (seq_nx (set_nx h)).trans (by rw [e]; exact k)
theorem ret_ok {f : EF} {ρ : SE} {m m1 : MM} {x : SV} (h : f ρ m = .ok x m1) : sRet f ρ m = .rt x m1 := by
  unfold sRet
  rw [h]
  rfl
theorem expr_ok {f : EF} {ρ : SE} {m m1 : MM} {x : SV} (h : f ρ m = .ok x m1) : sExpr f ρ m = .nx ρ m1 := by
  unfold sExpr
  rw [h]
  rfl
theorem acons_ok {f : EF} {g : AF} {ρ : SE} {m m1 m2 : MM} {x : SV} {xs : List SV} (h : f ρ m = .ok x m1) (k : g ρ m1 = .ok xs m2) : aCons f g ρ m = .ok (x :: xs) m2 := by
  unfold aCons
  rw [h, bind_ok, k, bind_ok]
theorem par2_ok {i j : Nat} {fa : AF} {ρ ρ1 : SE} {m m1 : MM} {x y : SV} (h : fa ρ m = .ok [x, y] m1) (e : (ρ.set i (some x)).set j (some y) = ρ1) : sPar2 i j fa ρ m = .nx ρ1 m1 := by
  unfold sPar2
  rw [h, then_ok, ← e]
theorem par3_ok {i j l : Nat} {fa : AF} {ρ ρ1 : SE} {m m1 : MM} {x y z : SV} (h : fa ρ m = .ok [x, y, z] m1) (e : ((ρ.set i (some x)).set j (some y)).set l (some z) = ρ1) : sPar3 i j l fa ρ m = .nx ρ1 m1 := by
  unfold sPar3
  rw [h, then_ok, ← e]
theorem def_rt {n : Nat} {s : SF} {xs : List SV} {ρ : SE} {m m' : MM} {x : SV} (e : xs.map some ++ List.replicate (n - xs.length) none = ρ) (h : s ρ m = .rt x m') : defS n s xs m = trim m x m' := by
  unfold defS
  rw [e, h]
theorem def_nx {n : Nat} {s : SF} {xs : List SV} {ρ ρ' : SE} {m m' : MM} (e : xs.map some ++ List.replicate (n - xs.length) none = ρ) (h : s ρ m = .nx ρ' m') : defS n s xs m = trim m (.d .none) m' := by
  unfold defS
  rw [e, h]
theorem def_err {n : Nat} {s : SF} {xs : List SV} {ρ ρ' : SE} {m m' : MM} {c : Str} (e : xs.map some ++ List.replicate (n - xs.length) none = ρ) (h : s ρ m = .err c ρ' m') : defS n s xs m = .err c (cut m m') := by
  unfold defS
  rw [e, h]
theorem call_ok {n : Nat} {g : DF} {fa : AF} {ρ : SE} {m m1 m2 : MM} {xs : List SV} {x : SV} (h : fa ρ m = .ok xs m1) (hl : xs.length = n) (k : g xs m1 = .ok x m2) : fCallD n g fa ρ m = .ok x m2 := by
  unfold fCallD
  rw [h, bind_ok, if_pos hl]
  exact k
theorem for_ok {cl : List Nat} {fi : IF} {tg : GF} {body : SF} {ρ ρ' : SE} {m m1 m' : MM} {ds : List PyData} (h : fi ρ m = .ok ds m1) (k : forS cl tg body ds ρ m1 = .nx ρ' m') : sFor cl fi tg body ρ m = .nx ρ' m' := by
  unfold sFor
  rw [h]
  exact k
theorem ixN_nat' {n j : Nat} (hj : j < n) : ixN n (j : Int) = some j := by
  unfold ixN
  rw [if_pos (by omega), if_pos (by omega)]
  simp
theorem put_ok {fo fi f : EF} {ρ : SE} {m m1 : MM} {n k : Nat} {y : SV} {xs : List SV} (hf : f ρ m = .ok y m1) (ho : fo ρ m1 = .ok (.o n) m1) (hi : fi ρ m1 = .ok (.d (.int (k : Nat))) m1) (h : m1[n]? = some (.lst xs)) (hk : k < xs.length) :
    sPut fo fi f ρ m = .nx ρ (m1.set n (.lst (xs.set k y))) := by
  unfold sPut
  rw [hf, then_ok, ho, then_ok, hi, then_ok]
  have d := dctOf_o h
  unfold putU
  rw [d]
  dsimp only
  have e : putAt m1 (.o n) (.d (.int (k : Nat))) y = (match m1[n]? with
    | some (.lst xs) => match ixN xs.length (k : Int) with
      | some j => some (m1.set n (.lst (xs.set j y)))
      | none => none
    | _ => none) := rfl
  rw [e, h]
  dsimp only
  rw [ixN_nat' hk]
theorem unp_ok {tg : GF} {f : EF} {ρ ρ' : SE} {m m1 : MM} {x : PyData} (h : f ρ m = .ok (.d x) m1) (k : tg x ρ = some ρ') : sUnp tg f ρ m = .nx ρ' m1 := by
  unfold sUnp
  rw [h, then_ok]
  dsimp only
  rw [k]

section
variable {m : MM}
theorem shaped_of {d : PyData} (h : d.canLay0 = true) (hd : d.depth ≤ 64) : SeqAt.shaped d = true := by
  unfold SeqAt.shaped
  rw [h, decide_eq_true hd]
  rfl
theorem lay_list {xs : List PyData} {k : Nat} (h : ∀ x ∈ xs, x.canLay0 = true ∧ x.depth ≤ k) : PyData.canLayAll0 xs = true ∧ PyData.depthAll xs ≤ k := by
  induction xs with
  | nil => exact ⟨rfl, Nat.zero_le _⟩
  | cons x r ih =>
    obtain ⟨h1, h2⟩ := h x (List.mem_cons_self ..)
    obtain ⟨h3, h4⟩ := ih fun y hy => h y (List.mem_cons_of_mem _ hy)
    constructor
    · unfold PyData.canLayAll0
      rw [h1, h3]
      rfl
    · unfold PyData.depthAll
      omega
theorem lay_l {xs : List PyData} {k : Nat} (h : ∀ x ∈ xs, x.canLay0 = true ∧ x.depth ≤ k) : (PyData.list xs).canLay0 = true ∧ (PyData.list xs).depth ≤ k + 1 := by
  obtain ⟨h1, h2⟩ := lay_list h
  constructor
  · unfold PyData.canLay0
    exact h1
  · unfold PyData.depth
    omega
theorem lay_t {xs : List PyData} {k : Nat} (h : ∀ x ∈ xs, x.canLay0 = true ∧ x.depth ≤ k) : (PyData.tuple xs).canLay0 = true ∧ (PyData.tuple xs).depth ≤ k + 1 := by
  obtain ⟨h1, h2⟩ := lay_list h
  constructor
  · unfold PyData.canLay0
    exact h1
  · unfold PyData.depth
    omega
theorem lay_eQ (q : Rat) : (eQ q).canLay0 = true ∧ (eQ q).depth ≤ 1 := lay_t (k := 0) fun x hx => by
  rcases List.mem_cons.mp hx with rfl | hx
  · exact ⟨rfl, Nat.le_refl 0⟩
  · rw [List.mem_singleton.mp hx]
    exact ⟨rfl, Nat.le_refl 0⟩
theorem lay_eQs (qs : List Rat) : (PyData.list (qs.map eQ)).canLay0 = true ∧ (PyData.list (qs.map eQ)).depth ≤ 2 := lay_l (k := 1) fun x hx => by
  obtain ⟨q, _, rfl⟩ := List.mem_map.mp hx
  exact lay_eQ q
theorem oEq_same {d : PyData} (h : d.canLay0 = true) (hd : d.depth ≤ 64) : oEq (.d d) (.d d) m = .ok (.d (.bool true)) m := by
  have s := shaped_of h hd
  show (if SeqAt.shaped d && SeqAt.shaped d then R.ok (SV.d (.bool (PyData.eqv d d))) m else .bad) = _
  rw [s, Bool.and_self, if_pos (rfl : true = true), SeqAt.eqv_refl d h]
theorem oNe_same {d : PyData} (h : d.canLay0 = true) (hd : d.depth ≤ 64) : oNe (.d d) (.d d) m = .ok (.d (.bool false)) m := by
  have s := shaped_of h hd
  show (if SeqAt.shaped d && SeqAt.shaped d then R.ok (SV.d (.bool (!PyData.eqv d d))) m else .bad) = _
  rw [s, Bool.and_self, if_pos (rfl : true = true), SeqAt.eqv_refl d h]
  rfl
theorem oEq_d {a b : PyData} (ha : SeqAt.shaped a = true) (hb : SeqAt.shaped b = true) : oEq (.d a) (.d b) m = .ok (.d (.bool (PyData.eqv a b))) m := by
  show (if SeqAt.shaped a && SeqAt.shaped b then R.ok (SV.d (.bool (PyData.eqv a b))) m else .bad) = _
  rw [ha, hb, Bool.and_self, if_pos (rfl : true = true)]
end
end WK

set_option linter.all false
set_option autoImplicit false
namespace Lin
def S : Nat → (Nat → Rat) → Rat
  | 0, _ => 0
  | n + 1, f => S n f + f n
theorem S_congr {f g : Nat → Rat} : ∀ n : Nat, (∀ j, j < n → f j = g j) → S n f = S n g
  | 0, _ => rfl
  | n + 1, h => by
    unfold S
    rw [S_congr n fun j hj => h j (by omega), h n (by omega)]
theorem S_zero {f : Nat → Rat} (n : Nat) (h : ∀ j, j < n → f j = 0) : S n f = 0 := by
  induction n with
  | zero => rfl
  | succ n ih =>
    unfold S
    rw [ih fun j hj => h j (by omega), h n (by omega)]
    grind
theorem S_add {f g : Nat → Rat} (n : Nat) : S n (fun j => f j + g j) = S n f + S n g := by
  induction n with
  | zero => unfold S; grind
  | succ n ih => unfold S; rw [ih]; grind
theorem S_mul {f : Nat → Rat} (c : Rat) (n : Nat) : S n (fun j => c * f j) = c * S n f := by
  induction n with
  | zero => unfold S; grind
  | succ n ih => unfold S; rw [ih]; grind
theorem S_one {f : Nat → Rat} {n a : Nat} (ha : a < n) (h : ∀ j, j < n → j ≠ a → f j = 0) : S n f = f a := by
  induction n with
  | zero => omega
  | succ n ih =>
    unfold S
    rcases Nat.lt_or_ge a n with q | q
    · rw [ih q fun j hj => h j (by omega), h n (by omega) (by omega)]
      grind
    · have e : a = n := by omega
      subst e
      rw [S_zero a fun j hj => h j (by omega) (by omega)]
      grind
theorem S_two {f : Nat → Rat} {n a b : Nat} (ha : a < n) (hb : b < n) (hn : a ≠ b) (h : ∀ j, j < n → j ≠ a → j ≠ b → f j = 0) : S n f = f a + f b := by
  have e : S n f = S n (fun j => (if j = a then f j else 0) + (if j = a then 0 else f j)) := S_congr n fun j hj => by split <;> grind
  rw [e, S_add, S_one (a := a) ha fun j hj q => if_neg q, S_one (a := b) hb fun j hj q => by
    by_cases z : j = a
    · rw [if_pos z]
    · rw [if_neg z]
      exact h j hj z q]
  rw [if_pos rfl, if_neg (Ne.symm hn)]
theorem S_swap (f : Nat → Nat → Rat) (m : Nat) : ∀ n : Nat, S n (fun i => S m (fun j => f i j)) = S m (fun j => S n (fun i => f i j))
  | 0 => (S_zero m fun _ _ => rfl).symm
  | n + 1 => by
    have ih := S_swap f m n
    show S n (fun i => S m (fun j => f i j)) + S m (fun j => f n j) = S m (fun j => S n (fun i => f i j) + f n j)
    rw [ih, S_add]
abbrev Row := List Int
def at_ (r : Row) (j : Nat) : Rat := ((r.getD j 0 : Int) : Rat)
def dot (r : Row) (x : Nat → Rat) : Rat := S r.length fun j => at_ r j * x j
structure Clr (r p r' : Row) (col : Nat) : Prop where
  len : r'.length = r.length
  ex : ∃ u d g : Int, u ≠ 0 ∧ g ≠ 0 ∧ ∀ j, g * r'.getD j 0 = u * r.getD j 0 - d * p.getD j 0
  zero : r'.getD col 0 = 0
def clr0 (r p : Row) (col : Nat) : Row :=
  let s : Int := (Int.gcd (r.getD col 0) (p.getD col 0) : Nat)
  let up := p.getD col 0 / s
  let down := r.getD col 0 / s
  List.zipWith (fun a b => up * a - down * b) r p
def gcdL (ns : Row) : Int := ns.foldl (fun g n => (Int.gcd g n : Nat)) 0
def slimL (ns : Row) : Row := if gcdL ns = 0 ∨ gcdL ns = 1 then ns else ns.map (· / gcdL ns)
def clrL (r p : Row) (col : Nat) : Row := if r.getD col 0 = 0 then r else slimL (clr0 r p col)
theorem gcd_fold_dvd : ∀ (ns : Row) (g0 : Int), (ns.foldl (fun g n => ((Int.gcd g n : Nat) : Int)) g0 ∣ g0) ∧ ∀ n ∈ ns, ns.foldl (fun g n => ((Int.gcd g n : Nat) : Int)) g0 ∣ n
  | [], g0 => ⟨Int.dvd_refl _, fun n h => by cases h⟩
  | n :: r, g0 => by
    obtain ⟨h1, h2⟩ := gcd_fold_dvd r ((Int.gcd g0 n : Nat) : Int)
    refine ⟨Int.dvd_trans h1 (Int.gcd_dvd_left ..), fun k hk => ?_⟩
    rcases List.mem_cons.mp hk with rfl | hk
    · exact Int.dvd_trans h1 (Int.gcd_dvd_right ..)
    · exact h2 k hk
theorem gcdL_dvd {ns : Row} {n : Int} (h : n ∈ ns) : gcdL ns ∣ n := (gcd_fold_dvd ns 0).2 n h
theorem slim_len (ns : Row) : (slimL ns).length = ns.length := by
  unfold slimL
  split
  · rfl
  · exact List.length_map ..
theorem slim_ex (ns : Row) : ∃ g : Int, g ≠ 0 ∧ ∀ j, g * (slimL ns).getD j 0 = ns.getD j 0 := by
  unfold slimL
  split
  · exact ⟨1, by decide, fun j => Int.one_mul _⟩
  · rename_i h
    have h0 : gcdL ns ≠ 0 := fun e => h (.inl e)
    refine ⟨gcdL ns, h0, fun j => ?_⟩
    rcases Nat.lt_or_ge j ns.length with q | q
    · simp only [List.getD_eq_getElem?_getD, List.getElem?_map, List.getElem?_eq_getElem q, Option.map_some, Option.getD_some]
      exact Int.mul_ediv_cancel' (gcdL_dvd (List.getElem_mem q))
    · simp only [List.getD_eq_getElem?_getD, List.getElem?_map, List.getElem?_eq_none q, Option.map_none, Option.getD_none, Int.mul_zero]
theorem clrL_clr {r p : Row} {col : Nat} (hl : r.length = p.length) (hp : p.getD col 0 ≠ 0) : Clr r p (clrL r p col) col := by
  unfold clrL
  split
  · rename_i h
    exact ⟨rfl, ⟨1, 0, 1, by decide, by decide, fun j => by omega⟩, h⟩
  · rename_i h
    obtain ⟨g, g0, hg⟩ := slim_ex (clr0 r p col)
    have ln : (clr0 r p col).length = r.length := by
      unfold clr0
      simp [hl]
    have hs : ((Int.gcd (r.getD col 0) (p.getD col 0) : Nat) : Int) ≠ 0 := by
      have : Int.gcd (r.getD col 0) (p.getD col 0) ≠ 0 := fun e => hp (Int.gcd_eq_zero_iff.mp e).2
      omega
    have d1 : ((Int.gcd (r.getD col 0) (p.getD col 0) : Nat) : Int) ∣ p.getD col 0 := Int.gcd_dvd_right ..
    have d2 : ((Int.gcd (r.getD col 0) (p.getD col 0) : Nat) : Int) ∣ r.getD col 0 := Int.gcd_dvd_left ..
    have hc : ∀ j, (clr0 r p col).getD j 0 = p.getD col 0 / ((Int.gcd (r.getD col 0) (p.getD col 0) : Nat) : Int) * r.getD j 0 - r.getD col 0 / ((Int.gcd (r.getD col 0) (p.getD col 0) : Nat) : Int) * p.getD j 0 := by
      intro j
      unfold clr0
      rcases Nat.lt_or_ge j r.length with q | q
      · have q2 : j < p.length := by omega
        simp only [List.getD_eq_getElem?_getD, List.getElem?_zipWith, List.getElem?_eq_getElem q, List.getElem?_eq_getElem q2, Option.getD_some]
      · have q2 : p.length ≤ j := by omega
        simp only [List.getD_eq_getElem?_getD, List.getElem?_zipWith, List.getElem?_eq_none q, List.getElem?_eq_none q2, Option.getD_none]
        omega
    refine ⟨by rw [slim_len, ln], ⟨p.getD col 0 / ((Int.gcd (r.getD col 0) (p.getD col 0) : Nat) : Int), r.getD col 0 / ((Int.gcd (r.getD col 0) (p.getD col 0) : Nat) : Int), g, ?_, g0, fun j => ?_⟩, ?_⟩
    · intro e
      have := Int.mul_ediv_cancel' d1
      rw [e, Int.mul_zero] at this
      exact hp this.symm
    · rw [hg j, hc j]
    · have e := hg col
      rw [hc col] at e
      have e1 := Int.ediv_mul_cancel d1
      have e2 := Int.ediv_mul_cancel d2
      have : p.getD col 0 / ((Int.gcd (r.getD col 0) (p.getD col 0) : Nat) : Int) * r.getD col 0 - r.getD col 0 / ((Int.gcd (r.getD col 0) (p.getD col 0) : Nat) : Int) * p.getD col 0 = 0 := by
        have a1 : p.getD col 0 / ((Int.gcd (r.getD col 0) (p.getD col 0) : Nat) : Int) * r.getD col 0 = p.getD col 0 / ((Int.gcd (r.getD col 0) (p.getD col 0) : Nat) : Int) * (r.getD col 0 / ((Int.gcd (r.getD col 0) (p.getD col 0) : Nat) : Int) * ((Int.gcd (r.getD col 0) (p.getD col 0) : Nat) : Int)) := by rw [e2]
        have a2 : r.getD col 0 / ((Int.gcd (r.getD col 0) (p.getD col 0) : Nat) : Int) * p.getD col 0 = r.getD col 0 / ((Int.gcd (r.getD col 0) (p.getD col 0) : Nat) : Int) * (p.getD col 0 / ((Int.gcd (r.getD col 0) (p.getD col 0) : Nat) : Int) * ((Int.gcd (r.getD col 0) (p.getD col 0) : Nat) : Int)) := by rw [e1]
        rw [a1, a2]
        grind
      rw [this] at e
      rcases Int.mul_eq_zero.mp e with z | z
      · exact absurd z g0
      · exact z

def LinF (n : Nat) (φ : Row → Rat) : Prop := ∀ (r p r' : Row) (u d g : Int), r.length = n → p.length = n → r'.length = n → (∀ j, g * r'.getD j 0 = u * r.getD j 0 - d * p.getD j 0) → (g : Rat) * φ r' = u * φ r - d * φ p
theorem at_lin {r p r' : Row} {u d g : Int} {j : Nat} (h : g * r'.getD j 0 = u * r.getD j 0 - d * p.getD j 0) : (g : Rat) * at_ r' j = u * at_ r j - d * at_ p j := by
  unfold at_
  exact_mod_cast h
theorem linF_at {n : Nat} (j : Nat) : LinF n fun r => at_ r j := fun r p r' u d g _ _ _ h => at_lin (h j)
theorem linF_sum {n : Nat} (m : Nat) (ix : Nat → Nat) (x : Nat → Rat) : LinF n fun r => S m fun i => at_ r (ix i) * x i := by
  intro r p r' u d g _ _ _ h
  show (g : Rat) * S m (fun i => at_ r' (ix i) * x i) = u * S m (fun i => at_ r (ix i) * x i) - d * S m (fun i => at_ p (ix i) * x i)
  have e : u * S m (fun i => at_ r (ix i) * x i) - d * S m (fun i => at_ p (ix i) * x i) = u * S m (fun i => at_ r (ix i) * x i) + (-d : Rat) * S m (fun i => at_ p (ix i) * x i) := by grind
  rw [e, ← S_mul, ← S_mul, ← S_mul, ← S_add]
  refine S_congr m fun i _ => ?_
  have := at_lin (h (ix i))
  grind
theorem linF_sub {n : Nat} {φ ψ : Row → Rat} (a : LinF n φ) (b : LinF n ψ) : LinF n fun r => φ r - ψ r := by
  intro r p r' u d g h1 h2 h3 h
  have e1 := a r p r' u d g h1 h2 h3 h
  have e2 := b r p r' u d g h1 h2 h3 h
  grind
theorem linF_dot {n : Nat} (x : Nat → Rat) : LinF n fun r => dot r x := by
  intro r p r' u d g h1 h2 h3 h
  have := linF_sum (n := n) n (fun i => i) x r p r' u d g h1 h2 h3 h
  show (g : Rat) * S r'.length (fun j => at_ r' j * x j) = u * S r.length (fun j => at_ r j * x j) - d * S p.length (fun j => at_ p j * x j)
  rw [h1, h2, h3]
  exact this
theorem castne {g : Int} (h : g ≠ 0) : (g : Rat) ≠ 0 := by exact_mod_cast h
theorem clr_iff {n : Nat} {φ : Row → Rat} {r p r' : Row} {col : Nat} (c : Clr r p r' col) (L : LinF n φ) (hr : r.length = n) (hp : p.length = n) (z : φ p = 0) : φ r' = 0 ↔ φ r = 0 := by
  obtain ⟨u, d, g, hu, hg, h⟩ := c.ex
  have e := L r p r' u d g hr hp (c.len.trans hr) h
  rw [z] at e
  have hu := castne hu
  have hg := castne hg
  constructor
  · intro q
    rw [q] at e
    have : (u : Rat) * φ r = 0 := by grind
    grind
  · intro q
    rw [q] at e
    have : (g : Rat) * φ r' = 0 := by grind
    grind
def pick (col : Nat) : List Row → Option (Row × List Row)
  | [] => none
  | r :: rs => if r.getD col 0 ≠ 0 then some (r, rs) else match pick col rs with
    | none => none
    | some (p, os) => some (p, r :: os)
structure El where
  dc : List (Row × Nat)
  left : List Row
def El.step (e : El) (col : Nat) : El := match pick col e.left with
  | none => e
  | some (p, os) => ⟨e.dc.map (fun q => (clrL q.1 p col, q.2)) ++ [(p, col)], os.map fun r => clrL r p col⟩
def elim (rows : List Row) : Nat → El
  | 0 => ⟨[], rows⟩
  | n + 1 => (elim rows n).step n
theorem pick_none {col : Nat} : ∀ {rs : List Row}, pick col rs = none → ∀ r ∈ rs, r.getD col 0 = 0
  | [], _, r, h => by cases h
  | a :: rs, e, r, h => by
    unfold pick at e
    split at e
    · cases e
    · rename_i h0
      split at e
      · rename_i q
        rcases List.mem_cons.mp h with rfl | h
        · exact Decidable.not_not.mp h0
        · exact pick_none q r h
      · cases e
theorem pick_some {col : Nat} : ∀ {rs os : List Row} {p : Row}, pick col rs = some (p, os) → p.getD col 0 ≠ 0 ∧ (∀ r, r ∈ rs ↔ r = p ∨ r ∈ os) ∧ rs.length = os.length + 1
  | [], _, _, e => by cases e
  | a :: rs, os, p, e => by
    unfold pick at e
    split at e
    · rename_i h
      cases e
      exact ⟨h, fun r => List.mem_cons, rfl⟩
    · split at e
      · cases e
      · rename_i p' os' q
        cases e
        obtain ⟨h1, h2, h3⟩ := pick_some q
        refine ⟨h1, fun r => ?_, by simp [h3]⟩
        simp only [List.mem_cons, h2]
        constructor
        · rintro (h | h | h)
          · exact .inr (.inl h)
          · exact .inl h
          · exact .inr (.inr h)
        · rintro (h | h | h)
          · exact .inr (.inl h)
          · exact .inl h
          · exact .inr (.inr h)
structure Inv (n : Nat) (rows : List Row) (k : Nat) (e : El) : Prop where
  ld : ∀ q ∈ e.dc, q.1.length = n
  ll : ∀ r ∈ e.left, r.length = n
  cnt : e.dc.length + e.left.length = rows.length
  lt : ∀ q ∈ e.dc, q.2 < k
  sorted : (e.dc.map (·.2)).Pairwise (· < ·)
  own : ∀ q ∈ e.dc, q.1.getD q.2 0 ≠ 0
  low : ∀ q ∈ e.dc, ∀ c, c < q.2 → q.1.getD c 0 = 0
  oth : ∀ q ∈ e.dc, ∀ s ∈ e.dc, q.2 ≠ s.2 → q.1.getD s.2 0 = 0
  zero : ∀ r ∈ e.left, ∀ c, c < k → r.getD c 0 = 0
  same : ∀ φ, LinF n φ → ((∀ r ∈ rows, φ r = 0) ↔ (∀ q ∈ e.dc, φ q.1 = 0) ∧ ∀ r ∈ e.left, φ r = 0)
theorem Clr.keep {r p r' : Row} {col c : Nat} (h : Clr r p r' col) (z : p.getD c 0 = 0) : r'.getD c 0 = 0 ↔ r.getD c 0 = 0 := by
  obtain ⟨u, d, g, hu, hg, e⟩ := h.ex
  have e := e c
  rw [z] at e
  constructor
  · intro q
    rw [q] at e
    have : u * r.getD c 0 = 0 := by omega
    rcases Int.mul_eq_zero.mp this with x | x
    · exact absurd x hu
    · exact x
  · intro q
    rw [q] at e
    have : g * r'.getD c 0 = 0 := by omega
    rcases Int.mul_eq_zero.mp this with x | x
    · exact absurd x hg
    · exact x
theorem elim_inv {n : Nat} {rows : List Row} (hn : ∀ r ∈ rows, r.length = n) : ∀ k, Inv n rows k (elim rows k)
  | 0 => by
    have no : ∀ q, q ∈ (elim rows 0).dc → False := fun q h => by cases h
    exact ⟨fun q h => (no q h).elim, hn, Nat.zero_add _, fun q h => (no q h).elim, List.Pairwise.nil, fun q h => (no q h).elim, fun q h => (no q h).elim, fun q h => (no q h).elim, fun r _ c h => absurd h (Nat.not_lt_zero _),
      fun φ _ => ⟨fun h => ⟨fun q z => (no q z).elim, h⟩, fun h => h.2⟩⟩
  | k + 1 => by
    have I := elim_inv hn k
    show Inv n rows (k + 1) ((elim rows k).step k)
    generalize elim rows k = e at I
    unfold El.step
    split
    · rename_i q
      have z := pick_none q
      exact ⟨I.ld, I.ll, I.cnt, fun q h => Nat.lt_succ_of_lt (I.lt q h), I.sorted, I.own, I.low, I.oth, fun r hr c hc => by
        rcases Nat.lt_or_ge c k with x | x
        · exact I.zero r hr c x
        · have : c = k := by omega
          rw [this]
          exact z r hr, I.same⟩
    · rename_i p os q
      obtain ⟨hp, hm, hl⟩ := pick_some q
      have pm : p ∈ e.left := (hm p).mpr (.inl rfl)
      have lp := I.ll p pm
      have om : ∀ r ∈ os, r ∈ e.left := fun r h => (hm r).mpr (.inr h)
      have cd : ∀ q ∈ e.dc, Clr q.1 p (clrL q.1 p k) k := fun q h => clrL_clr ((I.ld q h).trans lp.symm) hp
      have co : ∀ r ∈ os, Clr r p (clrL r p k) k := fun r h => clrL_clr ((I.ll r (om r h)).trans lp.symm) hp
      have dm : ∀ q', q' ∈ e.dc.map (fun q => (clrL q.1 p k, q.2)) ++ [(p, k)] → (∃ q ∈ e.dc, q' = (clrL q.1 p k, q.2)) ∨ q' = (p, k) := by
        intro q' h
        rcases List.mem_append.mp h with h | h
        · obtain ⟨q, h1, h2⟩ := List.mem_map.mp h
          exact .inl ⟨q, h1, h2.symm⟩
        · exact .inr (List.mem_singleton.mp h)
      refine ⟨?_, ?_, ?_, ?_, ?_, ?_, ?_, ?_, ?_, ?_⟩
      · intro q' h
        rcases dm q' h with ⟨q, hq, rfl⟩ | rfl
        · exact (cd q hq).len.trans (I.ld q hq)
        · exact lp
      · intro r h
        obtain ⟨r0, h1, rfl⟩ := List.mem_map.mp h
        exact (co r0 h1).len.trans (I.ll r0 (om r0 h1))
      · have := I.cnt
        simp only [List.length_append, List.length_map, List.length_singleton]
        omega
      · intro q' h
        rcases dm q' h with ⟨q, hq, rfl⟩ | rfl
        · exact Nat.lt_succ_of_lt (I.lt q hq)
        · exact Nat.lt_succ_self k
      · have e1 : (e.dc.map (fun q => (clrL q.1 p k, q.2)) ++ [(p, k)]).map (·.2) = e.dc.map (·.2) ++ [k] := by
          rw [List.map_append, List.map_map]
          rfl
        rw [e1, List.pairwise_append]
        refine ⟨I.sorted, List.pairwise_singleton .., fun a ha b hb => ?_⟩
        obtain ⟨q, h1, rfl⟩ := List.mem_map.mp ha
        rw [List.mem_singleton.mp hb]
        exact I.lt q h1
      · intro q' h
        rcases dm q' h with ⟨q, hq, rfl⟩ | rfl
        · exact fun z => I.own q hq (((cd q hq).keep (I.zero p pm _ (I.lt q hq))).mp z)
        · exact hp
      · intro q' h c hc
        rcases dm q' h with ⟨q, hq, rfl⟩ | rfl
        · exact ((cd q hq).keep (I.zero p pm c (Nat.lt_trans hc (I.lt q hq)))).mpr (I.low q hq c hc)
        · exact I.zero p pm c hc
      · intro q' h s' hs hne
        rcases dm q' h with ⟨q, hq, rfl⟩ | rfl
        · rcases dm s' hs with ⟨s, hs2, rfl⟩ | rfl
          · exact ((cd q hq).keep (I.zero p pm _ (I.lt s hs2))).mpr (I.oth q hq s hs2 hne)
          · exact (cd q hq).zero
        · rcases dm s' hs with ⟨s, hs2, rfl⟩ | rfl
          · exact I.zero p pm _ (I.lt s hs2)
          · exact absurd rfl hne
      · intro r h c hc
        obtain ⟨r0, h1, rfl⟩ := List.mem_map.mp h
        rcases Nat.lt_or_ge c k with x | x
        · exact ((co r0 h1).keep (I.zero p pm c x)).mpr (I.zero r0 (om r0 h1) c x)
        · have : c = k := by omega
          rw [this]
          exact (co r0 h1).zero
      · intro φ L
        rw [I.same φ L]
        constructor
        · rintro ⟨h1, h2⟩
          have zp := h2 p pm
          refine ⟨fun q' h => ?_, fun r h => ?_⟩
          · rcases dm q' h with ⟨q, hq, rfl⟩ | rfl
            · exact (clr_iff (cd q hq) L (I.ld q hq) lp zp).mpr (h1 q hq)
            · exact zp
          · obtain ⟨r0, h3, rfl⟩ := List.mem_map.mp h
            exact (clr_iff (co r0 h3) L (I.ll r0 (om r0 h3)) lp zp).mpr (h2 r0 (om r0 h3))
        · rintro ⟨h1, h2⟩
          have zp : φ p = 0 := h1 (p, k) (List.mem_append_right _ (List.mem_singleton.mpr rfl))
          refine ⟨fun q h => ?_, fun r h => ?_⟩
          · exact (clr_iff (cd q h) L (I.ld q h) lp zp).mp (h1 _ (List.mem_append_left _ (List.mem_map.mpr ⟨q, h, rfl⟩)))
          · rcases (hm r).mp h with rfl | h
            · exact zp
            · exact (clr_iff (co r h) L (I.ll r (om r h)) lp zp).mp (h2 _ (List.mem_map.mpr ⟨r, h, rfl⟩))

theorem uniq_of {l : List (Row × Nat)} (h : (l.map (·.2)).Pairwise (· < ·)) {q s : Row × Nat} (hq : q ∈ l) (hs : s ∈ l) (e : q.2 = s.2) : q = s := by
  induction l with
  | nil => cases hq
  | cons a l ih =>
    rw [List.map_cons, List.pairwise_cons] at h
    rcases List.mem_cons.mp hq with e1 | hq2
    · rcases List.mem_cons.mp hs with e2 | hs2
      · rw [e1, e2]
      · have := h.1 s.2 (List.mem_map.mpr ⟨s, hs2, rfl⟩)
        rw [e1] at e
        omega
    · rcases List.mem_cons.mp hs with e2 | hs2
      · have := h.1 q.2 (List.mem_map.mpr ⟨q, hq2, rfl⟩)
        rw [e2] at e
        omega
      · exact ih h.2 hq2 hs2
theorem at_zero {r : Row} {j : Nat} (h : r.getD j 0 = 0) : at_ r j = 0 := by
  unfold at_
  rw [h]
  rfl
theorem at_ne {r : Row} {j : Nat} (h : r.getD j 0 ≠ 0) : at_ r j ≠ 0 := castne h
section
variable {n k : Nat} {rows : List Row} {e : El}
theorem Inv.ker (I : Inv n rows k e) (x : Nat → Rat) : (∀ r ∈ rows, dot r x = 0) ↔ (∀ q ∈ e.dc, dot q.1 x = 0) ∧ ∀ r ∈ e.left, dot r x = 0 := I.same _ (linF_dot x)
theorem Inv.free (I : Inv n rows k e) (hk : k ≤ n) {c : Nat} (hc : c < k) (hf : ∀ q ∈ e.dc, q.2 ≠ c) : ∃ x : Nat → Rat, x c = 1 ∧ (∀ j, c < j → x j = 0) ∧ ∀ r ∈ rows, dot r x = 0 := by
  have hx : ∃ x : Nat → Rat, x c = 1 ∧ (∀ j, c < j → x j = 0) ∧ (∀ q ∈ e.dc, q.2 < c → x q.2 = - at_ q.1 c / at_ q.1 q.2) ∧ ∀ j, x j ≠ 0 → j = c ∨ ∃ q ∈ e.dc, q.2 = j ∧ j < c := by
    refine ⟨fun j => if j = c then 1 else match e.dc.find? (fun q => decide (q.2 = j)) with
      | some q => if j < c then - at_ q.1 c / at_ q.1 j else 0
      | none => 0, if_pos rfl, fun j hj => ?_, fun q hq hl => ?_, fun j hj => ?_⟩
    · show (if j = c then (1 : Rat) else _) = 0
      rw [if_neg (by omega)]
      split
      · rw [if_neg (by omega)]
      · rfl
    · show (if q.2 = c then (1 : Rat) else _) = _
      rw [if_neg (by omega)]
      cases hf : e.dc.find? (fun s => decide (s.2 = q.2)) with
      | none =>
        have := List.find?_eq_none.mp hf q hq
        simp at this
      | some s =>
        have h1 := List.mem_of_find?_eq_some hf
        have h2 := List.find?_some hf
        have h3 : s = q := uniq_of I.sorted h1 hq (of_decide_eq_true h2)
        subst h3
        show (if s.2 < c then - at_ s.1 c / at_ s.1 s.2 else 0) = _
        rw [if_pos hl]
    · by_cases hjc : j = c
      · exact .inl hjc
      · have hj2 : (if j = c then (1 : Rat) else match e.dc.find? (fun q => decide (q.2 = j)) with
          | some q => if j < c then - at_ q.1 c / at_ q.1 j else 0
          | none => 0) ≠ 0 := hj
        rw [if_neg hjc] at hj2
        cases hf : e.dc.find? (fun s => decide (s.2 = j)) with
        | none =>
          rw [hf] at hj2
          exact absurd rfl hj2
        | some s =>
          rw [hf] at hj2
          by_cases hl : j < c
          · have h2 := List.find?_some hf
            exact .inr ⟨s, List.mem_of_find?_eq_some hf, of_decide_eq_true h2, hl⟩
          · have : (if j < c then - at_ s.1 c / at_ s.1 j else 0) ≠ 0 := hj2
            rw [if_neg hl] at this
            exact absurd rfl this
  obtain ⟨x, x1, x2, x3, x4⟩ := hx
  refine ⟨x, x1, x2, (I.ker x).mpr ⟨fun q hq => ?_, fun r hr => ?_⟩⟩
  · unfold dot
    have hl := I.ld q hq
    rcases Nat.lt_or_ge q.2 c with z | z
    · rw [S_two (a := q.2) (b := c) (by omega) (by omega) (hf q hq)]
      · rw [x1, x3 q hq z]
        have := at_ne (I.own q hq)
        grind
      · intro j hj h1 h2
        by_cases hx : x j = 0
        · rw [hx]
          grind
        · rcases x4 j hx with h | ⟨s, hs, h, _⟩
          · exact absurd h h2
          · have := at_zero (I.oth q hq s hs (by omega))
            rw [h] at this
            rw [this]
            grind
    · refine S_zero _ fun j hj => ?_
      have hne := hf q hq
      by_cases hx : x j = 0
      · rw [hx]
        grind
      · rcases x4 j hx with h | ⟨s, hs, h, hl⟩
        · rw [at_zero (I.low q hq j (by omega))]
          grind
        · rw [at_zero (I.low q hq j (by omega))]
          grind
  · unfold dot
    refine S_zero _ fun j hj => ?_
    rcases Nat.lt_or_ge c j with z | z
    · rw [x2 j z]
      grind
    · rw [at_zero (I.zero r hr j (by omega))]
      grind
theorem Inv.pivot (I : Inv n rows k e) (hk : k ≤ n) {q : Row × Nat} (hq : q ∈ e.dc) {x : Nat → Rat} (h1 : ∀ j, q.2 < j → x j = 0) (h2 : ∀ r ∈ rows, dot r x = 0) : x q.2 = 0 := by
  have h := ((I.ker x).mp h2).1 q hq
  have hl := I.ld q hq
  have hc := I.lt q hq
  unfold dot at h
  rw [S_one (a := q.2) (by omega) fun j hj hne => by
    rcases Nat.lt_or_ge j q.2 with z | z
    · rw [at_zero (I.low q hq j z)]
      grind
    · rw [h1 j (by omega)]
      grind] at h
  have := at_ne (I.own q hq)
  grind
theorem sorted_ext : ∀ {a b : List Nat}, a.Pairwise (· < ·) → b.Pairwise (· < ·) → (∀ x, x ∈ a ↔ x ∈ b) → a = b
  | [], [], _, _, _ => rfl
  | [], y :: b, _, _, h => by
    have := (h y).mpr (List.mem_cons_self ..)
    cases this
  | x :: a, [], _, _, h => by
    have := (h x).mp (List.mem_cons_self ..)
    cases this
  | x :: a, y :: b, ha, hb, h => by
    rw [List.pairwise_cons] at ha hb
    have e : x = y := by
      rcases List.mem_cons.mp ((h x).mp (List.mem_cons_self ..)) with z | z
      · exact z
      · rcases List.mem_cons.mp ((h y).mpr (List.mem_cons_self ..)) with z2 | z2
        · exact z2.symm
        · have := ha.1 y z2
          have := hb.1 x z
          omega
    subst e
    rw [sorted_ext ha.2 hb.2 fun z => ?_]
    constructor
    · intro hz
      have := ha.1 z hz
      rcases List.mem_cons.mp ((h z).mp (List.mem_cons_of_mem _ hz)) with q | q
      · omega
      · exact q
    · intro hz
      have := hb.1 z hz
      rcases List.mem_cons.mp ((h z).mpr (List.mem_cons_of_mem _ hz)) with q | q
      · omega
      · exact q
end
theorem cols_eq {n n' k : Nat} {rows rows' : List Row} {e e' : El} (I : Inv n rows k e) (I' : Inv n' rows' k e') (hk : k ≤ n) (hk' : k ≤ n')
    (h : ∀ x : Nat → Rat, (∀ j, k ≤ j → x j = 0) → ((∀ r ∈ rows, dot r x = 0) ↔ ∀ r ∈ rows', dot r x = 0)) : e.dc.map (·.2) = e'.dc.map (·.2) := by
  refine sorted_ext I.sorted I'.sorted fun c => ?_
  constructor
  · intro hc
    obtain ⟨q, hq, rfl⟩ := List.mem_map.mp hc
    refine Classical.byContradiction fun no => ?_
    obtain ⟨x, x1, x2, x3⟩ := I'.free hk' (I.lt q hq) fun s hs z => no (List.mem_map.mpr ⟨s, hs, z⟩)
    have hl := I.lt q hq
    have := I.pivot hk hq x2 ((h x fun j hj => x2 j (by omega)).mpr x3)
    rw [x1] at this
    exact absurd this (by decide)
  · intro hc
    obtain ⟨q, hq, rfl⟩ := List.mem_map.mp hc
    refine Classical.byContradiction fun no => ?_
    obtain ⟨x, x1, x2, x3⟩ := I.free hk (I'.lt q hq) fun s hs z => no (List.mem_map.mpr ⟨s, hs, z⟩)
    have hl := I'.lt q hq
    have := I'.pivot hk' hq x2 ((h x fun j hj => x2 j (by omega)).mp x3)
    rw [x1] at this
    exact absurd this (by decide)

theorem common (f : Nat → Rat) : ∀ s : Nat, ∃ d : Int, d ≠ 0 ∧ ∀ k, k < s → ∃ z : Int, f k * d = z
  | 0 => ⟨1, by decide, fun k h => absurd h (Nat.not_lt_zero _)⟩
  | s + 1 => by
    obtain ⟨d, h0, h⟩ := common f s
    have hd : ((f s).den : Int) ≠ 0 := by
      have := (f s).den_nz
      omega
    have hn : f s * ((f s).den : Int) = (f s).num := by
      have e : f s = ((f s).num : Rat) / (((f s).den : Int) : Rat) := by rw [← Rat.divInt_eq_div, Rat.num_divInt_den]
      have := castne hd
      generalize (((f s).den : Int) : Rat) = b at *
      generalize ((f s).num : Rat) = a at *
      grind
    refine ⟨d * (f s).den, fun z => (Int.mul_eq_zero.mp z).elim h0 hd, fun k hk => ?_⟩
    rcases Nat.lt_or_ge k s with q | q
    · obtain ⟨z, hz⟩ := h k q
      refine ⟨z * (f s).den, ?_⟩
      have : f k * ((d * ((f s).den : Int) : Int) : Rat) = (f k * d) * ((f s).den : Int) := by
        rw [Rat.intCast_mul]
        grind
      rw [this, hz, Rat.intCast_mul]
    · have e : k = s := by omega
      subst e
      refine ⟨(f k).num * d, ?_⟩
      have : f k * ((d * ((f k).den : Int) : Int) : Rat) = (f k * ((f k).den : Int)) * d := by
        rw [Rat.intCast_mul]
        grind
      rw [this, hn, Rat.intCast_mul]
theorem wide (W : Nat → Nat → Rat) {r s : Nat} (h : r < s) : ∃ c : Nat → Rat, (∃ k, k < s ∧ c k ≠ 0) ∧ ∀ a, a < r → S s (fun k => W a k * c k) = 0 := by
  have hd : ∀ a, ∃ R : Row, R.length = s ∧ ∃ d : Int, d ≠ 0 ∧ ∀ k, k < s → W a k * d = at_ R k := by
    intro a
    obtain ⟨d, h0, hk⟩ := common (W a) s
    refine ⟨(List.range s).map fun k => if hk' : k < s then Classical.choose (hk k hk') else 0, by simp, d, h0, fun k hk' => ?_⟩
    have hz := Classical.choose_spec (hk k hk')
    rw [hz]
    unfold at_
    rw [List.getD_eq_getElem?_getD, List.getElem?_map, List.getElem?_range hk']
    simp only [Option.map_some, Option.getD_some, hk', dif_pos]
  let F : Nat → Row := fun a => Classical.choose (hd a)
  have hF : ∀ a, (F a).length = s ∧ ∃ d : Int, d ≠ 0 ∧ ∀ k, k < s → W a k * d = at_ (F a) k := fun a => Classical.choose_spec (hd a)
  have I := elim_inv (n := s) (rows := (List.range r).map F) (fun R hR => by
    obtain ⟨a, _, rfl⟩ := List.mem_map.mp hR
    exact (hF a).1) s
  have hc := I.cnt
  rw [List.length_map, List.length_range] at hc
  have hfree : ∃ c, c < s ∧ ∀ q ∈ (elim ((List.range r).map F) s).dc, q.2 ≠ c := by
    refine Classical.byContradiction fun no => ?_
    have all : ∀ c, c < s → c ∈ (elim ((List.range r).map F) s).dc.map (·.2) := fun c hc => Classical.byContradiction fun nm => no ⟨c, hc, fun q hq e => nm (List.mem_map.mpr ⟨q, hq, e⟩)⟩
    have : (elim ((List.range r).map F) s).dc.map (·.2) = List.range s := by
      refine sorted_ext I.sorted List.pairwise_lt_range fun x => ?_
      rw [List.mem_range]
      refine ⟨fun hx => ?_, all x⟩
      obtain ⟨q, hq, rfl⟩ := List.mem_map.mp hx
      exact I.lt q hq
    have l := congrArg List.length this
    rw [List.length_map, List.length_range] at l
    omega
  obtain ⟨c, hc1, hc2⟩ := hfree
  obtain ⟨x, x1, _, x3⟩ := I.free (Nat.le_refl s) hc1 hc2
  refine ⟨x, ⟨c, hc1, by rw [x1]; decide⟩, fun a ha => ?_⟩
  have hm : F a ∈ (List.range r).map F := List.mem_map.mpr ⟨a, List.mem_range.mpr ha, rfl⟩
  have z := x3 _ hm
  obtain ⟨hl, d, d0, hk⟩ := hF a
  unfold dot at z
  rw [hl] at z
  have e : S s (fun j => at_ (F a) j * x j) = d * S s (fun k => W a k * x k) := by
    rw [← S_mul]
    refine S_congr s fun j hj => ?_
    rw [← hk j hj]
    grind
  rw [e] at z
  have := castne d0
  grind
def Rep (A : Nat → Nat → Rat) (m n : Nat) (R : List Row) : Prop := R.length = m ∧ ∀ i, i < m → ∃ low : Int, low ≠ 0 ∧ ∀ j, j < n → at_ (R.getD i []) j = low * A i j
theorem getD_mem {R : List Row} {i : Nat} (h : i < R.length) : R.getD i [] ∈ R := by
  rw [List.getD_eq_getElem?_getD, List.getElem?_eq_getElem h]
  exact List.getElem_mem h
theorem mem_getD {R : List Row} {r : Row} (h : r ∈ R) : ∃ i, i < R.length ∧ R.getD i [] = r := by
  obtain ⟨i, hi, e⟩ := List.mem_iff_getElem.mp h
  refine ⟨i, hi, ?_⟩
  rw [List.getD_eq_getElem?_getD, List.getElem?_eq_getElem hi]
  exact e
theorem Rep.ker {A : Nat → Nat → Rat} {m n N : Nat} {R : List Row} (h : Rep A m n R) (hl : ∀ r ∈ R, r.length = N) (hN : n ≤ N) {x : Nat → Rat} (hx : ∀ j, n ≤ j → x j = 0) : (∀ r ∈ R, dot r x = 0) ↔ ∀ i, i < m → S n (fun j => A i j * x j) = 0 := by
  have cut : ∀ (f : Nat → Rat) (M : Nat), n ≤ M → (∀ j, n ≤ j → f j = 0) → S M f = S n f := by
    intro f M hM hf
    induction M with
    | zero =>
      have : n = 0 := by omega
      rw [this]
    | succ M ih =>
      rcases Nat.lt_or_ge M n with q | q
      · have : n = M + 1 := by omega
        rw [this]
      · show S M f + f M = S n f
        rw [ih q, hf M q]
        grind
  have key : ∀ i, i < m → ∃ low : Int, low ≠ 0 ∧ dot (R.getD i []) x = low * S n (fun j => A i j * x j) := by
    intro i hi
    obtain ⟨low, h0, hj⟩ := h.2 i hi
    refine ⟨low, h0, ?_⟩
    unfold dot
    rw [hl _ (getD_mem (by rw [h.1]; exact hi)), cut _ N hN fun j hj => by rw [hx j hj]; grind, ← S_mul]
    refine S_congr n fun j hjn => ?_
    rw [hj j hjn]
    grind
  constructor
  · intro hr i hi
    obtain ⟨low, h0, e⟩ := key i hi
    have z := hr _ (getD_mem (by rw [h.1]; exact hi))
    rw [e] at z
    have := castne h0
    grind
  · intro hr r hm
    obtain ⟨i, hi, rfl⟩ := mem_getD hm
    rw [h.1] at hi
    obtain ⟨low, h0, e⟩ := key i hi
    rw [e, hr i hi]
    grind
theorem rep_cols {A : Nat → Nat → Rat} {m n N N' : Nat} {R R' : List Row} (h : Rep A m n R) (h' : Rep A m n R') (hl : ∀ r ∈ R, r.length = N) (hl' : ∀ r ∈ R', r.length = N') (hN : n ≤ N) (hN' : n ≤ N') :
    (elim R n).dc.map (·.2) = (elim R' n).dc.map (·.2) :=
  cols_eq (elim_inv hl n) (elim_inv hl' n) hN hN' fun x hx => (h.ker hl hN hx).trans (h'.ker hl' hN' hx).symm

theorem S_app (f : Nat → Rat) (n : Nat) : ∀ m : Nat, S (n + m) f = S n f + S m fun j => f (n + j)
  | 0 => by
    show S n f = S n f + 0
    grind
  | m + 1 => by
    have ih := S_app f n m
    show S (n + m) f + f (n + m) = S n f + (S m (fun j => f (n + j)) + f (n + m))
    rw [ih]
    grind
theorem S_sub {f g : Nat → Rat} (n : Nat) : S n (fun j => f j - g j) = S n f - S n g := by
  induction n with
  | zero => unfold S; grind
  | succ n ih => unfold S; rw [ih]; grind
structure Aug (A : Nat → Nat → Rat) (m n : Nat) (R : List Row) : Prop where
  cnt : R.length = m
  len : ∀ r ∈ R, r.length = n + m
  ex : ∀ i, i < m → ∃ low : Int, low ≠ 0 ∧ (∀ j, j < n → at_ (R.getD i []) j = low * A i j) ∧ ∀ j, j < m → at_ (R.getD i []) (n + j) = if j = i then (low : Rat) else 0
theorem Aug.rep {A : Nat → Nat → Rat} {m n : Nat} {R : List Row} (h : Aug A m n R) : Rep A m n R := ⟨h.cnt, fun i hi => by
  obtain ⟨low, h0, h1, _⟩ := h.ex i hi
  exact ⟨low, h0, h1⟩⟩
theorem Aug.comb {A : Nat → Nat → Rat} {m n k : Nat} {R : List Row} {e : El} (h : Aug A m n R) (I : Inv (n + m) R k e) {j : Nat} (hj : j < n) :
    (∀ q ∈ e.dc, at_ q.1 j = S m fun i => at_ q.1 (n + i) * A i j) ∧ ∀ r ∈ e.left, at_ r j = S m fun i => at_ r (n + i) * A i j := by
  have L : LinF (n + m) fun r => at_ r j - S m fun i => at_ r (n + i) * A i j := linF_sub (linF_at j) (linF_sum m (fun i => n + i) fun i => A i j)
  have z := (I.same _ L).mp fun r hr => by
    obtain ⟨i, hi, rfl⟩ := mem_getD hr
    rw [h.cnt] at hi
    obtain ⟨low, h0, h1, h2⟩ := h.ex i hi
    rw [h1 j hj, S_one (a := i) hi fun t ht hne => by
      rw [h2 t ht, if_neg hne]
      grind]
    rw [h2 i hi, if_pos rfl]
    grind
  exact ⟨fun q hq => by
    have := z.1 q hq
    grind, fun r hr => by
    have := z.2 r hr
    grind⟩
theorem dot_sum (r : Row) (s : Nat) (c : Nat → Rat) (f : Nat → Nat → Rat) : dot r (fun i => S s fun k => c k * f k i) = S s fun k => c k * dot r (f k) := by
  unfold dot
  have e : (fun k => c k * S r.length fun j => at_ r j * f k j) = fun k => S r.length fun j => c k * (at_ r j * f k j) := by
    funext k
    rw [S_mul]
  rw [e, S_swap]
  refine S_congr _ fun j _ => ?_
  rw [← S_mul]
  refine S_congr _ fun k _ => ?_
  grind
theorem rank_T {A : Nat → Nat → Rat} {m n N : Nat} {R R' : List Row} (h : Rep A m n R) (hl : ∀ r ∈ R, r.length = N) (hN : n ≤ N) (h' : Aug (fun i j => A j i) n m R') : (elim R' m).dc.length ≤ (elim R n).dc.length := by
  have I := elim_inv hl n
  have I' := elim_inv h'.len m
  refine Classical.byContradiction fun no => ?_
  generalize elim R n = e at *
  generalize elim R' m = e' at *
  have lt : e.dc.length < e'.dc.length := by omega
  obtain ⟨c, ⟨l, hl1, hl2⟩, hc⟩ := wide (fun a k => dot (e.dc.getD a ([], 0)).1 fun i => if i < n then at_ (e'.dc.getD k ([], 0)).1 (m + i) else 0) lt
  have mem' : ∀ k, k < e'.dc.length → e'.dc.getD k ([], 0) ∈ e'.dc := fun k hk => by
    rw [List.getD_eq_getElem?_getD, List.getElem?_eq_getElem hk]
    exact List.getElem_mem hk
  have hx0 : ∀ j, n ≤ j → (S e'.dc.length fun k => c k * (if j < n then at_ (e'.dc.getD k ([], 0)).1 (m + j) else 0)) = 0 := fun j hj => S_zero _ fun k _ => by
    rw [if_neg (by omega)]
    grind
  have z : ∀ r ∈ R, dot r (fun i => S e'.dc.length fun k => c k * (if i < n then at_ (e'.dc.getD k ([], 0)).1 (m + i) else 0)) = 0 := by
    rw [I.ker]
    refine ⟨fun q hq => ?_, fun r hr => ?_⟩
    · obtain ⟨a, ha, rfl⟩ := List.mem_iff_getElem.mp hq
      have := hc a ha
      rw [List.getD_eq_getElem?_getD, List.getElem?_eq_getElem ha] at this
      rw [dot_sum, ← this]
      refine S_congr _ fun k _ => ?_
      simp only [Option.getD_some]
      grind
    · refine S_zero _ fun j hj => ?_
      dsimp only
      rcases Nat.lt_or_ge j n with q | q
      · rw [at_zero (I.zero r hr j q)]
        grind
      · rw [hx0 j q]
        grind
  have z2 := (h.ker hl hN hx0).mp z
  have hq := mem' l hl1
  have z3 := z2 _ (I'.lt _ hq)
  have e1 : (S n fun j => A (e'.dc.getD l ([], 0)).2 j * (S e'.dc.length fun k => c k * (if j < n then at_ (e'.dc.getD k ([], 0)).1 (m + j) else 0))) =
      S e'.dc.length fun k => c k * at_ (e'.dc.getD k ([], 0)).1 (e'.dc.getD l ([], 0)).2 := by
    have e2 : (fun k => c k * at_ (e'.dc.getD k ([], 0)).1 (e'.dc.getD l ([], 0)).2) = fun k => c k * at_ (e'.dc.getD k ([], 0)).1 (e'.dc.getD l ([], 0)).2 := rfl
    have e3 : (S e'.dc.length fun k => c k * at_ (e'.dc.getD k ([], 0)).1 (e'.dc.getD l ([], 0)).2) = S e'.dc.length fun k => S n fun j => A (e'.dc.getD l ([], 0)).2 j * (c k * at_ (e'.dc.getD k ([], 0)).1 (m + j)) := by
      refine S_congr _ fun k hk => ?_
      rw [(h'.comb I' (I'.lt _ hq)).1 _ (mem' k hk), ← S_mul]
      refine S_congr _ fun j _ => ?_
      grind
    rw [e3, S_swap]
    refine S_congr _ fun j hj => ?_
    rw [← S_mul]
    refine S_congr _ fun k _ => ?_
    rw [if_pos hj]
  rw [e1, S_one (a := l) hl1 fun k hk hne => ?_] at z3
  · have := at_ne (I'.own _ hq)
    grind
  · have hk2 := mem' k hk
    have ne : (e'.dc.getD k ([], 0)).2 ≠ (e'.dc.getD l ([], 0)).2 := by
      intro e4
      have e5 := uniq_of I'.sorted hk2 hq e4
      rw [List.getD_eq_getElem?_getD, List.getElem?_eq_getElem hk, List.getD_eq_getElem?_getD, List.getElem?_eq_getElem hl1] at e4
      have p := List.pairwise_iff_getElem.mp I'.sorted
      rcases Nat.lt_or_gt_of_ne hne with g | g
      · have := p k l (by simpa using hk) (by simpa using hl1) g
        simp at this e4
        omega
      · have := p l k (by simpa using hl1) (by simpa using hk) g
        simp at this e4
        omega
    rw [at_zero (I'.oth _ hk2 _ hq ne)]
    grind
theorem none_ok {A : Nat → Nat → Rat} {m n : Nat} {R : List Row} (h : Aug A m (n + 1) R) {r : Row} (hr : r ∈ (elim R n).left) (h0 : r.getD n 0 ≠ 0) :
    (∀ j, j < n → (S m fun i => at_ r (n + 1 + i) * A i j) = 0) ∧ (S m fun i => at_ r (n + 1 + i) * A i n) ≠ 0 := by
  have I := elim_inv h.len n
  refine ⟨fun j hj => ?_, ?_⟩
  · rw [← (h.comb I (by omega : j < n + 1)).2 r hr]
    exact at_zero (I.zero r hr j hj)
  · rw [← (h.comb I (by omega : n < n + 1)).2 r hr]
    exact at_ne h0
theorem some_ok {A : Nat → Nat → Rat} {m n : Nat} {R : List Row} (h : Aug A m (n + 1) R) (hz : ∀ r ∈ (elim R n).left, r.getD n 0 = 0) {x : Nat → Rat}
    (h1 : ∀ q ∈ (elim R n).dc, x q.2 = at_ q.1 n / at_ q.1 q.2) (h2 : ∀ j, j < n → (∀ q ∈ (elim R n).dc, q.2 ≠ j) → x j = 0) : ∀ i, i < m → (S n fun j => A i j * x j) = A i n := by
  have I := elim_inv h.len n
  have z : ∀ r ∈ R, dot r (fun j => if j < n then x j else if j = n then -1 else 0) = 0 := by
    rw [I.ker]
    refine ⟨fun q hq => ?_, fun r hr => ?_⟩
    · have hl := I.ld q hq
      have hlt := I.lt q hq
      unfold dot
      rw [S_two (a := q.2) (b := n) (by omega) (by omega) (by omega)]
      · dsimp only
        rw [if_pos hlt, if_neg (by omega), if_pos rfl, h1 q hq]
        have := at_ne (I.own q hq)
        grind
      · intro j hj g1 g2
        dsimp only
        by_cases hj2 : j < n
        · rw [if_pos hj2]
          by_cases hp : ∃ s ∈ (elim R n).dc, s.2 = j
          · obtain ⟨s, hs, rfl⟩ := hp
            rw [at_zero (I.oth q hq s hs (Ne.symm g1))]
            grind
          · rw [h2 j hj2 fun s hs e => hp ⟨s, hs, e⟩]
            grind
        · rw [if_neg hj2, if_neg g2]
          grind
    · refine S_zero _ fun j hj => ?_
      dsimp only
      by_cases hj2 : j < n
      · rw [at_zero (I.zero r hr j hj2)]
        grind
      · rw [if_neg hj2]
        by_cases g : j = n
        · rw [g, at_zero (hz r hr)]
          grind
        · rw [if_neg g]
          grind
  intro i hi
  have zi := z _ (getD_mem (by rw [h.cnt]; exact hi))
  obtain ⟨low, h0, g1, g2⟩ := h.ex i hi
  unfold dot at zi
  rw [h.len _ (getD_mem (by rw [h.cnt]; exact hi)), S_app, S_zero m fun j _ => by
    dsimp only
    rw [if_neg (by omega), if_neg (by omega)]
    grind] at zi
  dsimp only at zi
  have e : (S (n + 1) fun j => at_ (R.getD i []) j * (if j < n then x j else if j = n then -1 else 0)) = low * ((S n fun j => A i j * x j) - A i n) := by
    show S n (fun j => at_ (R.getD i []) j * (if j < n then x j else if j = n then -1 else 0)) + at_ (R.getD i []) n * (if n < n then x n else if n = n then -1 else 0) = _
    rw [g1 n (by omega), if_neg (by omega), if_pos rfl]
    have : S n (fun j => at_ (R.getD i []) j * (if j < n then x j else if j = n then -1 else 0)) = low * S n fun j => A i j * x j := by
      rw [← S_mul]
      refine S_congr n fun j hj => ?_
      rw [if_pos hj, g1 j (by omega)]
      grind
    rw [this]
    grind
  rw [e] at zi
  have := castne h0
  grind
theorem inv_ok {A : Nat → Nat → Rat} {n : Nat} {R : List Row} (h : Aug A n n R) (hd : (elim R n).dc.length = n) :
    (elim R n).dc.map (·.2) = List.range n ∧ ∀ (B : Nat → Nat → Rat), (∀ q ∈ (elim R n).dc, ∀ t, t < n → B q.2 t = at_ q.1 (n + t) / at_ q.1 q.2) → ∀ i t, i < n → t < n → (S n fun k => A i k * B k t) = if i = t then 1 else 0 := by
  have I := elim_inv h.len n
  have hc := I.cnt
  rw [h.cnt, hd] at hc
  have nl : (elim R n).left = [] := List.eq_nil_of_length_eq_zero (by omega)
  have sorted_range : ∀ (l : List Nat) (n : Nat), l.Pairwise (· < ·) → l.length = n → (∀ x ∈ l, x < n) → l = List.range n := by
    intro l n hp hl hx
    refine sorted_ext hp List.pairwise_lt_range fun x => ⟨fun hm => List.mem_range.mpr (hx x hm), fun hm => ?_⟩
    have hm := List.mem_range.mp hm
    have ge : ∀ i (hi : i < l.length), i ≤ l[i] := by
      intro i
      induction i with
      | zero => intro _; exact Nat.zero_le _
      | succ i ih =>
        intro hi
        have := List.pairwise_iff_getElem.mp hp i (i + 1) (by omega) hi (by omega)
        have := ih (by omega)
        omega
    have le : ∀ d i (hi : i < l.length), i + d + 1 = l.length → l[i] ≤ i := by
      intro d
      induction d with
      | zero =>
        intro i hi e
        have := hx _ (List.getElem_mem hi)
        omega
      | succ d ih =>
        intro i hi e
        have := List.pairwise_iff_getElem.mp hp i (i + 1) hi (by omega) (by omega)
        have := ih (i + 1) (by omega) (by omega)
        omega
    have := ge x (by omega)
    have := le (l.length - x - 1) x (by omega) (by omega)
    have e : l[x]'(by omega) = x := by omega
    exact e ▸ List.getElem_mem _
  have hcols := sorted_range _ n I.sorted (by rw [List.length_map, hd]) (fun x hx => by
    obtain ⟨q, hq, rfl⟩ := List.mem_map.mp hx
    exact I.lt q hq)
  refine ⟨hcols, fun B hB i t hi ht => ?_⟩
  have pos : ∀ j, j < n → ∃ s ∈ (elim R n).dc, s.2 = j := fun j hj => by
    have : j ∈ (elim R n).dc.map (·.2) := by
      rw [hcols]
      exact List.mem_range.mpr hj
    obtain ⟨s, hs, e⟩ := List.mem_map.mp this
    exact ⟨s, hs, e⟩
  have z : ∀ r ∈ R, dot r (fun j => if j < n then B j t else if j = n + t then -1 else 0) = 0 := by
    rw [I.ker, nl]
    refine ⟨fun q hq => ?_, fun r hr => by cases hr⟩
    have hl := I.ld q hq
    have hlt := I.lt q hq
    unfold dot
    rw [S_two (a := q.2) (b := n + t) (by omega) (by omega) (by omega)]
    · dsimp only
      rw [if_pos hlt, if_neg (by omega), if_pos rfl, hB q hq t ht]
      have := at_ne (I.own q hq)
      grind
    · intro j hj g1 g2
      dsimp only
      by_cases hj2 : j < n
      · obtain ⟨s, hs, rfl⟩ := pos j hj2
        rw [at_zero (I.oth q hq s hs (Ne.symm g1))]
        grind
      · rw [if_neg hj2, if_neg g2]
        grind
  have zi := z _ (getD_mem (by rw [h.cnt]; exact hi))
  obtain ⟨low, h0, g1, g2⟩ := h.ex i hi
  unfold dot at zi
  rw [h.len _ (getD_mem (by rw [h.cnt]; exact hi)), S_app, S_one (f := fun j => at_ (R.getD i []) (n + j) * (if n + j < n then B (n + j) t else if n + j = n + t then -1 else 0)) (a := t) ht fun j hj hne => by
    rw [if_neg (by omega), if_neg (by omega)]
    grind] at zi
  have e : (S n fun j => at_ (R.getD i []) j * (if j < n then B j t else if j = n + t then -1 else 0)) = low * (S n fun j => A i j * B j t) := by
    rw [← S_mul]
    refine S_congr n fun j hj => ?_
    rw [if_pos hj, g1 j hj]
    grind
  dsimp only at zi
  rw [e, if_neg (by omega), if_pos rfl, g2 t ht] at zi
  have := castne h0
  by_cases q : i = t
  · rw [if_pos q.symm] at zi
    rw [if_pos q]
    grind
  · rw [if_neg (Ne.symm q)] at zi
    rw [if_neg q]
    grind
end Lin

set_option Elab.async false
set_option linter.all false
set_option maxRecDepth 100000
set_option autoImplicit false
set_option maxHeartbeats 2000000
namespace Mn
open PySem WK
theorem turns_pow {k : Nat} (h : k ≤ 100000) : 2 ^ k ≤ turns := by
  unfold turns
  exact Nat.pow_le_pow_right (by decide) h
theorem turns_le : 10000000 ≤ turns := Nat.le_trans (by decide : 10000000 ≤ 2 ^ 24) (turns_pow (by decide))
theorem ratio_ok {t l : Int} {m : MM} {b : Nat} (hm : okM m) (hl : l ≠ 0) (hb : l.natAbs < 2 ^ b) (h9 : b < 8999) : m_ratio [.d (.int t), .d (.int l)] m = .ok (.d (eQ ((t : Rat) / (l : Rat)))) m := by
  have g0 := gcd_ne (t := t) (l := l) hl
  have gb : ((Int.gcd t l : Nat) : Int).natAbs < 2 ^ b := by
    have := Nat.le_of_dvd (by omega : 0 < l.natAbs) (Int.gcd_dvd_natAbs_right t l)
    omega
  unfold m_ratio s_ratio
  by_cases h : l < 0
  · rw [nrm_neg h]
    have d1 : okDiv t (-((Int.gcd t l : Nat) : Int)) = true := okDiv_of (by omega) (by rw [Int.natAbs_neg]; exact gb) h9
    have d2 : okDiv l (-((Int.gcd t l : Nat) : Int)) = true := okDiv_of (by omega) (by rw [Int.natAbs_neg]; exact gb) h9
    simp only [defS, sSeq, sSet, sUnp, gT, gsCons, gsNil, gN, sPar2, sPar3, sAug, sExpr, sRet, sRetN, sPass, sBrk, sCnt, sIf, sRaise, fVar, fC, fBin, fUn, fTest, fTru, fNot, fIf, fCall, fCallL, fCallD, aNil, aCons, bind_ok, bind_err, bind_bad, then_ok, then_err, then_bad, sbind_nx, sbind_rt, sbind_bk, sbind_ct, sbind_err, sbind_bad, List.map_cons, List.map_nil, List.length_cons, List.length_nil, List.cons_append, List.nil_append, List.replicate_succ, List.replicate_zero, List.getElem?_cons_zero, List.getElem?_cons_succ, List.set_cons_zero, List.set_cons_succ, Nat.reduceSub, Nat.reduceAdd, if_pos, if_true, if_false, Bool.false_eq_true, ite_true, ite_false, reduceIte, Option.some.injEq, oGcd_ii, oMax_ii, oMin_ii, oInt_i, oLt_ii, oLe_ii, oGt_ii, oGe_ii, oAddU_ii, oSub_ii, oNeg_i, asB_b, tru_b, oNotV_b, oIx_t0, oIx_t1, oIx_t2, oIx_l0, datas_nil, datas_cons, oLen_l, oLen_t, oTuple_l, wipeS, tidy_same, cut_same, cut_app]
    rw [decide_eq_true h]
    simp only [defS, sSeq, sSet, sUnp, gT, gsCons, gsNil, gN, sPar2, sPar3, sAug, sExpr, sRet, sRetN, sPass, sBrk, sCnt, sIf, sRaise, fVar, fC, fBin, fUn, fTest, fTru, fNot, fIf, fCall, fCallL, fCallD, aNil, aCons, bind_ok, bind_err, bind_bad, then_ok, then_err, then_bad, sbind_nx, sbind_rt, sbind_bk, sbind_ct, sbind_err, sbind_bad, List.map_cons, List.map_nil, List.length_cons, List.length_nil, List.cons_append, List.nil_append, List.replicate_succ, List.replicate_zero, List.getElem?_cons_zero, List.getElem?_cons_succ, List.set_cons_zero, List.set_cons_succ, Nat.reduceSub, Nat.reduceAdd, if_pos, if_true, if_false, Bool.false_eq_true, ite_true, ite_false, reduceIte, Option.some.injEq, oGcd_ii, oMax_ii, oMin_ii, oInt_i, oLt_ii, oLe_ii, oGt_ii, oGe_ii, oAddU_ii, oSub_ii, oNeg_i, asB_b, tru_b, oNotV_b, oIx_t0, oIx_t1, oIx_t2, oIx_l0, datas_nil, datas_cons, oLen_l, oLen_t, oTuple_l, wipeS, tidy_same, cut_same, cut_app]
    rw [fTup_2 (m1 := m) (a := .int (t.fdiv (-((Int.gcd t l : Nat) : Int)))) (b := .int (l.fdiv (-((Int.gcd t l : Nat) : Int)))) (by simp only [defS, sSeq, sSet, sUnp, gT, gsCons, gsNil, gN, sPar2, sPar3, sAug, sExpr, sRet, sRetN, sPass, sBrk, sCnt, sIf, sRaise, fVar, fC, fBin, fUn, fTest, fTru, fNot, fIf, fCall, fCallL, fCallD, aNil, aCons, bind_ok, bind_err, bind_bad, then_ok, then_err, then_bad, sbind_nx, sbind_rt, sbind_bk, sbind_ct, sbind_err, sbind_bad, List.map_cons, List.map_nil, List.length_cons, List.length_nil, List.cons_append, List.nil_append, List.replicate_succ, List.replicate_zero, List.getElem?_cons_zero, List.getElem?_cons_succ, List.set_cons_zero, List.set_cons_succ, Nat.reduceSub, Nat.reduceAdd, if_pos, if_true, if_false, Bool.false_eq_true, ite_true, ite_false, reduceIte, Option.some.injEq, oGcd_ii, oMax_ii, oMin_ii, oInt_i, oLt_ii, oLe_ii, oGt_ii, oGe_ii, oAddU_ii, oSub_ii, oNeg_i, asB_b, tru_b, oNotV_b, oIx_t0, oIx_t1, oIx_t2, oIx_l0, datas_nil, datas_cons, oLen_l, oLen_t, oTuple_l, wipeS, tidy_same, cut_same, cut_app]; rw [oDiv_ii d1]; simp only [defS, sSeq, sSet, sUnp, gT, gsCons, gsNil, gN, sPar2, sPar3, sAug, sExpr, sRet, sRetN, sPass, sBrk, sCnt, sIf, sRaise, fVar, fC, fBin, fUn, fTest, fTru, fNot, fIf, fCall, fCallL, fCallD, aNil, aCons, bind_ok, bind_err, bind_bad, then_ok, then_err, then_bad, sbind_nx, sbind_rt, sbind_bk, sbind_ct, sbind_err, sbind_bad, List.map_cons, List.map_nil, List.length_cons, List.length_nil, List.cons_append, List.nil_append, List.replicate_succ, List.replicate_zero, List.getElem?_cons_zero, List.getElem?_cons_succ, List.set_cons_zero, List.set_cons_succ, Nat.reduceSub, Nat.reduceAdd, if_pos, if_true, if_false, Bool.false_eq_true, ite_true, ite_false, reduceIte, Option.some.injEq, oGcd_ii, oMax_ii, oMin_ii, oInt_i, oLt_ii, oLe_ii, oGt_ii, oGe_ii, oAddU_ii, oSub_ii, oNeg_i, asB_b, tru_b, oNotV_b, oIx_t0, oIx_t1, oIx_t2, oIx_l0, datas_nil, datas_cons, oLen_l, oLen_t, oTuple_l, wipeS, tidy_same, cut_same, cut_app]; rw [oDiv_ii d2]; simp only [defS, sSeq, sSet, sUnp, gT, gsCons, gsNil, gN, sPar2, sPar3, sAug, sExpr, sRet, sRetN, sPass, sBrk, sCnt, sIf, sRaise, fVar, fC, fBin, fUn, fTest, fTru, fNot, fIf, fCall, fCallL, fCallD, aNil, aCons, bind_ok, bind_err, bind_bad, then_ok, then_err, then_bad, sbind_nx, sbind_rt, sbind_bk, sbind_ct, sbind_err, sbind_bad, List.map_cons, List.map_nil, List.length_cons, List.length_nil, List.cons_append, List.nil_append, List.replicate_succ, List.replicate_zero, List.getElem?_cons_zero, List.getElem?_cons_succ, List.set_cons_zero, List.set_cons_succ, Nat.reduceSub, Nat.reduceAdd, if_pos, if_true, if_false, Bool.false_eq_true, ite_true, ite_false, reduceIte, Option.some.injEq, oGcd_ii, oMax_ii, oMin_ii, oInt_i, oLt_ii, oLe_ii, oGt_ii, oGe_ii, oAddU_ii, oSub_ii, oNeg_i, asB_b, tru_b, oNotV_b, oIx_t0, oIx_t1, oIx_t2, oIx_l0, datas_nil, datas_cons, oLen_l, oLen_t, oTuple_l, wipeS, tidy_same, cut_same, cut_app])]
    simp only [defS, sSeq, sSet, sUnp, gT, gsCons, gsNil, gN, sPar2, sPar3, sAug, sExpr, sRet, sRetN, sPass, sBrk, sCnt, sIf, sRaise, fVar, fC, fBin, fUn, fTest, fTru, fNot, fIf, fCall, fCallL, fCallD, aNil, aCons, bind_ok, bind_err, bind_bad, then_ok, then_err, then_bad, sbind_nx, sbind_rt, sbind_bk, sbind_ct, sbind_err, sbind_bad, List.map_cons, List.map_nil, List.length_cons, List.length_nil, List.cons_append, List.nil_append, List.replicate_succ, List.replicate_zero, List.getElem?_cons_zero, List.getElem?_cons_succ, List.set_cons_zero, List.set_cons_succ, Nat.reduceSub, Nat.reduceAdd, if_pos, if_true, if_false, Bool.false_eq_true, ite_true, ite_false, reduceIte, Option.some.injEq, oGcd_ii, oMax_ii, oMin_ii, oInt_i, oLt_ii, oLe_ii, oGt_ii, oGe_ii, oAddU_ii, oSub_ii, oNeg_i, asB_b, tru_b, oNotV_b, oIx_t0, oIx_t1, oIx_t2, oIx_l0, datas_nil, datas_cons, oLen_l, oLen_t, oTuple_l, wipeS, tidy_same, cut_same, cut_app]
    exact trim_d hm
  · rw [nrm_pos (by omega)]
    have d1 : okDiv t (((Int.gcd t l : Nat) : Int)) = true := okDiv_of (by omega) gb h9
    have d2 : okDiv l (((Int.gcd t l : Nat) : Int)) = true := okDiv_of (by omega) gb h9
    simp only [defS, sSeq, sSet, sUnp, gT, gsCons, gsNil, gN, sPar2, sPar3, sAug, sExpr, sRet, sRetN, sPass, sBrk, sCnt, sIf, sRaise, fVar, fC, fBin, fUn, fTest, fTru, fNot, fIf, fCall, fCallL, fCallD, aNil, aCons, bind_ok, bind_err, bind_bad, then_ok, then_err, then_bad, sbind_nx, sbind_rt, sbind_bk, sbind_ct, sbind_err, sbind_bad, List.map_cons, List.map_nil, List.length_cons, List.length_nil, List.cons_append, List.nil_append, List.replicate_succ, List.replicate_zero, List.getElem?_cons_zero, List.getElem?_cons_succ, List.set_cons_zero, List.set_cons_succ, Nat.reduceSub, Nat.reduceAdd, if_pos, if_true, if_false, Bool.false_eq_true, ite_true, ite_false, reduceIte, Option.some.injEq, oGcd_ii, oMax_ii, oMin_ii, oInt_i, oLt_ii, oLe_ii, oGt_ii, oGe_ii, oAddU_ii, oSub_ii, oNeg_i, asB_b, tru_b, oNotV_b, oIx_t0, oIx_t1, oIx_t2, oIx_l0, datas_nil, datas_cons, oLen_l, oLen_t, oTuple_l, wipeS, tidy_same, cut_same, cut_app]
    rw [decide_eq_false h]
    simp only [defS, sSeq, sSet, sUnp, gT, gsCons, gsNil, gN, sPar2, sPar3, sAug, sExpr, sRet, sRetN, sPass, sBrk, sCnt, sIf, sRaise, fVar, fC, fBin, fUn, fTest, fTru, fNot, fIf, fCall, fCallL, fCallD, aNil, aCons, bind_ok, bind_err, bind_bad, then_ok, then_err, then_bad, sbind_nx, sbind_rt, sbind_bk, sbind_ct, sbind_err, sbind_bad, List.map_cons, List.map_nil, List.length_cons, List.length_nil, List.cons_append, List.nil_append, List.replicate_succ, List.replicate_zero, List.getElem?_cons_zero, List.getElem?_cons_succ, List.set_cons_zero, List.set_cons_succ, Nat.reduceSub, Nat.reduceAdd, if_pos, if_true, if_false, Bool.false_eq_true, ite_true, ite_false, reduceIte, Option.some.injEq, oGcd_ii, oMax_ii, oMin_ii, oInt_i, oLt_ii, oLe_ii, oGt_ii, oGe_ii, oAddU_ii, oSub_ii, oNeg_i, asB_b, tru_b, oNotV_b, oIx_t0, oIx_t1, oIx_t2, oIx_l0, datas_nil, datas_cons, oLen_l, oLen_t, oTuple_l, wipeS, tidy_same, cut_same, cut_app]
    rw [fTup_2 (m1 := m) (a := .int (t.fdiv (((Int.gcd t l : Nat) : Int)))) (b := .int (l.fdiv (((Int.gcd t l : Nat) : Int)))) (by simp only [defS, sSeq, sSet, sUnp, gT, gsCons, gsNil, gN, sPar2, sPar3, sAug, sExpr, sRet, sRetN, sPass, sBrk, sCnt, sIf, sRaise, fVar, fC, fBin, fUn, fTest, fTru, fNot, fIf, fCall, fCallL, fCallD, aNil, aCons, bind_ok, bind_err, bind_bad, then_ok, then_err, then_bad, sbind_nx, sbind_rt, sbind_bk, sbind_ct, sbind_err, sbind_bad, List.map_cons, List.map_nil, List.length_cons, List.length_nil, List.cons_append, List.nil_append, List.replicate_succ, List.replicate_zero, List.getElem?_cons_zero, List.getElem?_cons_succ, List.set_cons_zero, List.set_cons_succ, Nat.reduceSub, Nat.reduceAdd, if_pos, if_true, if_false, Bool.false_eq_true, ite_true, ite_false, reduceIte, Option.some.injEq, oGcd_ii, oMax_ii, oMin_ii, oInt_i, oLt_ii, oLe_ii, oGt_ii, oGe_ii, oAddU_ii, oSub_ii, oNeg_i, asB_b, tru_b, oNotV_b, oIx_t0, oIx_t1, oIx_t2, oIx_l0, datas_nil, datas_cons, oLen_l, oLen_t, oTuple_l, wipeS, tidy_same, cut_same, cut_app]; rw [oDiv_ii d1]; simp only [defS, sSeq, sSet, sUnp, gT, gsCons, gsNil, gN, sPar2, sPar3, sAug, sExpr, sRet, sRetN, sPass, sBrk, sCnt, sIf, sRaise, fVar, fC, fBin, fUn, fTest, fTru, fNot, fIf, fCall, fCallL, fCallD, aNil, aCons, bind_ok, bind_err, bind_bad, then_ok, then_err, then_bad, sbind_nx, sbind_rt, sbind_bk, sbind_ct, sbind_err, sbind_bad, List.map_cons, List.map_nil, List.length_cons, List.length_nil, List.cons_append, List.nil_append, List.replicate_succ, List.replicate_zero, List.getElem?_cons_zero, List.getElem?_cons_succ, List.set_cons_zero, List.set_cons_succ, Nat.reduceSub, Nat.reduceAdd, if_pos, if_true, if_false, Bool.false_eq_true, ite_true, ite_false, reduceIte, Option.some.injEq, oGcd_ii, oMax_ii, oMin_ii, oInt_i, oLt_ii, oLe_ii, oGt_ii, oGe_ii, oAddU_ii, oSub_ii, oNeg_i, asB_b, tru_b, oNotV_b, oIx_t0, oIx_t1, oIx_t2, oIx_l0, datas_nil, datas_cons, oLen_l, oLen_t, oTuple_l, wipeS, tidy_same, cut_same, cut_app]; rw [oDiv_ii d2]; simp only [defS, sSeq, sSet, sUnp, gT, gsCons, gsNil, gN, sPar2, sPar3, sAug, sExpr, sRet, sRetN, sPass, sBrk, sCnt, sIf, sRaise, fVar, fC, fBin, fUn, fTest, fTru, fNot, fIf, fCall, fCallL, fCallD, aNil, aCons, bind_ok, bind_err, bind_bad, then_ok, then_err, then_bad, sbind_nx, sbind_rt, sbind_bk, sbind_ct, sbind_err, sbind_bad, List.map_cons, List.map_nil, List.length_cons, List.length_nil, List.cons_append, List.nil_append, List.replicate_succ, List.replicate_zero, List.getElem?_cons_zero, List.getElem?_cons_succ, List.set_cons_zero, List.set_cons_succ, Nat.reduceSub, Nat.reduceAdd, if_pos, if_true, if_false, Bool.false_eq_true, ite_true, ite_false, reduceIte, Option.some.injEq, oGcd_ii, oMax_ii, oMin_ii, oInt_i, oLt_ii, oLe_ii, oGt_ii, oGe_ii, oAddU_ii, oSub_ii, oNeg_i, asB_b, tru_b, oNotV_b, oIx_t0, oIx_t1, oIx_t2, oIx_l0, datas_nil, datas_cons, oLen_l, oLen_t, oTuple_l, wipeS, tidy_same, cut_same, cut_app])]
    simp only [defS, sSeq, sSet, sUnp, gT, gsCons, gsNil, gN, sPar2, sPar3, sAug, sExpr, sRet, sRetN, sPass, sBrk, sCnt, sIf, sRaise, fVar, fC, fBin, fUn, fTest, fTru, fNot, fIf, fCall, fCallL, fCallD, aNil, aCons, bind_ok, bind_err, bind_bad, then_ok, then_err, then_bad, sbind_nx, sbind_rt, sbind_bk, sbind_ct, sbind_err, sbind_bad, List.map_cons, List.map_nil, List.length_cons, List.length_nil, List.cons_append, List.nil_append, List.replicate_succ, List.replicate_zero, List.getElem?_cons_zero, List.getElem?_cons_succ, List.set_cons_zero, List.set_cons_succ, Nat.reduceSub, Nat.reduceAdd, if_pos, if_true, if_false, Bool.false_eq_true, ite_true, ite_false, reduceIte, Option.some.injEq, oGcd_ii, oMax_ii, oMin_ii, oInt_i, oLt_ii, oLe_ii, oGt_ii, oGe_ii, oAddU_ii, oSub_ii, oNeg_i, asB_b, tru_b, oNotV_b, oIx_t0, oIx_t1, oIx_t2, oIx_l0, datas_nil, datas_cons, oLen_l, oLen_t, oTuple_l, wipeS, tidy_same, cut_same, cut_app]
    exact trim_d hm
theorem low_ok {t l : Int} {m : MM} {b : Nat} (hm : okM m) (hl : l ≠ 0) (hb : l.natAbs < 2 ^ b) (h9 : b < 8999) : m__law_low [.d (.int t), .d (.int l)] m = .ok (.d (eQ ((t : Rat) / (l : Rat)))) m := by
  have g0 := gcd_ne (t := t) (l := l) hl
  have gb : ((Int.gcd t l : Nat) : Int).natAbs < 2 ^ b := by
    have := Nat.le_of_dvd (by omega : 0 < l.natAbs) (Int.gcd_dvd_natAbs_right t l)
    omega
  have w : ∃ ρ' m', whileS [] (fTest (fBin oGt (fVar 3) (fC (.int 0)))) (sPar2 2 3 (aCons (fVar 3) (aCons (fBin oMod (fVar 2) (fVar 3)) aNil))) turns [some (.d (.int t)), some (.d (.int l)), some (.d (.int (max t (0 - t)))), some (.d (.int (max l (0 - l))))] m = .nx ρ' m' ∧
      (ρ' = [some (.d (.int t)), some (.d (.int l)), some (.d (.int (Int.gcd t l : Nat))), some (.d (.int 0))] ∧ m' = m) := by
    have h := while_inv (cl := []) (t := fTest (fBin oGt (fVar 3) (fC (.int 0)))) (body := sPar2 2 3 (aCons (fVar 3) (aCons (fBin oMod (fVar 2) (fVar 3)) aNil)))
      (P := fun n ρ m' => m' = m ∧ ∃ x y : Int, ρ = [some (.d (.int t)), some (.d (.int l)), some (.d (.int x)), some (.d (.int y))] ∧ 0 ≤ x ∧ 0 ≤ y ∧ Int.gcd x y = Int.gcd t l ∧ EuP n x y)
      (fun n ρ m' ⟨em, x, y, e, hx, hy, hg, hp⟩ => by
        subst em
        subst e
        by_cases hy0 : 0 < y
        · refine .inr ⟨m', by simp only [defS, sSeq, sSet, sUnp, gT, gsCons, gsNil, gN, sPar2, sPar3, sAug, sExpr, sRet, sRetN, sPass, sBrk, sCnt, sIf, sRaise, fVar, fC, fBin, fUn, fTest, fTru, fNot, fIf, fCall, fCallL, fCallD, aNil, aCons, bind_ok, bind_err, bind_bad, then_ok, then_err, then_bad, sbind_nx, sbind_rt, sbind_bk, sbind_ct, sbind_err, sbind_bad, List.map_cons, List.map_nil, List.length_cons, List.length_nil, List.cons_append, List.nil_append, List.replicate_succ, List.replicate_zero, List.getElem?_cons_zero, List.getElem?_cons_succ, List.set_cons_zero, List.set_cons_succ, Nat.reduceSub, Nat.reduceAdd, if_pos, if_true, if_false, Bool.false_eq_true, ite_true, ite_false, reduceIte, Option.some.injEq, oGcd_ii, oMax_ii, oMin_ii, oInt_i, oLt_ii, oLe_ii, oGt_ii, oGe_ii, oAddU_ii, oSub_ii, oNeg_i, asB_b, tru_b, oNotV_b, oIx_t0, oIx_t1, oIx_t2, oIx_l0, datas_nil, datas_cons, oLen_l, oLen_t, oTuple_l, wipeS, tidy_same, cut_same, cut_app]; rw [decide_eq_true hy0], [some (.d (.int t)), some (.d (.int l)), some (.d (.int y)), some (.d (.int (x % y)))], m', .inl ?_, tidy_same, y, x % y, rfl, by omega, Int.emod_nonneg x (by omega), ?_, euP_step hx hy0 hp⟩
          · simp only [defS, sSeq, sSet, sUnp, gT, gsCons, gsNil, gN, sPar2, sPar3, sAug, sExpr, sRet, sRetN, sPass, sBrk, sCnt, sIf, sRaise, fVar, fC, fBin, fUn, fTest, fTru, fNot, fIf, fCall, fCallL, fCallD, aNil, aCons, bind_ok, bind_err, bind_bad, then_ok, then_err, then_bad, sbind_nx, sbind_rt, sbind_bk, sbind_ct, sbind_err, sbind_bad, List.map_cons, List.map_nil, List.length_cons, List.length_nil, List.cons_append, List.nil_append, List.replicate_succ, List.replicate_zero, List.getElem?_cons_zero, List.getElem?_cons_succ, List.set_cons_zero, List.set_cons_succ, Nat.reduceSub, Nat.reduceAdd, if_pos, if_true, if_false, Bool.false_eq_true, ite_true, ite_false, reduceIte, Option.some.injEq, oGcd_ii, oMax_ii, oMin_ii, oInt_i, oLt_ii, oLe_ii, oGt_ii, oGe_ii, oAddU_ii, oSub_ii, oNeg_i, asB_b, tru_b, oNotV_b, oIx_t0, oIx_t1, oIx_t2, oIx_l0, datas_nil, datas_cons, oLen_l, oLen_t, oTuple_l, wipeS, tidy_same, cut_same, cut_app]
            rw [oMod_ii (by omega)]
            simp only [defS, sSeq, sSet, sUnp, gT, gsCons, gsNil, gN, sPar2, sPar3, sAug, sExpr, sRet, sRetN, sPass, sBrk, sCnt, sIf, sRaise, fVar, fC, fBin, fUn, fTest, fTru, fNot, fIf, fCall, fCallL, fCallD, aNil, aCons, bind_ok, bind_err, bind_bad, then_ok, then_err, then_bad, sbind_nx, sbind_rt, sbind_bk, sbind_ct, sbind_err, sbind_bad, List.map_cons, List.map_nil, List.length_cons, List.length_nil, List.cons_append, List.nil_append, List.replicate_succ, List.replicate_zero, List.getElem?_cons_zero, List.getElem?_cons_succ, List.set_cons_zero, List.set_cons_succ, Nat.reduceSub, Nat.reduceAdd, if_pos, if_true, if_false, Bool.false_eq_true, ite_true, ite_false, reduceIte, Option.some.injEq, oGcd_ii, oMax_ii, oMin_ii, oInt_i, oLt_ii, oLe_ii, oGt_ii, oGe_ii, oAddU_ii, oSub_ii, oNeg_i, asB_b, tru_b, oNotV_b, oIx_t0, oIx_t1, oIx_t2, oIx_l0, datas_nil, datas_cons, oLen_l, oLen_t, oTuple_l, wipeS, tidy_same, cut_same, cut_app]
            rw [Int.fmod_eq_emod_of_nonneg _ (by omega)]
          · rw [gcd_step hx hy0, hg]
        · have e : y = 0 := by omega
          subst e
          exact .inl ⟨m', by simp only [defS, sSeq, sSet, sUnp, gT, gsCons, gsNil, gN, sPar2, sPar3, sAug, sExpr, sRet, sRetN, sPass, sBrk, sCnt, sIf, sRaise, fVar, fC, fBin, fUn, fTest, fTru, fNot, fIf, fCall, fCallL, fCallD, aNil, aCons, bind_ok, bind_err, bind_bad, then_ok, then_err, then_bad, sbind_nx, sbind_rt, sbind_bk, sbind_ct, sbind_err, sbind_bad, List.map_cons, List.map_nil, List.length_cons, List.length_nil, List.cons_append, List.nil_append, List.replicate_succ, List.replicate_zero, List.getElem?_cons_zero, List.getElem?_cons_succ, List.set_cons_zero, List.set_cons_succ, Nat.reduceSub, Nat.reduceAdd, if_pos, if_true, if_false, Bool.false_eq_true, ite_true, ite_false, reduceIte, Option.some.injEq, oGcd_ii, oMax_ii, oMin_ii, oInt_i, oLt_ii, oLe_ii, oGt_ii, oGe_ii, oAddU_ii, oSub_ii, oNeg_i, asB_b, tru_b, oNotV_b, oIx_t0, oIx_t1, oIx_t2, oIx_l0, datas_nil, datas_cons, oLen_l, oLen_t, oTuple_l, wipeS, tidy_same, cut_same, cut_app]; rw [decide_eq_false hy0], rfl, x, 0, rfl, hx, hy, hg, .inl ⟨0, rfl, by decide⟩⟩)
      (fun ρ m' ⟨em, x, y, e, hx, hy, hg, hp⟩ => by
        subst em
        subst e
        have := euP_zero hp
        have e : y = 0 := by omega
        subst e
        exact ⟨m', by simp only [defS, sSeq, sSet, sUnp, gT, gsCons, gsNil, gN, sPar2, sPar3, sAug, sExpr, sRet, sRetN, sPass, sBrk, sCnt, sIf, sRaise, fVar, fC, fBin, fUn, fTest, fTru, fNot, fIf, fCall, fCallL, fCallD, aNil, aCons, bind_ok, bind_err, bind_bad, then_ok, then_err, then_bad, sbind_nx, sbind_rt, sbind_bk, sbind_ct, sbind_err, sbind_bad, List.map_cons, List.map_nil, List.length_cons, List.length_nil, List.cons_append, List.nil_append, List.replicate_succ, List.replicate_zero, List.getElem?_cons_zero, List.getElem?_cons_succ, List.set_cons_zero, List.set_cons_succ, Nat.reduceSub, Nat.reduceAdd, if_pos, if_true, if_false, Bool.false_eq_true, ite_true, ite_false, reduceIte, Option.some.injEq, oGcd_ii, oMax_ii, oMin_ii, oInt_i, oLt_ii, oLe_ii, oGt_ii, oGe_ii, oAddU_ii, oSub_ii, oNeg_i, asB_b, tru_b, oNotV_b, oIx_t0, oIx_t1, oIx_t2, oIx_l0, datas_nil, datas_cons, oLen_l, oLen_t, oTuple_l, wipeS, tidy_same, cut_same, cut_app]; rw [decide_eq_false (by omega)], rfl, x, 0, rfl, hx, hy, hg, hp⟩)
      (2 * b) turns [some (.d (.int t)), some (.d (.int l)), some (.d (.int (max t (0 - t)))), some (.d (.int (max l (0 - l))))] m (by have := turns_le; omega)
      ⟨rfl, max t (0 - t), max l (0 - l), rfl, by omega, by omega, by
        have e1 : max t (0 - t) = (t.natAbs : Int) := by omega
        have e2 : max l (0 - l) = (l.natAbs : Int) := by omega
        rw [e1, e2]
        rfl, .inl ⟨b, rfl, by
        have e2 : max l (0 - l) = (l.natAbs : Int) := by omega
        rw [e2]
        exact_mod_cast hb⟩⟩
    obtain ⟨ρ', m', e, em, x, y, e2, hx, hy, hg, hp⟩ := h
    have y0 := euP_zero hp
    have ey : y = 0 := by omega
    subst ey
    refine ⟨ρ', m', e, ?_, em⟩
    rw [e2, ← hg]
    have : ((Int.gcd x 0 : Nat) : Int) = x := by
      rw [Int.gcd_zero_right]
      omega
    rw [this]
  obtain ⟨ρ', m', e, rfl, rfl⟩ := w
  unfold m__law_low s__law_low
  by_cases h : l < 0
  · rw [nrm_neg h]
    have d1 : okDiv t (0 - ((Int.gcd t l : Nat) : Int)) = true := okDiv_of (by omega) (by rw [Int.zero_sub, Int.natAbs_neg]; exact gb) h9
    have d2 : okDiv l (0 - ((Int.gcd t l : Nat) : Int)) = true := okDiv_of (by omega) (by rw [Int.zero_sub, Int.natAbs_neg]; exact gb) h9
    simp only [defS, sSeq, sSet, sUnp, gT, gsCons, gsNil, gN, sPar2, sPar3, sAug, sExpr, sRet, sRetN, sPass, sBrk, sCnt, sIf, sRaise, fVar, fC, fBin, fUn, fTest, fTru, fNot, fIf, fCall, fCallL, fCallD, aNil, aCons, bind_ok, bind_err, bind_bad, then_ok, then_err, then_bad, sbind_nx, sbind_rt, sbind_bk, sbind_ct, sbind_err, sbind_bad, List.map_cons, List.map_nil, List.length_cons, List.length_nil, List.cons_append, List.nil_append, List.replicate_succ, List.replicate_zero, List.getElem?_cons_zero, List.getElem?_cons_succ, List.set_cons_zero, List.set_cons_succ, Nat.reduceSub, Nat.reduceAdd, if_pos, if_true, if_false, Bool.false_eq_true, ite_true, ite_false, reduceIte, Option.some.injEq, oGcd_ii, oMax_ii, oMin_ii, oInt_i, oLt_ii, oLe_ii, oGt_ii, oGe_ii, oAddU_ii, oSub_ii, oNeg_i, asB_b, tru_b, oNotV_b, oIx_t0, oIx_t1, oIx_t2, oIx_l0, datas_nil, datas_cons, oLen_l, oLen_t, oTuple_l, wipeS, tidy_same, cut_same, cut_app]
    unfold sWhile
    rw [e]
    simp only [defS, sSeq, sSet, sUnp, gT, gsCons, gsNil, gN, sPar2, sPar3, sAug, sExpr, sRet, sRetN, sPass, sBrk, sCnt, sIf, sRaise, fVar, fC, fBin, fUn, fTest, fTru, fNot, fIf, fCall, fCallL, fCallD, aNil, aCons, bind_ok, bind_err, bind_bad, then_ok, then_err, then_bad, sbind_nx, sbind_rt, sbind_bk, sbind_ct, sbind_err, sbind_bad, List.map_cons, List.map_nil, List.length_cons, List.length_nil, List.cons_append, List.nil_append, List.replicate_succ, List.replicate_zero, List.getElem?_cons_zero, List.getElem?_cons_succ, List.set_cons_zero, List.set_cons_succ, Nat.reduceSub, Nat.reduceAdd, if_pos, if_true, if_false, Bool.false_eq_true, ite_true, ite_false, reduceIte, Option.some.injEq, oGcd_ii, oMax_ii, oMin_ii, oInt_i, oLt_ii, oLe_ii, oGt_ii, oGe_ii, oAddU_ii, oSub_ii, oNeg_i, asB_b, tru_b, oNotV_b, oIx_t0, oIx_t1, oIx_t2, oIx_l0, datas_nil, datas_cons, oLen_l, oLen_t, oTuple_l, wipeS, tidy_same, cut_same, cut_app]
    rw [decide_eq_false (by omega : ¬ 0 < l)]
    simp only [defS, sSeq, sSet, sUnp, gT, gsCons, gsNil, gN, sPar2, sPar3, sAug, sExpr, sRet, sRetN, sPass, sBrk, sCnt, sIf, sRaise, fVar, fC, fBin, fUn, fTest, fTru, fNot, fIf, fCall, fCallL, fCallD, aNil, aCons, bind_ok, bind_err, bind_bad, then_ok, then_err, then_bad, sbind_nx, sbind_rt, sbind_bk, sbind_ct, sbind_err, sbind_bad, List.map_cons, List.map_nil, List.length_cons, List.length_nil, List.cons_append, List.nil_append, List.replicate_succ, List.replicate_zero, List.getElem?_cons_zero, List.getElem?_cons_succ, List.set_cons_zero, List.set_cons_succ, Nat.reduceSub, Nat.reduceAdd, if_pos, if_true, if_false, Bool.false_eq_true, ite_true, ite_false, reduceIte, Option.some.injEq, oGcd_ii, oMax_ii, oMin_ii, oInt_i, oLt_ii, oLe_ii, oGt_ii, oGe_ii, oAddU_ii, oSub_ii, oNeg_i, asB_b, tru_b, oNotV_b, oIx_t0, oIx_t1, oIx_t2, oIx_l0, datas_nil, datas_cons, oLen_l, oLen_t, oTuple_l, wipeS, tidy_same, cut_same, cut_app]
    rw [fTup_2 (m1 := m') (a := .int (t.fdiv (-((Int.gcd t l : Nat) : Int)))) (b := .int (l.fdiv (-((Int.gcd t l : Nat) : Int)))) (by simp only [defS, sSeq, sSet, sUnp, gT, gsCons, gsNil, gN, sPar2, sPar3, sAug, sExpr, sRet, sRetN, sPass, sBrk, sCnt, sIf, sRaise, fVar, fC, fBin, fUn, fTest, fTru, fNot, fIf, fCall, fCallL, fCallD, aNil, aCons, bind_ok, bind_err, bind_bad, then_ok, then_err, then_bad, sbind_nx, sbind_rt, sbind_bk, sbind_ct, sbind_err, sbind_bad, List.map_cons, List.map_nil, List.length_cons, List.length_nil, List.cons_append, List.nil_append, List.replicate_succ, List.replicate_zero, List.getElem?_cons_zero, List.getElem?_cons_succ, List.set_cons_zero, List.set_cons_succ, Nat.reduceSub, Nat.reduceAdd, if_pos, if_true, if_false, Bool.false_eq_true, ite_true, ite_false, reduceIte, Option.some.injEq, oGcd_ii, oMax_ii, oMin_ii, oInt_i, oLt_ii, oLe_ii, oGt_ii, oGe_ii, oAddU_ii, oSub_ii, oNeg_i, asB_b, tru_b, oNotV_b, oIx_t0, oIx_t1, oIx_t2, oIx_l0, datas_nil, datas_cons, oLen_l, oLen_t, oTuple_l, wipeS, tidy_same, cut_same, cut_app]; rw [oDiv_ii d1]; simp only [defS, sSeq, sSet, sUnp, gT, gsCons, gsNil, gN, sPar2, sPar3, sAug, sExpr, sRet, sRetN, sPass, sBrk, sCnt, sIf, sRaise, fVar, fC, fBin, fUn, fTest, fTru, fNot, fIf, fCall, fCallL, fCallD, aNil, aCons, bind_ok, bind_err, bind_bad, then_ok, then_err, then_bad, sbind_nx, sbind_rt, sbind_bk, sbind_ct, sbind_err, sbind_bad, List.map_cons, List.map_nil, List.length_cons, List.length_nil, List.cons_append, List.nil_append, List.replicate_succ, List.replicate_zero, List.getElem?_cons_zero, List.getElem?_cons_succ, List.set_cons_zero, List.set_cons_succ, Nat.reduceSub, Nat.reduceAdd, if_pos, if_true, if_false, Bool.false_eq_true, ite_true, ite_false, reduceIte, Option.some.injEq, oGcd_ii, oMax_ii, oMin_ii, oInt_i, oLt_ii, oLe_ii, oGt_ii, oGe_ii, oAddU_ii, oSub_ii, oNeg_i, asB_b, tru_b, oNotV_b, oIx_t0, oIx_t1, oIx_t2, oIx_l0, datas_nil, datas_cons, oLen_l, oLen_t, oTuple_l, wipeS, tidy_same, cut_same, cut_app]; rw [oDiv_ii d2]; simp only [defS, sSeq, sSet, sUnp, gT, gsCons, gsNil, gN, sPar2, sPar3, sAug, sExpr, sRet, sRetN, sPass, sBrk, sCnt, sIf, sRaise, fVar, fC, fBin, fUn, fTest, fTru, fNot, fIf, fCall, fCallL, fCallD, aNil, aCons, bind_ok, bind_err, bind_bad, then_ok, then_err, then_bad, sbind_nx, sbind_rt, sbind_bk, sbind_ct, sbind_err, sbind_bad, List.map_cons, List.map_nil, List.length_cons, List.length_nil, List.cons_append, List.nil_append, List.replicate_succ, List.replicate_zero, List.getElem?_cons_zero, List.getElem?_cons_succ, List.set_cons_zero, List.set_cons_succ, Nat.reduceSub, Nat.reduceAdd, if_pos, if_true, if_false, Bool.false_eq_true, ite_true, ite_false, reduceIte, Option.some.injEq, oGcd_ii, oMax_ii, oMin_ii, oInt_i, oLt_ii, oLe_ii, oGt_ii, oGe_ii, oAddU_ii, oSub_ii, oNeg_i, asB_b, tru_b, oNotV_b, oIx_t0, oIx_t1, oIx_t2, oIx_l0, datas_nil, datas_cons, oLen_l, oLen_t, oTuple_l, wipeS, tidy_same, cut_same, cut_app]; rw [Int.zero_sub])]
    simp only [defS, sSeq, sSet, sUnp, gT, gsCons, gsNil, gN, sPar2, sPar3, sAug, sExpr, sRet, sRetN, sPass, sBrk, sCnt, sIf, sRaise, fVar, fC, fBin, fUn, fTest, fTru, fNot, fIf, fCall, fCallL, fCallD, aNil, aCons, bind_ok, bind_err, bind_bad, then_ok, then_err, then_bad, sbind_nx, sbind_rt, sbind_bk, sbind_ct, sbind_err, sbind_bad, List.map_cons, List.map_nil, List.length_cons, List.length_nil, List.cons_append, List.nil_append, List.replicate_succ, List.replicate_zero, List.getElem?_cons_zero, List.getElem?_cons_succ, List.set_cons_zero, List.set_cons_succ, Nat.reduceSub, Nat.reduceAdd, if_pos, if_true, if_false, Bool.false_eq_true, ite_true, ite_false, reduceIte, Option.some.injEq, oGcd_ii, oMax_ii, oMin_ii, oInt_i, oLt_ii, oLe_ii, oGt_ii, oGe_ii, oAddU_ii, oSub_ii, oNeg_i, asB_b, tru_b, oNotV_b, oIx_t0, oIx_t1, oIx_t2, oIx_l0, datas_nil, datas_cons, oLen_l, oLen_t, oTuple_l, wipeS, tidy_same, cut_same, cut_app]
    exact trim_d hm
  · rw [nrm_pos (by omega)]
    have d1 : okDiv t (((Int.gcd t l : Nat) : Int)) = true := okDiv_of (by omega) gb h9
    have d2 : okDiv l (((Int.gcd t l : Nat) : Int)) = true := okDiv_of (by omega) gb h9
    simp only [defS, sSeq, sSet, sUnp, gT, gsCons, gsNil, gN, sPar2, sPar3, sAug, sExpr, sRet, sRetN, sPass, sBrk, sCnt, sIf, sRaise, fVar, fC, fBin, fUn, fTest, fTru, fNot, fIf, fCall, fCallL, fCallD, aNil, aCons, bind_ok, bind_err, bind_bad, then_ok, then_err, then_bad, sbind_nx, sbind_rt, sbind_bk, sbind_ct, sbind_err, sbind_bad, List.map_cons, List.map_nil, List.length_cons, List.length_nil, List.cons_append, List.nil_append, List.replicate_succ, List.replicate_zero, List.getElem?_cons_zero, List.getElem?_cons_succ, List.set_cons_zero, List.set_cons_succ, Nat.reduceSub, Nat.reduceAdd, if_pos, if_true, if_false, Bool.false_eq_true, ite_true, ite_false, reduceIte, Option.some.injEq, oGcd_ii, oMax_ii, oMin_ii, oInt_i, oLt_ii, oLe_ii, oGt_ii, oGe_ii, oAddU_ii, oSub_ii, oNeg_i, asB_b, tru_b, oNotV_b, oIx_t0, oIx_t1, oIx_t2, oIx_l0, datas_nil, datas_cons, oLen_l, oLen_t, oTuple_l, wipeS, tidy_same, cut_same, cut_app]
    unfold sWhile
    rw [e]
    simp only [defS, sSeq, sSet, sUnp, gT, gsCons, gsNil, gN, sPar2, sPar3, sAug, sExpr, sRet, sRetN, sPass, sBrk, sCnt, sIf, sRaise, fVar, fC, fBin, fUn, fTest, fTru, fNot, fIf, fCall, fCallL, fCallD, aNil, aCons, bind_ok, bind_err, bind_bad, then_ok, then_err, then_bad, sbind_nx, sbind_rt, sbind_bk, sbind_ct, sbind_err, sbind_bad, List.map_cons, List.map_nil, List.length_cons, List.length_nil, List.cons_append, List.nil_append, List.replicate_succ, List.replicate_zero, List.getElem?_cons_zero, List.getElem?_cons_succ, List.set_cons_zero, List.set_cons_succ, Nat.reduceSub, Nat.reduceAdd, if_pos, if_true, if_false, Bool.false_eq_true, ite_true, ite_false, reduceIte, Option.some.injEq, oGcd_ii, oMax_ii, oMin_ii, oInt_i, oLt_ii, oLe_ii, oGt_ii, oGe_ii, oAddU_ii, oSub_ii, oNeg_i, asB_b, tru_b, oNotV_b, oIx_t0, oIx_t1, oIx_t2, oIx_l0, datas_nil, datas_cons, oLen_l, oLen_t, oTuple_l, wipeS, tidy_same, cut_same, cut_app]
    rw [decide_eq_true (by omega : 0 < l)]
    simp only [defS, sSeq, sSet, sUnp, gT, gsCons, gsNil, gN, sPar2, sPar3, sAug, sExpr, sRet, sRetN, sPass, sBrk, sCnt, sIf, sRaise, fVar, fC, fBin, fUn, fTest, fTru, fNot, fIf, fCall, fCallL, fCallD, aNil, aCons, bind_ok, bind_err, bind_bad, then_ok, then_err, then_bad, sbind_nx, sbind_rt, sbind_bk, sbind_ct, sbind_err, sbind_bad, List.map_cons, List.map_nil, List.length_cons, List.length_nil, List.cons_append, List.nil_append, List.replicate_succ, List.replicate_zero, List.getElem?_cons_zero, List.getElem?_cons_succ, List.set_cons_zero, List.set_cons_succ, Nat.reduceSub, Nat.reduceAdd, if_pos, if_true, if_false, Bool.false_eq_true, ite_true, ite_false, reduceIte, Option.some.injEq, oGcd_ii, oMax_ii, oMin_ii, oInt_i, oLt_ii, oLe_ii, oGt_ii, oGe_ii, oAddU_ii, oSub_ii, oNeg_i, asB_b, tru_b, oNotV_b, oIx_t0, oIx_t1, oIx_t2, oIx_l0, datas_nil, datas_cons, oLen_l, oLen_t, oTuple_l, wipeS, tidy_same, cut_same, cut_app]
    rw [fTup_2 (m1 := m') (a := .int (t.fdiv (((Int.gcd t l : Nat) : Int)))) (b := .int (l.fdiv (((Int.gcd t l : Nat) : Int)))) (by simp only [defS, sSeq, sSet, sUnp, gT, gsCons, gsNil, gN, sPar2, sPar3, sAug, sExpr, sRet, sRetN, sPass, sBrk, sCnt, sIf, sRaise, fVar, fC, fBin, fUn, fTest, fTru, fNot, fIf, fCall, fCallL, fCallD, aNil, aCons, bind_ok, bind_err, bind_bad, then_ok, then_err, then_bad, sbind_nx, sbind_rt, sbind_bk, sbind_ct, sbind_err, sbind_bad, List.map_cons, List.map_nil, List.length_cons, List.length_nil, List.cons_append, List.nil_append, List.replicate_succ, List.replicate_zero, List.getElem?_cons_zero, List.getElem?_cons_succ, List.set_cons_zero, List.set_cons_succ, Nat.reduceSub, Nat.reduceAdd, if_pos, if_true, if_false, Bool.false_eq_true, ite_true, ite_false, reduceIte, Option.some.injEq, oGcd_ii, oMax_ii, oMin_ii, oInt_i, oLt_ii, oLe_ii, oGt_ii, oGe_ii, oAddU_ii, oSub_ii, oNeg_i, asB_b, tru_b, oNotV_b, oIx_t0, oIx_t1, oIx_t2, oIx_l0, datas_nil, datas_cons, oLen_l, oLen_t, oTuple_l, wipeS, tidy_same, cut_same, cut_app]; rw [oDiv_ii d1]; simp only [defS, sSeq, sSet, sUnp, gT, gsCons, gsNil, gN, sPar2, sPar3, sAug, sExpr, sRet, sRetN, sPass, sBrk, sCnt, sIf, sRaise, fVar, fC, fBin, fUn, fTest, fTru, fNot, fIf, fCall, fCallL, fCallD, aNil, aCons, bind_ok, bind_err, bind_bad, then_ok, then_err, then_bad, sbind_nx, sbind_rt, sbind_bk, sbind_ct, sbind_err, sbind_bad, List.map_cons, List.map_nil, List.length_cons, List.length_nil, List.cons_append, List.nil_append, List.replicate_succ, List.replicate_zero, List.getElem?_cons_zero, List.getElem?_cons_succ, List.set_cons_zero, List.set_cons_succ, Nat.reduceSub, Nat.reduceAdd, if_pos, if_true, if_false, Bool.false_eq_true, ite_true, ite_false, reduceIte, Option.some.injEq, oGcd_ii, oMax_ii, oMin_ii, oInt_i, oLt_ii, oLe_ii, oGt_ii, oGe_ii, oAddU_ii, oSub_ii, oNeg_i, asB_b, tru_b, oNotV_b, oIx_t0, oIx_t1, oIx_t2, oIx_l0, datas_nil, datas_cons, oLen_l, oLen_t, oTuple_l, wipeS, tidy_same, cut_same, cut_app]; rw [oDiv_ii d2]; simp only [defS, sSeq, sSet, sUnp, gT, gsCons, gsNil, gN, sPar2, sPar3, sAug, sExpr, sRet, sRetN, sPass, sBrk, sCnt, sIf, sRaise, fVar, fC, fBin, fUn, fTest, fTru, fNot, fIf, fCall, fCallL, fCallD, aNil, aCons, bind_ok, bind_err, bind_bad, then_ok, then_err, then_bad, sbind_nx, sbind_rt, sbind_bk, sbind_ct, sbind_err, sbind_bad, List.map_cons, List.map_nil, List.length_cons, List.length_nil, List.cons_append, List.nil_append, List.replicate_succ, List.replicate_zero, List.getElem?_cons_zero, List.getElem?_cons_succ, List.set_cons_zero, List.set_cons_succ, Nat.reduceSub, Nat.reduceAdd, if_pos, if_true, if_false, Bool.false_eq_true, ite_true, ite_false, reduceIte, Option.some.injEq, oGcd_ii, oMax_ii, oMin_ii, oInt_i, oLt_ii, oLe_ii, oGt_ii, oGe_ii, oAddU_ii, oSub_ii, oNeg_i, asB_b, tru_b, oNotV_b, oIx_t0, oIx_t1, oIx_t2, oIx_l0, datas_nil, datas_cons, oLen_l, oLen_t, oTuple_l, wipeS, tidy_same, cut_same, cut_app])]
    simp only [defS, sSeq, sSet, sUnp, gT, gsCons, gsNil, gN, sPar2, sPar3, sAug, sExpr, sRet, sRetN, sPass, sBrk, sCnt, sIf, sRaise, fVar, fC, fBin, fUn, fTest, fTru, fNot, fIf, fCall, fCallL, fCallD, aNil, aCons, bind_ok, bind_err, bind_bad, then_ok, then_err, then_bad, sbind_nx, sbind_rt, sbind_bk, sbind_ct, sbind_err, sbind_bad, List.map_cons, List.map_nil, List.length_cons, List.length_nil, List.cons_append, List.nil_append, List.replicate_succ, List.replicate_zero, List.getElem?_cons_zero, List.getElem?_cons_succ, List.set_cons_zero, List.set_cons_succ, Nat.reduceSub, Nat.reduceAdd, if_pos, if_true, if_false, Bool.false_eq_true, ite_true, ite_false, reduceIte, Option.some.injEq, oGcd_ii, oMax_ii, oMin_ii, oInt_i, oLt_ii, oLe_ii, oGt_ii, oGe_ii, oAddU_ii, oSub_ii, oNeg_i, asB_b, tru_b, oNotV_b, oIx_t0, oIx_t1, oIx_t2, oIx_l0, datas_nil, datas_cons, oLen_l, oLen_t, oTuple_l, wipeS, tidy_same, cut_same, cut_app]
    exact trim_d hm

open Lin
theorem den_ne0 (a : Rat) : (a.den : Int) ≠ 0 := by
  have := den_pos' a
  omega
theorem add_ok {a b : Rat} {m : MM} {A B : Nat} (hm : okM m) (ha : Sz A a) (hb : Sz B b) (h : A + B < 8999) : m__law_add [.d (eQ a), .d (eQ b)] m = .ok (.d (eQ (a + b))) m := by
  have o1 : okMul a.num (b.den : Int) = true := okMul_of ha.1 hb.2 (by omega)
  have o2 : okMul b.num (a.den : Int) = true := okMul_of hb.1 ha.2 (by omega)
  have o3 : okMul (a.den : Int) (b.den : Int) = true := okMul_of ha.2 hb.2 (by omega)
  unfold m__law_add s__law_add
  simp only [defS, sSeq, sSet, sUnp, gT, gsCons, gsNil, gN, sPar2, sPar3, sAug, sExpr, sRet, sRetN, sPass, sBrk, sCnt, sIf, sRaise, fVar, fC, fBin, fUn, fTest, fTru, fNot, fIf, fCall, fCallL, fCallD, aNil, aCons, bind_ok, bind_err, bind_bad, then_ok, then_err, then_bad, sbind_nx, sbind_rt, sbind_bk, sbind_ct, sbind_err, sbind_bad, List.map_cons, List.map_nil, List.length_cons, List.length_nil, List.cons_append, List.nil_append, List.replicate_succ, List.replicate_zero, List.getElem?_cons_zero, List.getElem?_cons_succ, List.set_cons_zero, List.set_cons_succ, Nat.reduceSub, Nat.reduceAdd, if_pos, if_true, if_false, Bool.false_eq_true, ite_true, ite_false, reduceIte, Option.some.injEq, oGcd_ii, oMax_ii, oMin_ii, oInt_i, oLt_ii, oLe_ii, oGt_ii, oGe_ii, oAddU_ii, oSub_ii, oNeg_i, asB_b, tru_b, oNotV_b, oIx_t0, oIx_t1, oIx_t2, oIx_l0, datas_nil, datas_cons, oLen_l, oLen_t, oTuple_l, wipeS, tidy_same, cut_same, cut_app]
  unfold eQ
  simp only [defS, sSeq, sSet, sUnp, gT, gsCons, gsNil, gN, sPar2, sPar3, sAug, sExpr, sRet, sRetN, sPass, sBrk, sCnt, sIf, sRaise, fVar, fC, fBin, fUn, fTest, fTru, fNot, fIf, fCall, fCallL, fCallD, aNil, aCons, bind_ok, bind_err, bind_bad, then_ok, then_err, then_bad, sbind_nx, sbind_rt, sbind_bk, sbind_ct, sbind_err, sbind_bad, List.map_cons, List.map_nil, List.length_cons, List.length_nil, List.cons_append, List.nil_append, List.replicate_succ, List.replicate_zero, List.getElem?_cons_zero, List.getElem?_cons_succ, List.set_cons_zero, List.set_cons_succ, Nat.reduceSub, Nat.reduceAdd, if_pos, if_true, if_false, Bool.false_eq_true, ite_true, ite_false, reduceIte, Option.some.injEq, oGcd_ii, oMax_ii, oMin_ii, oInt_i, oLt_ii, oLe_ii, oGt_ii, oGe_ii, oAddU_ii, oSub_ii, oNeg_i, asB_b, tru_b, oNotV_b, oIx_t0, oIx_t1, oIx_t2, oIx_l0, datas_nil, datas_cons, oLen_l, oLen_t, oTuple_l, wipeS, tidy_same, cut_same, cut_app]
  simp only [oMulU_ii o1, oMulU_ii o2, oMulU_ii o3]
  simp only [defS, sSeq, sSet, sUnp, gT, gsCons, gsNil, gN, sPar2, sPar3, sAug, sExpr, sRet, sRetN, sPass, sBrk, sCnt, sIf, sRaise, fVar, fC, fBin, fUn, fTest, fTru, fNot, fIf, fCall, fCallL, fCallD, aNil, aCons, bind_ok, bind_err, bind_bad, then_ok, then_err, then_bad, sbind_nx, sbind_rt, sbind_bk, sbind_ct, sbind_err, sbind_bad, List.map_cons, List.map_nil, List.length_cons, List.length_nil, List.cons_append, List.nil_append, List.replicate_succ, List.replicate_zero, List.getElem?_cons_zero, List.getElem?_cons_succ, List.set_cons_zero, List.set_cons_succ, Nat.reduceSub, Nat.reduceAdd, if_pos, if_true, if_false, Bool.false_eq_true, ite_true, ite_false, reduceIte, Option.some.injEq, oGcd_ii, oMax_ii, oMin_ii, oInt_i, oLt_ii, oLe_ii, oGt_ii, oGe_ii, oAddU_ii, oSub_ii, oNeg_i, asB_b, tru_b, oNotV_b, oIx_t0, oIx_t1, oIx_t2, oIx_l0, datas_nil, datas_cons, oLen_l, oLen_t, oTuple_l, wipeS, tidy_same, cut_same, cut_app]
  rw [low_ok (b := A + B) hm (fun e => (Int.mul_eq_zero.mp e).elim (den_ne0 a) (den_ne0 b)) (by rw [Int.natAbs_mul]; exact mul_lt_pow ha.2 hb.2) h, add_top]
  simp only [defS, sSeq, sSet, sUnp, gT, gsCons, gsNil, gN, sPar2, sPar3, sAug, sExpr, sRet, sRetN, sPass, sBrk, sCnt, sIf, sRaise, fVar, fC, fBin, fUn, fTest, fTru, fNot, fIf, fCall, fCallL, fCallD, aNil, aCons, bind_ok, bind_err, bind_bad, then_ok, then_err, then_bad, sbind_nx, sbind_rt, sbind_bk, sbind_ct, sbind_err, sbind_bad, List.map_cons, List.map_nil, List.length_cons, List.length_nil, List.cons_append, List.nil_append, List.replicate_succ, List.replicate_zero, List.getElem?_cons_zero, List.getElem?_cons_succ, List.set_cons_zero, List.set_cons_succ, Nat.reduceSub, Nat.reduceAdd, if_pos, if_true, if_false, Bool.false_eq_true, ite_true, ite_false, reduceIte, Option.some.injEq, oGcd_ii, oMax_ii, oMin_ii, oInt_i, oLt_ii, oLe_ii, oGt_ii, oGe_ii, oAddU_ii, oSub_ii, oNeg_i, asB_b, tru_b, oNotV_b, oIx_t0, oIx_t1, oIx_t2, oIx_l0, datas_nil, datas_cons, oLen_l, oLen_t, oTuple_l, wipeS, tidy_same, cut_same, cut_app]
  exact trim_d hm
theorem mul_ok {a b : Rat} {m : MM} {A B : Nat} (hm : okM m) (ha : Sz A a) (hb : Sz B b) (h : A + B < 8999) : m__law_mul [.d (eQ a), .d (eQ b)] m = .ok (.d (eQ (a * b))) m := by
  have o1 : okMul a.num b.num = true := okMul_of ha.1 hb.1 (by omega)
  have o3 : okMul (a.den : Int) (b.den : Int) = true := okMul_of ha.2 hb.2 (by omega)
  unfold m__law_mul s__law_mul
  simp only [defS, sSeq, sSet, sUnp, gT, gsCons, gsNil, gN, sPar2, sPar3, sAug, sExpr, sRet, sRetN, sPass, sBrk, sCnt, sIf, sRaise, fVar, fC, fBin, fUn, fTest, fTru, fNot, fIf, fCall, fCallL, fCallD, aNil, aCons, bind_ok, bind_err, bind_bad, then_ok, then_err, then_bad, sbind_nx, sbind_rt, sbind_bk, sbind_ct, sbind_err, sbind_bad, List.map_cons, List.map_nil, List.length_cons, List.length_nil, List.cons_append, List.nil_append, List.replicate_succ, List.replicate_zero, List.getElem?_cons_zero, List.getElem?_cons_succ, List.set_cons_zero, List.set_cons_succ, Nat.reduceSub, Nat.reduceAdd, if_pos, if_true, if_false, Bool.false_eq_true, ite_true, ite_false, reduceIte, Option.some.injEq, oGcd_ii, oMax_ii, oMin_ii, oInt_i, oLt_ii, oLe_ii, oGt_ii, oGe_ii, oAddU_ii, oSub_ii, oNeg_i, asB_b, tru_b, oNotV_b, oIx_t0, oIx_t1, oIx_t2, oIx_l0, datas_nil, datas_cons, oLen_l, oLen_t, oTuple_l, wipeS, tidy_same, cut_same, cut_app]
  unfold eQ
  simp only [defS, sSeq, sSet, sUnp, gT, gsCons, gsNil, gN, sPar2, sPar3, sAug, sExpr, sRet, sRetN, sPass, sBrk, sCnt, sIf, sRaise, fVar, fC, fBin, fUn, fTest, fTru, fNot, fIf, fCall, fCallL, fCallD, aNil, aCons, bind_ok, bind_err, bind_bad, then_ok, then_err, then_bad, sbind_nx, sbind_rt, sbind_bk, sbind_ct, sbind_err, sbind_bad, List.map_cons, List.map_nil, List.length_cons, List.length_nil, List.cons_append, List.nil_append, List.replicate_succ, List.replicate_zero, List.getElem?_cons_zero, List.getElem?_cons_succ, List.set_cons_zero, List.set_cons_succ, Nat.reduceSub, Nat.reduceAdd, if_pos, if_true, if_false, Bool.false_eq_true, ite_true, ite_false, reduceIte, Option.some.injEq, oGcd_ii, oMax_ii, oMin_ii, oInt_i, oLt_ii, oLe_ii, oGt_ii, oGe_ii, oAddU_ii, oSub_ii, oNeg_i, asB_b, tru_b, oNotV_b, oIx_t0, oIx_t1, oIx_t2, oIx_l0, datas_nil, datas_cons, oLen_l, oLen_t, oTuple_l, wipeS, tidy_same, cut_same, cut_app]
  simp only [oMulU_ii o1, oMulU_ii o3]
  simp only [defS, sSeq, sSet, sUnp, gT, gsCons, gsNil, gN, sPar2, sPar3, sAug, sExpr, sRet, sRetN, sPass, sBrk, sCnt, sIf, sRaise, fVar, fC, fBin, fUn, fTest, fTru, fNot, fIf, fCall, fCallL, fCallD, aNil, aCons, bind_ok, bind_err, bind_bad, then_ok, then_err, then_bad, sbind_nx, sbind_rt, sbind_bk, sbind_ct, sbind_err, sbind_bad, List.map_cons, List.map_nil, List.length_cons, List.length_nil, List.cons_append, List.nil_append, List.replicate_succ, List.replicate_zero, List.getElem?_cons_zero, List.getElem?_cons_succ, List.set_cons_zero, List.set_cons_succ, Nat.reduceSub, Nat.reduceAdd, if_pos, if_true, if_false, Bool.false_eq_true, ite_true, ite_false, reduceIte, Option.some.injEq, oGcd_ii, oMax_ii, oMin_ii, oInt_i, oLt_ii, oLe_ii, oGt_ii, oGe_ii, oAddU_ii, oSub_ii, oNeg_i, asB_b, tru_b, oNotV_b, oIx_t0, oIx_t1, oIx_t2, oIx_l0, datas_nil, datas_cons, oLen_l, oLen_t, oTuple_l, wipeS, tidy_same, cut_same, cut_app]
  rw [low_ok (b := A + B) hm (fun e => (Int.mul_eq_zero.mp e).elim (den_ne0 a) (den_ne0 b)) (by rw [Int.natAbs_mul]; exact mul_lt_pow ha.2 hb.2) h, mul_top]
  simp only [defS, sSeq, sSet, sUnp, gT, gsCons, gsNil, gN, sPar2, sPar3, sAug, sExpr, sRet, sRetN, sPass, sBrk, sCnt, sIf, sRaise, fVar, fC, fBin, fUn, fTest, fTru, fNot, fIf, fCall, fCallL, fCallD, aNil, aCons, bind_ok, bind_err, bind_bad, then_ok, then_err, then_bad, sbind_nx, sbind_rt, sbind_bk, sbind_ct, sbind_err, sbind_bad, List.map_cons, List.map_nil, List.length_cons, List.length_nil, List.cons_append, List.nil_append, List.replicate_succ, List.replicate_zero, List.getElem?_cons_zero, List.getElem?_cons_succ, List.set_cons_zero, List.set_cons_succ, Nat.reduceSub, Nat.reduceAdd, if_pos, if_true, if_false, Bool.false_eq_true, ite_true, ite_false, reduceIte, Option.some.injEq, oGcd_ii, oMax_ii, oMin_ii, oInt_i, oLt_ii, oLe_ii, oGt_ii, oGe_ii, oAddU_ii, oSub_ii, oNeg_i, asB_b, tru_b, oNotV_b, oIx_t0, oIx_t1, oIx_t2, oIx_l0, datas_nil, datas_cons, oLen_l, oLen_t, oTuple_l, wipeS, tidy_same, cut_same, cut_app]
  exact trim_d hm
theorem sz_sum {f : Nat → Rat} {B : Nat} : ∀ n : Nat, (∀ j, j < n → Sz B (f j)) → Sz (n * (B + 1) + 1) (S n f)
  | 0, _ => sz_zero
  | n + 1, h => by
    have := sz_add (sz_sum n fun j hj => h j (by omega)) (h n (by omega))
    refine Sz.mono this ?_
    rw [Nat.add_mul, Nat.one_mul]
    omega
theorem total_ok {xs : List Rat} {x : PyData} {m : MM} {B : Nat} (hm : okM m) (hx : seqD (.d x) = some (xs.map eQ)) (hs : ∀ r ∈ xs, Sz B r) (h : (xs.length + 1) * (B + 1) < 8999) :
    m__law_total [.d x] m = .ok (.d (eQ (S xs.length fun i => xs.getD i 0))) m := by
  unfold m__law_total s__law_total
  simp only [defS, sSeq, sSet, sUnp, gT, gsCons, gsNil, gN, sPar2, sPar3, sAug, sExpr, sRet, sRetN, sPass, sBrk, sCnt, sIf, sRaise, fVar, fC, fBin, fUn, fTest, fTru, fNot, fIf, fCall, fCallL, fCallD, aNil, aCons, bind_ok, bind_err, bind_bad, then_ok, then_err, then_bad, sbind_nx, sbind_rt, sbind_bk, sbind_ct, sbind_err, sbind_bad, List.map_cons, List.map_nil, List.length_cons, List.length_nil, List.cons_append, List.nil_append, List.replicate_succ, List.replicate_zero, List.getElem?_cons_zero, List.getElem?_cons_succ, List.set_cons_zero, List.set_cons_succ, Nat.reduceSub, Nat.reduceAdd, if_pos, if_true, if_false, Bool.false_eq_true, ite_true, ite_false, reduceIte, Option.some.injEq, oGcd_ii, oMax_ii, oMin_ii, oInt_i, oLt_ii, oLe_ii, oGt_ii, oGe_ii, oAddU_ii, oSub_ii, oNeg_i, asB_b, tru_b, oNotV_b, oIx_t0, oIx_t1, oIx_t2, oIx_l0, datas_nil, datas_cons, oLen_l, oLen_t, oTuple_l, wipeS, tidy_same, cut_same, cut_app]
  rw [fTup_2 (m1 := m) (a := .int 0) (b := .int 1) (by simp only [defS, sSeq, sSet, sUnp, gT, gsCons, gsNil, gN, sPar2, sPar3, sAug, sExpr, sRet, sRetN, sPass, sBrk, sCnt, sIf, sRaise, fVar, fC, fBin, fUn, fTest, fTru, fNot, fIf, fCall, fCallL, fCallD, aNil, aCons, bind_ok, bind_err, bind_bad, then_ok, then_err, then_bad, sbind_nx, sbind_rt, sbind_bk, sbind_ct, sbind_err, sbind_bad, List.map_cons, List.map_nil, List.length_cons, List.length_nil, List.cons_append, List.nil_append, List.replicate_succ, List.replicate_zero, List.getElem?_cons_zero, List.getElem?_cons_succ, List.set_cons_zero, List.set_cons_succ, Nat.reduceSub, Nat.reduceAdd, if_pos, if_true, if_false, Bool.false_eq_true, ite_true, ite_false, reduceIte, Option.some.injEq, oGcd_ii, oMax_ii, oMin_ii, oInt_i, oLt_ii, oLe_ii, oGt_ii, oGe_ii, oAddU_ii, oSub_ii, oNeg_i, asB_b, tru_b, oNotV_b, oIx_t0, oIx_t1, oIx_t2, oIx_l0, datas_nil, datas_cons, oLen_l, oLen_t, oTuple_l, wipeS, tidy_same, cut_same, cut_app])]
  simp only [defS, sSeq, sSet, sUnp, gT, gsCons, gsNil, gN, sPar2, sPar3, sAug, sExpr, sRet, sRetN, sPass, sBrk, sCnt, sIf, sRaise, fVar, fC, fBin, fUn, fTest, fTru, fNot, fIf, fCall, fCallL, fCallD, aNil, aCons, bind_ok, bind_err, bind_bad, then_ok, then_err, then_bad, sbind_nx, sbind_rt, sbind_bk, sbind_ct, sbind_err, sbind_bad, List.map_cons, List.map_nil, List.length_cons, List.length_nil, List.cons_append, List.nil_append, List.replicate_succ, List.replicate_zero, List.getElem?_cons_zero, List.getElem?_cons_succ, List.set_cons_zero, List.set_cons_succ, Nat.reduceSub, Nat.reduceAdd, if_pos, if_true, if_false, Bool.false_eq_true, ite_true, ite_false, reduceIte, Option.some.injEq, oGcd_ii, oMax_ii, oMin_ii, oInt_i, oLt_ii, oLe_ii, oGt_ii, oGe_ii, oAddU_ii, oSub_ii, oNeg_i, asB_b, tru_b, oNotV_b, oIx_t0, oIx_t1, oIx_t2, oIx_l0, datas_nil, datas_cons, oLen_l, oLen_t, oTuple_l, wipeS, tidy_same, cut_same, cut_app]
  unfold sFor iSeq
  simp only [defS, sSeq, sSet, sUnp, gT, gsCons, gsNil, gN, sPar2, sPar3, sAug, sExpr, sRet, sRetN, sPass, sBrk, sCnt, sIf, sRaise, fVar, fC, fBin, fUn, fTest, fTru, fNot, fIf, fCall, fCallL, fCallD, aNil, aCons, bind_ok, bind_err, bind_bad, then_ok, then_err, then_bad, sbind_nx, sbind_rt, sbind_bk, sbind_ct, sbind_err, sbind_bad, List.map_cons, List.map_nil, List.length_cons, List.length_nil, List.cons_append, List.nil_append, List.replicate_succ, List.replicate_zero, List.getElem?_cons_zero, List.getElem?_cons_succ, List.set_cons_zero, List.set_cons_succ, Nat.reduceSub, Nat.reduceAdd, if_pos, if_true, if_false, Bool.false_eq_true, ite_true, ite_false, reduceIte, Option.some.injEq, oGcd_ii, oMax_ii, oMin_ii, oInt_i, oLt_ii, oLe_ii, oGt_ii, oGe_ii, oAddU_ii, oSub_ii, oNeg_i, asB_b, tru_b, oNotV_b, oIx_t0, oIx_t1, oIx_t2, oIx_l0, datas_nil, datas_cons, oLen_l, oLen_t, oTuple_l, wipeS, tidy_same, cut_same, cut_app]
  rw [walk_seq hx]
  unfold liftD
  simp only [defS, sSeq, sSet, sUnp, gT, gsCons, gsNil, gN, sPar2, sPar3, sAug, sExpr, sRet, sRetN, sPass, sBrk, sCnt, sIf, sRaise, fVar, fC, fBin, fUn, fTest, fTru, fNot, fIf, fCall, fCallL, fCallD, aNil, aCons, bind_ok, bind_err, bind_bad, then_ok, then_err, then_bad, sbind_nx, sbind_rt, sbind_bk, sbind_ct, sbind_err, sbind_bad, List.map_cons, List.map_nil, List.length_cons, List.length_nil, List.cons_append, List.nil_append, List.replicate_succ, List.replicate_zero, List.getElem?_cons_zero, List.getElem?_cons_succ, List.set_cons_zero, List.set_cons_succ, Nat.reduceSub, Nat.reduceAdd, if_pos, if_true, if_false, Bool.false_eq_true, ite_true, ite_false, reduceIte, Option.some.injEq, oGcd_ii, oMax_ii, oMin_ii, oInt_i, oLt_ii, oLe_ii, oGt_ii, oGe_ii, oAddU_ii, oSub_ii, oNeg_i, asB_b, tru_b, oNotV_b, oIx_t0, oIx_t1, oIx_t2, oIx_l0, datas_nil, datas_cons, oLen_l, oLen_t, oTuple_l, wipeS, tidy_same, cut_same, cut_app]
  obtain ⟨ρ', m', e, em, ez⟩ := for_inv (cl := [2]) (tg := gN 2) (body := sSet 1 (fCallD 2 m__law_add (aCons (fVar 1) (aCons (fVar 2) aNil)))) (enc := eQ)
    (fun k ρ m' => m' = m ∧ ρ = [some (.d x), some (.d (eQ (S k fun i => xs.getD i 0))), none]) xs 0 [some (.d x), some (.d (.tuple [.int 0, .int 1])), none] m ⟨rfl, rfl⟩
    (fun i r ρ m' hr ⟨em, ez⟩ => by
      subst em
      subst ez
      have hi : i < xs.length := (List.getElem?_eq_some_iff.mp hr).1
      have hq : xs.getD i 0 = r := by rw [List.getD_eq_getElem?_getD, hr]; rfl
      have hmem : r ∈ xs := List.mem_of_getElem? hr
      have hsum : Sz (i * (B + 1) + 1) (S i fun i => xs.getD i 0) := sz_sum i fun j hj => by
        have hj2 : j < xs.length := by omega
        rw [List.getD_eq_getElem?_getD, List.getElem?_eq_getElem hj2]
        exact hs _ (List.getElem_mem hj2)
      rw [Nat.zero_add]
      refine ⟨_, rfl, [some (.d x), some (.d (eQ ((S i fun i => xs.getD i 0) + xs.getD i 0))), some (.d (eQ r))], m', .inl ?_, tidy_same, rfl⟩
      simp only [defS, sSeq, sSet, sUnp, gT, gsCons, gsNil, gN, sPar2, sPar3, sAug, sExpr, sRet, sRetN, sPass, sBrk, sCnt, sIf, sRaise, fVar, fC, fBin, fUn, fTest, fTru, fNot, fIf, fCall, fCallL, fCallD, aNil, aCons, bind_ok, bind_err, bind_bad, then_ok, then_err, then_bad, sbind_nx, sbind_rt, sbind_bk, sbind_ct, sbind_err, sbind_bad, List.map_cons, List.map_nil, List.length_cons, List.length_nil, List.cons_append, List.nil_append, List.replicate_succ, List.replicate_zero, List.getElem?_cons_zero, List.getElem?_cons_succ, List.set_cons_zero, List.set_cons_succ, Nat.reduceSub, Nat.reduceAdd, if_pos, if_true, if_false, Bool.false_eq_true, ite_true, ite_false, reduceIte, Option.some.injEq, oGcd_ii, oMax_ii, oMin_ii, oInt_i, oLt_ii, oLe_ii, oGt_ii, oGe_ii, oAddU_ii, oSub_ii, oNeg_i, asB_b, tru_b, oNotV_b, oIx_t0, oIx_t1, oIx_t2, oIx_l0, datas_nil, datas_cons, oLen_l, oLen_t, oTuple_l, wipeS, tidy_same, cut_same, cut_app]
      rw [add_ok (A := i * (B + 1) + 1) (B := B) hm hsum (hs r hmem) (by
        have : i * (B + 1) ≤ xs.length * (B + 1) := Nat.mul_le_mul_right _ (by omega)
        rw [Nat.add_mul, Nat.one_mul] at h
        omega)]
      simp only [defS, sSeq, sSet, sUnp, gT, gsCons, gsNil, gN, sPar2, sPar3, sAug, sExpr, sRet, sRetN, sPass, sBrk, sCnt, sIf, sRaise, fVar, fC, fBin, fUn, fTest, fTru, fNot, fIf, fCall, fCallL, fCallD, aNil, aCons, bind_ok, bind_err, bind_bad, then_ok, then_err, then_bad, sbind_nx, sbind_rt, sbind_bk, sbind_ct, sbind_err, sbind_bad, List.map_cons, List.map_nil, List.length_cons, List.length_nil, List.cons_append, List.nil_append, List.replicate_succ, List.replicate_zero, List.getElem?_cons_zero, List.getElem?_cons_succ, List.set_cons_zero, List.set_cons_succ, Nat.reduceSub, Nat.reduceAdd, if_pos, if_true, if_false, Bool.false_eq_true, ite_true, ite_false, reduceIte, Option.some.injEq, oGcd_ii, oMax_ii, oMin_ii, oInt_i, oLt_ii, oLe_ii, oGt_ii, oGe_ii, oAddU_ii, oSub_ii, oNeg_i, asB_b, tru_b, oNotV_b, oIx_t0, oIx_t1, oIx_t2, oIx_l0, datas_nil, datas_cons, oLen_l, oLen_t, oTuple_l, wipeS, tidy_same, cut_same, cut_app]
      show RS.nx [some (SV.d x), some (SV.d (eQ ((S i fun i => xs.getD i 0) + r))), some (SV.d (eQ r))] m' = RS.nx [some (SV.d x), some (SV.d (eQ ((S i fun i => xs.getD i 0) + xs.getD i 0))), some (SV.d (eQ r))] m'
      rw [hq])
  rw [e]
  subst em
  subst ez
  rw [Nat.zero_add]
  simp only [defS, sSeq, sSet, sUnp, gT, gsCons, gsNil, gN, sPar2, sPar3, sAug, sExpr, sRet, sRetN, sPass, sBrk, sCnt, sIf, sRaise, fVar, fC, fBin, fUn, fTest, fTru, fNot, fIf, fCall, fCallL, fCallD, aNil, aCons, bind_ok, bind_err, bind_bad, then_ok, then_err, then_bad, sbind_nx, sbind_rt, sbind_bk, sbind_ct, sbind_err, sbind_bad, List.map_cons, List.map_nil, List.length_cons, List.length_nil, List.cons_append, List.nil_append, List.replicate_succ, List.replicate_zero, List.getElem?_cons_zero, List.getElem?_cons_succ, List.set_cons_zero, List.set_cons_succ, Nat.reduceSub, Nat.reduceAdd, if_pos, if_true, if_false, Bool.false_eq_true, ite_true, ite_false, reduceIte, Option.some.injEq, oGcd_ii, oMax_ii, oMin_ii, oInt_i, oLt_ii, oLe_ii, oGt_ii, oGe_ii, oAddU_ii, oSub_ii, oNeg_i, asB_b, tru_b, oNotV_b, oIx_t0, oIx_t1, oIx_t2, oIx_l0, datas_nil, datas_cons, oLen_l, oLen_t, oTuple_l, wipeS, tidy_same, cut_same, cut_app]
  exact trim_d hm
end Mn

set_option Elab.async false
set_option linter.all false
set_option maxRecDepth 100000
set_option autoImplicit false
set_option maxHeartbeats 2000000
namespace Mn
open PySem WK Lin
def eR (r : Row) : PyData := .list (r.map .int)
def eM (R : List Row) : PyData := .list (R.map eR)
theorem gcd_fold_lt {b : Nat} : ∀ (ns : Row) (g : Int), (∀ n ∈ ns, n.natAbs < 2 ^ b) → g.natAbs < 2 ^ b → (ns.foldl (fun g n => ((Int.gcd g n : Nat) : Int)) g).natAbs < 2 ^ b
  | [], g, _, h => h
  | n :: r, g, hn, h => by
    refine gcd_fold_lt r _ (fun k hk => hn k (List.mem_cons_of_mem _ hk)) ?_
    have h1 := hn n (List.mem_cons_self ..)
    by_cases h0 : n = 0
    · subst h0
      show ((Int.gcd g 0 : Nat) : Int).natAbs < 2 ^ b
      rw [Int.gcd_zero_right]
      simpa using h
    · show ((Int.gcd g n : Nat) : Int).natAbs < 2 ^ b
      have := Nat.le_of_dvd (by omega : 0 < n.natAbs) (Int.gcd_dvd_natAbs_right g n)
      omega
theorem gcd_fold_one : ∀ (ns : Row), ns.foldl (fun g n => ((Int.gcd g n : Nat) : Int)) 1 = 1
  | [] => rfl
  | n :: r => by
    rw [List.foldl_cons, Int.gcd_one_left]
    exact gcd_fold_one r
theorem slim_loop {x : SV} {m : MM} : ∀ (r : Row) (g : Int) (z : Option SV), g ≠ 1 →
    (r.foldl (fun g n => ((Int.gcd g n : Nat) : Int)) g = 1 ∧ forS [] (gN 2) (sSeq (sSet 1 (fCall oGcd (aCons (fVar 1) (aCons (fVar 2) aNil)))) (sIf (fTest (fBin oEq (fVar 1) (fC (.int 1)))) (sRet (fVar 0)) sPass)) (r.map .int) [some x, some (.d (.int g)), z] m = .rt x m) ∨
    (r.foldl (fun g n => ((Int.gcd g n : Nat) : Int)) g ≠ 1 ∧ ∃ z', forS [] (gN 2) (sSeq (sSet 1 (fCall oGcd (aCons (fVar 1) (aCons (fVar 2) aNil)))) (sIf (fTest (fBin oEq (fVar 1) (fC (.int 1)))) (sRet (fVar 0)) sPass)) (r.map .int) [some x, some (.d (.int g)), z] m = .nx [some x, some (.d (.int (r.foldl (fun g n => ((Int.gcd g n : Nat) : Int)) g))), z'] m)
  | [], g, z, h => .inr ⟨h, z, rfl⟩
  | n :: r, g, z, h => by
    rw [List.map_cons]
    unfold forS
    simp only [defS, sSeq, sSet, sUnp, gT, gsCons, gsNil, gN, sPar2, sPar3, sAug, sExpr, sRet, sRetN, sPass, sBrk, sCnt, sIf, sRaise, fVar, fC, fBin, fUn, fTest, fTru, fNot, fAnd, fOr, fAndV, fOrV, fChain, fIf, fCall, fCallL, fCallD, fIsi, isT, tyN, aNil, aCons, bind_ok, bind_err, bind_bad, then_ok, then_err, then_bad, sbind_nx, sbind_rt, sbind_bk, sbind_ct, sbind_err, sbind_bad, List.map_cons, List.map_nil, List.length_cons, List.length_nil, List.cons_append, List.nil_append, List.replicate_succ, List.replicate_zero, List.getElem?_cons_zero, List.getElem?_cons_succ, List.set_cons_zero, List.set_cons_succ, Nat.reduceSub, Nat.reduceAdd, if_pos, if_true, if_false, Bool.false_eq_true, ite_true, ite_false, reduceIte, Option.some.injEq, oGcd_ii, oMax_ii, oMin_ii, oInt_i, oLt_ii, oLe_ii, oGt_ii, oGe_ii, oAddU_ii, oSub_ii, oNeg_i, asB_b, tru_b, oNotV_b, oIx_t0, oIx_t1, oIx_t2, oIx_l0, datas_nil, datas_cons, oLen_l, oLen_t, oTuple_l, wipeS, tidy_same, cut_same, cut_app, oEq_ii, oNe_ii, if_true]
    by_cases h1 : ((Int.gcd g n : Nat) : Int) = 1
    · rw [decide_eq_true h1]
      refine .inl ⟨?_, rfl⟩
      rw [List.foldl_cons, h1]
      exact gcd_fold_one r
    · rw [decide_eq_false h1]
      simp only [defS, sSeq, sSet, sUnp, gT, gsCons, gsNil, gN, sPar2, sPar3, sAug, sExpr, sRet, sRetN, sPass, sBrk, sCnt, sIf, sRaise, fVar, fC, fBin, fUn, fTest, fTru, fNot, fAnd, fOr, fAndV, fOrV, fChain, fIf, fCall, fCallL, fCallD, fIsi, isT, tyN, aNil, aCons, bind_ok, bind_err, bind_bad, then_ok, then_err, then_bad, sbind_nx, sbind_rt, sbind_bk, sbind_ct, sbind_err, sbind_bad, List.map_cons, List.map_nil, List.length_cons, List.length_nil, List.cons_append, List.nil_append, List.replicate_succ, List.replicate_zero, List.getElem?_cons_zero, List.getElem?_cons_succ, List.set_cons_zero, List.set_cons_succ, Nat.reduceSub, Nat.reduceAdd, if_pos, if_true, if_false, Bool.false_eq_true, ite_true, ite_false, reduceIte, Option.some.injEq, oGcd_ii, oMax_ii, oMin_ii, oInt_i, oLt_ii, oLe_ii, oGt_ii, oGe_ii, oAddU_ii, oSub_ii, oNeg_i, asB_b, tru_b, oNotV_b, oIx_t0, oIx_t1, oIx_t2, oIx_l0, datas_nil, datas_cons, oLen_l, oLen_t, oTuple_l, wipeS, tidy_same, cut_same, cut_app, oEq_ii, oNe_ii, if_true]
      rw [List.foldl_cons]
      exact slim_loop r _ _ h1
theorem slim_ok {ns : Row} {m : MM} {b : Nat} (hm : okM m) (hb : ∀ n ∈ ns, n.natAbs < 2 ^ b) (h9 : b < 8999) (hl : ns.length ≤ cap) : m_slim [.d (eR ns)] m = .ok (.d (eR (slimL ns))) m := by
  unfold m_slim s_slim
  unfold sFor iSeq
  simp only [defS, sSeq, sSet, sUnp, gT, gsCons, gsNil, gN, sPar2, sPar3, sAug, sExpr, sRet, sRetN, sPass, sBrk, sCnt, sIf, sRaise, fVar, fC, fBin, fUn, fTest, fTru, fNot, fAnd, fOr, fAndV, fOrV, fChain, fIf, fCall, fCallL, fCallD, fIsi, isT, tyN, aNil, aCons, bind_ok, bind_err, bind_bad, then_ok, then_err, then_bad, sbind_nx, sbind_rt, sbind_bk, sbind_ct, sbind_err, sbind_bad, List.map_cons, List.map_nil, List.length_cons, List.length_nil, List.cons_append, List.nil_append, List.replicate_succ, List.replicate_zero, List.getElem?_cons_zero, List.getElem?_cons_succ, List.set_cons_zero, List.set_cons_succ, Nat.reduceSub, Nat.reduceAdd, if_pos, if_true, if_false, Bool.false_eq_true, ite_true, ite_false, reduceIte, Option.some.injEq, oGcd_ii, oMax_ii, oMin_ii, oInt_i, oLt_ii, oLe_ii, oGt_ii, oGe_ii, oAddU_ii, oSub_ii, oNeg_i, asB_b, tru_b, oNotV_b, oIx_t0, oIx_t1, oIx_t2, oIx_l0, datas_nil, datas_cons, oLen_l, oLen_t, oTuple_l, wipeS, tidy_same, cut_same, cut_app, oEq_ii, oNe_ii, if_true]
  have hs : walkD (.d (eR ns)) = some (ns.map .int) := rfl
  rw [hs]
  unfold liftD
  simp only [defS, sSeq, sSet, sUnp, gT, gsCons, gsNil, gN, sPar2, sPar3, sAug, sExpr, sRet, sRetN, sPass, sBrk, sCnt, sIf, sRaise, fVar, fC, fBin, fUn, fTest, fTru, fNot, fAnd, fOr, fAndV, fOrV, fChain, fIf, fCall, fCallL, fCallD, fIsi, isT, tyN, aNil, aCons, bind_ok, bind_err, bind_bad, then_ok, then_err, then_bad, sbind_nx, sbind_rt, sbind_bk, sbind_ct, sbind_err, sbind_bad, List.map_cons, List.map_nil, List.length_cons, List.length_nil, List.cons_append, List.nil_append, List.replicate_succ, List.replicate_zero, List.getElem?_cons_zero, List.getElem?_cons_succ, List.set_cons_zero, List.set_cons_succ, Nat.reduceSub, Nat.reduceAdd, if_pos, if_true, if_false, Bool.false_eq_true, ite_true, ite_false, reduceIte, Option.some.injEq, oGcd_ii, oMax_ii, oMin_ii, oInt_i, oLt_ii, oLe_ii, oGt_ii, oGe_ii, oAddU_ii, oSub_ii, oNeg_i, asB_b, tru_b, oNotV_b, oIx_t0, oIx_t1, oIx_t2, oIx_l0, datas_nil, datas_cons, oLen_l, oLen_t, oTuple_l, wipeS, tidy_same, cut_same, cut_app, oEq_ii, oNe_ii, if_true]
  rcases slim_loop (x := .d (eR ns)) (m := m) ns 0 none (by decide) with ⟨h1, h2⟩ | ⟨h1, z', h2⟩
  · rw [h2]
    simp only [defS, sSeq, sSet, sUnp, gT, gsCons, gsNil, gN, sPar2, sPar3, sAug, sExpr, sRet, sRetN, sPass, sBrk, sCnt, sIf, sRaise, fVar, fC, fBin, fUn, fTest, fTru, fNot, fAnd, fOr, fAndV, fOrV, fChain, fIf, fCall, fCallL, fCallD, fIsi, isT, tyN, aNil, aCons, bind_ok, bind_err, bind_bad, then_ok, then_err, then_bad, sbind_nx, sbind_rt, sbind_bk, sbind_ct, sbind_err, sbind_bad, List.map_cons, List.map_nil, List.length_cons, List.length_nil, List.cons_append, List.nil_append, List.replicate_succ, List.replicate_zero, List.getElem?_cons_zero, List.getElem?_cons_succ, List.set_cons_zero, List.set_cons_succ, Nat.reduceSub, Nat.reduceAdd, if_pos, if_true, if_false, Bool.false_eq_true, ite_true, ite_false, reduceIte, Option.some.injEq, oGcd_ii, oMax_ii, oMin_ii, oInt_i, oLt_ii, oLe_ii, oGt_ii, oGe_ii, oAddU_ii, oSub_ii, oNeg_i, asB_b, tru_b, oNotV_b, oIx_t0, oIx_t1, oIx_t2, oIx_l0, datas_nil, datas_cons, oLen_l, oLen_t, oTuple_l, wipeS, tidy_same, cut_same, cut_app, oEq_ii, oNe_ii, if_true]
    have : slimL ns = ns := by
      unfold slimL gcdL
      rw [if_pos (.inr h1)]
    rw [this]
    exact trim_d hm
  · rw [h2]
    simp only [defS, sSeq, sSet, sUnp, gT, gsCons, gsNil, gN, sPar2, sPar3, sAug, sExpr, sRet, sRetN, sPass, sBrk, sCnt, sIf, sRaise, fVar, fC, fBin, fUn, fTest, fTru, fNot, fAnd, fOr, fAndV, fOrV, fChain, fIf, fCall, fCallL, fCallD, fIsi, isT, tyN, aNil, aCons, bind_ok, bind_err, bind_bad, then_ok, then_err, then_bad, sbind_nx, sbind_rt, sbind_bk, sbind_ct, sbind_err, sbind_bad, List.map_cons, List.map_nil, List.length_cons, List.length_nil, List.cons_append, List.nil_append, List.replicate_succ, List.replicate_zero, List.getElem?_cons_zero, List.getElem?_cons_succ, List.set_cons_zero, List.set_cons_succ, Nat.reduceSub, Nat.reduceAdd, if_pos, if_true, if_false, Bool.false_eq_true, ite_true, ite_false, reduceIte, Option.some.injEq, oGcd_ii, oMax_ii, oMin_ii, oInt_i, oLt_ii, oLe_ii, oGt_ii, oGe_ii, oAddU_ii, oSub_ii, oNeg_i, asB_b, tru_b, oNotV_b, oIx_t0, oIx_t1, oIx_t2, oIx_l0, datas_nil, datas_cons, oLen_l, oLen_t, oTuple_l, wipeS, tidy_same, cut_same, cut_app, oEq_ii, oNe_ii, if_true]
    by_cases h0 : ns.foldl (fun g n => ((Int.gcd g n : Nat) : Int)) 0 = 0
    · rw [decide_eq_true h0]
      simp only [defS, sSeq, sSet, sUnp, gT, gsCons, gsNil, gN, sPar2, sPar3, sAug, sExpr, sRet, sRetN, sPass, sBrk, sCnt, sIf, sRaise, fVar, fC, fBin, fUn, fTest, fTru, fNot, fAnd, fOr, fAndV, fOrV, fChain, fIf, fCall, fCallL, fCallD, fIsi, isT, tyN, aNil, aCons, bind_ok, bind_err, bind_bad, then_ok, then_err, then_bad, sbind_nx, sbind_rt, sbind_bk, sbind_ct, sbind_err, sbind_bad, List.map_cons, List.map_nil, List.length_cons, List.length_nil, List.cons_append, List.nil_append, List.replicate_succ, List.replicate_zero, List.getElem?_cons_zero, List.getElem?_cons_succ, List.set_cons_zero, List.set_cons_succ, Nat.reduceSub, Nat.reduceAdd, if_pos, if_true, if_false, Bool.false_eq_true, ite_true, ite_false, reduceIte, Option.some.injEq, oGcd_ii, oMax_ii, oMin_ii, oInt_i, oLt_ii, oLe_ii, oGt_ii, oGe_ii, oAddU_ii, oSub_ii, oNeg_i, asB_b, tru_b, oNotV_b, oIx_t0, oIx_t1, oIx_t2, oIx_l0, datas_nil, datas_cons, oLen_l, oLen_t, oTuple_l, wipeS, tidy_same, cut_same, cut_app, oEq_ii, oNe_ii, if_true]
      have : slimL ns = ns := by
        unfold slimL gcdL
        rw [if_pos (.inl h0)]
      rw [this]
      exact trim_d hm
    · rw [decide_eq_false h0]
      simp only [defS, sSeq, sSet, sUnp, gT, gsCons, gsNil, gN, sPar2, sPar3, sAug, sExpr, sRet, sRetN, sPass, sBrk, sCnt, sIf, sRaise, fVar, fC, fBin, fUn, fTest, fTru, fNot, fAnd, fOr, fAndV, fOrV, fChain, fIf, fCall, fCallL, fCallD, fIsi, isT, tyN, aNil, aCons, bind_ok, bind_err, bind_bad, then_ok, then_err, then_bad, sbind_nx, sbind_rt, sbind_bk, sbind_ct, sbind_err, sbind_bad, List.map_cons, List.map_nil, List.length_cons, List.length_nil, List.cons_append, List.nil_append, List.replicate_succ, List.replicate_zero, List.getElem?_cons_zero, List.getElem?_cons_succ, List.set_cons_zero, List.set_cons_succ, Nat.reduceSub, Nat.reduceAdd, if_pos, if_true, if_false, Bool.false_eq_true, ite_true, ite_false, reduceIte, Option.some.injEq, oGcd_ii, oMax_ii, oMin_ii, oInt_i, oLt_ii, oLe_ii, oGt_ii, oGe_ii, oAddU_ii, oSub_ii, oNeg_i, asB_b, tru_b, oNotV_b, oIx_t0, oIx_t1, oIx_t2, oIx_l0, datas_nil, datas_cons, oLen_l, oLen_t, oTuple_l, wipeS, tidy_same, cut_same, cut_app, oEq_ii, oNe_ii, if_true]
      have hg := gcd_fold_lt ns 0 hb (Nat.two_pow_pos b)
      have gp : 0 ≤ ns.foldl (fun g n => ((Int.gcd g n : Nat) : Int)) 0 := by
        have : ∀ (r : Row) (g : Int), 0 ≤ g → 0 ≤ r.foldl (fun g n => ((Int.gcd g n : Nat) : Int)) g := by
          intro r
          induction r with
          | nil => exact fun g h => h
          | cons n r ih => exact fun g h => ih _ (Int.natCast_nonneg _)
        exact this ns 0 (Int.le_refl 0)
      have : slimL ns = ns.map (· / gcdL ns) := by
        unfold slimL
        rw [if_neg]
        intro z
        rcases z with z | z
        · exact h0 z
        · exact h1 z
      rw [fz_compN (xs := ns) (enc := .int) (g := fun n => .int (n / gcdL ns)) rfl hl (fun n hn => by
        simp only [defS, sSeq, sSet, sUnp, gT, gsCons, gsNil, gN, sPar2, sPar3, sAug, sExpr, sRet, sRetN, sPass, sBrk, sCnt, sIf, sRaise, fVar, fC, fBin, fUn, fTest, fTru, fNot, fAnd, fOr, fAndV, fOrV, fChain, fIf, fCall, fCallL, fCallD, fIsi, isT, tyN, aNil, aCons, bind_ok, bind_err, bind_bad, then_ok, then_err, then_bad, sbind_nx, sbind_rt, sbind_bk, sbind_ct, sbind_err, sbind_bad, List.map_cons, List.map_nil, List.length_cons, List.length_nil, List.cons_append, List.nil_append, List.replicate_succ, List.replicate_zero, List.getElem?_cons_zero, List.getElem?_cons_succ, List.set_cons_zero, List.set_cons_succ, Nat.reduceSub, Nat.reduceAdd, if_pos, if_true, if_false, Bool.false_eq_true, ite_true, ite_false, reduceIte, Option.some.injEq, oGcd_ii, oMax_ii, oMin_ii, oInt_i, oLt_ii, oLe_ii, oGt_ii, oGe_ii, oAddU_ii, oSub_ii, oNeg_i, asB_b, tru_b, oNotV_b, oIx_t0, oIx_t1, oIx_t2, oIx_l0, datas_nil, datas_cons, oLen_l, oLen_t, oTuple_l, wipeS, tidy_same, cut_same, cut_app, oEq_ii, oNe_ii, if_true]
        rw [oDiv_ii (okDiv_of h0 hg h9), Int.fdiv_eq_ediv_of_nonneg _ gp]
        rfl)]
      simp only [defS, sSeq, sSet, sUnp, gT, gsCons, gsNil, gN, sPar2, sPar3, sAug, sExpr, sRet, sRetN, sPass, sBrk, sCnt, sIf, sRaise, fVar, fC, fBin, fUn, fTest, fTru, fNot, fAnd, fOr, fAndV, fOrV, fChain, fIf, fCall, fCallL, fCallD, fIsi, isT, tyN, aNil, aCons, bind_ok, bind_err, bind_bad, then_ok, then_err, then_bad, sbind_nx, sbind_rt, sbind_bk, sbind_ct, sbind_err, sbind_bad, List.map_cons, List.map_nil, List.length_cons, List.length_nil, List.cons_append, List.nil_append, List.replicate_succ, List.replicate_zero, List.getElem?_cons_zero, List.getElem?_cons_succ, List.set_cons_zero, List.set_cons_succ, Nat.reduceSub, Nat.reduceAdd, if_pos, if_true, if_false, Bool.false_eq_true, ite_true, ite_false, reduceIte, Option.some.injEq, oGcd_ii, oMax_ii, oMin_ii, oInt_i, oLt_ii, oLe_ii, oGt_ii, oGe_ii, oAddU_ii, oSub_ii, oNeg_i, asB_b, tru_b, oNotV_b, oIx_t0, oIx_t1, oIx_t2, oIx_l0, datas_nil, datas_cons, oLen_l, oLen_t, oTuple_l, wipeS, tidy_same, cut_same, cut_app, oEq_ii, oNe_ii, if_true]
      rw [this]
      unfold eR
      rw [List.map_map]
      exact trim_d hm
def Bd (b : Nat) (r : Row) : Prop := ∀ n ∈ r, n.natAbs < 2 ^ b
theorem Bd.mono {b c : Nat} {r : Row} (h : Bd b r) (hc : b ≤ c) : Bd c r := fun n hn => Nat.lt_of_lt_of_le (h n hn) (Nat.pow_le_pow_right (by decide) hc)
theorem getD_lt {b : Nat} {r : Row} (h : Bd b r) (j : Nat) : (r.getD j 0).natAbs < 2 ^ b := by
  rw [List.getD_eq_getElem?_getD]
  cases e : r[j]? with
  | none => exact Nat.two_pow_pos b
  | some n => exact h n (List.mem_of_getElem? e)
theorem bd_slim {b : Nat} {r : Row} (h : Bd b r) : Bd b (slimL r) := by
  unfold slimL
  split
  · exact h
  · intro n hn
    obtain ⟨k, hk, rfl⟩ := List.mem_map.mp hn
    exact Nat.lt_of_le_of_lt natAbs_ediv_le (h k hk)
theorem sub_lt {a c d e : Int} {b : Nat} (ha : a.natAbs < 2 ^ b) (hc : c.natAbs < 2 ^ b) (hd : d.natAbs < 2 ^ b) (he : e.natAbs < 2 ^ b) : (a * c - d * e).natAbs < 2 ^ (2 * b + 1) := by
  have h1 := mul_lt_pow ha hc
  have h2 := mul_lt_pow hd he
  rw [← Int.natAbs_mul] at h1 h2
  have := Int.natAbs_sub_le (a * c) (d * e)
  have e : 2 ^ (2 * b + 1) = 2 ^ (b + b) * 2 := by
    rw [Nat.pow_succ, Nat.two_mul]
  omega
theorem bd_clr0 {b : Nat} {r p : Row} {col : Nat} (hr : Bd b r) (hp : Bd b p) : Bd (2 * b + 1) (clr0 r p col) := by
  intro n hn
  unfold clr0 at hn
  obtain ⟨i, hi, rfl⟩ := List.mem_iff_getElem.mp hn
  rw [List.getElem_zipWith]
  exact sub_lt (Nat.lt_of_le_of_lt natAbs_ediv_le (getD_lt hp col)) (hr _ (List.getElem_mem _)) (Nat.lt_of_le_of_lt natAbs_ediv_le (getD_lt hr col)) (hp _ (List.getElem_mem _))
theorem bd_clr {b : Nat} {r p : Row} {col : Nat} (hr : Bd b r) (hp : Bd b p) : Bd (2 * b + 1) (clrL r p col) := by
  unfold clrL
  split
  · exact hr.mono (by omega)
  · exact bd_slim (bd_clr0 hr hp)
theorem ix_row {r : Row} {col : Nat} {m : MM} (h : col < r.length) : oIx (.d (eR r)) (.d (.int (col : Int))) m = .ok (.d (.int (r.getD col 0))) m := by
  refine oIx_list ?_
  rw [List.getElem?_map, List.getElem?_eq_getElem h, List.getD_eq_getElem?_getD, List.getElem?_eq_getElem h]
  rfl
theorem cleared_ok {r p : Row} {col : Nat} {m : MM} {b : Nat} (hm : okM m) (hr : Bd b r) (hp : Bd b p) (h9 : 2 * b + 1 < 8999) (hl : r.length = p.length) (hc : col < r.length) (hcap : r.length ≤ cap) (h0 : p.getD col 0 ≠ 0) :
    m_cleared [.d (eR r), .d (eR p), .d (.int (col : Int))] m = .ok (.d (eR (clrL r p col))) m := by
  unfold m_cleared s_cleared
  simp only [defS, sSeq, sSet, sUnp, gT, gsCons, gsNil, gN, sPar2, sPar3, sAug, sExpr, sRet, sRetN, sPass, sBrk, sCnt, sIf, sRaise, fVar, fC, fBin, fUn, fTest, fTru, fNot, fAnd, fOr, fAndV, fOrV, fChain, fIf, fCall, fCallL, fCallD, fIsi, isT, tyN, aNil, aCons, bind_ok, bind_err, bind_bad, then_ok, then_err, then_bad, sbind_nx, sbind_rt, sbind_bk, sbind_ct, sbind_err, sbind_bad, List.map_cons, List.map_nil, List.length_cons, List.length_nil, List.cons_append, List.nil_append, List.replicate_succ, List.replicate_zero, List.getElem?_cons_zero, List.getElem?_cons_succ, List.set_cons_zero, List.set_cons_succ, Nat.reduceSub, Nat.reduceAdd, if_pos, if_true, if_false, Bool.false_eq_true, ite_true, ite_false, reduceIte, Option.some.injEq, oGcd_ii, oMax_ii, oMin_ii, oInt_i, oLt_ii, oLe_ii, oGt_ii, oGe_ii, oAddU_ii, oSub_ii, oNeg_i, asB_b, tru_b, oNotV_b, oIx_t0, oIx_t1, oIx_t2, oIx_l0, datas_nil, datas_cons, oLen_l, oLen_t, oTuple_l, wipeS, tidy_same, cut_same, cut_app, oEq_ii, oNe_ii, ix_row hc]
  unfold clrL
  by_cases h : r.getD col 0 = 0
  · rw [decide_eq_true h, if_pos h]
    simp only [defS, sSeq, sSet, sUnp, gT, gsCons, gsNil, gN, sPar2, sPar3, sAug, sExpr, sRet, sRetN, sPass, sBrk, sCnt, sIf, sRaise, fVar, fC, fBin, fUn, fTest, fTru, fNot, fAnd, fOr, fAndV, fOrV, fChain, fIf, fCall, fCallL, fCallD, fIsi, isT, tyN, aNil, aCons, bind_ok, bind_err, bind_bad, then_ok, then_err, then_bad, sbind_nx, sbind_rt, sbind_bk, sbind_ct, sbind_err, sbind_bad, List.map_cons, List.map_nil, List.length_cons, List.length_nil, List.cons_append, List.nil_append, List.replicate_succ, List.replicate_zero, List.getElem?_cons_zero, List.getElem?_cons_succ, List.set_cons_zero, List.set_cons_succ, Nat.reduceSub, Nat.reduceAdd, if_pos, if_true, if_false, Bool.false_eq_true, ite_true, ite_false, reduceIte, Option.some.injEq, oGcd_ii, oMax_ii, oMin_ii, oInt_i, oLt_ii, oLe_ii, oGt_ii, oGe_ii, oAddU_ii, oSub_ii, oNeg_i, asB_b, tru_b, oNotV_b, oIx_t0, oIx_t1, oIx_t2, oIx_l0, datas_nil, datas_cons, oLen_l, oLen_t, oTuple_l, wipeS, tidy_same, cut_same, cut_app, oEq_ii, oNe_ii, if_true]
    exact trim_d hm
  · rw [decide_eq_false h, if_neg h]
    have hc2 : col < p.length := by omega
    simp only [defS, sSeq, sSet, sUnp, gT, gsCons, gsNil, gN, sPar2, sPar3, sAug, sExpr, sRet, sRetN, sPass, sBrk, sCnt, sIf, sRaise, fVar, fC, fBin, fUn, fTest, fTru, fNot, fAnd, fOr, fAndV, fOrV, fChain, fIf, fCall, fCallL, fCallD, fIsi, isT, tyN, aNil, aCons, bind_ok, bind_err, bind_bad, then_ok, then_err, then_bad, sbind_nx, sbind_rt, sbind_bk, sbind_ct, sbind_err, sbind_bad, List.map_cons, List.map_nil, List.length_cons, List.length_nil, List.cons_append, List.nil_append, List.replicate_succ, List.replicate_zero, List.getElem?_cons_zero, List.getElem?_cons_succ, List.set_cons_zero, List.set_cons_succ, Nat.reduceSub, Nat.reduceAdd, if_pos, if_true, if_false, Bool.false_eq_true, ite_true, ite_false, reduceIte, Option.some.injEq, oGcd_ii, oMax_ii, oMin_ii, oInt_i, oLt_ii, oLe_ii, oGt_ii, oGe_ii, oAddU_ii, oSub_ii, oNeg_i, asB_b, tru_b, oNotV_b, oIx_t0, oIx_t1, oIx_t2, oIx_l0, datas_nil, datas_cons, oLen_l, oLen_t, oTuple_l, wipeS, tidy_same, cut_same, cut_app, oEq_ii, oNe_ii, ix_row hc, ix_row hc2]
    have g0 : ((Int.gcd (r.getD col 0) (p.getD col 0) : Nat) : Int) ≠ 0 := by
      have : Int.gcd (r.getD col 0) (p.getD col 0) ≠ 0 := fun e => h0 (Int.gcd_eq_zero_iff.mp e).2
      omega
    have gb : ((Int.gcd (r.getD col 0) (p.getD col 0) : Nat) : Int).natAbs < 2 ^ b := by
      have := Nat.le_of_dvd (by omega : 0 < (p.getD col 0).natAbs) (Int.gcd_dvd_natAbs_right (r.getD col 0) (p.getD col 0))
      have := getD_lt hp col
      omega
    rw [oDiv_ii (okDiv_of g0 gb (by omega : b < 8999))]
    simp only [defS, sSeq, sSet, sUnp, gT, gsCons, gsNil, gN, sPar2, sPar3, sAug, sExpr, sRet, sRetN, sPass, sBrk, sCnt, sIf, sRaise, fVar, fC, fBin, fUn, fTest, fTru, fNot, fAnd, fOr, fAndV, fOrV, fChain, fIf, fCall, fCallL, fCallD, fIsi, isT, tyN, aNil, aCons, bind_ok, bind_err, bind_bad, then_ok, then_err, then_bad, sbind_nx, sbind_rt, sbind_bk, sbind_ct, sbind_err, sbind_bad, List.map_cons, List.map_nil, List.length_cons, List.length_nil, List.cons_append, List.nil_append, List.replicate_succ, List.replicate_zero, List.getElem?_cons_zero, List.getElem?_cons_succ, List.set_cons_zero, List.set_cons_succ, Nat.reduceSub, Nat.reduceAdd, if_pos, if_true, if_false, Bool.false_eq_true, ite_true, ite_false, reduceIte, Option.some.injEq, oGcd_ii, oMax_ii, oMin_ii, oInt_i, oLt_ii, oLe_ii, oGt_ii, oGe_ii, oAddU_ii, oSub_ii, oNeg_i, asB_b, tru_b, oNotV_b, oIx_t0, oIx_t1, oIx_t2, oIx_l0, datas_nil, datas_cons, oLen_l, oLen_t, oTuple_l, wipeS, tidy_same, cut_same, cut_app, oEq_ii, oNe_ii, if_true]
    rw [oDiv_ii (okDiv_of g0 gb (by omega : b < 8999)), Int.fdiv_eq_ediv_of_nonneg _ (by omega), Int.fdiv_eq_ediv_of_nonneg _ (by omega)]
    simp only [defS, sSeq, sSet, sUnp, gT, gsCons, gsNil, gN, sPar2, sPar3, sAug, sExpr, sRet, sRetN, sPass, sBrk, sCnt, sIf, sRaise, fVar, fC, fBin, fUn, fTest, fTru, fNot, fAnd, fOr, fAndV, fOrV, fChain, fIf, fCall, fCallL, fCallD, fIsi, isT, tyN, aNil, aCons, bind_ok, bind_err, bind_bad, then_ok, then_err, then_bad, sbind_nx, sbind_rt, sbind_bk, sbind_ct, sbind_err, sbind_bad, List.map_cons, List.map_nil, List.length_cons, List.length_nil, List.cons_append, List.nil_append, List.replicate_succ, List.replicate_zero, List.getElem?_cons_zero, List.getElem?_cons_succ, List.set_cons_zero, List.set_cons_succ, Nat.reduceSub, Nat.reduceAdd, if_pos, if_true, if_false, Bool.false_eq_true, ite_true, ite_false, reduceIte, Option.some.injEq, oGcd_ii, oMax_ii, oMin_ii, oInt_i, oLt_ii, oLe_ii, oGt_ii, oGe_ii, oAddU_ii, oSub_ii, oNeg_i, asB_b, tru_b, oNotV_b, oIx_t0, oIx_t1, oIx_t2, oIx_l0, datas_nil, datas_cons, oLen_l, oLen_t, oTuple_l, wipeS, tidy_same, cut_same, cut_app, oEq_ii, oNe_ii, if_true]
    have hz : zipD (r.map .int) (p.map .int) = (List.zip r p).map fun q => PyData.tuple [.int q.1, .int q.2] := by
      unfold zipD
      rw [List.zipWith_map]
      simp [List.zip, List.map_zipWith]
    rw [fz_comp (xs := List.zip r p) (enc := fun q => PyData.tuple [.int q.1, .int q.2]) (g := fun q => .int (p.getD col 0 / ((Int.gcd (r.getD col 0) (p.getD col 0) : Nat) : Int) * q.1 - r.getD col 0 / ((Int.gcd (r.getD col 0) (p.getD col 0) : Nat) : Int) * q.2))]
    · simp only [defS, sSeq, sSet, sUnp, gT, gsCons, gsNil, gN, sPar2, sPar3, sAug, sExpr, sRet, sRetN, sPass, sBrk, sCnt, sIf, sRaise, fVar, fC, fBin, fUn, fTest, fTru, fNot, fAnd, fOr, fAndV, fOrV, fChain, fIf, fCall, fCallL, fCallD, fIsi, isT, tyN, aNil, aCons, bind_ok, bind_err, bind_bad, then_ok, then_err, then_bad, sbind_nx, sbind_rt, sbind_bk, sbind_ct, sbind_err, sbind_bad, List.map_cons, List.map_nil, List.length_cons, List.length_nil, List.cons_append, List.nil_append, List.replicate_succ, List.replicate_zero, List.getElem?_cons_zero, List.getElem?_cons_succ, List.set_cons_zero, List.set_cons_succ, Nat.reduceSub, Nat.reduceAdd, if_pos, if_true, if_false, Bool.false_eq_true, ite_true, ite_false, reduceIte, Option.some.injEq, oGcd_ii, oMax_ii, oMin_ii, oInt_i, oLt_ii, oLe_ii, oGt_ii, oGe_ii, oAddU_ii, oSub_ii, oNeg_i, asB_b, tru_b, oNotV_b, oIx_t0, oIx_t1, oIx_t2, oIx_l0, datas_nil, datas_cons, oLen_l, oLen_t, oTuple_l, wipeS, tidy_same, cut_same, cut_app, oEq_ii, oNe_ii, if_true]
      have e : PyData.list ((List.zip r p).map fun q => .int (p.getD col 0 / ((Int.gcd (r.getD col 0) (p.getD col 0) : Nat) : Int) * q.1 - r.getD col 0 / ((Int.gcd (r.getD col 0) (p.getD col 0) : Nat) : Int) * q.2)) = eR (clr0 r p col) := by
        unfold eR clr0
        simp [List.zip, List.map_zipWith]
      rw [e, slim_ok hm (bd_clr0 hr hp) h9 (by unfold clr0; rw [List.length_zipWith]; omega)]
      simp only [defS, sSeq, sSet, sUnp, gT, gsCons, gsNil, gN, sPar2, sPar3, sAug, sExpr, sRet, sRetN, sPass, sBrk, sCnt, sIf, sRaise, fVar, fC, fBin, fUn, fTest, fTru, fNot, fAnd, fOr, fAndV, fOrV, fChain, fIf, fCall, fCallL, fCallD, fIsi, isT, tyN, aNil, aCons, bind_ok, bind_err, bind_bad, then_ok, then_err, then_bad, sbind_nx, sbind_rt, sbind_bk, sbind_ct, sbind_err, sbind_bad, List.map_cons, List.map_nil, List.length_cons, List.length_nil, List.cons_append, List.nil_append, List.replicate_succ, List.replicate_zero, List.getElem?_cons_zero, List.getElem?_cons_succ, List.set_cons_zero, List.set_cons_succ, Nat.reduceSub, Nat.reduceAdd, if_pos, if_true, if_false, Bool.false_eq_true, ite_true, ite_false, reduceIte, Option.some.injEq, oGcd_ii, oMax_ii, oMin_ii, oInt_i, oLt_ii, oLe_ii, oGt_ii, oGe_ii, oAddU_ii, oSub_ii, oNeg_i, asB_b, tru_b, oNotV_b, oIx_t0, oIx_t1, oIx_t2, oIx_l0, datas_nil, datas_cons, oLen_l, oLen_t, oTuple_l, wipeS, tidy_same, cut_same, cut_app, oEq_ii, oNe_ii, if_true]
      exact trim_d hm
    · unfold iZip
      simp only [defS, sSeq, sSet, sUnp, gT, gsCons, gsNil, gN, sPar2, sPar3, sAug, sExpr, sRet, sRetN, sPass, sBrk, sCnt, sIf, sRaise, fVar, fC, fBin, fUn, fTest, fTru, fNot, fAnd, fOr, fAndV, fOrV, fChain, fIf, fCall, fCallL, fCallD, fIsi, isT, tyN, aNil, aCons, bind_ok, bind_err, bind_bad, then_ok, then_err, then_bad, sbind_nx, sbind_rt, sbind_bk, sbind_ct, sbind_err, sbind_bad, List.map_cons, List.map_nil, List.length_cons, List.length_nil, List.cons_append, List.nil_append, List.replicate_succ, List.replicate_zero, List.getElem?_cons_zero, List.getElem?_cons_succ, List.set_cons_zero, List.set_cons_succ, Nat.reduceSub, Nat.reduceAdd, if_pos, if_true, if_false, Bool.false_eq_true, ite_true, ite_false, reduceIte, Option.some.injEq, oGcd_ii, oMax_ii, oMin_ii, oInt_i, oLt_ii, oLe_ii, oGt_ii, oGe_ii, oAddU_ii, oSub_ii, oNeg_i, asB_b, tru_b, oNotV_b, oIx_t0, oIx_t1, oIx_t2, oIx_l0, datas_nil, datas_cons, oLen_l, oLen_t, oTuple_l, wipeS, tidy_same, cut_same, cut_app, oEq_ii, oNe_ii, if_true]
      have a1 : seqD (.d (eR r)) = some (r.map .int) := rfl
      have a2 : seqD (.d (eR p)) = some (p.map .int) := rfl
      rw [a1, a2, ← hz]
    · rw [List.length_zip]
      omega
    · intro q hq
      obtain ⟨q1, q2⟩ := List.of_mem_zip (a := q.1) (b := q.2) hq
      refine ⟨_, rfl, rfl, ?_⟩
      have u1 : (p.getD col 0 / ((Int.gcd (r.getD col 0) (p.getD col 0) : Nat) : Int)).natAbs < 2 ^ b := Nat.lt_of_le_of_lt natAbs_ediv_le (getD_lt hp col)
      have u2 : (r.getD col 0 / ((Int.gcd (r.getD col 0) (p.getD col 0) : Nat) : Int)).natAbs < 2 ^ b := Nat.lt_of_le_of_lt natAbs_ediv_le (getD_lt hr col)
      simp only [defS, sSeq, sSet, sUnp, gT, gsCons, gsNil, gN, sPar2, sPar3, sAug, sExpr, sRet, sRetN, sPass, sBrk, sCnt, sIf, sRaise, fVar, fC, fBin, fUn, fTest, fTru, fNot, fAnd, fOr, fAndV, fOrV, fChain, fIf, fCall, fCallL, fCallD, fIsi, isT, tyN, aNil, aCons, bind_ok, bind_err, bind_bad, then_ok, then_err, then_bad, sbind_nx, sbind_rt, sbind_bk, sbind_ct, sbind_err, sbind_bad, List.map_cons, List.map_nil, List.length_cons, List.length_nil, List.cons_append, List.nil_append, List.replicate_succ, List.replicate_zero, List.getElem?_cons_zero, List.getElem?_cons_succ, List.set_cons_zero, List.set_cons_succ, Nat.reduceSub, Nat.reduceAdd, if_pos, if_true, if_false, Bool.false_eq_true, ite_true, ite_false, reduceIte, Option.some.injEq, oGcd_ii, oMax_ii, oMin_ii, oInt_i, oLt_ii, oLe_ii, oGt_ii, oGe_ii, oAddU_ii, oSub_ii, oNeg_i, asB_b, tru_b, oNotV_b, oIx_t0, oIx_t1, oIx_t2, oIx_l0, datas_nil, datas_cons, oLen_l, oLen_t, oTuple_l, wipeS, tidy_same, cut_same, cut_app, oEq_ii, oNe_ii, oMulU_ii (okMul_of u1 (hr _ q1) (by omega)), oMulU_ii (okMul_of u2 (hp _ q2) (by omega))]

theorem pick_at {col : Nat} : ∀ (l : List Row) (k : Nat), (∀ i, i < k → (l.getD i []).getD col 0 = 0) → k < l.length → (l.getD k []).getD col 0 ≠ 0 → pick col l = some (l.getD k [], l.take k ++ l.drop (k + 1))
  | [], k, _, h, _ => absurd h (Nat.not_lt_zero _)
  | r :: l, 0, _, _, h => by
    unfold pick
    have h' : r.getD col 0 ≠ 0 := h
    rw [if_pos h']
    rfl
  | r :: l, k + 1, hz, hk, h => by
    unfold pick
    have z0 : r.getD col 0 = 0 := hz 0 (by omega)
    rw [if_neg (by rw [z0]; decide), pick_at l k (fun i hi => hz (i + 1) (by omega)) (by rw [List.length_cons] at hk; omega) h]
    rfl
theorem pick_no {col : Nat} : ∀ (l : List Row), (∀ i, i < l.length → (l.getD i []).getD col 0 = 0) → pick col l = none
  | [], _ => rfl
  | r :: l, hz => by
    unfold pick
    have z0 : r.getD col 0 = 0 := hz 0 (by rw [List.length_cons]; omega)
    rw [if_neg (by rw [z0]; decide), pick_no l fun i hi => hz (i + 1) (by rw [List.length_cons]; omega)]
def bnd (b : Nat) : Nat → Nat
  | 0 => b
  | k + 1 => 2 * bnd b k + 1
theorem bnd_mono {b j k : Nat} (h : j ≤ k) : bnd b j ≤ bnd b k := by
  induction k with
  | zero =>
    have : j = 0 := by omega
    subst this
    exact Nat.le_refl _
  | succ k ih =>
    rcases Nat.lt_or_ge j (k + 1) with q | q
    · have := ih (by omega)
      show bnd b j ≤ 2 * bnd b k + 1
      omega
    · have : j = k + 1 := by omega
      subst this
      exact Nat.le_refl _
theorem elim_bd {n b : Nat} {rows : List Row} (hn : ∀ r ∈ rows, r.length = n) (hb : ∀ r ∈ rows, Bd b r) : ∀ k, (∀ q ∈ (elim rows k).dc, Bd (bnd b k) q.1) ∧ ∀ r ∈ (elim rows k).left, Bd (bnd b k) r
  | 0 => by
    have no : ∀ q, q ∈ (elim rows 0).dc → False := fun q h => by cases h
    exact ⟨fun q h => (no q h).elim, hb⟩
  | k + 1 => by
    obtain ⟨h1, h2⟩ := elim_bd hn hb k
    show (∀ q ∈ ((elim rows k).step k).dc, Bd (2 * bnd b k + 1) q.1) ∧ ∀ r ∈ ((elim rows k).step k).left, Bd (2 * bnd b k + 1) r
    unfold El.step
    split
    · exact ⟨fun q h => (h1 q h).mono (by omega), fun r h => (h2 r h).mono (by omega)⟩
    · rename_i p os e
      obtain ⟨_, hm, _⟩ := pick_some e
      have bp := h2 p ((hm p).mpr (.inl rfl))
      refine ⟨fun q h => ?_, fun r h => ?_⟩
      · rcases List.mem_append.mp h with h | h
        · obtain ⟨q0, hq, rfl⟩ := List.mem_map.mp h
          exact bd_clr (h1 q0 hq) bp
        · rw [List.mem_singleton.mp h]
          exact bp.mono (by omega)
      · obtain ⟨r0, hr, rfl⟩ := List.mem_map.mp h
        exact bd_clr (h2 r0 ((hm r0).mpr (.inr hr))) bp
theorem getD_eM {R : List Row} {k : Nat} {m : MM} (h : k < R.length) : oIx (.d (eM R)) (.d (.int (k : Int))) m = .ok (.d (eR (R.getD k []))) m := by
  refine oIx_list ?_
  rw [List.getElem?_map, List.getElem?_eq_getElem h, List.getD_eq_getElem?_getD, List.getElem?_eq_getElem h]
  rfl
theorem len_eM {R : List Row} {m : MM} : oLen [.d (eM R)] m = .ok (.d (.int (R.length : Nat))) m := by
  unfold eM
  rw [oLen_l, List.length_map]
theorem seek_ok {R : List Row} {col : Nat} {x0 x1 x2 x4 x7 x8 x9 : Option SV} {m : MM} (hc : ∀ r ∈ R, col < r.length) (hl : R.length < 1000000) :
    ∃ k, k ≤ R.length ∧ (∀ i, i < k → (R.getD i []).getD col 0 = 0) ∧ (k < R.length → (R.getD k []).getD col 0 ≠ 0) ∧
      sWhile [] turns (fAnd (fTest (fBin oLt (fVar 6) (fCall oLen (aCons (fVar 3) aNil)))) (fTest (fBin oEq (fBin oIx (fBin oIx (fVar 3) (fVar 6)) (fVar 5)) (fC (.int 0))))) (sAug 6 (fun a b => a + b) (fC (.int 1)))
        [x0, x1, x2, some (.d (eM R)), x4, some (.d (.int (col : Nat))), some (.d (.int 0)), x7, x8, x9] m = .nx [x0, x1, x2, some (.d (eM R)), x4, some (.d (.int (col : Nat))), some (.d (.int (k : Nat))), x7, x8, x9] m := by
  have hlt : ∀ (k : Nat) (x6 : Option SV), x6 = some (.d (.int (k : Nat))) → fTest (fBin oLt (fVar 6) (fCall oLen (aCons (fVar 3) aNil))) [x0, x1, x2, some (.d (eM R)), x4, some (.d (.int (col : Nat))), x6, x7, x8, x9] m = .ok (decide ((k : Int) < (R.length : Nat))) m := by
    intro k x6 e
    subst e
    simp only [defS, sSeq, sSet, sUnp, gT, gsCons, gsNil, gN, sPar2, sPar3, sAug, sExpr, sRet, sRetN, sPass, sBrk, sCnt, sIf, sRaise, fVar, fC, fBin, fUn, fTest, fTru, fNot, fAnd, fOr, fAndV, fOrV, fChain, fIf, fCall, fCallL, fCallD, fIsi, isT, tyN, aNil, aCons, bind_ok, bind_err, bind_bad, then_ok, then_err, then_bad, sbind_nx, sbind_rt, sbind_bk, sbind_ct, sbind_err, sbind_bad, List.map_cons, List.map_nil, List.length_cons, List.length_nil, List.cons_append, List.nil_append, List.replicate_succ, List.replicate_zero, List.getElem?_cons_zero, List.getElem?_cons_succ, List.set_cons_zero, List.set_cons_succ, Nat.reduceSub, Nat.reduceAdd, if_pos, if_true, if_false, Bool.false_eq_true, ite_true, ite_false, reduceIte, Option.some.injEq, oGcd_ii, oMax_ii, oMin_ii, oInt_i, oLt_ii, oLe_ii, oGt_ii, oGe_ii, oAddU_ii, oSub_ii, oNeg_i, asB_b, tru_b, oNotV_b, oIx_t0, oIx_t1, oIx_t2, oIx_l0, datas_nil, datas_cons, oLen_l, oLen_t, oTuple_l, wipeS, tidy_same, cut_same, cut_app, oEq_ii, oNe_ii, len_eM]
  have heq : ∀ (k : Nat), k < R.length → fTest (fBin oEq (fBin oIx (fBin oIx (fVar 3) (fVar 6)) (fVar 5)) (fC (.int 0))) [x0, x1, x2, some (.d (eM R)), x4, some (.d (.int (col : Nat))), some (.d (.int (k : Nat))), x7, x8, x9] m = .ok (decide ((R.getD k []).getD col 0 = 0)) m := by
    intro k hk
    have hmem : R.getD k [] ∈ R := getD_mem hk
    simp only [defS, sSeq, sSet, sUnp, gT, gsCons, gsNil, gN, sPar2, sPar3, sAug, sExpr, sRet, sRetN, sPass, sBrk, sCnt, sIf, sRaise, fVar, fC, fBin, fUn, fTest, fTru, fNot, fAnd, fOr, fAndV, fOrV, fChain, fIf, fCall, fCallL, fCallD, fIsi, isT, tyN, aNil, aCons, bind_ok, bind_err, bind_bad, then_ok, then_err, then_bad, sbind_nx, sbind_rt, sbind_bk, sbind_ct, sbind_err, sbind_bad, List.map_cons, List.map_nil, List.length_cons, List.length_nil, List.cons_append, List.nil_append, List.replicate_succ, List.replicate_zero, List.getElem?_cons_zero, List.getElem?_cons_succ, List.set_cons_zero, List.set_cons_succ, Nat.reduceSub, Nat.reduceAdd, if_pos, if_true, if_false, Bool.false_eq_true, ite_true, ite_false, reduceIte, Option.some.injEq, oGcd_ii, oMax_ii, oMin_ii, oInt_i, oLt_ii, oLe_ii, oGt_ii, oGe_ii, oAddU_ii, oSub_ii, oNeg_i, asB_b, tru_b, oNotV_b, oIx_t0, oIx_t1, oIx_t2, oIx_l0, datas_nil, datas_cons, oLen_l, oLen_t, oTuple_l, wipeS, tidy_same, cut_same, cut_app, oEq_ii, oNe_ii, getD_eM hk, ix_row (hc _ hmem)]
  have h := while_inv (cl := []) (t := fAnd (fTest (fBin oLt (fVar 6) (fCall oLen (aCons (fVar 3) aNil)))) (fTest (fBin oEq (fBin oIx (fBin oIx (fVar 3) (fVar 6)) (fVar 5)) (fC (.int 0))))) (body := sAug 6 (fun a b => a + b) (fC (.int 1)))
    (P := fun n ρ m' => m' = m ∧ ∃ k : Nat, ρ = [x0, x1, x2, some (.d (eM R)), x4, some (.d (.int (col : Nat))), some (.d (.int (k : Nat))), x7, x8, x9] ∧ k ≤ R.length ∧ (∀ i, i < k → (R.getD i []).getD col 0 = 0) ∧ (n = 0 → k < R.length → (R.getD k []).getD col 0 ≠ 0) ∧ (n ≠ 0 → n = R.length - k + 1))
    (fun n ρ m' ⟨em, k, e, hk, hz, _, hn⟩ => by
      subst em
      subst e
      have hn := hn (by omega)
      by_cases hk2 : k < R.length
      · have l1 := hlt k _ rfl
        rw [decide_eq_true (by omega : (k : Int) < (R.length : Int))] at l1
        by_cases h0 : (R.getD k []).getD col 0 = 0
        · refine .inr ⟨m', ?_, [x0, x1, x2, some (.d (eM R)), x4, some (.d (.int (col : Nat))), some (.d (.int ((k + 1 : Nat) : Int))), x7, x8, x9], m', .inl ?_, tidy_same, k + 1, rfl, by omega, fun i hi => ?_, fun z => by omega, fun z => by omega⟩
          · rw [and_yes l1, heq k hk2, decide_eq_true h0]
          · simp only [defS, sSeq, sSet, sUnp, gT, gsCons, gsNil, gN, sPar2, sPar3, sAug, sExpr, sRet, sRetN, sPass, sBrk, sCnt, sIf, sRaise, fVar, fC, fBin, fUn, fTest, fTru, fNot, fAnd, fOr, fAndV, fOrV, fChain, fIf, fCall, fCallL, fCallD, fIsi, isT, tyN, aNil, aCons, bind_ok, bind_err, bind_bad, then_ok, then_err, then_bad, sbind_nx, sbind_rt, sbind_bk, sbind_ct, sbind_err, sbind_bad, List.map_cons, List.map_nil, List.length_cons, List.length_nil, List.cons_append, List.nil_append, List.replicate_succ, List.replicate_zero, List.getElem?_cons_zero, List.getElem?_cons_succ, List.set_cons_zero, List.set_cons_succ, Nat.reduceSub, Nat.reduceAdd, if_pos, if_true, if_false, Bool.false_eq_true, ite_true, ite_false, reduceIte, Option.some.injEq, oGcd_ii, oMax_ii, oMin_ii, oInt_i, oLt_ii, oLe_ii, oGt_ii, oGe_ii, oAddU_ii, oSub_ii, oNeg_i, asB_b, tru_b, oNotV_b, oIx_t0, oIx_t1, oIx_t2, oIx_l0, datas_nil, datas_cons, oLen_l, oLen_t, oTuple_l, wipeS, tidy_same, cut_same, cut_app, oEq_ii, oNe_ii, if_true]
            rfl
          · rcases Nat.lt_or_ge i k with q | q
            · exact hz i q
            · have : i = k := by omega
              rw [this]
              exact h0
        · refine .inl ⟨m', ?_, rfl, k, rfl, hk, hz, fun _ _ => h0, fun z => absurd rfl z⟩
          rw [and_yes l1, heq k hk2, decide_eq_false h0]
      · refine .inl ⟨m', ?_, rfl, k, rfl, hk, hz, fun _ z => absurd z hk2, fun z => absurd rfl z⟩
        have l1 := hlt k _ rfl
        rw [decide_eq_false (by omega : ¬ (k : Int) < (R.length : Int))] at l1
        exact and_no l1)
    (fun ρ m' ⟨em, k, e, hk, hz, h0, hn⟩ => by
      subst em
      subst e
      refine ⟨m', ?_, rfl, k, rfl, hk, hz, h0, hn⟩
      have l1 := hlt k _ rfl
      by_cases hk2 : k < R.length
      · rw [decide_eq_true (by omega : (k : Int) < (R.length : Int))] at l1
        rw [and_yes l1, heq k hk2, decide_eq_false (h0 rfl hk2)]
      · rw [decide_eq_false (by omega : ¬ (k : Int) < (R.length : Int))] at l1
        exact and_no l1)
    (R.length + 1) turns [x0, x1, x2, some (.d (eM R)), x4, some (.d (.int (col : Nat))), some (.d (.int 0)), x7, x8, x9] m (by have := turns_le; omega)
    ⟨rfl, 0, rfl, by omega, fun i hi => by omega, fun z => by omega, fun _ => by omega⟩
  obtain ⟨ρ', m', e, em, k, e2, hk, hz, h0, _⟩ := h
  subst em
  subst e2
  exact ⟨k, hk, hz, h0 rfl, e⟩
end Mn

set_option Elab.async false
set_option linter.all false
set_option maxRecDepth 100000
set_option autoImplicit false
set_option maxHeartbeats 2000000
namespace Mn
open PySem WK Lin
theorem eM_map {R : List Row} {f : Row → Row} : PyData.list (R.map fun r => eR (f r)) = eM (R.map f) := by
  unfold eM
  rw [List.map_map]
  rfl
theorem eM_app {R T : List Row} : PyData.list (R.map eR ++ T.map eR) = eM (R ++ T) := by
  unfold eM
  rw [List.map_append]
def colsO (e : El) : MO := .lst (e.dc.map fun q => .d (.int (q.2 : Nat)))
theorem elim_step_ok {rows : List Row} {n b col : Nat} {m : MM} {x0 x1 z6 z7 z8 z9 : Option SV} (hm : okM m) (hn : ∀ r ∈ rows, r.length = n) (hc : col < n) (hcap : n ≤ cap) (hr : rows.length < cap) (hb : ∀ r ∈ rows, Bd b r) (h9 : bnd b (col + 1) < 8999) :
    ∃ z6' z7' z8' z9', (sSeq (sSet 6 (fC (.int 0)))
  (sSeq (sWhile [] turns (fAnd (fTest (fBin oLt (fVar 6) (fCall oLen (aCons (fVar 3) aNil)))) (fTest (fBin oEq (fBin oIx (fBin oIx (fVar 3) (fVar 6)) (fVar 5)) (fC (.int 0)))))
  (sAug 6 (fun a b => a + b) (fC (.int 1))))
  (sIf (fTest (fBin oLt (fVar 6) (fCall oLen (aCons (fVar 3) aNil))))
  (sSeq (sSet 7 (fBin oIx (fVar 3) (fVar 6)))
  (sSeq (sSet 8 (fBin oAddU (fSl (fVar 3) pNone (pSome (fVar 6))) (fSl (fVar 3) (pSome (fBin oAddU (fVar 6) (fC (.int 1)))) pNone)))
  (sSeq (sSet 3 (fFz (fComp (iSeq (fVar 8)) (gN 9) [9] tYesF (fCallD 3 m_cleared (aCons (fVar 9) (aCons (fVar 7) (aCons (fVar 5) aNil)))))))
  (sSeq (sSet 2 (fBin oAddU (fFz (fComp (iSeq (fVar 2)) (gN 9) [9] tYesF (fCallD 3 m_cleared (aCons (fVar 9) (aCons (fVar 7) (aCons (fVar 5) aNil)))))) (fFz (fLst (aCons (fVar 7) aNil)))))
  (sExpr (fApp (fVar 4) (fVar 5)))))))
  sPass))) [x0, x1, some (.d (eM ((elim rows col).dc.map (·.1)))), some (.d (eM (elim rows col).left)), some (.o m.length), some (.d (.int (col : Nat))), z6, z7, z8, z9] (m ++ [colsO (elim rows col)]) =
    .nx [x0, x1, some (.d (eM ((elim rows (col + 1)).dc.map (·.1)))), some (.d (eM (elim rows (col + 1)).left)), some (.o m.length), some (.d (.int (col : Nat))), z6', z7', z8', z9'] (m ++ [colsO (elim rows (col + 1))]) := by
  have I := elim_inv hn col
  obtain ⟨b1, b2⟩ := elim_bd hn hb col
  have hm' : okM (m ++ [colsO (elim rows col)]) := okM_lst hm
  have cnt := I.cnt
  have e1 : (elim rows (col + 1)) = (elim rows col).step col := rfl
  rw [e1]
  generalize elim rows col = e at *
  obtain ⟨k, hk, hz, h0, hs⟩ := seek_ok (R := e.left) (col := col) (x0 := x0) (x1 := x1) (x2 := some (.d (eM (e.dc.map (·.1))))) (x4 := some (.o m.length)) (x7 := z7) (x8 := z8) (x9 := z9) (m := m ++ [colsO e]) (fun r hr => by rw [I.ll r hr]; exact hc) (by
    have : cap = 10000 := rfl
    omega)
  have ht : fTest (fBin oLt (fVar 6) (fCall oLen (aCons (fVar 3) aNil))) [x0, x1, some (.d (eM (e.dc.map (·.1)))), some (.d (eM e.left)), some (.o m.length), some (.d (.int (col : Nat))), some (.d (.int (k : Nat))), z7, z8, z9] (m ++ [colsO e]) = .ok (decide ((k : Int) < (e.left.length : Nat))) (m ++ [colsO e]) := by
    simp only [defS, sSeq, sSet, sUnp, gT, gsCons, gsNil, gN, sPar2, sPar3, sAug, sExpr, sRet, sRetN, sPass, sBrk, sCnt, sIf, sRaise, fVar, fC, fBin, fUn, fTest, fTru, fNot, fAnd, fOr, fAndV, fOrV, fChain, fIf, fCall, fCallL, fCallD, fIsi, isT, tyN, aNil, aCons, bind_ok, bind_err, bind_bad, then_ok, then_err, then_bad, sbind_nx, sbind_rt, sbind_bk, sbind_ct, sbind_err, sbind_bad, List.map_cons, List.map_nil, List.length_cons, List.length_nil, List.cons_append, List.nil_append, List.replicate_succ, List.replicate_zero, List.getElem?_cons_zero, List.getElem?_cons_succ, List.set_cons_zero, List.set_cons_succ, Nat.reduceSub, Nat.reduceAdd, if_pos, if_true, if_false, Bool.false_eq_true, ite_true, ite_false, reduceIte, Option.some.injEq, oGcd_ii, oMax_ii, oMin_ii, oInt_i, oLt_ii, oLe_ii, oGt_ii, oGe_ii, oAddU_ii, oSub_ii, oNeg_i, asB_b, tru_b, oNotV_b, oIx_t0, oIx_t1, oIx_t2, oIx_l0, datas_nil, datas_cons, oLen_l, oLen_t, oTuple_l, wipeS, tidy_same, cut_same, cut_app, oEq_ii, oNe_ii, len_eM]
  by_cases hk2 : k < e.left.length
  · rw [decide_eq_true (by omega : (k : Int) < (e.left.length : Nat))] at ht
    have hp := h0 hk2
    have pk := pick_at e.left k hz hk2 hp
    have st : e.step col = ⟨e.dc.map (fun q => (clrL q.1 (e.left.getD k []) col, q.2)) ++ [(e.left.getD k [], col)], (e.left.take k ++ e.left.drop (k + 1)).map fun r => clrL r (e.left.getD k []) col⟩ := by
      unfold El.step
      rw [pk]
    rw [st]
    have hmem : e.left.getD k [] ∈ e.left := getD_mem hk2
    have bnd' : bnd b (col + 1) = 2 * bnd b col + 1 := rfl
    have clr : ∀ r, Bd (bnd b col) r → r.length = n → ∀ mm, okM mm → m_cleared [.d (eR r), .d (eR (e.left.getD k [])), .d (.int (col : Int))] mm = .ok (.d (eR (clrL r (e.left.getD k []) col))) mm := fun r hb hl mm hmm =>
      cleared_ok hmm hb (b2 _ hmem) (by omega) (by rw [hl, I.ll _ hmem]) (by omega) (by omega) hp
    refine ⟨some (.d (.int (k : Nat))), some (.d (eR (e.left.getD k []))), some (.d (eM (e.left.take k ++ e.left.drop (k + 1)))), z9, ?_⟩
    refine step_set (x := .d (.int 0)) (m1 := m ++ [colsO e]) rfl rfl (step_nx hs ?_)
    rw [if_yes ht]
    refine step_set (x := .d (eR (e.left.getD k []))) (m1 := m ++ [colsO e]) (by simp only [defS, sSeq, sSet, sUnp, gT, gsCons, gsNil, gN, sPar2, sPar3, sAug, sExpr, sRet, sRetN, sPass, sBrk, sCnt, sIf, sRaise, fVar, fC, fBin, fUn, fTest, fTru, fNot, fAnd, fOr, fAndV, fOrV, fChain, fIf, fCall, fCallL, fCallD, fIsi, isT, tyN, aNil, aCons, bind_ok, bind_err, bind_bad, then_ok, then_err, then_bad, sbind_nx, sbind_rt, sbind_bk, sbind_ct, sbind_err, sbind_bad, List.map_cons, List.map_nil, List.length_cons, List.length_nil, List.cons_append, List.nil_append, List.replicate_succ, List.replicate_zero, List.getElem?_cons_zero, List.getElem?_cons_succ, List.set_cons_zero, List.set_cons_succ, Nat.reduceSub, Nat.reduceAdd, if_pos, if_true, if_false, Bool.false_eq_true, ite_true, ite_false, reduceIte, Option.some.injEq, oGcd_ii, oMax_ii, oMin_ii, oInt_i, oLt_ii, oLe_ii, oGt_ii, oGe_ii, oAddU_ii, oSub_ii, oNeg_i, asB_b, tru_b, oNotV_b, oIx_t0, oIx_t1, oIx_t2, oIx_l0, datas_nil, datas_cons, oLen_l, oLen_t, oTuple_l, wipeS, tidy_same, cut_same, cut_app, oEq_ii, oNe_ii, getD_eM hk2]) rfl ?_
    refine step_set (x := .d (eM (e.left.take k ++ e.left.drop (k + 1)))) (m1 := m ++ [colsO e]) ?_ rfl ?_
    · rw [bin_ok (take_ok (ds := e.left.map eR) (k := k) rfl rfl (by rw [List.length_map]; omega)) (drop_ok (ds := e.left.map eR) (k := k + 1) rfl rfl), oAddU_ll, ← List.map_take, ← List.map_drop, eM_app]
      rw [List.length_take, List.length_drop, List.length_map]
      omega
    refine step_set (x := .d (eM ((e.left.take k ++ e.left.drop (k + 1)).map fun r => clrL r (e.left.getD k []) col))) (m1 := m ++ [colsO e]) ?_ rfl ?_
    · rw [← eM_map]
      refine fz_compN (enc := eR) (g := fun r => eR (clrL r (e.left.getD k []) col)) (iSeq_ok rfl rfl) ?_ fun r hrm => ?_
      · rw [List.length_append, List.length_take, List.length_drop]
        omega
      · have hrl : r ∈ e.left := by
          rcases List.mem_append.mp hrm with h | h
          · exact List.mem_of_mem_take h
          · exact List.mem_of_mem_drop h
        simp only [defS, sSeq, sSet, sUnp, gT, gsCons, gsNil, gN, sPar2, sPar3, sAug, sExpr, sRet, sRetN, sPass, sBrk, sCnt, sIf, sRaise, fVar, fC, fBin, fUn, fTest, fTru, fNot, fAnd, fOr, fAndV, fOrV, fChain, fIf, fCall, fCallL, fCallD, fIsi, isT, tyN, aNil, aCons, bind_ok, bind_err, bind_bad, then_ok, then_err, then_bad, sbind_nx, sbind_rt, sbind_bk, sbind_ct, sbind_err, sbind_bad, List.map_cons, List.map_nil, List.length_cons, List.length_nil, List.cons_append, List.nil_append, List.replicate_succ, List.replicate_zero, List.getElem?_cons_zero, List.getElem?_cons_succ, List.set_cons_zero, List.set_cons_succ, Nat.reduceSub, Nat.reduceAdd, if_pos, if_true, if_false, Bool.false_eq_true, ite_true, ite_false, reduceIte, Option.some.injEq, oGcd_ii, oMax_ii, oMin_ii, oInt_i, oLt_ii, oLe_ii, oGt_ii, oGe_ii, oAddU_ii, oSub_ii, oNeg_i, asB_b, tru_b, oNotV_b, oIx_t0, oIx_t1, oIx_t2, oIx_l0, datas_nil, datas_cons, oLen_l, oLen_t, oTuple_l, wipeS, tidy_same, cut_same, cut_app, oEq_ii, oNe_ii, if_true]
        rw [clr r (b2 r hrl) (I.ll r hrl) _ hm']
    refine step_set (x := .d (eM ((e.dc.map (·.1)).map (fun r => clrL r (e.left.getD k []) col) ++ [e.left.getD k []]))) (m1 := m ++ [colsO e]) ?_ rfl ?_
    · rw [bin_ok (m1 := m ++ [colsO e]) (m2 := m ++ [colsO e]) (x := .d (eM ((e.dc.map (·.1)).map fun r => clrL r (e.left.getD k []) col))) (y := .d (.list [eR (e.left.getD k [])])) ?_ ?_]
      · have := oAddU_ll (m := m ++ [colsO e]) (ds := (((e.dc.map (·.1)).map fun r => clrL r (e.left.getD k []) col)).map eR) (es := [e.left.getD k []].map eR) (by
          simp only [List.length_map, List.length_cons, List.length_nil]
          omega)
        rw [eM_app] at this
        exact this
      · refine Eq.trans (fz_compN (xs := e.dc.map (·.1)) (enc := eR) (g := fun r => eR (clrL r (e.left.getD k []) col)) ?_ ?_ fun r hrm => ?_) (by rw [eM_map])
        · exact iSeq_ok (x := eM (e.dc.map (·.1))) rfl rfl
        · rw [List.length_map]
          omega
        · obtain ⟨q, hq, rfl⟩ := List.mem_map.mp hrm
          simp only [defS, sSeq, sSet, sUnp, gT, gsCons, gsNil, gN, sPar2, sPar3, sAug, sExpr, sRet, sRetN, sPass, sBrk, sCnt, sIf, sRaise, fVar, fC, fBin, fUn, fTest, fTru, fNot, fAnd, fOr, fAndV, fOrV, fChain, fIf, fCall, fCallL, fCallD, fIsi, isT, tyN, aNil, aCons, bind_ok, bind_err, bind_bad, then_ok, then_err, then_bad, sbind_nx, sbind_rt, sbind_bk, sbind_ct, sbind_err, sbind_bad, List.map_cons, List.map_nil, List.length_cons, List.length_nil, List.cons_append, List.nil_append, List.replicate_succ, List.replicate_zero, List.getElem?_cons_zero, List.getElem?_cons_succ, List.set_cons_zero, List.set_cons_succ, Nat.reduceSub, Nat.reduceAdd, if_pos, if_true, if_false, Bool.false_eq_true, ite_true, ite_false, reduceIte, Option.some.injEq, oGcd_ii, oMax_ii, oMin_ii, oInt_i, oLt_ii, oLe_ii, oGt_ii, oGe_ii, oAddU_ii, oSub_ii, oNeg_i, asB_b, tru_b, oNotV_b, oIx_t0, oIx_t1, oIx_t2, oIx_l0, datas_nil, datas_cons, oLen_l, oLen_t, oTuple_l, wipeS, tidy_same, cut_same, cut_app, oEq_ii, oNe_ii, if_true]
          rw [clr q.1 (b1 q hq) (I.ld q hq) _ hm']
      · exact fz_ok (lst_ok (xs := [.d (eR (e.left.getD k []))]) rfl (by show 1 ≤ 10000; omega))
    refine Eq.trans (expr_ok (x := .d .none) (m1 := (m ++ [colsO e]).set m.length (.lst ((e.dc.map fun q => .d (.int (q.2 : Nat))) ++ [.d (.int (col : Nat))]))) ?_) ?_
    · refine app_ok (n := m.length) (xs := e.dc.map fun q => .d (.int (q.2 : Nat))) (y := .d (.int (col : Nat))) ?_ ?_ ?_ ?_
      · rfl
      · exact get_app
      · rfl
      · rw [List.length_map]
        omega
    rw [set_app]
    have c1 : (e.dc.map fun q => SV.d (.int (q.2 : Nat))) ++ [SV.d (.int (col : Nat))] = (e.dc.map (fun q => (clrL q.1 (e.left.getD k []) col, q.2)) ++ [(e.left.getD k [], col)]).map fun q => SV.d (.int (q.2 : Nat)) := by
      rw [List.map_append, List.map_map]
      rfl
    have c2 : (e.dc.map (·.1)).map (fun r => clrL r (e.left.getD k []) col) ++ [e.left.getD k []] = (e.dc.map (fun q => (clrL q.1 (e.left.getD k []) col, q.2)) ++ [(e.left.getD k [], col)]).map (·.1) := by
      rw [List.map_append, List.map_map, List.map_map]
      rfl
    unfold colsO
    rw [c1, c2]
    rfl
  · rw [decide_eq_false (by omega : ¬ (k : Int) < (e.left.length : Nat))] at ht
    have pk := pick_no e.left fun i hi => hz i (by omega)
    have st : e.step col = e := by
      unfold El.step
      rw [pk]
    rw [st]
    refine ⟨some (.d (.int (k : Nat))), z7, z8, z9, ?_⟩
    refine step_set (x := .d (.int 0)) (m1 := m ++ [colsO e]) rfl rfl (step_nx hs ?_)
    rw [if_no ht]
    rfl
theorem eliminated_ok {rows : List Row} {n width b : Nat} {m : MM} (hm : okM m) (hn : ∀ r ∈ rows, r.length = n) (hw : width ≤ n) (hcap : n ≤ cap) (hr : rows.length < cap) (hb : ∀ r ∈ rows, Bd b r) (h9 : bnd b width < 8999) :
    m_eliminated [.d (eM rows), .d (.int (width : Nat))] m = .ok (.d (.tuple [eM ((elim rows width).dc.map (·.1)), eM (elim rows width).left, .list ((elim rows width).dc.map fun q => .int (q.2 : Nat))])) m := by
  have h : ∃ ρ' m', forS [5, 6, 7, 8] (gN 5) _ ((List.range width).map fun i => PyData.int (i : Nat)) [some (.d (eM rows)), some (.d (.int (width : Nat))), some (.d (eM [])), some (.d (eM rows)), some (.o m.length), none, none, none, none, none] (m ++ [colsO (elim rows 0)]) = .nx ρ' m' ∧ _ :=
    for_inv (cl := [5, 6, 7, 8]) (tg := gN 5) (enc := fun i => PyData.int (i : Nat)) (fun k ρ m' => k ≤ width ∧ m' = m ++ [colsO (elim rows k)] ∧ ∃ z5 z6 z7 z8 z9, ρ = [some (.d (eM rows)), some (.d (.int (width : Nat))), some (.d (eM ((elim rows k).dc.map (·.1)))), some (.d (eM (elim rows k).left)), some (.o m.length), z5, z6, z7, z8, z9]) (List.range width) 0 [some (.d (eM rows)), some (.d (.int (width : Nat))), some (.d (eM [])), some (.d (eM rows)), some (.o m.length), none, none, none, none, none] (m ++ [colsO (elim rows 0)])
      ⟨Nat.zero_le _, rfl, none, none, none, none, none, rfl⟩
      fun i x ρ m' hx ⟨hi, em, z5, z6, z7, z8, z9, eρ⟩ => by
        subst em
        subst eρ
        rw [Nat.zero_add] at *
        obtain ⟨hi2, ex⟩ := List.getElem?_eq_some_iff.mp hx
        rw [List.length_range] at hi2
        rw [List.getElem_range] at ex
        subst ex
        obtain ⟨z6', z7', z8', z9', e⟩ := elim_step_ok (col := i) (x0 := some (.d (eM rows))) (x1 := some (.d (.int (width : Nat)))) (z6 := z6) (z7 := z7) (z8 := z8) (z9 := z9) (m := m) hm hn (by omega) hcap hr hb (Nat.lt_of_le_of_lt (bnd_mono (by omega)) h9)
        exact ⟨_, rfl, _, _, .inl e, by omega, tidy_len (by rw [List.length_append, List.length_append]; rfl), none, none, none, none, z9', rfl⟩
  obtain ⟨ρ', m', e, _, em, z5, z6, z7, z8, z9, eρ⟩ := h
  rw [List.length_range, Nat.zero_add] at em eρ
  subst em
  subst eρ
  unfold m_eliminated s_eliminated
  have first : sPar3 2 3 4 (aCons (fFz (fLst aNil)) (aCons (fFz (fCallL oList (aCons (fVar 0) aNil))) (aCons (fOwn (fLst aNil)) aNil))) [some (.d (eM rows)), some (.d (.int (width : Nat))), none, none, none, none, none, none, none, none] m =
      .nx [some (.d (eM rows)), some (.d (.int (width : Nat))), some (.d (eM [])), some (.d (eM rows)), some (.o m.length), none, none, none, none, none] (m ++ [colsO (elim rows 0)]) := by
    have f1 : fFz (fLst aNil) [some (.d (eM rows)), some (.d (.int (width : Nat))), none, none, none, none, none, none, none, none] m = .ok (.d (eM [])) m := fz_ok (lst_ok (xs := []) rfl (Nat.zero_le _))
    have f2 : fFz (fCallL oList (aCons (fVar 0) aNil)) [some (.d (eM rows)), some (.d (.int (width : Nat))), none, none, none, none, none, none, none, none] m = .ok (.d (eM rows)) m := fz_ok rfl
    have f3 : fOwn (fLst aNil) [some (.d (eM rows)), some (.d (.int (width : Nat))), none, none, none, none, none, none, none, none] m = .ok (.o m.length) (m ++ [colsO (elim rows 0)]) := by
      unfold fOwn
      rw [lst_ok (xs := []) rfl (Nat.zero_le _)]
      rfl
    exact par3_ok (acons_ok f1 (acons_ok f2 (acons_ok f3 rfl))) rfl
  unfold defS
  have r0 : ([SV.d (eM rows), SV.d (.int (width : Nat))].map some ++ List.replicate (10 - [SV.d (eM rows), SV.d (.int (width : Nat))].length) none : SE) = [some (.d (eM rows)), some (.d (.int (width : Nat))), none, none, none, none, none, none, none, none] := rfl
  rw [r0, seq_nx first]
  have second := range_ok (fa := aCons (fVar 1) aNil) (ρ := [some (.d (eM rows)), some (.d (.int (width : Nat))), some (.d (eM [])), some (.d (eM rows)), some (.o m.length), none, none, none, none, none]) (m := m ++ [colsO (elim rows 0)]) (k := width) rfl (by
    have : cap = 10000 := rfl
    omega)
  rw [seq_nx (show sFor _ _ _ _ _ _ = _ from by
    unfold sFor
    rw [second, then_ok]
    exact e)]
  unfold sFrz
  have g4 : ([some (.d (eM rows)), some (.d (.int (width : Nat))), some (.d (eM ((elim rows width).dc.map (·.1)))), some (.d (eM (elim rows width).left)), some (.o m.length), z5, z6, z7, z8, z9] : SE)[4]? = some (some (.o m.length)) := rfl
  rw [g4]
  dsimp only
  rw [get_app]
  unfold colsO
  dsimp only
  rw [datas_mapd (fun q : Row × Nat => PyData.int (q.2 : Nat)) (elim rows width).dc, set_app]
  dsimp only
  unfold sRet
  rw [fTup_3 (m1 := m ++ [.gone]) (a := eM ((elim rows width).dc.map (·.1))) (b := eM (elim rows width).left) (c := .list ((elim rows width).dc.map fun q => .int (q.2 : Nat))) rfl]
  dsimp only [then_ok]
  exact trim_app hm rfl
end Mn

set_option Elab.async false
set_option linter.all false
set_option maxRecDepth 100000
set_option autoImplicit false
set_option maxHeartbeats 2000000
namespace Mn
open PySem WK Lin
theorem eQ1 : eQ 1 = .tuple [.int 1, .int 1] := rfl
theorem eQ0 : eQ 0 = .tuple [.int 0, .int 1] := rfl
def unitL (n i : Nat) : List Rat := (List.range n).map fun j => if j = i then 1 else 0
theorem unit_ok {n i : Nat} {m : MM} (hm : okM m) (hn : n ≤ cap) : m_unit [.d (.int (n : Nat)), .d (.int (i : Nat))] m = .ok (.d (.list ((unitL n i).map eQ))) m := by
  have e : fFz (fComp (iRange1 (aCons (fVar 0) aNil)) (gN 2) [2] tYesF (fIf (fTest (fBin oEq (fVar 2) (fVar 1))) (fC (.tuple [(.int 1), (.int 1)])) (fC (.tuple [(.int 0), (.int 1)])))) [some (.d (.int (n : Nat))), some (.d (.int (i : Nat))), none] m = .ok (.d (.list ((List.range n).map fun j => eQ (if j = i then 1 else 0)))) m := by
    refine fz_compN (xs := List.range n) (enc := fun j => PyData.int (j : Nat)) (g := fun j => eQ (if j = i then 1 else 0)) ?_ ?_ fun j hj => ?_
    · exact range_ok rfl (by
        have : cap = 10000 := rfl
        omega)
    · rw [List.length_range]
      exact hn
    · by_cases h : j = i
      · simp only [defS, sSeq, sSet, sUnp, gT, gsCons, gsNil, gN, sPar2, sPar3, sAug, sExpr, sRet, sRetN, sPass, sBrk, sCnt, sIf, sRaise, fVar, fC, fBin, fUn, fTest, fTru, fNot, fAnd, fOr, fAndV, fOrV, fChain, fIf, fCall, fCallL, fCallD, fIsi, isT, tyN, aNil, aCons, bind_ok, bind_err, bind_bad, then_ok, then_err, then_bad, sbind_nx, sbind_rt, sbind_bk, sbind_ct, sbind_err, sbind_bad, List.map_cons, List.map_nil, List.length_cons, List.length_nil, List.cons_append, List.nil_append, List.replicate_succ, List.replicate_zero, List.getElem?_cons_zero, List.getElem?_cons_succ, List.set_cons_zero, List.set_cons_succ, Nat.reduceSub, Nat.reduceAdd, if_pos, if_true, if_false, Bool.false_eq_true, ite_true, ite_false, reduceIte, Option.some.injEq, oGcd_ii, oMax_ii, oMin_ii, oInt_i, oLt_ii, oLe_ii, oGt_ii, oGe_ii, oAddU_ii, oSub_ii, oNeg_i, asB_b, tru_b, oNotV_b, oIx_t0, oIx_t1, oIx_t2, oIx_l0, datas_nil, datas_cons, oLen_l, oLen_t, oTuple_l, wipeS, tidy_same, cut_same, cut_app, oEq_ii, oNe_ii, if_true]
        rw [decide_eq_true (by omega : (j : Int) = (i : Int)), if_pos h, eQ1]
        simp only [defS, sSeq, sSet, sUnp, gT, gsCons, gsNil, gN, sPar2, sPar3, sAug, sExpr, sRet, sRetN, sPass, sBrk, sCnt, sIf, sRaise, fVar, fC, fBin, fUn, fTest, fTru, fNot, fAnd, fOr, fAndV, fOrV, fChain, fIf, fCall, fCallL, fCallD, fIsi, isT, tyN, aNil, aCons, bind_ok, bind_err, bind_bad, then_ok, then_err, then_bad, sbind_nx, sbind_rt, sbind_bk, sbind_ct, sbind_err, sbind_bad, List.map_cons, List.map_nil, List.length_cons, List.length_nil, List.cons_append, List.nil_append, List.replicate_succ, List.replicate_zero, List.getElem?_cons_zero, List.getElem?_cons_succ, List.set_cons_zero, List.set_cons_succ, Nat.reduceSub, Nat.reduceAdd, if_pos, if_true, if_false, Bool.false_eq_true, ite_true, ite_false, reduceIte, Option.some.injEq, oGcd_ii, oMax_ii, oMin_ii, oInt_i, oLt_ii, oLe_ii, oGt_ii, oGe_ii, oAddU_ii, oSub_ii, oNeg_i, asB_b, tru_b, oNotV_b, oIx_t0, oIx_t1, oIx_t2, oIx_l0, datas_nil, datas_cons, oLen_l, oLen_t, oTuple_l, wipeS, tidy_same, cut_same, cut_app, oEq_ii, oNe_ii, if_true]
      · simp only [defS, sSeq, sSet, sUnp, gT, gsCons, gsNil, gN, sPar2, sPar3, sAug, sExpr, sRet, sRetN, sPass, sBrk, sCnt, sIf, sRaise, fVar, fC, fBin, fUn, fTest, fTru, fNot, fAnd, fOr, fAndV, fOrV, fChain, fIf, fCall, fCallL, fCallD, fIsi, isT, tyN, aNil, aCons, bind_ok, bind_err, bind_bad, then_ok, then_err, then_bad, sbind_nx, sbind_rt, sbind_bk, sbind_ct, sbind_err, sbind_bad, List.map_cons, List.map_nil, List.length_cons, List.length_nil, List.cons_append, List.nil_append, List.replicate_succ, List.replicate_zero, List.getElem?_cons_zero, List.getElem?_cons_succ, List.set_cons_zero, List.set_cons_succ, Nat.reduceSub, Nat.reduceAdd, if_pos, if_true, if_false, Bool.false_eq_true, ite_true, ite_false, reduceIte, Option.some.injEq, oGcd_ii, oMax_ii, oMin_ii, oInt_i, oLt_ii, oLe_ii, oGt_ii, oGe_ii, oAddU_ii, oSub_ii, oNeg_i, asB_b, tru_b, oNotV_b, oIx_t0, oIx_t1, oIx_t2, oIx_l0, datas_nil, datas_cons, oLen_l, oLen_t, oTuple_l, wipeS, tidy_same, cut_same, cut_app, oEq_ii, oNe_ii, if_true]
        rw [decide_eq_false (by omega : ¬ (j : Int) = (i : Int)), if_neg h, eQ0]
        simp only [defS, sSeq, sSet, sUnp, gT, gsCons, gsNil, gN, sPar2, sPar3, sAug, sExpr, sRet, sRetN, sPass, sBrk, sCnt, sIf, sRaise, fVar, fC, fBin, fUn, fTest, fTru, fNot, fAnd, fOr, fAndV, fOrV, fChain, fIf, fCall, fCallL, fCallD, fIsi, isT, tyN, aNil, aCons, bind_ok, bind_err, bind_bad, then_ok, then_err, then_bad, sbind_nx, sbind_rt, sbind_bk, sbind_ct, sbind_err, sbind_bad, List.map_cons, List.map_nil, List.length_cons, List.length_nil, List.cons_append, List.nil_append, List.replicate_succ, List.replicate_zero, List.getElem?_cons_zero, List.getElem?_cons_succ, List.set_cons_zero, List.set_cons_succ, Nat.reduceSub, Nat.reduceAdd, if_pos, if_true, if_false, Bool.false_eq_true, ite_true, ite_false, reduceIte, Option.some.injEq, oGcd_ii, oMax_ii, oMin_ii, oInt_i, oLt_ii, oLe_ii, oGt_ii, oGe_ii, oAddU_ii, oSub_ii, oNeg_i, asB_b, tru_b, oNotV_b, oIx_t0, oIx_t1, oIx_t2, oIx_l0, datas_nil, datas_cons, oLen_l, oLen_t, oTuple_l, wipeS, tidy_same, cut_same, cut_app, oEq_ii, oNe_ii, if_true]
  have e1 : s_unit [some (.d (.int (n : Nat))), some (.d (.int (i : Nat))), none] m = .rt (.d (.list ((List.range n).map fun j => eQ (if j = i then 1 else 0)))) m := by
    unfold s_unit
    exact ret_ok e
  unfold m_unit unitL
  rw [def_rt (s := s_unit) (ρ := [some (.d (.int (n : Nat))), some (.d (.int (i : Nat))), none]) rfl e1, List.map_map]
  exact trim_d hm
def lowL (r : List Rat) : Nat := r.foldl (fun l q => Nat.lcm l q.den) 1
def wholeL (r : List Rat) : Row := r.map fun q => q.num * ((lowL r / q.den : Nat) : Int)
theorem low_fold_dvd : ∀ (r : List Rat) (l : Nat), (l ∣ r.foldl (fun l q => Nat.lcm l q.den) l) ∧ (∀ q ∈ r, q.den ∣ r.foldl (fun l q => Nat.lcm l q.den) l) ∧ ∀ L, l ∣ L → (∀ q ∈ r, q.den ∣ L) → r.foldl (fun l q => Nat.lcm l q.den) l ∣ L
  | [], l => ⟨Nat.dvd_refl _, fun q h => (by cases h), fun L h _ => h⟩
  | a :: r, l => by
    obtain ⟨h1, h2, h3⟩ := low_fold_dvd r (Nat.lcm l a.den)
    refine ⟨Nat.dvd_trans (Nat.dvd_lcm_left ..) h1, fun q hq => ?_, fun L h h' => h3 L (Nat.lcm_dvd h (h' a (List.mem_cons_self ..))) fun q hq => h' q (List.mem_cons_of_mem _ hq)⟩
    rcases List.mem_cons.mp hq with rfl | hq
    · exact Nat.dvd_trans (Nat.dvd_lcm_right ..) h1
    · exact h2 q hq
theorem low_pos (r : List Rat) {L : Nat} (hL : 0 < L) (h : ∀ q ∈ r, q.den ∣ L) : 0 < lowL r ∧ lowL r ≤ L := by
  have := (low_fold_dvd r 1).2.2 L (Nat.one_dvd _) h
  exact ⟨Nat.pos_of_dvd_of_pos this hL, Nat.le_of_dvd hL this⟩
theorem whole_len (r : List Rat) : (wholeL r).length = r.length := List.length_map ..
theorem whole_at {r : List Rat} {j : Nat} (hj : j < r.length) : at_ (wholeL r) j = ((lowL r : Nat) : Int) * r.getD j 0 := by
  unfold at_ wholeL
  rw [List.getD_eq_getElem?_getD, List.getElem?_map, List.getElem?_eq_getElem hj, List.getD_eq_getElem?_getD, List.getElem?_eq_getElem hj]
  simp only [Option.map_some, Option.getD_some]
  obtain ⟨c, hc⟩ := (low_fold_dvd r 1).2.1 _ (List.getElem_mem hj)
  have hc : lowL r = r[j].den * c := hc
  have : lowL r / r[j].den = c := by
    rw [hc, Nat.mul_div_cancel_left _ r[j].den_pos]
  rw [this, hc]
  have e := rat_eq r[j]
  have n0 := den_ne r[j]
  have e1 : ((r[j].num * (c : Int) : Int) : Rat) = (r[j].num : Rat) * ((c : Int) : Rat) := by rw [Rat.intCast_mul]
  have e2 : ((((r[j].den * c : Nat) : Int)) : Rat) = ((r[j].den : Int) : Rat) * ((c : Int) : Rat) := by
    rw [← Rat.intCast_mul]
    rfl
  rw [e1, e2]
  generalize ((r[j].den : Int) : Rat) = p at *
  generalize (r[j].num : Rat) = x at *
  generalize ((c : Int) : Rat) = y at *
  rw [e]
  grind
theorem whole_bd {r : List Rat} {B L : Nat} (hL : 0 < L) (hL2 : L < 2 ^ 64) (h : ∀ q ∈ r, q.den ∣ L) (hs : ∀ q ∈ r, Sz B q) : Bd (B + 64) (wholeL r) := by
  intro n hn
  obtain ⟨q, hq, rfl⟩ := List.mem_map.mp hn
  rw [Int.natAbs_mul]
  refine mul_lt_pow (hs q hq).1 ?_
  have := low_pos r hL h
  have := Nat.div_le_self (lowL r) q.den
  rw [Int.natAbs_natCast]
  omega
theorem whole_ok {r : List Rat} {x : PyData} {m : MM} {B L : Nat} (hm : okM m) (hx : seqD (.d x) = some (r.map eQ)) (hc : r.length ≤ cap) (hL : 0 < L) (hL2 : L < 2 ^ 64) (h : ∀ q ∈ r, q.den ∣ L) (hs : ∀ q ∈ r, Sz B q) (hB : B < 8000) :
    m_whole [.d x] m = .ok (.d (.tuple [.int (lowL r : Nat), eR (wholeL r)])) m := by
  have loop : ∀ (t : List Rat) (l : Nat) (z : Option SV), l ∣ L → (∀ q ∈ t, q.den ∣ L) → ∃ z', forS [] (gN 2) (sSet 1 (fCall oLcm (aCons (fVar 1) (aCons (fBin oIx (fVar 2) (fC (.int 1))) aNil)))) (t.map eQ) [some (.d x), some (.d (.int (l : Nat))), z] m = .nx [some (.d x), some (.d (.int ((t.foldl (fun l q => Nat.lcm l q.den) l : Nat)))), z'] m := by
    intro t
    induction t with
    | nil => exact fun l z _ _ => ⟨z, rfl⟩
    | cons q t ih =>
      intro l z hl ht
      rw [List.map_cons]
      unfold forS
      have hq := ht q (List.mem_cons_self ..)
      have b1 := Nat.le_of_dvd hL hl
      have b2 := Nat.le_of_dvd hL hq
      have o : oLcm [.d (.int (l : Nat)), .d (.int (q.den : Nat))] m = .ok (.d (.int ((Nat.lcm l q.den : Nat) : Int))) m := oLcm_ii ⟨lt_lcmTop (k := 64) (by rw [Int.natAbs_natCast]; omega) (by decide), lt_lcmTop (k := 64) (by rw [Int.natAbs_natCast]; omega) (by decide)⟩
      have st : sSet 1 (fCall oLcm (aCons (fVar 1) (aCons (fBin oIx (fVar 2) (fC (.int 1))) aNil))) [some (.d x), some (.d (.int (l : Nat))), some (.d (eQ q))] m = .nx [some (.d x), some (.d (.int ((Nat.lcm l q.den : Nat) : Int))), some (.d (eQ q))] m := by
        have e : eQ q = .tuple [.int q.num, .int (q.den : Int)] := rfl
        rw [e]
        simp only [defS, sSeq, sSet, sUnp, gT, gsCons, gsNil, gN, sPar2, sPar3, sAug, sExpr, sRet, sRetN, sPass, sBrk, sCnt, sIf, sRaise, fVar, fC, fBin, fUn, fTest, fTru, fNot, fAnd, fOr, fAndV, fOrV, fChain, fIf, fCall, fCallL, fCallD, fIsi, isT, tyN, aNil, aCons, bind_ok, bind_err, bind_bad, then_ok, then_err, then_bad, sbind_nx, sbind_rt, sbind_bk, sbind_ct, sbind_err, sbind_bad, List.map_cons, List.map_nil, List.length_cons, List.length_nil, List.cons_append, List.nil_append, List.replicate_succ, List.replicate_zero, List.getElem?_cons_zero, List.getElem?_cons_succ, List.set_cons_zero, List.set_cons_succ, Nat.reduceSub, Nat.reduceAdd, if_pos, if_true, if_false, Bool.false_eq_true, ite_true, ite_false, reduceIte, Option.some.injEq, oGcd_ii, oMax_ii, oMin_ii, oInt_i, oLt_ii, oLe_ii, oGt_ii, oGe_ii, oAddU_ii, oSub_ii, oNeg_i, asB_b, tru_b, oNotV_b, oIx_t0, oIx_t1, oIx_t2, oIx_l0, datas_nil, datas_cons, oLen_l, oLen_t, oTuple_l, wipeS, tidy_same, cut_same, cut_app, oEq_ii, oNe_ii, o]
      have tg : gN 2 (eQ q) [some (.d x), some (.d (.int (l : Nat))), z] = some [some (.d x), some (.d (.int (l : Nat))), some (.d (eQ q))] := rfl
      rw [tg]
      dsimp only
      rw [st]
      dsimp only
      rw [List.foldl_cons, tidy_same]
      exact ih _ _ (Nat.lcm_dvd hl hq) fun y hy => ht y (List.mem_cons_of_mem _ hy)
  obtain ⟨z', e⟩ := loop r 1 none (Nat.one_dvd _) h
  have fl : sFor [] (iSeq (fVar 0)) (gN 2) (sSet 1 (fCall oLcm (aCons (fVar 1) (aCons (fBin oIx (fVar 2) (fC (.int 1))) aNil)))) [some (.d x), some (.d (.int 1)), none] m = .nx [some (.d x), some (.d (.int (lowL r : Nat))), z'] m := by
    unfold sFor
    rw [iSeq_ok (x := x) rfl hx, then_ok]
    exact e
  have lp := low_pos r hL h
  have cm : fFz (fComp (iSeq (fVar 0)) (gN 2) [2] tYesF (fBin oMulU (fBin oIx (fVar 2) (fC (.int 0))) (fBin oDiv (fVar 1) (fBin oIx (fVar 2) (fC (.int 1)))))) [some (.d x), some (.d (.int (lowL r : Nat))), z'] m = .ok (.d (eR (wholeL r))) m := by
    have := fz_compN (ρ := [some (.d x), some (.d (.int (lowL r : Nat))), z']) (m := m) (fi := iSeq (fVar 0)) (i := 2) (own := [2]) (fe := fBin oMulU (fBin oIx (fVar 2) (fC (.int 0))) (fBin oDiv (fVar 1) (fBin oIx (fVar 2) (fC (.int 1))))) (xs := r) (enc := eQ) (g := fun q => .int (q.num * ((lowL r / q.den : Nat) : Int))) (iSeq_ok (x := x) rfl hx) hc fun q hq => by
      have hd := Nat.le_of_dvd hL (h q hq)
      have d0 := den_pos' q
      have o1 : oDiv (.d (.int (lowL r : Nat))) (.d (.int (q.den : Int))) m = .ok (.d (.int ((lowL r / q.den : Nat) : Int))) m := by
        rw [oDiv_ii (okDiv_of (b := 64) (by omega) (by rw [Int.natAbs_natCast]; omega) (by omega)), Int.fdiv_eq_ediv_of_nonneg _ (by omega)]
        rfl
      have hdl := Nat.div_le_self (lowL r) q.den
      have o2 : oMulU (.d (.int q.num)) (.d (.int ((lowL r / q.den : Nat) : Int))) m = .ok (.d (.int (q.num * ((lowL r / q.den : Nat) : Int)))) m := oMulU_ii (okMul_of (hs q hq).1 (b := 64) (by rw [Int.natAbs_natCast]; omega) (by omega))
      have e : eQ q = .tuple [.int q.num, .int (q.den : Int)] := rfl
      rw [e]
      simp only [defS, sSeq, sSet, sUnp, gT, gsCons, gsNil, gN, sPar2, sPar3, sAug, sExpr, sRet, sRetN, sPass, sBrk, sCnt, sIf, sRaise, fVar, fC, fBin, fUn, fTest, fTru, fNot, fAnd, fOr, fAndV, fOrV, fChain, fIf, fCall, fCallL, fCallD, fIsi, isT, tyN, aNil, aCons, bind_ok, bind_err, bind_bad, then_ok, then_err, then_bad, sbind_nx, sbind_rt, sbind_bk, sbind_ct, sbind_err, sbind_bad, List.map_cons, List.map_nil, List.length_cons, List.length_nil, List.cons_append, List.nil_append, List.replicate_succ, List.replicate_zero, List.getElem?_cons_zero, List.getElem?_cons_succ, List.set_cons_zero, List.set_cons_succ, Nat.reduceSub, Nat.reduceAdd, if_pos, if_true, if_false, Bool.false_eq_true, ite_true, ite_false, reduceIte, Option.some.injEq, oGcd_ii, oMax_ii, oMin_ii, oInt_i, oLt_ii, oLe_ii, oGt_ii, oGe_ii, oAddU_ii, oSub_ii, oNeg_i, asB_b, tru_b, oNotV_b, oIx_t0, oIx_t1, oIx_t2, oIx_l0, datas_nil, datas_cons, oLen_l, oLen_t, oTuple_l, wipeS, tidy_same, cut_same, cut_app, oEq_ii, oNe_ii, o1, o2]
    rw [this]
    unfold eR wholeL
    rw [List.map_map]
    rfl
  have e1 : s_whole [some (.d x), none, none] m = .rt (.d (.tuple [.int (lowL r : Nat), eR (wholeL r)])) m := by
    unfold s_whole
    exact step_set (x := .d (.int 1)) (m1 := m) (ρ1 := [some (.d x), some (.d (.int 1)), none]) rfl rfl (step_nx fl (ret_ok (fTup_2 (acons_ok rfl (acons_ok cm rfl)))))
  unfold m_whole
  rw [def_rt (s := s_whole) (ρ := [some (.d x), none, none]) rfl e1]
  exact trim_d hm
end Mn

set_option Elab.async false
set_option linter.all false
set_option maxRecDepth 100000
set_option autoImplicit false
set_option maxHeartbeats 2000000
namespace Mn
open PySem PySem.Spec PyProof.Rows L2 WK Lin
theorem isi_ok {T : String} {f : EF} {ρ : SE} {m m1 : MM} {x : PyData} {b : Bool} (h : f ρ m = .ok (.d x) m1) (k : kitB (tyN x) T = some b) : fIsi T f ρ m = .ok (.d (.bool b)) m1 := by
  unfold fIsi
  rw [h, bind_ok]
  have e : isT T (.d x) m1 = kitB (tyN x) T := rfl
  rw [e, k]
theorem andV_yes {f g : EF} {ρ : SE} {m m1 : MM} (h : f ρ m = .ok (.d (.bool true)) m1) : fAndV f g ρ m = g ρ m1 := by
  unfold fAndV
  rw [h]
  rfl
theorem andV_no {f g : EF} {ρ : SE} {m m1 : MM} (h : f ρ m = .ok (.d (.bool false)) m1) : fAndV f g ρ m = .ok (.d (.bool false)) m1 := by
  unfold fAndV
  rw [h]
  rfl
theorem un_ok {op : SV → MM → R SV} {f : EF} {ρ : SE} {m m1 : MM} {x : SV} (h : f ρ m = .ok x m1) : fUn op f ρ m = op x m1 := by
  unfold fUn
  rw [h, bind_ok]
theorem ctl_ok {op : CF} {fa : AF} {ρ : SE} {m m1 : MM} {xs : List SV} (h : fa ρ m = .ok xs m1) : fCall op fa ρ m = op xs m1 := by
  unfold fCall
  rw [h, bind_ok]
theorem tru_ok {f : EF} {ρ : SE} {m m1 : MM} {b : Bool} (h : f ρ m = .ok (.d (.bool b)) m1) : fTru f ρ m = .ok b m1 := by
  unfold fTru
  rw [h, bind_ok]
  rfl
theorem integer_ok {i : Int} {m : MM} (hm : okM m) : m_is_integer [.d (.int i)] m = .ok (.d (.bool true)) m := by
  have e : s_is_integer [some (.d (.int i))] m = .rt (.d (.bool true)) m := by
    unfold s_is_integer
    refine ret_ok ?_
    rw [andV_yes (isi_ok (x := .int i) rfl (by rfl)), un_ok (isi_ok (x := .int i) rfl (b := false) (by rfl))]
    rfl
  unfold m_is_integer
  rw [def_rt (s := s_is_integer) (ρ := [some (.d (.int i))]) rfl e]
  exact trim_d hm
theorem is_ratio_ok {q : Rat} {m : MM} (hm : okM m) : m_is_ratio [.d (eQ q)] m = .ok (.d (.bool true)) m := by
  have e : s_is_ratio [some (.d (eQ q)), none, none] m = .rt (.d (.bool true)) m := by
    have e0 : eQ q = .tuple [.int q.num, .int (q.den : Int)] := rfl
    have t1 : fOr (fNot (fTru (fIsi "tuple" (fVar 0)))) (fTest (fBin oNe (fCall oLen (aCons (fVar 0) aNil)) (fC (.int 2)))) [some (.d (eQ q)), none, none] m = .ok false m := by
      rw [or_no (m1 := m)]
      · refine test_ok ?_
        rw [e0]
        simp only [defS, sSeq, sSet, sUnp, gT, gsCons, gsNil, gN, sPar2, sPar3, sAug, sExpr, sRet, sRetN, sPass, sBrk, sCnt, sIf, sRaise, fVar, fC, fBin, fUn, fTest, fTru, fNot, fAnd, fOr, fAndV, fOrV, fChain, fIf, fCall, fCallL, fCallD, fIsi, isT, tyN, aNil, aCons, bind_ok, bind_err, bind_bad, then_ok, then_err, then_bad, sbind_nx, sbind_rt, sbind_bk, sbind_ct, sbind_err, sbind_bad, List.map_cons, List.map_nil, List.length_cons, List.length_nil, List.cons_append, List.nil_append, List.replicate_succ, List.replicate_zero, List.getElem?_cons_zero, List.getElem?_cons_succ, List.set_cons_zero, List.set_cons_succ, Nat.reduceSub, Nat.reduceAdd, if_pos, if_true, if_false, Bool.false_eq_true, ite_true, ite_false, reduceIte, Option.some.injEq, oGcd_ii, oMax_ii, oMin_ii, oInt_i, oLt_ii, oLe_ii, oGt_ii, oGe_ii, oAddU_ii, oSub_ii, oNeg_i, asB_b, tru_b, oNotV_b, oIx_t0, oIx_t1, oIx_t2, oIx_l0, datas_nil, datas_cons, oLen_l, oLen_t, oTuple_l, wipeS, tidy_same, cut_same, cut_app, oEq_ii, oNe_ii, if_true]
        rfl
      · rw [not_ok (b := true)]
        · rfl
        · exact tru_ok (isi_ok (x := eQ q) rfl (by rfl))
    unfold s_is_ratio
    refine step_nx (ρ1 := [some (.d (eQ q)), none, none]) (m1 := m) ((if_no t1).trans rfl) (step_nx (ρ1 := [some (.d (eQ q)), some (.d (.int q.num)), some (.d (.int (q.den : Int)))]) (m1 := m) rfl (ret_ok ?_))
    refine (andV_yes (call_ok (m1 := m) (xs := [.d (.int q.num)]) rfl rfl (integer_ok hm))).trans ((andV_yes (call_ok (m1 := m) (xs := [.d (.int (q.den : Int))]) rfl rfl (integer_ok hm))).trans ?_)
    have d0 := den_pos' q
    have g1 : fBin oGt (fVar 2) (fC (.int 0)) [some (.d (eQ q)), some (.d (.int q.num)), some (.d (.int (q.den : Int)))] m = .ok (.d (.bool true)) m := by
      simp only [defS, sSeq, sSet, sUnp, gT, gsCons, gsNil, gN, sPar2, sPar3, sAug, sExpr, sRet, sRetN, sPass, sBrk, sCnt, sIf, sRaise, fVar, fC, fBin, fUn, fTest, fTru, fNot, fAnd, fOr, fAndV, fOrV, fChain, fIf, fCall, fCallL, fCallD, fIsi, isT, tyN, aNil, aCons, bind_ok, bind_err, bind_bad, then_ok, then_err, then_bad, sbind_nx, sbind_rt, sbind_bk, sbind_ct, sbind_err, sbind_bad, List.map_cons, List.map_nil, List.length_cons, List.length_nil, List.cons_append, List.nil_append, List.replicate_succ, List.replicate_zero, List.getElem?_cons_zero, List.getElem?_cons_succ, List.set_cons_zero, List.set_cons_succ, Nat.reduceSub, Nat.reduceAdd, if_pos, if_true, if_false, Bool.false_eq_true, ite_true, ite_false, reduceIte, Option.some.injEq, oGcd_ii, oMax_ii, oMin_ii, oInt_i, oLt_ii, oLe_ii, oGt_ii, oGe_ii, oAddU_ii, oSub_ii, oNeg_i, asB_b, tru_b, oNotV_b, oIx_t0, oIx_t1, oIx_t2, oIx_l0, datas_nil, datas_cons, oLen_l, oLen_t, oTuple_l, wipeS, tidy_same, cut_same, cut_app, oEq_ii, oNe_ii, if_true]
      rw [decide_eq_true d0]
    rw [andV_yes g1]
    simp only [defS, sSeq, sSet, sUnp, gT, gsCons, gsNil, gN, sPar2, sPar3, sAug, sExpr, sRet, sRetN, sPass, sBrk, sCnt, sIf, sRaise, fVar, fC, fBin, fUn, fTest, fTru, fNot, fAnd, fOr, fAndV, fOrV, fChain, fIf, fCall, fCallL, fCallD, fIsi, isT, tyN, aNil, aCons, bind_ok, bind_err, bind_bad, then_ok, then_err, then_bad, sbind_nx, sbind_rt, sbind_bk, sbind_ct, sbind_err, sbind_bad, List.map_cons, List.map_nil, List.length_cons, List.length_nil, List.cons_append, List.nil_append, List.replicate_succ, List.replicate_zero, List.getElem?_cons_zero, List.getElem?_cons_succ, List.set_cons_zero, List.set_cons_succ, Nat.reduceSub, Nat.reduceAdd, if_pos, if_true, if_false, Bool.false_eq_true, ite_true, ite_false, reduceIte, Option.some.injEq, oGcd_ii, oMax_ii, oMin_ii, oInt_i, oLt_ii, oLe_ii, oGt_ii, oGe_ii, oAddU_ii, oSub_ii, oNeg_i, asB_b, tru_b, oNotV_b, oIx_t0, oIx_t1, oIx_t2, oIx_l0, datas_nil, datas_cons, oLen_l, oLen_t, oTuple_l, wipeS, tidy_same, cut_same, cut_app, oEq_ii, oNe_ii, if_true]
    have g2 : ((Int.gcd q.num (q.den : Int) : Nat) : Int) = 1 := by
      have := q.reduced
      exact_mod_cast this
    rw [decide_eq_true g2]
  unfold m_is_ratio
  rw [def_rt (s := s_is_ratio) (ρ := [some (.d (eQ q)), none, none]) rfl e]
  exact trim_d hm
theorem bools_true {α : Type} : ∀ xs : List α, bools (xs.map fun _ => PyData.bool true) = some (xs.map fun _ => true)
  | [] => rfl
  | x :: r => by
    rw [List.map_cons, List.map_cons]
    unfold bools
    rw [bools_true r]
theorem oAll_true {α : Type} {xs : List α} {m : MM} : oAll [.d (.list (xs.map fun _ => PyData.bool true))] m = .ok (.d (.bool true)) m := by
  have e : oAll [.d (.list (xs.map fun _ => PyData.bool true))] m = (match bools (xs.map fun _ => PyData.bool true) with
    | some bs => .ok (.d (.bool (bs.all id))) m
    | none => .bad) := rfl
  rw [e, bools_true]
  have : (xs.map fun _ => true).all id = true := List.all_eq_true.mpr fun b hb => by
    obtain ⟨_, _, rfl⟩ := List.mem_map.mp hb
    rfl
  dsimp only
  rw [this]
theorem are_ok {r : List Rat} {n : Nat} {m : MM} (hm : okM m) (hl : r.length = n) (hc : n ≤ cap) : m_are_ratios [.d (eT r), .d (.int (n : Nat))] m = .ok (.d (.bool true)) m := by
  have e : s_are_ratios [some (.d (eT r)), some (.d (.int (n : Nat))), none] m = .rt (.d (.bool true)) m := by
    unfold s_are_ratios
    refine ret_ok ?_
    rw [andV_yes (isi_ok (x := eT r) rfl (by rfl))]
    have e1 : fBin oEq (fCall oLen (aCons (fVar 0) aNil)) (fVar 1) [some (.d (eT r)), some (.d (.int (n : Nat))), none] m = .ok (.d (.bool true)) m := by
      have : oLen [.d (eT r)] m = .ok (.d (.int (n : Nat))) m := by
        unfold eT
        rw [oLen_t, List.length_map, hl]
      simp only [defS, sSeq, sSet, sUnp, gT, gsCons, gsNil, gN, sPar2, sPar3, sAug, sExpr, sRet, sRetN, sPass, sBrk, sCnt, sIf, sRaise, fVar, fC, fBin, fUn, fTest, fTru, fNot, fAnd, fOr, fAndV, fOrV, fChain, fIf, fCall, fCallL, fCallD, fIsi, isT, tyN, aNil, aCons, bind_ok, bind_err, bind_bad, then_ok, then_err, then_bad, sbind_nx, sbind_rt, sbind_bk, sbind_ct, sbind_err, sbind_bad, List.map_cons, List.map_nil, List.length_cons, List.length_nil, List.cons_append, List.nil_append, List.replicate_succ, List.replicate_zero, List.getElem?_cons_zero, List.getElem?_cons_succ, List.set_cons_zero, List.set_cons_succ, Nat.reduceSub, Nat.reduceAdd, if_pos, if_true, if_false, Bool.false_eq_true, ite_true, ite_false, reduceIte, Option.some.injEq, oGcd_ii, oMax_ii, oMin_ii, oInt_i, oLt_ii, oLe_ii, oGt_ii, oGe_ii, oAddU_ii, oSub_ii, oNeg_i, asB_b, tru_b, oNotV_b, oIx_t0, oIx_t1, oIx_t2, oIx_l0, datas_nil, datas_cons, oLen_l, oLen_t, oTuple_l, wipeS, tidy_same, cut_same, cut_app, oEq_ii, oNe_ii, this]
      simp
    rw [andV_yes e1]
    have e2 : fFz (fComp (iSeq (fVar 0)) (gN 2) [2] tYesF (fCallD 1 m_is_ratio (aCons (fVar 2) aNil))) [some (.d (eT r)), some (.d (.int (n : Nat))), none] m = .ok (.d (.list (r.map fun _ => PyData.bool true))) m :=
      fz_compN (enc := eQ) (g := fun _ => PyData.bool true) (iSeq_ok (x := eT r) rfl rfl) (by omega) fun q hq => call_ok (m1 := m) (xs := [.d (eQ q)]) rfl rfl (is_ratio_ok hm)
    rw [ctl_ok (acons_ok e2 rfl)]
    exact oAll_true
  unfold m_are_ratios
  rw [def_rt (s := s_are_ratios) (ρ := [some (.d (eT r)), some (.d (.int (n : Nat))), none]) rfl e]
  exact trim_d hm
structure Tab (rows : List (List Rat)) (k n : Nat) : Prop where
  cnt : rows.length = k
  len : ∀ r ∈ rows, r.length = n
  k1 : 1 ≤ k
  k2 : k ≤ 40
  n1 : 1 ≤ n
  n2 : n ≤ 40
def eTT (rows : List (List Rat)) : PyData := .tuple (rows.map eT)
theorem tab_first {rows : List (List Rat)} {k n : Nat} (h : Tab rows k n) : ∃ r, rows[0]? = some r ∧ r.length = n := by
  have : 0 < rows.length := by rw [h.cnt]; exact h.k1
  exact ⟨rows[0], List.getElem?_eq_getElem this, h.len _ (List.getElem_mem this)⟩
theorem ix_eTT {rows : List (List Rat)} {j : Nat} {r : List Rat} {m : MM} (h : rows[j]? = some r) : oIx (.d (eTT rows)) (.d (.int (j : Nat))) m = .ok (.d (eT r)) m := by
  refine oIx_tup ?_
  rw [List.getElem?_map, h]
  rfl
theorem len_eTT {rows : List (List Rat)} {m : MM} : oLen [.d (eTT rows)] m = .ok (.d (.int (rows.length : Nat))) m := by
  unfold eTT
  rw [oLen_t, List.length_map]
theorem len_eT {r : List Rat} {m : MM} : oLen [.d (eT r)] m = .ok (.d (.int (r.length : Nat))) m := by
  unfold eT
  rw [oLen_t, List.length_map]
end Mn

set_option Elab.async false
set_option linter.all false
set_option maxRecDepth 100000
set_option autoImplicit false
set_option maxHeartbeats 2000000
namespace Mn
open PySem WK Lin
def augL (rows : List (List Rat)) (k : Nat) : List Row := rows.zipIdx.map fun p => wholeL (p.1 ++ unitL k p.2)
def tabF (rows : List (List Rat)) (i j : Nat) : Rat := (rows.getD i []).getD j 0
theorem enum_map {α : Type} {enc : α → PyData} {xs : List α} : enumD (xs.map enc) = xs.zipIdx.map fun p => PyData.tuple [.int (p.2 : Nat), enc p.1] := by
  unfold enumD
  rw [List.mapIdx_eq_zipIdx_map, List.zipIdx_map, List.map_map]
  rfl
theorem unit_len {k i : Nat} : (unitL k i).length = k := by
  unfold unitL
  rw [List.length_map, List.length_range]
theorem unit_mem {k i : Nat} {q : Rat} (h : q ∈ unitL k i) : q = 0 ∨ q = 1 := by
  obtain ⟨j, _, rfl⟩ := List.mem_map.mp h
  split
  · exact .inr rfl
  · exact .inl rfl
theorem sz_one {B : Nat} : Sz (B + 1) 1 := by
  have : 1 < 2 ^ (B + 1) := by
    have : 1 ≤ 2 ^ B := Nat.two_pow_pos _
    rw [Nat.pow_succ]
    omega
  exact ⟨this, this⟩
theorem beside_ok {rows : List (List Rat)} {x : PyData} {enc : List Rat → PyData} {k n B L : Nat} {m : MM} (hm : okM m) (hx : seqD (.d x) = some (rows.map enc)) (hlen : ∀ m, oLen [.d x] m = .ok (.d (.int (k : Nat))) m) (he : ∀ r m, oList [.d (enc r)] m = .ok ((r.map eQ).map .d) m)
    (hk : rows.length = k) (hl : ∀ r ∈ rows, r.length = n) (hc : n + k ≤ cap) (hL : 0 < L) (hL2 : L < 2 ^ 64) (h : ∀ r ∈ rows, ∀ q ∈ r, q.den ∣ L) (hs : ∀ r ∈ rows, ∀ q ∈ r, Sz (B + 1) q) (hB : B + 1 < 8000) :
    m_beside_units [.d x] m = .ok (.d (eM (augL rows k))) m := by
  have e : fFz (fComp (iEnum (aCons (fVar 0) aNil)) (gT 2 (gsCons (gN 1) (gsCons (gN 2) gsNil))) [1, 2] tYesF (fBin oIx (fCallD 1 m_whole (aCons (fBin oAddU (fFz (fCallL oList (aCons (fVar 2) aNil))) (fCallD 2 m_unit (aCons (fCall oLen (aCons (fVar 0) aNil)) (aCons (fVar 1) aNil)))) aNil)) (fC (.int 1)))) [some (.d x), none, none] m = .ok (.d (eM (augL rows k))) m := by
    have := fz_comp (ρ := [some (.d x), none, none]) (m := m) (fi := iEnum (aCons (fVar 0) aNil)) (tg := gT 2 (gsCons (gN 1) (gsCons (gN 2) gsNil))) (own := [1, 2]) (ft := tYesF) (fe := fBin oIx (fCallD 1 m_whole (aCons (fBin oAddU (fFz (fCallL oList (aCons (fVar 2) aNil))) (fCallD 2 m_unit (aCons (fCall oLen (aCons (fVar 0) aNil)) (aCons (fVar 1) aNil)))) aNil)) (fC (.int 1)))
      (xs := rows.zipIdx) (enc := fun p => PyData.tuple [.int (p.2 : Nat), enc p.1]) (g := fun p => eR (wholeL (p.1 ++ unitL k p.2))) ?_ ?_ ?_
    · rw [this]
      unfold eM augL
      rw [List.map_map]
      rfl
    · rw [iEnum_ok (x := x) rfl hx, enum_map]
    · rw [List.length_zipIdx]
      omega
    · intro p hp
      refine ⟨[some (.d x), some (.d (.int (p.2 : Nat))), some (.d (enc p.1))], rfl, rfl, ?_⟩
      have hpm : p.1 ∈ rows := List.fst_mem_of_mem_zipIdx hp
      have hpl := hl _ hpm
      have f1 : fFz (fCallL oList (aCons (fVar 2) aNil)) [some (.d x), some (.d (.int (p.2 : Nat))), some (.d (enc p.1))] m = .ok (.d (.list (p.1.map eQ))) m := fz_ok (he p.1 m)
      have f2 : fCallD 2 m_unit (aCons (fCall oLen (aCons (fVar 0) aNil)) (aCons (fVar 1) aNil)) [some (.d x), some (.d (.int (p.2 : Nat))), some (.d (enc p.1))] m = .ok (.d (.list ((unitL k p.2).map eQ))) m :=
        call_ok (m1 := m) (xs := [.d (.int (k : Nat)), .d (.int (p.2 : Nat))]) (acons_ok (hlen m) rfl) rfl (unit_ok hm (by omega))
      have f3 : fBin oAddU (fFz (fCallL oList (aCons (fVar 2) aNil))) (fCallD 2 m_unit (aCons (fCall oLen (aCons (fVar 0) aNil)) (aCons (fVar 1) aNil))) [some (.d x), some (.d (.int (p.2 : Nat))), some (.d (enc p.1))] m = .ok (.d (.list ((p.1 ++ unitL k p.2).map eQ))) m := by
        rw [bin_ok f1 f2, oAddU_ll (by rw [List.length_map, List.length_map, unit_len]; omega), List.map_append]
      have f4 := call_ok (n := 1) (g := m_whole) (acons_ok f3 (rfl : aNil [some (.d x), some (.d (.int (p.2 : Nat))), some (.d (enc p.1))] m = .ok [] m)) rfl (whole_ok (r := p.1 ++ unitL k p.2) (B := B + 1) (L := L) hm rfl (by rw [List.length_append, unit_len]; omega) hL hL2 (fun q hq => by
        rcases List.mem_append.mp hq with hq | hq
        · exact h _ hpm q hq
        · rcases unit_mem hq with rfl | rfl
          · exact Nat.one_dvd _
          · exact Nat.one_dvd _) (fun q hq => by
        rcases List.mem_append.mp hq with hq | hq
        · exact hs _ hpm q hq
        · rcases unit_mem hq with rfl | rfl
          · exact sz_zero
          · exact sz_one) hB)
      rw [bin_ok f4 rfl, oIx_t1]
  have e1 : s_beside_units [some (.d x), none, none] m = .rt (.d (eM (augL rows k))) m := by
    unfold s_beside_units
    exact ret_ok e
  unfold m_beside_units
  rw [def_rt (s := s_beside_units) (ρ := [some (.d x), none, none]) rfl e1]
  exact trim_d hm
theorem getD_map' {α β : Type} {f : α → β} {l : List α} {i : Nat} {a : α} {d : β} (h : l[i]? = some a) : (l.map f).getD i d = f a := by
  rw [List.getD_eq_getElem?_getD, List.getElem?_map, h]
  rfl
theorem getD_of {α : Type} {l : List α} {i : Nat} {a d : α} (h : l[i]? = some a) : l.getD i d = a := by
  rw [List.getD_eq_getElem?_getD, h]
  rfl
theorem lowne {r : List Rat} {L : Nat} (hL : 0 < L) (h : ∀ q ∈ r, q.den ∣ L) : ((lowL r : Nat) : Int) ≠ 0 := by
  have := (low_pos r hL h).1
  omega
theorem rep_whole {rows : List (List Rat)} {k n L : Nat} (hk : rows.length = k) (hl : ∀ r ∈ rows, r.length = n) (hL : 0 < L) (h : ∀ r ∈ rows, ∀ q ∈ r, q.den ∣ L) : Rep (tabF rows) k n (rows.map wholeL) := by
  refine ⟨by rw [List.length_map, hk], fun i hi => ?_⟩
  have hi2 : i < rows.length := by omega
  have hm := List.getElem_mem hi2
  refine ⟨(lowL rows[i] : Nat), lowne hL (h _ hm), fun j hj => ?_⟩
  rw [getD_map' (List.getElem?_eq_getElem hi2), whole_at (by rw [hl _ hm]; exact hj)]
  unfold tabF
  rw [getD_of (List.getElem?_eq_getElem hi2)]
theorem aug_ok {rows : List (List Rat)} {k n L : Nat} (hk : rows.length = k) (hl : ∀ r ∈ rows, r.length = n) (hL : 0 < L) (h : ∀ r ∈ rows, ∀ q ∈ r, q.den ∣ L) : Aug (tabF rows) k n (augL rows k) := by
  have hz : ∀ i (hi : i < rows.length), (augL rows k).getD i [] = wholeL (rows[i] ++ unitL k i) := fun i hi => by
    unfold augL
    have : rows.zipIdx[i]? = some (rows[i], i) := by
      rw [List.getElem?_zipIdx, List.getElem?_eq_getElem hi]
      simp
    exact getD_map' this
  refine ⟨by unfold augL; rw [List.length_map, List.length_zipIdx, hk], fun r hr => ?_, fun i hi => ?_⟩
  · obtain ⟨p, hp, rfl⟩ := List.mem_map.mp hr
    rw [whole_len, List.length_append, unit_len, hl _ (List.fst_mem_of_mem_zipIdx hp)]
  · have hi2 : i < rows.length := by omega
    have hm := List.getElem_mem hi2
    have hd : ∀ q ∈ rows[i] ++ unitL k i, q.den ∣ L := fun q hq => by
      rcases List.mem_append.mp hq with hq | hq
      · exact h _ hm q hq
      · rcases unit_mem hq with rfl | rfl
        · exact Nat.one_dvd _
        · exact Nat.one_dvd _
    have hln := hl _ hm
    refine ⟨(lowL (rows[i] ++ unitL k i) : Nat), lowne hL hd, fun j hj => ?_, fun j hj => ?_⟩
    · rw [hz i hi2, whole_at (by rw [List.length_append]; omega)]
      unfold tabF
      rw [getD_of (List.getElem?_eq_getElem hi2), List.getD_eq_getElem?_getD, List.getD_eq_getElem?_getD, List.getElem?_append_left (by omega)]
    · rw [hz i hi2, whole_at (by rw [List.length_append, unit_len]; omega), List.getD_eq_getElem?_getD, List.getElem?_append_right (by omega)]
      have : n + j - rows[i].length = j := by omega
      rw [this]
      unfold unitL
      rw [List.getElem?_map, List.getElem?_range hj]
      simp only [Option.map_some, Option.getD_some]
      by_cases q : j = i
      · rw [if_pos q, if_pos q]
        grind
      · rw [if_neg q, if_neg q]
        grind
theorem aug_bd {rows : List (List Rat)} {k L B : Nat} (hL : 0 < L) (hL2 : L < 2 ^ 64) (h : ∀ r ∈ rows, ∀ q ∈ r, q.den ∣ L) (hs : ∀ r ∈ rows, ∀ q ∈ r, Sz (B + 1) q) : ∀ r ∈ augL rows k, Bd (B + 1 + 64) r := by
  intro r hr
  obtain ⟨p, hp, rfl⟩ := List.mem_map.mp hr
  have hpm : p.1 ∈ rows := List.fst_mem_of_mem_zipIdx hp
  refine whole_bd hL hL2 (fun q hq => ?_) fun q hq => ?_
  · rcases List.mem_append.mp hq with hq | hq
    · exact h _ hpm q hq
    · rcases unit_mem hq with rfl | rfl
      · exact Nat.one_dvd _
      · exact Nat.one_dvd _
  · rcases List.mem_append.mp hq with hq | hq
    · exact hs _ hpm q hq
    · rcases unit_mem hq with rfl | rfl
      · exact sz_zero
      · exact sz_one
structure Fine (rows : List (List Rat)) (B L : Nat) : Prop where
  L0 : 0 < L
  L1 : L < 2 ^ 64
  den : ∀ r ∈ rows, ∀ q ∈ r, q.den ∣ L
  sz : ∀ r ∈ rows, ∀ q ∈ r, Sz (B + 1) q
theorem eQ_int (z : Int) : eQ (z : Rat) = .tuple [.int z, .int 1] := by
  unfold eQ
  rw [Rat.num_intCast, Rat.den_intCast]
  rfl
def eF (F : List Rat) : MO := .lst (F.map fun q => .d (eQ q))
theorem at_div (r : Row) (j k : Nat) : at_ r j / at_ r k = ((r.getD j 0 : Int) : Rat) / ((r.getD k 0 : Int) : Rat) := rfl
theorem rep_flat {α : Type} (a : α) : ∀ n : Nat, (List.replicate n [a]).flatten = List.replicate n a
  | 0 => rfl
  | n + 1 => by
    rw [List.replicate_succ, List.flatten_cons, rep_flat a n]
    rfl
end Mn

set_option Elab.async false
set_option linter.all false
set_option maxRecDepth 100000
set_option autoImplicit false
set_option maxHeartbeats 2000000
namespace Mn
open PySem WK Lin
def invT (e : El) (n : Nat) : List (List Rat) := e.dc.map fun q => (q.1.drop n).map fun (z : Int) => (z : Rat) / ((q.1.getD q.2 0 : Int) : Rat)
def invD (e : El) (n : Nat) : PyData := if e.dc.length < n then .none else eTT (invT e n)
theorem inverted_ok {rows : List (List Rat)} {n B L : Nat} {m : MM} (hm : okM m) (h : Tab rows n n) (f : Fine rows B L) (hB : bnd (B + 1 + 64) n < 8999) (hB2 : B + 1 < 8000) :
    m_inverted [.d (eTT rows)] m = .ok (.d (invD (elim (augL rows n) n) n)) m := by
  have hcap : cap = 10000 := rfl
  have hn2 := h.n2
  have hc := h.cnt
  have f2 := call_ok (n := 1) (g := m_beside_units) (fa := aCons (fVar 0) aNil) (ρ := [some (.d (eTT rows)), some (.d (.int (n : Nat))), none, none, none, none, none, none]) (m1 := m) (m := m) (xs := [.d (eTT rows)]) rfl rfl
    (beside_ok (rows := rows) (enc := eT) (k := n) (n := n) (B := B) (L := L) hm rfl (fun m => by rw [len_eTT, hc]) (fun r m => rfl) hc h.len (by omega) f.L0 f.L1 f.den f.sz hB2)
  have A := aug_ok hc h.len f.L0 f.den
  have I := elim_inv A.len n
  have bd := aug_bd (k := n) f.L0 f.L1 f.den f.sz
  have cnt := I.cnt
  rw [A.cnt] at cnt
  have f3 := eliminated_ok (m := m) (rows := augL rows n) (n := n + n) (width := n) hm A.len (by omega) (by omega) (by rw [A.cnt]; omega) bd hB
  have ebd := elim_bd A.len bd n
  generalize elim (augL rows n) n = e at *
  have e4 : sUnp (gT 3 (gsCons (gN 2) (gsCons (gN 3) (gsCons (gN 4) gsNil)))) (fCallD 2 m_eliminated (aCons (fCallD 1 m_beside_units (aCons (fVar 0) aNil)) (aCons (fVar 1) aNil))) [some (.d (eTT rows)), some (.d (.int (n : Nat))), none, none, none, none, none, none] m =
      .nx [some (.d (eTT rows)), some (.d (.int (n : Nat))), some (.d (eM (e.dc.map (·.1)))), some (.d (eM e.left)), some (.d (.list (e.dc.map fun q => .int (q.2 : Nat)))), none, none, none] m := unp_ok (call_ok (acons_ok f2 (acons_ok rfl rfl)) rfl f3) rfl
  have tt : fTest (fBin oLt (fCall oLen (aCons (fVar 4) aNil)) (fVar 1)) [some (.d (eTT rows)), some (.d (.int (n : Nat))), some (.d (eM (e.dc.map (·.1)))), some (.d (eM e.left)), some (.d (.list (e.dc.map fun q => .int (q.2 : Nat)))), none, none, none] m = .ok (decide ((e.dc.length : Int) < (n : Nat))) m := by
    refine test_ok ((bin_ok ((ctl_ok (acons_ok rfl rfl)).trans ?_) rfl).trans oLt_ii)
    rw [oLen_l, List.length_map]
  have e0 : sSet 1 (fCall oLen (aCons (fVar 0) aNil)) [some (.d (eTT rows)), none, none, none, none, none, none, none] m = .nx [some (.d (eTT rows)), some (.d (.int (n : Nat))), none, none, none, none, none, none] m := by
    refine (set_nx (x := .d (.int (n : Nat))) (m1 := m) ?_).trans rfl
    rw [ctl_ok (acons_ok rfl rfl), len_eTT, hc]
  have e5 : s_inverted [some (.d (eTT rows)), none, none, none, none, none, none, none] m = .rt (.d (invD e n)) m := by
    unfold s_inverted invD
    refine step_nx e0 (step_nx e4 ?_)
    by_cases q : e.dc.length < n
    · rw [decide_eq_true (by omega : (e.dc.length : Int) < (n : Nat))] at tt
      rw [if_pos q]
      exact seq_rt ((if_yes tt).trans rfl)
    · rw [decide_eq_false (by omega : ¬ (e.dc.length : Int) < (n : Nat))] at tt
      rw [if_neg q]
      refine step_nx ((if_no tt).trans rfl) (ret_ok ?_)
      have hc1 := fz_comp (ρ := [some (.d (eTT rows)), some (.d (.int (n : Nat))), some (.d (eM (e.dc.map (·.1)))), some (.d (eM e.left)), some (.d (.list (e.dc.map fun q => .int (q.2 : Nat)))), none, none, none]) (m := m) (fi := iZip (aCons (fVar 2) (aCons (fVar 4) aNil))) (tg := gT 2 (gsCons (gN 5) (gsCons (gN 6) gsNil))) (own := [5, 6]) (ft := tYesF) (fe := fCall oTuple (aCons (fFz (fComp (iSeq (fSl (fVar 5) (pSome (fVar 1)) pNone)) (gN 7) [7] tYesF (fCallD 2 m_ratio (aCons (fVar 7) (aCons (fBin oIx (fVar 5) (fVar 6)) aNil))))) aNil))
        (xs := e.dc) (enc := fun q => PyData.tuple [eR q.1, .int (q.2 : Nat)]) (g := fun q => eT ((q.1.drop n).map fun (z : Int) => (z : Rat) / ((q.1.getD q.2 0 : Int) : Rat))) ?_ ?_ ?_
      · rw [ctl_ok (acons_ok hc1 rfl), oTuple_l]
        unfold eTT invT
        rw [List.map_map]
        rfl
      · rw [iZip_ok (x := eM (e.dc.map (·.1))) (y := .list (e.dc.map fun q => .int (q.2 : Nat))) (ds := (e.dc.map (·.1)).map eR) (es := e.dc.map fun q => .int (q.2 : Nat)) rfl rfl rfl]
        unfold zipD
        rw [List.map_map, List.zipWith_map, List.zipWith_self]
        rfl
      · omega
      · intro q hqm
        refine ⟨[some (.d (eTT rows)), some (.d (.int (n : Nat))), some (.d (eM (e.dc.map (·.1)))), some (.d (eM e.left)), some (.d (.list (e.dc.map fun q => .int (q.2 : Nat)))), some (.d (eR q.1)), some (.d (.int (q.2 : Nat))), none], rfl, rfl, ?_⟩
        have hl := I.ld q hqm
        have hlt := I.lt q hqm
        have d1 := drop_ok (f := fVar 5) (g := fVar 1) (ρ := [some (.d (eTT rows)), some (.d (.int (n : Nat))), some (.d (eM (e.dc.map (·.1)))), some (.d (eM e.left)), some (.d (.list (e.dc.map fun q => .int (q.2 : Nat)))), some (.d (eR q.1)), some (.d (.int (q.2 : Nat))), none]) (m := m) (ds := q.1.map .int) (k := n) rfl rfl
        have d2 := fz_compN (i := 7) (own := [7]) (fe := fCallD 2 m_ratio (aCons (fVar 7) (aCons (fBin oIx (fVar 5) (fVar 6)) aNil))) (xs := q.1.drop n) (enc := PyData.int) (g := fun (z : Int) => eQ ((z : Rat) / ((q.1.getD q.2 0 : Int) : Rat))) (iSeq_ok (ds := (q.1.drop n).map .int) d1 (by rw [List.map_drop]; rfl)) (by rw [List.length_drop]; omega) (fun z hz =>
          call_ok (acons_ok (x := .d (.int z)) (m1 := m) rfl (acons_ok ((bin_ok rfl rfl).trans (ix_row (by omega : q.2 < q.1.length))) rfl)) rfl (ratio_ok hm (I.own q hqm) (getD_lt (ebd.1 q hqm) q.2) hB))
        rw [ctl_ok (acons_ok d2 rfl), oTuple_l]
        unfold eT
        rw [List.map_map]
        rfl
  unfold m_inverted
  rw [def_rt (s := s_inverted) (ρ := [some (.d (eTT rows)), none, none, none, none, none, none, none]) rfl e5]
  exact trim_d hm
end Mn

set_option Elab.async false
set_option linter.all false
set_option maxRecDepth 100000
set_option autoImplicit false
set_option maxHeartbeats 2000000
namespace Mn
open PySem WK Lin
def row4 (ns : List Int) (i s c : Int) : MO := .lst [.k (ns.map .int), .d (.int i), .d (.int s), .d (.int c)]
def SD (x : MO) : Prop := ∃ ns i s c, x = row4 ns i s c ∧ 0 ≤ i ∧ 0 ≤ s ∧ s < 2147483647
theorem okM_swap {x y : MO} {t : MM} (_ : okM (x :: t)) (_ : SD y) : okM (y :: t) := trivial
theorem trim_len {m0 m : MM} {x : PyData} (_ : okM m) (hk : m.length = m0.length) : trim m0 (.d x) m = .ok (.d x) m := by
  unfold trim
  rw [cut_len_eq hk]
  split <;> rfl
theorem oPow18 {m : MM} : oPow (.d (.int 10)) (.d (.int 18)) m = .ok (.d (.int 1000000000000000000)) m := by
  have e : oPow (.d (.int 10)) (.d (.int 18)) m = (if okPow 10 18 then R.ok (.d (.int ((10 : Int) ^ (18 : Int).toNat))) m else .bad) := rfl
  rw [e, if_pos (by decide)]
  rfl
section
variable {ns : List Int} {i s c : Int} {t : MM}
theorem ix_r0 : oIx (.o 0) (.d (.int 0)) (row4 ns i s c :: t) = .ok (.k (ns.map .int)) (row4 ns i s c :: t) := oIx_o (k := 0) (n := 0) rfl rfl
theorem ix_r1 : oIx (.o 0) (.d (.int 1)) (row4 ns i s c :: t) = .ok (.d (.int i)) (row4 ns i s c :: t) := oIx_o (k := 1) (n := 0) rfl rfl
theorem ix_r2 : oIx (.o 0) (.d (.int 2)) (row4 ns i s c :: t) = .ok (.d (.int s)) (row4 ns i s c :: t) := oIx_o (k := 2) (n := 0) rfl rfl
theorem ix_r3 : oIx (.o 0) (.d (.int 3)) (row4 ns i s c :: t) = .ok (.d (.int c)) (row4 ns i s c :: t) := oIx_o (k := 3) (n := 0) rfl rfl
end
theorem fmod_rng {a k : Int} (h : 0 < k) : 0 ≤ a.fmod k ∧ a.fmod k < k := by
  rw [Int.fmod_eq_emod_of_nonneg _ (by omega)]
  exact ⟨Int.emod_nonneg _ (by omega), Int.emod_lt_of_pos _ h⟩
theorem taken_ok {x : MO} {t : MM} {k : Int} (hx : SD x) (ht : okM (x :: t)) (hk : 0 < k) (hk2 : k < 1000000) :
    ∃ v x', SD x' ∧ okM (x' :: t) ∧ 0 ≤ v ∧ v < k ∧ m__law_taken [.o 0, .d (.int k)] (x :: t) = .ok (.d (.int v)) (x' :: t) := by
  obtain ⟨ns, i, s, c, rfl, hi, hs, hs2⟩ := hx
  have kd : ∀ a : Int, okDiv a k = true := fun a => okDiv_of (b := 20) (by omega) (by
    have : (2 : Nat) ^ 20 = 1048576 := rfl
    omega) (by omega)
  have t1 : fTest (fBin oGt (fBin oIx (fVar 0) (fC (.int 3))) (fC (.int 0))) [some (.o 0), some (.d (.int k)), none, none] (row4 ns i s c :: t) = .ok (decide (0 < c)) (row4 ns i s c :: t) := test_ok ((bin_ok ((bin_ok rfl rfl).trans ix_r3) rfl).trans oGt_ii)
  by_cases hc : 0 < c
  · rw [decide_eq_true hc] at t1
    have sd : SD (row4 ns i s (c.fdiv k)) := ⟨ns, i, s, _, rfl, hi, hs, hs2⟩
    obtain ⟨r1, r2⟩ := fmod_rng (a := c) hk
    refine ⟨c.fmod k, row4 ns i s (c.fdiv k), sd, okM_swap ht sd, r1, r2, ?_⟩
    have e : s__law_taken [some (.o 0), some (.d (.int k)), none, none] (row4 ns i s c :: t) = .rt (.d (.int (c.fmod k))) (row4 ns i s (c.fdiv k) :: t) := by
      unfold s__law_taken
      refine seq_rt ((if_yes t1).trans ?_)
      refine step_set (x := .d (.int (c.fmod k))) (m1 := row4 ns i s c :: t) (ρ1 := [some (.o 0), some (.d (.int k)), some (.d (.int (c.fmod k))), none]) ?_ rfl ?_
      · exact (bin_ok ((ctl_ok (acons_ok ((bin_ok rfl rfl).trans ix_r3) rfl)).trans oInt_i) rfl).trans (oMod_ii (by omega))
      · exact step_nx (put_ok (n := 0) (k := 3) (xs := [.k (ns.map .int), .d (.int i), .d (.int s), .d (.int c)]) ((bin_ok ((bin_ok rfl rfl).trans ix_r3) rfl).trans (oDiv_ii (kd c))) rfl rfl rfl (by simp)) (ret_ok rfl)
    unfold m__law_taken
    rw [def_rt (s := s__law_taken) (ρ := [some (.o 0), some (.d (.int k)), none, none]) rfl e]
    exact trim_len (okM_swap ht sd) rfl
  · rw [decide_eq_false hc] at t1
    have st1 : sPut (fVar 0) (fC (.int 1)) (fBin oAddU (fBin oIx (fVar 0) (fC (.int 1))) (fC (.int 1))) [some (.o 0), some (.d (.int k)), none, none] (row4 ns i s c :: t) = .nx [some (.o 0), some (.d (.int k)), none, none] (row4 ns (i + 1) s c :: t) :=
      put_ok (n := 0) (k := 1) (m1 := row4 ns i s c :: t) (y := .d (.int (i + 1))) (xs := [.k (ns.map .int), .d (.int i), .d (.int s), .d (.int c)]) ((bin_ok ((bin_ok rfl rfl).trans ix_r1) rfl).trans oAddU_ii) rfl rfl rfl (by simp)
    have t2 : fTest (fBin oGt (fBin oIx (fVar 0) (fC (.int 1))) (fCall oLen (aCons (fBin oIx (fVar 0) (fC (.int 0))) aNil))) [some (.o 0), some (.d (.int k)), none, none] (row4 ns (i + 1) s c :: t) = .ok (decide ((ns.length : Nat) < i + 1)) (row4 ns (i + 1) s c :: t) := by
      refine test_ok ((bin_ok ((bin_ok rfl rfl).trans ix_r1) ((ctl_ok (acons_ok ((bin_ok rfl rfl).trans ix_r0) rfl)).trans oLen_k)).trans ?_)
      rw [List.length_map]
      exact oGt_ii
    have om : okMul s 48271 = true := okMul_of (a := 31) (b := 16) (by
      have : (2 : Nat) ^ 31 = 2147483648 := rfl
      omega) (by decide) (by decide)
    by_cases hl : (ns.length : Nat) < i + 1
    · rw [decide_eq_true hl] at t2
      obtain ⟨r1, r2⟩ := fmod_rng (a := s * 48271 + 11) (k := 2147483647) (by decide)
      have sd : SD (row4 ns (i + 1) ((s * 48271 + 11).fmod 2147483647) c) := ⟨ns, _, _, _, rfl, by omega, r1, r2⟩
      obtain ⟨v1, v2⟩ := fmod_rng (a := ((s * 48271 + 11).fmod 2147483647).fdiv 7) hk
      refine ⟨_, _, sd, okM_swap ht sd, v1, v2, ?_⟩
      have e : s__law_taken [some (.o 0), some (.d (.int k)), none, none] (row4 ns i s c :: t) = .rt (.d (.int ((((s * 48271 + 11).fmod 2147483647).fdiv 7).fmod k))) (row4 ns (i + 1) ((s * 48271 + 11).fmod 2147483647) c :: t) := by
        unfold s__law_taken
        refine step_nx ((if_no t1).trans rfl) (step_nx st1 (seq_rt ((if_yes t2).trans ?_)))
        refine step_nx (put_ok (n := 0) (k := 2) (xs := [.k (ns.map .int), .d (.int (i + 1)), .d (.int s), .d (.int c)]) ((bin_ok ((ctl_ok (acons_ok ((bin_ok ((bin_ok ((bin_ok rfl rfl).trans ix_r2) rfl).trans (oMulU_ii om)) rfl).trans oAddU_ii) rfl)).trans oInt_i) rfl).trans (oMod_ii (by decide))) rfl rfl rfl (by simp)) ?_
        exact ret_ok ((bin_ok ((ctl_ok (acons_ok ((bin_ok ((bin_ok rfl rfl).trans (ix_r2 (ns := ns) (i := i + 1) (s := (s * 48271 + 11).fmod 2147483647) (c := c))) rfl).trans (oDiv_ii (okDiv_of (b := 3) (by decide) (by decide) (by decide)))) rfl)).trans oInt_i) rfl).trans (oMod_ii (by omega)))
      unfold m__law_taken
      rw [def_rt (s := s__law_taken) (ρ := [some (.o 0), some (.d (.int k)), none, none]) rfl e]
      exact trim_len (okM_swap ht sd) rfl
    · rw [decide_eq_false hl] at t2
      have hi2 : i.toNat < ns.length := by omega
      have hcell : ns[i.toNat]? = some ns[i.toNat] := List.getElem?_eq_getElem hi2
      generalize ns[i.toNat] = cell at hcell
      have s3 : sSet 3 (fBin oIx (fBin oIx (fVar 0) (fC (.int 0))) (fBin oSub (fBin oIx (fVar 0) (fC (.int 1))) (fC (.int 1)))) [some (.o 0), some (.d (.int k)), none, none] (row4 ns (i + 1) s c :: t) = .nx [some (.o 0), some (.d (.int k)), none, some (.d (.int cell))] (row4 ns (i + 1) s c :: t) := by
        refine (set_nx (x := .d (.int cell)) ?_).trans rfl
        rw [bin_ok ((bin_ok rfl rfl).trans ix_r0) ((bin_ok ((bin_ok rfl rfl).trans ix_r1) rfl).trans oSub_ii)]
        have e : i + 1 - 1 = ((i.toNat : Nat) : Int) := by omega
        rw [e]
        exact oIx_k (by rw [List.getElem?_map, hcell]; rfl)
      obtain ⟨r1, r2⟩ := fmod_rng (a := s * 48271 + cell + 11) (k := 2147483647) (by decide)
      have p2 : sPut (fVar 0) (fC (.int 2)) (fBin oMod (fCall oInt (aCons (fBin oAddU (fBin oAddU (fBin oMulU (fBin oIx (fVar 0) (fC (.int 2))) (fC (.int 48271))) (fVar 3)) (fC (.int 11))) aNil)) (fC (.int 2147483647))) [some (.o 0), some (.d (.int k)), none, some (.d (.int cell))] (row4 ns (i + 1) s c :: t) =
          .nx [some (.o 0), some (.d (.int k)), none, some (.d (.int cell))] (row4 ns (i + 1) ((s * 48271 + cell + 11).fmod 2147483647) c :: t) :=
        put_ok (n := 0) (k := 2) (m1 := row4 ns (i + 1) s c :: t) (y := .d (.int ((s * 48271 + cell + 11).fmod 2147483647))) (xs := [.k (ns.map .int), .d (.int (i + 1)), .d (.int s), .d (.int c)]) ((bin_ok ((ctl_ok (acons_ok ((bin_ok ((bin_ok ((bin_ok ((bin_ok rfl rfl).trans ix_r2) rfl).trans (oMulU_ii om)) rfl).trans oAddU_ii) rfl).trans oAddU_ii) rfl)).trans oInt_i) rfl).trans (oMod_ii (j := 2147483647) (by decide))) rfl rfl rfl (by simp)
      have t3 : fTest (fBin oGe (fVar 3) (fBin oPow (fC (.int 10)) (fC (.int 18)))) [some (.o 0), some (.d (.int k)), none, some (.d (.int cell))] (row4 ns (i + 1) ((s * 48271 + cell + 11).fmod 2147483647) c :: t) = .ok (decide (1000000000000000000 ≤ cell)) (row4 ns (i + 1) ((s * 48271 + cell + 11).fmod 2147483647) c :: t) :=
        test_ok ((bin_ok rfl ((bin_ok rfl rfl).trans oPow18)).trans oGe_ii)
      obtain ⟨v1, v2⟩ := fmod_rng (a := cell) hk
      have fin : ∃ c', sIf (fTest (fBin oGe (fVar 3) (fBin oPow (fC (.int 10)) (fC (.int 18))))) (sPut (fVar 0) (fC (.int 3)) (fBin oDiv (fVar 3) (fVar 1))) sPass [some (.o 0), some (.d (.int k)), none, some (.d (.int cell))] (row4 ns (i + 1) ((s * 48271 + cell + 11).fmod 2147483647) c :: t) =
          .nx [some (.o 0), some (.d (.int k)), none, some (.d (.int cell))] (row4 ns (i + 1) ((s * 48271 + cell + 11).fmod 2147483647) c' :: t) := by
        by_cases hb : 1000000000000000000 ≤ cell
        · rw [decide_eq_true hb] at t3
          refine ⟨cell.fdiv k, (if_yes t3).trans ?_⟩
          exact put_ok (n := 0) (k := 3) (m1 := row4 ns (i + 1) ((s * 48271 + cell + 11).fmod 2147483647) c :: t) (y := .d (.int (cell.fdiv k))) (xs := [.k (ns.map .int), .d (.int (i + 1)), .d (.int ((s * 48271 + cell + 11).fmod 2147483647)), .d (.int c)]) ((bin_ok rfl rfl).trans (oDiv_ii (kd cell))) rfl rfl rfl (by simp)
        · rw [decide_eq_false hb] at t3
          exact ⟨c, (if_no t3).trans rfl⟩
      obtain ⟨c', fin⟩ := fin
      have sd : SD (row4 ns (i + 1) ((s * 48271 + cell + 11).fmod 2147483647) c') := ⟨ns, _, _, _, rfl, by omega, r1, r2⟩
      refine ⟨_, _, sd, okM_swap ht sd, v1, v2, ?_⟩
      have e : s__law_taken [some (.o 0), some (.d (.int k)), none, none] (row4 ns i s c :: t) = .rt (.d (.int (cell.fmod k))) (row4 ns (i + 1) ((s * 48271 + cell + 11).fmod 2147483647) c' :: t) := by
        unfold s__law_taken
        exact step_nx ((if_no t1).trans rfl) (step_nx st1 (step_nx ((if_no t2).trans rfl) (step_nx s3 (step_nx p2 (step_nx fin (ret_ok ((bin_ok ((ctl_ok (acons_ok rfl rfl)).trans oInt_i) rfl).trans (oMod_ii (by omega)))))))))
      unfold m__law_taken
      rw [def_rt (s := s__law_taken) (ρ := [some (.o 0), some (.d (.int k)), none, none]) rfl e]
      exact trim_len (okM_swap ht sd) rfl

def Dr (q : Rat) : Prop := q.den ∣ 12 ∧ Sz 3 q
theorem dr_div {a l : Int} (ha : -3 ≤ a) (ha2 : a ≤ 3) (hl : 1 ≤ l) (hl2 : l ≤ 4) : Dr ((a : Rat) / (l : Rat)) := by
  constructor
  · have e := div_den (t := a) (l := l) (by omega)
    have : ((a : Rat) / (l : Rat)).den ∣ l.natAbs := by
      have d : ((Int.gcd a l : Nat) : Int) ∣ (l.natAbs : Int) := by
        have := Int.gcd_dvd_natAbs_right a l
        exact_mod_cast this
      have d2 := Int.ediv_dvd_of_dvd d
      rw [← e] at d2
      exact_mod_cast d2
    refine Nat.dvd_trans this ?_
    have : l = 1 ∨ l = 2 ∨ l = 3 ∨ l = 4 := by omega
    rcases this with rfl | rfl | rfl | rfl <;> decide
  · exact sz_div (by omega) (by
      have : (2 : Nat) ^ 3 = 8 := rfl
      omega) (by
      have : (2 : Nat) ^ 3 = 8 := rfl
      omega)
theorem draw_ok {x : MO} {t : MM} {k : Int} (hx : SD x) (ht : okM (x :: t)) (hk : 1 ≤ k) (hk2 : k ≤ 3) :
    ∃ q x', SD x' ∧ okM (x' :: t) ∧ Dr q ∧ m__law_ratio [.o 0, .d (.int k)] (x :: t) = .ok (.d (eQ q)) (x' :: t) := by
  obtain ⟨a, x1, s1, o1, a1, a2, e1⟩ := taken_ok (k := 2 * k + 1) hx ht (by omega) (by omega)
  obtain ⟨b, x2, s2, o2, b1, b2, e2⟩ := taken_ok (k := 4) s1 o1 (by omega) (by omega)
  refine ⟨((a - k : Int) : Rat) / ((1 + b : Int) : Rat), x2, s2, o2, dr_div (by omega) (by omega) (by omega) (by omega), ?_⟩
  have om : okMul 2 k = true := okMul_of (a := 2) (b := 2) (by decide) (by
    have : (2 : Nat) ^ 2 = 4 := rfl
    omega) (by decide)
  have f1 : fCallD 2 m__law_taken (aCons (fVar 0) (aCons (fBin oAddU (fBin oMulU (fC (.int 2)) (fVar 1)) (fC (.int 1))) aNil)) [some (.o 0), some (.d (.int k))] (x :: t) = .ok (.d (.int a)) (x1 :: t) :=
    call_ok (xs := [.o 0, .d (.int (2 * k + 1))]) (m1 := x :: t) (acons_ok rfl (acons_ok ((bin_ok ((bin_ok rfl rfl).trans (oMulU_ii om)) rfl).trans oAddU_ii) rfl)) rfl e1
  have f2 : fCallD 2 m__law_taken (aCons (fVar 0) (aCons (fC (.int 4)) aNil)) [some (.o 0), some (.d (.int k))] (x1 :: t) = .ok (.d (.int b)) (x2 :: t) := call_ok (xs := [.o 0, .d (.int 4)]) (m1 := x1 :: t) rfl rfl e2
  have e : s__law_ratio [some (.o 0), some (.d (.int k))] (x :: t) = .rt (.d (eQ (((a - k : Int) : Rat) / ((1 + b : Int) : Rat)))) (x2 :: t) := by
    unfold s__law_ratio
    refine ret_ok (call_ok (xs := [.d (.int (a - k)), .d (.int (1 + b))]) (acons_ok ((bin_ok f1 rfl).trans oSub_ii) (acons_ok ((bin_ok rfl f2).trans oAddU_ii) rfl)) rfl ?_)
    exact low_ok (b := 3) o2 (by omega) (by
      have : (2 : Nat) ^ 3 = 8 := rfl
      omega) (by decide)
  unfold m__law_ratio
  rw [def_rt (s := s__law_ratio) (ρ := [some (.o 0), some (.d (.int k))]) rfl e]
  exact trim_len o2 rfl
theorem comp_state {tg : GF} {own : List Nat} {fe : EF} {ρ : SE} {P : MM → Prop} {α : Type} {enc : α → PyData} {Q : α → Prop} : ∀ (ds : List PyData) (m : MM), P m →
    (∀ d ∈ ds, ∀ m, P m → ∃ ρ1, tg d (wipeS ρ own) = some ρ1 ∧ ∃ y m', fe ρ1 m = .ok (.d (enc y)) m' ∧ Q y ∧ P m') →
    ∃ (ys : List α) (m' : MM), compS tg own tYesF fe ρ ds m = .ok (ys.map fun y => .d (enc y)) m' ∧ ys.length = ds.length ∧ (∀ y ∈ ys, Q y) ∧ P m'
  | [], m, p, _ => ⟨[], m, rfl, rfl, fun y h => (by cases h), p⟩
  | d :: r, m, p, h => by
    obtain ⟨ρ1, h1, y, m1, h2, hq, p1⟩ := h d (List.mem_cons_self ..) m p
    obtain ⟨ys, m2, e, hl, hQ, p2⟩ := comp_state r m1 p1 fun d hd => h d (List.mem_cons_of_mem _ hd)
    refine ⟨y :: ys, m2, ?_, by rw [List.length_cons, List.length_cons, hl], fun z hz => ?_, p2⟩
    · unfold compS
      simp only [h1]
      show (R.ok true m).bind _ = _
      rw [bind_ok, if_pos rfl, h2]
      show (R.ok (SV.d (enc y)) m1).bind _ = _
      rw [bind_ok, e]
      rfl
    · rcases List.mem_cons.mp hz with rfl | hz
      · exact hq
      · exact hQ z hz
theorem fz_state {fi : IF} {tg : GF} {own : List Nat} {fe : EF} {ρ : SE} {P : MM → Prop} {α : Type} {enc : α → PyData} {Q : α → Prop} {ds : List PyData} {m : MM} (hi : fi ρ m = .ok ds m) (hc : ds.length ≤ cap) (p : P m)
    (h : ∀ d ∈ ds, ∀ m, P m → ∃ ρ1, tg d (wipeS ρ own) = some ρ1 ∧ ∃ y m', fe ρ1 m = .ok (.d (enc y)) m' ∧ Q y ∧ P m') :
    ∃ (ys : List α) (m' : MM), fFz (fComp fi tg own tYesF fe) ρ m = .ok (.d (.list (ys.map enc))) m' ∧ ys.length = ds.length ∧ (∀ y ∈ ys, Q y) ∧ P m' := by
  obtain ⟨ys, m', e, r⟩ := comp_state (enc := enc) (Q := Q) ds m p h
  refine ⟨ys, m', ?_, r⟩
  unfold fFz fComp
  rw [hi, bind_ok, if_pos hc, e, bind_ok, datas_mapd]
def PD (t : MM) (m : MM) : Prop := ∃ x, SD x ∧ okM (x :: t) ∧ m = x :: t
theorem draws_ok {fi : IF} {v i : Nat} {own : List Nat} {ρ : SE} {n : Nat} {t : MM} {m : MM} {k : Int} {fk : EF} (hi : fi ρ m = .ok ((List.range n).map fun i => PyData.int (i : Nat)) m) (hn : n ≤ cap) (p : PD t m) (hk : 1 ≤ k) (hk2 : k ≤ 3)
    (hv : ∀ d, ((wipeS ρ own).set i (some (.d d)))[v]? = some (some (.o 0))) :
    ∃ (qs : List Rat) (m' : MM), fFz (fComp fi (gN i) own tYesF (fCallD 2 m__law_ratio (aCons (fVar v) (aCons (fC (.int k)) aNil)))) ρ m = .ok (.d (.list (qs.map eQ))) m' ∧ qs.length = n ∧ (∀ q ∈ qs, Dr q) ∧ PD t m' := by
  obtain ⟨qs, m', e, hl, hq, p'⟩ := fz_state (tg := gN i) (own := own) (fe := fCallD 2 m__law_ratio (aCons (fVar v) (aCons (fC (.int k)) aNil))) (enc := eQ) (Q := Dr) (P := PD t) hi (by rw [List.length_map, List.length_range]; exact hn) p fun d hd m ⟨x, sd, om, em⟩ => by
    subst em
    obtain ⟨q, x', s', o', hq, e⟩ := draw_ok sd om hk hk2
    refine ⟨_, rfl, q, x' :: t, call_ok (xs := [.o 0, .d (.int k)]) (acons_ok ?_ rfl) rfl e, hq, x', s', o', rfl⟩
    unfold fVar
    rw [hv d]
  exact ⟨qs, m', e, by rw [hl, List.length_map, List.length_range], hq, p'⟩
end Mn

set_option linter.all false
set_option autoImplicit false
namespace Lin
theorem S_nonneg {f : Nat → Rat} : ∀ n : Nat, (∀ j, j < n → 0 ≤ f j) → 0 ≤ S n f
  | 0, _ => by unfold S; grind
  | n + 1, h => by
    have := S_nonneg n fun j hj => h j (by omega)
    have := h n (by omega)
    unfold S
    grind
theorem S_le {f g : Nat → Rat} (n : Nat) (h : ∀ j, j < n → f j ≤ g j) : S n f ≤ S n g := by
  have := S_nonneg (f := fun j => g j - f j) n fun j hj => by have := h j hj; grind
  rw [S_sub] at this
  grind
theorem S_pos_zero {f : Nat → Rat} : ∀ n : Nat, (∀ j, j < n → 0 ≤ f j) → S n f ≤ 0 → ∀ j, j < n → f j = 0
  | 0, _, _ => fun j hj => absurd hj (by omega)
  | n + 1, h, z => fun j hj => by
    have h1 := S_nonneg n fun j hj => h j (by omega)
    have h2 := h n (by omega)
    have z : S n f + f n ≤ 0 := z
    rcases Nat.lt_or_ge j n with q | q
    · exact S_pos_zero n (fun j hj => h j (by omega)) (by grind) j q
    · have : j = n := by omega
      subst this
      grind
structure Net where
  n : Nat
  m : Nat
  a : Nat → Nat
  b : Nat → Nat
  x : Nat → Rat
structure Net.Ok (N : Net) : Prop where
  a : ∀ i, i < N.m → N.a i < N.n
  b : ∀ i, i < N.m → N.b i < N.n
  x : ∀ i, i < N.m → 0 < N.x i
def Net.out (N : Net) (f : Nat → Rat) (v : Nat) : Rat := S N.m fun i => f i * ((if N.a i = v then 1 else 0) - if N.b i = v then 1 else 0)
def Net.fl (N : Net) (θ : Nat → Rat) (i : Nat) : Rat := (θ (N.a i) - θ (N.b i)) / N.x i
theorem S_ind {n v : Nat} (g : Nat → Rat) (h : v < n) : S n (fun u => g u * if v = u then 1 else 0) = g v := by
  rw [S_one (a := v) h fun j _ hj => by rw [if_neg (Ne.symm hj)]; grind, if_pos rfl]
  grind
theorem Net.adj {N : Net} (h : N.Ok) (f g : Nat → Rat) : S N.n (fun v => g v * N.out f v) = S N.m fun i => f i * (g (N.a i) - g (N.b i)) := by
  have e : ∀ v, g v * N.out f v = S N.m fun i => g v * (f i * ((if N.a i = v then 1 else 0) - if N.b i = v then 1 else 0)) := fun v => (S_mul _ _).symm
  rw [S_congr _ fun v _ => e v, S_swap]
  refine S_congr _ fun i hi => ?_
  have e2 : ∀ v, g v * (f i * ((if N.a i = v then 1 else 0) - if N.b i = v then 1 else 0)) = f i * ((g v * if N.a i = v then 1 else 0) - (g v * if N.b i = v then 1 else 0)) := fun v => by grind
  rw [S_congr _ fun v _ => e2 v, S_mul, S_sub, S_ind g (h.a i hi), S_ind g (h.b i hi)]
theorem Net.out_sub {N : Net} (f g : Nat → Rat) (v : Nat) : N.out (fun i => f i - g i) v = N.out f v - N.out g v := by
  unfold Net.out
  rw [← S_sub]
  exact S_congr _ fun i _ => by grind
structure Net.First (N : Net) (r : Nat → Nat) : Prop where
  lt : ∀ v, v < N.n → r v < N.n
  le : ∀ v, v < N.n → r v ≤ v
  idem : ∀ v, v < N.n → r (r v) = r v
  line : ∀ i, i < N.m → r (N.a i) = r (N.b i)
  way : ∀ R : Nat → Nat → Prop, (∀ u, R u u) → (∀ u v, R u v → R v u) → (∀ u v w, R u v → R v w → R u w) → (∀ i, i < N.m → R (N.a i) (N.b i)) → ∀ v, v < N.n → R v (r v)
theorem Net.First.const {N : Net} {r : Nat → Nat} (h : N.First r) {α : Type} {f : Nat → α} (e : ∀ i, i < N.m → f (N.a i) = f (N.b i)) {v : Nat} (hv : v < N.n) : f v = f (r v) :=
  h.way (fun u v => f u = f v) (fun _ => rfl) (fun _ _ h => h.symm) (fun _ _ _ h h' => h.trans h') e v hv
theorem sq_nonneg (q : Rat) : 0 ≤ q * q := by
  rcases Std.le_total (a := 0) (b := q) with h | h
  · exact Rat.mul_nonneg h h
  · have : 0 ≤ (-q) * (-q) := Rat.mul_nonneg (by grind) (by grind)
    grind
theorem sq_zero {q : Rat} (h : q * q = 0) : q = 0 := by grind
theorem div_mul {p x : Rat} (h : 0 < x) : p / x * x = p := by
  have : x ≠ 0 := by grind
  grind
theorem Net.still {N : Net} (k : N.Ok) {θ : Nat → Rat} (h : S N.m (fun i => N.x i * (N.fl θ i * N.fl θ i)) ≤ 0) : ∀ i, i < N.m → θ (N.a i) = θ (N.b i) := by
  intro i hi
  have := S_pos_zero _ (fun j hj => Rat.mul_nonneg (by have := k.x j hj; grind) (sq_nonneg _)) h i hi
  have hx := k.x i hi
  have e := div_mul (p := θ (N.a i) - θ (N.b i)) hx
  have z : N.fl θ i = 0 := by
    rcases Rat.mul_eq_zero.mp this with z | z
    · grind
    · exact sq_zero z
  unfold Net.fl at z
  rw [z] at e
  grind
theorem Net.power {N : Net} (k : N.Ok) (θ : Nat → Rat) : S N.n (fun v => θ v * N.out (N.fl θ) v) = S N.m fun i => N.x i * (N.fl θ i * N.fl θ i) := by
  rw [N.adj k]
  refine S_congr _ fun i hi => ?_
  have e : θ (N.a i) - θ (N.b i) = N.fl θ i * N.x i := (div_mul (k.x i hi)).symm
  rw [e]
  grind
structure Net.Ang (N : Net) (r : Nat → Nat) (A : Nat → Nat → Rat) : Prop where
  row : ∀ v, v < N.n → r v = v → ∀ u, u < N.n → A v u = 0
  col : ∀ v u, v < N.n → u < N.n → r u = u → A v u = 0
  sol : ∀ b : Nat → Rat, (∀ s, s < N.n → S N.n (fun v => if r v = s then b v else 0) = 0) → ∀ v, v < N.n → N.out (N.fl fun w => S N.n fun u => A w u * b u) v = b v
end Lin

set_option linter.all false
set_option autoImplicit false
namespace Lin
def Net.th (N : Net) (A : Nat → Nat → Rat) (b : Nat → Rat) (v : Nat) : Rat := S N.n fun u => A v u * b u
def Net.Bal (N : Net) (r : Nat → Nat) (b : Nat → Rat) : Prop := ∀ s, s < N.n → S N.n (fun v => if r v = s then b v else 0) = 0
def un (a c v : Nat) : Rat := (if a = v then 1 else 0) - if c = v then 1 else 0
theorem S_un {n a c : Nat} (g : Nat → Rat) (ha : a < n) (hc : c < n) : S n (fun v => g v * un a c v) = g a - g c := by
  unfold un
  rw [S_congr _ fun v _ => show g v * ((if a = v then (1 : Rat) else 0) - if c = v then 1 else 0) = (g v * if a = v then 1 else 0) - (g v * if c = v then 1 else 0) by grind, S_sub, S_ind g ha, S_ind g hc]
theorem Net.First.bal_un {N : Net} {r : Nat → Nat} {a c : Nat} (ha : a < N.n) (hc : c < N.n) (h : r a = r c) : N.Bal r (un a c) := fun s hs => by
  rw [S_congr _ fun v _ => show (if r v = s then un a c v else 0) = (if r v = s then 1 else 0) * un a c v by split <;> grind, S_un (fun v => if r v = s then (1 : Rat) else 0) ha hc]
  rw [h]
  grind
section
variable {N : Net} {r : Nat → Nat} {A : Nat → Nat → Rat}
theorem Net.th_neg (b : Nat → Rat) (v : Nat) : N.th A (fun u => - b u) v = - N.th A b v := by
  unfold Net.th
  have : ∀ u, A v u * - b u = (-1) * (A v u * b u) := fun u => by grind
  rw [S_congr _ fun u _ => this u, S_mul]
  grind
theorem Net.th_congr {b c : Nat → Rat} (h : ∀ u, u < N.n → b u = c u) (v : Nat) : N.th A b v = N.th A c v :=
  S_congr _ fun u hu => by rw [h u hu]
theorem Net.Ang.out (h : N.Ang r A) {b : Nat → Rat} (hb : N.Bal r b) {v : Nat} (hv : v < N.n) : N.out (N.fl (N.th A b)) v = b v := h.sol b hb v hv
theorem Net.fl_mul (k : N.Ok) (θ : Nat → Rat) {i : Nat} (hi : i < N.m) : N.x i * N.fl θ i = θ (N.a i) - θ (N.b i) := by
  have := div_mul (p := θ (N.a i) - θ (N.b i)) (k.x i hi)
  unfold Net.fl
  grind
theorem Net.Ang.power (h : N.Ang r A) (k : N.Ok) {b : Nat → Rat} (hb : N.Bal r b) : S N.n (fun v => b v * N.th A b v) = S N.m fun i => N.x i * (N.fl (N.th A b) i * N.fl (N.th A b) i) := by
  rw [← N.power k]
  exact S_congr _ fun v hv => by rw [h.out hb hv]; grind
def Net.res (N : Net) (A : Nat → Nat → Rat) (a c : Nat) : Rat := N.th A (un a c) a - N.th A (un a c) c
theorem Net.res_dot {a c : Nat} (ha : a < N.n) (hc : c < N.n) : S N.n (fun v => N.th A (un a c) v * un a c v) = N.res A a c := S_un _ ha hc
theorem un_swap (a c v : Nat) : un c a v = - un a c v := by
  unfold un
  grind
theorem Net.th_swap (a c v : Nat) : N.th A (un c a) v = - N.th A (un a c) v := by
  rw [← N.th_neg]
  exact N.th_congr (fun u _ => un_swap a c u) v
theorem Net.Ang.res_power (h : N.Ang r A) (k : N.Ok) {a c : Nat} (ha : a < N.n) (hc : c < N.n) (e : r a = r c) : N.res A a c = S N.m fun i => N.x i * (N.fl (N.th A (un a c)) i * N.fl (N.th A (un a c)) i) := by
  rw [← h.power k (Net.First.bal_un ha hc e), ← N.res_dot ha hc]
  exact S_congr _ fun v _ => by grind
theorem Net.Ang.thomson (h : N.Ang r A) (k : N.Ok) {b : Nat → Rat} (hb : N.Bal r b) {g : Nat → Rat} (hg : ∀ v, v < N.n → N.out g v = b v) :
    (S N.m fun i => N.x i * (N.fl (N.th A b) i * N.fl (N.th A b) i)) ≤ S N.m fun i => N.x i * (g i * g i) := by
  have z : (S N.m fun i => N.x i * (N.fl (N.th A b) i * (g i - N.fl (N.th A b) i))) = 0 := by
    have e := N.adj k (fun i => g i - N.fl (N.th A b) i) (N.th A b)
    rw [S_zero _ fun v hv => by rw [N.out_sub, hg v hv, h.out hb hv]; grind] at e
    rw [e]
    refine S_congr _ fun i hi => ?_
    rw [← N.fl_mul k _ hi]
    grind
  have e : (S N.m fun i => N.x i * (g i * g i)) = (S N.m fun i => N.x i * (N.fl (N.th A b) i * N.fl (N.th A b) i)) + ((S N.m fun i => N.x i * (N.fl (N.th A b) i * (g i - N.fl (N.th A b) i))) + ((S N.m fun i => N.x i * (N.fl (N.th A b) i * (g i - N.fl (N.th A b) i))) + S N.m fun i => N.x i * ((g i - N.fl (N.th A b) i) * (g i - N.fl (N.th A b) i)))) := by
    rw [← S_add, ← S_add, ← S_add]
    exact S_congr _ fun i _ => by grind
  have p : 0 ≤ S N.m fun i => N.x i * ((g i - N.fl (N.th A b) i) * (g i - N.fl (N.th A b) i)) := S_nonneg _ fun i hi => Rat.mul_nonneg (by have := k.x i hi; grind) (sq_nonneg _)
  rw [z] at e
  grind
theorem Net.Ang.mono (h : N.Ang r A) (k : N.Ok) {x' : Nat → Rat} {A' : Nat → Nat → Rat} (h' : Net.Ang { N with x := x' } r A') (hx : ∀ i, i < N.m → N.x i ≤ x' i) {a c : Nat} (ha : a < N.n) (hc : c < N.n) (e : r a = r c) :
    N.res A a c ≤ Net.res { N with x := x' } A' a c := by
  have k' : Net.Ok { N with x := x' } := ⟨k.a, k.b, fun i hi => by have := hx i hi; have := k.x i hi; show 0 < x' i; grind⟩
  have hb : N.Bal r (un a c) := Net.First.bal_un ha hc e
  rw [h.res_power k ha hc e, h'.res_power k' ha hc e]
  have t := h.thomson k hb (g := Net.fl { N with x := x' } (Net.th { N with x := x' } A' (un a c))) fun v hv => h'.out (b := un a c) hb hv
  have m : (S N.m fun i => N.x i * (Net.fl { N with x := x' } (Net.th { N with x := x' } A' (un a c)) i * Net.fl { N with x := x' } (Net.th { N with x := x' } A' (un a c)) i)) ≤ S N.m fun i => x' i * (Net.fl { N with x := x' } (Net.th { N with x := x' } A' (un a c)) i * Net.fl { N with x := x' } (Net.th { N with x := x' } A' (un a c)) i) :=
    S_le _ fun i hi => Rat.mul_le_mul_of_nonneg_right (hx i hi) (sq_nonneg _)
  show _ ≤ S N.m fun i => x' i * (Net.fl { N with x := x' } (Net.th { N with x := x' } A' (un a c)) i * Net.fl { N with x := x' } (Net.th { N with x := x' } A' (un a c)) i)
  grind
theorem Net.Ang.least (h : N.Ang r A) (k : N.Ok) (F : N.First r) {a c v : Nat} (ha : a < N.n) (hc : c < N.n) (hv : v < N.n) (e : r a = r c) (e2 : r v = r c) : N.th A (un a c) c ≤ N.th A (un a c) v := by
  generalize hθ : N.th A (un a c) = θ
  have o : ∀ v, v < N.n → N.out (N.fl θ) v = un a c v := fun v hv => by rw [← hθ]; exact h.out (Net.First.bal_un ha hc e) hv
  have j := N.adj k (N.fl θ) fun v => if θ v < θ c then θ c - θ v else 0
  rw [S_congr _ fun v hv => by rw [o v hv], S_un (fun v => if θ v < θ c then θ c - θ v else 0) ha hc] at j
  rw [if_neg (show ¬ θ c < θ c by grind)] at j
  have b : (S N.m fun i => N.fl θ i * ((if θ (N.a i) < θ c then θ c - θ (N.a i) else 0) - if θ (N.b i) < θ c then θ c - θ (N.b i) else 0)) ≤ S N.m fun i => (-1) * (N.x i * (N.fl (fun v => if θ v < θ c then θ c - θ v else 0) i * N.fl (fun v => if θ v < θ c then θ c - θ v else 0) i)) := by
    refine S_le _ fun i hi => ?_
    have hx := k.x i hi
    have f1 := N.fl_mul k θ hi
    have f2 := N.fl_mul k (fun v => if θ v < θ c then θ c - θ v else 0) hi
    generalize N.fl θ i = f at *
    generalize N.fl (fun v => if θ v < θ c then θ c - θ v else 0) i = g at *
    rw [← f2]
    have e : (-1 : Rat) * (N.x i * (g * g)) - f * (N.x i * g) = N.x i * ((- g) * (g + f)) := by grind
    have p : 0 ≤ (- g) * (g + f) := by
      have c1 : g * N.x i = N.x i * g := by grind
      have sg : ∀ q : Rat, 0 ≤ N.x i * q → 0 ≤ q := fun q hq => by
        refine Classical.byContradiction fun no => ?_
        have : 0 < N.x i * (-q) := Rat.mul_pos hx (by grind)
        grind
      by_cases h1 : θ (N.a i) < θ c
      · by_cases h2 : θ (N.b i) < θ c
        · rw [if_pos h1, if_pos h2] at f2
          have : N.x i * (g + f) = 0 := by grind
          have : g + f = 0 := by
            rcases Rat.mul_eq_zero.mp this with z | z
            · grind
            · exact z
          rw [this]
          grind
        · rw [if_pos h1, if_neg h2] at f2
          have g0 : 0 ≤ g := sg g (by grind)
          have s0 : 0 ≤ -(g + f) := sg _ (by grind)
          have := Rat.mul_nonneg g0 s0
          grind
      · by_cases h2 : θ (N.b i) < θ c
        · rw [if_neg h1, if_pos h2] at f2
          have g0 : 0 ≤ -g := sg _ (by grind)
          have s0 : 0 ≤ g + f := sg _ (by grind)
          exact Rat.mul_nonneg g0 s0
        · rw [if_neg h1, if_neg h2] at f2
          have : g = 0 := by
            have : N.x i * g = 0 := by grind
            rcases Rat.mul_eq_zero.mp this with z | z
            · grind
            · exact z
          rw [this]
          grind
    have := Rat.mul_nonneg (show 0 ≤ N.x i by grind) p
    grind
  rw [← j, S_mul] at b
  have g0 : (0 : Rat) ≤ if θ a < θ c then θ c - θ a else 0 := by split <;> grind
  have st := N.still k (θ := fun v => if θ v < θ c then θ c - θ v else 0) (by grind)
  have c1 := F.const (f := fun v => if θ v < θ c then θ c - θ v else 0) st hv
  have c2 := F.const (f := fun v => if θ v < θ c then θ c - θ v else 0) st hc
  rw [e2, ← c2] at c1
  rw [if_neg (show ¬ θ c < θ c by grind)] at c1
  by_cases q : θ v < θ c
  · rw [if_pos q] at c1
    grind
  · grind
theorem Net.Ang.most (h : N.Ang r A) (k : N.Ok) (F : N.First r) {a c v : Nat} (ha : a < N.n) (hc : c < N.n) (hv : v < N.n) (e : r a = r c) (e2 : r v = r c) : N.th A (un a c) v ≤ N.th A (un a c) a := by
  have := h.least k F hc ha hv e.symm (e2.trans e.symm)
  rw [N.th_swap a c, N.th_swap a c] at this
  grind
end
end Lin

set_option Elab.async false
set_option linter.all false
set_option maxRecDepth 100000
set_option autoImplicit false
set_option maxHeartbeats 2000000
namespace Mn
open PySem WK Lin
abbrev iN (n : Nat) : PyData := .int ((n : Nat) : Int)
structure Ln where
  nm : Str
  a : Nat
  b : Nat
  x : Nat
  lim : Nat
structure Us where
  nm : Str
  nd : Nat
  amt : Nat
  wor : Nat
structure Gr where
  nodes : List Str
  lines : List Ln
  plants : List Us
  loads : List Us
def nm0 : Str := ⟨#[]⟩
def eLn (ns : List Str) (l : Ln) : PyData := .tuple [.str l.nm, .str (ns.getD l.a nm0), .str (ns.getD l.b nm0), iN l.x, iN l.lim]
def eUs (ns : List Str) (u : Us) : PyData := .tuple [.str u.nm, .str (ns.getD u.nd nm0), iN u.amt, iN u.wor]
def eNs (ns : List Str) : PyData := .tuple (ns.map .str)
def eLns (g : Gr) : PyData := .tuple (g.lines.map (eLn g.nodes))
def eGr (g : Gr) : PyData := .tuple [eNs g.nodes, eLns g, .tuple (g.plants.map (eUs g.nodes)), .tuple (g.loads.map (eUs g.nodes))]
structure Gr.Net (g : Gr) : Prop where
  nd : g.nodes.Nodup
  sok : ∀ s ∈ g.nodes, PyData.strOk s = true
  lok : ∀ l ∈ g.lines, PyData.strOk l.nm = true
  n1 : 1 ≤ g.nodes.length
  n8 : g.nodes.length ≤ 8
  m14 : g.lines.length ≤ 14
  a : ∀ l ∈ g.lines, l.a < g.nodes.length
  b : ∀ l ∈ g.lines, l.b < g.nodes.length
  ne : ∀ l ∈ g.lines, l.a ≠ l.b
  x : ∀ l ∈ g.lines, 1 ≤ l.x
  x99 : ∀ l ∈ g.lines, l.x ≤ 99
section
variable {m : MM}
theorem ln_0 {ns : List Str} {l : Ln} : oIx (.d (eLn ns l)) (.d (.int 0)) m = .ok (.d (.str l.nm)) m := oIx_t0
theorem len_ns {ns : List Str} : oLen [.d (eNs ns)] m = .ok (.d (iN ns.length)) m := by
  unfold eNs
  rw [oLen_t, List.length_map]
theorem len_lns {g : Gr} : oLen [.d (eLns g)] m = .ok (.d (iN g.lines.length)) m := by
  unfold eLns
  rw [oLen_t, List.length_map]
theorem seq_lns {g : Gr} : seqD (.d (eLns g)) = some (g.lines.map (eLn g.nodes)) := rfl
theorem seq_ns {ns : List Str} : seqD (.d (eNs ns)) = some (ns.map .str) := rfl
theorem ixStr_at {ns : List Str} (nd : ns.Nodup) {v : Nat} (h : v < ns.length) : ixStr ns (ns.getD v nm0) = some v := by
  unfold ixStr
  rw [List.getD_eq_getElem?_getD, List.getElem?_eq_getElem h]
  refine List.findIdx?_eq_some_iff_getElem.mpr ⟨h, by simp, fun j hj e => ?_⟩
  have e := of_decide_eq_true e
  rw [Option.getD_some] at e
  have := (List.pairwise_iff_getElem.mp nd) j v (by omega) h hj
  exact this e
end
theorem def_ret {n : Nat} {s : SF} {xs : List SV} {ρ : SE} {m : MM} {x : PyData} (e : xs.map some ++ List.replicate (n - xs.length) none = ρ) (h : s ρ m = .rt (.d x) m) : defS n s xs m = .ok (.d x) m := by
  rw [def_rt e h]
  exact trim_d trivial
def eNat (ns : List Nat) : PyData := .list (ns.map fun (n : Nat) => iN n)
def joinL (fs : List Nat) (a b : Nat) : List Nat := fs.map fun f => if f = max (fs.getD a 0) (fs.getD b 0) then min (fs.getD a 0) (fs.getD b 0) else f
def firstsL (n : Nat) (ls : List Ln) : List Nat := ls.foldl (fun fs l => joinL fs l.a l.b) (List.range n)
theorem joinL_len {fs : List Nat} {a b : Nat} : (joinL fs a b).length = fs.length := List.length_map ..
theorem for_ok' {cl : List Nat} {fi : IF} {tg : GF} {body : SF} {ρ : SE} {m m1 : MM} {ds : List PyData} {r : RS} (h : fi ρ m = .ok ds m1) (k : forS cl tg body ds ρ m1 = r) : sFor cl fi tg body ρ m = r := by
  unfold sFor
  rw [h]
  exact k
end Mn

set_option Elab.async false
set_option linter.all false
set_option maxRecDepth 100000
set_option autoImplicit false
set_option maxHeartbeats 2000000
namespace Mn
open PySem WK Lin
theorem oEq_nn {i j : Nat} {m : MM} : oEq (.d (iN i)) (.d (iN j)) m = .ok (.d (.bool (decide (i = j)))) m := by
  rw [oEq_ii]
  by_cases q : i = j
  · subst q
    rw [decide_eq_true rfl, decide_eq_true rfl]
  · rw [decide_eq_false q, decide_eq_false (by omega)]
def Gr.ln (g : Gr) (i : Nat) : Ln := g.lines.getD i ⟨nm0, 0, 0, 1, 0⟩
def Gr.toNet (g : Gr) : Lin.Net := ⟨g.nodes.length, g.lines.length, fun i => (g.ln i).a, fun i => (g.ln i).b, fun i => ((g.ln i).x : Rat)⟩
theorem Gr.ln_mem {g : Gr} {i : Nat} (h : i < g.lines.length) : g.ln i ∈ g.lines := by
  unfold Gr.ln
  rw [List.getD_eq_getElem?_getD, List.getElem?_eq_getElem h]
  exact List.getElem_mem h
theorem Gr.ln_at {g : Gr} {i : Nat} {l : Ln} (h : g.lines[i]? = some l) : g.ln i = l := by
  unfold Gr.ln
  rw [List.getD_eq_getElem?_getD, h]
  rfl
theorem Gr.Net.ok {g : Gr} (k : g.Net) : g.toNet.Ok := ⟨fun i hi => k.a _ (Gr.ln_mem hi), fun i hi => k.b _ (Gr.ln_mem hi), fun i hi => by
  have := k.x _ (Gr.ln_mem hi)
  show (0 : Rat) < (((g.ln i).x : Nat) : Rat)
  exact_mod_cast this⟩
def Gr.fst (g : Gr) (v : Nat) : Nat := (firstsL g.nodes.length g.lines).getD v 0
theorem join_at {fs : List Nat} {a b v : Nat} (hv : v < fs.length) : (joinL fs a b).getD v 0 = if fs.getD v 0 = max (fs.getD a 0) (fs.getD b 0) then min (fs.getD a 0) (fs.getD b 0) else fs.getD v 0 := by
  unfold joinL
  rw [List.getD_eq_getElem?_getD, List.getElem?_map, List.getElem?_eq_getElem hv, List.getD_eq_getElem?_getD (l := fs) (i := v), List.getElem?_eq_getElem hv]
  rfl
structure FstP (n : Nat) (P : Nat → Nat → Prop) (fs : List Nat) : Prop where
  len : fs.length = n
  le : ∀ v, v < n → fs.getD v 0 ≤ v
  idem : ∀ v, v < n → fs.getD (fs.getD v 0) 0 = fs.getD v 0
  line : ∀ a b, P a b → fs.getD a 0 = fs.getD b 0
  way : ∀ R : Nat → Nat → Prop, (∀ u, R u u) → (∀ u v, R u v → R v u) → (∀ u v w, R u v → R v w → R u w) → (∀ a b, P a b → R a b) → ∀ v, v < n → R v (fs.getD v 0)
theorem fstP_range (n : Nat) : FstP n (fun _ _ => False) (List.range n) := by
  have e : ∀ v, v < n → (List.range n).getD v 0 = v := fun v hv => by
    rw [List.getD_eq_getElem?_getD, List.getElem?_range hv]
    rfl
  refine ⟨List.length_range, fun v hv => by rw [e v hv]; omega, fun v hv => by rw [e v hv, e v hv], fun _ _ h => h.elim, fun R r _ _ _ v hv => by rw [e v hv]; exact r v⟩
theorem FstP.step {n : Nat} {P : Nat → Nat → Prop} {fs : List Nat} (h : FstP n P fs) {a b : Nat} (ha : a < n) (hb : b < n) (hP : ∀ u v, P u v → u < n ∧ v < n) : FstP n (fun u v => P u v ∨ (u = a ∧ v = b)) (joinL fs a b) := by
  have at_ : ∀ v, v < n → (joinL fs a b).getD v 0 = if fs.getD v 0 = max (fs.getD a 0) (fs.getD b 0) then min (fs.getD a 0) (fs.getD b 0) else fs.getD v 0 := fun v hv => join_at (by rw [h.len]; exact hv)
  have la := h.le a ha
  have lb := h.le b hb
  have ia := h.idem a ha
  have ib := h.idem b hb
  refine ⟨joinL_len.trans h.len, fun v hv => ?_, fun v hv => ?_, fun u v hu => ?_, fun R r1 r2 r3 hR v hv => ?_⟩
  · rw [at_ v hv]
    have := h.le v hv
    split <;> omega
  · have lv := h.le v hv
    have iv := h.idem v hv
    rw [at_ v hv]
    split
    · rename_i q
      rcases Nat.le_total (fs.getD a 0) (fs.getD b 0) with z | z
      · rw [Nat.min_eq_left z, at_ _ (by omega), ia, Nat.max_eq_right z, Nat.min_eq_left z]
        split <;> rfl
      · rw [Nat.min_eq_right z, at_ _ (by omega), ib, Nat.max_eq_left z, Nat.min_eq_right z]
        split <;> rfl
    · rename_i q
      rw [at_ _ (by omega), iv, if_neg q]
  · rcases hu with hu | ⟨rfl, rfl⟩
    · obtain ⟨p1, p2⟩ := hP u v hu
      rw [at_ u p1, at_ v p2, h.line u v hu]
    · rw [at_ u ha, at_ v hb]
      rcases Nat.le_total (fs.getD u 0) (fs.getD v 0) with z | z
      · rw [Nat.min_eq_left z, Nat.max_eq_right z, if_pos rfl]
        split <;> rfl
      · rw [Nat.min_eq_right z, Nat.max_eq_left z, if_pos rfl]
        split
        · rfl
        · rfl
  · have w := h.way R r1 r2 r3 fun u v hu => hR u v (.inl hu)
    have ab := hR a b (.inr ⟨rfl, rfl⟩)
    rw [at_ v hv]
    have wv := w v hv
    split
    · rename_i q
      have wa := w a ha
      have wb := w b hb
      have rab : R (fs.getD a 0) (fs.getD b 0) := r3 _ _ _ (r2 _ _ wa) (r3 _ _ _ ab wb)
      refine r3 _ _ _ wv ?_
      rw [q]
      rcases Nat.le_total (fs.getD a 0) (fs.getD b 0) with z | z
      · rw [Nat.min_eq_left z, Nat.max_eq_right z]
        exact r2 _ _ rab
      · rw [Nat.min_eq_right z, Nat.max_eq_left z]
        exact rab
    · exact wv
theorem fstP_fold {n : Nat} : ∀ (ls : List Ln) (P : Nat → Nat → Prop) (fs : List Nat), FstP n P fs → (∀ u v, P u v → u < n ∧ v < n) → (∀ l ∈ ls, l.a < n ∧ l.b < n) →
    FstP n (fun u v => P u v ∨ ∃ l ∈ ls, u = l.a ∧ v = l.b) (ls.foldl (fun fs l => joinL fs l.a l.b) fs)
  | [], P, fs, h, _, _ => by
    refine ⟨h.len, h.le, h.idem, fun a b hh => ?_, fun R r1 r2 r3 hR => h.way R r1 r2 r3 fun a b hp => hR a b (.inl hp)⟩
    rcases hh with hh | ⟨l, hl, _⟩
    · exact h.line a b hh
    · cases hl
  | l :: r, P, fs, h, hP, hl => by
    obtain ⟨la, lb⟩ := hl l List.mem_cons_self
    have ih := fstP_fold r _ _ (h.step la lb hP) (fun u v hu => by
      rcases hu with hu | ⟨rfl, rfl⟩
      · exact hP u v hu
      · exact ⟨la, lb⟩) fun l hl' => hl l (List.mem_cons_of_mem _ hl')
    refine ⟨ih.len, ih.le, ih.idem, fun a b hh => ih.line a b ?_, fun R r1 r2 r3 hR => ih.way R r1 r2 r3 fun a b hp => hR a b ?_⟩
    · rcases hh with hh | ⟨l', hl', e⟩
      · exact .inl (.inl hh)
      · rcases List.mem_cons.mp hl' with rfl | hm
        · exact .inl (.inr e)
        · exact .inr ⟨l', hm, e⟩
    · rcases hp with (hp | e) | ⟨l', hm, e⟩
      · exact .inl hp
      · exact .inr ⟨l, List.mem_cons_self, e⟩
      · exact .inr ⟨l', List.mem_cons_of_mem _ hm, e⟩
theorem Gr.Net.first {g : Gr} (k : g.Net) : g.toNet.First g.fst := by
  have F := fstP_fold g.lines _ _ (fstP_range g.nodes.length) (fun _ _ h => h.elim) fun l hl => ⟨k.a l hl, k.b l hl⟩
  have le : ∀ v, v < g.toNet.n → g.fst v ≤ v := F.le
  refine ⟨fun v hv => by have := le v hv; omega, le, F.idem, fun i hi => F.line _ _ (.inr ⟨g.ln i, Gr.ln_mem hi, rfl, rfl⟩), fun R r1 r2 r3 hR => F.way R r1 r2 r3 fun a b hp => ?_⟩
  rcases hp with hp | ⟨l, hl, rfl, rfl⟩
  · exact hp.elim
  · obtain ⟨i, hi, e⟩ := List.mem_iff_getElem.mp hl
    have := hR i hi
    have e2 : g.ln i = l := Gr.ln_at (by rw [List.getElem?_eq_getElem hi, e])
    have e3 : R (g.ln i).a (g.ln i).b := this
    rwa [e2] at e3
end Mn

set_option Elab.async false
set_option linter.all false
set_option maxRecDepth 100000
set_option autoImplicit false
set_option maxHeartbeats 2000000
namespace Mn
open PySem PySem.Spec L2 WK Lin
section
variable {κ : Type} [DecidableEq κ]
theorem valS_cons {q : κ × SV} {r : List (κ × SV)} {k : κ} : valS (q :: r) k = if q.1 = k then some q.2 else valS r k := by
  unfold valS
  rw [List.find?_cons]
  by_cases e : q.1 = k
  · rw [decide_eq_true e, if_pos e]
    rfl
  · rw [decide_eq_false e, if_neg e]
theorem valS_map {k k' : κ} {y : SV} : ∀ {kvs : List (κ × SV)}, valS (kvs.map fun kv => if kv.1 = k then (kv.1, y) else kv) k' = if k' = k ∧ (kvs.any fun kv => decide (kv.1 = k)) = true then some y else valS kvs k'
  | [] => by rw [if_neg (by simp)]; rfl
  | q :: r => by
    rw [List.map_cons, valS_cons, valS_cons, valS_map, List.any_cons]
    by_cases e : q.1 = k
    · rw [if_pos e]
      dsimp only
      rw [decide_eq_true e, Bool.true_or]
      by_cases e2 : k' = k
      · rw [if_pos (e.trans e2.symm), if_pos ⟨e2, rfl⟩]
      · rw [if_neg (fun h => e2 (h.symm.trans e)), if_neg (fun h => e2 h.1), if_neg (fun h => e2 h.1)]
        rw [if_neg (fun h => e2 (h.symm.trans e))]
    · rw [if_neg e, decide_eq_false e, Bool.false_or]
      by_cases e3 : q.1 = k'
      · rw [if_pos e3, if_neg (fun h => e (e3.trans h.1)), if_pos e3]
      · rw [if_neg e3, if_neg e3]
theorem valS_app {k k' : κ} {y : SV} : ∀ {kvs : List (κ × SV)}, (kvs.any fun kv => decide (kv.1 = k)) = false → valS (kvs ++ [(k, y)]) k' = if k' = k then some y else valS kvs k'
  | [], _ => by
    show valS [(k, y)] k' = _
    rw [valS_cons]
    by_cases e : k = k'
    · rw [if_pos e, if_pos e.symm]
    · rw [if_neg e, if_neg (Ne.symm e)]
  | q :: r, h => by
    rw [List.any_cons, Bool.or_eq_false_iff] at h
    rw [List.cons_append, valS_cons, valS_cons, valS_app h.2]
    by_cases e : q.1 = k'
    · rw [if_pos e, if_pos e, if_neg]
      intro z
      exact of_decide_eq_false h.1 (e.trans z)
    · rw [if_neg e, if_neg e]
theorem valS_put {kvs : List (κ × SV)} {k k' : κ} {y : SV} : valS (putS kvs k y) k' = if k' = k then some y else valS kvs k' := by
  unfold putS
  split
  · rename_i h
    rw [valS_map]
    by_cases e : k' = k
    · rw [if_pos ⟨e, h⟩, if_pos e]
    · rw [if_neg (fun z => e z.1), if_neg e]
  · rename_i h
    exact valS_app (Bool.eq_false_iff.mpr h)
end
theorem listD_l {ds : List PyData} {m : MM} : listD (.d (.list ds)) m = some ds := by
  unfold listD WK.listOf
  dsimp only
  rw [datas_map]
section
variable {m : MM} {ρ : SE}
theorem own_ok {f : LF} {m1 : MM} {xs : List SV} (h : f ρ m = .ok xs m1) : fOwn f ρ m = .ok (.o m1.length) (m1 ++ [.lst xs]) := by
  unfold fOwn
  rw [h, bind_ok]
theorem frz_ok {i n : Nat} {b : SF} {ds : List PyData} {r : RS} (hi : ρ[i]? = some (some (.o n))) (h : m[n]? = some (.lst (ds.map .d))) (k : b (ρ.set i (some (.d (.list ds)))) (m.set n .gone) = r) : sFrz i b ρ m = r := by
  unfold sFrz
  rw [hi]
  dsimp only
  rw [h]
  dsimp only
  rw [datas_map]
  exact k
theorem def_ret2 {n : Nat} {s : SF} {xs : List SV} {x : PyData} {l : MM} (e : xs.map some ++ List.replicate (n - xs.length) none = ρ) (h : s ρ m = .rt (.d x) (m ++ l)) : defS n s xs m = .ok (.d x) m := by
  rw [def_rt e h]
  exact trim_app trivial rfl
end
end Mn

set_option Elab.async false
set_option linter.all false
set_option maxRecDepth 100000
set_option autoImplicit false
set_option maxHeartbeats 2000000
namespace Mn
open PySem PySem.Spec L2 WK Lin
structure MkI (n : Nat) (r : Nat → Nat) (fs : List Nat) : Prop where
  len : fs.length = n
  le : ∀ v, v < n → fs.getD v 0 ≤ v
  same : ∀ v, v < n → r (fs.getD v 0) = r v
section
variable {n : Nat} {r : Nat → Nat} (rle : ∀ v, v < n → r v ≤ v)
include rle
theorem MkI.ge {fs : List Nat} (h : MkI n r fs) {v : Nat} (hv : v < n) : r v ≤ fs.getD v 0 := by
  have := rle (fs.getD v 0) (by have := h.le v hv; omega)
  rw [h.same v hv] at this
  exact this
end
end Mn

set_option Elab.async false
set_option linter.all false
set_option maxRecDepth 100000
set_option autoImplicit false
set_option maxHeartbeats 2000000
namespace Mn
open PySem PySem.Spec L2 WK Lin
structure Fit (q : Rat) : Prop where
  den : q.den < 2 ^ 4400
  num : q.num.natAbs < 2 ^ 100000
section
variable {m : MM} {a b : Rat}
theorem Fit.mulD (ha : Fit a) (hb : Fit b) : okMul (a.den : Int) (b.den : Int) = true := okMul_of (a := 4400) (b := 4400) ha.den hb.den (by decide)
theorem Fit.mulN (ha : Fit a) (hb : Fit b) : okMul a.num b.num = true := okMul_of (a := 100000) (b := 100000) ha.num hb.num (by decide)
theorem Fit.denD (ha : Fit a) (hb : Fit b) : ((a.den : Int) * (b.den : Int)).natAbs < 2 ^ 8800 := by
  rw [Int.natAbs_mul]
  exact mul_lt_pow (A := 4400) (B := 4400) ha.den hb.den
theorem den2_ne : (a.den : Int) * (b.den : Int) ≠ 0 := fun e => (Int.mul_eq_zero.mp e).elim (den_ne0 a) (den_ne0 b)
theorem times_ok (ha : Fit a) (hb : Fit b) : m_times [.d (eQ a), .d (eQ b)] m = .ok (.d (eQ (a * b))) m := by
  unfold m_times s_times
  simp only [defS, sSeq, sSet, sUnp, gT, gsCons, gsNil, gN, sPar2, sPar3, sAug, sExpr, sRet, sRetN, sPass, sBrk, sCnt, sIf, sRaise, fVar, fC, fBin, fUn, fTest, fTru, fNot, fIf, fCall, fCallL, fCallD, aNil, aCons, bind_ok, bind_err, bind_bad, then_ok, then_err, then_bad, sbind_nx, sbind_rt, sbind_bk, sbind_ct, sbind_err, sbind_bad, List.map_cons, List.map_nil, List.length_cons, List.length_nil, List.cons_append, List.nil_append, List.replicate_succ, List.replicate_zero, List.getElem?_cons_zero, List.getElem?_cons_succ, List.set_cons_zero, List.set_cons_succ, Nat.reduceSub, Nat.reduceAdd, if_pos, if_true, if_false, Bool.false_eq_true, ite_true, ite_false, reduceIte, Option.some.injEq, oGcd_ii, oMax_ii, oMin_ii, oInt_i, oLt_ii, oLe_ii, oGt_ii, oGe_ii, oAddU_ii, oSub_ii, oNeg_i, asB_b, tru_b, oNotV_b, oIx_t0, oIx_t1, oIx_t2, oIx_l0, datas_nil, datas_cons, oLen_l, oLen_t, oTuple_l, wipeS, tidy_same, cut_same, cut_app]
  unfold eQ
  simp only [defS, sSeq, sSet, sUnp, gT, gsCons, gsNil, gN, sPar2, sPar3, sAug, sExpr, sRet, sRetN, sPass, sBrk, sCnt, sIf, sRaise, fVar, fC, fBin, fUn, fTest, fTru, fNot, fIf, fCall, fCallL, fCallD, aNil, aCons, bind_ok, bind_err, bind_bad, then_ok, then_err, then_bad, sbind_nx, sbind_rt, sbind_bk, sbind_ct, sbind_err, sbind_bad, List.map_cons, List.map_nil, List.length_cons, List.length_nil, List.cons_append, List.nil_append, List.replicate_succ, List.replicate_zero, List.getElem?_cons_zero, List.getElem?_cons_succ, List.set_cons_zero, List.set_cons_succ, Nat.reduceSub, Nat.reduceAdd, if_pos, if_true, if_false, Bool.false_eq_true, ite_true, ite_false, reduceIte, Option.some.injEq, oGcd_ii, oMax_ii, oMin_ii, oInt_i, oLt_ii, oLe_ii, oGt_ii, oGe_ii, oAddU_ii, oSub_ii, oNeg_i, asB_b, tru_b, oNotV_b, oIx_t0, oIx_t1, oIx_t2, oIx_l0, datas_nil, datas_cons, oLen_l, oLen_t, oTuple_l, wipeS, tidy_same, cut_same, cut_app]
  simp only [oMulU_ii (ha.mulN hb), oMulU_ii (ha.mulD hb)]
  simp only [defS, sSeq, sSet, sUnp, gT, gsCons, gsNil, gN, sPar2, sPar3, sAug, sExpr, sRet, sRetN, sPass, sBrk, sCnt, sIf, sRaise, fVar, fC, fBin, fUn, fTest, fTru, fNot, fIf, fCall, fCallL, fCallD, aNil, aCons, bind_ok, bind_err, bind_bad, then_ok, then_err, then_bad, sbind_nx, sbind_rt, sbind_bk, sbind_ct, sbind_err, sbind_bad, List.map_cons, List.map_nil, List.length_cons, List.length_nil, List.cons_append, List.nil_append, List.replicate_succ, List.replicate_zero, List.getElem?_cons_zero, List.getElem?_cons_succ, List.set_cons_zero, List.set_cons_succ, Nat.reduceSub, Nat.reduceAdd, if_pos, if_true, if_false, Bool.false_eq_true, ite_true, ite_false, reduceIte, Option.some.injEq, oGcd_ii, oMax_ii, oMin_ii, oInt_i, oLt_ii, oLe_ii, oGt_ii, oGe_ii, oAddU_ii, oSub_ii, oNeg_i, asB_b, tru_b, oNotV_b, oIx_t0, oIx_t1, oIx_t2, oIx_l0, datas_nil, datas_cons, oLen_l, oLen_t, oTuple_l, wipeS, tidy_same, cut_same, cut_app]
  rw [ratio_ok (b := 8800) trivial den2_ne (ha.denD hb) (by decide), mul_top]
  simp only [defS, sSeq, sSet, sUnp, gT, gsCons, gsNil, gN, sPar2, sPar3, sAug, sExpr, sRet, sRetN, sPass, sBrk, sCnt, sIf, sRaise, fVar, fC, fBin, fUn, fTest, fTru, fNot, fIf, fCall, fCallL, fCallD, aNil, aCons, bind_ok, bind_err, bind_bad, then_ok, then_err, then_bad, sbind_nx, sbind_rt, sbind_bk, sbind_ct, sbind_err, sbind_bad, List.map_cons, List.map_nil, List.length_cons, List.length_nil, List.cons_append, List.nil_append, List.replicate_succ, List.replicate_zero, List.getElem?_cons_zero, List.getElem?_cons_succ, List.set_cons_zero, List.set_cons_succ, Nat.reduceSub, Nat.reduceAdd, if_pos, if_true, if_false, Bool.false_eq_true, ite_true, ite_false, reduceIte, Option.some.injEq, oGcd_ii, oMax_ii, oMin_ii, oInt_i, oLt_ii, oLe_ii, oGt_ii, oGe_ii, oAddU_ii, oSub_ii, oNeg_i, asB_b, tru_b, oNotV_b, oIx_t0, oIx_t1, oIx_t2, oIx_l0, datas_nil, datas_cons, oLen_l, oLen_t, oTuple_l, wipeS, tidy_same, cut_same, cut_app]
  exact trim_d trivial
theorem lmul_ok (ha : Fit a) (hb : Fit b) : m__law_mul [.d (eQ a), .d (eQ b)] m = .ok (.d (eQ (a * b))) m := by
  unfold m__law_mul s__law_mul
  simp only [defS, sSeq, sSet, sUnp, gT, gsCons, gsNil, gN, sPar2, sPar3, sAug, sExpr, sRet, sRetN, sPass, sBrk, sCnt, sIf, sRaise, fVar, fC, fBin, fUn, fTest, fTru, fNot, fIf, fCall, fCallL, fCallD, aNil, aCons, bind_ok, bind_err, bind_bad, then_ok, then_err, then_bad, sbind_nx, sbind_rt, sbind_bk, sbind_ct, sbind_err, sbind_bad, List.map_cons, List.map_nil, List.length_cons, List.length_nil, List.cons_append, List.nil_append, List.replicate_succ, List.replicate_zero, List.getElem?_cons_zero, List.getElem?_cons_succ, List.set_cons_zero, List.set_cons_succ, Nat.reduceSub, Nat.reduceAdd, if_pos, if_true, if_false, Bool.false_eq_true, ite_true, ite_false, reduceIte, Option.some.injEq, oGcd_ii, oMax_ii, oMin_ii, oInt_i, oLt_ii, oLe_ii, oGt_ii, oGe_ii, oAddU_ii, oSub_ii, oNeg_i, asB_b, tru_b, oNotV_b, oIx_t0, oIx_t1, oIx_t2, oIx_l0, datas_nil, datas_cons, oLen_l, oLen_t, oTuple_l, wipeS, tidy_same, cut_same, cut_app]
  unfold eQ
  simp only [defS, sSeq, sSet, sUnp, gT, gsCons, gsNil, gN, sPar2, sPar3, sAug, sExpr, sRet, sRetN, sPass, sBrk, sCnt, sIf, sRaise, fVar, fC, fBin, fUn, fTest, fTru, fNot, fIf, fCall, fCallL, fCallD, aNil, aCons, bind_ok, bind_err, bind_bad, then_ok, then_err, then_bad, sbind_nx, sbind_rt, sbind_bk, sbind_ct, sbind_err, sbind_bad, List.map_cons, List.map_nil, List.length_cons, List.length_nil, List.cons_append, List.nil_append, List.replicate_succ, List.replicate_zero, List.getElem?_cons_zero, List.getElem?_cons_succ, List.set_cons_zero, List.set_cons_succ, Nat.reduceSub, Nat.reduceAdd, if_pos, if_true, if_false, Bool.false_eq_true, ite_true, ite_false, reduceIte, Option.some.injEq, oGcd_ii, oMax_ii, oMin_ii, oInt_i, oLt_ii, oLe_ii, oGt_ii, oGe_ii, oAddU_ii, oSub_ii, oNeg_i, asB_b, tru_b, oNotV_b, oIx_t0, oIx_t1, oIx_t2, oIx_l0, datas_nil, datas_cons, oLen_l, oLen_t, oTuple_l, wipeS, tidy_same, cut_same, cut_app]
  simp only [oMulU_ii (ha.mulN hb), oMulU_ii (ha.mulD hb)]
  simp only [defS, sSeq, sSet, sUnp, gT, gsCons, gsNil, gN, sPar2, sPar3, sAug, sExpr, sRet, sRetN, sPass, sBrk, sCnt, sIf, sRaise, fVar, fC, fBin, fUn, fTest, fTru, fNot, fIf, fCall, fCallL, fCallD, aNil, aCons, bind_ok, bind_err, bind_bad, then_ok, then_err, then_bad, sbind_nx, sbind_rt, sbind_bk, sbind_ct, sbind_err, sbind_bad, List.map_cons, List.map_nil, List.length_cons, List.length_nil, List.cons_append, List.nil_append, List.replicate_succ, List.replicate_zero, List.getElem?_cons_zero, List.getElem?_cons_succ, List.set_cons_zero, List.set_cons_succ, Nat.reduceSub, Nat.reduceAdd, if_pos, if_true, if_false, Bool.false_eq_true, ite_true, ite_false, reduceIte, Option.some.injEq, oGcd_ii, oMax_ii, oMin_ii, oInt_i, oLt_ii, oLe_ii, oGt_ii, oGe_ii, oAddU_ii, oSub_ii, oNeg_i, asB_b, tru_b, oNotV_b, oIx_t0, oIx_t1, oIx_t2, oIx_l0, datas_nil, datas_cons, oLen_l, oLen_t, oTuple_l, wipeS, tidy_same, cut_same, cut_app]
  rw [low_ok (b := 8800) trivial den2_ne (ha.denD hb) (by decide), mul_top]
  simp only [defS, sSeq, sSet, sUnp, gT, gsCons, gsNil, gN, sPar2, sPar3, sAug, sExpr, sRet, sRetN, sPass, sBrk, sCnt, sIf, sRaise, fVar, fC, fBin, fUn, fTest, fTru, fNot, fIf, fCall, fCallL, fCallD, aNil, aCons, bind_ok, bind_err, bind_bad, then_ok, then_err, then_bad, sbind_nx, sbind_rt, sbind_bk, sbind_ct, sbind_err, sbind_bad, List.map_cons, List.map_nil, List.length_cons, List.length_nil, List.cons_append, List.nil_append, List.replicate_succ, List.replicate_zero, List.getElem?_cons_zero, List.getElem?_cons_succ, List.set_cons_zero, List.set_cons_succ, Nat.reduceSub, Nat.reduceAdd, if_pos, if_true, if_false, Bool.false_eq_true, ite_true, ite_false, reduceIte, Option.some.injEq, oGcd_ii, oMax_ii, oMin_ii, oInt_i, oLt_ii, oLe_ii, oGt_ii, oGe_ii, oAddU_ii, oSub_ii, oNeg_i, asB_b, tru_b, oNotV_b, oIx_t0, oIx_t1, oIx_t2, oIx_l0, datas_nil, datas_cons, oLen_l, oLen_t, oTuple_l, wipeS, tidy_same, cut_same, cut_app]
  exact trim_d trivial
end
theorem zipD_map {α β : Type} {f : α → PyData} {g : β → PyData} {xs : List α} {ys : List β} : zipD (xs.map f) (ys.map g) = (xs.zip ys).map fun p => PyData.tuple [f p.1, g p.2] := by
  unfold zipD
  rw [List.map_zip_eq_zipWith, List.zipWith_map]
  rfl
end Mn

set_option Elab.async false
set_option linter.all false
set_option maxRecDepth 100000
set_option autoImplicit false
set_option maxHeartbeats 2000000
namespace Mn
open PySem PySem.Spec L2 WK Lin
def W (D M : Nat) (q : Rat) : Prop := ∃ z : Int, q * (D : Rat) = (z : Rat) ∧ z.natAbs ≤ M
theorem W.mono {D M M' : Nat} {q : Rat} (h : W D M q) (hm : M ≤ M') : W D M' q := by
  obtain ⟨z, e, hz⟩ := h
  exact ⟨z, e, Nat.le_trans hz hm⟩
theorem W.zero {D M : Nat} : W D M 0 := ⟨0, by rw [Rat.zero_mul]; rfl, Nat.zero_le _⟩
theorem W.int {M : Nat} (z : Int) (h : z.natAbs ≤ M) : W 1 M (z : Rat) := ⟨z, by grind, h⟩
theorem W.add {D M M' : Nat} {p q : Rat} (h : W D M p) (h' : W D M' q) : W D (M + M') (p + q) := by
  obtain ⟨z, e, hz⟩ := h
  obtain ⟨y, e', hy⟩ := h'
  refine ⟨z + y, ?_, ?_⟩
  · rw [Rat.add_mul, e, e', Rat.intCast_add]
  · omega
theorem W.neg {D M : Nat} {q : Rat} (h : W D M q) : W D M (-q) := by
  obtain ⟨z, e, hz⟩ := h
  refine ⟨-z, ?_, ?_⟩
  · rw [Rat.neg_mul, e, Rat.intCast_neg]
  · omega
theorem W.sub {D M M' : Nat} {p q : Rat} (h : W D M p) (h' : W D M' q) : W D (M + M') (p - q) := by
  rw [Rat.sub_eq_add_neg]
  exact h.add h'.neg
theorem W.mul {D D' M M' : Nat} {p q : Rat} (h : W D M p) (h' : W D' M' q) : W (D * D') (M * M') (p * q) := by
  obtain ⟨z, e, hz⟩ := h
  obtain ⟨y, e', hy⟩ := h'
  refine ⟨z * y, ?_, ?_⟩
  · rw [Rat.intCast_mul, ← e, ← e', Rat.natCast_mul]
    grind
  · rw [Int.natAbs_mul]
    exact Nat.mul_le_mul hz hy
theorem W.div {D M X x : Nat} {q : Rat} (h : W D M q) (hx : 0 < x) (hX : 0 < X) (hd : x ∣ X) : W (D * X) (M * X) (q / (x : Rat)) := by
  obtain ⟨k, rfl⟩ := hd
  obtain ⟨z, e, hz⟩ := h
  have hxr : (x : Rat) ≠ 0 := by
    intro c
    have : x = 0 := by exact_mod_cast c
    omega
  refine ⟨z * k, ?_, ?_⟩
  · rw [Rat.intCast_mul, ← e, Rat.natCast_mul, Rat.natCast_mul]
    rw [show (((k : Nat) : Int) : Rat) = (k : Rat) from rfl]
    grind
  · rw [Int.natAbs_mul, Int.natAbs_natCast]
    exact Nat.mul_le_mul hz (Nat.le_mul_of_pos_left k hx)
theorem W.sum {D M : Nat} {f : Nat → Rat} : ∀ n : Nat, (∀ i, i < n → W D M (f i)) → W D (n * M) (S n f)
  | 0, _ => W.zero
  | n + 1, h => by
    refine ((W.sum n fun i hi => h i (by omega)).add (h n (by omega))).mono ?_
    rw [Nat.add_mul, Nat.one_mul]
    exact Nat.le_refl _
theorem dvd_of_mul_eq {q : Rat} {D : Nat} {z : Int} (e : q * (D : Rat) = (z : Rat)) : q.den ∣ D ∧ ((q.num * ((D / q.den : Nat) : Int)) = z) := by
  have d0 : (0 : Int) < q.den := den_pos' q
  have h1 : q.num * (D : Int) = z * (q.den : Int) := by
    have e1 := rat_eq q
    have dn := den_ne q
    have : (q.num : Rat) * (((D : Nat) : Int) : Rat) = (z : Rat) * ((q.den : Int) : Rat) := by
      rw [← e]
      rw [show (((D : Nat) : Int) : Rat) = (D : Rat) from rfl]
      generalize ((q.den : Int) : Rat) = dd at *
      generalize (q.num : Rat) = nn at *
      generalize q = q at *
      rw [e1]
      grind
    exact_mod_cast this
  have hd : q.den ∣ D := by
    have c : q.den ∣ q.num.natAbs * D := by
      have : (q.den : Int) ∣ q.num * (D : Int) := ⟨z, by rw [h1, Int.mul_comm]⟩
      have := Int.natAbs_dvd_natAbs.mpr this
      rwa [Int.natAbs_mul, Int.natAbs_natCast, Int.natAbs_natCast] at this
    exact (Nat.Coprime.dvd_of_dvd_mul_left (Nat.Coprime.symm q.reduced) c)
  refine ⟨hd, ?_⟩
  obtain ⟨k, hk⟩ := hd
  subst hk
  have hp : 0 < q.den := by omega
  rw [Nat.mul_div_cancel_left k hp]
  rw [Int.natCast_mul] at h1
  have : (q.den : Int) * (q.num * (k : Int)) = (q.den : Int) * z := by
    rw [Int.mul_comm _ z, ← h1, Int.mul_left_comm]
  exact Int.eq_of_mul_eq_mul_left (by omega) this
theorem W.fit {D M : Nat} {q : Rat} (h : W D M q) (h0 : 0 < D) (hD : D < 2 ^ 4400) (hM : M < 2 ^ 100000) : Fit q := by
  obtain ⟨z, e, hz⟩ := h
  obtain ⟨h1, h2⟩ := dvd_of_mul_eq e
  refine ⟨Nat.lt_of_le_of_lt (Nat.le_of_dvd h0 h1) hD, Nat.lt_of_le_of_lt ?_ hM⟩
  have k0 : 1 ≤ D / q.den := Nat.div_pos (Nat.le_of_dvd h0 h1) (by have := den_pos' q; omega)
  have : q.num.natAbs * 1 ≤ q.num.natAbs * (D / q.den) := Nat.mul_le_mul (Nat.le_refl _) k0
  rw [← h2, Int.natAbs_mul, Int.natAbs_natCast] at hz
  omega
theorem W.den {D M : Nat} {q : Rat} (h : W D M q) : q.den ∣ D := by
  obtain ⟨z, e, hz⟩ := h
  exact (dvd_of_mul_eq e).1
end Mn

set_option Elab.async false
set_option linter.all false
set_option maxRecDepth 100000
set_option autoImplicit false
set_option maxHeartbeats 2000000
namespace Mn
open PySem PySem.Spec L2 WK Lin
structure Sq (n : Nat) (rows : List (List Rat)) : Prop where
  cnt : rows.length = n
  len : ∀ r ∈ rows, r.length = n
def eLs (r : List Rat) : PyData := .list (r.map eQ)
def eLL (rows : List (List Rat)) : PyData := .list (rows.map eLs)
theorem W.sz {D M b : Nat} {q : Rat} (h : W D M q) (h0 : 0 < D) (hD : D < 2 ^ 64) (hM : M < 2 ^ b) : Sz (b + 64 + 1) q := by
  obtain ⟨z, e, hz⟩ := h
  obtain ⟨h1, h2⟩ := dvd_of_mul_eq e
  have k0 : 1 ≤ D / q.den := Nat.div_pos (Nat.le_of_dvd h0 h1) (by have := den_pos' q; omega)
  have : q.num.natAbs * 1 ≤ q.num.natAbs * (D / q.den) := Nat.mul_le_mul (Nat.le_refl _) k0
  rw [← h2, Int.natAbs_mul, Int.natAbs_natCast] at hz
  refine ⟨Nat.lt_of_lt_of_le (by omega : q.num.natAbs < 2 ^ b) (Nat.pow_le_pow_right (by decide) (by omega)), Nat.lt_of_lt_of_le (Nat.lt_of_le_of_lt (Nat.le_of_dvd h0 h1) hD) (Nat.pow_le_pow_right (by decide) (by omega))⟩
theorem W.ratio {D M : Nat} {z p : Int} (hp : p ≠ 0) (hd : p.natAbs ∣ D) (hz : z.natAbs ≤ M) : W D (M * D) ((z : Rat) / (p : Rat)) := by
  obtain ⟨k, rfl⟩ := hd
  have hpr : (p : Rat) ≠ 0 := castne hp
  refine ⟨z * p.sign * k, ?_, ?_⟩
  · have : ((p.natAbs * k : Nat) : Rat) = (p.sign : Rat) * (p : Rat) * (k : Rat) := by
      have e : ((p.natAbs * k : Nat) : Int) = p.sign * p * (k : Int) := by
        rw [Int.natCast_mul, Int.sign_mul_self]
      have : (((p.natAbs * k : Nat) : Int) : Rat) = ((p.sign * p * (k : Int) : Int) : Rat) := by rw [e]
      rw [Rat.intCast_mul, Rat.intCast_mul] at this
      exact this
    rw [this, Rat.intCast_mul, Rat.intCast_mul]
    rw [show (((k : Nat) : Int) : Rat) = (k : Rat) from rfl]
    grind
  · rw [Int.natAbs_mul, Int.natAbs_mul, Int.natAbs_natCast]
    have s : p.sign.natAbs ≤ 1 := by
      rcases Int.lt_trichotomy p 0 with c | c | c
      · rw [Int.sign_eq_neg_one_of_neg c]
        decide
      · exact absurd c hp
      · rw [Int.sign_eq_one_of_pos c]
        decide
    have a : z.natAbs * p.sign.natAbs ≤ M * 1 := Nat.mul_le_mul hz s
    rw [Nat.mul_one] at a
    have c : k ≤ p.natAbs * k := Nat.le_mul_of_pos_left k (Int.natAbs_pos.mpr hp)
    exact Nat.mul_le_mul a c
end Mn

set_option Elab.async false
set_option linter.all false
set_option maxRecDepth 100000
set_option autoImplicit false
set_option maxHeartbeats 2000000
namespace Mn
open PySem PySem.Spec L2 WK Lin
def outer (k n : Nat) : MO := .lst ((List.range n).map fun i => .o (k + i))
def setT (T : List (List Rat)) (i j : Nat) (q : Rat) : List (List Rat) := T.set i ((T.getD i []).set j q)
theorem setT_len {T : List (List Rat)} {i j : Nat} {q : Rat} : (setT T i j q).length = T.length := List.length_set ..
theorem getD_row {n i : Nat} {T : List (List Rat)} (h : Sq n T) (hi : i < n) : (T.getD i []).length = n := by
  have hi2 : i < T.length := by rw [h.cnt]; exact hi
  rw [List.getD_eq_getElem?_getD, List.getElem?_eq_getElem hi2]
  exact h.len _ (List.getElem_mem hi2)
theorem Sq.set {n i j : Nat} {T : List (List Rat)} {q : Rat} (h : Sq n T) (hi : i < n) : Sq n (setT T i j q) := by
  refine ⟨setT_len.trans h.cnt, fun r hr => ?_⟩
  rcases List.mem_or_eq_of_mem_set hr with hr | hr
  · exact h.len r hr
  · rw [hr, List.length_set]
    exact getD_row h hi
end Mn

set_option Elab.async false
set_option linter.all false
set_option maxRecDepth 100000
set_option autoImplicit false
set_option maxHeartbeats 4000000
namespace Mn
open PySem PySem.Spec L2 WK Lin
theorem rep_ok {g : EF} {ρ : SE} {m m1 : MM} {n : Nat} {a : PyData} {fa : AF} (hf : fLst fa ρ m = .ok [.d a] m) (hg : g ρ m = .ok (.d (iN n)) m) (hn : n ≤ 10000) : fRep (fLst fa) g ρ m = .ok (List.replicate n (.d a)) m := by
  unfold fRep
  rw [hf, bind_ok, hg, bind_ok]
  dsimp only
  rw [if_pos (by
    have : cap = 10000 := rfl
    rw [Int.toNat_natCast]
    show -(2 ^ 63) ≤ ((n : Nat) : Int) ∧ ((n : Nat) : Int) < 2 ^ 63 ∧ 1 * n ≤ cap
    omega), Int.toNat_natCast, rep_flat]
structure Gr.Sml (g : Gr) (L : Nat) : Prop where
  L0 : 0 < L
  L7 : L < 2 ^ 7
  n5 : g.nodes.length ≤ 5
  m13 : g.lines.length ≤ 13
  x : ∀ l ∈ g.lines, l.x ∣ L
end Mn

set_option Elab.async false
set_option linter.all false
set_option maxRecDepth 100000
set_option autoImplicit false
set_option maxHeartbeats 4000000
namespace Mn
open PySem PySem.Spec L2 WK Lin
structure AngT (g : Gr) (T : List (List Rat)) (D : Nat) : Prop where
  sq : Sq g.nodes.length T
  ang : g.toNet.Ang g.fst (tabF T)
  D0 : 0 < D
  D1 : D ≤ 2 ^ 2075
  w : ∀ u v, u < g.nodes.length → v < g.nodes.length → W D (2 ^ 415 * D) (tabF T u v)
  ok : ∀ m, m_angle_table [.d (eGr g)] m = .ok (.d (eLL T)) m
end Mn

set_option Elab.async false
set_option linter.all false
set_option maxRecDepth 100000
set_option autoImplicit false
set_option maxHeartbeats 4000000
set_option exponentiation.threshold 100
namespace Mn
open PySem PySem.Spec L2 WK Lin
section
variable {D D' a b c n : Nat} {p q : Rat}
theorem pw_mul {x y A B : Nat} (hx : x ≤ 2 ^ A) (hy : y ≤ 2 ^ B) : x * y ≤ 2 ^ (A + B) := by
  rw [Nat.pow_add]
  exact Nat.mul_le_mul hx hy
theorem W.up (h : W D (2 ^ a) p) (hab : a ≤ b) : W D (2 ^ b) p := h.mono (Nat.pow_le_pow_right (by decide) hab)
theorem W.mulp (h : W D (2 ^ a) p) (h' : W D' (2 ^ b) q) : W (D * D') (2 ^ (a + b)) (p * q) := (h.mul h').mono (pw_mul (Nat.le_refl _) (Nat.le_refl _))
theorem W.subp (h : W D (2 ^ a) p) (h' : W D (2 ^ a) q) : W D (2 ^ (a + 1)) (p - q) := (h.sub h').mono (by rw [Nat.pow_succ]; omega)
theorem W.sump {f : Nat → Rat} (hn : n ≤ 2 ^ c) (h : ∀ i, i < n → W D (2 ^ a) (f i)) : W D (2 ^ (c + a)) (S n f) := (W.sum n h).mono (pw_mul hn (Nat.le_refl _))
theorem W.fitp (h : W D (2 ^ a) q) (h0 : 0 < D) (hD : D ≤ 2 ^ c) (hc : c < 4400) (ha : a < 100000) : Fit q :=
  h.fit h0 (Nat.lt_of_le_of_lt hD (Nat.pow_lt_pow_right (by decide) hc)) (Nat.pow_lt_pow_right (by decide) ha)
theorem W.one (z : Int) (h : z.natAbs ≤ 2 ^ a) : W 1 (2 ^ a) (z : Rat) := W.int z h
end
def at0 (b : List Rat) (v : Nat) : Rat := b.getD v 0
structure Inj (g : Gr) (b : List Rat) : Prop where
  len : b.length = g.nodes.length
  w : ∀ v, v < g.nodes.length → W 12 (2 ^ 10) (at0 b v)
def thL (g : Gr) (T : List (List Rat)) (b : List Rat) : Nat → Rat := g.toNet.th (tabF T) (at0 b)
def angL (g : Gr) (T : List (List Rat)) (b : List Rat) : List Rat := (List.range g.nodes.length).map (thL g T b)
def flE (g : Gr) (T : List (List Rat)) (b : List Rat) (l : Ln) : Rat := (thL g T b l.a - thL g T b l.b) / (l.x : Rat)
def floL (g : Gr) (T : List (List Rat)) (b : List Rat) : List Rat := g.lines.map (flE g T b)
section
variable {g : Gr} {T : List (List Rat)} {b : List Rat} {D L : Nat} {m : MM}
theorem AngT.w2 (h : AngT g T D) {u v : Nat} (hu : u < g.nodes.length) (hv : v < g.nodes.length) : W D (2 ^ 2490) (tabF T u v) :=
  (h.w u v hu hv).mono (pw_mul (A := 415) (B := 2075) (Nat.le_refl _) h.D1)
theorem n5_8 (sm : g.Sml L) : g.nodes.length ≤ 2 ^ 3 := by
  have := sm.n5
  have e : (2 : Nat) ^ 3 = 8 := rfl
  omega
theorem th_w (h : AngT g T D) (sm : g.Sml L) (hb : Inj g b) {v : Nat} (hv : v < g.nodes.length) : W (D * 12) (2 ^ 2503) (thL g T b v) :=
  W.sump (c := 3) (a := 2500) (n5_8 sm) fun u hu => (h.w2 hv hu).mulp (hb.w u hu)
theorem D12 (h : AngT g T D) : D * 12 ≤ 2 ^ 2079 := pw_mul (A := 2075) (B := 4) h.D1 (by decide)
theorem D12_0 (h : AngT g T D) : 0 < D * 12 := Nat.mul_pos h.D0 (by decide)
theorem fl_w (h : AngT g T D) (k : g.Net) (sm : g.Sml L) (hb : Inj g b) {l : Ln} (hl : l ∈ g.lines) : W (D * 12 * L) (2 ^ 2511) (flE g T b l) :=
  (((th_w h sm hb (k.a l hl)).subp (th_w h sm hb (k.b l hl))).div (by have := k.x l hl; omega) sm.L0 (sm.x l hl)).mono (pw_mul (A := 2504) (B := 7) (Nat.le_refl _) (Nat.le_of_lt sm.L7))
theorem DL (h : AngT g T D) (sm : g.Sml L) : D * 12 * L ≤ 2 ^ 2086 := pw_mul (A := 2079) (B := 7) (D12 h) (Nat.le_of_lt sm.L7)
theorem DL_0 (h : AngT g T D) (sm : g.Sml L) : 0 < D * 12 * L := Nat.mul_pos (D12_0 h) sm.L0
end
end Mn

set_option Elab.async false
set_option linter.all false
set_option maxRecDepth 100000
set_option autoImplicit false
set_option maxHeartbeats 4000000
set_option exponentiation.threshold 100
namespace Mn
open PySem PySem.Spec L2 WK Lin
theorem bools_map {α : Type} {f : α → Bool} : ∀ xs : List α, bools (xs.map fun x => PyData.bool (f x)) = some (xs.map f)
  | [] => rfl
  | x :: r => by
    show (match bools (r.map fun x => PyData.bool (f x)) with | some bs => some (f x :: bs) | none => none) = _
    rw [bools_map r]
    rfl
theorem oAll_map {α : Type} {f : α → Bool} {xs : List α} {m : MM} : oAll [.d (.list (xs.map fun x => PyData.bool (f x)))] m = .ok (.d (.bool (xs.all f))) m := by
  unfold oAll
  dsimp only
  rw [bools_map]
  dsimp only
  rw [List.all_map]
  rfl
end Mn

set_option Elab.async false
set_option linter.all false
set_option maxRecDepth 100000
set_option autoImplicit false
set_option maxHeartbeats 4000000
set_option exponentiation.threshold 100
namespace Mn
open PySem PySem.Spec L2 WK Lin
theorem eqv_str (a b : Str) : PyData.eqv (.str a) (.str b) = decide (a = b) := by
  simp [PyData.eqv]
  exact Bool.beq_eq_decide_eq a b
theorem lay_str {s : Str} (h : PyData.strOk s = true) : (PyData.str s).canLay0 = true ∧ (PyData.str s).depth ≤ 0 := ⟨by unfold PyData.canLay0; exact h, Nat.le_refl _⟩
theorem shp_str {s : Str} (h : PyData.strOk s = true) : SeqAt.shaped (.str s) = true := shaped_of (lay_str h).1 (by show 0 ≤ 64; omega)
def SOk (ns : List Str) : Prop := ∀ s ∈ ns, PyData.strOk s = true
theorem shp_strs {ns : List Str} (hs : SOk ns) : SeqAt.shaped (.tuple (ns.map .str)) = true ∧ SeqAt.shaped (.list (ns.map .str)) = true := by
  have h : ∀ x ∈ ns.map PyData.str, x.canLay0 = true ∧ x.depth ≤ 0 := fun x hx => by
    obtain ⟨s, hm, rfl⟩ := List.mem_map.mp hx
    exact lay_str (hs s hm)
  exact ⟨shaped_of (lay_t h).1 (Nat.le_trans (lay_t h).2 (by decide)), shaped_of (lay_l h).1 (Nat.le_trans (lay_l h).2 (by decide))⟩
theorem inD_str {ns : List Str} {s : Str} : inD (.str s) (ns.map .str) = decide (s ∈ ns) := by
  unfold inD
  rw [List.any_map]
  by_cases h : s ∈ ns
  · rw [decide_eq_true h]
    refine List.any_eq_true.mpr ⟨s, h, ?_⟩
    show PyData.eqv (.str s) (.str s) = true
    rw [eqv_str, decide_eq_true rfl]
  · rw [decide_eq_false h]
    refine List.any_eq_false.mpr fun t ht => ?_
    show ¬ PyData.eqv (.str t) (.str s) = true
    rw [eqv_str]
    intro e
    exact h ((of_decide_eq_true e) ▸ ht)
section
variable {m : MM} {ns : List Str} {s : Str}
theorem notIn_t (h1 : PyData.strOk s = true) (h2 : SOk ns) : oNotIn (.d (.str s)) (.d (.tuple (ns.map .str))) m = .ok (.d (.bool (!decide (s ∈ ns)))) m := by
  show (oInB (.d (.str s)) (.d (.tuple (ns.map .str))) m).bind _ = _
  have : oInB (.d (.str s)) (.d (.tuple (ns.map .str))) m = .ok (decide (s ∈ ns)) m := by
    show (if SeqAt.shaped (.str s) && SeqAt.shaped (.tuple (ns.map .str)) then R.ok (inD (.str s) (ns.map .str)) m else .bad) = _
    rw [shp_str h1, (shp_strs h2).1, inD_str]
    rfl
  rw [this, bind_ok]
theorem in_t (h1 : PyData.strOk s = true) (h2 : SOk ns) : oIn (.d (.str s)) (.d (.tuple (ns.map .str))) m = .ok (.d (.bool (decide (s ∈ ns)))) m := by
  show (oInB (.d (.str s)) (.d (.tuple (ns.map .str))) m).bind _ = _
  have : oInB (.d (.str s)) (.d (.tuple (ns.map .str))) m = .ok (decide (s ∈ ns)) m := by
    show (if SeqAt.shaped (.str s) && SeqAt.shaped (.tuple (ns.map .str)) then R.ok (inD (.str s) (ns.map .str)) m else .bad) = _
    rw [shp_str h1, (shp_strs h2).1, inD_str]
    rfl
  rw [this, bind_ok]
theorem ns_mem {v : Nat} (h : v < ns.length) : ns.getD v nm0 ∈ ns := by
  rw [List.getD_eq_getElem?_getD, List.getElem?_eq_getElem h]
  exact List.getElem_mem h
end
end Mn

set_option Elab.async false
set_option linter.all false
set_option maxRecDepth 100000
set_option autoImplicit false
set_option maxHeartbeats 4000000
set_option exponentiation.threshold 100
namespace Mn
open PySem PySem.Spec L2 WK Lin
def Gr.Is (g : Gr) : Prop := ∀ m, m_check_grid [.d (eGr g)] m = .ok (.d .none) m
section
variable {g : Gr} {T : List (List Rat)} {b : List Rat} {D L : Nat} {m : MM}
theorem fl_fit (h : AngT g T D) (k : g.Net) (sm : g.Sml L) (hb : Inj g b) {l : Ln} (hl : l ∈ g.lines) : Fit (flE g T b l) := (fl_w h k sm hb hl).fitp (DL_0 h sm) (DL h sm) (by decide) (by decide)
theorem x_w (sm : g.Sml L) (k : g.Net) {l : Ln} (hl : l ∈ g.lines) : W 1 (2 ^ 7) (l.x : Rat) := W.int (M := 2 ^ 7) ((l.x : Nat) : Int) (by
  rw [Int.natAbs_natCast]
  exact Nat.le_trans (Nat.le_of_dvd sm.L0 (sm.x l hl)) (Nat.le_of_lt sm.L7))
theorem x_fit (sm : g.Sml L) (k : g.Net) {l : Ln} (hl : l ∈ g.lines) : Fit (l.x : Rat) := (x_w sm k hl).fitp (c := 0) (by decide) (by decide) (by decide) (by decide)
theorem eQ_x {x : Nat} : eQ (x : Rat) = .tuple [iN x, .int 1] := eQ_int ((x : Nat) : Int)
end
end Mn

set_option Elab.async false
set_option linter.all false
set_option maxRecDepth 100000
set_option autoImplicit false
set_option maxHeartbeats 4000000
set_option exponentiation.threshold 100
namespace Mn
open PySem PySem.Spec L2 WK Lin
section
variable {ρ : SE} {m m1 : MM}
theorem chain_ii {f g h : EF} {i j k : Int} (hf : f ρ m = .ok (.d (.int i)) m) (hg : g ρ m = .ok (.d (.int j)) m) (hh : h ρ m = .ok (.d (.int k)) m) : fChain oLe oLe f g h ρ m = .ok (.d (.bool (decide (i ≤ j) && decide (j ≤ k)))) m := by
  unfold fChain
  rw [hf, bind_ok, hg, bind_ok, oLe_ii, bind_ok]
  by_cases q : i ≤ j
  · rw [decide_eq_true q]
    dsimp only
    rw [hh, bind_ok, oLe_ii]
    rfl
  · rw [decide_eq_false q]
    rfl
end
theorem oAddU_tt {ds es : List PyData} {m : MM} (h : ds.length + es.length ≤ cap) : oAddU (.d (.tuple ds)) (.d (.tuple es)) m = .ok (.d (.tuple (ds ++ es))) m := if_pos h
theorem between_ok {i a b : Int} {m : MM} (h1 : a ≤ i) (h2 : i ≤ b) : m_is_between [.d (.int i), .d (.int a), .d (.int b)] m = .ok (.d (.bool true)) m := by
  unfold m_is_between
  refine def_ret (ρ := [some (.d (.int i)), some (.d (.int a)), some (.d (.int b))]) rfl ?_
  unfold s_is_between
  refine ret_ok ((andV_yes (call_ok rfl rfl (integer_ok trivial))).trans ((chain_ii rfl rfl rfl).trans ?_))
  rw [decide_eq_true h1, decide_eq_true h2]
  rfl
def LET : Str := "abcdefghijklmnopqrstuvwxyz"
def SGN : Str := "abcdefghijklmnopqrstuvwxyz0123456789"
def inS (c : Nat) (z : Str) : Bool := !(Builtin.Str.occurrences z ⟨#[c]⟩ 0 z.length 1).isEmpty
def nmB (s : Str) : Bool := decide (1 ≤ s.length ∧ s.length ≤ 8) && (match s.cps.toList with
  | [] => false
  | c :: r => inS c LET && (c :: r).all fun c => inS c SGN)
theorem name_ok {s : Str} {m : MM} (h : nmB s = true) : m_is_name [.d (.str s)] m = .ok (.d (.bool true)) m := by
  unfold nmB at h
  rw [Bool.and_eq_true] at h
  obtain ⟨h1, h2⟩ := h
  have h1 := of_decide_eq_true h1
  have hz : s.length ≤ sizeLine := Nat.le_trans h1.2 (by decide)
  cases hs : s.cps.toList with
  | nil =>
    rw [hs] at h2
    cases h2
  | cons c r =>
    rw [hs] at h2
    dsimp only at h2
    rw [Bool.and_eq_true] at h2
    unfold m_is_name
    refine def_ret (ρ := [some (.d (.str s)), none]) rfl ?_
    unfold s_is_name
    have ln : oLen [.d (.str s)] m = .ok (.d (.int ((s.length : Nat) : Int))) m := if_pos hz
    have t1 : fNot (fTru (fIsi "str" (fVar 0))) [some (.d (.str s)), none] m = .ok false m := not_ok (b := true) (tru_ok (isi_ok (x := .str s) rfl rfl))
    have t2 : fNot (fTest (fChain oLe oLe (fC (.int 1)) (fCall oLen (aCons (fVar 0) aNil)) (fC (.int 8)))) [some (.d (.str s)), none] m = .ok false m := by
      refine (not_ok (test_ok (chain_ii rfl ((ctl_ok (acons_ok rfl rfl)).trans ln) rfl))).trans ?_
      rw [decide_eq_true (by omega), decide_eq_true (by omega)]
      rfl
    refine step_nx ((if_no ((or_no t1).trans t2)).trans rfl) (ret_ok ?_)
    have i0 : oIx (.d (.str s)) (.d (.int 0)) m = .ok (.d (.str ⟨#[c]⟩)) m := by
      show (match atI s.cps.toList 0 with | some c => if s.length ≤ sizeLine then R.ok (SV.d (.str ⟨#[c]⟩)) m else .bad | none => .bad) = _
      rw [hs, show atI (c :: r) 0 = some c from atI_nat' (l := c :: r) (k := 0) (x := c) rfl]
      exact if_pos hz
    have c0 : fBin oIn (fBin oIx (fVar 0) (fC (.int 0))) (fC (.str "abcdefghijklmnopqrstuvwxyz")) [some (.d (.str s)), none] m = .ok (.d (.bool true)) m := by
      refine (bin_ok ((bin_ok rfl rfl).trans i0) rfl).trans ?_
      show R.ok (SV.d (.bool (inS c LET))) m = _
      rw [h2.1]
    refine (andV_yes c0).trans ?_
    have cc := fz_compN (fi := iSeq (fVar 0)) (i := 1) (own := [1]) (fe := fBin oIn (fVar 1) (fC (.str "abcdefghijklmnopqrstuvwxyz0123456789"))) (ρ := [some (.d (.str s)), none]) (m := m) (xs := s.cps.toList) (enc := fun c => PyData.str ⟨#[c]⟩) (g := fun c => PyData.bool (inS c SGN)) (iSeq_str rfl) (by
      have : s.cps.toList.length = s.length := by rw [Array.length_toList]; rfl
      have hcap : cap = 10000 := rfl
      omega) fun c _ => (bin_ok rfl rfl).trans rfl
    refine (ctl_ok (acons_ok cc rfl)).trans (oAll_map.trans ?_)
    rw [hs, h2.2]
structure Gr.Ok (g : Gr) : Prop where
  net : g.Net
  p8 : g.plants.length ≤ 8
  l8 : g.loads.length ≤ 8
  nn : ∀ s ∈ g.nodes, nmB s = true
  ln : ∀ l ∈ g.lines, nmB l.nm = true
  lim : ∀ l ∈ g.lines, l.lim ≤ 999
  pn : ∀ u ∈ g.plants, nmB u.nm = true ∧ u.nd < g.nodes.length ∧ u.amt ≤ 999 ∧ u.wor ≤ 999
  dn : ∀ u ∈ g.loads, nmB u.nm = true ∧ u.nd < g.nodes.length ∧ u.amt ≤ 999 ∧ u.wor ≤ 9999
  nd : (g.nodes ++ (g.lines.map (·.nm) ++ g.plants.map (·.nm) ++ g.loads.map (·.nm))).Nodup
section
variable {g : Gr} {m : MM}
theorem is_line_gen (n : g.Net) {l : Ln} (hl : l ∈ g.lines) (hnm : nmB l.nm = true) (hm : l.lim ≤ 999) : m_is_line [.d (eLn g.nodes l), .d (eNs g.nodes)] m = .ok (.d (.bool true)) m := by
  have ha := n.a l hl
  have hb := n.b l hl
  have hx := n.x l hl
  have hx9 := n.x99 l hl
  unfold m_is_line
  refine def_ret (ρ := [some (.d (eLn g.nodes l)), some (.d (eNs g.nodes)), none, none, none, none, none]) rfl ?_
  unfold s_is_line
  have t1 : fNot (fTru (fIsi "tuple" (fVar 0))) [some (.d (eLn g.nodes l)), some (.d (eNs g.nodes)), none, none, none, none, none] m = .ok false m := not_ok (b := true) (tru_ok (isi_ok (x := eLn g.nodes l) rfl rfl))
  have t2 : fTest (fBin oNe (fCall oLen (aCons (fVar 0) aNil)) (fC (.int 5))) [some (.d (eLn g.nodes l)), some (.d (eNs g.nodes)), none, none, none, none, none] m = .ok false m := test_ok ((bin_ok ((ctl_ok (acons_ok rfl rfl)).trans oLen_t) rfl).trans oNe_ii)
  refine step_nx ((if_no ((or_no t1).trans t2)).trans rfl) ?_
  refine step_nx (ρ1 := [some (.d (eLn g.nodes l)), some (.d (eNs g.nodes)), some (.d (.str l.nm)), some (.d (.str (g.nodes.getD l.a nm0))), some (.d (.str (g.nodes.getD l.b nm0))), some (.d (iN l.x)), some (.d (iN l.lim))]) (m1 := m) (unp_ok (x := eLn g.nodes l) rfl rfl) ?_
  have ne : ¬ g.nodes.getD l.a nm0 = g.nodes.getD l.b nm0 := fun e => by
    have h1 := ixStr_at n.nd ha
    rw [e, ixStr_at n.nd hb] at h1
    exact n.ne l hl (Option.some.inj h1).symm
  have s1 := n.sok _ (ns_mem ha)
  have s2 := n.sok _ (ns_mem hb)
  have u1 := test_ok (f := fBin oNotIn (fVar 3) (fVar 1)) (ρ := [some (.d (eLn g.nodes l)), some (.d (eNs g.nodes)), some (.d (.str l.nm)), some (.d (.str (g.nodes.getD l.a nm0))), some (.d (.str (g.nodes.getD l.b nm0))), some (.d (iN l.x)), some (.d (iN l.lim))]) ((bin_ok rfl rfl).trans (notIn_t (m := m) s1 n.sok))
  have u2 := test_ok (f := fBin oNotIn (fVar 4) (fVar 1)) (ρ := [some (.d (eLn g.nodes l)), some (.d (eNs g.nodes)), some (.d (.str l.nm)), some (.d (.str (g.nodes.getD l.a nm0))), some (.d (.str (g.nodes.getD l.b nm0))), some (.d (iN l.x)), some (.d (iN l.lim))]) ((bin_ok rfl rfl).trans (notIn_t (m := m) s2 n.sok))
  have u3 := test_ok (f := fBin oEq (fVar 3) (fVar 4)) (ρ := [some (.d (eLn g.nodes l)), some (.d (eNs g.nodes)), some (.d (.str l.nm)), some (.d (.str (g.nodes.getD l.a nm0))), some (.d (.str (g.nodes.getD l.b nm0))), some (.d (iN l.x)), some (.d (iN l.lim))]) ((bin_ok rfl rfl).trans (oEq_d (m := m) (shp_str s1) (shp_str s2)))
  rw [decide_eq_true (ns_mem ha)] at u1
  rw [decide_eq_true (ns_mem hb)] at u2
  rw [eqv_str, decide_eq_false ne] at u3
  refine step_nx ((if_no ((or_no u1).trans ((or_no u2).trans u3))).trans rfl) (ret_ok ?_)
  refine (andV_yes (call_ok rfl rfl (name_ok hnm))).trans ((andV_yes (call_ok rfl rfl (between_ok (i := (l.x : Int)) (by omega) (by omega)))).trans ?_)
  exact call_ok rfl rfl (between_ok (i := (l.lim : Int)) (by omega) (by omega))
theorem is_line_ok (k : g.Ok) {l : Ln} (hl : l ∈ g.lines) : m_is_line [.d (eLn g.nodes l), .d (eNs g.nodes)] m = .ok (.d (.bool true)) m := is_line_gen k.net hl (k.ln l hl) (k.lim l hl)
theorem is_user_ok (k : g.Net) {u : Us} {w : Nat} (h : nmB u.nm = true ∧ u.nd < g.nodes.length ∧ u.amt ≤ 999 ∧ u.wor ≤ w) : m_is_user [.d (eUs g.nodes u), .d (eNs g.nodes), .d (iN w)] m = .ok (.d (.bool true)) m := by
  obtain ⟨h1, h2, h3, h4⟩ := h
  unfold m_is_user
  refine def_ret (ρ := [some (.d (eUs g.nodes u)), some (.d (eNs g.nodes)), some (.d (iN w)), none, none, none, none]) rfl ?_
  unfold s_is_user
  have t1 : fNot (fTru (fIsi "tuple" (fVar 0))) [some (.d (eUs g.nodes u)), some (.d (eNs g.nodes)), some (.d (iN w)), none, none, none, none] m = .ok false m := not_ok (b := true) (tru_ok (isi_ok (x := eUs g.nodes u) rfl rfl))
  have t2 : fTest (fBin oNe (fCall oLen (aCons (fVar 0) aNil)) (fC (.int 4))) [some (.d (eUs g.nodes u)), some (.d (eNs g.nodes)), some (.d (iN w)), none, none, none, none] m = .ok false m := test_ok ((bin_ok ((ctl_ok (acons_ok rfl rfl)).trans oLen_t) rfl).trans oNe_ii)
  refine step_nx ((if_no ((or_no t1).trans t2)).trans rfl) ?_
  refine step_nx (ρ1 := [some (.d (eUs g.nodes u)), some (.d (eNs g.nodes)), some (.d (iN w)), some (.d (.str u.nm)), some (.d (.str (g.nodes.getD u.nd nm0))), some (.d (iN u.amt)), some (.d (iN u.wor))]) (m1 := m) (unp_ok (x := eUs g.nodes u) rfl rfl) (ret_ok ?_)
  refine (andV_yes (call_ok rfl rfl (name_ok h1))).trans ((andV_yes ((bin_ok rfl rfl).trans ((in_t (k.sok _ (ns_mem h2)) k.sok).trans (by rw [decide_eq_true (ns_mem h2)])))).trans ((andV_yes (call_ok rfl rfl (between_ok (i := (u.amt : Int)) (by omega) (by omega)))).trans ?_))
  exact call_ok rfl rfl (between_ok (i := (u.wor : Int)) (by omega) (by omega))
theorem uniq_nodup {α : Type} [DecidableEq α] : ∀ {xs : List α}, xs.Nodup → uniq xs = xs := by
  have aux : ∀ (r l : List α), (l ++ r).Nodup → r.foldl (fun acc x => if x ∈ acc then acc else acc ++ [x]) l = l ++ r := by
    intro r
    induction r with
    | nil => intro l _; rw [List.append_nil]; rfl
    | cons x r ih =>
      intro l h
      rw [List.foldl_cons, if_neg (by
        intro hx
        have := (List.nodup_append.mp h).2.2 x hx x List.mem_cons_self
        exact this rfl), ih (l ++ [x]) (by rw [List.append_assoc]; exact h), List.append_assoc]
      rfl
  intro xs h
  exact aux xs [] h
theorem cnt_strs' {ns : List Str} (h0 : ns ≠ []) : cntU (ns.map .str) = some (uniq ns).length := by
  unfold cntU
  have : intsOf (ns.map PyData.str) = none := by
    cases ns with
    | nil => exact absurd rfl h0
    | cons s r => rfl
  rw [this]
  dsimp only
  rw [strsOf_map]
theorem is_grid_gen (n1 : 1 ≤ g.nodes.length) (n8 : g.nodes.length ≤ 8) (m14 : g.lines.length ≤ 14) (p8 : g.plants.length ≤ 8) (l8 : g.loads.length ≤ 8) (nn : ∀ s ∈ g.nodes, nmB s = true)
    (kl : ∀ l ∈ g.lines, ∀ m, m_is_line [.d (eLn g.nodes l), .d (eNs g.nodes)] m = .ok (.d (.bool true)) m)
    (kp : ∀ u ∈ g.plants, ∀ m, m_is_user [.d (eUs g.nodes u), .d (eNs g.nodes), .d (iN 999)] m = .ok (.d (.bool true)) m) (kd : ∀ u ∈ g.loads, ∀ m, m_is_user [.d (eUs g.nodes u), .d (eNs g.nodes), .d (iN 9999)] m = .ok (.d (.bool true)) m) :
    m_is_grid [.d (eGr g)] m = .ok (.d (.bool (decide ((uniq (g.nodes ++ (g.lines.map (·.nm) ++ g.plants.map (·.nm) ++ g.loads.map (·.nm)))).length = (g.nodes ++ (g.lines.map (·.nm) ++ g.plants.map (·.nm) ++ g.loads.map (·.nm))).length)))) m := by
  have hcap : cap = 10000 := rfl
  unfold m_is_grid
  refine def_ret (ρ := [some (.d (eGr g)), none, none, none, none, none, none, none, none, none, none, none]) rfl ?_
  unfold s_is_grid
  have t1 : fNot (fTru (fIsi "tuple" (fVar 0))) [some (.d (eGr g)), none, none, none, none, none, none, none, none, none, none, none] m = .ok false m := not_ok (b := true) (tru_ok (isi_ok (x := eGr g) rfl rfl))
  have t2 : fTest (fBin oNe (fCall oLen (aCons (fVar 0) aNil)) (fC (.int 4))) [some (.d (eGr g)), none, none, none, none, none, none, none, none, none, none, none] m = .ok false m := test_ok ((bin_ok ((ctl_ok (acons_ok rfl rfl)).trans oLen_t) rfl).trans oNe_ii)
  refine step_nx ((if_no ((or_no t1).trans t2)).trans rfl) ?_
  have c1 := fz_compN (fi := iSeq (fVar 0)) (i := 6) (own := [6]) (fe := fIsi "tuple" (fVar 6)) (ρ := [some (.d (eGr g)), none, none, none, none, none, none, none, none, none, none, none]) (m := m) (xs := [g.nodes.map PyData.str, g.lines.map (eLn g.nodes), g.plants.map (eUs g.nodes), g.loads.map (eUs g.nodes)]) (enc := fun x => PyData.tuple x) (g := fun _ => PyData.bool true) (iSeq_ok (x := eGr g) rfl rfl) (by show 4 ≤ cap; omega) fun x _ => isi_ok (x := .tuple x) rfl rfl
  refine step_nx ((if_no (not_ok (b := true) (tru_ok ((ctl_ok (acons_ok c1 rfl)).trans oAll_true)))).trans rfl) ?_
  refine step_nx (ρ1 := [some (.d (eGr g)), some (.d (eNs g.nodes)), some (.d (eLns g)), some (.d (.tuple (g.plants.map (eUs g.nodes)))), some (.d (.tuple (g.loads.map (eUs g.nodes)))), none, none, none, none, none, none, none]) (m1 := m) (unp_ok (x := eGr g) rfl rfl) ?_
  generalize hρ : ([some (.d (eGr g)), some (.d (eNs g.nodes)), some (.d (eLns g)), some (.d (.tuple (g.plants.map (eUs g.nodes)))), some (.d (.tuple (g.loads.map (eUs g.nodes)))), none, none, none, none, none, none, none] : SE) = ρ
  have v1 : fVar 1 ρ m = .ok (.d (eNs g.nodes)) m := by rw [← hρ]; rfl
  have v2 : fVar 2 ρ m = .ok (.d (eLns g)) m := by rw [← hρ]; rfl
  have v3 : fVar 3 ρ m = .ok (.d (.tuple (g.plants.map (eUs g.nodes)))) m := by rw [← hρ]; rfl
  have v4 : fVar 4 ρ m = .ok (.d (.tuple (g.loads.map (eUs g.nodes)))) m := by rw [← hρ]; rfl
  have a1 : fNot (fTest (fChain oLe oLe (fC (.int 1)) (fCall oLen (aCons (fVar 1) aNil)) (fC (.int 8)))) ρ m = .ok false m := by
    refine (not_ok (test_ok (chain_ii rfl ((ctl_ok (acons_ok v1 rfl)).trans len_ns) rfl))).trans ?_
    rw [decide_eq_true (by omega), decide_eq_true (by omega)]
    rfl
  have a2 : fTest (fBin oGt (fCall oLen (aCons (fVar 2) aNil)) (fC (.int 14))) ρ m = .ok false m := by
    refine (test_ok ((bin_ok ((ctl_ok (acons_ok v2 rfl)).trans len_lns) rfl).trans oGt_ii)).trans ?_
    rw [decide_eq_false (by omega)]
  refine step_nx ((if_no ((or_no a1).trans a2)).trans rfl) ?_
  have a3 : fTest (fBin oGt (fCall oLen (aCons (fVar 3) aNil)) (fC (.int 8))) ρ m = .ok false m := by
    refine (test_ok ((bin_ok ((ctl_ok (acons_ok v3 rfl)).trans oLen_t) rfl).trans oGt_ii)).trans ?_
    rw [List.length_map, decide_eq_false (by omega)]
  have a4 : fTest (fBin oGt (fCall oLen (aCons (fVar 4) aNil)) (fC (.int 8))) ρ m = .ok false m := by
    refine (test_ok ((bin_ok ((ctl_ok (acons_ok v4 rfl)).trans oLen_t) rfl).trans oGt_ii)).trans ?_
    rw [List.length_map, decide_eq_false (by omega)]
  refine step_nx ((if_no ((or_no a3).trans a4)).trans rfl) ?_
  have b1 : fNot (fTru (fCall oAll (aCons (fFz (fComp (iSeq (fVar 1)) (gN 7) [7] tYesF (fCallD 1 m_is_name (aCons (fVar 7) aNil)))) aNil))) ρ m = .ok false m := by
    have c := fz_compN (fi := iSeq (fVar 1)) (i := 7) (own := [7]) (fe := fCallD 1 m_is_name (aCons (fVar 7) aNil)) (ρ := ρ) (m := m) (xs := g.nodes) (enc := PyData.str) (g := fun _ => PyData.bool true) (iSeq_ok v1 seq_ns) (by omega) fun s hs => by
      rw [← hρ]
      exact call_ok rfl rfl (name_ok (nn s hs))
    exact not_ok (b := true) (tru_ok ((ctl_ok (acons_ok c rfl)).trans oAll_true))
  have b2 : fNot (fTru (fCall oAll (aCons (fFz (fComp (iSeq (fVar 2)) (gN 8) [8] tYesF (fCallD 2 m_is_line (aCons (fVar 8) (aCons (fVar 1) aNil))))) aNil))) ρ m = .ok false m := by
    have c := fz_compN (fi := iSeq (fVar 2)) (i := 8) (own := [8]) (fe := fCallD 2 m_is_line (aCons (fVar 8) (aCons (fVar 1) aNil))) (ρ := ρ) (m := m) (xs := g.lines) (enc := eLn g.nodes) (g := fun _ => PyData.bool true) (iSeq_ok v2 seq_lns) (by omega) fun l hl => by
      rw [← hρ]
      exact call_ok rfl rfl (kl l hl _)
    exact not_ok (b := true) (tru_ok ((ctl_ok (acons_ok c rfl)).trans oAll_true))
  refine step_nx ((if_no ((or_no b1).trans b2)).trans rfl) ?_
  have b3 : fNot (fTru (fCall oAll (aCons (fFz (fComp (iSeq (fVar 3)) (gN 9) [9] tYesF (fCallD 3 m_is_user (aCons (fVar 9) (aCons (fVar 1) (aCons (fC (.int 999)) aNil)))))) aNil))) ρ m = .ok false m := by
    have c := fz_compN (fi := iSeq (fVar 3)) (i := 9) (own := [9]) (fe := fCallD 3 m_is_user (aCons (fVar 9) (aCons (fVar 1) (aCons (fC (.int 999)) aNil)))) (ρ := ρ) (m := m) (xs := g.plants) (enc := eUs g.nodes) (g := fun _ => PyData.bool true) (iSeq_ok v3 rfl) (by omega) fun u hu => by
      rw [← hρ]
      exact call_ok rfl rfl (kp u hu _)
    exact not_ok (b := true) (tru_ok ((ctl_ok (acons_ok c rfl)).trans oAll_true))
  refine step_nx ((if_no b3).trans rfl) ?_
  have b4 : fNot (fTru (fCall oAll (aCons (fFz (fComp (iSeq (fVar 4)) (gN 10) [10] tYesF (fCallD 3 m_is_user (aCons (fVar 10) (aCons (fVar 1) (aCons (fC (.int 9999)) aNil)))))) aNil))) ρ m = .ok false m := by
    have c := fz_compN (fi := iSeq (fVar 4)) (i := 10) (own := [10]) (fe := fCallD 3 m_is_user (aCons (fVar 10) (aCons (fVar 1) (aCons (fC (.int 9999)) aNil)))) (ρ := ρ) (m := m) (xs := g.loads) (enc := eUs g.nodes) (g := fun _ => PyData.bool true) (iSeq_ok v4 rfl) (by omega) fun u hu => by
      rw [← hρ]
      exact call_ok rfl rfl (kd u hu _)
    exact not_ok (b := true) (tru_ok ((ctl_ok (acons_ok c rfl)).trans oAll_true))
  refine step_nx ((if_no b4).trans rfl) ?_
  have e1 : fFz (fComp (iSeq (fBin oAddU (fBin oAddU (fVar 2) (fVar 3)) (fVar 4))) (gN 11) [11] tYesF (fBin oIx (fVar 11) (fC (.int 0)))) ρ m = .ok (.d (.list ((g.lines.map (·.nm) ++ g.plants.map (·.nm) ++ g.loads.map (·.nm)).map .str))) m := by
    have ad : fBin oAddU (fBin oAddU (fVar 2) (fVar 3)) (fVar 4) ρ m = .ok (.d (.tuple (g.lines.map (eLn g.nodes) ++ g.plants.map (eUs g.nodes) ++ g.loads.map (eUs g.nodes)))) m := by
      refine (bin_ok ((bin_ok v2 v3).trans (oAddU_tt ?_)) v4).trans (oAddU_tt ?_)
      · rw [List.length_map, List.length_map]
        omega
      · rw [List.length_append, List.length_map, List.length_map, List.length_map]
        omega
    have c := fz_compN (fi := iSeq (fBin oAddU (fBin oAddU (fVar 2) (fVar 3)) (fVar 4))) (i := 11) (own := [11]) (fe := fBin oIx (fVar 11) (fC (.int 0))) (ρ := ρ) (m := m) (xs := g.lines.map (fun l => (l.nm, eLn g.nodes l)) ++ g.plants.map (fun u => (u.nm, eUs g.nodes u)) ++ g.loads.map (fun u => (u.nm, eUs g.nodes u))) (enc := fun p => p.2) (g := fun p => PyData.str p.1) (iSeq_ok ad (by
      rw [List.map_append, List.map_append, List.map_map, List.map_map, List.map_map]
      rfl)) (by rw [List.length_append, List.length_append, List.length_map, List.length_map, List.length_map]; omega) fun p hp => by
        rw [← hρ]
        rcases List.mem_append.mp hp with hp | hp
        · rcases List.mem_append.mp hp with hp | hp
          · obtain ⟨l, _, rfl⟩ := List.mem_map.mp hp
            exact (bin_ok rfl rfl).trans ln_0
          · obtain ⟨u, _, rfl⟩ := List.mem_map.mp hp
            exact (bin_ok rfl rfl).trans oIx_t0
        · obtain ⟨u, _, rfl⟩ := List.mem_map.mp hp
          exact (bin_ok rfl rfl).trans oIx_t0
    rw [c]
    congr 3
    rw [List.map_append, List.map_append, List.map_append, List.map_append]
    simp only [List.map_map]
    rfl
  have e0 : fFz (fCallL oList (aCons (fVar 1) aNil)) ρ m = .ok (.d (.list (g.nodes.map .str))) m := by
    refine fz_ok ?_
    rw [← hρ]
    rfl
  have e2 : fBin oAddU (fFz (fCallL oList (aCons (fVar 1) aNil))) (fFz (fComp (iSeq (fBin oAddU (fBin oAddU (fVar 2) (fVar 3)) (fVar 4))) (gN 11) [11] tYesF (fBin oIx (fVar 11) (fC (.int 0))))) ρ m = .ok (.d (.list ((g.nodes ++ (g.lines.map (·.nm) ++ g.plants.map (·.nm) ++ g.loads.map (·.nm))).map .str))) m := by
    rw [bin_ok e0 e1, oAddU_ll (by simp only [List.length_map, List.length_append]; omega), ← List.map_append]
  have hlen : (g.nodes ++ (g.lines.map (·.nm) ++ g.plants.map (·.nm) ++ g.loads.map (·.nm))).length ≤ 4000 := by
    simp only [List.length_map, List.length_append]
    omega
  have hne : (g.nodes ++ (g.lines.map (·.nm) ++ g.plants.map (·.nm) ++ g.loads.map (·.nm))) ≠ [] := by
    intro e
    have := congrArg List.length e
    rw [List.length_append] at this
    simp only [List.length_nil] at this
    omega
  generalize (g.nodes ++ (g.lines.map (·.nm) ++ g.plants.map (·.nm) ++ g.loads.map (·.nm))) = ns at *
  refine step_set e2 rfl (ret_ok ?_)
  have v5 : fVar 5 (ρ.set 5 (some (.d (.list (ns.map .str))))) m = .ok (.d (.list (ns.map .str))) m := by rw [← hρ]; rfl
  have ls : fLenSet (fVar 5) (ρ.set 5 (some (.d (.list (ns.map .str))))) m = .ok (.d (iN (uniq ns).length)) m := by
    unfold fLenSet
    rw [v5, bind_ok, listD_l]
    dsimp only
    rw [cnt_strs' hne]
    dsimp only
    rw [if_pos (by rw [List.length_map]; exact hlen)]
  refine (bin_ok ls ((ctl_ok (acons_ok v5 rfl)).trans oLen_l)).trans ?_
  rw [List.length_map]
  exact oEq_nn
theorem is_grid_ok (k : g.Ok) : m_is_grid [.d (eGr g)] m = .ok (.d (.bool true)) m := by
  have n := k.net
  rw [is_grid_gen n.n1 n.n8 n.m14 k.p8 k.l8 k.nn (fun l hl m => is_line_ok k hl) (fun u hu m => is_user_ok (w := 999) n (k.pn u hu)) (fun u hu m => is_user_ok (w := 9999) n (k.dn u hu)), uniq_nodup k.nd, decide_eq_true rfl]
theorem Gr.Ok.is (k : g.Ok) : g.Is := fun m => by
  unfold m_check_grid
  rw [def_nx (s := s_check_grid) (ρ := [some (.d (eGr g))]) (ρ' := [some (.d (eGr g))]) (m' := m) rfl ((if_no (not_ok (b := true) (tru_ok (call_ok rfl rfl (is_grid_ok k))))).trans rfl)]
  exact trim_d trivial
end
end Mn

set_option Elab.async false
set_option linter.all false
set_option maxRecDepth 100000
set_option autoImplicit false
set_option maxHeartbeats 4000000
set_option exponentiation.threshold 100
set_option Elab.async false
set_option linter.all false
set_option maxRecDepth 100000
set_option autoImplicit false
set_option maxHeartbeats 4000000
set_option exponentiation.threshold 100
set_option Elab.async false
set_option linter.all false
set_option maxRecDepth 100000
set_option autoImplicit false
set_option maxHeartbeats 4000000
set_option exponentiation.threshold 100
set_option Elab.async false
set_option linter.all false
set_option maxRecDepth 100000
set_option autoImplicit false
set_option maxHeartbeats 4000000
set_option exponentiation.threshold 100
set_option Elab.async false
set_option linter.all false
set_option maxRecDepth 100000
set_option autoImplicit false
set_option maxHeartbeats 4000000
set_option exponentiation.threshold 100
namespace Mn
open PySem PySem.Spec L2 WK Lin
abbrev kI (u : Nat) : Key := .inl ((u : Nat) : Int)
theorem kI_inj {u v : Nat} (h : kI u = kI v) : u = v := by
  have := Sum.inl.inj h
  omega
section
variable {ρ : SE} {m : MM} {n u : Nat} {kvs : List (Key × SV)}
theorem putS_len {κ : Type} [DecidableEq κ] {kvs : List (κ × SV)} {k : κ} {y : SV} : (putS kvs k y).length ≤ kvs.length + 1 := by
  unfold putS
  split
  · rw [List.length_map]
    omega
  · rw [List.length_append]
    exact Nat.le_refl _
end
section
variable {g : Gr} {T : List (List Rat)} {b : List Rat} {D L : Nat} {m : MM}
theorem mul_xf (h : AngT g T D) (k : g.Net) (sm : g.Sml L) (hb : Inj g b) {l : Ln} (hl : l ∈ g.lines) : (l.x : Rat) * flE g T b l = thL g T b l.a - thL g T b l.b := by
  have hx := k.x l hl
  unfold flE
  have : (l.x : Rat) ≠ 0 := by
    intro z
    have : l.x = 0 := by exact_mod_cast z
    omega
  grind
theorem drop_ok (h : AngT g T D) (k : g.Net) (sm : g.Sml L) (hb : Inj g b) {l : Ln} (hl : l ∈ g.lines) : m__law_mul [.d (.tuple [iN l.x, .int 1]), .d (eQ (flE g T b l))] m = .ok (.d (eQ (thL g T b l.a - thL g T b l.b))) m := by
  rw [← eQ_x, lmul_ok (x_fit sm k hl) (fl_fit h k sm hb hl), mul_xf h k sm hb hl]
structure KnP (g : Gr) (θ : Nat → Rat) (c : Nat) (kvs : List (Key × SV)) : Prop where
  len : kvs.length ≤ c
  val : ∀ u, u < g.nodes.length → ∀ v, valS kvs (kI u) = some v → v = .d (eQ (θ u))
theorem KnP.put {θ : Nat → Rat} {c : Nat} {kvs : List (Key × SV)} (h : KnP g θ c kvs) {u : Nat} (hu : u < g.nodes.length) : KnP g θ (c + 1) (putS kvs (kI u) (.d (eQ (θ u)))) := by
  refine ⟨Nat.le_trans putS_len (Nat.succ_le_succ h.len), fun w hw v e => ?_⟩
  rw [valS_put] at e
  by_cases q : kI w = kI u
  · rw [if_pos q] at e
    rw [kI_inj q]
    exact (Option.some.inj e).symm
  · rw [if_neg q] at e
    exact h.val w hw v e
theorem KnP.up {θ : Nat → Rat} {c c' : Nat} {kvs : List (Key × SV)} (h : KnP g θ c kvs) (hc : c ≤ c') : KnP g θ c' kvs := ⟨Nat.le_trans h.len hc, h.val⟩
end
end Mn

set_option Elab.async false
set_option linter.all false
set_option maxRecDepth 100000
set_option autoImplicit false
set_option maxHeartbeats 4000000
set_option exponentiation.threshold 100
set_option Elab.async false
set_option linter.all false
set_option maxRecDepth 100000
set_option autoImplicit false
set_option maxHeartbeats 4000000
set_option exponentiation.threshold 100
set_option Elab.async false
set_option linter.all false
set_option maxRecDepth 100000
set_option autoImplicit false
set_option maxHeartbeats 4000000
set_option exponentiation.threshold 100
set_option Elab.async false
set_option linter.all false
set_option maxRecDepth 100000
set_option autoImplicit false
set_option maxHeartbeats 8000000
set_option exponentiation.threshold 100
namespace Mn
open PySem PySem.Spec L2 WK Lin
theorem call_err {n : Nat} {g : DF} {fa : AF} {ρ : SE} {m m1 m2 : MM} {xs : List SV} {c : Str} (h : fa ρ m = .ok xs m1) (hl : xs.length = n) (k : g xs m1 = .err c m2) : fCallD n g fa ρ m = .err c m2 := by
  unfold fCallD
  rw [h, bind_ok, if_pos hl, k]
theorem expr_err {f : EF} {ρ : SE} {m m1 : MM} {c : Str} (h : f ρ m = .err c m1) : sExpr f ρ m = .err c ρ m1 := by
  unfold sExpr
  rw [h, then_err]
abbrev sl (ns : List Int) (g : Gr) (b : List Rat) (T : List (List Rat)) (zs : List (Option SV)) : SE :=
  some (.k (ns.map .int)) :: some (.o 0) :: some (.d (eGr g)) :: some (.d (eT b)) :: some (.d (eNat (firstsL g.nodes.length g.lines))) :: some (.d (eT (floL g T b))) :: some (.d (eT (angL g T b))) :: zs
end Mn

set_option Elab.async false
set_option linter.all false
set_option maxRecDepth 100000
set_option autoImplicit false
set_option maxHeartbeats 8000000
set_option exponentiation.threshold 100
namespace Mn
open PySem PySem.Spec L2 WK Lin
theorem try_rt {i : Nat} {c : Str} {body suite : SF} {ρ ρ1 : SE} {m m1 m2 : MM} {x : SV} (h : body ρ m = .err c ρ1 m1) (k : suite (ρ1.set i none) m1 = .rt x m2) : sTry i c body suite ρ m = .rt x m2 := by
  unfold sTry
  rw [h]
  dsimp only
  rw [if_pos rfl, k]
end Mn

set_option Elab.async false
set_option linter.all false
set_option maxRecDepth 100000
set_option autoImplicit false
set_option maxHeartbeats 4000000
set_option exponentiation.threshold 100
namespace Mn.N1
open PySem WK Lin
theorem is_table_ok {rows : List (List Rat)} {k n : Nat} {m : MM} (hm : okM m) (h : Tab rows k n) : m_is_table [.d (eTT rows)] m = .ok (.d (.bool true)) m := by
  obtain ⟨r0, h0, hl0⟩ := tab_first h
  have i0 : ∀ m : MM, oIx (.d (eTT rows)) (.d (.int 0)) m = .ok (.d (eT r0)) m := fun m => ix_eTT (j := 0) h0
  have a1 : (1 : Int) ≤ (rows.length : Nat) := by
    have := h.k1
    have := h.cnt
    omega
  have a2 : ((rows.length : Nat) : Int) ≤ 40 := by
    have := h.k2
    have := h.cnt
    omega
  have b1 : (1 : Int) ≤ (r0.length : Nat) := by
    have := h.n1
    omega
  have b2 : ((r0.length : Nat) : Int) ≤ 40 := by
    have := h.n2
    omega
  have e : s_is_table [some (.d (eTT rows)), none] m = .rt (.d (.bool true)) m := by
    have t1 : fOr (fNot (fTru (fIsi "tuple" (fVar 0)))) (fNot (fTest (fChain oLe oLe (fC (.int 1)) (fCall oLen (aCons (fVar 0) aNil)) (fC (.int 40))))) [some (.d (eTT rows)), none] m = .ok false m := by
      rw [or_no (m1 := m)]
      · rw [not_ok (b := true) (m1 := m)]
        · rfl
        · refine test_ok ?_
          simp only [defS, sSeq, sSet, sUnp, gT, gsCons, gsNil, gN, sPar2, sPar3, sAug, sExpr, sRet, sRetN, sPass, sBrk, sCnt, sIf, sRaise, fVar, fC, fBin, fUn, fTest, fTru, fNot, fAnd, fOr, fAndV, fOrV, fChain, fIf, fCall, fCallL, fCallD, fIsi, isT, tyN, aNil, aCons, bind_ok, bind_err, bind_bad, then_ok, then_err, then_bad, sbind_nx, sbind_rt, sbind_bk, sbind_ct, sbind_err, sbind_bad, List.map_cons, List.map_nil, List.length_cons, List.length_nil, List.cons_append, List.nil_append, List.replicate_succ, List.replicate_zero, List.getElem?_cons_zero, List.getElem?_cons_succ, List.set_cons_zero, List.set_cons_succ, Nat.reduceSub, Nat.reduceAdd, if_pos, if_true, if_false, Bool.false_eq_true, ite_true, ite_false, reduceIte, Option.some.injEq, oGcd_ii, oMax_ii, oMin_ii, oInt_i, oLt_ii, oLe_ii, oGt_ii, oGe_ii, oAddU_ii, oSub_ii, oNeg_i, asB_b, tru_b, oNotV_b, oIx_t0, oIx_t1, oIx_t2, oIx_l0, datas_nil, datas_cons, oLen_l, oLen_t, oTuple_l, wipeS, tidy_same, cut_same, cut_app, oEq_ii, oNe_ii, len_eTT]
          rw [decide_eq_true a1, decide_eq_true a2]
      · rw [not_ok (b := true)]
        · rfl
        · exact tru_ok (isi_ok (x := eTT rows) rfl (by rfl))
    have t2 : fOr (fNot (fTru (fIsi "tuple" (fBin oIx (fVar 0) (fC (.int 0)))))) (fNot (fTest (fChain oLe oLe (fC (.int 1)) (fCall oLen (aCons (fBin oIx (fVar 0) (fC (.int 0))) aNil)) (fC (.int 40))))) [some (.d (eTT rows)), none] m = .ok false m := by
      rw [or_no (m1 := m)]
      · rw [not_ok (b := true) (m1 := m)]
        · rfl
        · refine test_ok ?_
          simp only [defS, sSeq, sSet, sUnp, gT, gsCons, gsNil, gN, sPar2, sPar3, sAug, sExpr, sRet, sRetN, sPass, sBrk, sCnt, sIf, sRaise, fVar, fC, fBin, fUn, fTest, fTru, fNot, fAnd, fOr, fAndV, fOrV, fChain, fIf, fCall, fCallL, fCallD, fIsi, isT, tyN, aNil, aCons, bind_ok, bind_err, bind_bad, then_ok, then_err, then_bad, sbind_nx, sbind_rt, sbind_bk, sbind_ct, sbind_err, sbind_bad, List.map_cons, List.map_nil, List.length_cons, List.length_nil, List.cons_append, List.nil_append, List.replicate_succ, List.replicate_zero, List.getElem?_cons_zero, List.getElem?_cons_succ, List.set_cons_zero, List.set_cons_succ, Nat.reduceSub, Nat.reduceAdd, if_pos, if_true, if_false, Bool.false_eq_true, ite_true, ite_false, reduceIte, Option.some.injEq, oGcd_ii, oMax_ii, oMin_ii, oInt_i, oLt_ii, oLe_ii, oGt_ii, oGe_ii, oAddU_ii, oSub_ii, oNeg_i, asB_b, tru_b, oNotV_b, oIx_t0, oIx_t1, oIx_t2, oIx_l0, datas_nil, datas_cons, oLen_l, oLen_t, oTuple_l, wipeS, tidy_same, cut_same, cut_app, oEq_ii, oNe_ii, len_eT, i0]
          rw [decide_eq_true b1, decide_eq_true b2]
      · rw [not_ok (b := true)]
        · rfl
        · exact tru_ok (isi_ok (x := eT r0) ((bin_ok rfl rfl).trans (i0 m)) (by rfl))
    unfold s_is_table
    refine step_nx ((if_no t1).trans rfl) (step_nx ((if_no t2).trans rfl) (ret_ok ?_))
    have e2 : fFz (fComp (iSeq (fVar 0)) (gN 1) [1] tYesF (fCallD 2 m_are_ratios (aCons (fVar 1) (aCons (fCall oLen (aCons (fBin oIx (fVar 0) (fC (.int 0))) aNil)) aNil)))) [some (.d (eTT rows)), none] m = .ok (.d (.list (rows.map fun _ => PyData.bool true))) m := by
      refine fz_compN (enc := eT) (g := fun _ => PyData.bool true) (iSeq_ok (x := eTT rows) rfl rfl) ?_ fun r hr => ?_
      · have := h.cnt
        have := h.k2
        have : cap = 10000 := rfl
        omega
      · refine call_ok (m1 := m) (xs := [.d (eT r), .d (.int (n : Nat))]) ?_ rfl (are_ok hm (h.len r hr) (by
          have := h.n2
          have : cap = 10000 := rfl
          omega))
        simp only [defS, sSeq, sSet, sUnp, gT, gsCons, gsNil, gN, sPar2, sPar3, sAug, sExpr, sRet, sRetN, sPass, sBrk, sCnt, sIf, sRaise, fVar, fC, fBin, fUn, fTest, fTru, fNot, fAnd, fOr, fAndV, fOrV, fChain, fIf, fCall, fCallL, fCallD, fIsi, isT, tyN, aNil, aCons, bind_ok, bind_err, bind_bad, then_ok, then_err, then_bad, sbind_nx, sbind_rt, sbind_bk, sbind_ct, sbind_err, sbind_bad, List.map_cons, List.map_nil, List.length_cons, List.length_nil, List.cons_append, List.nil_append, List.replicate_succ, List.replicate_zero, List.getElem?_cons_zero, List.getElem?_cons_succ, List.set_cons_zero, List.set_cons_succ, Nat.reduceSub, Nat.reduceAdd, if_pos, if_true, if_false, Bool.false_eq_true, ite_true, ite_false, reduceIte, Option.some.injEq, oGcd_ii, oMax_ii, oMin_ii, oInt_i, oLt_ii, oLe_ii, oGt_ii, oGe_ii, oAddU_ii, oSub_ii, oNeg_i, asB_b, tru_b, oNotV_b, oIx_t0, oIx_t1, oIx_t2, oIx_l0, datas_nil, datas_cons, oLen_l, oLen_t, oTuple_l, wipeS, tidy_same, cut_same, cut_app, oEq_ii, oNe_ii, len_eT, i0]
        rw [hl0]
    rw [ctl_ok (acons_ok e2 rfl)]
    exact oAll_true
  unfold m_is_table
  rw [def_rt (s := s_is_table) (ρ := [some (.d (eTT rows)), none]) rfl e]
  exact trim_d hm
theorem check_ok {rows : List (List Rat)} {k n : Nat} {m : MM} (hm : okM m) (h : Tab rows k n) : m_check_table [.d (eTT rows)] m = .ok (.d .none) m := by
  have e : s_check_table [some (.d (eTT rows))] m = .nx [some (.d (eTT rows))] m := by
    unfold s_check_table
    rw [if_no (m1 := m)]
    · rfl
    · rw [not_ok (b := true) (m1 := m)]
      · rfl
      · exact tru_ok (call_ok (m1 := m) (xs := [.d (eTT rows)]) rfl rfl (is_table_ok hm h))
  unfold m_check_table
  rw [def_nx (s := s_check_table) (ρ := [some (.d (eTT rows))]) rfl e]
  exact trim_d hm
theorem rank_ok {rows : List (List Rat)} {k n B L : Nat} {m : MM} (hm : okM m) (h : Tab rows k n) (f : Fine rows B L) (hB : bnd (B + 1 + 64) n < 8999) (hB2 : B + 1 < 8000) :
    m_rank [.d (eTT rows)] m = .ok (.d (.int ((elim (rows.map wholeL) n).dc.length : Nat))) m := by
  have hcap : cap = 10000 := rfl
  have := h.k2
  have := h.n2
  have hc := h.cnt
  obtain ⟨r0, h0, hl0⟩ := tab_first h
  have e1 : fFz (fComp (iSeq (fVar 0)) (gN 2) [2] tYesF (fBin oIx (fCallD 1 m_whole (aCons (fVar 2) aNil)) (fC (.int 1)))) [some (.d (eTT rows)), none, none] m = .ok (.d (eM (rows.map wholeL))) m := by
    have := fz_compN (ρ := [some (.d (eTT rows)), none, none]) (m := m) (fi := iSeq (fVar 0)) (i := 2) (own := [2]) (fe := fBin oIx (fCallD 1 m_whole (aCons (fVar 2) aNil)) (fC (.int 1))) (xs := rows) (enc := eT) (g := fun r => eR (wholeL r)) (iSeq_ok (x := eTT rows) rfl rfl) (by omega) fun r hr => by
      have f4 := call_ok (n := 1) (g := m_whole) (fa := aCons (fVar 2) aNil) (ρ := [some (.d (eTT rows)), none, some (.d (eT r))]) (m := m) (m1 := m) (xs := [.d (eT r)]) rfl rfl (whole_ok (r := r) (B := B + 1) (L := L) hm rfl (by rw [h.len r hr]; omega) f.L0 f.L1 (f.den r hr) (f.sz r hr) hB2)
      exact (bin_ok f4 rfl).trans oIx_t1
    rw [this]
    unfold eM
    rw [List.map_map]
    rfl
  have hl : ∀ r ∈ rows.map wholeL, r.length = n := fun r hr => by
    obtain ⟨t, ht, rfl⟩ := List.mem_map.mp hr
    rw [whole_len, h.len t ht]
  have hb : ∀ r ∈ rows.map wholeL, Bd (B + 1 + 64) r := fun r hr => by
    obtain ⟨t, ht, rfl⟩ := List.mem_map.mp hr
    exact whole_bd f.L0 f.L1 (f.den t ht) (f.sz t ht)
  have e2 : fCall oLen (aCons (fBin oIx (fVar 0) (fC (.int 0))) aNil) [some (.d (eTT rows)), none, none] m = .ok (.d (.int (n : Nat))) m := by
    rw [ctl_ok (acons_ok ((bin_ok rfl rfl).trans (ix_eTT (j := 0) h0)) rfl), len_eT, hl0]
  have e3 := call_ok (n := 2) (acons_ok e1 (acons_ok e2 (rfl : aNil [some (.d (eTT rows)), none, none] m = .ok [] m))) rfl (eliminated_ok (m := m) hm hl (Nat.le_refl n) (by omega) (by rw [List.length_map]; omega) hb hB)
  have e : s_rank [some (.d (eTT rows)), none, none] m = .rt (.d (.int ((elim (rows.map wholeL) n).dc.length : Nat))) m := by
    unfold s_rank
    refine step_nx (expr_ok (call_ok (m1 := m) (xs := [.d (eTT rows)]) rfl rfl (check_ok hm h))) (step_set ((bin_ok e3 rfl).trans oIx_t2) rfl (ret_ok ?_))
    refine (ctl_ok (acons_ok rfl rfl)).trans ?_
    rw [oLen_l, List.length_map]
  unfold m_rank
  rw [def_rt (s := s_rank) (ρ := [some (.d (eTT rows)), none, none]) rfl e]
  exact trim_d hm

def rowsB (rows : List (List Rat)) (rights : List Rat) : List (List Rat) := List.zipWith (fun r b => r ++ [b]) rows rights
def foundL (dc : List (Row × Nat)) (n : Nat) (F : List Rat) : List Rat := dc.foldl (fun F q => F.set q.2 (at_ q.1 n / at_ q.1 q.2)) F
theorem found_len {n : Nat} : ∀ (dc : List (Row × Nat)) (F : List Rat), (foundL dc n F).length = F.length
  | [], F => rfl
  | q :: r, F => by
    have := found_len (n := n) r (F.set q.2 (at_ q.1 n / at_ q.1 q.2))
    rw [List.length_set] at this
    exact this
theorem found_at {n : Nat} : ∀ (dc : List (Row × Nat)) (F : List Rat), (dc.map (·.2)).Pairwise (· < ·) → (∀ q ∈ dc, q.2 < F.length) →
    (∀ q ∈ dc, (foundL dc n F).getD q.2 0 = at_ q.1 n / at_ q.1 q.2) ∧ ∀ j, (∀ q ∈ dc, q.2 ≠ j) → (foundL dc n F).getD j 0 = F.getD j 0
  | [], F, _, _ => ⟨fun q h => (by cases h), fun j _ => rfl⟩
  | q :: r, F, hp, hl => by
    rw [List.map_cons, List.pairwise_cons] at hp
    obtain ⟨h1, h2⟩ := found_at (n := n) r (F.set q.2 (at_ q.1 n / at_ q.1 q.2)) hp.2 fun s hs => by
      rw [List.length_set]
      exact hl s (List.mem_cons_of_mem _ hs)
    have hq := hl q (List.mem_cons_self ..)
    refine ⟨fun s hs => ?_, fun j hj => ?_⟩
    · rcases List.mem_cons.mp hs with rfl | hs
      · have := h2 s.2 fun t ht e => by
          have := hp.1 t.2 (List.mem_map.mpr ⟨t, ht, rfl⟩)
          omega
        refine this.trans ?_
        rw [List.getD_eq_getElem?_getD, List.getElem?_set_self hq]
        rfl
      · exact h1 s hs
    · refine (h2 j fun t ht => hj t (List.mem_cons_of_mem _ ht)).trans ?_
      have := hj q (List.mem_cons_self ..)
      rw [List.getD_eq_getElem?_getD, List.getElem?_set_ne this, ← List.getD_eq_getElem?_getD]
def noneOf (n : Nat) (left : List Row) : Option Row := left.find? fun r => decide (r.getD n 0 ≠ 0)
def solvedE (e : El) (n : Nat) : PyData := match noneOf n e.left with
  | some r => .tuple [.str "none", eT ((r.drop (n + 1)).map fun (z : Int) => (z : Rat))]
  | none => .tuple [.str (if e.dc.length = n then "one" else "many"), eT (foundL e.dc n (List.replicate n 0))]
theorem solvedE_none {e : El} {n : Nat} {r : Row} (h : noneOf n e.left = some r) : solvedE e n = .tuple [.str "none", eT ((r.drop (n + 1)).map fun (z : Int) => (z : Rat))] := by
  unfold solvedE
  rw [h]
theorem solvedE_some {e : El} {n : Nat} (h : noneOf n e.left = none) : solvedE e n = .tuple [.str (if e.dc.length = n then "one" else "many"), eT (foundL e.dc n (List.replicate n 0))] := by
  unfold solvedE
  rw [h]
def solvedD (rows : List (List Rat)) (rights : List Rat) (n : Nat) : PyData := solvedE (elim (augL (rowsB rows rights) rows.length) n) n
theorem rowsB_len {rows : List (List Rat)} {rights : List Rat} {k n : Nat} (h : Tab rows k n) (hr : rights.length = k) : (rowsB rows rights).length = k ∧ ∀ r ∈ rowsB rows rights, r.length = n + 1 := by
  unfold rowsB
  refine ⟨by rw [List.length_zipWith, h.cnt, hr, Nat.min_self], fun r hm => ?_⟩
  obtain ⟨i, hi, rfl⟩ := List.mem_iff_getElem.mp hm
  rw [List.getElem_zipWith, List.length_append, h.len _ (List.getElem_mem _)]
  rfl
theorem rowsB_mem {rows : List (List Rat)} {rights : List Rat} {r : List Rat} (h : r ∈ rowsB rows rights) {q : Rat} (hq : q ∈ r) : (∃ t ∈ rows, q ∈ t) ∨ q ∈ rights := by
  unfold rowsB at h
  obtain ⟨i, hi, rfl⟩ := List.mem_iff_getElem.mp h
  rw [List.getElem_zipWith] at hq
  rcases List.mem_append.mp hq with hq | hq
  · exact .inl ⟨_, List.getElem_mem _, hq⟩
  · rw [List.mem_singleton.mp hq]
    exact .inr (List.getElem_mem _)
theorem inverse_ok {rows : List (List Rat)} {n B L : Nat} {m : MM} (hm : okM m) (h : Tab rows n n) (f : Fine rows B L) (hB : bnd (B + 1 + 64) n < 8999) (hB2 : B + 1 < 8000) :
    m_inverse [.d (eTT rows)] m = .ok (.d (invD (elim (augL rows n) n) n)) m := by
  obtain ⟨r0, h0, hl0⟩ := tab_first h
  have t1 : fTest (fBin oNe (fCall oLen (aCons (fVar 0) aNil)) (fCall oLen (aCons (fBin oIx (fVar 0) (fC (.int 0))) aNil))) [some (.d (eTT rows))] m = .ok false m := by
    refine test_ok ?_
    rw [bin_ok ((ctl_ok (acons_ok rfl rfl)).trans len_eTT) ((ctl_ok (acons_ok ((bin_ok rfl rfl).trans (ix_eTT (j := 0) h0)) rfl)).trans len_eT), oNe_ii, h.cnt, hl0]
    simp
  have e5 : s_inverse [some (.d (eTT rows))] m = .rt (.d (invD (elim (augL rows n) n) n)) m := by
    unfold s_inverse
    exact step_nx (expr_ok (call_ok (m1 := m) (xs := [.d (eTT rows)]) rfl rfl (check_ok hm h))) (step_nx ((if_no t1).trans rfl) (ret_ok (call_ok (m1 := m) (xs := [.d (eTT rows)]) rfl rfl (inverted_ok hm h f hB hB2))))
  unfold m_inverse
  rw [def_rt (s := s_inverse) (ρ := [some (.d (eTT rows))]) rfl e5]
  exact trim_d hm
end Mn.N1

set_option Elab.async false
set_option linter.all false
set_option maxRecDepth 100000
set_option autoImplicit false
set_option maxHeartbeats 4000000
set_option exponentiation.threshold 100
namespace Mn.N1
open PySem WK Lin
theorem none_loop {n N : Nat} {x0 : Option SV} {m : MM} (hN : n < N) (hc : N ≤ cap) : ∀ (l : List Row) (z : Option SV), (∀ r ∈ l, r.length = N) →
    (∃ r, noneOf n l = some r ∧ forS [2] (gN 2) (sIf (fTest (fBin oNe (fBin oIx (fVar 2) (fVar 1)) (fC (.int 0))))
  (sRet (fCall oTuple (aCons (fFz (fComp (iSeq (fSl (fVar 2) (pSome (fBin oAddU (fVar 1) (fC (.int 1)))) pNone)) (gN 3) [3] tYesF (fTup (aCons (fVar 3) (aCons (fC (.int 1)) aNil))))) aNil)))
  sPass) (l.map eR) [x0, some (.d (.int (n : Nat))), z, none] m = .rt (.d (eT ((r.drop (n + 1)).map fun (z : Int) => (z : Rat)))) m) ∨
    (noneOf n l = none ∧ ∃ z', forS [2] (gN 2) (sIf (fTest (fBin oNe (fBin oIx (fVar 2) (fVar 1)) (fC (.int 0))))
  (sRet (fCall oTuple (aCons (fFz (fComp (iSeq (fSl (fVar 2) (pSome (fBin oAddU (fVar 1) (fC (.int 1)))) pNone)) (gN 3) [3] tYesF (fTup (aCons (fVar 3) (aCons (fC (.int 1)) aNil))))) aNil)))
  sPass) (l.map eR) [x0, some (.d (.int (n : Nat))), z, none] m = .nx [x0, some (.d (.int (n : Nat))), z', none] m)
  | [], z, _ => .inr ⟨rfl, z, rfl⟩
  | r :: l, z, hl => by
    have hr := hl r (List.mem_cons_self ..)
    have t : fTest (fBin oNe (fBin oIx (fVar 2) (fVar 1)) (fC (.int 0))) [x0, some (.d (.int (n : Nat))), some (.d (eR r)), none] m = .ok (!decide (r.getD n 0 = 0)) m := by
      refine test_ok ?_
      exact (bin_ok ((bin_ok rfl rfl).trans (ix_row (by omega))) rfl).trans oNe_ii
    rw [List.map_cons]
    unfold forS
    have tg : gN 2 (eR r) [x0, some (.d (.int (n : Nat))), z, none] = some [x0, some (.d (.int (n : Nat))), some (.d (eR r)), none] := rfl
    rw [tg]
    dsimp only
    by_cases h0 : r.getD n 0 = 0
    · rw [decide_eq_true h0] at t
      rw [if_no t]
      have nn : noneOf n (r :: l) = noneOf n l := by
        unfold noneOf
        rw [List.find?_cons_of_neg (by simpa using h0)]
      rw [nn]
      show _ ∨ (_ ∧ ∃ z', forS [2] _ _ _ (wipeS [x0, some (.d (.int (n : Nat))), some (.d (eR r)), none] [2]) (tidy m (wipeS [x0, some (.d (.int (n : Nat))), some (.d (eR r)), none] [2]) m) = _)
      have ih := none_loop (x0 := x0) (m := m) hN hc l none fun t ht => hl t (List.mem_cons_of_mem _ ht)
      rcases ih with ⟨r', e1, e2⟩ | ⟨e1, z', e2⟩
      · refine .inl ⟨r', e1, ?_⟩
        show forS [2] _ _ _ (wipeS [x0, some (.d (.int (n : Nat))), some (.d (eR r)), none] [2]) (tidy m (wipeS [x0, some (.d (.int (n : Nat))), some (.d (eR r)), none] [2]) m) = _
        rw [tidy_same]
        exact e2
      · refine .inr ⟨e1, z', ?_⟩
        rw [tidy_same]
        exact e2
    · rw [decide_eq_false h0] at t
      rw [if_yes t]
      have nn : noneOf n (r :: l) = some r := by
        unfold noneOf
        rw [List.find?_cons_of_pos (by simpa using h0)]
      refine .inl ⟨r, nn, ?_⟩
      have e1 := WK.drop_ok (f := fVar 2) (g := fBin oAddU (fVar 1) (fC (.int 1))) (ρ := [x0, some (.d (.int (n : Nat))), some (.d (eR r)), none]) (m := m) (ds := r.map .int) (k := n + 1) rfl rfl
      have e2 := fz_compN (i := 3) (own := [3]) (fe := fTup (aCons (fVar 3) (aCons (fC (.int 1)) aNil))) (xs := r.drop (n + 1)) (enc := PyData.int) (g := fun z => eQ (z : Rat)) (iSeq_ok (ds := (r.drop (n + 1)).map .int) e1 (by rw [List.map_drop]; rfl)) (by rw [List.length_drop]; omega) (fun z hz => by
        rw [fTup_2 (m1 := m) (a := .int z) (b := .int 1) rfl, eQ_int])
      rw [ret_ok ((ctl_ok (acons_ok e2 rfl)).trans oTuple_l)]
      dsimp only
      unfold eT
      rw [List.map_map]
      rfl
theorem refuted_ok {n N : Nat} {l : List Row} {m : MM} (hN : n < N) (hc : N ≤ cap) (hl : ∀ r ∈ l, r.length = N) :
    m_refuted [.d (eM l), .d (.int (n : Nat))] m = .ok (.d (match noneOf n l with | some r => eT ((r.drop (n + 1)).map fun (z : Int) => (z : Rat)) | none => .none)) m := by
  unfold m_refuted
  refine def_ret (ρ := [some (.d (eM l)), some (.d (.int (n : Nat))), none, none]) rfl ?_
  unfold s_refuted
  rcases none_loop (x0 := some (.d (eM l))) (m := m) hN hc l none hl with ⟨r, e1, e2⟩ | ⟨e1, z', e2⟩
  · rw [e1]
    refine seq_rt ?_
    unfold sFor
    rw [iSeq_ok (x := eM l) rfl rfl, then_ok]
    exact e2
  · rw [e1]
    exact step_nx (for_ok (iSeq_ok (x := eM l) rfl rfl) e2) rfl
def wkE (rows : List (List Rat)) (rights : List Rat) (n : Nat) : El := elim (augL (rowsB rows rights) rows.length) n
structure Wk (rows : List (List Rat)) (rights : List Rat) (k n B L : Nat) : Prop where
  cnt : rows.length = k
  len : ∀ r ∈ rows, r.length = n
  rl : rights.length = k
  L0 : 0 < L
  L1 : L < 2 ^ 64
  den : ∀ r ∈ rows, ∀ q ∈ r, q.den ∣ L
  rden : ∀ q ∈ rights, q.den ∣ L
  sz : ∀ r ∈ rows, ∀ q ∈ r, Sz (B + 1) q
  rsz : ∀ q ∈ rights, Sz (B + 1) q
theorem Wk.b {rows : List (List Rat)} {rights : List Rat} {k n B L : Nat} (h : Wk rows rights k n B L) : (rowsB rows rights).length = k ∧ (∀ r ∈ rowsB rows rights, r.length = n + 1) ∧ Fine (rowsB rows rights) B L := by
  refine ⟨?_, fun r hm => ?_, h.L0, h.L1, fun r hr q hq => ?_, fun r hr q hq => ?_⟩
  · unfold rowsB
    rw [List.length_zipWith, h.cnt, h.rl, Nat.min_self]
  · unfold rowsB at hm
    obtain ⟨i, hi, rfl⟩ := List.mem_iff_getElem.mp hm
    rw [List.getElem_zipWith, List.length_append, h.len _ (List.getElem_mem _)]
    rfl
  · rcases rowsB_mem hr hq with ⟨t, ht, hq⟩ | hq
    · exact h.den t ht q hq
    · exact h.rden q hq
  · rcases rowsB_mem hr hq with ⟨t, ht, hq⟩ | hq
    · exact h.sz t ht q hq
    · exact h.rsz q hq
theorem worked_ok {rows : List (List Rat)} {rights : List Rat} {k n B L : Nat} {m : MM} {x y : PyData} {enc : List Rat → PyData} (h : Wk rows rights k n B L) (hx : seqD (.d x) = some (rows.map enc)) (he : ∀ r m, itemsOf (.d (enc r)) m = .ok ((r.map eQ).map .d) m) (hy : seqD (.d y) = some (rights.map eQ)) (hkn : n + 1 + k ≤ cap) (hB : bnd (B + 1 + 64) n < 8999) (hB2 : B + 1 < 8000) :
    m_worked [.d x, .d y, .d (.int (n : Nat))] m = .ok (.d (.tuple [eM ((wkE rows rights n).dc.map (·.1)), eM (wkE rows rights n).left, .list ((wkE rows rights n).dc.map fun q => .int (q.2 : Nat))])) m := by
  obtain ⟨bl, bw, fb⟩ := h.b
  have hc := h.cnt
  have rl := h.rl
  unfold m_worked
  refine def_ret (ρ := [some (.d x), some (.d y), some (.d (.int (n : Nat))), none, none]) rfl ?_
  unfold s_worked
  have f1 : fFz (fComp (iZip (aCons (fVar 0) (aCons (fVar 1) aNil))) (gT 2 (gsCons (gN 3) (gsCons (gN 4) gsNil))) [3, 4] tYesF (fFz (fLst (aStar (fVar 3) (aCons (fVar 4) aNil))))) [some (.d x), some (.d y), some (.d (.int (n : Nat))), none, none] m =
      .ok (.d (.list ((rowsB rows rights).map fun r => PyData.list (r.map eQ)))) m := by
    have := fz_comp (ρ := [some (.d x), some (.d y), some (.d (.int (n : Nat))), none, none]) (m := m) (fi := iZip (aCons (fVar 0) (aCons (fVar 1) aNil))) (tg := gT 2 (gsCons (gN 3) (gsCons (gN 4) gsNil))) (own := [3, 4]) (ft := tYesF) (fe := fFz (fLst (aStar (fVar 3) (aCons (fVar 4) aNil))))
      (xs := List.zip rows rights) (enc := fun p => PyData.tuple [enc p.1, eQ p.2]) (g := fun p => PyData.list ((p.1 ++ [p.2]).map eQ)) ?_ ?_ ?_
    · rw [this]
      unfold rowsB
      congr 3
      simp [List.zip, List.map_zipWith]
    · rw [iZip_ok rfl hx hy, zipD_map]
    · rw [List.length_zip]
      omega
    · intro p hp
      refine ⟨_, rfl, rfl, ?_⟩
      have hp1 := h.len _ (List.of_mem_zip (a := p.1) (b := p.2) hp).1
      refine fz_ok (lst_ok (xs := ((p.1 ++ [p.2]).map eQ).map .d) ?_ ?_)
      · unfold aStar
        show ((WK.R.ok (SV.d (enc p.1)) m).bind _) = _
        rw [bind_ok, he p.1 m, bind_ok, acons_ok (x := .d (eQ p.2)) (m1 := m) (xs := []) (m2 := m) rfl rfl, bind_ok, List.map_append, List.map_append]
        rfl
      · rw [List.length_map, List.length_map, List.length_append, hp1, List.length_singleton]
        omega
  have f2 := call_ok (n := 1) (g := m_beside_units) (acons_ok f1 (rfl : aNil [some (.d x), some (.d y), some (.d (.int (n : Nat))), none, none] m = .ok [] m)) rfl
    (beside_ok (rows := rowsB rows rights) (enc := fun r => PyData.list (r.map eQ)) (k := k) (n := n + 1) (B := B) (L := L) trivial rfl (fun m => by rw [oLen_l, List.length_map, bl]) (fun r m => rfl) bl bw (by omega) fb.L0 fb.L1 fb.den fb.sz hB2)
  have A := aug_ok bl bw fb.L0 fb.den
  have bd := aug_bd (k := k) fb.L0 fb.L1 fb.den fb.sz
  have f3 := eliminated_ok (m := m) (rows := augL (rowsB rows rights) k) (n := n + 1 + k) (width := n) trivial A.len (by omega) (by omega) (by rw [A.cnt]; omega) bd hB
  unfold wkE
  rw [hc]
  exact ret_ok (call_ok (acons_ok f2 (acons_ok rfl rfl)) rfl f3)
end Mn.N1

set_option Elab.async false
set_option linter.all false
set_option maxRecDepth 100000
set_option autoImplicit false
set_option maxHeartbeats 4000000
set_option exponentiation.threshold 100
namespace Mn.N1
open PySem WK Lin
theorem solved_ok {rows : List (List Rat)} {rights : List Rat} {k n B L : Nat} {m : MM} (hm : okM m) (h : Tab rows k n) (hr : rights.length = k) (f : Fine rows B L) (fr : Fine [rights] B L) (hB : bnd (B + 1 + 64) n < 8999) (hB2 : B + 1 < 8000) :
    m_solved [.d (eTT rows), .d (eT rights)] m = .ok (.d (solvedD rows rights n)) m := by
  have hcap : cap = 10000 := rfl
  have hk2 := h.k2
  have hn2 := h.n2
  have hc := h.cnt
  obtain ⟨r0, h0, hl0⟩ := tab_first h
  have wk : Wk rows rights k n B L := ⟨hc, h.len, hr, f.L0, f.L1, f.den, fr.den rights (List.mem_singleton.mpr rfl), f.sz, fr.sz rights (List.mem_singleton.mpr rfl)⟩
  obtain ⟨bl, bw, fb⟩ := wk.b
  have A := aug_ok bl bw fb.L0 fb.den
  have I := elim_inv A.len n
  have bd := aug_bd (k := k) fb.L0 fb.L1 fb.den fb.sz
  have ebd := elim_bd A.len bd n
  have cnt := I.cnt
  rw [A.cnt] at cnt
  have w1 := worked_ok (m := m) wk (x := eTT rows) (y := eT rights) (enc := eT) rfl (fun r m => rfl) rfl (by omega) hB hB2
  let R : Option SV → Option SV → Option SV → Option SV → Option SV → Option SV → Option SV → Option SV → SE := fun a b c d e f g i => [some (.d (eTT rows)), some (.d (eT rights)), a, b, c, d, e, f, g, i]
  -- the check of the right sides
  have t1 : fNot (fTru (fCallD 2 m_are_ratios (aCons (fVar 1) (aCons (fCall oLen (aCons (fVar 0) aNil)) aNil)))) (R none none none none none none none none) m = .ok false m := by
    rw [not_ok (b := true) (m1 := m)]
    · rfl
    · refine tru_ok (call_ok (m1 := m) (xs := [.d (eT rights), .d (.int (rows.length : Nat))]) (acons_ok rfl (acons_ok ((ctl_ok (acons_ok rfl rfl)).trans len_eTT) rfl)) rfl (are_ok hm (by omega) (by omega)))
  unfold solvedD
  unfold wkE at w1
  rw [hc] at w1 ⊢
  generalize elim (augL (rowsB rows rights) k) n = e at *
  let vn : Option SV := some (.d (.int (n : Nat)))
  let v3 : Option SV := some (.d (eM (e.dc.map (·.1))))
  let v4 : Option SV := some (.d (eM e.left))
  let v5 : Option SV := some (.d (.list (e.dc.map fun q => .int (q.2 : Nat))))
  have e0 : fCall oLen (aCons (fBin oIx (fVar 0) (fC (.int 0))) aNil) (R none none none none none none none none) m = .ok (.d (.int (n : Nat))) m := by
    rw [ctl_ok (acons_ok ((bin_ok rfl rfl).trans (ix_eTT (j := 0) h0)) rfl), len_eT, hl0]
  have rf := refuted_ok (m := m) (l := e.left) (n := n) (N := n + 1 + k) (by omega) (by omega) I.ll
  have head : ∀ {kk : SF} {r : RS}, kk (R vn v3 v4 v5 (some (.d (match noneOf n e.left with | some r => eT ((r.drop (n + 1)).map fun (z : Int) => (z : Rat)) | none => .none))) none none none) m = r →
      sSeq (sExpr (fCallD 1 m_check_table (aCons (fVar 0) aNil)))
      (sSeq (sIf (fNot (fTru (fCallD 2 m_are_ratios (aCons (fVar 1) (aCons (fCall oLen (aCons (fVar 0) aNil)) aNil))))) (sRaise "BadTable") sPass)
      (sSeq (sSet 2 (fCall oLen (aCons (fBin oIx (fVar 0) (fC (.int 0))) aNil)))
      (sSeq (sUnp (gT 3 (gsCons (gN 3) (gsCons (gN 4) (gsCons (gN 5) gsNil)))) (fCallD 3 m_worked (aCons (fVar 0) (aCons (fVar 1) (aCons (fVar 2) aNil)))))
      (sSeq (sSet 6 (fCallD 2 m_refuted (aCons (fVar 4) (aCons (fVar 2) aNil)))) kk)))) (R none none none none none none none none) m = r := fun {kk r} hk => by
    refine step_nx (expr_ok (call_ok (m1 := m) (xs := [.d (eTT rows)]) rfl rfl (check_ok hm h))) ?_
    refine step_nx ((if_no t1).trans rfl) ?_
    refine step_set (ρ1 := R vn none none none none none none none) e0 rfl ?_
    refine step_nx (ρ1 := R vn v3 v4 v5 none none none none) (m1 := m) (unp_ok (call_ok (m1 := m) (xs := [.d (eTT rows), .d (eT rights), .d (.int (n : Nat))]) rfl rfl w1) rfl) ?_
    exact step_set (ρ1 := R vn v3 v4 v5 (some (.d (match noneOf n e.left with | some r => eT ((r.drop (n + 1)).map fun (z : Int) => (z : Rat)) | none => .none))) none none none) (call_ok (m1 := m) (xs := [.d (eM e.left), .d (.int (n : Nat))]) rfl rfl rf) rfl hk
  unfold m_solved
  cases hn : noneOf n e.left with
  | some r =>
    rw [hn] at head
    rw [solvedE_none hn]
    refine def_ret (ρ := R none none none none none none none none) rfl ?_
    unfold s_solved
    refine head (seq_rt ((if_yes (m1 := m) rfl).trans (ret_ok (fTup_2 (acons_ok rfl (acons_ok rfl rfl))))))
  | none =>
    rw [hn] at head
    rw [solvedE_some hn]
    have g1 : fOwn (fRep (fLst (aCons (fC (.tuple [(.int 0), (.int 1)])) aNil)) (fVar 2)) (R vn v3 v4 v5 (some (.d .none)) none none none) m = .ok (.o m.length) (m ++ [eF (List.replicate n 0)]) := by
      refine (own_ok (m1 := m) (xs := List.replicate n (.d (eQ 0))) (rep_ok (m1 := m) (n := n) (a := eQ 0) (lst_ok rfl (by show 1 ≤ 10000; omega)) rfl (by omega))).trans ?_
      unfold eF
      rw [List.map_replicate]
    have loop : ∃ ρ' m', forS [8, 9] (gT 2 (gsCons (gN 8) (gsCons (gN 9) gsNil))) (sPut (fVar 7) (fVar 9) (fCallD 2 m_ratio (aCons (fBin oIx (fVar 8) (fVar 2)) (aCons (fBin oIx (fVar 8) (fVar 9)) aNil)))) (e.dc.map fun q => PyData.tuple [eR q.1, .int (q.2 : Nat)])
        (R vn v3 v4 v5 (some (.d .none)) (some (.o m.length)) none none) (m ++ [eF (List.replicate n 0)]) = .nx ρ' m' ∧ _ :=
      for_inv (enc := fun q : Row × Nat => PyData.tuple [eR q.1, .int (q.2 : Nat)]) (fun j ρ m' => m' = m ++ [eF (foundL (e.dc.take j) n (List.replicate n 0))] ∧ ρ = R vn v3 v4 v5 (some (.d .none)) (some (.o m.length)) none none) e.dc 0 _ _ ⟨rfl, rfl⟩
        fun i q ρ m' hq ⟨em, eρ⟩ => by
          subst em
          subst eρ
          rw [Nat.zero_add]
          have hqm := List.mem_of_getElem? hq
          have hl := I.ld q hqm
          have hlt := I.lt q hqm
          have ow := I.own q hqm
          refine ⟨_, rfl, R vn v3 v4 v5 (some (.d .none)) (some (.o m.length)) (some (.d (eR q.1))) (some (.d (.int (q.2 : Nat)))), (m ++ [eF (foundL (e.dc.take i) n (List.replicate n 0))]).set m.length (.lst (((foundL (e.dc.take i) n (List.replicate n 0)).map fun q => .d (eQ q)).set q.2 (.d (eQ (at_ q.1 n / at_ q.1 q.2))))), .inl (put_ok (y := .d (eQ (at_ q.1 n / at_ q.1 q.2))) (m1 := m ++ [eF (foundL (e.dc.take i) n (List.replicate n 0))]) (n := m.length) (k := q.2) (xs := (foundL (e.dc.take i) n (List.replicate n 0)).map fun q => .d (eQ q)) ?_ rfl rfl get_app ?_), ?_, rfl⟩
          · exact call_ok (acons_ok ((bin_ok rfl rfl).trans (ix_row (by omega : n < q.1.length))) (acons_ok ((bin_ok rfl rfl).trans (ix_row (by omega : q.2 < q.1.length))) rfl)) rfl (ratio_ok trivial ow (getD_lt (ebd.1 q hqm) q.2) hB)
          · rw [List.length_map, found_len, List.length_replicate]
            exact hlt
          · rw [tidy_len (by rw [List.length_set]), set_app]
            unfold eF
            have tk : e.dc.take (i + 1) = e.dc.take i ++ [q] := by rw [List.take_add_one, hq]; rfl
            rw [tk]
            unfold foundL
            rw [List.foldl_append]
            simp only [List.foldl_cons, List.foldl_nil, List.map_set]
    obtain ⟨ρ', m', el, em, eρ⟩ := loop
    rw [Nat.zero_add, List.take_length] at em
    subst em
    subst eρ
    refine def_ret2 (ρ := R none none none none none none none none) (l := [.gone]) rfl ?_
    unfold s_solved
    refine head ?_
    refine step_nx ((if_no (m1 := m) rfl).trans rfl) ?_
    refine step_set (ρ1 := R vn v3 v4 v5 (some (.d .none)) (some (.o m.length)) none none) g1 rfl ?_
    refine step_nx (ρ1 := R vn v3 v4 v5 (some (.d .none)) (some (.o m.length)) none none) (m1 := m ++ [eF (foundL e.dc n (List.replicate n 0))]) (for_ok' (iZip_ok (x := eM (e.dc.map (·.1))) (y := .list (e.dc.map fun q => .int (q.2 : Nat))) (ds := (e.dc.map (·.1)).map eR) (es := e.dc.map fun q => .int (q.2 : Nat)) rfl rfl rfl |>.trans (by
      unfold zipD
      rw [List.map_map, List.zipWith_map, List.zipWith_self]
      rfl)) el) ?_
    refine frz_ok (n := m.length) (ds := (foundL e.dc n (List.replicate n 0)).map eQ) rfl (get_app.trans (by unfold eF; rw [List.map_map]; rfl)) ?_
    rw [set_app]
    refine ret_ok (fTup_2 (acons_ok (m1 := m ++ [.gone]) (x := .d (.str (if e.dc.length = n then "one" else "many"))) ?_ (acons_ok ((ctl_ok (acons_ok rfl rfl)).trans oTuple_l) rfl)))
    have ll : ∀ mm : MM, oLen [.d (.list (e.dc.map fun q => .int (q.2 : Nat)))] mm = .ok (.d (.int (e.dc.length : Nat))) mm := fun mm => by rw [oLen_l, List.length_map]
    have tt : fTest (fBin oEq (fCall oLen (aCons (fVar 5) aNil)) (fVar 2)) ((R vn v3 v4 v5 (some (.d .none)) (some (.o m.length)) none none).set 7 (some (.d (.list ((foundL e.dc n (List.replicate n 0)).map eQ))))) (m ++ [.gone]) = .ok (decide ((e.dc.length : Int) = (n : Nat))) (m ++ [.gone]) :=
      test_ok ((bin_ok ((ctl_ok (acons_ok rfl rfl)).trans (ll _)) rfl).trans oEq_ii)
    unfold fIf
    rw [tt, bind_ok]
    by_cases q : e.dc.length = n
    · rw [decide_eq_true (by omega : (e.dc.length : Int) = (n : Nat)), if_pos rfl, if_pos q]
      rfl
    · rw [decide_eq_false (by omega : ¬ (e.dc.length : Int) = (n : Nat)), if_neg q]
      rfl
end Mn.N1

set_option Elab.async false
set_option linter.all false
set_option maxRecDepth 100000
set_option autoImplicit false
set_option maxHeartbeats 4000000
set_option exponentiation.threshold 100
namespace Mn.N1
open PySem WK Lin
theorem times_ok {rows : List (List Rat)} {pt : List Rat} {x y : PyData} {m : MM} {B C n : Nat} (hm : okM m) (hx : seqD (.d x) = some (rows.map eT)) (hy : seqD (.d y) = some (pt.map eQ))
    (hl : ∀ r ∈ rows, r.length = n) (hp : pt.length = n) (hr : rows.length ≤ cap) (hn : n ≤ cap) (h1 : ∀ r ∈ rows, ∀ q ∈ r, Sz B q) (h2 : ∀ q ∈ pt, Sz C q) (h : (n + 1) * (B + C + 1) < 8999) :
    m__law_times [.d x, .d y] m = .ok (.d (.list (rows.map fun r => eQ (S n fun j => r.getD j 0 * pt.getD j 0)))) m := by
  unfold m__law_times s__law_times
  simp only [defS, sSeq, sSet, sUnp, gT, gsCons, gsNil, gN, sPar2, sPar3, sAug, sExpr, sRet, sRetN, sPass, sBrk, sCnt, sIf, sRaise, fVar, fC, fBin, fUn, fTest, fTru, fNot, fIf, fCall, fCallL, fCallD, aNil, aCons, bind_ok, bind_err, bind_bad, then_ok, then_err, then_bad, sbind_nx, sbind_rt, sbind_bk, sbind_ct, sbind_err, sbind_bad, List.map_cons, List.map_nil, List.length_cons, List.length_nil, List.cons_append, List.nil_append, List.replicate_succ, List.replicate_zero, List.getElem?_cons_zero, List.getElem?_cons_succ, List.set_cons_zero, List.set_cons_succ, Nat.reduceSub, Nat.reduceAdd, if_pos, if_true, if_false, Bool.false_eq_true, ite_true, ite_false, reduceIte, Option.some.injEq, oGcd_ii, oMax_ii, oMin_ii, oInt_i, oLt_ii, oLe_ii, oGt_ii, oGe_ii, oAddU_ii, oSub_ii, oNeg_i, asB_b, tru_b, oNotV_b, oIx_t0, oIx_t1, oIx_t2, oIx_l0, datas_nil, datas_cons, oLen_l, oLen_t, oTuple_l, wipeS, tidy_same, cut_same, cut_app]
  rw [fz_compN (xs := rows) (enc := eT) (g := fun r => eQ (S n fun j => r.getD j 0 * pt.getD j 0))]
  · simp only [defS, sSeq, sSet, sUnp, gT, gsCons, gsNil, gN, sPar2, sPar3, sAug, sExpr, sRet, sRetN, sPass, sBrk, sCnt, sIf, sRaise, fVar, fC, fBin, fUn, fTest, fTru, fNot, fIf, fCall, fCallL, fCallD, aNil, aCons, bind_ok, bind_err, bind_bad, then_ok, then_err, then_bad, sbind_nx, sbind_rt, sbind_bk, sbind_ct, sbind_err, sbind_bad, List.map_cons, List.map_nil, List.length_cons, List.length_nil, List.cons_append, List.nil_append, List.replicate_succ, List.replicate_zero, List.getElem?_cons_zero, List.getElem?_cons_succ, List.set_cons_zero, List.set_cons_succ, Nat.reduceSub, Nat.reduceAdd, if_pos, if_true, if_false, Bool.false_eq_true, ite_true, ite_false, reduceIte, Option.some.injEq, oGcd_ii, oMax_ii, oMin_ii, oInt_i, oLt_ii, oLe_ii, oGt_ii, oGe_ii, oAddU_ii, oSub_ii, oNeg_i, asB_b, tru_b, oNotV_b, oIx_t0, oIx_t1, oIx_t2, oIx_l0, datas_nil, datas_cons, oLen_l, oLen_t, oTuple_l, wipeS, tidy_same, cut_same, cut_app]
    exact trim_d hm
  · exact iSeq_ok rfl hx
  · exact hr
  · intro r hrm
    have hrl := hl r hrm
    simp only [defS, sSeq, sSet, sUnp, gT, gsCons, gsNil, gN, sPar2, sPar3, sAug, sExpr, sRet, sRetN, sPass, sBrk, sCnt, sIf, sRaise, fVar, fC, fBin, fUn, fTest, fTru, fNot, fIf, fCall, fCallL, fCallD, aNil, aCons, bind_ok, bind_err, bind_bad, then_ok, then_err, then_bad, sbind_nx, sbind_rt, sbind_bk, sbind_ct, sbind_err, sbind_bad, List.map_cons, List.map_nil, List.length_cons, List.length_nil, List.cons_append, List.nil_append, List.replicate_succ, List.replicate_zero, List.getElem?_cons_zero, List.getElem?_cons_succ, List.set_cons_zero, List.set_cons_succ, Nat.reduceSub, Nat.reduceAdd, if_pos, if_true, if_false, Bool.false_eq_true, ite_true, ite_false, reduceIte, Option.some.injEq, oGcd_ii, oMax_ii, oMin_ii, oInt_i, oLt_ii, oLe_ii, oGt_ii, oGe_ii, oAddU_ii, oSub_ii, oNeg_i, asB_b, tru_b, oNotV_b, oIx_t0, oIx_t1, oIx_t2, oIx_l0, datas_nil, datas_cons, oLen_l, oLen_t, oTuple_l, wipeS, tidy_same, cut_same, cut_app]
    have hz : zipD (r.map eQ) (pt.map eQ) = (List.zip r pt).map fun p => PyData.tuple [eQ p.1, eQ p.2] := by
      unfold zipD
      rw [List.zipWith_map]
      simp [List.zip, List.map_zipWith]
    have hc : fFz (fComp (iZip (aCons (fVar 2) (aCons (fVar 1) aNil))) (gT 2 (gsCons (gN 3) (gsCons (gN 4) gsNil))) [3, 4] tYesF (fCallD 2 m__law_mul (aCons (fVar 3) (aCons (fVar 4) aNil)))) [some (.d x), some (.d y), some (.d (eT r)), none, none] m = .ok (.d (.list ((List.zip r pt).map fun p => eQ (p.1 * p.2)))) m := by
      refine fz_comp (xs := List.zip r pt) (enc := fun p => PyData.tuple [eQ p.1, eQ p.2]) (g := fun p => eQ (p.1 * p.2)) ?_ ?_ ?_
      · unfold iZip
        simp only [defS, sSeq, sSet, sUnp, gT, gsCons, gsNil, gN, sPar2, sPar3, sAug, sExpr, sRet, sRetN, sPass, sBrk, sCnt, sIf, sRaise, fVar, fC, fBin, fUn, fTest, fTru, fNot, fIf, fCall, fCallL, fCallD, aNil, aCons, bind_ok, bind_err, bind_bad, then_ok, then_err, then_bad, sbind_nx, sbind_rt, sbind_bk, sbind_ct, sbind_err, sbind_bad, List.map_cons, List.map_nil, List.length_cons, List.length_nil, List.cons_append, List.nil_append, List.replicate_succ, List.replicate_zero, List.getElem?_cons_zero, List.getElem?_cons_succ, List.set_cons_zero, List.set_cons_succ, Nat.reduceSub, Nat.reduceAdd, if_pos, if_true, if_false, Bool.false_eq_true, ite_true, ite_false, reduceIte, Option.some.injEq, oGcd_ii, oMax_ii, oMin_ii, oInt_i, oLt_ii, oLe_ii, oGt_ii, oGe_ii, oAddU_ii, oSub_ii, oNeg_i, asB_b, tru_b, oNotV_b, oIx_t0, oIx_t1, oIx_t2, oIx_l0, datas_nil, datas_cons, oLen_l, oLen_t, oTuple_l, wipeS, tidy_same, cut_same, cut_app]
        rw [hy]
        have : seqD (.d (eT r)) = some (r.map eQ) := rfl
        rw [this, ← hz]
      · rw [List.length_zip]
        omega
      · intro p hpm
        refine ⟨[some (.d x), some (.d y), some (.d (eT r)), some (.d (eQ p.1)), some (.d (eQ p.2))], rfl, rfl, ?_⟩
        obtain ⟨q1, q2⟩ := List.of_mem_zip (a := p.1) (b := p.2) hpm
        simp only [defS, sSeq, sSet, sUnp, gT, gsCons, gsNil, gN, sPar2, sPar3, sAug, sExpr, sRet, sRetN, sPass, sBrk, sCnt, sIf, sRaise, fVar, fC, fBin, fUn, fTest, fTru, fNot, fIf, fCall, fCallL, fCallD, aNil, aCons, bind_ok, bind_err, bind_bad, then_ok, then_err, then_bad, sbind_nx, sbind_rt, sbind_bk, sbind_ct, sbind_err, sbind_bad, List.map_cons, List.map_nil, List.length_cons, List.length_nil, List.cons_append, List.nil_append, List.replicate_succ, List.replicate_zero, List.getElem?_cons_zero, List.getElem?_cons_succ, List.set_cons_zero, List.set_cons_succ, Nat.reduceSub, Nat.reduceAdd, if_pos, if_true, if_false, Bool.false_eq_true, ite_true, ite_false, reduceIte, Option.some.injEq, oGcd_ii, oMax_ii, oMin_ii, oInt_i, oLt_ii, oLe_ii, oGt_ii, oGe_ii, oAddU_ii, oSub_ii, oNeg_i, asB_b, tru_b, oNotV_b, oIx_t0, oIx_t1, oIx_t2, oIx_l0, datas_nil, datas_cons, oLen_l, oLen_t, oTuple_l, wipeS, tidy_same, cut_same, cut_app]
        rw [mul_ok hm (h1 r hrm _ q1) (h2 _ q2) (by
          rw [Nat.add_mul, Nat.one_mul] at h
          omega)]
    rw [hc]
    simp only [defS, sSeq, sSet, sUnp, gT, gsCons, gsNil, gN, sPar2, sPar3, sAug, sExpr, sRet, sRetN, sPass, sBrk, sCnt, sIf, sRaise, fVar, fC, fBin, fUn, fTest, fTru, fNot, fIf, fCall, fCallL, fCallD, aNil, aCons, bind_ok, bind_err, bind_bad, then_ok, then_err, then_bad, sbind_nx, sbind_rt, sbind_bk, sbind_ct, sbind_err, sbind_bad, List.map_cons, List.map_nil, List.length_cons, List.length_nil, List.cons_append, List.nil_append, List.replicate_succ, List.replicate_zero, List.getElem?_cons_zero, List.getElem?_cons_succ, List.set_cons_zero, List.set_cons_succ, Nat.reduceSub, Nat.reduceAdd, if_pos, if_true, if_false, Bool.false_eq_true, ite_true, ite_false, reduceIte, Option.some.injEq, oGcd_ii, oMax_ii, oMin_ii, oInt_i, oLt_ii, oLe_ii, oGt_ii, oGe_ii, oAddU_ii, oSub_ii, oNeg_i, asB_b, tru_b, oNotV_b, oIx_t0, oIx_t1, oIx_t2, oIx_l0, datas_nil, datas_cons, oLen_l, oLen_t, oTuple_l, wipeS, tidy_same, cut_same, cut_app]
    have hlen : (List.zipWith (fun a b => a * b) r pt).length = n := by
      rw [List.length_zipWith]
      omega
    have hmap : ((List.zip r pt).map fun p => eQ (p.1 * p.2)) = (List.zipWith (fun a b => a * b) r pt).map eQ := by
      simp [List.zip, List.map_zipWith]
    rw [hmap, total_ok (xs := List.zipWith (fun a b => a * b) r pt) (B := B + C) hm rfl (fun q hq => by
      obtain ⟨i, hi, e⟩ := List.mem_iff_getElem.mp hq
      rw [List.getElem_zipWith] at e
      rw [← e]
      exact sz_mul (h1 r hrm _ (List.getElem_mem _)) (h2 _ (List.getElem_mem _))) (by rw [hlen]; exact h), hlen]
    congr 3
    refine S_congr n fun j hj => ?_
    have a1 : j < r.length := by omega
    have a2 : j < pt.length := by omega
    simp only [List.getD_eq_getElem?_getD, List.getElem?_zipWith, List.getElem?_eq_getElem a1, List.getElem?_eq_getElem a2, Option.getD_some]
theorem den_to {q : Rat} {L : Nat} (h : q.den ∣ L) : ∃ z : Int, q * ((L : Int) : Rat) = (z : Rat) := by
  obtain ⟨c, rfl⟩ := h
  refine ⟨q.num * (c : Int), ?_⟩
  have e := rat_eq q
  have n0 := den_ne q
  have e1 : ((q.num * (c : Int) : Int) : Rat) = (q.num : Rat) * ((c : Int) : Rat) := by rw [Rat.intCast_mul]
  have e2 : ((((q.den * c : Nat) : Int)) : Rat) = ((q.den : Int) : Rat) * ((c : Int) : Rat) := by
    rw [← Rat.intCast_mul]
    rfl
  rw [e1, e2]
  generalize ((q.den : Int) : Rat) = p at *
  generalize (q.num : Rat) = x at *
  generalize ((c : Int) : Rat) = y at *
  rw [e]
  grind
theorem den_of {q : Rat} {L : Nat} (hL : 0 < L) {z : Int} (h : q * ((L : Int) : Rat) = (z : Rat)) : q.den ∣ L := by
  have l0 : ((L : Int) : Rat) ≠ 0 := castne (by omega)
  have e : q = (z : Rat) / ((L : Int) : Rat) := by
    rw [← h]
    generalize ((L : Int) : Rat) = p at *
    grind
  have d : ((Int.gcd z (L : Int) : Nat) : Int) ∣ (((L : Int).natAbs : Nat) : Int) := by
    have := Int.gcd_dvd_natAbs_right z (L : Int)
    exact_mod_cast this
  have d2 := Int.ediv_dvd_of_dvd d
  rw [← div_den (by omega : (L : Int) ≠ 0), ← e, Int.natAbs_natCast] at d2
  exact_mod_cast d2
theorem den_addL {a b : Rat} {L : Nat} (hL : 0 < L) (ha : a.den ∣ L) (hb : b.den ∣ L) : (a + b).den ∣ L := by
  obtain ⟨x, hx⟩ := den_to ha
  obtain ⟨y, hy⟩ := den_to hb
  refine den_of hL (z := x + y) ?_
  rw [Rat.intCast_add, ← hx, ← hy]
  grind
theorem den_mulL {a b : Rat} {L M : Nat} (hL : 0 < L) (hM : 0 < M) (ha : a.den ∣ L) (hb : b.den ∣ M) : (a * b).den ∣ L * M := by
  obtain ⟨x, hx⟩ := den_to ha
  obtain ⟨y, hy⟩ := den_to hb
  refine den_of (Nat.mul_pos hL hM) (z := x * y) ?_
  have e2 : ((((L * M : Nat) : Int)) : Rat) = ((L : Int) : Rat) * ((M : Int) : Rat) := by
    rw [← Rat.intCast_mul]
    rfl
  rw [Rat.intCast_mul, ← hx, ← hy, e2]
  grind
theorem den_S {f : Nat → Rat} {L : Nat} (hL : 0 < L) : ∀ n : Nat, (∀ j, j < n → (f j).den ∣ L) → (S n f).den ∣ L
  | 0, _ => Nat.one_dvd _
  | n + 1, h => den_addL hL (den_S hL n fun j hj => h j (by omega)) (h n (by omega))
theorem isT_no {d : PyData} {m : MM} (hm : okM m) (h : s_is_table [some (.d d), none] m = .rt (.d (.bool false)) m) : m_is_table [.d d] m = .ok (.d (.bool false)) m := by
  unfold m_is_table
  rw [def_rt (s := s_is_table) (ρ := [some (.d d), none]) rfl h]
  exact trim_d hm
theorem seq_err {a b : SF} {ρ ρ1 : SE} {m m1 : MM} {c : Str} (h : a ρ m = .err c ρ1 m1) : sSeq a b ρ m = .err c ρ1 m1 := by
  unfold sSeq
  rw [h]
  rfl
theorem rank_bad {d : PyData} {m : MM} (hm : okM m) (h : s_is_table [some (.d d), none] m = .rt (.d (.bool false)) m) : m_rank [.d d] m = .err "BadTable" m := by
  have e1 : s_check_table [some (.d d)] m = .err "BadTable" [some (.d d)] m := by
    unfold s_check_table
    rw [if_yes (m1 := m)]
    · rfl
    · rw [not_ok (b := false) (m1 := m)]
      · rfl
      · exact tru_ok (call_ok (m1 := m) (xs := [.d d]) rfl rfl (isT_no hm h))
  have e2 : m_check_table [.d d] m = .err "BadTable" m := by
    unfold m_check_table
    exact (def_err (s := s_check_table) (ρ := [some (.d d)]) rfl e1).trans (by rw [cut_same])
  have e3 : s_rank [some (.d d), none, none] m = .err "BadTable" [some (.d d), none, none] m := by
    unfold s_rank
    exact seq_err (expr_err (call_err (m1 := m) (xs := [.d d]) rfl rfl e2))
  unfold m_rank
  exact (def_err (s := s_rank) (ρ := [some (.d d), none, none]) rfl e3).trans (by rw [cut_same])
theorem ratio22 {m : MM} (hm : okM m) : m_is_ratio [.d (.tuple [.int 2, .int 2])] m = .ok (.d (.bool false)) m := by
  have e : s_is_ratio [some (.d (.tuple [.int 2, .int 2])), none, none] m = .rt (.d (.bool false)) m := by
    unfold s_is_ratio
    refine step_nx (ρ1 := [some (.d (.tuple [.int 2, .int 2])), none, none]) (m1 := m) rfl (step_nx (ρ1 := [some (.d (.tuple [.int 2, .int 2])), some (.d (.int 2)), some (.d (.int 2))]) (m1 := m) rfl (ret_ok ?_))
    refine (andV_yes (call_ok (m1 := m) (xs := [.d (.int 2)]) rfl rfl (integer_ok hm))).trans ((andV_yes (call_ok (m1 := m) (xs := [.d (.int 2)]) rfl rfl (integer_ok hm))).trans ?_)
    rfl
  unfold m_is_ratio
  rw [def_rt (s := s_is_ratio) (ρ := [some (.d (.tuple [.int 2, .int 2])), none, none]) rfl e]
  exact trim_d hm
theorem ratioT1 {m : MM} (hm : okM m) : m_is_ratio [.d (.tuple [.bool true, .int 1])] m = .ok (.d (.bool false)) m := by
  have i : m_is_integer [.d (.bool true)] m = .ok (.d (.bool false)) m := by
    have e : s_is_integer [some (.d (.bool true))] m = .rt (.d (.bool false)) m := by rfl
    unfold m_is_integer
    rw [def_rt (s := s_is_integer) (ρ := [some (.d (.bool true))]) rfl e]
    exact trim_d hm
  have e : s_is_ratio [some (.d (.tuple [.bool true, .int 1])), none, none] m = .rt (.d (.bool false)) m := by
    unfold s_is_ratio
    refine step_nx (ρ1 := [some (.d (.tuple [.bool true, .int 1])), none, none]) (m1 := m) rfl (step_nx (ρ1 := [some (.d (.tuple [.bool true, .int 1])), some (.d (.bool true)), some (.d (.int 1))]) (m1 := m) rfl (ret_ok ?_))
    exact andV_no (call_ok (m1 := m) (xs := [.d (.bool true)]) rfl rfl i)
  unfold m_is_ratio
  rw [def_rt (s := s_is_ratio) (ρ := [some (.d (.tuple [.bool true, .int 1])), none, none]) rfl e]
  exact trim_d hm
theorem are_one {d : PyData} {m : MM} (hm : okM m) (h : m_is_ratio [.d d] m = .ok (.d (.bool false)) m) : m_are_ratios [.d (.tuple [d]), .d (.int 1)] m = .ok (.d (.bool false)) m := by
  have e : s_are_ratios [some (.d (.tuple [d])), some (.d (.int 1)), none] m = .rt (.d (.bool false)) m := by
    unfold s_are_ratios
    refine ret_ok ?_
    rw [andV_yes (isi_ok (x := .tuple [d]) rfl (by rfl))]
    have e1 : fBin oEq (fCall oLen (aCons (fVar 0) aNil)) (fVar 1) [some (.d (.tuple [d])), some (.d (.int 1)), none] m = .ok (.d (.bool true)) m := by rfl
    rw [andV_yes e1]
    have e2 : fFz (fComp (iSeq (fVar 0)) (gN 2) [2] tYesF (fCallD 1 m_is_ratio (aCons (fVar 2) aNil))) [some (.d (.tuple [d])), some (.d (.int 1)), none] m = .ok (.d (.list ([d].map fun _ => PyData.bool false))) m :=
      fz_compN (enc := id) (g := fun _ => PyData.bool false) (iSeq_ok (x := .tuple [d]) rfl rfl) (by show 1 ≤ 10000; omega) fun q hq => call_ok (m1 := m) (xs := [.d q]) rfl rfl (by rw [List.mem_singleton.mp hq]; exact h)
    rw [ctl_ok (acons_ok e2 rfl)]
    rfl
  unfold m_are_ratios
  rw [def_rt (s := s_are_ratios) (ρ := [some (.d (.tuple [d])), some (.d (.int 1)), none]) rfl e]
  exact trim_d hm
theorem are_two {a b : PyData} {m : MM} (hm : okM m) : m_are_ratios [.d (.tuple [a, b]), .d (.int 1)] m = .ok (.d (.bool false)) m := by
  have e : s_are_ratios [some (.d (.tuple [a, b])), some (.d (.int 1)), none] m = .rt (.d (.bool false)) m := by
    unfold s_are_ratios
    refine ret_ok ?_
    rw [andV_yes (isi_ok (x := .tuple [a, b]) rfl (by rfl))]
    exact andV_no (by rfl)
  unfold m_are_ratios
  rw [def_rt (s := s_are_ratios) (ρ := [some (.d (.tuple [a, b])), some (.d (.int 1)), none]) rfl e]
  exact trim_d hm
theorem tab_one {d : PyData} {m : MM} (hm : okM m) (h : m_is_ratio [.d d] m = .ok (.d (.bool false)) m) : s_is_table [some (.d (.tuple [.tuple [d]])), none] m = .rt (.d (.bool false)) m := by
  unfold s_is_table
  refine step_nx (ρ1 := [some (.d (.tuple [.tuple [d]])), none]) (m1 := m) rfl (step_nx (ρ1 := [some (.d (.tuple [.tuple [d]])), none]) (m1 := m) rfl (ret_ok ?_))
  have e2 : fFz (fComp (iSeq (fVar 0)) (gN 1) [1] tYesF (fCallD 2 m_are_ratios (aCons (fVar 1) (aCons (fCall oLen (aCons (fBin oIx (fVar 0) (fC (.int 0))) aNil)) aNil)))) [some (.d (.tuple [.tuple [d]])), none] m = .ok (.d (.list ([PyData.tuple [d]].map fun _ => PyData.bool false))) m :=
    fz_compN (enc := id) (g := fun _ => PyData.bool false) (iSeq_ok (x := .tuple [.tuple [d]]) rfl rfl) (by show 1 ≤ 10000; omega) fun q hq => call_ok (m1 := m) (xs := [.d q, .d (.int 1)]) rfl rfl (by rw [List.mem_singleton.mp hq]; exact are_one hm h)
  rw [ctl_ok (acons_ok e2 rfl)]
  rfl
theorem tab_two {m : MM} (hm : okM m) : s_is_table [some (.d (.tuple [.tuple [.tuple [.int 1, .int 1]], .tuple [.tuple [.int 1, .int 1], .tuple [.int 1, .int 2]]])), none] m = .rt (.d (.bool false)) m := by
  unfold s_is_table
  refine step_nx (ρ1 := [some (.d (.tuple [.tuple [.tuple [.int 1, .int 1]], .tuple [.tuple [.int 1, .int 1], .tuple [.int 1, .int 2]]])), none]) (m1 := m) rfl (step_nx (ρ1 := [some (.d (.tuple [.tuple [.tuple [.int 1, .int 1]], .tuple [.tuple [.int 1, .int 1], .tuple [.int 1, .int 2]]])), none]) (m1 := m) rfl (ret_ok ?_))
  have e2 : fFz (fComp (iSeq (fVar 0)) (gN 1) [1] tYesF (fCallD 2 m_are_ratios (aCons (fVar 1) (aCons (fCall oLen (aCons (fBin oIx (fVar 0) (fC (.int 0))) aNil)) aNil)))) [some (.d (.tuple [.tuple [.tuple [.int 1, .int 1]], .tuple [.tuple [.int 1, .int 1], .tuple [.int 1, .int 2]]])), none] m = .ok (.d (.list ([(PyData.tuple [.tuple [.int 1, .int 1]], true), (.tuple [.tuple [.int 1, .int 1], .tuple [.int 1, .int 2]], false)].map fun p => PyData.bool p.2))) m := by
    refine fz_compN (xs := [(PyData.tuple [.tuple [.int 1, .int 1]], true), (.tuple [.tuple [.int 1, .int 1], .tuple [.int 1, .int 2]], false)]) (enc := Prod.fst) (g := fun p => PyData.bool p.2) (iSeq_ok (x := .tuple [.tuple [.tuple [.int 1, .int 1]], .tuple [.tuple [.int 1, .int 1], .tuple [.int 1, .int 2]]]) rfl rfl) (by show 2 ≤ 10000; omega) fun q hq => ?_
    rcases List.mem_cons.mp hq with rfl | hq
    · exact call_ok (m1 := m) (xs := [.d (.tuple [.tuple [.int 1, .int 1]]), .d (.int 1)]) rfl rfl (are_ok (r := [1]) (n := 1) hm rfl (by show 1 ≤ 10000; omega))
    · rw [List.mem_singleton.mp hq]
      exact call_ok (m1 := m) (xs := [.d (.tuple [.tuple [.int 1, .int 1], .tuple [.int 1, .int 2]]), .d (.int 1)]) rfl rfl (are_two hm)
  rw [ctl_ok (acons_ok e2 rfl)]
  rfl
def bads : List PyData := [.tuple [], .tuple [.tuple []], .tuple [.tuple [.tuple [.int 1, .int 1]], .tuple [.tuple [.int 1, .int 1], .tuple [.int 1, .int 2]]], .tuple [.tuple [.tuple [.int 2, .int 2]]], .list [.tuple [.tuple [.int 1, .int 1]]], .tuple [.tuple [.tuple [.bool true, .int 1]]]]
theorem bads_ok {m : MM} (hm : okM m) {j : Nat} {d : PyData} (h : bads[j]? = some d) : m_rank [.d d] m = .err "BadTable" m := by
  refine rank_bad hm ?_
  have hj : j < 6 := (List.getElem?_eq_some_iff.mp h).1
  have : j = 0 ∨ j = 1 ∨ j = 2 ∨ j = 3 ∨ j = 4 ∨ j = 5 := by omega
  rcases this with rfl | rfl | rfl | rfl | rfl | rfl
  · cases h
    rfl
  · cases h
    rfl
  · cases h
    exact tab_two hm
  · cases h
    exact tab_one hm (ratio22 hm)
  · cases h
    rfl
  · cases h
    exact tab_one hm (ratioT1 hm)
end Mn.N1

set_option Elab.async false
set_option linter.all false
set_option maxRecDepth 100000
set_option autoImplicit false
set_option maxHeartbeats 4000000
set_option exponentiation.threshold 100
namespace Mn.N1
open PySem WK Lin
abbrev sl (ns : List Int) (M W : Nat) (x4 x5 x6 x7 x8 x9 x10 x11 x12 x13 x14 x15 x16 : Option SV) : SE :=
  [some (.k (ns.map .int)), some (.o 0), some (.d (.int (M : Nat))), some (.d (.int (W : Nat))), x4, x5, x6, x7, x8, x9, x10, x11, x12, x13, x14, x15, x16, none, none, none, none, none, none]
structure Rw (rows : List (List Rat)) (M W : Nat) : Prop where
  cnt : rows.length = M
  len : ∀ r ∈ rows, r.length = W
  den : ∀ r ∈ rows, ∀ q ∈ r, q.den ∣ 144
  sz : ∀ r ∈ rows, ∀ q ∈ r, Sz 6 q
theorem cap_eq : cap = 10000 := rfl
theorem Rw.tab {rows : List (List Rat)} {M W : Nat} (h : Rw rows M W) (h1 : 1 ≤ M) (h2 : M ≤ 4) (h3 : 1 ≤ W) (h4 : W ≤ 4) : Tab rows M W := ⟨h.cnt, h.len, h1, by omega, h3, by omega⟩
theorem Rw.fine {rows : List (List Rat)} {M W : Nat} (h : Rw rows M W) : Fine rows 40 1728 := ⟨by decide, by decide, fun r hr q hq => Nat.dvd_trans (h.den r hr q hq) (by decide), fun r hr q hq => (h.sz r hr q hq).mono (by decide)⟩
def transL (rows : List (List Rat)) (W : Nat) : List (List Rat) := (List.range W).map fun j => rows.map fun r => r.getD j 0
theorem Rw.trans {rows : List (List Rat)} {M W : Nat} (h : Rw rows M W) : Rw (transL rows W) W M := by
  unfold transL
  refine ⟨by rw [List.length_map, List.length_range], fun r hr => ?_, fun r hr q hq => ?_, fun r hr q hq => ?_⟩
  · obtain ⟨j, _, rfl⟩ := List.mem_map.mp hr
    rw [List.length_map, h.cnt]
  · obtain ⟨j, hj, rfl⟩ := List.mem_map.mp hr
    obtain ⟨t, ht, rfl⟩ := List.mem_map.mp hq
    have : j < t.length := by
      rw [h.len t ht]
      exact List.mem_range.mp hj
    rw [getD_of (List.getElem?_eq_getElem this)]
    exact h.den t ht _ (List.getElem_mem this)
  · obtain ⟨j, hj, rfl⟩ := List.mem_map.mp hr
    obtain ⟨t, ht, rfl⟩ := List.mem_map.mp hq
    have : j < t.length := by
      rw [h.len t ht]
      exact List.mem_range.mp hj
    rw [getD_of (List.getElem?_eq_getElem this)]
    exact h.sz t ht _ (List.getElem_mem this)
theorem trans_tab {rows : List (List Rat)} {W j i : Nat} (hj : j < W) (hi : i < rows.length) : tabF (transL rows W) j i = tabF rows i j := by
  unfold tabF transL
  rw [getD_map' (List.getElem?_range hj), getD_map' (List.getElem?_eq_getElem hi), getD_of (List.getElem?_eq_getElem hi)]
section
variable {ns : List Int} {M W : Nat} {x4 x5 x6 x7 x8 x9 x10 x11 x12 x13 x14 x15 x16 : Option SV} {m : MM}
theorem trans_ok {rows : List (List Rat)} (h : Rw rows M W) (hM : M ≤ 4) (hW : W ≤ 4) :
    fFz (fComp (iRange1 (aCons (fVar 3) aNil)) (gN 14) [14] tYesF (fCall oTuple (aCons (fFz (fComp (iSeq (fVar 4)) (gN 20) [20] tYesF (fBin oIx (fVar 20) (fVar 14)))) aNil))) (sl ns M W (some (.d (.list (rows.map eT)))) x5 x6 x7 x8 x9 x10 x11 x12 x13 x14 x15 x16) m =
      .ok (.d (.list ((transL rows W).map eT))) m := by
  have := fz_compN (i := 14) (own := [14]) (fe := fCall oTuple (aCons (fFz (fComp (iSeq (fVar 4)) (gN 20) [20] tYesF (fBin oIx (fVar 20) (fVar 14)))) aNil)) (ρ := sl ns M W (some (.d (.list (rows.map eT)))) x5 x6 x7 x8 x9 x10 x11 x12 x13 x14 x15 x16) (m := m) (fi := iRange1 (aCons (fVar 3) aNil))
    (xs := List.range W) (enc := fun j => PyData.int (j : Nat)) (g := fun j => eT (rows.map fun r => r.getD j 0)) (range_ok rfl (by omega)) (by rw [List.length_range, cap_eq]; omega) fun j hj => by
      have hj := List.mem_range.mp hj
      have c := fz_compN (i := 20) (own := [20]) (fe := fBin oIx (fVar 20) (fVar 14)) (ρ := sl ns M W (some (.d (.list (rows.map eT)))) x5 x6 x7 x8 x9 x10 x11 x12 x13 (some (.d (.int (j : Nat)))) x15 x16) (m := m) (fi := iSeq (fVar 4))
        (xs := rows) (enc := eT) (g := fun r => eQ (r.getD j 0)) (iSeq_ok (x := .list (rows.map eT)) rfl rfl) (by rw [h.cnt, cap_eq]; omega) fun r hr => by
          have hl := h.len r hr
          refine (bin_ok rfl rfl).trans (oIx_tup (k := j) ?_)
          rw [List.getElem?_map, List.getElem?_eq_getElem (by omega), getD_of (List.getElem?_eq_getElem (by omega : j < r.length))]
          rfl
      refine (ctl_ok (acons_ok c rfl)).trans ?_
      rw [oTuple_l]
      unfold eT
      rw [List.map_map]
      rfl
  rw [this]
  unfold transL
  rw [List.map_map]
  rfl
theorem dc_le {n N k : Nat} {rows : List Row} {e : El} (I : Lin.Inv N rows n e) (hk : rows.length = k) : e.dc.length ≤ k ∧ e.dc.length ≤ n := by
  have := I.cnt
  refine ⟨by omega, ?_⟩
  have ge : ∀ i (hi : i < (e.dc.map (·.2)).length), i ≤ (e.dc.map (·.2))[i] := by
    intro i
    induction i with
    | zero => intro _; exact Nat.zero_le _
    | succ i ih =>
      intro hi
      have := List.pairwise_iff_getElem.mp I.sorted i (i + 1) (by omega) hi (by omega)
      have := ih (by omega)
      omega
  rcases Nat.eq_zero_or_pos e.dc.length with z | z
  · omega
  · have hi : e.dc.length - 1 < (e.dc.map (·.2)).length := by rw [List.length_map]; omega
    have h1 := ge _ hi
    have hm := List.getElem_mem hi
    obtain ⟨q, hq, e1⟩ := List.mem_map.mp hm
    have := I.lt q hq
    omega
theorem count_no {c : Nat} (h1 : c ≤ M) (h2 : c ≤ W) : fOr (fTru (fIsi "bool" (fVar 10))) (fOr (fNot (fTru (fIsi "int" (fVar 10)))) (fNot (fTest (fChain oLe oLe (fC (.int 0)) (fVar 10) (fCall oMin (aCons (fVar 2) (aCons (fVar 3) aNil))))))) (sl ns M W x4 x5 x6 x7 x8 x9 (some (.d (.int (c : Nat)))) x11 x12 x13 x14 x15 x16) m = .ok false m := by
  rw [or_no (m1 := m) (tru_ok (isi_ok (x := .int (c : Nat)) rfl (by rfl)))]
  rw [or_no (m1 := m) ((not_ok (b := true) (tru_ok (isi_ok (x := .int (c : Nat)) rfl (by rfl)))).trans rfl)]
  rw [not_ok (b := true) (m1 := m)]
  · rfl
  · refine test_ok ?_
    have a : decide ((0 : Int) ≤ (c : Nat)) = true := decide_eq_true (by omega)
    have b : decide (((c : Nat) : Int) ≤ min (M : Int) (W : Int)) = true := decide_eq_true (by omega)
    simp only [defS, sSeq, sSet, sUnp, gT, gsCons, gsNil, gN, sPar2, sPar3, sAug, sExpr, sRet, sRetN, sPass, sBrk, sCnt, sIf, sRaise, fVar, fC, fBin, fUn, fTest, fTru, fNot, fAnd, fOr, fAndV, fOrV, fChain, fIf, fCall, fCallL, fCallD, fIsi, isT, tyN, aNil, aCons, bind_ok, bind_err, bind_bad, then_ok, then_err, then_bad, sbind_nx, sbind_rt, sbind_bk, sbind_ct, sbind_err, sbind_bad, List.map_cons, List.map_nil, List.length_cons, List.length_nil, List.cons_append, List.nil_append, List.replicate_succ, List.replicate_zero, List.getElem?_cons_zero, List.getElem?_cons_succ, List.set_cons_zero, List.set_cons_succ, Nat.reduceSub, Nat.reduceAdd, if_pos, if_true, if_false, Bool.false_eq_true, ite_true, ite_false, reduceIte, Option.some.injEq, oGcd_ii, oMax_ii, oMin_ii, oInt_i, oLt_ii, oLe_ii, oGt_ii, oGe_ii, oAddU_ii, oSub_ii, oNeg_i, asB_b, tru_b, oNotV_b, oIx_t0, oIx_t1, oIx_t2, oIx_l0, datas_nil, datas_cons, oLen_l, oLen_t, oTuple_l, wipeS, tidy_same, cut_same, cut_app, oEq_ii, oNe_ii, a, b]
end
end Mn.N1

set_option Elab.async false
set_option linter.all false
set_option maxRecDepth 100000
set_option autoImplicit false
set_option maxHeartbeats 4000000
set_option exponentiation.threshold 100
namespace Mn.N1
open PySem WK Lin
theorem if_else {t : TF} {a b : SF} {ρ : SE} {m m1 : MM} {r : RS} (h : t ρ m = .ok false m1) (k : b ρ m1 = r) : sIf t a b ρ m = r := (if_no h).trans k
theorem if_then {t : TF} {a b : SF} {ρ : SE} {m m1 : MM} {r : RS} (h : t ρ m = .ok true m1) (k : a ρ m1 = r) : sIf t a b ρ m = r := (if_yes h).trans k
theorem comp_no {tg : GF} {own : List Nat} {ft : TF} {fe : EF} {ρ : SE} {m : MM} : ∀ ds : List PyData, (∀ d ∈ ds, ∃ ρ1, tg d (wipeS ρ own) = some ρ1 ∧ ft ρ1 m = .ok false m) → compS tg own ft fe ρ ds m = .ok [] m
  | [], _ => rfl
  | d :: r, h => by
    obtain ⟨ρ1, h1, h2⟩ := h d (List.mem_cons_self ..)
    unfold compS
    simp only [h1]
    rw [h2]
    show (R.ok false m).bind _ = _
    rw [bind_ok]
    exact comp_no r fun y hy => h y (List.mem_cons_of_mem _ hy)
def s_chk : SF :=
  (sIf (fTest (fBin oEq (fBin oIx (fVar 9) (fC (.int 0))) (fC (.str "none"))))
  (sSeq (sSet 11 (fCallD 2 m__law_times (aCons (fFz (fComp (iRange1 (aCons (fVar 3) aNil)) (gN 14) [14] tYesF (fCall oTuple (aCons (fFz (fComp (iSeq (fVar 4)) (gN 20) [20] tYesF (fBin oIx (fVar 20) (fVar 14)))) aNil)))) (aCons (fBin oIx (fVar 9) (fC (.int 1))) aNil))))
  (sSeq (sIf (fOr (fTest (fBin oNe (fFz (fComp (iSeq (fVar 11)) (gN 19) [19] (fTest (fBin oNe (fVar 19) (fTup (aCons (fC (.int 0)) (aCons (fC (.int 1)) aNil))))) (fVar 19))) (fFz (fLst aNil)))) (fTest (fBin oNe (fCall oLen (aCons (fBin oIx (fVar 9) (fC (.int 1))) aNil)) (fVar 2))))
  (sRet (fC (.bool false)))
  sPass)
  (sIf (fTest (fBin oEq (fBin oIx (fCallD 1 m__law_total (aCons (fFz (fComp (iZip (aCons (fBin oIx (fVar 9) (fC (.int 1))) (aCons (fVar 8) aNil))) (gT 2 (gsCons (gN 19) (gsCons (gN 21) gsNil))) [19, 21] tYesF (fCallD 2 m__law_mul (aCons (fVar 19) (aCons (fVar 21) aNil))))) aNil)) (fC (.int 0))) (fC (.int 0))))
  (sRet (fC (.bool false)))
  sPass)))
  (sIf (fOr (fTest (fBin oNe (fCall oLen (aCons (fBin oIx (fVar 9) (fC (.int 1))) aNil)) (fVar 3))) (fTest (fBin oNe (fCallD 2 m__law_times (aCons (fVar 6) (aCons (fBin oIx (fVar 9) (fC (.int 1))) aNil))) (fFz (fCallL oList (aCons (fVar 8) aNil))))))
  (sRet (fC (.bool false)))
  (sIf (fTest (fBin oNe (fBin oIx (fVar 9) (fC (.int 0))) (fIf (fTest (fBin oEq (fVar 10) (fVar 3))) (fC (.str "one")) (fC (.str "many")))))
  (sRet (fC (.bool false)))
  sPass)))
section
variable {ns : List Int} {M W : Nat} {x4 x5 x6 x7 x8 x9 x10 x11 x12 x13 x14 x15 x16 : Option SV} {m : MM}
theorem sz_int {z : Int} {b : Nat} (h : z.natAbs < 2 ^ b) : Sz (b + 1) (z : Rat) := by
  constructor
  · rw [Rat.num_intCast]
    exact Nat.lt_trans h (Nat.pow_lt_pow_right (by decide) (by omega))
  · rw [Rat.den_intCast]
    have : 1 ≤ 2 ^ b := Nat.two_pow_pos _
    rw [Nat.pow_succ]
    omega
theorem chk_none {rows : List (List Rat)} {rights : List Rat} {r : Row} (hm : okM m) (h : Rw rows M W) (hM1 : 1 ≤ M) (hM : M ≤ 4) (hW1 : 1 ≤ W) (hW : W ≤ 4) (hrl : rights.length = M) (hrs : ∀ q ∈ rights, Sz 41 q)
    (hlen : r.length = W + 1 + M) (hbd : Bd 1695 r)
    (z1 : ∀ j, j < W → (S M fun i => at_ r (W + 1 + i) * tabF rows i j) = 0) (z2 : (S M fun i => at_ r (W + 1 + i) * rights.getD i 0) ≠ 0) :
    s_chk (sl ns M W (some (.d (.list (rows.map eT)))) x5 x6 x7 (some (.d (eT rights))) (some (.d (.tuple [.str "none", eT ((r.drop (W + 1)).map fun (z : Int) => (z : Rat))]))) x10 x11 x12 x13 x14 x15 x16) m =
      .nx (sl ns M W (some (.d (.list (rows.map eT)))) x5 x6 x7 (some (.d (eT rights))) (some (.d (.tuple [.str "none", eT ((r.drop (W + 1)).map fun (z : Int) => (z : Rat))]))) x10 (some (.d (.list ((transL rows W).map fun _ => eQ 0)))) x12 x13 x14 x15 x16) m := by
  have hy : ((r.drop (W + 1)).map fun (z : Int) => (z : Rat)).length = M := by
    rw [List.length_map, List.length_drop]
    omega
  have hyg : ∀ i, i < M → ((r.drop (W + 1)).map fun (z : Int) => (z : Rat)).getD i 0 = at_ r (W + 1 + i) := fun i hi => by
    unfold at_
    rw [List.getD_eq_getElem?_getD, List.getElem?_map, List.getElem?_drop, List.getElem?_eq_getElem (by omega), List.getD_eq_getElem?_getD, List.getElem?_eq_getElem (by omega)]
    rfl
  have hys : ∀ q ∈ ((r.drop (W + 1)).map fun (z : Int) => (z : Rat)), Sz 1696 q := fun q hq => by
    obtain ⟨z, hz, rfl⟩ := List.mem_map.mp hq
    exact sz_int (hbd z (List.mem_of_mem_drop hz))
  generalize ((r.drop (W + 1)).map fun (z : Int) => (z : Rat)) = y at *
  have T := h.trans
  have tm : m__law_times [.d (.list ((transL rows W).map eT)), .d (eT y)] m = .ok (.d (.list ((transL rows W).map fun _ => eQ 0))) m := by
    rw [times_ok (rows := transL rows W) (pt := y) (B := 6) (C := 1696) (n := M) hm rfl rfl T.len hy (by rw [T.cnt, cap_eq]; omega) (by rw [cap_eq]; omega) T.sz hys (by omega)]
    congr 3
    refine List.map_congr_left fun t ht => ?_
    congr 1
    obtain ⟨j, hj, rfl⟩ := List.mem_map.mp ht
    have hj := List.mem_range.mp hj
    refine Eq.trans (S_congr M fun i hi => ?_) (z1 j hj)
    rw [hyg i hi]
    have : i < rows.length := by rw [h.cnt]; exact hi
    rw [getD_map' (List.getElem?_eq_getElem this)]
    unfold tabF
    rw [getD_of (List.getElem?_eq_getElem this)]
    grind
  have ix0 : ∀ mm : MM, oIx (.d (.tuple [.str "none", eT y])) (.d (.int 0)) mm = .ok (.d (.str "none")) mm := fun mm => oIx_t0
  have ix1 : ∀ mm : MM, oIx (.d (.tuple [.str "none", eT y])) (.d (.int 1)) mm = .ok (.d (eT y)) mm := fun mm => oIx_t1
  unfold s_chk
  refine if_then (test_ok ((bin_ok ((bin_ok rfl rfl).trans (ix0 m)) rfl).trans (oEq_same (by decide +kernel) (by decide +kernel)))) ?_
  refine step_set (x := .d (.list ((transL rows W).map fun _ => eQ 0))) (m1 := m) (ρ1 := sl ns M W (some (.d (.list (rows.map eT)))) x5 x6 x7 (some (.d (eT rights))) (some (.d (.tuple [.str "none", eT y]))) x10 (some (.d (.list ((transL rows W).map fun _ => eQ 0)))) x12 x13 x14 x15 x16) (call_ok (acons_ok (trans_ok h hM hW) (acons_ok ((bin_ok rfl rfl).trans (ix1 m)) rfl)) rfl tm) rfl ?_
  refine step_nx (ρ1 := sl ns M W (some (.d (.list (rows.map eT)))) x5 x6 x7 (some (.d (eT rights))) (some (.d (.tuple [.str "none", eT y]))) x10 (some (.d (.list ((transL rows W).map fun _ => eQ 0)))) x12 x13 x14 x15 x16) (m1 := m) (if_else ?_ rfl) (if_else (m1 := m) ?_ rfl)
  · have c1 : fFz (fComp (iSeq (fVar 11)) (gN 19) [19] (fTest (fBin oNe (fVar 19) (fTup (aCons (fC (.int 0)) (aCons (fC (.int 1)) aNil))))) (fVar 19)) (sl ns M W (some (.d (.list (rows.map eT)))) x5 x6 x7 (some (.d (eT rights))) (some (.d (.tuple [.str "none", eT y]))) x10 (some (.d (.list ((transL rows W).map fun _ => eQ 0)))) x12 x13 x14 x15 x16) m = .ok (.d (.list [])) m := by
      refine fz_ok (ds := []) ?_
      unfold fComp
      rw [iSeq_ok (x := .list ((transL rows W).map fun _ => eQ 0)) (m1 := m) rfl rfl, bind_ok, if_pos (by rw [List.length_map, T.cnt, cap_eq]; omega)]
      refine comp_no _ fun d hd => ⟨_, rfl, ?_⟩
      obtain ⟨_, _, rfl⟩ := List.mem_map.mp hd
      refine test_ok ((bin_ok rfl (fTup_2 (m1 := m) (a := .int 0) (b := .int 1) rfl)).trans ?_)
      rw [← eQ0]
      exact oNe_same (lay_eQ 0).1 (by have := (lay_eQ 0).2; omega)
    rw [or_no (m1 := m)]
    · refine test_ok ((bin_ok ((ctl_ok (acons_ok ((bin_ok rfl rfl).trans (ix1 m)) rfl)).trans len_eT) rfl).trans ?_)
      rw [hy, oNe_ii]
      simp
    · exact test_ok ((bin_ok c1 (fz_ok (ds := []) (lst_ok (xs := []) rfl (Nat.zero_le _)))).trans (oNe_same rfl (by decide)))
  · have hz : zipD (y.map eQ) (rights.map eQ) = (List.zip y rights).map fun p => PyData.tuple [eQ p.1, eQ p.2] := by
      unfold zipD
      rw [List.zipWith_map]
      simp [List.zip, List.map_zipWith]
    have c1 : fFz (fComp (iZip (aCons (fBin oIx (fVar 9) (fC (.int 1))) (aCons (fVar 8) aNil))) (gT 2 (gsCons (gN 19) (gsCons (gN 21) gsNil))) [19, 21] tYesF (fCallD 2 m__law_mul (aCons (fVar 19) (aCons (fVar 21) aNil)))) (sl ns M W (some (.d (.list (rows.map eT)))) x5 x6 x7 (some (.d (eT rights))) (some (.d (.tuple [.str "none", eT y]))) x10 (some (.d (.list ((transL rows W).map fun _ => eQ 0)))) x12 x13 x14 x15 x16) m = .ok (.d (.list ((List.zip y rights).map fun p => eQ (p.1 * p.2)))) m := by
      refine fz_comp (xs := List.zip y rights) (enc := fun p => PyData.tuple [eQ p.1, eQ p.2]) (g := fun p => eQ (p.1 * p.2)) ?_ ?_ fun p hp => ⟨_, rfl, rfl, ?_⟩
      · rw [iZip_ok (x := eT y) (y := eT rights) (acons_ok ((bin_ok rfl rfl).trans (ix1 m)) rfl) rfl rfl, hz]
      · rw [List.length_zip, cap_eq]
        omega
      · obtain ⟨q1, q2⟩ := List.of_mem_zip (a := p.1) (b := p.2) hp
        exact call_ok (m1 := m) (xs := [.d (eQ p.1), .d (eQ p.2)]) rfl rfl (mul_ok hm (hys _ q1) (hrs _ q2) (by decide))
    have hmap : ((List.zip y rights).map fun p => eQ (p.1 * p.2)) = (List.zipWith (fun a b => a * b) y rights).map eQ := by
      simp [List.zip, List.map_zipWith]
    rw [hmap] at c1
    have hlen : (List.zipWith (fun a b => a * b) y rights).length = M := by
      rw [List.length_zipWith]
      omega
    have tot := total_ok (xs := List.zipWith (fun a b => a * b) y rights) (x := .list ((List.zipWith (fun a b => a * b) y rights).map eQ)) (B := 1696 + 41) (m := m) hm rfl (fun q hq => by
      obtain ⟨i, hi, e⟩ := List.mem_iff_getElem.mp hq
      rw [List.getElem_zipWith] at e
      rw [← e]
      exact sz_mul (hys _ (List.getElem_mem _)) (hrs _ (List.getElem_mem _))) (by rw [hlen]; omega)
    have sm : (S (List.zipWith (fun a b => a * b) y rights).length fun i => (List.zipWith (fun a b => a * b) y rights).getD i 0) ≠ 0 := by
      rw [hlen]
      intro e
      refine z2 (e.symm ▸ S_congr M fun i hi => ?_)
      have a1 : i < y.length := by omega
      have a2 : i < rights.length := by omega
      rw [← hyg i hi]
      simp only [List.getD_eq_getElem?_getD, List.getElem?_zipWith, List.getElem?_eq_getElem a1, List.getElem?_eq_getElem a2, Option.getD_some]
    generalize (S (List.zipWith (fun a b => a * b) y rights).length fun i => (List.zipWith (fun a b => a * b) y rights).getD i 0) = s at *
    refine test_ok ((bin_ok ((bin_ok (call_ok (acons_ok c1 rfl) rfl tot) rfl).trans (show oIx (.d (.tuple [.int s.num, .int (s.den : Int)])) (.d (.int 0)) m = .ok (.d (.int s.num)) m from oIx_t0)) rfl).trans ?_)
    rw [oEq_ii, decide_eq_false]
    intro e
    have := rat_eq s
    rw [e] at this
    refine sm (this.trans ?_)
    have := den_ne s
    grind
end
end Mn.N1

set_option Elab.async false
set_option linter.all false
set_option maxRecDepth 100000
set_option autoImplicit false
set_option maxHeartbeats 4000000
set_option exponentiation.threshold 100
namespace Mn.N1
open PySem WK Lin
section
variable {ns : List Int} {M W : Nat} {x4 x5 x6 x7 x8 x9 x10 x11 x12 x13 x14 x15 x16 : Option SV} {m : MM}
theorem lay_str_one : (PyData.str "one").canLay0 = true ∧ (PyData.str "one").depth ≤ 64 := by decide +kernel
theorem lay_str_many : (PyData.str "many").canLay0 = true ∧ (PyData.str "many").depth ≤ 64 := by decide +kernel
theorem chk_some {rows : List (List Rat)} {rights F : List Rat} {c d : Nat} (hm : okM m) (h : Rw rows M W) (hM1 : 1 ≤ M) (hM : M ≤ 4) (hW1 : 1 ≤ W) (hW : W ≤ 4) (hrl : rights.length = M)
    (hF : F.length = W) (hFs : ∀ q ∈ F, Sz 1696 q) (hs : ∀ i, i < M → (S W fun j => tabF rows i j * F.getD j 0) = rights.getD i 0) (hcd : c = d) :
    s_chk (sl ns M W x4 x5 (some (.d (eTT rows))) x7 (some (.d (eT rights))) (some (.d (.tuple [.str (if d = W then "one" else "many"), eT F]))) (some (.d (.int (c : Nat)))) x11 x12 x13 x14 x15 x16) m =
      .nx (sl ns M W x4 x5 (some (.d (eTT rows))) x7 (some (.d (eT rights))) (some (.d (.tuple [.str (if d = W then "one" else "many"), eT F]))) (some (.d (.int (c : Nat)))) x11 x12 x13 x14 x15 x16) m := by
  subst hcd
  have tm : m__law_times [.d (eTT rows), .d (eT F)] m = .ok (.d (.list (rights.map eQ))) m := by
    rw [times_ok (rows := rows) (pt := F) (B := 6) (C := 1696) (n := W) hm rfl rfl h.len hF (by rw [h.cnt, cap_eq]; omega) (by rw [cap_eq]; omega) h.sz hFs (by omega)]
    have e : (rows.map fun r => eQ (S W fun j => r.getD j 0 * F.getD j 0)) = rights.map eQ := by
      refine List.ext_getElem (by rw [List.length_map, List.length_map, h.cnt, hrl]) fun i h1 h2 => ?_
      rw [List.getElem_map, List.getElem_map]
      rw [List.length_map] at h1 h2
      have := hs i (by rw [← h.cnt]; exact h1)
      rw [getD_of (List.getElem?_eq_getElem h2)] at this
      rw [← this]
      congr 1
      refine S_congr W fun j hj => ?_
      unfold tabF
      rw [getD_of (List.getElem?_eq_getElem h1)]
    rw [e]
  have ix0 : ∀ (s : PyData) (mm : MM), oIx (.d (.tuple [s, eT F])) (.d (.int 0)) mm = .ok (.d s) mm := fun s mm => oIx_t0
  have ix1 : ∀ (s : PyData) (mm : MM), oIx (.d (.tuple [s, eT F])) (.d (.int 1)) mm = .ok (.d (eT F)) mm := fun s mm => oIx_t1
  have t2 : ∀ s : PyData, fOr (fTest (fBin oNe (fCall oLen (aCons (fBin oIx (fVar 9) (fC (.int 1))) aNil)) (fVar 3))) (fTest (fBin oNe (fCallD 2 m__law_times (aCons (fVar 6) (aCons (fBin oIx (fVar 9) (fC (.int 1))) aNil))) (fFz (fCallL oList (aCons (fVar 8) aNil))))) (sl ns M W x4 x5 (some (.d (eTT rows))) x7 (some (.d (eT rights))) (some (.d (.tuple [s, eT F]))) (some (.d (.int (c : Nat)))) x11 x12 x13 x14 x15 x16) m = .ok false m := by
    intro s
    rw [or_no (m1 := m)]
    · refine test_ok ((bin_ok (call_ok (acons_ok rfl (acons_ok ((bin_ok rfl rfl).trans (ix1 s m)) rfl)) rfl tm) (fz_ok (ds := rights.map eQ) rfl)).trans (oNe_same (lay_eQs rights).1 (by have := (lay_eQs rights).2; omega)))
    · refine test_ok ((bin_ok ((ctl_ok (acons_ok ((bin_ok rfl rfl).trans (ix1 s m)) rfl)).trans len_eT) rfl).trans ?_)
      rw [hF, oNe_ii]
      simp
  have tq : ∀ s : PyData, fTest (fBin oEq (fVar 10) (fVar 3)) (sl ns M W x4 x5 (some (.d (eTT rows))) x7 (some (.d (eT rights))) (some (.d (.tuple [s, eT F]))) (some (.d (.int (c : Nat)))) x11 x12 x13 x14 x15 x16) m = .ok (decide (((c : Nat) : Int) = (W : Nat))) m := fun s => test_ok ((bin_ok rfl rfl).trans oEq_ii)
  unfold s_chk
  by_cases q : c = W
  · rw [if_pos q]
    have tq := tq (.str "one")
    rw [decide_eq_true (by omega : ((c : Nat) : Int) = (W : Nat))] at tq
    refine if_else (test_ok ((bin_ok ((bin_ok rfl rfl).trans (ix0 _ m)) rfl).trans ((oEq_d (by decide +kernel) (by decide +kernel)).trans (by rw [show PyData.eqv (.str "one") (.str "none") = false from by decide +kernel])))) (if_else (t2 _) (if_else (m1 := m) (test_ok ((bin_ok ((bin_ok rfl rfl).trans (ix0 _ m)) ?_).trans (oNe_same lay_str_one.1 lay_str_one.2))) rfl))
    unfold fIf
    rw [tq]
    rfl
  · rw [if_neg q]
    have tq := tq (.str "many")
    rw [decide_eq_false (by omega : ¬ ((c : Nat) : Int) = (W : Nat))] at tq
    refine if_else (test_ok ((bin_ok ((bin_ok rfl rfl).trans (ix0 _ m)) rfl).trans ((oEq_d (by decide +kernel) (by decide +kernel)).trans (by rw [show PyData.eqv (.str "many") (.str "none") = false from by decide +kernel])))) (if_else (t2 _) (if_else (m1 := m) (test_ok ((bin_ok ((bin_ok rfl rfl).trans (ix0 _ m)) ?_).trans (oNe_same lay_str_many.1 lay_str_many.2))) rfl))
    unfold fIf
    rw [tq]
    rfl
end
theorem solved_chk {ns : List Int} {M W : Nat} {x5 x7 x12 x13 x14 x15 x16 : Option SV} {m : MM} {rows : List (List Rat)} {rights : List Rat} (hm : okM m) (h : Rw rows M W) (hM1 : 1 ≤ M) (hM : M ≤ 4) (hW1 : 1 ≤ W) (hW : W ≤ 4) (hrl : rights.length = M)
    (hrd : ∀ q ∈ rights, q.den ∣ 1728) (hrs : ∀ q ∈ rights, Sz 41 q) :
    ∃ x11, s_chk (sl ns M W (some (.d (.list (rows.map eT)))) x5 (some (.d (eTT rows))) x7 (some (.d (eT rights))) (some (.d (solvedD rows rights W))) (some (.d (.int ((elim (rows.map wholeL) W).dc.length : Nat)))) none x12 x13 x14 x15 x16) m =
      .nx (sl ns M W (some (.d (.list (rows.map eT)))) x5 (some (.d (eTT rows))) x7 (some (.d (eT rights))) (some (.d (solvedD rows rights W))) (some (.d (.int ((elim (rows.map wholeL) W).dc.length : Nat)))) x11 x12 x13 x14 x15 x16) m := by
  have T := h.tab hM1 hM hW1 hW
  have f := h.fine
  obtain ⟨bl, bw⟩ := rowsB_len T hrl
  have fb : Fine (rowsB rows rights) 40 1728 := ⟨by decide, by decide, fun r hr q hq => by
    rcases rowsB_mem hr hq with ⟨t, ht, hq⟩ | hq
    · exact f.den t ht q hq
    · exact hrd q hq, fun r hr q hq => by
    rcases rowsB_mem hr hq with ⟨t, ht, hq⟩ | hq
    · exact f.sz t ht q hq
    · exact hrs q hq⟩
  have A := aug_ok bl bw fb.L0 fb.den
  have I := elim_inv A.len W
  have bd := aug_bd (k := M) fb.L0 fb.L1 fb.den fb.sz
  have ebd := elim_bd A.len bd W
  have bmono : bnd (40 + 1 + 64) W ≤ 1695 := Nat.le_trans (bnd_mono hW) (by decide)
  -- the table beside the right sides
  have tf : ∀ i j, i < M → j < W → tabF (rowsB rows rights) i j = tabF rows i j := fun i j hi hj => by
    unfold tabF rowsB
    have h1 : i < rows.length := by rw [h.cnt]; exact hi
    have h2 : i < rights.length := by omega
    rw [getD_of (show (List.zipWith (fun r b => r ++ [b]) rows rights)[i]? = some (rows[i] ++ [rights[i]]) by rw [List.getElem?_zipWith, List.getElem?_eq_getElem h1, List.getElem?_eq_getElem h2]), getD_of (List.getElem?_eq_getElem h1)]
    have := h.len _ (List.getElem_mem h1)
    rw [List.getD_eq_getElem?_getD, List.getElem?_append_left (by omega), ← List.getD_eq_getElem?_getD]
  have tr : ∀ i, i < M → tabF (rowsB rows rights) i W = rights.getD i 0 := fun i hi => by
    unfold tabF rowsB
    have h1 : i < rows.length := by rw [h.cnt]; exact hi
    have h2 : i < rights.length := by omega
    rw [getD_of (show (List.zipWith (fun r b => r ++ [b]) rows rights)[i]? = some (rows[i] ++ [rights[i]]) by rw [List.getElem?_zipWith, List.getElem?_eq_getElem h1, List.getElem?_eq_getElem h2]), getD_of (List.getElem?_eq_getElem h2)]
    have := h.len _ (List.getElem_mem h1)
    rw [List.getD_eq_getElem?_getD, List.getElem?_append_right (by omega), this, Nat.sub_self]
    rfl
  -- as many columns as without the right sides
  have R1 : Rep (tabF rows) M W (rows.map wholeL) := rep_whole h.cnt h.len f.L0 f.den
  have R2 : Rep (tabF rows) M W (augL (rowsB rows rights) M) := ⟨A.cnt, fun i hi => by
    obtain ⟨low, h0, g1, _⟩ := A.ex i hi
    exact ⟨low, h0, fun j hj => by rw [g1 j (by omega), tf i j hi hj]⟩⟩
  have ce := rep_cols R1 R2 (N := W) (N' := W + 1 + M) (fun r hr => by
    obtain ⟨t, ht, rfl⟩ := List.mem_map.mp hr
    rw [whole_len, h.len t ht]) A.len (Nat.le_refl W) (by omega)
  have cl : (elim (rows.map wholeL) W).dc.length = (elim (augL (rowsB rows rights) M) W).dc.length := by
    have := congrArg List.length ce
    rw [List.length_map, List.length_map] at this
    exact this
  unfold solvedD
  rw [h.cnt]
  have no := @none_ok _ _ _ _ A
  have so := @some_ok _ _ _ _ A
  generalize elim (augL (rowsB rows rights) M) W = e at *
  cases hn : noneOf W e.left with
  | some r =>
    rw [solvedE_none hn]
    have hr := List.mem_of_find?_eq_some hn
    have h0 := List.find?_some hn
    obtain ⟨n1, n2⟩ := no hr (of_decide_eq_true h0)
    exact ⟨_, chk_none hm h hM1 hM hW1 hW hrl hrs (I.ll r hr) ((ebd.2 r hr).mono bmono) (fun j hj => (S_congr M fun i hi => by rw [tf i j hi hj]).trans (n1 j hj)) (fun z => n2 ((S_congr M fun i hi => by rw [tr i hi]).trans z))⟩
  | none =>
    rw [solvedE_some hn]
    have fl : (foundL e.dc W (List.replicate W 0)).length = W := by rw [found_len, List.length_replicate]
    obtain ⟨f1, f2⟩ := found_at (n := W) e.dc (List.replicate W 0) I.sorted fun q hq => by
      rw [List.length_replicate]
      exact I.lt q hq
    have hz : ∀ r ∈ e.left, r.getD W 0 = 0 := fun r hr => by
      have := List.find?_eq_none.mp hn r hr
      simpa using this
    have rep0 : ∀ j, (List.replicate W (0 : Rat)).getD j 0 = 0 := fun j => by
      rw [List.getD_eq_getElem?_getD, List.getElem?_replicate]
      split <;> rfl
    refine ⟨none, chk_some hm h hM1 hM hW1 hW hrl fl (fun q hq => ?_) (fun i hi => ?_) cl⟩
    · obtain ⟨j, hj, e1⟩ := List.mem_iff_getElem.mp hq
      have e2 : (foundL e.dc W (List.replicate W 0)).getD j 0 = q := by rw [getD_of (List.getElem?_eq_getElem hj), e1]
      by_cases hp : ∃ s ∈ e.dc, s.2 = j
      · obtain ⟨s, hs, rfl⟩ := hp
        rw [← e2, f1 s hs, at_div]
        exact (sz_div (I.own s hs) (getD_lt (ebd.1 s hs) W) (getD_lt (ebd.1 s hs) s.2)).mono (by omega)
      · rw [← e2, f2 j fun s hs e => hp ⟨s, hs, e⟩, rep0]
        exact sz_zero
    · have := so hz (x := fun j => (foundL e.dc W (List.replicate W 0)).getD j 0) (fun q hq => f1 q hq) (fun j hj hq => by
        rw [f2 j hq, rep0]) i hi
      rw [tr i hi] at this
      rw [← this]
      exact S_congr W fun j hj => by rw [tf i j hi hj]
end Mn.N1

set_option Elab.async false
set_option linter.all false
set_option maxRecDepth 100000
set_option autoImplicit false
set_option maxHeartbeats 4000000
set_option exponentiation.threshold 100
namespace Mn.N1
open PySem WK Lin
theorem aug_congr {A B : Nat → Nat → Rat} {m n : Nat} {R : List Row} (h : Aug A m n R) (e : ∀ i j, i < m → j < n → A i j = B i j) : Aug B m n R := ⟨h.cnt, h.len, fun i hi => by
  obtain ⟨low, h0, g1, g2⟩ := h.ex i hi
  exact ⟨low, h0, fun j hj => by rw [g1 j hj, e i j hi hj], g2⟩⟩
theorem whole_lens {rows : List (List Rat)} {M W : Nat} (h : Rw rows M W) : ∀ r ∈ rows.map wholeL, r.length = W := fun r hr => by
  obtain ⟨t, ht, rfl⟩ := List.mem_map.mp hr
  rw [whole_len, h.len t ht]
theorem rank_aug {rows : List (List Rat)} {M W : Nat} (h : Rw rows M W) : (elim (rows.map wholeL) W).dc.length = (elim (augL rows M) W).dc.length := by
  have f := h.fine
  have A := aug_ok h.cnt h.len f.L0 f.den
  have := congrArg List.length (rep_cols (rep_whole h.cnt h.len f.L0 f.den) A.rep (whole_lens h) A.len (Nat.le_refl W) (by omega))
  rw [List.length_map, List.length_map] at this
  exact this
theorem rank_trans {rows : List (List Rat)} {M W : Nat} (h : Rw rows M W) : (elim ((transL rows W).map wholeL) M).dc.length = (elim (rows.map wholeL) W).dc.length := by
  have f := h.fine
  have T := h.trans
  have g := T.fine
  have A := aug_ok h.cnt h.len f.L0 f.den
  have B := aug_ok T.cnt T.len g.L0 g.den
  have e : ∀ i j, i < W → j < M → tabF (transL rows W) i j = tabF rows j i := fun i j hi hj => trans_tab hi (by rw [h.cnt]; exact hj)
  have h1 := rank_T (rep_whole h.cnt h.len f.L0 f.den) (whole_lens h) (Nat.le_refl W) (aug_congr B e)
  have h2 := rank_T (rep_whole T.cnt T.len g.L0 g.den) (whole_lens T) (Nat.le_refl M) (aug_congr A fun i j hi hj => (e j i hj hi).symm)
  have r1 := rank_aug h
  have r2 := rank_aug T
  omega
theorem inv_len {e : El} {n N : Nat} {R : List Row} (I : Lin.Inv (n + n) R n e) : (invT e n).length = e.dc.length ∧ ∀ r ∈ invT e n, r.length = n := by
  unfold invT
  refine ⟨List.length_map .., fun r hr => ?_⟩
  obtain ⟨q, hq, rfl⟩ := List.mem_map.mp hr
  rw [List.length_map, List.length_drop, I.ld q hq]
  omega
section
variable {ns : List Int} {M W : Nat} {x4 x5 x6 x7 x8 x9 x10 x11 x12 x13 x14 x15 x16 : Option SV} {m : MM}
def s_loop : SF :=
  (sSeq (sSet 15 (fFz (fComp (iRange1 (aCons (fVar 2) aNil)) (gN 22) [22] tYesF (fIf (fTest (fBin oEq (fVar 22) (fVar 14))) (fTup (aCons (fC (.int 1)) (aCons (fC (.int 1)) aNil))) (fTup (aCons (fC (.int 0)) (aCons (fC (.int 1)) aNil)))))))
  (sIf (fAnd (fTest (fBin oNotN (fVar 13) (fC .none))) (fTest (fBin oNe (fCallD 2 m__law_times (aCons (fVar 12) (aCons (fFz (fComp (iSeq (fVar 13)) (gN 20) [20] tYesF (fBin oIx (fVar 20) (fVar 14)))) aNil))) (fVar 15))))
  (sRet (fC (.bool false)))
  sPass))
theorem loop_ok {sq : List (List Rat)} {t : Nat} (hm : okM m) (h : Rw sq M M) (hM1 : 1 ≤ M) (hM : M ≤ 4) (ht : t < M) :
    s_loop (sl ns M W x4 x5 x6 x7 x8 x9 x10 x11 (some (.d (eTT sq))) (some (.d (invD (elim (augL sq M) M) M))) (some (.d (.int (t : Nat)))) x15 x16) m =
      .nx (sl ns M W x4 x5 x6 x7 x8 x9 x10 x11 (some (.d (eTT sq))) (some (.d (invD (elim (augL sq M) M) M))) (some (.d (.int (t : Nat)))) (some (.d (.list ((unitL M t).map eQ)))) x16) m := by
  have f := h.fine
  have A := aug_ok h.cnt h.len f.L0 f.den
  have I := elim_inv A.len M
  have bd := aug_bd (k := M) f.L0 f.L1 f.den f.sz
  have ebd := elim_bd A.len bd M
  have bmono : bnd (40 + 1 + 64) M ≤ 1695 := Nat.le_trans (bnd_mono hM) (by decide)
  have io := @inv_ok _ _ _ A
  unfold s_loop
  refine step_set (x := .d (.list ((unitL M t).map eQ))) (m1 := m) (ρ1 := sl ns M W x4 x5 x6 x7 x8 x9 x10 x11 (some (.d (eTT sq))) (some (.d (invD (elim (augL sq M) M) M))) (some (.d (.int (t : Nat)))) (some (.d (.list ((unitL M t).map eQ)))) x16) ?_ rfl ?_
  · have c := fz_compN (i := 22) (own := [22]) (fe := fIf (fTest (fBin oEq (fVar 22) (fVar 14))) (fTup (aCons (fC (.int 1)) (aCons (fC (.int 1)) aNil))) (fTup (aCons (fC (.int 0)) (aCons (fC (.int 1)) aNil)))) (ρ := sl ns M W x4 x5 x6 x7 x8 x9 x10 x11 (some (.d (eTT sq))) (some (.d (invD (elim (augL sq M) M) M))) (some (.d (.int (t : Nat)))) x15 x16) (m := m) (fi := iRange1 (aCons (fVar 2) aNil))
      (xs := List.range M) (enc := fun j => PyData.int (j : Nat)) (g := fun j => eQ (if j = t then 1 else 0)) (range_ok rfl (by omega)) (by rw [List.length_range, cap_eq]; omega) fun j hj => by
        have tt : fTest (fBin oEq (fVar 22) (fVar 14)) ((wipeS (sl ns M W x4 x5 x6 x7 x8 x9 x10 x11 (some (.d (eTT sq))) (some (.d (invD (elim (augL sq M) M) M))) (some (.d (.int (t : Nat)))) x15 x16) [22]).set 22 (some (.d (.int (j : Nat))))) m = .ok (decide (((j : Nat) : Int) = (t : Nat))) m := test_ok ((bin_ok rfl rfl).trans oEq_ii)
        unfold fIf
        rw [tt, bind_ok]
        by_cases q : j = t
        · rw [decide_eq_true (by omega : ((j : Nat) : Int) = (t : Nat)), if_pos rfl, if_pos q, eQ1]
          exact fTup_2 (m1 := m) (a := .int 1) (b := .int 1) rfl
        · rw [decide_eq_false (by omega : ¬ ((j : Nat) : Int) = (t : Nat)), if_neg q, eQ0]
          exact fTup_2 (m1 := m) (a := .int 0) (b := .int 1) rfl
    rw [c]
    unfold unitL
    rw [List.map_map]
    rfl
  · generalize elim (augL sq M) M = e at *
    obtain ⟨vl, vr⟩ := inv_len (N := 0) I
    unfold invD
    by_cases q : e.dc.length < M
    · rw [if_pos q]
      exact if_else (m1 := m) (and_no (m1 := m) (test_ok rfl)) rfl
    · rw [if_neg q]
      have dcM : e.dc.length = M := by
        have := (dc_le I A.cnt).1
        omega
      obtain ⟨hcols, hinv⟩ := io dcM
      refine if_else (m1 := m) ((and_yes (m1 := m) (test_ok rfl)).trans ?_) rfl
      have c := fz_compN (i := 20) (own := [20]) (fe := fBin oIx (fVar 20) (fVar 14)) (ρ := sl ns M W x4 x5 x6 x7 x8 x9 x10 x11 (some (.d (eTT sq))) (some (.d (eTT (invT e M)))) (some (.d (.int (t : Nat)))) (some (.d (.list ((unitL M t).map eQ)))) x16) (m := m) (fi := iSeq (fVar 13))
        (xs := invT e M) (enc := eT) (g := fun r => eQ (r.getD t 0)) (iSeq_ok (x := eTT (invT e M)) rfl rfl) (by rw [vl, dcM, cap_eq]; omega) fun r hr => by
          have hl := vr r hr
          refine (bin_ok rfl rfl).trans (oIx_tup (k := t) ?_)
          rw [List.getElem?_map, List.getElem?_eq_getElem (by omega), getD_of (List.getElem?_eq_getElem (by omega : t < r.length))]
          rfl
      have cm : (invT e M).map (fun r => eQ (r.getD t 0)) = ((invT e M).map fun r => r.getD t 0).map eQ := by
        rw [List.map_map]
        rfl
      rw [cm] at c
      have cl : ((invT e M).map fun r => r.getD t 0).length = M := by rw [List.length_map, vl, dcM]
      have vat : ∀ q ∈ e.dc, ∀ t, t < M → ((invT e M).getD q.2 []).getD t 0 = at_ q.1 (M + t) / at_ q.1 q.2 := fun q hq t ht => by
        obtain ⟨i, hi, rfl⟩ := List.mem_iff_getElem.mp hq
        have e1 : e.dc[i].2 = i := by
          have h1 : (e.dc.map (·.2))[i]? = some e.dc[i].2 := by rw [List.getElem?_map, List.getElem?_eq_getElem hi]; rfl
          rw [hcols, List.getElem?_range (by omega)] at h1
          exact (Option.some.inj h1).symm
        rw [e1]
        unfold invT
        rw [getD_map' (List.getElem?_eq_getElem hi), e1]
        have hd : e.dc[i].1.length = M + M := I.ld _ hq
        rw [List.getD_eq_getElem?_getD, List.getElem?_map, List.getElem?_drop, List.getElem?_eq_getElem (by omega)]
        unfold at_
        rw [getD_of (List.getElem?_eq_getElem (by omega : M + t < e.dc[i].1.length))]
        rfl
      have cs : ∀ q ∈ ((invT e M).map fun r => r.getD t 0), Sz 1696 q := fun q hq => by
        obtain ⟨r, hr, rfl⟩ := List.mem_map.mp hq
        obtain ⟨p, hp, rfl⟩ := List.mem_map.mp hr
        have hd : p.1.length = M + M := I.ld _ hp
        rw [List.getD_eq_getElem?_getD, List.getElem?_map, List.getElem?_drop, List.getElem?_eq_getElem (by omega)]
        exact (sz_div (I.own p hp) (ebd.1 p hp _ (List.getElem_mem _)) (getD_lt (ebd.1 p hp) p.2)).mono (by omega)
      have tm : m__law_times [.d (eTT sq), .d (.list (((invT e M).map fun r => r.getD t 0).map eQ))] m = .ok (.d (.list ((unitL M t).map eQ))) m := by
        rw [times_ok (rows := sq) (pt := (invT e M).map fun r => r.getD t 0) (B := 6) (C := 1696) (n := M) hm rfl rfl h.len cl (by rw [h.cnt, cap_eq]; omega) (by rw [cap_eq]; omega) h.sz cs (by omega)]
        have e1 : (sq.map fun r => eQ (S M fun j => r.getD j 0 * ((invT e M).map fun r => r.getD t 0).getD j 0)) = (unitL M t).map eQ := by
          unfold unitL
          rw [List.map_map]
          refine List.ext_getElem (by rw [List.length_map, List.length_map, h.cnt, List.length_range]) fun i h1 h2 => ?_
          rw [List.getElem_map, List.getElem_map, List.getElem_range]
          rw [List.length_map] at h1
          have hv := hinv (fun k t => ((invT e M).getD k []).getD t 0) vat i t (by rw [← h.cnt]; exact h1) ht
          show eQ _ = eQ (if i = t then 1 else 0)
          rw [← hv]
          congr 1
          refine S_congr M fun j hj => ?_
          have hj2 : j < (invT e M).length := by omega
          unfold tabF
          rw [getD_of (List.getElem?_eq_getElem h1), getD_map' (List.getElem?_eq_getElem hj2), getD_of (List.getElem?_eq_getElem hj2)]
        rw [e1]
      exact test_ok ((bin_ok (call_ok (acons_ok rfl (acons_ok c rfl)) rfl tm) rfl).trans (oNe_same (lay_eQs _).1 (by have := (lay_eQs (unitL M t)).2; omega)))
theorem none_test {sq : List (List Rat)} (hm : okM m) (h : Rw sq M M) (hM1 : 1 ≤ M) (hM : M ≤ 4) :
    fTest (fBin oNe (fBin oIsN (fVar 13) (fC .none)) (fBin oLt (fCallD 1 m_rank (aCons (fVar 12) aNil)) (fVar 2))) (sl ns M W x4 x5 x6 x7 x8 x9 x10 x11 (some (.d (eTT sq))) (some (.d (invD (elim (augL sq M) M) M))) x14 x15 x16) m = .ok false m := by
  have rk := rank_ok hm (h.tab hM1 hM hM1 hM) h.fine (Nat.lt_of_le_of_lt (bnd_mono hM) (by decide)) (by decide)
  have f1 : fBin oLt (fCallD 1 m_rank (aCons (fVar 12) aNil)) (fVar 2) (sl ns M W x4 x5 x6 x7 x8 x9 x10 x11 (some (.d (eTT sq))) (some (.d (invD (elim (augL sq M) M) M))) x14 x15 x16) m = .ok (.d (.bool (decide ((((elim (augL sq M) M).dc.length : Nat) : Int) < (M : Nat))))) m := by
    rw [← rank_aug h]
    exact (bin_ok (call_ok (m1 := m) (xs := [.d (eTT sq)]) rfl rfl rk) rfl).trans oLt_ii
  generalize elim (augL sq M) M = e at *
  have f2 : fBin oIsN (fVar 13) (fC .none) (sl ns M W x4 x5 x6 x7 x8 x9 x10 x11 (some (.d (eTT sq))) (some (.d (invD e M))) x14 x15 x16) m = .ok (.d (.bool (decide (((e.dc.length : Nat) : Int) < (M : Nat))))) m := by
    unfold invD
    by_cases q : e.dc.length < M
    · rw [if_pos q, decide_eq_true (by omega : ((e.dc.length : Nat) : Int) < (M : Nat))]
      rfl
    · rw [if_neg q, decide_eq_false (by omega : ¬ ((e.dc.length : Nat) : Int) < (M : Nat))]
      rfl
  exact test_ok ((bin_ok f2 f1).trans (oNe_same rfl (by show 0 ≤ 64; omega)))
end
end Mn.N1

set_option Elab.async false
set_option linter.all false
set_option maxRecDepth 100000
set_option autoImplicit false
set_option maxHeartbeats 4000000
set_option exponentiation.threshold 100
namespace Mn.N1
open PySem WK Lin
theorem okM_rows {x : MO} {rows : List (List Rat)} (h : SD x) : okM (x :: [.lst (rows.map fun r => .d (eT r))]) := trivial
theorem okM_gone {x : MO} (h : SD x) : okM (x :: [.gone]) := trivial
theorem okM_one {x : MO} (h : SD x) : okM (x :: []) := trivial
theorem frz_ok {i n : Nat} {b : SF} {ρ : SE} {m : MM} {α : Type} {xs : List α} {g : α → PyData} {r : RS} (hi : ρ[i]? = some (some (.o n))) (h : m[n]? = some (.lst (xs.map fun x => .d (g x)))) (k : b (ρ.set i (some (.d (.list (xs.map g))))) (m.set n .gone) = r) : sFrz i b ρ m = r := by
  unfold sFrz
  rw [hi]
  dsimp only
  rw [h]
  dsimp only
  rw [datas_mapd]
  exact k
theorem draws_gen {fi : IF} {v i : Nat} {own : List Nat} {ρ : SE} {t : MM} {m : MM} {k : Int} {ds : List PyData} (hi : fi ρ m = .ok ds m) (hn : ds.length ≤ cap) (p : PD t m) (hk : 1 ≤ k) (hk2 : k ≤ 3)
    (hv : ∀ d, ((wipeS ρ own).set i (some (.d d)))[v]? = some (some (.o 0))) :
    ∃ (qs : List Rat) (m' : MM), fFz (fComp fi (gN i) own tYesF (fCallD 2 m__law_ratio (aCons (fVar v) (aCons (fC (.int k)) aNil)))) ρ m = .ok (.d (.list (qs.map eQ))) m' ∧ qs.length = ds.length ∧ (∀ q ∈ qs, Dr q) ∧ PD t m' := by
  exact fz_state (tg := gN i) (own := own) (fe := fCallD 2 m__law_ratio (aCons (fVar v) (aCons (fC (.int k)) aNil))) (enc := eQ) (Q := Dr) (P := PD t) hi hn p fun d hd m ⟨x, sd, om, em⟩ => by
    subst em
    obtain ⟨q, x', s', o', hq, e⟩ := draw_ok sd om hk hk2
    refine ⟨_, rfl, q, x' :: t, call_ok (xs := [.o 0, .d (.int k)]) (acons_ok ?_ rfl) rfl e, hq, x', s', o', rfl⟩
    unfold fVar
    rw [hv d]
def s_end : SF := (sTry 16 "BadTable" (sExpr (fCallD 1 m_rank (aCons (fCallD 2 m__law_pick (aCons (fVar 1) (aCons (fFz (fLst (aCons (fTup aNil) (aCons (fTup (aCons (fTup aNil) aNil)) (aCons (fTup (aCons (fTup (aCons (fTup (aCons (fC (.int 1)) (aCons (fC (.int 1)) aNil))) aNil)) (aCons (fTup (aCons (fTup (aCons (fC (.int 1)) (aCons (fC (.int 1)) aNil))) (aCons (fTup (aCons (fC (.int 1)) (aCons (fC (.int 2)) aNil))) aNil))) aNil))) (aCons (fTup (aCons (fTup (aCons (fTup (aCons (fC (.int 2)) (aCons (fC (.int 2)) aNil))) aNil)) aNil)) (aCons (fFz (fLst (aCons (fTup (aCons (fTup (aCons (fC (.int 1)) (aCons (fC (.int 1)) aNil))) aNil)) aNil))) (aCons (fTup (aCons (fTup (aCons (fTup (aCons (fC (.bool true)) (aCons (fC (.int 1)) aNil))) aNil)) aNil)) aNil)))))))) aNil))) aNil)))
  (sRet (fC (.bool true))))
theorem pick_ok' {x : MO} {t : MM} (hx : SD x) (ht : okM (x :: t)) : ∃ (j : Nat) (d : PyData) (x' : MO), bads[j]? = some d ∧ SD x' ∧ okM (x' :: t) ∧ m__law_pick [.o 0, .d (.list bads)] (x :: t) = .ok (.d d) (x' :: t) := by
  obtain ⟨v, x', s', o', v0, v1, e⟩ := taken_ok (k := 6) hx ht (by decide) (by decide)
  obtain ⟨j, rfl⟩ := Int.eq_ofNat_of_zero_le v0
  have hj : j < bads.length := by
    have : bads.length = 6 := rfl
    omega
  refine ⟨j, bads[j], x', List.getElem?_eq_getElem hj, s', o', ?_⟩
  have e1 : s__law_pick [some (.o 0), some (.d (.list bads))] (x :: t) = .rt (.d bads[j]) (x' :: t) := by
    unfold s__law_pick
    exact ret_ok ((bin_ok rfl (call_ok (xs := [.o 0, .d (.int 6)]) (m1 := x :: t) (acons_ok rfl (acons_ok ((ctl_ok (acons_ok rfl rfl)).trans oLen_l) rfl)) rfl e)).trans (oIx_list (List.getElem?_eq_getElem hj)))
  unfold m__law_pick
  rw [def_rt (s := s__law_pick) (ρ := [some (.o 0), some (.d (.list bads))]) rfl e1]
  exact trim_len o' rfl
theorem end_ok {ns : List Int} {M W : Nat} {x4 x5 x6 x7 x8 x9 x10 x11 x12 x13 x14 x15 x16 : Option SV} {x : MO} {t : MM} (hx : SD x) (ht : okM (x :: t)) :
    ∃ m', s_end (sl ns M W x4 x5 x6 x7 x8 x9 x10 x11 x12 x13 x14 x15 x16) (x :: t) = .rt (.d (.bool true)) m' := by
  obtain ⟨j, d, x', hd, s', o', e⟩ := pick_ok' hx ht
  refine ⟨x' :: t, ?_⟩
  have l : fFz (fLst (aCons (fTup aNil) (aCons (fTup (aCons (fTup aNil) aNil)) (aCons (fTup (aCons (fTup (aCons (fTup (aCons (fC (.int 1)) (aCons (fC (.int 1)) aNil))) aNil)) (aCons (fTup (aCons (fTup (aCons (fC (.int 1)) (aCons (fC (.int 1)) aNil))) (aCons (fTup (aCons (fC (.int 1)) (aCons (fC (.int 2)) aNil))) aNil))) aNil))) (aCons (fTup (aCons (fTup (aCons (fTup (aCons (fC (.int 2)) (aCons (fC (.int 2)) aNil))) aNil)) aNil)) (aCons (fFz (fLst (aCons (fTup (aCons (fTup (aCons (fC (.int 1)) (aCons (fC (.int 1)) aNil))) aNil)) aNil))) (aCons (fTup (aCons (fTup (aCons (fTup (aCons (fC (.bool true)) (aCons (fC (.int 1)) aNil))) aNil)) aNil)) aNil))))))) (sl ns M W x4 x5 x6 x7 x8 x9 x10 x11 x12 x13 x14 x15 x16) (x :: t) = .ok (.d (.list bads)) (x :: t) := rfl
  unfold s_end
  exact try_rt (expr_err (call_err (acons_ok (call_ok (acons_ok rfl (acons_ok l rfl)) rfl e) rfl) rfl (bads_ok o' hd))) rfl
theorem dr_rw {rows : List (List Rat)} {M W : Nat} (h1 : rows.length = M) (h2 : ∀ r ∈ rows, r.length = W ∧ ∀ q ∈ r, Dr q) : Rw rows M W :=
  ⟨h1, fun r hr => (h2 r hr).1, fun r hr q hq => Nat.dvd_trans ((h2 r hr).2 q hq).1 (by decide), fun r hr q hq => ((h2 r hr).2 q hq).2.mono (by decide)⟩
theorem table_draws {ns : List Int} {M W : Nat} {x4 x5 x6 x7 x8 x9 x10 x11 x12 x13 x14 x15 x16 : Option SV} {v : Nat} {t : MM} {m : MM} {n : Nat} (hn : n ≤ 4) (hM : M ≤ 4) (p : PD t m)
    (hv : ∀ (d : PyData) (m : MM), aCons (fVar v) aNil ((wipeS (sl ns M W x4 x5 x6 x7 x8 x9 x10 x11 x12 x13 x14 x15 x16) [17]).set 17 (some (.d d))) m = .ok [.d (.int (n : Nat))] m) :
    ∃ (rows : List (List Rat)) (m' : MM), compS (gN 17) [17] tYesF (fCall oTuple (aCons (fFz (fComp (iRange1 (aCons (fVar v) aNil)) (gN 18) [18] tYesF (fCallD 2 m__law_ratio (aCons (fVar 1) (aCons (fC (.int 3)) aNil))))) aNil)) (sl ns M W x4 x5 x6 x7 x8 x9 x10 x11 x12 x13 x14 x15 x16) ((List.range M).map fun i => PyData.int (i : Nat)) m =
      .ok (rows.map fun r => .d (eT r)) m' ∧ rows.length = M ∧ (∀ r ∈ rows, r.length = n ∧ ∀ q ∈ r, Dr q) ∧ PD t m' := by
  obtain ⟨rows, m', e, hl, hq, p'⟩ := comp_state (tg := gN 17) (own := [17]) (fe := fCall oTuple (aCons (fFz (fComp (iRange1 (aCons (fVar v) aNil)) (gN 18) [18] tYesF (fCallD 2 m__law_ratio (aCons (fVar 1) (aCons (fC (.int 3)) aNil))))) aNil)) (ρ := sl ns M W x4 x5 x6 x7 x8 x9 x10 x11 x12 x13 x14 x15 x16)
    (P := PD t) (enc := eT) (Q := fun r => r.length = n ∧ ∀ q ∈ r, Dr q) ((List.range M).map fun i => PyData.int (i : Nat)) m p fun d hd m p => by
      obtain ⟨qs, m', e, hl, hq, p'⟩ := draws_ok (v := 1) (i := 18) (own := [18]) (k := 3) (n := n) (fi := iRange1 (aCons (fVar v) aNil)) (ρ := (wipeS (sl ns M W x4 x5 x6 x7 x8 x9 x10 x11 x12 x13 x14 x15 x16) [17]).set 17 (some (.d d))) (fk := fVar 0) (range_ok (hv d m) (by omega)) (by rw [cap_eq]; omega) p (by decide) (by decide) (fun d => rfl)
      refine ⟨_, rfl, qs, m', ?_, ⟨hl, hq⟩, p'⟩
      rw [ctl_ok (acons_ok e rfl), oTuple_l]
      rfl
  rw [List.length_map, List.length_range] at hl
  exact ⟨rows, m', e, hl, hq, p'⟩
end Mn.N1

set_option Elab.async false
set_option linter.all false
set_option maxRecDepth 100000
set_option autoImplicit false
set_option maxHeartbeats 4000000
set_option exponentiation.threshold 100
namespace Mn.N1
open PySem WK Lin
theorem comp_l {fi : IF} {tg : GF} {own : List Nat} {ft : TF} {fe : EF} {ρ : SE} {m m1 m2 : MM} {ds : List PyData} {ys : List SV} (hi : fi ρ m = .ok ds m1) (hc : ds.length ≤ cap) (h : compS tg own ft fe ρ ds m1 = .ok ys m2) : fComp fi tg own ft fe ρ m = .ok ys m2 := by
  unfold fComp
  rw [hi, bind_ok, if_pos hc, h]
theorem comp_fz {fi : IF} {tg : GF} {own : List Nat} {ft : TF} {fe : EF} {ρ : SE} {m m1 m2 : MM} {ds : List PyData} {α : Type} {xs : List α} {g : α → PyData} (hi : fi ρ m = .ok ds m1) (hc : ds.length ≤ cap) (h : compS tg own ft fe ρ ds m1 = .ok (xs.map fun x => .d (g x)) m2) : fFz (fComp fi tg own ft fe) ρ m = .ok (.d (.list (xs.map g))) m2 := by
  unfold fFz
  rw [comp_l hi hc h, bind_ok, datas_mapd]
def s_half : SF :=
  (sSeq (sIf (fTest (fBin oNe (fCallD 1 m_rank (aCons (fCall oTuple (aCons (fFz (fComp (iRange1 (aCons (fVar 3) aNil)) (gN 14) [14] tYesF (fCall oTuple (aCons (fFz (fComp (iSeq (fVar 4)) (gN 20) [20] tYesF (fBin oIx (fVar 20) (fVar 14)))) aNil)))) aNil)) aNil)) (fVar 10)))
  (sRet (fC (.bool false)))
  sPass)
  (sSeq (sSet 12 (fCall oTuple (aCons (fFz (fComp (iRange1 (aCons (fVar 2) aNil)) (gN 17) [17] tYesF (fCall oTuple (aCons (fFz (fComp (iRange1 (aCons (fVar 2) aNil)) (gN 18) [18] tYesF (fCallD 2 m__law_ratio (aCons (fVar 1) (aCons (fC (.int 3)) aNil))))) aNil)))) aNil)))
  (sSeq (sSet 13 (fCallD 1 m_inverse (aCons (fVar 12) aNil)))
  (sSeq (sIf (fTest (fBin oNe (fBin oIsN (fVar 13) (fC .none)) (fBin oLt (fCallD 1 m_rank (aCons (fVar 12) aNil)) (fVar 2))))
  (sRet (fC (.bool false)))
  sPass)
  (sSeq (sFor [15] (iRange1 (aCons (fVar 2) aNil)) (gN 14) s_loop)
  (sSeq s_end
  (sRet (fC (.bool false)))))))))
theorem half_ok {ns : List Int} {M W : Nat} {x5 x6 x7 x8 x9 x11 x12 x13 x14 x15 x16 : Option SV} {rows : List (List Rat)} {x : MO} (hx : SD x) (h : Rw rows M W) (hM1 : 1 ≤ M) (hM : M ≤ 4) (hW1 : 1 ≤ W) (hW : W ≤ 4) :
    ∃ m', s_half (sl ns M W (some (.d (.list (rows.map eT)))) x5 x6 x7 x8 x9 (some (.d (.int ((elim (rows.map wholeL) W).dc.length : Nat)))) x11 x12 x13 x14 x15 x16) (x :: [.gone]) = .rt (.d (.bool true)) m' := by
  have om := okM_gone hx
  have T := h.trans
  -- the rank of the transposed
  have rk := rank_ok om (T.tab hW1 hW hM1 hM) T.fine (Nat.lt_of_le_of_lt (bnd_mono hM) (by decide)) (by decide)
  rw [rank_trans h] at rk
  have t1 : fTest (fBin oNe (fCallD 1 m_rank (aCons (fCall oTuple (aCons (fFz (fComp (iRange1 (aCons (fVar 3) aNil)) (gN 14) [14] tYesF (fCall oTuple (aCons (fFz (fComp (iSeq (fVar 4)) (gN 20) [20] tYesF (fBin oIx (fVar 20) (fVar 14)))) aNil)))) aNil)) aNil)) (fVar 10)) (sl ns M W (some (.d (.list (rows.map eT)))) x5 x6 x7 x8 x9 (some (.d (.int ((elim (rows.map wholeL) W).dc.length : Nat)))) x11 x12 x13 x14 x15 x16) (x :: [.gone]) = .ok false (x :: [.gone]) := by
    refine test_ok ((bin_ok (call_ok (acons_ok ((ctl_ok (acons_ok (trans_ok h hM hW) rfl)).trans oTuple_l) rfl) rfl rk) rfl).trans ?_)
    rw [oNe_ii]
    simp
  -- the square
  obtain ⟨sq, m1, e1, hl, hq, ⟨x1, s1, o1, em⟩⟩ := table_draws (ns := ns) (M := M) (W := W) (x4 := some (.d (.list (rows.map eT)))) (x5 := x5) (x6 := x6) (x7 := x7) (x8 := x8) (x9 := x9) (x10 := some (.d (.int ((elim (rows.map wholeL) W).dc.length : Nat)))) (x11 := x11) (x12 := x12) (x13 := x13) (x14 := x14) (x15 := x15) (x16 := x16) (v := 2) (t := [.gone]) (m := x :: [.gone]) (n := M) hM hM ⟨x, hx, om, rfl⟩ fun d m => rfl
  subst em
  have hs := dr_rw hl hq
  have e2 : fCall oTuple (aCons (fFz (fComp (iRange1 (aCons (fVar 2) aNil)) (gN 17) [17] tYesF (fCall oTuple (aCons (fFz (fComp (iRange1 (aCons (fVar 2) aNil)) (gN 18) [18] tYesF (fCallD 2 m__law_ratio (aCons (fVar 1) (aCons (fC (.int 3)) aNil))))) aNil)))) aNil) (sl ns M W (some (.d (.list (rows.map eT)))) x5 x6 x7 x8 x9 (some (.d (.int ((elim (rows.map wholeL) W).dc.length : Nat)))) x11 x12 x13 x14 x15 x16) (x :: [.gone]) = .ok (.d (eTT sq)) (x1 :: [.gone]) := by
    have f : fFz (fComp (iRange1 (aCons (fVar 2) aNil)) (gN 17) [17] tYesF (fCall oTuple (aCons (fFz (fComp (iRange1 (aCons (fVar 2) aNil)) (gN 18) [18] tYesF (fCallD 2 m__law_ratio (aCons (fVar 1) (aCons (fC (.int 3)) aNil))))) aNil))) (sl ns M W (some (.d (.list (rows.map eT)))) x5 x6 x7 x8 x9 (some (.d (.int ((elim (rows.map wholeL) W).dc.length : Nat)))) x11 x12 x13 x14 x15 x16) (x :: [.gone]) = .ok (.d (.list (sq.map eT))) (x1 :: [.gone]) := by
      exact comp_fz (range_ok (k := M) (m1 := x :: [.gone]) rfl (by omega)) (by rw [List.length_map, List.length_range, cap_eq]; omega) e1
    rw [ctl_ok (acons_ok f rfl), oTuple_l]
    rfl
  have iv := inverse_ok o1 (hs.tab hM1 hM hM1 hM) hs.fine (Nat.lt_of_le_of_lt (bnd_mono hM) (by decide)) (by decide)
  -- the loop
  obtain ⟨ρ', m', el, em, x14', x15', eρ⟩ := for_inv (cl := [15]) (tg := gN 14) (body := s_loop) (enc := fun i => PyData.int (i : Nat)) (fun k ρ m' => m' = x1 :: [.gone] ∧ ∃ x14 x15, ρ = sl ns M W (some (.d (.list (rows.map eT)))) x5 x6 x7 x8 x9 (some (.d (.int ((elim (rows.map wholeL) W).dc.length : Nat)))) x11 (some (.d (eTT sq))) (some (.d (invD (elim (augL sq M) M) M))) x14 x15 x16) (List.range M) 0 (sl ns M W (some (.d (.list (rows.map eT)))) x5 x6 x7 x8 x9 (some (.d (.int ((elim (rows.map wholeL) W).dc.length : Nat)))) x11 (some (.d (eTT sq))) (some (.d (invD (elim (augL sq M) M) M))) x14 x15 x16) (x1 :: [.gone])
    ⟨rfl, x14, x15, rfl⟩ fun i y ρ m' hy ⟨em, x14, x15, eρ⟩ => by
      subst em
      subst eρ
      obtain ⟨hi, ey⟩ := List.getElem?_eq_some_iff.mp hy
      rw [List.length_range] at hi
      rw [List.getElem_range] at ey
      subst ey
      exact ⟨_, rfl, _, _, .inl (loop_ok o1 hs hM1 hM hi), tidy_same, some (.d (.int (i : Nat))), none, rfl⟩
  subst em
  subst eρ
  obtain ⟨m2, e3⟩ := end_ok (ns := ns) (M := M) (W := W) (x4 := some (.d (.list (rows.map eT)))) (x5 := x5) (x6 := x6) (x7 := x7) (x8 := x8) (x9 := x9) (x10 := some (.d (.int ((elim (rows.map wholeL) W).dc.length : Nat)))) (x11 := x11) (x12 := some (.d (eTT sq))) (x13 := some (.d (invD (elim (augL sq M) M) M))) (x14 := x14') (x15 := x15') (x16 := x16) s1 o1
  refine ⟨m2, ?_⟩
  unfold s_half
  exact step_nx (if_else t1 rfl) (step_set e2 rfl (step_set (call_ok (m1 := x1 :: [.gone]) (xs := [.d (eTT sq)]) rfl rfl iv) rfl (step_nx (if_else (none_test o1 hs hM1 hM) rfl) (step_nx (for_ok (range_ok rfl (by omega)) el) (seq_rt e3)))))

theorem sd_start (ns : List Int) : SD (row4 ns 0 7101 0) := ⟨ns, 0, 7101, 0, rfl, by decide, by decide, by decide⟩
theorem law_N01_true : TrueAt m_law_N01 := by
  intro ns hns
  -- the row
  have st1 : sSet 1 (fOwn (fLst (aCons (fVar 0) (aCons (fC (.int 0)) (aCons (fC (.int 7101)) (aCons (fC (.int 0)) aNil)))))) [some (.k (ns.map .int)), none, none, none, none, none, none, none, none, none, none, none, none, none, none, none, none, none, none, none, none, none, none] [] =
      .nx [some (.k (ns.map .int)), some (.o 0), none, none, none, none, none, none, none, none, none, none, none, none, none, none, none, none, none, none, none, none, none] (row4 ns 0 7101 0 :: []) :=
    set_nx (own_ok (lst_ok (xs := [.k (ns.map .int), .d (.int 0), .d (.int 7101), .d (.int 0)]) (m1 := []) rfl (by show 4 ≤ 10000; omega)))
  -- many, width
  obtain ⟨a, y1, s1, o1, a0, a1, e1⟩ := taken_ok (k := 4) (sd_start ns) (okM_one (sd_start ns)) (by decide) (by decide)
  obtain ⟨b, y2, s2, o2, b0, b1, e2⟩ := taken_ok (k := 4) s1 o1 (by decide) (by decide)
  obtain ⟨M, hM⟩ : ∃ M : Nat, (1 + a : Int) = (M : Nat) := ⟨(1 + a).toNat, by omega⟩
  obtain ⟨W, hW⟩ : ∃ W : Nat, (1 + b : Int) = (W : Nat) := ⟨(1 + b).toNat, by omega⟩
  have hM1 : 1 ≤ M := by omega
  have hM4 : M ≤ 4 := by omega
  have hW1 : 1 ≤ W := by omega
  have hW4 : W ≤ 4 := by omega
  have st2 : sPar2 2 3 (aCons (fBin oAddU (fC (.int 1)) (fCallD 2 m__law_taken (aCons (fVar 1) (aCons (fC (.int 4)) aNil)))) (aCons (fBin oAddU (fC (.int 1)) (fCallD 2 m__law_taken (aCons (fVar 1) (aCons (fC (.int 4)) aNil)))) aNil)) [some (.k (ns.map .int)), some (.o 0), none, none, none, none, none, none, none, none, none, none, none, none, none, none, none, none, none, none, none, none, none] (row4 ns 0 7101 0 :: []) =
      .nx (sl ns M W none none none none none none none none none none none none none) (y2 :: []) := by
    have f1 : fBin oAddU (fC (.int 1)) (fCallD 2 m__law_taken (aCons (fVar 1) (aCons (fC (.int 4)) aNil))) [some (.k (ns.map .int)), some (.o 0), none, none, none, none, none, none, none, none, none, none, none, none, none, none, none, none, none, none, none, none, none] (row4 ns 0 7101 0 :: []) = .ok (.d (.int (M : Nat))) (y1 :: []) := by
      rw [← hM]
      exact (bin_ok rfl (call_ok (xs := [.o 0, .d (.int 4)]) (m1 := row4 ns 0 7101 0 :: []) rfl rfl e1)).trans oAddU_ii
    have f2 : fBin oAddU (fC (.int 1)) (fCallD 2 m__law_taken (aCons (fVar 1) (aCons (fC (.int 4)) aNil))) [some (.k (ns.map .int)), some (.o 0), none, none, none, none, none, none, none, none, none, none, none, none, none, none, none, none, none, none, none, none, none] (y1 :: []) = .ok (.d (.int (W : Nat))) (y2 :: []) := by
      rw [← hW]
      exact (bin_ok rfl (call_ok (xs := [.o 0, .d (.int 4)]) (m1 := y1 :: []) rfl rfl e2)).trans oAddU_ii
    exact par2_ok (acons_ok f1 (acons_ok f2 rfl)) rfl
  -- the rows
  obtain ⟨rows0, m3, e3, l3, q3, ⟨y3, s3, o3, em3⟩⟩ := table_draws (ns := ns) (M := M) (W := W) (x4 := none) (x5 := none) (x6 := none) (x7 := none) (x8 := none) (x9 := none) (x10 := none) (x11 := none) (x12 := none) (x13 := none) (x14 := none) (x15 := none) (x16 := none) (v := 3) (t := []) (m := y2 :: []) (n := W) hW4 hM4 ⟨y2, s2, o2, rfl⟩ fun d m => rfl
  subst em3
  have st3 : sSet 4 (fOwn (fComp (iRange1 (aCons (fVar 2) aNil)) (gN 17) [17] tYesF (fCall oTuple (aCons (fFz (fComp (iRange1 (aCons (fVar 3) aNil)) (gN 18) [18] tYesF (fCallD 2 m__law_ratio (aCons (fVar 1) (aCons (fC (.int 3)) aNil))))) aNil)))) (sl ns M W none none none none none none none none none none none none none) (y2 :: []) =
      .nx (sl ns M W (some (.o 1)) none none none none none none none none none none none none) (y3 :: [.lst (rows0.map fun r => .d (eT r))]) :=
    set_nx (own_ok (comp_l (range_ok (k := M) (m1 := y2 :: []) rfl (by omega)) (by rw [List.length_map, List.length_range, cap_eq]; omega) e3))
  have w0 := dr_rw l3 q3
  -- one row may be a multiple of another
  have st4 : ∃ (rows : List (List Rat)) (y : MO) (z : Option SV), Rw rows M W ∧ SD y ∧
      (sIf (fAnd (fTest (fBin oGt (fVar 2) (fC (.int 1)))) (fTest (fBin oEq (fCallD 2 m__law_taken (aCons (fVar 1) (aCons (fC (.int 2)) aNil))) (fC (.int 0)))))
  (sSeq (sSet 5 (fCallD 2 m__law_ratio (aCons (fVar 1) (aCons (fC (.int 2)) aNil))))
  (sPut (fVar 4) (fC (.int 0)) (fCall oTuple (aCons (fFz (fComp (iSeq (fBin oIx (fVar 4) (fC (.int 1)))) (gN 19) [19] tYesF (fCallD 2 m__law_mul (aCons (fVar 5) (aCons (fVar 19) aNil))))) aNil))))
  sPass) (sl ns M W (some (.o 1)) none none none none none none none none none none none none) (y3 :: [.lst (rows0.map fun r => .d (eT r))]) =
        .nx (sl ns M W (some (.o 1)) z none none none none none none none none none none none) (y :: [.lst (rows.map fun r => .d (eT r))]) := by
    have t1 : fTest (fBin oGt (fVar 2) (fC (.int 1))) (sl ns M W (some (.o 1)) none none none none none none none none none none none none) (y3 :: [.lst (rows0.map fun r => .d (eT r))]) = .ok (decide (1 < (M : Int))) (y3 :: [.lst (rows0.map fun r => .d (eT r))]) := test_ok ((bin_ok rfl rfl).trans oGt_ii)
    by_cases q : 1 < M
    · rw [decide_eq_true (by omega : 1 < (M : Int))] at t1
      obtain ⟨v, y4, s4, o4, v0, v1, e4⟩ := taken_ok (k := 2) (t := [.lst (rows0.map fun r => .d (eT r))]) s3 (okM_rows s3) (by decide) (by decide)
      have t2 : fTest (fBin oEq (fCallD 2 m__law_taken (aCons (fVar 1) (aCons (fC (.int 2)) aNil))) (fC (.int 0))) (sl ns M W (some (.o 1)) none none none none none none none none none none none none) (y3 :: [.lst (rows0.map fun r => .d (eT r))]) = .ok (decide (v = 0)) (y4 :: [.lst (rows0.map fun r => .d (eT r))]) :=
        test_ok ((bin_ok (call_ok (xs := [.o 0, .d (.int 2)]) (m1 := y3 :: [.lst (rows0.map fun r => .d (eT r))]) rfl rfl e4) rfl).trans oEq_ii)
      by_cases qv : v = 0
      · rw [decide_eq_true qv] at t2
        obtain ⟨part, y5, s5, o5, dr, e5⟩ := draw_ok (k := 2) (t := [.lst (rows0.map fun r => .d (eT r))]) s4 (okM_rows s4) (by decide) (by decide)
        have h1 : 1 < rows0.length := by omega
        have hm1 := List.getElem_mem h1
        have r1 : rows0[1]? = some rows0[1] := List.getElem?_eq_getElem h1
        generalize rows0[1] = r at *
        obtain ⟨rl, rd⟩ := q3 r hm1
        have g1 : fBin oIx (fVar 4) (fC (.int 1)) (sl ns M W (some (.o 1)) (some (.d (eQ part))) none none none none none none none none none none none) (y5 :: [.lst (rows0.map fun r => .d (eT r))]) = .ok (.d (eT r)) (y5 :: [.lst (rows0.map fun r => .d (eT r))]) :=
          (bin_ok rfl rfl).trans (oIx_o (k := 1) (n := 1) rfl (by rw [List.getElem?_map, r1]; rfl))
        have g2 := fz_compN (i := 19) (own := [19]) (fe := fCallD 2 m__law_mul (aCons (fVar 5) (aCons (fVar 19) aNil))) (ρ := sl ns M W (some (.o 1)) (some (.d (eQ part))) none none none none none none none none none none none) (m := y5 :: [.lst (rows0.map fun r => .d (eT r))]) (xs := r) (enc := eQ) (g := fun q => eQ (part * q)) (iSeq_ok g1 rfl) (by rw [rl, cap_eq]; omega) fun q hq =>
          call_ok (m1 := y5 :: [.lst (rows0.map fun r => .d (eT r))]) (xs := [.d (eQ part), .d (eQ q)]) rfl rfl (mul_ok (okM_rows s5) dr.2 (rd q hq).2 (by decide))
        have g3 : (r.map fun q => eQ (part * q)) = (r.map fun q => part * q).map eQ := by
          rw [List.map_map]
          rfl
        rw [g3] at g2
        refine ⟨rows0.set 0 (r.map fun q => part * q), y5, some (.d (eQ part)), ⟨by rw [List.length_set, l3], fun t ht => ?_, fun t ht q hq => ?_, fun t ht q hq => ?_⟩, s5, ?_⟩
        · rcases List.mem_or_eq_of_mem_set ht with ht | rfl
          · exact w0.len t ht
          · rw [List.length_map, rl]
        · rcases List.mem_or_eq_of_mem_set ht with ht | rfl
          · exact w0.den t ht q hq
          · obtain ⟨p, hp, rfl⟩ := List.mem_map.mp hq
            exact den_mulL (L := 12) (M := 12) (by decide) (by decide) dr.1 (rd p hp).1
        · rcases List.mem_or_eq_of_mem_set ht with ht | rfl
          · exact w0.sz t ht q hq
          · obtain ⟨p, hp, rfl⟩ := List.mem_map.mp hq
            exact sz_mul dr.2 (rd p hp).2
        · refine if_then ((and_yes t1).trans t2) (step_set (x := .d (eQ part)) (m1 := y5 :: [.lst (rows0.map fun r => .d (eT r))]) (call_ok (xs := [.o 0, .d (.int 2)]) (m1 := y4 :: [.lst (rows0.map fun r => .d (eT r))]) rfl rfl e5) rfl ?_)
          refine (put_ok (n := 1) (k := 0) (y := .d (eT (r.map fun q => part * q))) (m1 := y5 :: [.lst (rows0.map fun r => .d (eT r))]) (xs := rows0.map fun r => .d (eT r)) ?_ rfl rfl rfl (by rw [List.length_map]; omega)).trans ?_
          · exact (ctl_ok (acons_ok g2 rfl)).trans oTuple_l
          · rw [List.map_set]
            rfl
      · rw [decide_eq_false qv] at t2
        exact ⟨rows0, y4, none, w0, s4, if_else ((and_yes t1).trans t2) rfl⟩
    · rw [decide_eq_false (by omega : ¬ 1 < (M : Int))] at t1
      exact ⟨rows0, y3, none, w0, s3, if_else (and_no t1) rfl⟩
  obtain ⟨rows, y, z5, w, sy, st4⟩ := st4
  -- table, point
  obtain ⟨pt, m5, e5, l5, q5, ⟨y6, s6, o6, em5⟩⟩ := draws_ok (v := 1) (i := 18) (own := [18]) (k := 3) (n := W) (fi := iRange1 (aCons (fVar 3) aNil)) (ρ := sl ns M W (some (.d (.list (rows.map eT)))) z5 none none none none none none none none none none none) (t := [.gone]) (m := y :: [.gone]) (fk := fVar 0) (range_ok rfl (by omega)) (by rw [cap_eq]; omega) ⟨y, sy, okM_gone sy, rfl⟩ (by decide) (by decide) (fun d => rfl)
  subst em5
  have st5 : sPar2 6 7 (aCons (fCall oTuple (aCons (fVar 4) aNil)) (aCons (fFz (fComp (iRange1 (aCons (fVar 3) aNil)) (gN 18) [18] tYesF (fCallD 2 m__law_ratio (aCons (fVar 1) (aCons (fC (.int 3)) aNil))))) aNil)) (sl ns M W (some (.d (.list (rows.map eT)))) z5 none none none none none none none none none none none) (y :: [.gone]) =
      .nx (sl ns M W (some (.d (.list (rows.map eT)))) z5 (some (.d (eTT rows))) (some (.d (.list (pt.map eQ)))) none none none none none none none none none) (y6 :: [.gone]) :=
    par2_ok (acons_ok ((ctl_ok (acons_ok rfl rfl)).trans oTuple_l) (acons_ok e5 rfl)) rfl
  -- the right sides
  have st6 : ∃ (rights : List Rat) (y7 : MO), SD y7 ∧ rights.length = M ∧ (∀ q ∈ rights, q.den ∣ 1728) ∧ (∀ q ∈ rights, Sz 41 q) ∧
      sSet 8 (fCall oTuple (aCons (fIf (fTest (fBin oEq (fCallD 2 m__law_taken (aCons (fVar 1) (aCons (fC (.int 2)) aNil))) (fC (.int 0)))) (fCallD 2 m__law_times (aCons (fVar 6) (aCons (fVar 7) aNil))) (fFz (fComp (iSeq (fVar 4)) (gN 20) [20] tYesF (fCallD 2 m__law_ratio (aCons (fVar 1) (aCons (fC (.int 3)) aNil)))))) aNil)) (sl ns M W (some (.d (.list (rows.map eT)))) z5 (some (.d (eTT rows))) (some (.d (.list (pt.map eQ)))) none none none none none none none none none) (y6 :: [.gone]) =
        .nx (sl ns M W (some (.d (.list (rows.map eT)))) z5 (some (.d (eTT rows))) (some (.d (.list (pt.map eQ)))) (some (.d (eT rights))) none none none none none none none none) (y7 :: [.gone]) := by
    obtain ⟨v, y7, s7, o7, v0, v1, e7⟩ := taken_ok (k := 2) (t := [.gone]) s6 (okM_gone s6) (by decide) (by decide)
    have t2 : fTest (fBin oEq (fCallD 2 m__law_taken (aCons (fVar 1) (aCons (fC (.int 2)) aNil))) (fC (.int 0))) (sl ns M W (some (.d (.list (rows.map eT)))) z5 (some (.d (eTT rows))) (some (.d (.list (pt.map eQ)))) none none none none none none none none none) (y6 :: [.gone]) = .ok (decide (v = 0)) (y7 :: [.gone]) :=
      test_ok ((bin_ok (call_ok (xs := [.o 0, .d (.int 2)]) (m1 := y6 :: [.gone]) rfl rfl e7) rfl).trans oEq_ii)
    by_cases qv : v = 0
    · rw [decide_eq_true qv] at t2
      have tm := times_ok (rows := rows) (pt := pt) (x := eTT rows) (y := .list (pt.map eQ)) (B := 6) (C := 3) (n := W) (m := y7 :: [.gone]) (okM_gone s7) rfl rfl w.len l5 (by rw [w.cnt, cap_eq]; omega) (by rw [cap_eq]; omega) w.sz (fun q hq => (q5 q hq).2) (by omega)
      have tl : (rows.map fun r => eQ (S W fun j => r.getD j 0 * pt.getD j 0)) = (rows.map fun r => S W fun j => r.getD j 0 * pt.getD j 0).map eQ := by
        rw [List.map_map]
        rfl
      rw [tl] at tm
      refine ⟨rows.map fun r => S W fun j => r.getD j 0 * pt.getD j 0, y7, s7, by rw [List.length_map, w.cnt], fun q hq => ?_, fun q hq => ?_, ?_⟩
      · obtain ⟨r, hr, rfl⟩ := List.mem_map.mp hq
        refine den_S (by decide) W fun j hj => ?_
        have j1 : j < r.length := by rw [w.len r hr]; exact hj
        have j2 : j < pt.length := by omega
        rw [getD_of (List.getElem?_eq_getElem j1), getD_of (List.getElem?_eq_getElem j2)]
        exact den_mulL (L := 144) (M := 12) (by decide) (by decide) (w.den r hr _ (List.getElem_mem j1)) (q5 _ (List.getElem_mem j2)).1
      · obtain ⟨r, hr, rfl⟩ := List.mem_map.mp hq
        refine (sz_sum (B := 9) W fun j hj => ?_).mono (by omega)
        have j1 : j < r.length := by rw [w.len r hr]; exact hj
        have j2 : j < pt.length := by omega
        rw [getD_of (List.getElem?_eq_getElem j1), getD_of (List.getElem?_eq_getElem j2)]
        exact sz_mul (w.sz r hr _ (List.getElem_mem j1)) (q5 _ (List.getElem_mem j2)).2
      · refine (set_nx (x := .d (eT (rows.map fun r => S W fun j => r.getD j 0 * pt.getD j 0))) (m1 := y7 :: [.gone]) ?_).trans rfl
        refine (ctl_ok (acons_ok (x := .d (.list ((rows.map fun r => S W fun j => r.getD j 0 * pt.getD j 0).map eQ))) (m1 := y7 :: [.gone]) ?_ rfl)).trans oTuple_l
        unfold fIf
        rw [t2, bind_ok, if_pos rfl]
        exact call_ok (xs := [.d (eTT rows), .d (.list (pt.map eQ))]) (m1 := y7 :: [.gone]) rfl rfl tm
    · rw [decide_eq_false qv] at t2
      obtain ⟨qs, m8, e8, l8, q8, ⟨y8, s8, o8, em8⟩⟩ := draws_gen (v := 1) (i := 20) (own := [20]) (k := 3) (fi := iSeq (fVar 4)) (ρ := sl ns M W (some (.d (.list (rows.map eT)))) z5 (some (.d (eTT rows))) (some (.d (.list (pt.map eQ)))) none none none none none none none none none) (t := [.gone]) (m := y7 :: [.gone]) (ds := rows.map eT) (iSeq_ok (x := .list (rows.map eT)) rfl rfl) (by rw [List.length_map, w.cnt, cap_eq]; omega) ⟨y7, s7, o7, rfl⟩ (by decide) (by decide) (fun d => rfl)
      subst em8
      refine ⟨qs, y8, s8, by rw [l8, List.length_map, w.cnt], fun q hq => Nat.dvd_trans (q8 q hq).1 (by decide), fun q hq => (q8 q hq).2.mono (by decide), ?_⟩
      refine (set_nx (x := .d (eT qs)) (m1 := y8 :: [.gone]) ?_).trans rfl
      refine (ctl_ok (acons_ok (x := .d (.list (qs.map eQ))) (m1 := y8 :: [.gone]) ?_ rfl)).trans oTuple_l
      unfold fIf
      rw [t2, bind_ok, if_neg (by decide)]
      exact e8
  obtain ⟨rights, y7, s7, rl, rdn, rsz, st6⟩ := st6
  have om := okM_gone s7
  have T := w.tab hM1 hM4 hW1 hW4
  have hb : bnd (40 + 1 + 64) W < 8999 := Nat.lt_of_le_of_lt (bnd_mono hW4) (by decide)
  have sv := solved_ok om T rl w.fine ⟨by decide, by decide, fun r hr q hq => rdn q (List.mem_singleton.mp hr ▸ hq), fun r hr q hq => rsz q (List.mem_singleton.mp hr ▸ hq)⟩ hb (by decide)
  have rk := rank_ok om T w.fine hb (by decide)
  have st7 : sPar2 9 10 (aCons (fCallD 2 m_solved (aCons (fVar 6) (aCons (fVar 8) aNil))) (aCons (fCallD 1 m_rank (aCons (fVar 6) aNil)) aNil)) (sl ns M W (some (.d (.list (rows.map eT)))) z5 (some (.d (eTT rows))) (some (.d (.list (pt.map eQ)))) (some (.d (eT rights))) none none none none none none none none) (y7 :: [.gone]) =
      .nx (sl ns M W (some (.d (.list (rows.map eT)))) z5 (some (.d (eTT rows))) (some (.d (.list (pt.map eQ)))) (some (.d (eT rights))) (some (.d (solvedD rows rights W))) (some (.d (.int ((elim (rows.map wholeL) W).dc.length : Nat)))) none none none none none none) (y7 :: [.gone]) :=
    par2_ok (acons_ok (call_ok (xs := [.d (eTT rows), .d (eT rights)]) (m1 := y7 :: [.gone]) rfl rfl sv) (acons_ok (call_ok (xs := [.d (eTT rows)]) (m1 := y7 :: [.gone]) rfl rfl rk) rfl)) rfl
  obtain ⟨c1, c2⟩ := dc_le (elim_inv (whole_lens w) W) (by rw [List.length_map, w.cnt])
  obtain ⟨x11, st8⟩ := solved_chk (ns := ns) (x5 := z5) (x7 := some (.d (.list (pt.map eQ)))) (x12 := none) (x13 := none) (x14 := none) (x15 := none) (x16 := none) om w hM1 hM4 hW1 hW4 rl rdn rsz
  obtain ⟨m9, st9⟩ := half_ok (ns := ns) (x5 := z5) (x6 := some (.d (eTT rows))) (x7 := some (.d (.list (pt.map eQ)))) (x8 := some (.d (eT rights))) (x9 := some (.d (solvedD rows rights W))) (x11 := x11) (x12 := none) (x13 := none) (x14 := none) (x15 := none) (x16 := none) s7 w hM1 hM4 hW1 hW4
  have fin : s_law_N01 [some (.k (ns.map .int)), none, none, none, none, none, none, none, none, none, none, none, none, none, none, none, none, none, none, none, none, none, none] [] = .rt (.d (.bool true)) m9 := by
    unfold s_law_N01
    exact step_nx st1 (step_nx st2 (step_nx st3 (step_nx st4 (frz_ok (xs := rows) (g := eT) (n := 1) rfl rfl (step_nx st5 (step_nx st6 (step_nx st7 (step_nx (if_else (count_no c1 c2) rfl) (step_nx st8 st9)))))))))
  unfold m_law_N01
  rw [def_rt (s := s_law_N01) (ρ := [some (.k (ns.map .int)), none, none, none, none, none, none, none, none, none, none, none, none, none, none, none, none, none, none, none, none, none, none]) rfl fin]
  unfold trim
  split
  · exact ⟨_, rfl⟩
  · exact ⟨_, rfl⟩
end Mn.N1

namespace Mn
open WK
theorem law_N01_true : TrueAt m_law_N01 := N1.law_N01_true
end Mn

set_option Elab.async false
set_option linter.all false
set_option maxRecDepth 100000
set_option autoImplicit false
set_option maxHeartbeats 4000000
namespace N01
open PySem PySem.Spec PyProof.Rows L2 WK Mn


def topS (i : Nat) : Stmt := PySem.Challenge.pw_wattkeep_k01_whole_systems.main.body.getD i (.Pass ⟨0, 0, 0, 0⟩)
abbrev st_is_integer : Stmt := topS 7
theorem sc_is_integer : FnScope ["value"] ["value"] (defScope st_is_integer) := ⟨rfl, rfl, rfl, by decide +kernel, rfl, by decide +kernel, by decide +kernel⟩
abbrev st_is_ratio : Stmt := topS 8
theorem sc_is_ratio : FnScope ["value", "top", "low"] ["value"] (defScope st_is_ratio) := ⟨rfl, rfl, rfl, by decide +kernel, rfl, by decide +kernel, by decide +kernel⟩
abbrev st_are_ratios : Stmt := topS 9
theorem sc_are_ratios : FnScope ["value", "count", "part"] ["value", "count"] (defScope st_are_ratios) := ⟨rfl, rfl, rfl, by decide +kernel, rfl, by decide +kernel, by decide +kernel⟩
abbrev st_ratio : Stmt := topS 10
theorem sc_ratio : FnScope ["top", "low", "shared"] ["top", "low"] (defScope st_ratio) := ⟨rfl, rfl, rfl, by decide +kernel, rfl, by decide +kernel, by decide +kernel⟩
abbrev st_unit : Stmt := topS 11
theorem sc_unit : FnScope ["count", "place", "at"] ["count", "place"] (defScope st_unit) := ⟨rfl, rfl, rfl, by decide +kernel, rfl, by decide +kernel, by decide +kernel⟩
abbrev st_whole : Stmt := topS 12
theorem sc_whole : FnScope ["row", "low", "part"] ["row"] (defScope st_whole) := ⟨rfl, rfl, rfl, by decide +kernel, rfl, by decide +kernel, by decide +kernel⟩
abbrev st_slim : Stmt := topS 13
theorem sc_slim : FnScope ["numbers", "shared", "number"] ["numbers"] (defScope st_slim) := ⟨rfl, rfl, rfl, by decide +kernel, rfl, by decide +kernel, by decide +kernel⟩
abbrev st_is_table : Stmt := topS 16
theorem sc_is_table : FnScope ["value", "row"] ["value"] (defScope st_is_table) := ⟨rfl, rfl, rfl, by decide +kernel, rfl, by decide +kernel, by decide +kernel⟩
abbrev st_check_table : Stmt := topS 17
theorem sc_check_table : FnScope ["rows"] ["rows"] (defScope st_check_table) := ⟨rfl, rfl, rfl, by decide +kernel, rfl, by decide +kernel, by decide +kernel⟩
abbrev st_cleared : Stmt := topS 18
theorem sc_cleared : FnScope ["row", "pivot", "col", "shared", "up", "down", "part", "other"] ["row", "pivot", "col"] (defScope st_cleared) := ⟨rfl, rfl, rfl, by decide +kernel, rfl, by decide +kernel, by decide +kernel⟩
abbrev st_eliminated : Stmt := topS 19
theorem sc_eliminated : FnScope ["rows", "width", "done", "left", "columns", "col", "at", "pivot", "others", "row"] ["rows", "width"] (defScope st_eliminated) := ⟨rfl, rfl, rfl, by decide +kernel, rfl, by decide +kernel, by decide +kernel⟩
abbrev st_beside_units : Stmt := topS 20
theorem sc_beside_units : FnScope ["rows", "at", "row"] ["rows"] (defScope st_beside_units) := ⟨rfl, rfl, rfl, by decide +kernel, rfl, by decide +kernel, by decide +kernel⟩
abbrev st_rank : Stmt := topS 21
theorem sc_rank : FnScope ["rows", "columns", "row"] ["rows"] (defScope st_rank) := ⟨rfl, rfl, rfl, by decide +kernel, rfl, by decide +kernel, by decide +kernel⟩
abbrev st_worked : Stmt := topS 22
theorem sc_worked : FnScope ["rows", "rights", "width", "row", "right"] ["rows", "rights", "width"] (defScope st_worked) := ⟨rfl, rfl, rfl, by decide +kernel, rfl, by decide +kernel, by decide +kernel⟩
abbrev st_refuted : Stmt := topS 23
theorem sc_refuted : FnScope ["left", "width", "row", "part"] ["left", "width"] (defScope st_refuted) := ⟨rfl, rfl, rfl, by decide +kernel, rfl, by decide +kernel, by decide +kernel⟩
abbrev st_solved : Stmt := topS 24
theorem sc_solved : FnScope ["rows", "rights", "width", "done", "left", "columns", "against", "found", "row", "col"] ["rows", "rights"] (defScope st_solved) := ⟨rfl, rfl, rfl, by decide +kernel, rfl, by decide +kernel, by decide +kernel⟩
abbrev st_inverted : Stmt := topS 25
theorem sc_inverted : FnScope ["rows", "width", "done", "_", "columns", "row", "col", "part"] ["rows"] (defScope st_inverted) := ⟨rfl, rfl, rfl, by decide +kernel, rfl, by decide +kernel, by decide +kernel⟩
abbrev st_inverse : Stmt := topS 26
theorem sc_inverse : FnScope ["rows"] ["rows"] (defScope st_inverse) := ⟨rfl, rfl, rfl, by decide +kernel, rfl, by decide +kernel, by decide +kernel⟩
abbrev st__law_taken : Stmt := topS 28
theorem sc__law_taken : FnScope ["row", "many", "found", "cell"] ["row", "many"] (defScope st__law_taken) := ⟨rfl, rfl, rfl, by decide +kernel, rfl, by decide +kernel, by decide +kernel⟩
abbrev st__law_pick : Stmt := topS 29
theorem sc__law_pick : FnScope ["row", "things"] ["row", "things"] (defScope st__law_pick) := ⟨rfl, rfl, rfl, by decide +kernel, rfl, by decide +kernel, by decide +kernel⟩
abbrev st__law_low : Stmt := topS 30
theorem sc__law_low : FnScope ["top", "low", "one", "other"] ["top", "low"] (defScope st__law_low) := ⟨rfl, rfl, rfl, by decide +kernel, rfl, by decide +kernel, by decide +kernel⟩
abbrev st__law_add : Stmt := topS 31
theorem sc__law_add : FnScope ["one", "other"] ["one", "other"] (defScope st__law_add) := ⟨rfl, rfl, rfl, by decide +kernel, rfl, by decide +kernel, by decide +kernel⟩
abbrev st__law_mul : Stmt := topS 32
theorem sc__law_mul : FnScope ["one", "other"] ["one", "other"] (defScope st__law_mul) := ⟨rfl, rfl, rfl, by decide +kernel, rfl, by decide +kernel, by decide +kernel⟩
abbrev st__law_total : Stmt := topS 33
theorem sc__law_total : FnScope ["numbers", "found", "number"] ["numbers"] (defScope st__law_total) := ⟨rfl, rfl, rfl, by decide +kernel, rfl, by decide +kernel, by decide +kernel⟩
abbrev st__law_ratio : Stmt := topS 34
theorem sc__law_ratio : FnScope ["row", "most"] ["row", "most"] (defScope st__law_ratio) := ⟨rfl, rfl, rfl, by decide +kernel, rfl, by decide +kernel, by decide +kernel⟩
abbrev st__law_times : Stmt := topS 35
theorem sc__law_times : FnScope ["rows", "point", "line", "one", "two"] ["rows", "point"] (defScope st__law_times) := ⟨rfl, rfl, rfl, by decide +kernel, rfl, by decide +kernel, by decide +kernel⟩
abbrev st_law : Stmt := topS 36
theorem sc_law : FnScope ["script", "row", "many", "width", "rows", "part", "table", "point", "rights", "told", "count", "sums", "square", "back", "at", "unit_v", "e", "turn", "column", "one", "line", "two", "place"] ["script"] (defScope st_law) := ⟨rfl, rfl, rfl, by decide +kernel, rfl, by decide +kernel, by decide +kernel⟩
structure Txt (K : PySem.W.Frag) (mg : Str → Option Value) where
  f_is_integer : FnT K mg "is_integer" st_is_integer ["value"]
  f_is_ratio : FnT K mg "is_ratio" st_is_ratio ["value"]
  f_are_ratios : FnT K mg "are_ratios" st_are_ratios ["value", "count"]
  f_ratio : FnT K mg "ratio" st_ratio ["top", "low"]
  f_unit : FnT K mg "unit" st_unit ["count", "place"]
  f_whole : FnT K mg "whole" st_whole ["row"]
  f_slim : FnT K mg "slim" st_slim ["numbers"]
  f_is_table : FnT K mg "is_table" st_is_table ["value"]
  f_check_table : FnT K mg "check_table" st_check_table ["rows"]
  f_cleared : FnT K mg "cleared" st_cleared ["row", "pivot", "col"]
  f_eliminated : FnT K mg "eliminated" st_eliminated ["rows", "width"]
  f_beside_units : FnT K mg "beside_units" st_beside_units ["rows"]
  f_rank : FnT K mg "rank" st_rank ["rows"]
  f_worked : FnT K mg "worked" st_worked ["rows", "rights", "width"]
  f_refuted : FnT K mg "refuted" st_refuted ["left", "width"]
  f_solved : FnT K mg "solved" st_solved ["rows", "rights"]
  f_inverted : FnT K mg "inverted" st_inverted ["rows"]
  f_inverse : FnT K mg "inverse" st_inverse ["rows"]
  f__law_taken : FnT K mg "_law_taken" st__law_taken ["row", "many"]
  f__law_pick : FnT K mg "_law_pick" st__law_pick ["row", "things"]
  f__law_low : FnT K mg "_law_low" st__law_low ["top", "low"]
  f__law_add : FnT K mg "_law_add" st__law_add ["one", "other"]
  f__law_mul : FnT K mg "_law_mul" st__law_mul ["one", "other"]
  f__law_total : FnT K mg "_law_total" st__law_total ["numbers"]
  f__law_ratio : FnT K mg "_law_ratio" st__law_ratio ["row", "most"]
  f__law_times : FnT K mg "_law_times" st__law_times ["rows", "point"]
  f_law : FnT K mg "law" st_law ["script"]
  c_BadTable : ExT K mg "BadTable"
  k_MOST : CoT K mg "MOST" (.int 40)
  k_ONE : CoT K mg "ONE" (.tuple [(.int 1), (.int 1)])
  k_ZERO : CoT K mg "ZERO" (.tuple [(.int 0), (.int 1)])
  z_all : mg "all" = none
  z_bool : mg "bool" = none
  z_enumerate : mg "enumerate" = none
  z_gcd : mg "gcd" = (some (.builtin "math.gcd"))
  z_int : mg "int" = none
  z_isinstance : mg "isinstance" = none
  z_lcm : mg "lcm" = (some (.builtin "math.lcm"))
  z_len : mg "len" = none
  z_list : mg "list" = none
  z_max : mg "max" = none
  z_min : mg "min" = none
  z_range : mg "range" = none
  z_tuple : mg "tuple" = none
  z_zip : mg "zip" = none
section
variable {P : Program} {w : World} {K : PySem.W.Frag} {mg : Str → Option Value} {base : Heap}
theorem G_is_integer (T : Txt K mg) : FnS P w K mg base 1 T.f_is_integer.a T.f_is_integer.fd ["value"] m_is_integer :=
  def_ok T.f_is_integer.F sc_is_integer fun cdv A outer sh H E q hpo =>
  (dss_one (by exact (dst_ret (de_andV (de_isi (pe_callB call_isi (by rfl) T.z_isinstance (by decide +kernel) (pa_cons (de_var (pv 0)) (pa_cons (pe_bltn (v := .ty "int") (by rfl) T.z_int (by decide +kernel) rfl) pa_nil)))) (de_one (de_notV (de_isi (pe_callB call_isi (by rfl) T.z_isinstance (by decide +kernel) (pa_cons (de_var (pv 0)) (pa_cons (pe_bltn (v := .ty "bool") (by rfl) T.z_bool (by decide +kernel) rfl) pa_nil))))))))))
theorem G_is_ratio (T : Txt K mg) : FnS P w K mg base 2 T.f_is_ratio.a T.f_is_ratio.fd ["value"] m_is_ratio :=
  def_ok T.f_is_ratio.F sc_is_ratio fun cdv A outer sh H E q hpo =>
  (dss_cons (by exact (dst_if (dt_w (dw_or (dt_not (dt_tru rfl (de_isi (pe_callB call_isi (by rfl) T.z_isinstance (by decide +kernel) (pa_cons (de_var (pv 0)) (pa_cons (pe_bltn (v := .ty "tuple") (by rfl) T.z_tuple (by decide +kernel) rfl) pa_nil)))) (fun _ => rfl))) (dw_or1 (dt_cmp (cmp_ne rfl q.hu) (de_call (pe_callB cr_len (by rfl) T.z_len PySem.boot_len (da_cons (de_var (pv 0)) da_nil rfl)) cd_len) de_int (nomark _)))))
  (dss_one (by exact (dst_ret de_bl)))
  dss_nil))
  (dss_cons (by exact (dst_unp (vs := [1, 2]) (ps_asg (de_var (pv 0)) (pg_tup rfl (pgs_cons (pg_name (i := 1) sc_is_ratio.nd rfl (.inl rfl)) (pgs_cons (pg_name (i := 2) sc_is_ratio.nd rfl (.inl rfl)) pgs_nil)))) (tg_tup (tgs_cons (tg_name (by decide)) (tgs_cons (tg_name (by decide)) tgs_nil)))))
  (dss_one (by exact (dst_ret (de_andV (de_fn q (G_is_integer T) (by decide) (by rfl) T.f_is_integer.g T.f_is_integer.F.kp T.f_is_integer.b (da_cons (de_var (pv 1)) da_nil rfl) (by decide) rfl rfl) (de_andV (de_fn q (G_is_integer T) (by decide) (by rfl) T.f_is_integer.g T.f_is_integer.F.kp T.f_is_integer.b (da_cons (de_var (pv 2)) da_nil rfl) (by decide) rfl rfl) (de_andV (de_cmp cmp_gt (de_var (pv 2)) de_int (nomark _)) (de_one (de_cmp (cmp_eq rfl q.hu) (de_call (pe_callBfun cr_gcd (by rfl) T.z_gcd (da_cons (de_var (pv 1)) (da_cons (de_var (pv 2)) da_nil rfl) rfl)) cd_gcd) de_int (nomark _)))))))))))
theorem G_are_ratios (T : Txt K mg) : FnS P w K mg base 3 T.f_are_ratios.a T.f_are_ratios.fd ["value", "count"] m_are_ratios :=
  def_ok T.f_are_ratios.F sc_are_ratios fun cdv A outer sh H E q hpo =>
  (dss_one (by exact (dst_ret (de_andV (de_isi (pe_callB call_isi (by rfl) T.z_isinstance (by decide +kernel) (pa_cons (de_var (pv 0)) (pa_cons (pe_bltn (v := .ty "tuple") (by rfl) T.z_tuple (by decide +kernel) rfl) pa_nil)))) (de_andV (de_cmp (cmp_eq rfl q.hu) (de_call (pe_callB cr_len (by rfl) T.z_len PySem.boot_len (da_cons (de_var (pv 0)) da_nil rfl)) cd_len) (de_var (pv 1)) (nomark _)) (de_one (de_call (pe_callB (cr_all rfl) (by rfl) T.z_all (by decide +kernel) (da_cons (de_fz (dl_comp (own' := [("part", 2)]) (pe_lc rfl sc_are_ratios.nd (di_seq rfl (de_var (pv 0))) (blkOk_by (own := [("part", 2)]) (by first | (dsimp only [Cx.blk, cxOf, compEnvC, envOfC]; decide +kernel) | exact (by with_unfolding_all rfl))) (fun s1_ H1_ C1_ cl1_ fp1_ => (pg_name (i := 2) sc_are_ratios.nd rfl (by first | exact .inl rfl | exact .inr rfl))) (fun s1_ H1_ C1_ cl1_ fp1_ => dts_nil) (fun s1_ H1_ C1_ cl1_ fp1_ => (de_fn (q.blk s1_ H1_ _ _ fp1_) (G_is_ratio T) (by decide) (by rfl) T.f_is_ratio.g T.f_is_ratio.F.kp T.f_is_ratio.b (da_cons (de_var (pv 2)) da_nil rfl) (by decide) rfl rfl))) (tg_name (by decide)))) da_nil rfl)) cd_all)))))))
theorem G_ratio (T : Txt K mg) : FnS P w K mg base 1 T.f_ratio.a T.f_ratio.fd ["top", "low"] m_ratio :=
  def_ok T.f_ratio.F sc_ratio fun cdv A outer sh H E q hpo =>
  (dss_cons (by exact (dst_set (ps_set (i := 2) sc_ratio.nd rfl (.inl rfl) (de_call (pe_callBfun cr_gcd (by rfl) T.z_gcd (da_cons (de_var (pv 0)) (da_cons (de_var (pv 1)) da_nil rfl) rfl)) cd_gcd))))
  (dss_cons (by exact (dst_if (dt_cmp cmp_lt (de_var (pv 1)) de_int (nomark _))
  (dss_one (by exact (dst_set (ps_set (i := 2) sc_ratio.nd rfl (.inl rfl) (de_neg (de_var (pv 2)))))))
  dss_nil))
  (dss_one (by exact (dst_ret (de_tup (da_cons (de_div (de_var (pv 0)) (de_var (pv 2))) (da_cons (de_div (de_var (pv 1)) (de_var (pv 2))) da_nil rfl) rfl)))))))
theorem G_unit (T : Txt K mg) : FnS P w K mg base 1 T.f_unit.a T.f_unit.fd ["count", "place"] m_unit :=
  def_ok T.f_unit.F sc_unit fun cdv A outer sh H E q hpo =>
  (dss_one (by exact (dst_ret (de_fz (dl_comp (own' := [("at", 2)]) (pe_lc rfl sc_unit.nd (di_range1 (pi_range1 (by rfl) T.z_range (da_cons (de_var (pv 0)) da_nil rfl))) (blkOk_by (own := [("at", 2)]) (by first | (dsimp only [Cx.blk, cxOf, compEnvC, envOfC]; decide +kernel) | exact (by with_unfolding_all rfl))) (fun s1_ H1_ C1_ cl1_ fp1_ => (pg_name (i := 2) sc_unit.nd rfl (by first | exact .inl rfl | exact .inr rfl))) (fun s1_ H1_ C1_ cl1_ fp1_ => dts_nil) (fun s1_ H1_ C1_ cl1_ fp1_ => (de_if (dt_cmp (cmp_eq rfl (q.blk s1_ H1_ _ _ fp1_).hu) (de_var (pv 2)) (de_var (pv 1)) (nomark _)) (de_c (pe_glob (by rfl) T.k_ONE.g T.k_ONE.r) T.k_ONE.l) (de_c (pe_glob (by rfl) T.k_ZERO.g T.k_ZERO.r) T.k_ZERO.l)))) (tg_name (by decide)))))))
theorem G_whole (T : Txt K mg) : FnS P w K mg base 1 T.f_whole.a T.f_whole.fd ["row"] m_whole :=
  def_ok T.f_whole.F sc_whole fun cdv A outer sh H E q hpo =>
  (dss_cons (by exact (dst_set (ps_set (i := 1) sc_whole.nd rfl (.inr rfl) de_int)))
  (dss_cons (by exact (dst_for (cl := []) (vs := [2]) (ps_for hpo rfl (di_seq rfl (de_var (pv 0))) (pg_name (i := 2) sc_whole.nd rfl (.inl rfl))
  (dss_one (by exact (dst_set (ps_set (i := 1) sc_whole.nd rfl (.inr rfl) (de_call (pe_callBfun cr_lcm (by rfl) T.z_lcm (da_cons (de_var (pv 1)) (da_cons (de_ix rfl q.hu (de_var (pv 2)) de_int (fun _ _ => rfl)) da_nil rfl) rfl)) cd_lcm)))))) (tg_name (by decide))))
  (dss_one (by exact (dst_ret (de_tup (da_cons (de_var (pv 1)) (da_cons (de_fz (dl_comp (own' := [("part", 2)]) (pe_lc rfl sc_whole.nd (di_seq rfl (de_var (pv 0))) (blkOk_by (own := [("part", 2)]) (by first | (dsimp only [Cx.blk, cxOf, compEnvC, envOfC]; decide +kernel) | exact (by with_unfolding_all rfl))) (fun s1_ H1_ C1_ cl1_ fp1_ => (pg_name (i := 2) sc_whole.nd rfl (by first | exact .inl rfl | exact .inr rfl))) (fun s1_ H1_ C1_ cl1_ fp1_ => dts_nil) (fun s1_ H1_ C1_ cl1_ fp1_ => (de_mulU rfl (de_ix rfl (q.blk s1_ H1_ _ _ fp1_).hu (de_var (pv 2)) de_int (fun _ _ => rfl)) (de_div (de_var (pv 1)) (de_ix rfl (q.blk s1_ H1_ _ _ fp1_).hu (de_var (pv 2)) de_int (fun _ _ => rfl)))))) (tg_name (by decide)))) da_nil rfl) rfl)))))))
theorem G_slim (T : Txt K mg) : FnS P w K mg base 1 T.f_slim.a T.f_slim.fd ["numbers"] m_slim :=
  def_ok T.f_slim.F sc_slim fun cdv A outer sh H E q hpo =>
  (dss_cons (by exact (dst_set (ps_set (i := 1) sc_slim.nd rfl (.inr rfl) de_int)))
  (dss_cons (by exact (dst_for (cl := []) (vs := [2]) (ps_for hpo rfl (di_seq rfl (de_var (pv 0))) (pg_name (i := 2) sc_slim.nd rfl (.inl rfl))
  (dss_cons (by exact (dst_set (ps_set (i := 1) sc_slim.nd rfl (.inr rfl) (de_call (pe_callBfun cr_gcd (by rfl) T.z_gcd (da_cons (de_var (pv 1)) (da_cons (de_var (pv 2)) da_nil rfl) rfl)) cd_gcd))))
  (dss_one (by exact (dst_if (dt_cmp (cmp_eq rfl q.hu) (de_var (pv 1)) de_int (nomark _))
  (dss_one (by exact (dst_ret (de_var (pv 0)))))
  dss_nil))))) (tg_name (by decide))))
  (dss_cons (by exact (dst_if (dt_cmp (cmp_eq rfl q.hu) (de_var (pv 1)) de_int (nomark _))
  (dss_one (by exact (dst_ret (de_var (pv 0)))))
  dss_nil))
  (dss_one (by exact (dst_ret (de_fz (dl_comp (own' := [("number", 2)]) (pe_lc rfl sc_slim.nd (di_seq rfl (de_var (pv 0))) (blkOk_by (own := [("number", 2)]) (by first | (dsimp only [Cx.blk, cxOf, compEnvC, envOfC]; decide +kernel) | exact (by with_unfolding_all rfl))) (fun s1_ H1_ C1_ cl1_ fp1_ => (pg_name (i := 2) sc_slim.nd rfl (by first | exact .inl rfl | exact .inr rfl))) (fun s1_ H1_ C1_ cl1_ fp1_ => dts_nil) (fun s1_ H1_ C1_ cl1_ fp1_ => (de_div (de_var (pv 2)) (de_var (pv 1))))) (tg_name (by decide))))))))))
theorem G_is_table (T : Txt K mg) : FnS P w K mg base 4 T.f_is_table.a T.f_is_table.fd ["value"] m_is_table :=
  def_ok T.f_is_table.F sc_is_table fun cdv A outer sh H E q hpo =>
  (dss_cons (by exact (dst_if (dt_w (dw_or (dt_not (dt_tru rfl (de_isi (pe_callB call_isi (by rfl) T.z_isinstance (by decide +kernel) (pa_cons (de_var (pv 0)) (pa_cons (pe_bltn (v := .ty "tuple") (by rfl) T.z_tuple (by decide +kernel) rfl) pa_nil)))) (fun _ => rfl))) (dw_or1 (dt_not (dt_chain cmp_le cmp_le de_int (de_call (pe_callB cr_len (by rfl) T.z_len PySem.boot_len (da_cons (de_var (pv 0)) da_nil rfl)) cd_len) (de_c (pe_glob (by rfl) T.k_MOST.g T.k_MOST.r) T.k_MOST.l) (by with_unfolding_all rfl))))))
  (dss_one (by exact (dst_ret de_bl)))
  dss_nil))
  (dss_cons (by exact (dst_if (dt_w (dw_or (dt_not (dt_tru rfl (de_isi (pe_callB call_isi (by rfl) T.z_isinstance (by decide +kernel) (pa_cons (de_ix rfl q.hu (de_var (pv 0)) de_int (fun _ _ => rfl)) (pa_cons (pe_bltn (v := .ty "tuple") (by rfl) T.z_tuple (by decide +kernel) rfl) pa_nil)))) (fun _ => rfl))) (dw_or1 (dt_not (dt_chain cmp_le cmp_le de_int (de_call (pe_callB cr_len (by rfl) T.z_len PySem.boot_len (da_cons (de_ix rfl q.hu (de_var (pv 0)) de_int (fun _ _ => rfl)) da_nil rfl)) cd_len) (de_c (pe_glob (by rfl) T.k_MOST.g T.k_MOST.r) T.k_MOST.l) (by with_unfolding_all rfl))))))
  (dss_one (by exact (dst_ret de_bl)))
  dss_nil))
  (dss_one (by exact (dst_ret (de_call (pe_callB (cr_all rfl) (by rfl) T.z_all (by decide +kernel) (da_cons (de_fz (dl_comp (own' := [("row", 1)]) (pe_lc rfl sc_is_table.nd (di_seq rfl (de_var (pv 0))) (blkOk_by (own := [("row", 1)]) (by first | (dsimp only [Cx.blk, cxOf, compEnvC, envOfC]; decide +kernel) | exact (by with_unfolding_all rfl))) (fun s1_ H1_ C1_ cl1_ fp1_ => (pg_name (i := 1) sc_is_table.nd rfl (by first | exact .inl rfl | exact .inr rfl))) (fun s1_ H1_ C1_ cl1_ fp1_ => dts_nil) (fun s1_ H1_ C1_ cl1_ fp1_ => (de_fn (q.blk s1_ H1_ _ _ fp1_) (G_are_ratios T) (by decide) (by rfl) T.f_are_ratios.g T.f_are_ratios.F.kp T.f_are_ratios.b (da_cons (de_var (pv 1)) (da_cons (de_call (pe_callB cr_len (by rfl) T.z_len PySem.boot_len (da_cons (de_ix rfl (q.blk s1_ H1_ _ _ fp1_).hu (de_var (pv 0)) de_int (fun _ _ => rfl)) da_nil rfl)) cd_len) da_nil rfl) rfl) (by decide) rfl rfl))) (tg_name (by decide)))) da_nil rfl)) cd_all))))))
theorem G_check_table (T : Txt K mg) : FnS P w K mg base 5 T.f_check_table.a T.f_check_table.fd ["rows"] m_check_table :=
  def_ok T.f_check_table.F sc_check_table fun cdv A outer sh H E q hpo =>
  (dss_one (by exact (dst_if (dt_not (dt_tru rfl (de_fn q (G_is_table T) (by decide) (by rfl) T.f_is_table.g T.f_is_table.F.kp T.f_is_table.b (da_cons (de_var (pv 0)) da_nil rfl) (by decide) rfl rfl) (fun _ => rfl)))
  (dss_one (by exact (dst_raise q T.c_BadTable.g (fun W tk => L2N.ps_raise rfl tk (L2N.pmk_own PySem.F.excBase_ValueError T.c_BadTable.x T.c_BadTable.g T.c_BadTable.k (raises_own T.c_BadTable.b T.c_BadTable.t) rfl)))))
  dss_nil)))
theorem G_cleared (T : Txt K mg) : FnS P w K mg base 2 T.f_cleared.a T.f_cleared.fd ["row", "pivot", "col"] m_cleared :=
  def_ok T.f_cleared.F sc_cleared fun cdv A outer sh H E q hpo =>
  (dss_cons (by exact (dst_if (dt_cmp (cmp_eq rfl q.hu) (de_ix rfl q.hu (de_var (pv 0)) (de_var (pv 2)) (fun _ _ => rfl)) de_int (nomark _))
  (dss_one (by exact (dst_ret (de_var (pv 0)))))
  dss_nil))
  (dss_cons (by exact (dst_set (ps_set (i := 3) sc_cleared.nd rfl (.inl rfl) (de_call (pe_callBfun cr_gcd (by rfl) T.z_gcd (da_cons (de_ix rfl q.hu (de_var (pv 0)) (de_var (pv 2)) (fun _ _ => rfl)) (da_cons (de_ix rfl q.hu (de_var (pv 1)) (de_var (pv 2)) (fun _ _ => rfl)) da_nil rfl) rfl)) cd_gcd))))
  (dss_cons (by exact (dst_parC2 (ps_asg (pe_tupN (da_cons (de_div (de_ix rfl q.hu (de_var (pv 1)) (de_var (pv 2)) (fun _ _ => rfl)) (de_var (pv 3))) (da_cons (de_div (de_ix rfl q.hu (de_var (pv 0)) (de_var (pv 2)) (fun _ _ => rfl)) (de_var (pv 3))) da_nil rfl) rfl)) (pg_tup rfl (pgs_cons (pg_name (i := 4) sc_cleared.nd rfl (.inr rfl)) (pgs_cons (pg_name (i := 5) sc_cleared.nd rfl (.inr rfl)) pgs_nil))))))
  (dss_one (by exact (dst_ret (de_fn q (G_slim T) (by decide) (by rfl) T.f_slim.g T.f_slim.F.kp T.f_slim.b (da_cons (de_fz (dl_comp (own' := [("part", 6), ("other", 7)]) (pe_lc rfl sc_cleared.nd (di_zip rfl (pi_zipB (by rfl) T.z_zip (da_cons (de_var (pv 0)) (da_cons (de_var (pv 1)) da_nil rfl) rfl))) (blkOk_by (own := [("part", 6), ("other", 7)]) (by first | (dsimp only [Cx.blk, cxOf, compEnvC, envOfC]; decide +kernel) | exact (by with_unfolding_all rfl))) (fun s1_ H1_ C1_ cl1_ fp1_ => (pg_tup rfl (pgs_cons (pg_name (i := 6) sc_cleared.nd rfl (by first | exact .inl rfl | exact .inr rfl)) (pgs_cons (pg_name (i := 7) sc_cleared.nd rfl (by first | exact .inl rfl | exact .inr rfl)) pgs_nil)))) (fun s1_ H1_ C1_ cl1_ fp1_ => dts_nil) (fun s1_ H1_ C1_ cl1_ fp1_ => (de_sub (de_mulU rfl (de_var (pv 4)) (de_var (pv 6))) (de_mulU rfl (de_var (pv 5)) (de_var (pv 7)))))) (tg_tup (tgs_cons (tg_name (by decide)) (tgs_cons (tg_name (by decide)) tgs_nil))))) da_nil rfl) (by decide) rfl rfl)))))))
theorem G_eliminated (T : Txt K mg) : FnS P w K mg base 3 T.f_eliminated.a T.f_eliminated.fd ["rows", "width"] m_eliminated :=
  def_ok T.f_eliminated.F sc_eliminated fun cdv A outer sh H E q hpo =>
  (dss_cons (by exact (dst_par3 (ps_par3 (i := 2) (j := 3) (l := 4) rfl sc_eliminated.nd rfl rfl rfl (by decide) (by decide) (by decide) rfl rfl rfl (da_cons (de_fz (dl_lst da_nil)) (da_cons (de_fz (dl_call (pe_callTy call_list_of (by rfl) T.z_list (by decide +kernel) (da_cons (de_var (pv 0)) da_nil rfl)) cd_list)) (da_cons (de_own (dl_lst da_nil)) da_nil rfl) rfl) rfl) (by rfl))))
  (dss_cons (by exact (dst_for (cl := [5, 6, 7, 8]) (vs := [5]) (ps_for hpo rfl (di_range1 (pi_range1 (by rfl) T.z_range (da_cons (de_var (pv 1)) da_nil rfl))) (pg_name (i := 5) sc_eliminated.nd rfl (.inr rfl))
  (dss_cons (by exact (dst_set (ps_set (i := 6) sc_eliminated.nd rfl (.inl rfl) de_int)))
  (dss_cons (by exact (dst_while (cl := []) (N := turns) (ps_while hpo (dt_w (dw_and (dt_cmp cmp_lt (de_var (pv 6)) (de_call (pe_callB cr_len (by rfl) T.z_len PySem.boot_len (da_cons (de_var (pv 3)) da_nil rfl)) cd_len) (nomark _)) (dw_and1 (dt_cmp (cmp_eq rfl q.hu) (de_ix rfl q.hu (de_ix rfl q.hu (de_var (pv 3)) (de_var (pv 6)) (fun _ _ => rfl)) (de_var (pv 5)) (fun _ _ => rfl)) de_int (nomark _)))))
  (dss_one (by exact (dst_aug (ps_aug (i := 6) sc_eliminated.nd rfl (.inl rfl) de_int ip_add)))))))
  (dss_one (by exact (dst_if (dt_cmp cmp_lt (de_var (pv 6)) (de_call (pe_callB cr_len (by rfl) T.z_len PySem.boot_len (da_cons (de_var (pv 3)) da_nil rfl)) cd_len) (nomark _))
  (dss_cons (by exact (dst_set (ps_set (i := 7) sc_eliminated.nd rfl (.inr rfl) (de_ix rfl q.hu (de_var (pv 3)) (de_var (pv 6)) (fun _ _ => rfl)))))
  (dss_cons (by exact (dst_set (ps_set (i := 8) sc_eliminated.nd rfl (.inl rfl) (de_addU rfl (de_slice rfl (de_var (pv 3)) dp_none (dp_some (de_var (pv 6)))) (de_slice rfl (de_var (pv 3)) (dp_some (de_addU rfl (de_var (pv 6)) de_int)) dp_none)))))
  (dss_cons (by exact (dst_setFz (i := 3) (ps_setLc rfl sc_eliminated.nd rfl rfl (sw_true rfl rfl rfl (by decide +kernel)) (di_seq rfl (de_var (pv 8))) (blkOk_by (own := [("row", 9)]) (by first | (dsimp only [Cx.blk, cxOf, compEnvC, envOfC]; decide +kernel) | exact (by with_unfolding_all rfl))) (fun s1_ H1_ C1_ cl1_ fp1_ => (pg_name (i := 9) sc_eliminated.nd rfl (by first | exact .inl rfl | exact .inr rfl))) (fun s1_ H1_ C1_ cl1_ fp1_ => dts_nil) (fun s1_ H1_ C1_ cl1_ fp1_ => (de_fn (q.blk s1_ H1_ _ _ fp1_) (G_cleared T) (by decide) (by rfl) T.f_cleared.g T.f_cleared.F.kp T.f_cleared.b (da_cons (de_var (pv 9)) (da_cons (de_var (pv 7)) (da_cons (de_var (pv 5)) da_nil rfl) rfl) rfl) (by decide) rfl rfl))) (fun _ _ _ z => comp_i (tg_name (by decide)) _ _ _ z)))
  (dss_cons (by exact (dst_set (ps_set (i := 2) sc_eliminated.nd rfl (.inl rfl) (de_addU rfl (de_fz (dl_comp (own' := [("row", 9)]) (pe_lc rfl sc_eliminated.nd (di_seq rfl (de_var (pv 2))) (blkOk_by (own := [("row", 9)]) (by first | (dsimp only [Cx.blk, cxOf, compEnvC, envOfC]; decide +kernel) | exact (by with_unfolding_all rfl))) (fun s1_ H1_ C1_ cl1_ fp1_ => (pg_name (i := 9) sc_eliminated.nd rfl (by first | exact .inl rfl | exact .inr rfl))) (fun s1_ H1_ C1_ cl1_ fp1_ => dts_nil) (fun s1_ H1_ C1_ cl1_ fp1_ => (de_fn (q.blk s1_ H1_ _ _ fp1_) (G_cleared T) (by decide) (by rfl) T.f_cleared.g T.f_cleared.F.kp T.f_cleared.b (da_cons (de_var (pv 9)) (da_cons (de_var (pv 7)) (da_cons (de_var (pv 5)) da_nil rfl) rfl) rfl) (by decide) rfl rfl))) (tg_name (by decide)))) (de_fz (dl_lst (da_cons (de_var (pv 7)) da_nil rfl)))))))
  (dss_one (by exact (dst_expr (ps_expr (de_app rfl (pe_bm PySem.F.plainAttrs_list PySem.F.slot_list_append PySem.F.type_list_append mt_append (de_var (pv 4)) (pa_cons (de_var (pv 5)) pa_nil)))))))))))
  dss_nil)))))) (tg_name (by decide))))
  (dss_frz (i := 4) (dss_one (by exact (dst_ret (de_tup (da_cons (de_var (pv 2)) (da_cons (de_var (pv 3)) (da_cons (de_var (pv 4)) da_nil rfl) rfl) rfl))))))))
theorem G_beside_units (T : Txt K mg) : FnS P w K mg base 2 T.f_beside_units.a T.f_beside_units.fd ["rows"] m_beside_units :=
  def_ok T.f_beside_units.F sc_beside_units fun cdv A outer sh H E q hpo =>
  (dss_one (by exact (dst_ret (de_fz (dl_comp (own' := [("at", 1), ("row", 2)]) (pe_lc rfl sc_beside_units.nd (di_enum rfl (pi_enB (by rfl) T.z_enumerate (da_cons (de_var (pv 0)) da_nil rfl))) (blkOk_by (own := [("at", 1), ("row", 2)]) (by first | (dsimp only [Cx.blk, cxOf, compEnvC, envOfC]; decide +kernel) | exact (by with_unfolding_all rfl))) (fun s1_ H1_ C1_ cl1_ fp1_ => (pg_tup rfl (pgs_cons (pg_name (i := 1) sc_beside_units.nd rfl (by first | exact .inl rfl | exact .inr rfl)) (pgs_cons (pg_name (i := 2) sc_beside_units.nd rfl (by first | exact .inl rfl | exact .inr rfl)) pgs_nil)))) (fun s1_ H1_ C1_ cl1_ fp1_ => dts_nil) (fun s1_ H1_ C1_ cl1_ fp1_ => (de_ix rfl (q.blk s1_ H1_ _ _ fp1_).hu (de_fn (q.blk s1_ H1_ _ _ fp1_) (G_whole T) (by decide) (by rfl) T.f_whole.g T.f_whole.F.kp T.f_whole.b (da_cons (de_addU rfl (de_fz (dl_call (pe_callTy call_list_of (by rfl) T.z_list (by decide +kernel) (da_cons (de_var (pv 2)) da_nil rfl)) cd_list)) (de_fn (q.blk s1_ H1_ _ _ fp1_) (G_unit T) (by decide) (by rfl) T.f_unit.g T.f_unit.F.kp T.f_unit.b (da_cons (de_call (pe_callB cr_len (by rfl) T.z_len PySem.boot_len (da_cons (de_var (pv 0)) da_nil rfl)) cd_len) (da_cons (de_var (pv 1)) da_nil rfl) rfl) (by decide) rfl rfl)) da_nil rfl) (by decide) rfl rfl) de_int (fun _ _ => rfl)))) (tg_tup (tgs_cons (tg_name (by decide)) (tgs_cons (tg_name (by decide)) tgs_nil))))))))
theorem G_rank (T : Txt K mg) : FnS P w K mg base 6 T.f_rank.a T.f_rank.fd ["rows"] m_rank :=
  def_ok T.f_rank.F sc_rank fun cdv A outer sh H E q hpo =>
  (dss_cons (by exact (dst_expr (ps_expr (de_fn q (G_check_table T) (by decide) (by rfl) T.f_check_table.g T.f_check_table.F.kp T.f_check_table.b (da_cons (de_var (pv 0)) da_nil rfl) (by decide) rfl rfl))))
  (dss_cons (by exact (dst_set (ps_set (i := 1) sc_rank.nd rfl (.inl rfl) (de_ix rfl q.hu (de_fn q (G_eliminated T) (by decide) (by rfl) T.f_eliminated.g T.f_eliminated.F.kp T.f_eliminated.b (da_cons (de_fz (dl_comp (own' := [("row", 2)]) (pe_lc rfl sc_rank.nd (di_seq rfl (de_var (pv 0))) (blkOk_by (own := [("row", 2)]) (by first | (dsimp only [Cx.blk, cxOf, compEnvC, envOfC]; decide +kernel) | exact (by with_unfolding_all rfl))) (fun s1_ H1_ C1_ cl1_ fp1_ => (pg_name (i := 2) sc_rank.nd rfl (by first | exact .inl rfl | exact .inr rfl))) (fun s1_ H1_ C1_ cl1_ fp1_ => dts_nil) (fun s1_ H1_ C1_ cl1_ fp1_ => (de_ix rfl (q.blk s1_ H1_ _ _ fp1_).hu (de_fn (q.blk s1_ H1_ _ _ fp1_) (G_whole T) (by decide) (by rfl) T.f_whole.g T.f_whole.F.kp T.f_whole.b (da_cons (de_var (pv 2)) da_nil rfl) (by decide) rfl rfl) de_int (fun _ _ => rfl)))) (tg_name (by decide)))) (da_cons (de_call (pe_callB cr_len (by rfl) T.z_len PySem.boot_len (da_cons (de_ix rfl q.hu (de_var (pv 0)) de_int (fun _ _ => rfl)) da_nil rfl)) cd_len) da_nil rfl) rfl) (by decide) rfl rfl) de_int (fun _ _ => rfl)))))
  (dss_one (by exact (dst_ret (de_call (pe_callB cr_len (by rfl) T.z_len PySem.boot_len (da_cons (de_var (pv 1)) da_nil rfl)) cd_len))))))
theorem G_worked (T : Txt K mg) : FnS P w K mg base 4 T.f_worked.a T.f_worked.fd ["rows", "rights", "width"] m_worked :=
  def_ok T.f_worked.F sc_worked fun cdv A outer sh H E q hpo =>
  (dss_one (by exact (dst_ret (de_fn q (G_eliminated T) (by decide) (by rfl) T.f_eliminated.g T.f_eliminated.F.kp T.f_eliminated.b (da_cons (de_fn q (G_beside_units T) (by decide) (by rfl) T.f_beside_units.g T.f_beside_units.F.kp T.f_beside_units.b (da_cons (de_fz (dl_comp (own' := [("row", 3), ("right", 4)]) (pe_lc rfl sc_worked.nd (di_zip rfl (pi_zipB (by rfl) T.z_zip (da_cons (de_var (pv 0)) (da_cons (de_var (pv 1)) da_nil rfl) rfl))) (blkOk_by (own := [("row", 3), ("right", 4)]) (by first | (dsimp only [Cx.blk, cxOf, compEnvC, envOfC]; decide +kernel) | exact (by with_unfolding_all rfl))) (fun s1_ H1_ C1_ cl1_ fp1_ => (pg_tup rfl (pgs_cons (pg_name (i := 3) sc_worked.nd rfl (by first | exact .inl rfl | exact .inr rfl)) (pgs_cons (pg_name (i := 4) sc_worked.nd rfl (by first | exact .inl rfl | exact .inr rfl)) pgs_nil)))) (fun s1_ H1_ C1_ cl1_ fp1_ => dts_nil) (fun s1_ H1_ C1_ cl1_ fp1_ => (de_fz (dl_lst (da_star rfl (de_var (pv 3)) (da_cons (de_var (pv 4)) da_nil rfl) rfl))))) (tg_tup (tgs_cons (tg_name (by decide)) (tgs_cons (tg_name (by decide)) tgs_nil))))) da_nil rfl) (by decide) rfl rfl) (da_cons (de_var (pv 2)) da_nil rfl) rfl) (by decide) rfl rfl))))
theorem G_refuted (T : Txt K mg) : FnS P w K mg base 1 T.f_refuted.a T.f_refuted.fd ["left", "width"] m_refuted :=
  def_ok T.f_refuted.F sc_refuted fun cdv A outer sh H E q hpo =>
  (dss_cons (by exact (dst_for (cl := [2]) (vs := [2]) (ps_for hpo rfl (di_seq rfl (de_var (pv 0))) (pg_name (i := 2) sc_refuted.nd rfl (.inl rfl))
  (dss_one (by exact (dst_if (dt_cmp (cmp_ne rfl q.hu) (de_ix rfl q.hu (de_var (pv 2)) (de_var (pv 1)) (fun _ _ => rfl)) de_int (nomark _))
  (dss_one (by exact (dst_ret (de_call (pe_callTy call_tupleN (by rfl) T.z_tuple (by decide +kernel) (da_cons (de_fz (dl_comp (own' := [("part", 3)]) (pe_lc rfl sc_refuted.nd (di_seq rfl (de_slice rfl (de_var (pv 2)) (dp_some (de_addU rfl (de_var (pv 1)) de_int)) dp_none)) (blkOk_by (own := [("part", 3)]) (by first | (dsimp only [Cx.blk, cxOf, compEnvC, envOfC]; decide +kernel) | exact (by with_unfolding_all rfl))) (fun s1_ H1_ C1_ cl1_ fp1_ => (pg_name (i := 3) sc_refuted.nd rfl (by first | exact .inl rfl | exact .inr rfl))) (fun s1_ H1_ C1_ cl1_ fp1_ => dts_nil) (fun s1_ H1_ C1_ cl1_ fp1_ => (de_tup (da_cons (de_var (pv 3)) (da_cons de_int da_nil rfl) rfl)))) (tg_name (by decide)))) da_nil rfl)) cd_tuple))))
  dss_nil)))) (tg_name (by decide))))
  (dss_one (by exact (dst_ret de_non))))
theorem G_solved (T : Txt K mg) : FnS P w K mg base 6 T.f_solved.a T.f_solved.fd ["rows", "rights"] m_solved :=
  def_ok T.f_solved.F sc_solved fun cdv A outer sh H E q hpo =>
  (dss_cons (by exact (dst_expr (ps_expr (de_fn q (G_check_table T) (by decide) (by rfl) T.f_check_table.g T.f_check_table.F.kp T.f_check_table.b (da_cons (de_var (pv 0)) da_nil rfl) (by decide) rfl rfl))))
  (dss_cons (by exact (dst_if (dt_not (dt_tru rfl (de_fn q (G_are_ratios T) (by decide) (by rfl) T.f_are_ratios.g T.f_are_ratios.F.kp T.f_are_ratios.b (da_cons (de_var (pv 1)) (da_cons (de_call (pe_callB cr_len (by rfl) T.z_len PySem.boot_len (da_cons (de_var (pv 0)) da_nil rfl)) cd_len) da_nil rfl) rfl) (by decide) rfl rfl) (fun _ => rfl)))
  (dss_one (by exact (dst_raise q T.c_BadTable.g (fun W tk => L2N.ps_raise rfl tk (L2N.pmk_own PySem.F.excBase_ValueError T.c_BadTable.x T.c_BadTable.g T.c_BadTable.k (raises_own T.c_BadTable.b T.c_BadTable.t) rfl)))))
  dss_nil))
  (dss_cons (by exact (dst_set (ps_set (i := 2) sc_solved.nd rfl (.inl rfl) (de_call (pe_callB cr_len (by rfl) T.z_len PySem.boot_len (da_cons (de_ix rfl q.hu (de_var (pv 0)) de_int (fun _ _ => rfl)) da_nil rfl)) cd_len))))
  (dss_cons (by exact (dst_unp (vs := [3, 4, 5]) (ps_asg (de_fn q (G_worked T) (by decide) (by rfl) T.f_worked.g T.f_worked.F.kp T.f_worked.b (da_cons (de_var (pv 0)) (da_cons (de_var (pv 1)) (da_cons (de_var (pv 2)) da_nil rfl) rfl) rfl) (by decide) rfl rfl) (pg_tup rfl (pgs_cons (pg_name (i := 3) sc_solved.nd rfl (.inl rfl)) (pgs_cons (pg_name (i := 4) sc_solved.nd rfl (.inl rfl)) (pgs_cons (pg_name (i := 5) sc_solved.nd rfl (.inl rfl)) pgs_nil))))) (tg_tup (tgs_cons (tg_name (by decide)) (tgs_cons (tg_name (by decide)) (tgs_cons (tg_name (by decide)) tgs_nil))))))
  (dss_cons (by exact (dst_set (ps_set (i := 6) sc_solved.nd rfl (.inl rfl) (de_fn q (G_refuted T) (by decide) (by rfl) T.f_refuted.g T.f_refuted.F.kp T.f_refuted.b (da_cons (de_var (pv 4)) (da_cons (de_var (pv 2)) da_nil rfl) rfl) (by decide) rfl rfl))))
  (dss_cons (by exact (dst_if (dt_cmp cmp_notN (de_var (pv 6)) de_non (nomark _))
  (dss_one (by exact (dst_ret (de_tup (da_cons de_str (da_cons (de_var (pv 6)) da_nil rfl) rfl)))))
  dss_nil))
  (dss_cons (by exact (dst_set (ps_set (i := 7) sc_solved.nd rfl (.inl rfl) (de_own (dl_rep (dl_lst (da_cons (de_c (pe_glob (by rfl) T.k_ZERO.g T.k_ZERO.r) T.k_ZERO.l) da_nil rfl)) (de_var (pv 2)))))))
  (dss_cons (by exact (dst_for (cl := [8, 9]) (vs := [8, 9]) (ps_for hpo rfl (di_zip rfl (pi_zipB (by rfl) T.z_zip (da_cons (de_var (pv 3)) (da_cons (de_var (pv 5)) da_nil rfl) rfl))) (pg_tup rfl (pgs_cons (pg_name (i := 8) sc_solved.nd rfl (.inl rfl)) (pgs_cons (pg_name (i := 9) sc_solved.nd rfl (.inl rfl)) pgs_nil)))
  (dss_one (by exact (dst_put (ps_asg (de_fn q (G_ratio T) (by decide) (by rfl) T.f_ratio.g T.f_ratio.F.kp T.f_ratio.b (da_cons (de_ix rfl q.hu (de_var (pv 8)) (de_var (pv 2)) (fun _ _ => rfl)) (da_cons (de_ix rfl q.hu (de_var (pv 8)) (de_var (pv 9)) (fun _ _ => rfl)) da_nil rfl) rfl) (by decide) rfl rfl) (pg_sub (de_var (pv 7)) (de_var (pv 9)) (set_u q.hu))))))) (tg_tup (tgs_cons (tg_name (by decide)) (tgs_cons (tg_name (by decide)) tgs_nil)))))
  (dss_frz (i := 7) (dss_one (by exact (dst_ret (de_tup (da_cons (de_if (dt_cmp (cmp_eq rfl q.hu) (de_call (pe_callB cr_len (by rfl) T.z_len PySem.boot_len (da_cons (de_var (pv 5)) da_nil rfl)) cd_len) (de_var (pv 2)) (nomark _)) de_str de_str) (da_cons (de_call (pe_callTy call_tupleN (by rfl) T.z_tuple (by decide +kernel) (da_cons (de_var (pv 7)) da_nil rfl)) cd_tuple) da_nil rfl) rfl))))))))))))))
theorem G_inverted (T : Txt K mg) : FnS P w K mg base 4 T.f_inverted.a T.f_inverted.fd ["rows"] m_inverted :=
  def_ok T.f_inverted.F sc_inverted fun cdv A outer sh H E q hpo =>
  (dss_cons (by exact (dst_set (ps_set (i := 1) sc_inverted.nd rfl (.inr rfl) (de_call (pe_callB cr_len (by rfl) T.z_len PySem.boot_len (da_cons (de_var (pv 0)) da_nil rfl)) cd_len))))
  (dss_cons (by exact (dst_unp (vs := [2, 3, 4]) (ps_asg (de_fn q (G_eliminated T) (by decide) (by rfl) T.f_eliminated.g T.f_eliminated.F.kp T.f_eliminated.b (da_cons (de_fn q (G_beside_units T) (by decide) (by rfl) T.f_beside_units.g T.f_beside_units.F.kp T.f_beside_units.b (da_cons (de_var (pv 0)) da_nil rfl) (by decide) rfl rfl) (da_cons (de_var (pv 1)) da_nil rfl) rfl) (by decide) rfl rfl) (pg_tup rfl (pgs_cons (pg_name (i := 2) sc_inverted.nd rfl (.inl rfl)) (pgs_cons (pg_name (i := 3) sc_inverted.nd rfl (.inl rfl)) (pgs_cons (pg_name (i := 4) sc_inverted.nd rfl (.inl rfl)) pgs_nil))))) (tg_tup (tgs_cons (tg_name (by decide)) (tgs_cons (tg_name (by decide)) (tgs_cons (tg_name (by decide)) tgs_nil))))))
  (dss_cons (by exact (dst_if (dt_cmp cmp_lt (de_call (pe_callB cr_len (by rfl) T.z_len PySem.boot_len (da_cons (de_var (pv 4)) da_nil rfl)) cd_len) (de_var (pv 1)) (nomark _))
  (dss_one (by exact (dst_ret de_non)))
  dss_nil))
  (dss_one (by exact (dst_ret (de_call (pe_callTy call_tupleN (by rfl) T.z_tuple (by decide +kernel) (da_cons (de_fz (dl_comp (own' := [("row", 5), ("col", 6)]) (pe_lc rfl sc_inverted.nd (di_zip rfl (pi_zipB (by rfl) T.z_zip (da_cons (de_var (pv 2)) (da_cons (de_var (pv 4)) da_nil rfl) rfl))) (blkOk_by (own := [("row", 5), ("col", 6)]) (by first | (dsimp only [Cx.blk, cxOf, compEnvC, envOfC]; decide +kernel) | exact (by with_unfolding_all rfl))) (fun s1_ H1_ C1_ cl1_ fp1_ => (pg_tup rfl (pgs_cons (pg_name (i := 5) sc_inverted.nd rfl (by first | exact .inl rfl | exact .inr rfl)) (pgs_cons (pg_name (i := 6) sc_inverted.nd rfl (by first | exact .inl rfl | exact .inr rfl)) pgs_nil)))) (fun s1_ H1_ C1_ cl1_ fp1_ => dts_nil) (fun s1_ H1_ C1_ cl1_ fp1_ => (de_call (pe_callTy call_tupleN (by rfl) T.z_tuple (by decide +kernel) (da_cons (de_fz (dl_comp (own' := [("part", 7)]) (pe_lc rfl sc_inverted.nd (di_seq rfl (de_slice rfl (de_var (pv 5)) (dp_some (de_var (pv 1))) dp_none)) (blkOk_by (own := [("part", 7)]) (by first | (dsimp only [Cx.blk, cxOf, compEnvC, envOfC]; decide +kernel) | exact (by with_unfolding_all rfl))) (fun s2_ H2_ C2_ cl2_ fp2_ => (pg_name (i := 7) sc_inverted.nd rfl (by first | exact .inl rfl | exact .inr rfl))) (fun s2_ H2_ C2_ cl2_ fp2_ => dts_nil) (fun s2_ H2_ C2_ cl2_ fp2_ => (de_fn ((q.blk s1_ H1_ _ _ fp1_).blk s2_ H2_ _ _ fp2_) (G_ratio T) (by decide) (by rfl) T.f_ratio.g T.f_ratio.F.kp T.f_ratio.b (da_cons (de_var (pv 7)) (da_cons (de_ix rfl ((q.blk s1_ H1_ _ _ fp1_).blk s2_ H2_ _ _ fp2_).hu (de_var (pv 5)) (de_var (pv 6)) (fun _ _ => rfl)) da_nil rfl) rfl) (by decide) rfl rfl))) (tg_name (by decide)))) da_nil rfl)) cd_tuple))) (tg_tup (tgs_cons (tg_name (by decide)) (tgs_cons (tg_name (by decide)) tgs_nil))))) da_nil rfl)) cd_tuple)))))))
theorem G_inverse (T : Txt K mg) : FnS P w K mg base 6 T.f_inverse.a T.f_inverse.fd ["rows"] m_inverse :=
  def_ok T.f_inverse.F sc_inverse fun cdv A outer sh H E q hpo =>
  (dss_cons (by exact (dst_expr (ps_expr (de_fn q (G_check_table T) (by decide) (by rfl) T.f_check_table.g T.f_check_table.F.kp T.f_check_table.b (da_cons (de_var (pv 0)) da_nil rfl) (by decide) rfl rfl))))
  (dss_cons (by exact (dst_if (dt_cmp (cmp_ne rfl q.hu) (de_call (pe_callB cr_len (by rfl) T.z_len PySem.boot_len (da_cons (de_var (pv 0)) da_nil rfl)) cd_len) (de_call (pe_callB cr_len (by rfl) T.z_len PySem.boot_len (da_cons (de_ix rfl q.hu (de_var (pv 0)) de_int (fun _ _ => rfl)) da_nil rfl)) cd_len) (nomark _))
  (dss_one (by exact (dst_raise q T.c_BadTable.g (fun W tk => L2N.ps_raise rfl tk (L2N.pmk_own PySem.F.excBase_ValueError T.c_BadTable.x T.c_BadTable.g T.c_BadTable.k (raises_own T.c_BadTable.b T.c_BadTable.t) rfl)))))
  dss_nil))
  (dss_one (by exact (dst_ret (de_fn q (G_inverted T) (by decide) (by rfl) T.f_inverted.g T.f_inverted.F.kp T.f_inverted.b (da_cons (de_var (pv 0)) da_nil rfl) (by decide) rfl rfl))))))
theorem G__law_taken (T : Txt K mg) : FnS P w K mg base 1 T.f__law_taken.a T.f__law_taken.fd ["row", "many"] m__law_taken :=
  def_ok T.f__law_taken.F sc__law_taken fun cdv A outer sh H E q hpo =>
  (dss_cons (by exact (dst_if (dt_cmp cmp_gt (de_ix rfl q.hu (de_var (pv 0)) de_int (fun _ _ => rfl)) de_int (nomark _))
  (dss_cons (by exact (dst_set (ps_set (i := 2) sc__law_taken.nd rfl (.inl rfl) (de_mod (de_call (pe_callTy call_int1 (by rfl) T.z_int (by decide +kernel) (da_cons (de_ix rfl q.hu (de_var (pv 0)) de_int (fun _ _ => rfl)) da_nil rfl)) cd_int) (de_var (pv 1))))))
  (dss_cons (by exact (dst_put (ps_asg (de_div (de_ix rfl q.hu (de_var (pv 0)) de_int (fun _ _ => rfl)) (de_var (pv 1))) (pg_sub (de_var (pv 0)) de_int (set_u q.hu)))))
  (dss_one (by exact (dst_ret (de_var (pv 2)))))))
  dss_nil))
  (dss_cons (by exact (dst_put (ps_asg (de_addU rfl (de_ix rfl q.hu (de_var (pv 0)) de_int (fun _ _ => rfl)) de_int) (pg_sub (de_var (pv 0)) de_int (set_u q.hu)))))
  (dss_cons (by exact (dst_if (dt_cmp cmp_gt (de_ix rfl q.hu (de_var (pv 0)) de_int (fun _ _ => rfl)) (de_call (pe_callB cr_len (by rfl) T.z_len PySem.boot_len (da_cons (de_ix rfl q.hu (de_var (pv 0)) de_int (fun _ _ => rfl)) da_nil rfl)) cd_len) (nomark _))
  (dss_cons (by exact (dst_put (ps_asg (de_mod (de_call (pe_callTy call_int1 (by rfl) T.z_int (by decide +kernel) (da_cons (de_addU rfl (de_mulU rfl (de_ix rfl q.hu (de_var (pv 0)) de_int (fun _ _ => rfl)) de_int) de_int) da_nil rfl)) cd_int) de_int) (pg_sub (de_var (pv 0)) de_int (set_u q.hu)))))
  (dss_one (by exact (dst_ret (de_mod (de_call (pe_callTy call_int1 (by rfl) T.z_int (by decide +kernel) (da_cons (de_div (de_ix rfl q.hu (de_var (pv 0)) de_int (fun _ _ => rfl)) de_int) da_nil rfl)) cd_int) (de_var (pv 1)))))))
  dss_nil))
  (dss_cons (by exact (dst_set (ps_set (i := 3) sc__law_taken.nd rfl (.inl rfl) (de_ix rfl q.hu (de_ix rfl q.hu (de_var (pv 0)) de_int (fun _ _ => rfl)) (de_sub (de_ix rfl q.hu (de_var (pv 0)) de_int (fun _ _ => rfl)) de_int) (fun _ _ => rfl)))))
  (dss_cons (by exact (dst_put (ps_asg (de_mod (de_call (pe_callTy call_int1 (by rfl) T.z_int (by decide +kernel) (da_cons (de_addU rfl (de_addU rfl (de_mulU rfl (de_ix rfl q.hu (de_var (pv 0)) de_int (fun _ _ => rfl)) de_int) (de_var (pv 3))) de_int) da_nil rfl)) cd_int) de_int) (pg_sub (de_var (pv 0)) de_int (set_u q.hu)))))
  (dss_cons (by exact (dst_if (dt_cmp cmp_ge (de_var (pv 3)) (de_pow de_int de_int) (nomark _))
  (dss_one (by exact (dst_put (ps_asg (de_div (de_var (pv 3)) (de_var (pv 1))) (pg_sub (de_var (pv 0)) de_int (set_u q.hu))))))
  dss_nil))
  (dss_one (by exact (dst_ret (de_mod (de_call (pe_callTy call_int1 (by rfl) T.z_int (by decide +kernel) (da_cons (de_var (pv 3)) da_nil rfl)) cd_int) (de_var (pv 1))))))))))))
theorem G__law_pick (T : Txt K mg) : FnS P w K mg base 2 T.f__law_pick.a T.f__law_pick.fd ["row", "things"] m__law_pick :=
  def_ok T.f__law_pick.F sc__law_pick fun cdv A outer sh H E q hpo =>
  (dss_one (by exact (dst_ret (de_ix rfl q.hu (de_var (pv 1)) (de_fn q (G__law_taken T) (by decide) (by rfl) T.f__law_taken.g T.f__law_taken.F.kp T.f__law_taken.b (da_cons (de_var (pv 0)) (da_cons (de_call (pe_callB cr_len (by rfl) T.z_len PySem.boot_len (da_cons (de_var (pv 1)) da_nil rfl)) cd_len) da_nil rfl) rfl) (by decide) rfl rfl) (fun _ _ => rfl)))))
theorem G__law_low (T : Txt K mg) : FnS P w K mg base 1 T.f__law_low.a T.f__law_low.fd ["top", "low"] m__law_low :=
  def_ok T.f__law_low.F sc__law_low fun cdv A outer sh H E q hpo =>
  (dss_cons (by exact (dst_par2 (ps_par (i := 2) (j := 3) rfl sc__law_low.nd rfl rfl (by decide) rfl rfl (da_cons (de_call (pe_callB (call_max2 rfl) (by rfl) T.z_max (by decide +kernel) (da_cons (de_var (pv 0)) (da_cons (de_sub de_int (de_var (pv 0))) da_nil rfl) rfl)) cd_max) (da_cons (de_call (pe_callB (call_max2 rfl) (by rfl) T.z_max (by decide +kernel) (da_cons (de_var (pv 1)) (da_cons (de_sub de_int (de_var (pv 1))) da_nil rfl) rfl)) cd_max) da_nil rfl) rfl) (by rfl))))
  (dss_cons (by exact (dst_while (cl := []) (N := turns) (ps_while hpo (dt_cmp cmp_gt (de_var (pv 3)) de_int (nomark _))
  (dss_one (by exact (dst_par2 (ps_par (i := 2) (j := 3) rfl sc__law_low.nd rfl rfl (by decide) rfl rfl (da_cons (de_var (pv 3)) (da_cons (de_mod (de_var (pv 2)) (de_var (pv 3))) da_nil rfl) rfl) (by rfl))))))))
  (dss_cons (by exact (dst_set (ps_set (i := 2) sc__law_low.nd rfl (.inl rfl) (de_if (dt_cmp cmp_gt (de_var (pv 1)) de_int (nomark _)) (de_var (pv 2)) (de_sub de_int (de_var (pv 2)))))))
  (dss_one (by exact (dst_ret (de_tup (da_cons (de_div (de_var (pv 0)) (de_var (pv 2))) (da_cons (de_div (de_var (pv 1)) (de_var (pv 2))) da_nil rfl) rfl))))))))
theorem G__law_add (T : Txt K mg) : FnS P w K mg base 2 T.f__law_add.a T.f__law_add.fd ["one", "other"] m__law_add :=
  def_ok T.f__law_add.F sc__law_add fun cdv A outer sh H E q hpo =>
  (dss_one (by exact (dst_ret (de_fn q (G__law_low T) (by decide) (by rfl) T.f__law_low.g T.f__law_low.F.kp T.f__law_low.b (da_cons (de_addU rfl (de_mulU rfl (de_ix rfl q.hu (de_var (pv 0)) de_int (fun _ _ => rfl)) (de_ix rfl q.hu (de_var (pv 1)) de_int (fun _ _ => rfl))) (de_mulU rfl (de_ix rfl q.hu (de_var (pv 1)) de_int (fun _ _ => rfl)) (de_ix rfl q.hu (de_var (pv 0)) de_int (fun _ _ => rfl)))) (da_cons (de_mulU rfl (de_ix rfl q.hu (de_var (pv 0)) de_int (fun _ _ => rfl)) (de_ix rfl q.hu (de_var (pv 1)) de_int (fun _ _ => rfl))) da_nil rfl) rfl) (by decide) rfl rfl))))
theorem G__law_mul (T : Txt K mg) : FnS P w K mg base 2 T.f__law_mul.a T.f__law_mul.fd ["one", "other"] m__law_mul :=
  def_ok T.f__law_mul.F sc__law_mul fun cdv A outer sh H E q hpo =>
  (dss_one (by exact (dst_ret (de_fn q (G__law_low T) (by decide) (by rfl) T.f__law_low.g T.f__law_low.F.kp T.f__law_low.b (da_cons (de_mulU rfl (de_ix rfl q.hu (de_var (pv 0)) de_int (fun _ _ => rfl)) (de_ix rfl q.hu (de_var (pv 1)) de_int (fun _ _ => rfl))) (da_cons (de_mulU rfl (de_ix rfl q.hu (de_var (pv 0)) de_int (fun _ _ => rfl)) (de_ix rfl q.hu (de_var (pv 1)) de_int (fun _ _ => rfl))) da_nil rfl) rfl) (by decide) rfl rfl))))
theorem G__law_total (T : Txt K mg) : FnS P w K mg base 3 T.f__law_total.a T.f__law_total.fd ["numbers"] m__law_total :=
  def_ok T.f__law_total.F sc__law_total fun cdv A outer sh H E q hpo =>
  (dss_cons (by exact (dst_set (ps_set (i := 1) sc__law_total.nd rfl (.inl rfl) (de_tup (da_cons de_int (da_cons de_int da_nil rfl) rfl)))))
  (dss_cons (by exact (dst_for (cl := [2]) (vs := [2]) (ps_for hpo rfl (di_seq rfl (de_var (pv 0))) (pg_name (i := 2) sc__law_total.nd rfl (.inl rfl))
  (dss_one (by exact (dst_set (ps_set (i := 1) sc__law_total.nd rfl (.inl rfl) (de_fn q (G__law_add T) (by decide) (by rfl) T.f__law_add.g T.f__law_add.F.kp T.f__law_add.b (da_cons (de_var (pv 1)) (da_cons (de_var (pv 2)) da_nil rfl) rfl) (by decide) rfl rfl)))))) (tg_name (by decide))))
  (dss_one (by exact (dst_ret (de_var (pv 1)))))))
theorem G__law_ratio (T : Txt K mg) : FnS P w K mg base 2 T.f__law_ratio.a T.f__law_ratio.fd ["row", "most"] m__law_ratio :=
  def_ok T.f__law_ratio.F sc__law_ratio fun cdv A outer sh H E q hpo =>
  (dss_one (by exact (dst_ret (de_fn q (G__law_low T) (by decide) (by rfl) T.f__law_low.g T.f__law_low.F.kp T.f__law_low.b (da_cons (de_sub (de_fn q (G__law_taken T) (by decide) (by rfl) T.f__law_taken.g T.f__law_taken.F.kp T.f__law_taken.b (da_cons (de_var (pv 0)) (da_cons (de_addU rfl (de_mulU rfl de_int (de_var (pv 1))) de_int) da_nil rfl) rfl) (by decide) rfl rfl) (de_var (pv 1))) (da_cons (de_addU rfl de_int (de_fn q (G__law_taken T) (by decide) (by rfl) T.f__law_taken.g T.f__law_taken.F.kp T.f__law_taken.b (da_cons (de_var (pv 0)) (da_cons de_int da_nil rfl) rfl) (by decide) rfl rfl)) da_nil rfl) rfl) (by decide) rfl rfl))))
theorem G__law_times (T : Txt K mg) : FnS P w K mg base 4 T.f__law_times.a T.f__law_times.fd ["rows", "point"] m__law_times :=
  def_ok T.f__law_times.F sc__law_times fun cdv A outer sh H E q hpo =>
  (dss_one (by exact (dst_ret (de_fz (dl_comp (own' := [("line", 2)]) (pe_lc rfl sc__law_times.nd (di_seq rfl (de_var (pv 0))) (blkOk_by (own := [("line", 2)]) (by first | (dsimp only [Cx.blk, cxOf, compEnvC, envOfC]; decide +kernel) | exact (by with_unfolding_all rfl))) (fun s1_ H1_ C1_ cl1_ fp1_ => (pg_name (i := 2) sc__law_times.nd rfl (by first | exact .inl rfl | exact .inr rfl))) (fun s1_ H1_ C1_ cl1_ fp1_ => dts_nil) (fun s1_ H1_ C1_ cl1_ fp1_ => (de_fn (q.blk s1_ H1_ _ _ fp1_) (G__law_total T) (by decide) (by rfl) T.f__law_total.g T.f__law_total.F.kp T.f__law_total.b (da_cons (de_fz (dl_comp (own' := [("one", 3), ("two", 4)]) (pe_lc rfl sc__law_times.nd (di_zip rfl (pi_zipB (by rfl) T.z_zip (da_cons (de_var (pv 2)) (da_cons (de_var (pv 1)) da_nil rfl) rfl))) (blkOk_by (own := [("one", 3), ("two", 4)]) (by first | (dsimp only [Cx.blk, cxOf, compEnvC, envOfC]; decide +kernel) | exact (by with_unfolding_all rfl))) (fun s2_ H2_ C2_ cl2_ fp2_ => (pg_tup rfl (pgs_cons (pg_name (i := 3) sc__law_times.nd rfl (by first | exact .inl rfl | exact .inr rfl)) (pgs_cons (pg_name (i := 4) sc__law_times.nd rfl (by first | exact .inl rfl | exact .inr rfl)) pgs_nil)))) (fun s2_ H2_ C2_ cl2_ fp2_ => dts_nil) (fun s2_ H2_ C2_ cl2_ fp2_ => (de_fn ((q.blk s1_ H1_ _ _ fp1_).blk s2_ H2_ _ _ fp2_) (G__law_mul T) (by decide) (by rfl) T.f__law_mul.g T.f__law_mul.F.kp T.f__law_mul.b (da_cons (de_var (pv 3)) (da_cons (de_var (pv 4)) da_nil rfl) rfl) (by decide) rfl rfl))) (tg_tup (tgs_cons (tg_name (by decide)) (tgs_cons (tg_name (by decide)) tgs_nil))))) da_nil rfl) (by decide) rfl rfl))) (tg_name (by decide)))))))
theorem G_law (T : Txt K mg) : FnS P w K mg base 7 T.f_law.a T.f_law.fd ["script"] m_law_N01 :=
  def_ok T.f_law.F sc_law fun cdv A outer sh H E q hpo =>
  (dss_cons (by exact (dst_set (ps_set (i := 1) sc_law.nd rfl (.inr rfl) (de_own (dl_lst (da_cons (de_var (pv 0)) (da_cons de_int (da_cons de_int (da_cons de_int da_nil rfl) rfl) rfl) rfl))))))
  (dss_cons (by exact (dst_parC2 (ps_asg (pe_tupN (da_cons (de_addU rfl de_int (de_fn q (G__law_taken T) (by decide) (by rfl) T.f__law_taken.g T.f__law_taken.F.kp T.f__law_taken.b (da_cons (de_var (pv 1)) (da_cons de_int da_nil rfl) rfl) (by decide) rfl rfl)) (da_cons (de_addU rfl de_int (de_fn q (G__law_taken T) (by decide) (by rfl) T.f__law_taken.g T.f__law_taken.F.kp T.f__law_taken.b (da_cons (de_var (pv 1)) (da_cons de_int da_nil rfl) rfl) (by decide) rfl rfl)) da_nil rfl) rfl)) (pg_tup rfl (pgs_cons (pg_name (i := 2) sc_law.nd rfl (.inr rfl)) (pgs_cons (pg_name (i := 3) sc_law.nd rfl (.inr rfl)) pgs_nil))))))
  (dss_cons (by exact (dst_set (ps_set (i := 4) sc_law.nd rfl (.inr rfl) (de_own (dl_comp (own' := [("turn", 17)]) (pe_lc rfl sc_law.nd (di_range1 (pi_range1 (by rfl) T.z_range (da_cons (de_var (pv 2)) da_nil rfl))) (blkOk_by (own := [("turn", 17)]) (by first | (dsimp only [Cx.blk, cxOf, compEnvC, envOfC]; decide +kernel) | exact (by with_unfolding_all rfl))) (fun s1_ H1_ C1_ cl1_ fp1_ => (pg_name (i := 17) sc_law.nd rfl (by first | exact .inl rfl | exact .inr rfl))) (fun s1_ H1_ C1_ cl1_ fp1_ => dts_nil) (fun s1_ H1_ C1_ cl1_ fp1_ => (de_call (pe_callTy call_tupleN (by rfl) T.z_tuple (by decide +kernel) (da_cons (de_fz (dl_comp (own' := [("column", 18)]) (pe_lc rfl sc_law.nd (di_range1 (pi_range1 (by rfl) T.z_range (da_cons (de_var (pv 3)) da_nil rfl))) (blkOk_by (own := [("column", 18)]) (by first | (dsimp only [Cx.blk, cxOf, compEnvC, envOfC]; decide +kernel) | exact (by with_unfolding_all rfl))) (fun s2_ H2_ C2_ cl2_ fp2_ => (pg_name (i := 18) sc_law.nd rfl (by first | exact .inl rfl | exact .inr rfl))) (fun s2_ H2_ C2_ cl2_ fp2_ => dts_nil) (fun s2_ H2_ C2_ cl2_ fp2_ => (de_fn ((q.blk s1_ H1_ _ _ fp1_).blk s2_ H2_ _ _ fp2_) (G__law_ratio T) (by decide) (by rfl) T.f__law_ratio.g T.f__law_ratio.F.kp T.f__law_ratio.b (da_cons (de_var (pv 1)) (da_cons de_int da_nil rfl) rfl) (by decide) rfl rfl))) (tg_name (by decide)))) da_nil rfl)) cd_tuple))) (tg_name (by decide)))))))
  (dss_cons (by exact (dst_if (dt_w (dw_and (dt_cmp cmp_gt (de_var (pv 2)) de_int (nomark _)) (dw_and1 (dt_cmp (cmp_eq rfl q.hu) (de_fn q (G__law_taken T) (by decide) (by rfl) T.f__law_taken.g T.f__law_taken.F.kp T.f__law_taken.b (da_cons (de_var (pv 1)) (da_cons de_int da_nil rfl) rfl) (by decide) rfl rfl) de_int (nomark _)))))
  (dss_cons (by exact (dst_set (ps_set (i := 5) sc_law.nd rfl (.inr rfl) (de_fn q (G__law_ratio T) (by decide) (by rfl) T.f__law_ratio.g T.f__law_ratio.F.kp T.f__law_ratio.b (da_cons (de_var (pv 1)) (da_cons de_int da_nil rfl) rfl) (by decide) rfl rfl))))
  (dss_one (by exact (dst_put (ps_asg (de_call (pe_callTy call_tupleN (by rfl) T.z_tuple (by decide +kernel) (da_cons (de_fz (dl_comp (own' := [("one", 19)]) (pe_lc rfl sc_law.nd (di_seq rfl (de_ix rfl q.hu (de_var (pv 4)) de_int (fun _ _ => rfl))) (blkOk_by (own := [("one", 19)]) (by first | (dsimp only [Cx.blk, cxOf, compEnvC, envOfC]; decide +kernel) | exact (by with_unfolding_all rfl))) (fun s1_ H1_ C1_ cl1_ fp1_ => (pg_name (i := 19) sc_law.nd rfl (by first | exact .inl rfl | exact .inr rfl))) (fun s1_ H1_ C1_ cl1_ fp1_ => dts_nil) (fun s1_ H1_ C1_ cl1_ fp1_ => (de_fn (q.blk s1_ H1_ _ _ fp1_) (G__law_mul T) (by decide) (by rfl) T.f__law_mul.g T.f__law_mul.F.kp T.f__law_mul.b (da_cons (de_var (pv 5)) (da_cons (de_var (pv 19)) da_nil rfl) rfl) (by decide) rfl rfl))) (tg_name (by decide)))) da_nil rfl)) cd_tuple) (pg_sub (de_var (pv 4)) de_int (set_u q.hu)))))))
  dss_nil))
  (dss_frz (i := 4) (dss_cons (by exact (dst_par2 (ps_par (i := 6) (j := 7) rfl sc_law.nd rfl rfl (by decide) rfl rfl (da_cons (de_call (pe_callTy call_tupleN (by rfl) T.z_tuple (by decide +kernel) (da_cons (de_var (pv 4)) da_nil rfl)) cd_tuple) (da_cons (de_fz (dl_comp (own' := [("column", 18)]) (pe_lc rfl sc_law.nd (di_range1 (pi_range1 (by rfl) T.z_range (da_cons (de_var (pv 3)) da_nil rfl))) (blkOk_by (own := [("column", 18)]) (by first | (dsimp only [Cx.blk, cxOf, compEnvC, envOfC]; decide +kernel) | exact (by with_unfolding_all rfl))) (fun s1_ H1_ C1_ cl1_ fp1_ => (pg_name (i := 18) sc_law.nd rfl (by first | exact .inl rfl | exact .inr rfl))) (fun s1_ H1_ C1_ cl1_ fp1_ => dts_nil) (fun s1_ H1_ C1_ cl1_ fp1_ => (de_fn (q.blk s1_ H1_ _ _ fp1_) (G__law_ratio T) (by decide) (by rfl) T.f__law_ratio.g T.f__law_ratio.F.kp T.f__law_ratio.b (da_cons (de_var (pv 1)) (da_cons de_int da_nil rfl) rfl) (by decide) rfl rfl))) (tg_name (by decide)))) da_nil rfl) rfl) (by rfl))))
  (dss_cons (by exact (dst_set (ps_set (i := 8) sc_law.nd rfl (.inl rfl) (de_call (pe_callTy call_tupleN (by rfl) T.z_tuple (by decide +kernel) (da_cons (de_if (dt_cmp (cmp_eq rfl q.hu) (de_fn q (G__law_taken T) (by decide) (by rfl) T.f__law_taken.g T.f__law_taken.F.kp T.f__law_taken.b (da_cons (de_var (pv 1)) (da_cons de_int da_nil rfl) rfl) (by decide) rfl rfl) de_int (nomark _)) (de_fn q (G__law_times T) (by decide) (by rfl) T.f__law_times.g T.f__law_times.F.kp T.f__law_times.b (da_cons (de_var (pv 6)) (da_cons (de_var (pv 7)) da_nil rfl) rfl) (by decide) rfl rfl) (de_fz (dl_comp (own' := [("line", 20)]) (pe_lc rfl sc_law.nd (di_seq rfl (de_var (pv 4))) (blkOk_by (own := [("line", 20)]) (by first | (dsimp only [Cx.blk, cxOf, compEnvC, envOfC]; decide +kernel) | exact (by with_unfolding_all rfl))) (fun s1_ H1_ C1_ cl1_ fp1_ => (pg_name (i := 20) sc_law.nd rfl (by first | exact .inl rfl | exact .inr rfl))) (fun s1_ H1_ C1_ cl1_ fp1_ => dts_nil) (fun s1_ H1_ C1_ cl1_ fp1_ => (de_fn (q.blk s1_ H1_ _ _ fp1_) (G__law_ratio T) (by decide) (by rfl) T.f__law_ratio.g T.f__law_ratio.F.kp T.f__law_ratio.b (da_cons (de_var (pv 1)) (da_cons de_int da_nil rfl) rfl) (by decide) rfl rfl))) (tg_name (by decide))))) da_nil rfl)) cd_tuple))))
  (dss_cons (by exact (dst_par2 (ps_par (i := 9) (j := 10) rfl sc_law.nd rfl rfl (by decide) rfl rfl (da_cons (de_fn q (G_solved T) (by decide) (by rfl) T.f_solved.g T.f_solved.F.kp T.f_solved.b (da_cons (de_var (pv 6)) (da_cons (de_var (pv 8)) da_nil rfl) rfl) (by decide) rfl rfl) (da_cons (de_fn q (G_rank T) (by decide) (by rfl) T.f_rank.g T.f_rank.F.kp T.f_rank.b (da_cons (de_var (pv 6)) da_nil rfl) (by decide) rfl rfl) da_nil rfl) rfl) (by rfl))))
  (dss_cons (by exact (dst_if (dt_w (dw_or (dt_tru rfl (de_isi (pe_callB call_isi (by rfl) T.z_isinstance (by decide +kernel) (pa_cons (de_var (pv 10)) (pa_cons (pe_bltn (v := .ty "bool") (by rfl) T.z_bool (by decide +kernel) rfl) pa_nil)))) (fun _ => rfl)) (dw_or (dt_not (dt_tru rfl (de_isi (pe_callB call_isi (by rfl) T.z_isinstance (by decide +kernel) (pa_cons (de_var (pv 10)) (pa_cons (pe_bltn (v := .ty "int") (by rfl) T.z_int (by decide +kernel) rfl) pa_nil)))) (fun _ => rfl))) (dw_or1 (dt_not (dt_chain cmp_le cmp_le de_int (de_var (pv 10)) (de_call (pe_callB (call_min2 rfl) (by rfl) T.z_min (by decide +kernel) (da_cons (de_var (pv 2)) (da_cons (de_var (pv 3)) da_nil rfl) rfl)) cd_min) (by with_unfolding_all rfl)))))))
  (dss_one (by exact (dst_ret de_bl)))
  dss_nil))
  (dss_cons (by exact (dst_if (dt_cmp (cmp_eq rfl q.hu) (de_ix rfl q.hu (de_var (pv 9)) de_int (fun _ _ => rfl)) de_str (nomark _))
  (dss_cons (by exact (dst_set (ps_set (i := 11) sc_law.nd rfl (.inl rfl) (de_fn q (G__law_times T) (by decide) (by rfl) T.f__law_times.g T.f__law_times.F.kp T.f__law_times.b (da_cons (de_fz (dl_comp (own' := [("at", 14)]) (pe_lc rfl sc_law.nd (di_range1 (pi_range1 (by rfl) T.z_range (da_cons (de_var (pv 3)) da_nil rfl))) (blkOk_by (own := [("at", 14)]) (by first | (dsimp only [Cx.blk, cxOf, compEnvC, envOfC]; decide +kernel) | exact (by with_unfolding_all rfl))) (fun s1_ H1_ C1_ cl1_ fp1_ => (pg_name (i := 14) sc_law.nd rfl (by first | exact .inl rfl | exact .inr rfl))) (fun s1_ H1_ C1_ cl1_ fp1_ => dts_nil) (fun s1_ H1_ C1_ cl1_ fp1_ => (de_call (pe_callTy call_tupleN (by rfl) T.z_tuple (by decide +kernel) (da_cons (de_fz (dl_comp (own' := [("line", 20)]) (pe_lc rfl sc_law.nd (di_seq rfl (de_var (pv 4))) (blkOk_by (own := [("line", 20)]) (by first | (dsimp only [Cx.blk, cxOf, compEnvC, envOfC]; decide +kernel) | exact (by with_unfolding_all rfl))) (fun s2_ H2_ C2_ cl2_ fp2_ => (pg_name (i := 20) sc_law.nd rfl (by first | exact .inl rfl | exact .inr rfl))) (fun s2_ H2_ C2_ cl2_ fp2_ => dts_nil) (fun s2_ H2_ C2_ cl2_ fp2_ => (de_ix rfl ((q.blk s1_ H1_ _ _ fp1_).blk s2_ H2_ _ _ fp2_).hu (de_var (pv 20)) (de_var (pv 14)) (fun _ _ => rfl)))) (tg_name (by decide)))) da_nil rfl)) cd_tuple))) (tg_name (by decide)))) (da_cons (de_ix rfl q.hu (de_var (pv 9)) de_int (fun _ _ => rfl)) da_nil rfl) rfl) (by decide) rfl rfl))))
  (dss_cons (by exact (dst_if (dt_w (dw_or (dt_cmp (cmp_ne rfl q.hu) (de_fz (dl_comp (own' := [("one", 19)]) (pe_lc rfl sc_law.nd (di_seq rfl (de_var (pv 11))) (blkOk_by (own := [("one", 19)]) (by first | (dsimp only [Cx.blk, cxOf, compEnvC, envOfC]; decide +kernel) | exact (by with_unfolding_all rfl))) (fun s1_ H1_ C1_ cl1_ fp1_ => (pg_name (i := 19) sc_law.nd rfl (by first | exact .inl rfl | exact .inr rfl))) (fun s1_ H1_ C1_ cl1_ fp1_ => (dts_one (dt_cmp (cmp_ne rfl (q.blk s1_ H1_ _ _ fp1_).hu) (de_var (pv 19)) (de_tup (da_cons de_int (da_cons de_int da_nil rfl) rfl)) (nomark _)))) (fun s1_ H1_ C1_ cl1_ fp1_ => (de_var (pv 19)))) (tg_name (by decide)))) (de_fz (dl_lst da_nil)) (nomark _)) (dw_or1 (dt_cmp (cmp_ne rfl q.hu) (de_call (pe_callB cr_len (by rfl) T.z_len PySem.boot_len (da_cons (de_ix rfl q.hu (de_var (pv 9)) de_int (fun _ _ => rfl)) da_nil rfl)) cd_len) (de_var (pv 2)) (nomark _)))))
  (dss_one (by exact (dst_ret de_bl)))
  dss_nil))
  (dss_one (by exact (dst_if (dt_cmp (cmp_eq rfl q.hu) (de_ix rfl q.hu (de_fn q (G__law_total T) (by decide) (by rfl) T.f__law_total.g T.f__law_total.F.kp T.f__law_total.b (da_cons (de_fz (dl_comp (own' := [("one", 19), ("two", 21)]) (pe_lc rfl sc_law.nd (di_zip rfl (pi_zipB (by rfl) T.z_zip (da_cons (de_ix rfl q.hu (de_var (pv 9)) de_int (fun _ _ => rfl)) (da_cons (de_var (pv 8)) da_nil rfl) rfl))) (blkOk_by (own := [("one", 19), ("two", 21)]) (by first | (dsimp only [Cx.blk, cxOf, compEnvC, envOfC]; decide +kernel) | exact (by with_unfolding_all rfl))) (fun s1_ H1_ C1_ cl1_ fp1_ => (pg_tup rfl (pgs_cons (pg_name (i := 19) sc_law.nd rfl (by first | exact .inl rfl | exact .inr rfl)) (pgs_cons (pg_name (i := 21) sc_law.nd rfl (by first | exact .inl rfl | exact .inr rfl)) pgs_nil)))) (fun s1_ H1_ C1_ cl1_ fp1_ => dts_nil) (fun s1_ H1_ C1_ cl1_ fp1_ => (de_fn (q.blk s1_ H1_ _ _ fp1_) (G__law_mul T) (by decide) (by rfl) T.f__law_mul.g T.f__law_mul.F.kp T.f__law_mul.b (da_cons (de_var (pv 19)) (da_cons (de_var (pv 21)) da_nil rfl) rfl) (by decide) rfl rfl))) (tg_tup (tgs_cons (tg_name (by decide)) (tgs_cons (tg_name (by decide)) tgs_nil))))) da_nil rfl) (by decide) rfl rfl) de_int (fun _ _ => rfl)) de_int (nomark _))
  (dss_one (by exact (dst_ret de_bl)))
  dss_nil)))))
  (dss_one (by exact (dst_if (dt_w (dw_or (dt_cmp (cmp_ne rfl q.hu) (de_call (pe_callB cr_len (by rfl) T.z_len PySem.boot_len (da_cons (de_ix rfl q.hu (de_var (pv 9)) de_int (fun _ _ => rfl)) da_nil rfl)) cd_len) (de_var (pv 3)) (nomark _)) (dw_or1 (dt_cmp (cmp_ne rfl q.hu) (de_fn q (G__law_times T) (by decide) (by rfl) T.f__law_times.g T.f__law_times.F.kp T.f__law_times.b (da_cons (de_var (pv 6)) (da_cons (de_ix rfl q.hu (de_var (pv 9)) de_int (fun _ _ => rfl)) da_nil rfl) rfl) (by decide) rfl rfl) (de_fz (dl_call (pe_callTy call_list_of (by rfl) T.z_list (by decide +kernel) (da_cons (de_var (pv 8)) da_nil rfl)) cd_list)) (nomark _)))))
  (dss_one (by exact (dst_ret de_bl)))
  (dss_one (by exact (dst_if (dt_cmp (cmp_ne rfl q.hu) (de_ix rfl q.hu (de_var (pv 9)) de_int (fun _ _ => rfl)) (de_if (dt_cmp (cmp_eq rfl q.hu) (de_var (pv 10)) (de_var (pv 3)) (nomark _)) de_str de_str) (nomark _))
  (dss_one (by exact (dst_ret de_bl)))
  dss_nil))))))))
  (dss_cons (by exact (dst_if (dt_cmp (cmp_ne rfl q.hu) (de_fn q (G_rank T) (by decide) (by rfl) T.f_rank.g T.f_rank.F.kp T.f_rank.b (da_cons (de_call (pe_callTy call_tupleN (by rfl) T.z_tuple (by decide +kernel) (da_cons (de_fz (dl_comp (own' := [("at", 14)]) (pe_lc rfl sc_law.nd (di_range1 (pi_range1 (by rfl) T.z_range (da_cons (de_var (pv 3)) da_nil rfl))) (blkOk_by (own := [("at", 14)]) (by first | (dsimp only [Cx.blk, cxOf, compEnvC, envOfC]; decide +kernel) | exact (by with_unfolding_all rfl))) (fun s1_ H1_ C1_ cl1_ fp1_ => (pg_name (i := 14) sc_law.nd rfl (by first | exact .inl rfl | exact .inr rfl))) (fun s1_ H1_ C1_ cl1_ fp1_ => dts_nil) (fun s1_ H1_ C1_ cl1_ fp1_ => (de_call (pe_callTy call_tupleN (by rfl) T.z_tuple (by decide +kernel) (da_cons (de_fz (dl_comp (own' := [("line", 20)]) (pe_lc rfl sc_law.nd (di_seq rfl (de_var (pv 4))) (blkOk_by (own := [("line", 20)]) (by first | (dsimp only [Cx.blk, cxOf, compEnvC, envOfC]; decide +kernel) | exact (by with_unfolding_all rfl))) (fun s2_ H2_ C2_ cl2_ fp2_ => (pg_name (i := 20) sc_law.nd rfl (by first | exact .inl rfl | exact .inr rfl))) (fun s2_ H2_ C2_ cl2_ fp2_ => dts_nil) (fun s2_ H2_ C2_ cl2_ fp2_ => (de_ix rfl ((q.blk s1_ H1_ _ _ fp1_).blk s2_ H2_ _ _ fp2_).hu (de_var (pv 20)) (de_var (pv 14)) (fun _ _ => rfl)))) (tg_name (by decide)))) da_nil rfl)) cd_tuple))) (tg_name (by decide)))) da_nil rfl)) cd_tuple) da_nil rfl) (by decide) rfl rfl) (de_var (pv 10)) (nomark _))
  (dss_one (by exact (dst_ret de_bl)))
  dss_nil))
  (dss_cons (by exact (dst_set (ps_set (i := 12) sc_law.nd rfl (.inl rfl) (de_call (pe_callTy call_tupleN (by rfl) T.z_tuple (by decide +kernel) (da_cons (de_fz (dl_comp (own' := [("turn", 17)]) (pe_lc rfl sc_law.nd (di_range1 (pi_range1 (by rfl) T.z_range (da_cons (de_var (pv 2)) da_nil rfl))) (blkOk_by (own := [("turn", 17)]) (by first | (dsimp only [Cx.blk, cxOf, compEnvC, envOfC]; decide +kernel) | exact (by with_unfolding_all rfl))) (fun s1_ H1_ C1_ cl1_ fp1_ => (pg_name (i := 17) sc_law.nd rfl (by first | exact .inl rfl | exact .inr rfl))) (fun s1_ H1_ C1_ cl1_ fp1_ => dts_nil) (fun s1_ H1_ C1_ cl1_ fp1_ => (de_call (pe_callTy call_tupleN (by rfl) T.z_tuple (by decide +kernel) (da_cons (de_fz (dl_comp (own' := [("column", 18)]) (pe_lc rfl sc_law.nd (di_range1 (pi_range1 (by rfl) T.z_range (da_cons (de_var (pv 2)) da_nil rfl))) (blkOk_by (own := [("column", 18)]) (by first | (dsimp only [Cx.blk, cxOf, compEnvC, envOfC]; decide +kernel) | exact (by with_unfolding_all rfl))) (fun s2_ H2_ C2_ cl2_ fp2_ => (pg_name (i := 18) sc_law.nd rfl (by first | exact .inl rfl | exact .inr rfl))) (fun s2_ H2_ C2_ cl2_ fp2_ => dts_nil) (fun s2_ H2_ C2_ cl2_ fp2_ => (de_fn ((q.blk s1_ H1_ _ _ fp1_).blk s2_ H2_ _ _ fp2_) (G__law_ratio T) (by decide) (by rfl) T.f__law_ratio.g T.f__law_ratio.F.kp T.f__law_ratio.b (da_cons (de_var (pv 1)) (da_cons de_int da_nil rfl) rfl) (by decide) rfl rfl))) (tg_name (by decide)))) da_nil rfl)) cd_tuple))) (tg_name (by decide)))) da_nil rfl)) cd_tuple))))
  (dss_cons (by exact (dst_set (ps_set (i := 13) sc_law.nd rfl (.inl rfl) (de_fn q (G_inverse T) (by decide) (by rfl) T.f_inverse.g T.f_inverse.F.kp T.f_inverse.b (da_cons (de_var (pv 12)) da_nil rfl) (by decide) rfl rfl))))
  (dss_cons (by exact (dst_if (dt_cmp (cmp_ne rfl q.hu) (de_cmp cmp_isN (de_var (pv 13)) de_non (nomark _)) (de_cmp cmp_lt (de_fn q (G_rank T) (by decide) (by rfl) T.f_rank.g T.f_rank.F.kp T.f_rank.b (da_cons (de_var (pv 12)) da_nil rfl) (by decide) rfl rfl) (de_var (pv 2)) (nomark _)) (nomark _))
  (dss_one (by exact (dst_ret de_bl)))
  dss_nil))
  (dss_cons (by exact (dst_for (cl := [15]) (vs := [14]) (ps_for hpo rfl (di_range1 (pi_range1 (by rfl) T.z_range (da_cons (de_var (pv 2)) da_nil rfl))) (pg_name (i := 14) sc_law.nd rfl (.inr rfl))
  (dss_cons (by exact (dst_setFz (i := 15) (ps_setLc rfl sc_law.nd rfl rfl (sw_true rfl rfl rfl (by decide +kernel)) (di_range1 (pi_range1 (by rfl) T.z_range (da_cons (de_var (pv 2)) da_nil rfl))) (blkOk_by (own := [("place", 22)]) (by first | (dsimp only [Cx.blk, cxOf, compEnvC, envOfC]; decide +kernel) | exact (by with_unfolding_all rfl))) (fun s1_ H1_ C1_ cl1_ fp1_ => (pg_name (i := 22) sc_law.nd rfl (by first | exact .inl rfl | exact .inr rfl))) (fun s1_ H1_ C1_ cl1_ fp1_ => dts_nil) (fun s1_ H1_ C1_ cl1_ fp1_ => (de_if (dt_cmp (cmp_eq rfl (q.blk s1_ H1_ _ _ fp1_).hu) (de_var (pv 22)) (de_var (pv 14)) (nomark _)) (de_tup (da_cons de_int (da_cons de_int da_nil rfl) rfl)) (de_tup (da_cons de_int (da_cons de_int da_nil rfl) rfl))))) (fun _ _ _ z => comp_i (tg_name (by decide)) _ _ _ z)))
  (dss_one (by exact (dst_if (dt_w (dw_and (dt_cmp cmp_notN (de_var (pv 13)) de_non (nomark _)) (dw_and1 (dt_cmp (cmp_ne rfl q.hu) (de_fn q (G__law_times T) (by decide) (by rfl) T.f__law_times.g T.f__law_times.F.kp T.f__law_times.b (da_cons (de_var (pv 12)) (da_cons (de_fz (dl_comp (own' := [("line", 20)]) (pe_lc rfl sc_law.nd (di_seq rfl (de_var (pv 13))) (blkOk_by (own := [("line", 20)]) (by first | (dsimp only [Cx.blk, cxOf, compEnvC, envOfC]; decide +kernel) | exact (by with_unfolding_all rfl))) (fun s1_ H1_ C1_ cl1_ fp1_ => (pg_name (i := 20) sc_law.nd rfl (by first | exact .inl rfl | exact .inr rfl))) (fun s1_ H1_ C1_ cl1_ fp1_ => dts_nil) (fun s1_ H1_ C1_ cl1_ fp1_ => (de_ix rfl (q.blk s1_ H1_ _ _ fp1_).hu (de_var (pv 20)) (de_var (pv 14)) (fun _ _ => rfl)))) (tg_name (by decide)))) da_nil rfl) rfl) (by decide) rfl rfl) (de_var (pv 15)) (nomark _)))))
  (dss_one (by exact (dst_ret de_bl)))
  dss_nil))))) (tg_name (by decide))))
  (dss_cons (by exact (dst_try (i := 16) q T.c_BadTable.g T.c_BadTable.e (L2N.ps_try_as (i := 16) (tb := fun W => tSS (Cn.try _ W) _) rfl rfl sc_law.nd rfl rfl ⟨rfl, by decide, .inl T.c_BadTable.g⟩ takes0N
  (fun W pn xe tk po => (fun qt => (dss_one (by exact (dst_expr (ps_expr (de_fn qt (G_rank T) (by decide) (by rfl) T.f_rank.g T.f_rank.F.kp T.f_rank.b (da_cons (de_fn qt (G__law_pick T) (by decide) (by rfl) T.f__law_pick.g T.f__law_pick.F.kp T.f__law_pick.b (da_cons (de_var (pv 1)) (da_cons (de_fz (dl_lst (da_cons (de_tup da_nil) (da_cons (de_tup (da_cons (de_tup da_nil) da_nil rfl)) (da_cons (de_tup (da_cons (de_tup (da_cons (de_tup (da_cons de_int (da_cons de_int da_nil rfl) rfl)) da_nil rfl)) (da_cons (de_tup (da_cons (de_tup (da_cons de_int (da_cons de_int da_nil rfl) rfl)) (da_cons (de_tup (da_cons de_int (da_cons de_int da_nil rfl) rfl)) da_nil rfl) rfl)) da_nil rfl) rfl)) (da_cons (de_tup (da_cons (de_tup (da_cons (de_tup (da_cons de_int (da_cons de_int da_nil rfl) rfl)) da_nil rfl)) da_nil rfl)) (da_cons (de_fz (dl_lst (da_cons (de_tup (da_cons (de_tup (da_cons de_int (da_cons de_int da_nil rfl) rfl)) da_nil rfl)) da_nil rfl))) (da_cons (de_tup (da_cons (de_tup (da_cons (de_tup (da_cons de_bl (da_cons de_int da_nil rfl) rfl)) da_nil rfl)) da_nil rfl)) da_nil rfl) rfl) rfl) rfl) rfl) rfl))) da_nil rfl) rfl) (by decide) rfl rfl) da_nil rfl) (by decide) rfl rfl)))))) (Kx.tr q tk)) (fun a oe cls d pn hz hf => (dss_one (by exact (dst_ret de_bl)))))))
  (dss_one (by exact (dst_ret de_bl)))))))))))))))))))
end
end N01

set_option Elab.async false
set_option linter.all false
set_option maxRecDepth 100000
set_option autoImplicit false
set_option maxHeartbeats 0
namespace N01
open PySem PySem.Spec PyProof.Rows L2 WK
section
variable {K : PySem.W.Frag} {h : Heap} {mg : Str → Option Value}
theorem b_is_integer : ∀ (kV doc pm : Value) (an : Option Addr) (cdv ct : Value) (us : List Value), us.length = 1 → bindArgs (PySem.W.fnOf "is_integer" "is_integer" (defArgs st_is_integer) (defBody st_is_integer) (defScope st_is_integer) .none kV doc pm an cdv ct) { pos := us } = pure ((["value"] : List Str).zip us) := fun _ _ _ _ _ _ us hl => match us, hl with | [_], _ => rfl
theorem b_is_ratio : ∀ (kV doc pm : Value) (an : Option Addr) (cdv ct : Value) (us : List Value), us.length = 1 → bindArgs (PySem.W.fnOf "is_ratio" "is_ratio" (defArgs st_is_ratio) (defBody st_is_ratio) (defScope st_is_ratio) .none kV doc pm an cdv ct) { pos := us } = pure ((["value"] : List Str).zip us) := fun _ _ _ _ _ _ us hl => match us, hl with | [_], _ => rfl
theorem b_are_ratios : ∀ (kV doc pm : Value) (an : Option Addr) (cdv ct : Value) (us : List Value), us.length = 2 → bindArgs (PySem.W.fnOf "are_ratios" "are_ratios" (defArgs st_are_ratios) (defBody st_are_ratios) (defScope st_are_ratios) .none kV doc pm an cdv ct) { pos := us } = pure ((["value", "count"] : List Str).zip us) := fun _ _ _ _ _ _ us hl => match us, hl with | [_, _], _ => rfl
theorem b_ratio : ∀ (kV doc pm : Value) (an : Option Addr) (cdv ct : Value) (us : List Value), us.length = 2 → bindArgs (PySem.W.fnOf "ratio" "ratio" (defArgs st_ratio) (defBody st_ratio) (defScope st_ratio) .none kV doc pm an cdv ct) { pos := us } = pure ((["top", "low"] : List Str).zip us) := fun _ _ _ _ _ _ us hl => match us, hl with | [_, _], _ => rfl
theorem b_unit : ∀ (kV doc pm : Value) (an : Option Addr) (cdv ct : Value) (us : List Value), us.length = 2 → bindArgs (PySem.W.fnOf "unit" "unit" (defArgs st_unit) (defBody st_unit) (defScope st_unit) .none kV doc pm an cdv ct) { pos := us } = pure ((["count", "place"] : List Str).zip us) := fun _ _ _ _ _ _ us hl => match us, hl with | [_, _], _ => rfl
theorem b_whole : ∀ (kV doc pm : Value) (an : Option Addr) (cdv ct : Value) (us : List Value), us.length = 1 → bindArgs (PySem.W.fnOf "whole" "whole" (defArgs st_whole) (defBody st_whole) (defScope st_whole) .none kV doc pm an cdv ct) { pos := us } = pure ((["row"] : List Str).zip us) := fun _ _ _ _ _ _ us hl => match us, hl with | [_], _ => rfl
theorem b_slim : ∀ (kV doc pm : Value) (an : Option Addr) (cdv ct : Value) (us : List Value), us.length = 1 → bindArgs (PySem.W.fnOf "slim" "slim" (defArgs st_slim) (defBody st_slim) (defScope st_slim) .none kV doc pm an cdv ct) { pos := us } = pure ((["numbers"] : List Str).zip us) := fun _ _ _ _ _ _ us hl => match us, hl with | [_], _ => rfl
theorem b_is_table : ∀ (kV doc pm : Value) (an : Option Addr) (cdv ct : Value) (us : List Value), us.length = 1 → bindArgs (PySem.W.fnOf "is_table" "is_table" (defArgs st_is_table) (defBody st_is_table) (defScope st_is_table) .none kV doc pm an cdv ct) { pos := us } = pure ((["value"] : List Str).zip us) := fun _ _ _ _ _ _ us hl => match us, hl with | [_], _ => rfl
theorem b_check_table : ∀ (kV doc pm : Value) (an : Option Addr) (cdv ct : Value) (us : List Value), us.length = 1 → bindArgs (PySem.W.fnOf "check_table" "check_table" (defArgs st_check_table) (defBody st_check_table) (defScope st_check_table) .none kV doc pm an cdv ct) { pos := us } = pure ((["rows"] : List Str).zip us) := fun _ _ _ _ _ _ us hl => match us, hl with | [_], _ => rfl
theorem b_cleared : ∀ (kV doc pm : Value) (an : Option Addr) (cdv ct : Value) (us : List Value), us.length = 3 → bindArgs (PySem.W.fnOf "cleared" "cleared" (defArgs st_cleared) (defBody st_cleared) (defScope st_cleared) .none kV doc pm an cdv ct) { pos := us } = pure ((["row", "pivot", "col"] : List Str).zip us) := fun _ _ _ _ _ _ us hl => match us, hl with | [_, _, _], _ => rfl
theorem b_eliminated : ∀ (kV doc pm : Value) (an : Option Addr) (cdv ct : Value) (us : List Value), us.length = 2 → bindArgs (PySem.W.fnOf "eliminated" "eliminated" (defArgs st_eliminated) (defBody st_eliminated) (defScope st_eliminated) .none kV doc pm an cdv ct) { pos := us } = pure ((["rows", "width"] : List Str).zip us) := fun _ _ _ _ _ _ us hl => match us, hl with | [_, _], _ => rfl
theorem b_beside_units : ∀ (kV doc pm : Value) (an : Option Addr) (cdv ct : Value) (us : List Value), us.length = 1 → bindArgs (PySem.W.fnOf "beside_units" "beside_units" (defArgs st_beside_units) (defBody st_beside_units) (defScope st_beside_units) .none kV doc pm an cdv ct) { pos := us } = pure ((["rows"] : List Str).zip us) := fun _ _ _ _ _ _ us hl => match us, hl with | [_], _ => rfl
theorem b_rank : ∀ (kV doc pm : Value) (an : Option Addr) (cdv ct : Value) (us : List Value), us.length = 1 → bindArgs (PySem.W.fnOf "rank" "rank" (defArgs st_rank) (defBody st_rank) (defScope st_rank) .none kV doc pm an cdv ct) { pos := us } = pure ((["rows"] : List Str).zip us) := fun _ _ _ _ _ _ us hl => match us, hl with | [_], _ => rfl
theorem b_worked : ∀ (kV doc pm : Value) (an : Option Addr) (cdv ct : Value) (us : List Value), us.length = 3 → bindArgs (PySem.W.fnOf "worked" "worked" (defArgs st_worked) (defBody st_worked) (defScope st_worked) .none kV doc pm an cdv ct) { pos := us } = pure ((["rows", "rights", "width"] : List Str).zip us) := fun _ _ _ _ _ _ us hl => match us, hl with | [_, _, _], _ => rfl
theorem b_refuted : ∀ (kV doc pm : Value) (an : Option Addr) (cdv ct : Value) (us : List Value), us.length = 2 → bindArgs (PySem.W.fnOf "refuted" "refuted" (defArgs st_refuted) (defBody st_refuted) (defScope st_refuted) .none kV doc pm an cdv ct) { pos := us } = pure ((["left", "width"] : List Str).zip us) := fun _ _ _ _ _ _ us hl => match us, hl with | [_, _], _ => rfl
theorem b_solved : ∀ (kV doc pm : Value) (an : Option Addr) (cdv ct : Value) (us : List Value), us.length = 2 → bindArgs (PySem.W.fnOf "solved" "solved" (defArgs st_solved) (defBody st_solved) (defScope st_solved) .none kV doc pm an cdv ct) { pos := us } = pure ((["rows", "rights"] : List Str).zip us) := fun _ _ _ _ _ _ us hl => match us, hl with | [_, _], _ => rfl
theorem b_inverted : ∀ (kV doc pm : Value) (an : Option Addr) (cdv ct : Value) (us : List Value), us.length = 1 → bindArgs (PySem.W.fnOf "inverted" "inverted" (defArgs st_inverted) (defBody st_inverted) (defScope st_inverted) .none kV doc pm an cdv ct) { pos := us } = pure ((["rows"] : List Str).zip us) := fun _ _ _ _ _ _ us hl => match us, hl with | [_], _ => rfl
theorem b_inverse : ∀ (kV doc pm : Value) (an : Option Addr) (cdv ct : Value) (us : List Value), us.length = 1 → bindArgs (PySem.W.fnOf "inverse" "inverse" (defArgs st_inverse) (defBody st_inverse) (defScope st_inverse) .none kV doc pm an cdv ct) { pos := us } = pure ((["rows"] : List Str).zip us) := fun _ _ _ _ _ _ us hl => match us, hl with | [_], _ => rfl
theorem b__law_taken : ∀ (kV doc pm : Value) (an : Option Addr) (cdv ct : Value) (us : List Value), us.length = 2 → bindArgs (PySem.W.fnOf "_law_taken" "_law_taken" (defArgs st__law_taken) (defBody st__law_taken) (defScope st__law_taken) .none kV doc pm an cdv ct) { pos := us } = pure ((["row", "many"] : List Str).zip us) := fun _ _ _ _ _ _ us hl => match us, hl with | [_, _], _ => rfl
theorem b__law_pick : ∀ (kV doc pm : Value) (an : Option Addr) (cdv ct : Value) (us : List Value), us.length = 2 → bindArgs (PySem.W.fnOf "_law_pick" "_law_pick" (defArgs st__law_pick) (defBody st__law_pick) (defScope st__law_pick) .none kV doc pm an cdv ct) { pos := us } = pure ((["row", "things"] : List Str).zip us) := fun _ _ _ _ _ _ us hl => match us, hl with | [_, _], _ => rfl
theorem b__law_low : ∀ (kV doc pm : Value) (an : Option Addr) (cdv ct : Value) (us : List Value), us.length = 2 → bindArgs (PySem.W.fnOf "_law_low" "_law_low" (defArgs st__law_low) (defBody st__law_low) (defScope st__law_low) .none kV doc pm an cdv ct) { pos := us } = pure ((["top", "low"] : List Str).zip us) := fun _ _ _ _ _ _ us hl => match us, hl with | [_, _], _ => rfl
theorem b__law_add : ∀ (kV doc pm : Value) (an : Option Addr) (cdv ct : Value) (us : List Value), us.length = 2 → bindArgs (PySem.W.fnOf "_law_add" "_law_add" (defArgs st__law_add) (defBody st__law_add) (defScope st__law_add) .none kV doc pm an cdv ct) { pos := us } = pure ((["one", "other"] : List Str).zip us) := fun _ _ _ _ _ _ us hl => match us, hl with | [_, _], _ => rfl
theorem b__law_mul : ∀ (kV doc pm : Value) (an : Option Addr) (cdv ct : Value) (us : List Value), us.length = 2 → bindArgs (PySem.W.fnOf "_law_mul" "_law_mul" (defArgs st__law_mul) (defBody st__law_mul) (defScope st__law_mul) .none kV doc pm an cdv ct) { pos := us } = pure ((["one", "other"] : List Str).zip us) := fun _ _ _ _ _ _ us hl => match us, hl with | [_, _], _ => rfl
theorem b__law_total : ∀ (kV doc pm : Value) (an : Option Addr) (cdv ct : Value) (us : List Value), us.length = 1 → bindArgs (PySem.W.fnOf "_law_total" "_law_total" (defArgs st__law_total) (defBody st__law_total) (defScope st__law_total) .none kV doc pm an cdv ct) { pos := us } = pure ((["numbers"] : List Str).zip us) := fun _ _ _ _ _ _ us hl => match us, hl with | [_], _ => rfl
theorem b__law_ratio : ∀ (kV doc pm : Value) (an : Option Addr) (cdv ct : Value) (us : List Value), us.length = 2 → bindArgs (PySem.W.fnOf "_law_ratio" "_law_ratio" (defArgs st__law_ratio) (defBody st__law_ratio) (defScope st__law_ratio) .none kV doc pm an cdv ct) { pos := us } = pure ((["row", "most"] : List Str).zip us) := fun _ _ _ _ _ _ us hl => match us, hl with | [_, _], _ => rfl
theorem b__law_times : ∀ (kV doc pm : Value) (an : Option Addr) (cdv ct : Value) (us : List Value), us.length = 2 → bindArgs (PySem.W.fnOf "_law_times" "_law_times" (defArgs st__law_times) (defBody st__law_times) (defScope st__law_times) .none kV doc pm an cdv ct) { pos := us } = pure ((["rows", "point"] : List Str).zip us) := fun _ _ _ _ _ _ us hl => match us, hl with | [_, _], _ => rfl
theorem b_law : ∀ (kV doc pm : Value) (an : Option Addr) (cdv ct : Value) (us : List Value), us.length = 1 → bindArgs (PySem.W.fnOf "law" "law" (defArgs st_law) (defBody st_law) (defScope st_law) .none kV doc pm an cdv ct) { pos := us } = pure ((["script"] : List Str).zip us) := fun _ _ _ _ _ _ us hl => match us, hl with | [_], _ => rfl
end
end N01
open PySem PySem.W PyProof.Rows
set_option maxHeartbeats 0 in
theorem PySem.Challenge.cw_wattkeep_k01_whole_systems_holds : PySem.Challenge.rw_wattkeep_k01_whole_systems.Holds := by
  w_on; o_law; k_head; (case hw => w_witness2)
  k_fill
  refine L2.walk_of (l := PySem.Challenge.rw_wattkeep_k01_whole_systems) (n := 63) (k := 7) (x := "script") (CX := fun w => L2.CX PySem.Challenge.pw_wattkeep_k01_whole_systems w) (sp := fun w => WK.spLaw _) rfl (by decide) rfl ⟨rfl, by decide, by decide⟩ (fun w h Y => PySem.W.kIn_of Y) ?F (fun w H a ns hn hO hS => ⟨a, ns, rfl, hS, hn, fun _ => rfl⟩) ?X
  case X => exact fun w H s e s' ⟨a, B, H', cls, d, _, _, _, _, _, _, _, z⟩ => z
  case F =>
    intro w mg fa h X G hmg
    refine' (fun (T : N01.Txt _ mg) => WK.law_F T.f_law hmg (fun base => N01.G_law T) Mn.law_N01_true N01.b_law) {
      f_is_integer := WK.fnT_mk X G ?a_is_integer ?l_is_integer ?c_is_integer ?k_is_integer N01.b_is_integer,
      f_is_ratio := WK.fnT_mk X G ?a_is_ratio ?l_is_ratio ?c_is_ratio ?k_is_ratio N01.b_is_ratio,
      f_are_ratios := WK.fnT_mk X G ?a_are_ratios ?l_are_ratios ?c_are_ratios ?k_are_ratios N01.b_are_ratios,
      f_ratio := WK.fnT_mk X G ?a_ratio ?l_ratio ?c_ratio ?k_ratio N01.b_ratio,
      f_unit := WK.fnT_mk X G ?a_unit ?l_unit ?c_unit ?k_unit N01.b_unit,
      f_whole := WK.fnT_mk X G ?a_whole ?l_whole ?c_whole ?k_whole N01.b_whole,
      f_slim := WK.fnT_mk X G ?a_slim ?l_slim ?c_slim ?k_slim N01.b_slim,
      f_is_table := WK.fnT_mk X G ?a_is_table ?l_is_table ?c_is_table ?k_is_table N01.b_is_table,
      f_check_table := WK.fnT_mk X G ?a_check_table ?l_check_table ?c_check_table ?k_check_table N01.b_check_table,
      f_cleared := WK.fnT_mk X G ?a_cleared ?l_cleared ?c_cleared ?k_cleared N01.b_cleared,
      f_eliminated := WK.fnT_mk X G ?a_eliminated ?l_eliminated ?c_eliminated ?k_eliminated N01.b_eliminated,
      f_beside_units := WK.fnT_mk X G ?a_beside_units ?l_beside_units ?c_beside_units ?k_beside_units N01.b_beside_units,
      f_rank := WK.fnT_mk X G ?a_rank ?l_rank ?c_rank ?k_rank N01.b_rank,
      f_worked := WK.fnT_mk X G ?a_worked ?l_worked ?c_worked ?k_worked N01.b_worked,
      f_refuted := WK.fnT_mk X G ?a_refuted ?l_refuted ?c_refuted ?k_refuted N01.b_refuted,
      f_solved := WK.fnT_mk X G ?a_solved ?l_solved ?c_solved ?k_solved N01.b_solved,
      f_inverted := WK.fnT_mk X G ?a_inverted ?l_inverted ?c_inverted ?k_inverted N01.b_inverted,
      f_inverse := WK.fnT_mk X G ?a_inverse ?l_inverse ?c_inverse ?k_inverse N01.b_inverse,
      f__law_taken := WK.fnT_mk X G ?a__law_taken ?l__law_taken ?c__law_taken ?k__law_taken N01.b__law_taken,
      f__law_pick := WK.fnT_mk X G ?a__law_pick ?l__law_pick ?c__law_pick ?k__law_pick N01.b__law_pick,
      f__law_low := WK.fnT_mk X G ?a__law_low ?l__law_low ?c__law_low ?k__law_low N01.b__law_low,
      f__law_add := WK.fnT_mk X G ?a__law_add ?l__law_add ?c__law_add ?k__law_add N01.b__law_add,
      f__law_mul := WK.fnT_mk X G ?a__law_mul ?l__law_mul ?c__law_mul ?k__law_mul N01.b__law_mul,
      f__law_total := WK.fnT_mk X G ?a__law_total ?l__law_total ?c__law_total ?k__law_total N01.b__law_total,
      f__law_ratio := WK.fnT_mk X G ?a__law_ratio ?l__law_ratio ?c__law_ratio ?k__law_ratio N01.b__law_ratio,
      f__law_times := WK.fnT_mk X G ?a__law_times ?l__law_times ?c__law_times ?k__law_times N01.b__law_times,
      f_law := WK.fnT_mk X G ?a_law ?l_law ?c_law ?k_law N01.b_law,
      c_BadTable := WK.exT_mk X G ?a_BadTable ?e_BadTable ?k_BadTable ?b_BadTable ?t_BadTable ?i_BadTable ?m_BadTable,
      k_MOST := WK.coT_int X G ?a_MOST,
      k_ONE := WK.coT_tup (ns := [1, 1]) X G ?a_ONE ?l_ONE ?z_ONE ?v_ONE,
      k_ZERO := WK.coT_tup (ns := [0, 1]) X G ?a_ZERO ?l_ZERO ?z_ZERO ?v_ZERO,
      z_all := PySem.W.mg_none_of X G ?a_all,
      z_bool := PySem.W.mg_none_of X G ?a_bool,
      z_enumerate := PySem.W.mg_none_of X G ?a_enumerate,
      z_gcd := PySem.W.mg_of X G ?a_gcd,
      z_int := PySem.W.mg_none_of X G ?a_int,
      z_isinstance := PySem.W.mg_none_of X G ?a_isinstance,
      z_lcm := PySem.W.mg_of X G ?a_lcm,
      z_len := PySem.W.mg_none_of X G ?a_len,
      z_list := PySem.W.mg_none_of X G ?a_list,
      z_max := PySem.W.mg_none_of X G ?a_max,
      z_min := PySem.W.mg_none_of X G ?a_min,
      z_range := PySem.W.mg_none_of X G ?a_range,
      z_tuple := PySem.W.mg_none_of X G ?a_tuple,
      z_zip := PySem.W.mg_none_of X G ?a_zip }
    (case a_is_integer => k_is)
    (case l_is_integer => k_is)
    (case c_is_integer => k_is)
    (case k_is_integer => k_is)
    (case a_is_ratio => k_is)
    (case l_is_ratio => k_is)
    (case c_is_ratio => k_is)
    (case k_is_ratio => k_is)
    (case a_are_ratios => k_is)
    (case l_are_ratios => k_is)
    (case c_are_ratios => k_is)
    (case k_are_ratios => k_is)
    (case a_ratio => k_is)
    (case l_ratio => k_is)
    (case c_ratio => k_is)
    (case k_ratio => k_is)
    (case a_unit => k_is)
    (case l_unit => k_is)
    (case c_unit => k_is)
    (case k_unit => k_is)
    (case a_whole => k_is)
    (case l_whole => k_is)
    (case c_whole => k_is)
    (case k_whole => k_is)
    (case a_slim => k_is)
    (case l_slim => k_is)
    (case c_slim => k_is)
    (case k_slim => k_is)
    (case a_is_table => k_is)
    (case l_is_table => k_is)
    (case c_is_table => k_is)
    (case k_is_table => k_is)
    (case a_check_table => k_is)
    (case l_check_table => k_is)
    (case c_check_table => k_is)
    (case k_check_table => k_is)
    (case a_cleared => k_is)
    (case l_cleared => k_is)
    (case c_cleared => k_is)
    (case k_cleared => k_is)
    (case a_eliminated => k_is)
    (case l_eliminated => k_is)
    (case c_eliminated => k_is)
    (case k_eliminated => k_is)
    (case a_beside_units => k_is)
    (case l_beside_units => k_is)
    (case c_beside_units => k_is)
    (case k_beside_units => k_is)
    (case a_rank => k_is)
    (case l_rank => k_is)
    (case c_rank => k_is)
    (case k_rank => k_is)
    (case a_worked => k_is)
    (case l_worked => k_is)
    (case c_worked => k_is)
    (case k_worked => k_is)
    (case a_refuted => k_is)
    (case l_refuted => k_is)
    (case c_refuted => k_is)
    (case k_refuted => k_is)
    (case a_solved => k_is)
    (case l_solved => k_is)
    (case c_solved => k_is)
    (case k_solved => k_is)
    (case a_inverted => k_is)
    (case l_inverted => k_is)
    (case c_inverted => k_is)
    (case k_inverted => k_is)
    (case a_inverse => k_is)
    (case l_inverse => k_is)
    (case c_inverse => k_is)
    (case k_inverse => k_is)
    (case a__law_taken => k_is)
    (case l__law_taken => k_is)
    (case c__law_taken => k_is)
    (case k__law_taken => k_is)
    (case a__law_pick => k_is)
    (case l__law_pick => k_is)
    (case c__law_pick => k_is)
    (case k__law_pick => k_is)
    (case a__law_low => k_is)
    (case l__law_low => k_is)
    (case c__law_low => k_is)
    (case k__law_low => k_is)
    (case a__law_add => k_is)
    (case l__law_add => k_is)
    (case c__law_add => k_is)
    (case k__law_add => k_is)
    (case a__law_mul => k_is)
    (case l__law_mul => k_is)
    (case c__law_mul => k_is)
    (case k__law_mul => k_is)
    (case a__law_total => k_is)
    (case l__law_total => k_is)
    (case c__law_total => k_is)
    (case k__law_total => k_is)
    (case a__law_ratio => k_is)
    (case l__law_ratio => k_is)
    (case c__law_ratio => k_is)
    (case k__law_ratio => k_is)
    (case a__law_times => k_is)
    (case l__law_times => k_is)
    (case c__law_times => k_is)
    (case k__law_times => k_is)
    (case a_law => k_is)
    (case l_law => k_is)
    (case c_law => k_is)
    (case k_law => k_is)
    (case a_BadTable => k_is)
    (case e_BadTable => k_exc)
    (case k_BadTable => k_is)
    (case b_BadTable => k_is)
    (case t_BadTable => k_is)
    (case i_BadTable => k_is)
    (case m_BadTable => k_is)
    (case a_MOST => k_is)
    (case a_ONE => k_is)
    (case l_ONE => k_is)
    (case z_ONE => exact (by decide))
    (case v_ONE => exact (by repeat constructor))
    (case a_ZERO => k_is)
    (case l_ZERO => k_is)
    (case z_ZERO => exact (by decide))
    (case v_ZERO => exact (by repeat constructor))
    (case a_all => k_is)
    (case a_bool => k_is)
    (case a_enumerate => k_is)
    (case a_gcd => k_is)
    (case a_int => k_is)
    (case a_isinstance => k_is)
    (case a_lcm => k_is)
    (case a_len => k_is)
    (case a_list => k_is)
    (case a_max => k_is)
    (case a_min => k_is)
    (case a_range => k_is)
    (case a_tuple => k_is)
    (case a_zip => k_is)


