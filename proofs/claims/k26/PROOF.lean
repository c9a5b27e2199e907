import PyProof.Rows.All
import Wide.All
import OpenK.AllK
import Wide.FinOn
import HandS.Call
import HandS.List
import HandS.Comp
import HandS.Exc
import HandS.CallSlots
import HandS.TupAny
import HandS.TupMul
import HandS.Wide
import HandS.IsInst
import HandS.Words
import HandS.WordsExc
import HandS.Ends
import HandS.ExcOwn
import HandS.More
import HandS.SortInts
import HandS.Iter
import HandS.Zip
import HandS.Dict
import KE.GoesEnum
import HandS.Strs
import HandS.Text
import HandS.Style
import HandS.WideBits
import PyProof.WalkInts
import HandS.FStr
import HandS.FStrTup
import HandS.RaiseMore
import HandS.TryOnly
import PyProof.ExcBaseAll.ValueError
import HandS.OwnEq
import HandS.SetFor
import PyProof.Rows.Range3
import PyProof.CallStr
import PyProof.InstNe
import HandS.Flow
import PySem.Challenge.RW_wholebyparts_k26_whole_readers_and_fault
import PyProof.P3Eq
set_option Elab.async false
set_option linter.all false
set_option maxRecDepth 100000
set_option maxHeartbeats 4000000
namespace Sim
open PySem L2

/-- a value: what never changes is a value as a whole (tuples, lists, dicts and instances that nobody changes any more); ref: the n-th of the changing objects; adr: an object of the top -/
inductive SV where
  | non | bl (b : Bool) | int (i : Int) | str (s : Str) | tup (xs : List SV) | rls (xs : List SV) | frl (xs : List SV) | obj (C : Addr) (ns : List Str) (xs : List SV)
  | rdc (t : Bool) (ks : List SV) (xs : List SV) | ref (n : Nat) | ty (s : String) | adr (a : Addr)
inductive SO where
  | lst (xs : List SV)
  | dic (t : Bool) (ks : List SV) (xs : List SV)
  | ins (C : Addr) (ns : List Str) (xs : List SV)
abbrev SHp := List SO
abbrev Env := List (Option SV)

mutual
def SV.beq : SV → SV → Bool
  | .non, .non => true
  | .bl a, .bl b => a == b
  | .int a, .int b => decide (a = b)
  | .str a, .str b => decide (a = b)
  | .tup a, .tup b => SV.beqs a b
  | .rls a, .rls b => SV.beqs a b
  | .frl a, .frl b => SV.beqs a b
  | .obj C ns a, .obj D ms b => decide (C = D) && decide (ns = ms) && SV.beqs a b
  | .rdc t k a, .rdc u l b => decide (t = u) && SV.beqs k l && SV.beqs a b
  | .ref a, .ref b => decide (a = b)
  | .ty a, .ty b => decide (a = b)
  | .adr a, .adr b => decide (a = b)
  | _, _ => false
def SV.beqs : List SV → List SV → Bool
  | [], [] => true
  | x :: xs, y :: ys => SV.beq x y && SV.beqs xs ys
  | _, _ => false
end
mutual
theorem SV.beq_eq : ∀ {a b : SV}, SV.beq a b = true → a = b
  | a, b, h => by
    cases a <;> cases b <;> simp [SV.beq, Bool.and_eq_true] at h <;> try (first | rfl | (subst h; rfl) | (cases h; rfl))
    case tup.tup x y => rw [SV.beqs_eq h]
    case rls.rls x y => rw [SV.beqs_eq h]
    case frl.frl x y => rw [SV.beqs_eq h]
    case obj.obj C n x D m y => obtain ⟨⟨rfl, rfl⟩, h⟩ := h; rw [SV.beqs_eq h]
    case rdc.rdc t k x u l y => obtain ⟨⟨rfl, h1⟩, h2⟩ := h; rw [SV.beqs_eq h1, SV.beqs_eq h2]
theorem SV.beqs_eq : ∀ {a b : List SV}, SV.beqs a b = true → a = b
  | [], [], _ => rfl
  | x :: xs, y :: ys, h => by
    simp [SV.beqs, Bool.and_eq_true] at h
    rw [SV.beq_eq h.1, SV.beqs_eq h.2]
  | [], _ :: _, h => by simp [SV.beqs] at h
  | _ :: _, [], h => by simp [SV.beqs] at h
end
mutual
theorem SV.beq_refl : ∀ (a : SV), SV.beq a a = true
  | .non => rfl
  | .bl a => by simp [SV.beq]
  | .int a => by simp [SV.beq]
  | .str a => by simp [SV.beq]
  | .tup a => by simp [SV.beq, SV.beqs_refl a]
  | .rls a => by simp [SV.beq, SV.beqs_refl a]
  | .frl a => by simp [SV.beq, SV.beqs_refl a]
  | .obj C ns a => by simp [SV.beq, SV.beqs_refl a]
  | .rdc t k a => by simp [SV.beq, SV.beqs_refl a, SV.beqs_refl k]
  | .ref a => by simp [SV.beq]
  | .ty a => by simp [SV.beq]
  | .adr a => by simp [SV.beq]
theorem SV.beqs_refl : ∀ (a : List SV), SV.beqs a a = true
  | [] => rfl
  | x :: xs => by simp [SV.beqs, SV.beq_refl x, SV.beqs_refl xs]
end
instance : DecidableEq SV := fun a b => if h : SV.beq a b = true then .isTrue (SV.beq_eq h) else .isFalse (fun e => h (e ▸ SV.beq_refl a))
instance : DecidableEq SO := fun a b => match a, b with
  | .lst xs, .lst ys => if h : xs = ys then .isTrue (by rw [h]) else .isFalse (by intro e; cases e; exact h rfl)
  | .dic t ks xs, .dic t' ks' xs' => if h : t = t' ∧ ks = ks' ∧ xs = xs' then .isTrue (by rw [h.1, h.2.1, h.2.2]) else .isFalse (by intro e; cases e; exact h ⟨rfl, rfl, rfl⟩)
  | .ins C ns xs, .ins C' ns' xs' => if h : C = C' ∧ ns = ns' ∧ xs = xs' then .isTrue (by rw [h.1, h.2.1, h.2.2]) else .isFalse (by intro e; cases e; exact h ⟨rfl, rfl, rfl⟩)
  | .lst _, .dic _ _ _ | .lst _, .ins _ _ _ | .dic _ _ _, .lst _ | .dic _ _ _, .ins _ _ _ | .ins _ _ _, .lst _ | .ins _ _ _, .dic _ _ _ => .isFalse (by intro e; cases e)

/-! ### results -/
inductive Res (α : Type) where
  | ok (v : α) (h : SHp)
  | err (c : Addr) (fs : List (Str × SV)) (h : SHp)
  | stuck
abbrev M (α : Type) := SHp → Res α
def M.ret {α : Type} (v : α) : M α := fun h => .ok v h
def M.bind {α β : Type} (m : M α) (k : α → M β) : M β := fun h => match m h with
  | .ok v h' => k v h'
  | .err c fs h' => .err c fs h'
  | .stuck => .stuck
def M.of {α : Type} (o : Option α) : M α := fun h => match o with
  | some v => .ok v h
  | none => .stuck
inductive SR where
  | nx (e : Env) (h : SHp) | rt (v : SV) (h : SHp) | bk (e : Env) (h : SHp) | ct (e : Env) (h : SHp) | err (c : Addr) (fs : List (Str × SV)) (e : Env) (h : SHp) | stuck

/-! ### the relation -/
def WrL (K : PySem.W.Frag) (a : Addr) (xs : List V) : Prop :=
  ∃ (o : Obj) (its : Array Value) (n : Nat), K.lookup a = some o ∧ o.cls = .type "list" ∧ o.dict = none ∧ o.data = .seq its n ∧ its.size ≤ sizeLine ∧ Vals xs its.toList
theorem WrL.seq {K : PySem.W.Frag} {H : Hp} {a : Addr} {xs : List V} (h : WrL K a xs) : SqL K H a xs := .inr h

def keyS : Key → SV
  | .inl i => .int i
  | .inr x => .str x
/-- where the changing objects stand, in their sequence; what is hidden: no value stands there -/
structure Rho where
  l : List Addr
  ex : List Addr
def Rho.out (ρ : Rho) (a : Addr) : Prop := a ∉ ρ.l ∧ a ∉ ρ.ex
inductive RelL (K : PySem.W.Frag) (H : Hp) (ρ : Rho) : List SV → List V → Prop
  | nil : RelL K H ρ [] []
  | non {xs vs} : RelL K H ρ xs vs → RelL K H ρ (.non :: xs) (.non :: vs)
  | bl {b xs vs} : RelL K H ρ xs vs → RelL K H ρ (.bl b :: xs) (.bl b :: vs)
  | int {i xs vs} : RelL K H ρ xs vs → RelL K H ρ (.int i :: xs) (.int i :: vs)
  | str {i xs vs} : RelL K H ρ xs vs → RelL K H ρ (.str i :: xs) (.str i :: vs)
  | ty {i xs vs} : RelL K H ρ xs vs → RelL K H ρ (.ty i :: xs) (.ty i :: vs)
  | adr {a xs vs} : RelL K H ρ xs vs → RelL K H ρ (.adr a :: xs) (.ref a :: vs)
  | ref {i a xs vs} : ρ.l[i]? = some a → RelL K H ρ xs vs → RelL K H ρ (.ref i :: xs) (.ref a :: vs)
  | tup {a ys us xs vs} : H a = some (.tup us) → RelL K H ρ ys us → RelL K H ρ xs vs → RelL K H ρ (.tup ys :: xs) (.ref a :: vs)
  | rls {a ys us xs vs} : H a = some (.lst us) → ρ.out a → RelL K H ρ ys us → RelL K H ρ xs vs → RelL K H ρ (.rls ys :: xs) (.ref a :: vs)
  | frl {a ys us xs vs} : ((Rd H a (.lst us) ∧ ρ.out a) ∨ WrL K a us) → RelL K H ρ ys us → RelL K H ρ xs vs → RelL K H ρ (.frl ys :: xs) (.ref a :: vs)
  | obj {a C dx ns ys fv xs vs} : H a = some (.ins C dx fv) → ρ.out a → fv.map (·.1) = ns → RelL K H ρ ys (fv.map (·.2)) → RelL K H ρ xs vs → RelL K H ρ (.obj C ns ys :: xs) (.ref a :: vs)
  | rdK {a ks ys xs vs} {kvs : List (Key × V)} : H a = some (.dK kvs) → ρ.out a → kvs.map (fun p => keyS p.1) = ks → RelL K H ρ ys (kvs.map (·.2)) → RelL K H ρ xs vs → RelL K H ρ (.rdc false ks ys :: xs) (.ref a :: vs)
  | rdT {a ks ys xs vs} {kvs : List (List Key × V)} : H a = some (.dT kvs) → ρ.out a → kvs.map (fun p => SV.tup (p.1.map keyS)) = ks → RelL K H ρ ys (kvs.map (·.2)) → RelL K H ρ xs vs → RelL K H ρ (.rdc true ks ys :: xs) (.ref a :: vs)
abbrev RelS (K : PySem.W.Frag) (H : Hp) (ρ : Rho) (x : SV) (v : V) : Prop := RelL K H ρ [x] [v]

def ObjRel (K : PySem.W.Frag) (H : Hp) (ρ : Rho) (a : Addr) : SO → Prop
  | .lst xs => ∃ vs, H a = some (.lst vs) ∧ RelL K H ρ xs vs
  | .dic t ks xs => (∃ kvs : List (Key × V), H a = some (.dK kvs) ∧ (t = false ∧ kvs.map (fun p => keyS p.1) = ks) ∧ RelL K H ρ xs (kvs.map (·.2))) ∨
      (∃ kvs : List (List Key × V), H a = some (.dT kvs) ∧ (t = true ∧ kvs.map (fun p => SV.tup (p.1.map keyS)) = ks) ∧ RelL K H ρ xs (kvs.map (·.2)))
  | .ins C ns xs => ∃ dx fv, H a = some (.ins C dx fv) ∧ fv.map (·.1) = ns ∧ RelL K H ρ xs (fv.map (·.2))
structure RelH (K : PySem.W.Frag) (H : Hp) (ρ : Rho) (h : SHp) : Prop where
  len : ρ.l.length = h.length
  nd : ρ.l.Nodup
  ob : ∀ (i : Nat) (o : SO), h[i]? = some o → ∃ a, ρ.l[i]? = some a ∧ ObjRel K H ρ a o
  hx : ∀ d ∈ ρ.ex, ∃ o, H d = some o
  dj : ∀ d ∈ ρ.l, d ∉ ρ.ex
def RelE (K : PySem.W.Frag) (H : Hp) (ρ : Rho) (e : Env) (σ : St) : Prop :=
  e.length = σ.length ∧ ∀ (i : Nat) (s : SV), e[i]? = some (some s) → ∃ v, σ[i]? = some (some v) ∧ RelS K H ρ s v

/-- what a step leaves: the changing objects stand on, in their sequence, new ones behind them; what was tracked and does not change is as it was -/
structure Ext (ρ : Rho) (H : Hp) (ρ' : Rho) (H' : Hp) : Prop where
  pre : ρ.l <+: ρ'.l
  new : ∀ a ∈ ρ'.l, a ∈ ρ.l ∨ H a = none
  kept : ∀ b o, H b = some o → b ∉ ρ.l → H' b = some o
  hid : ∀ a ∈ ρ'.ex, a ∈ ρ.ex ∨ (H a = none ∧ a ∉ ρ.l)
  sub : ∀ a ∈ ρ.ex, a ∈ ρ'.ex

section
variable {K : PySem.W.Frag} {H H' H'' : Hp} {ρ ρ' ρ'' : Rho} {xs ys : List SV} {vs us : List V} {x : SV} {v : V}
theorem Ext.refl : Ext ρ H ρ H := ⟨List.prefix_refl _, fun _ h => .inl h, fun _ _ h _ => h, fun _ h => .inl h, fun _ h => h⟩
theorem Ext.outl (E : Ext ρ H ρ' H') {b : Addr} {o : HO} (h : H b = some o) (n : b ∉ ρ.l) : b ∉ ρ'.l := fun hb => by
  rcases E.new b hb with q | q
  · exact n q
  · rw [h] at q; cases q
theorem Ext.out (E : Ext ρ H ρ' H') {b : Addr} {o : HO} (h : H b = some o) (n : ρ.out b) : ρ'.out b := ⟨E.outl h n.1, fun hb => by
  rcases E.hid b hb with q | q
  · exact n.2 q
  · rw [h] at q; cases q.1⟩
theorem Ext.none_of (E : Ext ρ H ρ' H') {a : Addr} (q : H' a = none) (m : a ∉ ρ.l) : H a = none := by
  cases e : H a with
  | none => rfl
  | some o => rw [E.kept a o e m] at q; cases q
theorem Ext.tr (E : Ext ρ H ρ' H') (F : Ext ρ' H' ρ'' H'') : Ext ρ H ρ'' H'' := by
  refine ⟨E.pre.trans F.pre, fun a ha => ?_, fun b o hb n => F.kept b o (E.kept b o hb n) (E.outl hb n), fun a ha => ?_, fun a ha => F.sub a (E.sub a ha)⟩
  · rcases F.new a ha with q | q
    · exact E.new a q
    · by_cases m : a ∈ ρ.l
      · exact .inl m
      · exact .inr (E.none_of q m)
  · rcases F.hid a ha with q | ⟨q, m⟩
    · exact E.hid a q
    · have m' : a ∉ ρ.l := fun z => m (E.pre.subset z)
      exact .inr ⟨E.none_of q m', m'⟩
theorem prefix_get {l l' : List α} (p : l <+: l') {i : Nat} {a : α} (h : l[i]? = some a) : l'[i]? = some a := by
  obtain ⟨t, rfl⟩ := p
  rw [List.getElem?_append_left (List.getElem?_eq_some_iff.mp h).1]; exact h

theorem nodup_at {l : List Addr} (h : l.Nodup) {i j : Nat} {x : Addr} (a : l[i]? = some x) (b : l[j]? = some x) : i = j := by
  obtain ⟨h1, e1⟩ := List.getElem?_eq_some_iff.mp a
  obtain ⟨h2, e2⟩ := List.getElem?_eq_some_iff.mp b
  have hp := List.pairwise_iff_getElem.mp h
  rcases Nat.lt_trichotomy i j with q | q | q
  · exact (hp i j h1 h2 q (e1.trans e2.symm)).elim
  · exact q
  · exact (hp j i h2 h1 q (e2.trans e1.symm)).elim
theorem SqT_keep (hT : ∀ a us, H a = some (.tup us) → H' a = some (.tup us)) (hF : ∀ a o u, H a = some (.frz o u) → H' a = some (.frz o u)) {a : Addr} (h : SqT K H a us) : SqT K H' a us := by
  rcases h with (h | ⟨o, h⟩) | h
  · exact .inl (.inl (hT _ _ h))
  · exact .inl (.inr ⟨o, hF _ _ _ h⟩)
  · exact .inr h
/-- what keeps values: the changing objects hold no tuple and nothing locked -/
structure Holds (H : Hp) (ρ : Rho) : Prop where
  ch : ∀ a ∈ ρ.l, (∃ xs, H a = some (.lst xs)) ∨ (∃ k, H a = some (.dK k)) ∨ (∃ k, H a = some (.dT k)) ∨ ∃ C dx fv, H a = some (.ins C dx fv)
theorem RelH.holds {h : SHp} (R : RelH K H ρ h) : Holds H ρ := by
  refine ⟨fun a ha => ?_⟩
  obtain ⟨i, hi⟩ := List.mem_iff_getElem?.mp ha
  have hl : i < h.length := by rw [← R.len]; exact (List.getElem?_eq_some_iff.mp hi).1
  obtain ⟨b, hb, q⟩ := R.ob i h[i] (by simp [hl])
  rw [hi] at hb; cases hb
  cases e : h[i] with
  | lst xs => rw [e] at q; obtain ⟨vs, q, _⟩ := q; exact .inl ⟨_, q⟩
  | dic t ks xs => rw [e] at q; rcases q with ⟨kvs, q, _⟩ | ⟨kvs, q, _⟩; exact .inr (.inl ⟨_, q⟩); exact .inr (.inr (.inl ⟨_, q⟩))
  | ins C ns xs => rw [e] at q; obtain ⟨dx, fv, q, _⟩ := q; exact .inr (.inr (.inr ⟨_, _, _, q⟩))
theorem Holds.notup (L : Holds H ρ) {a : Addr} (h : H a = some (.tup us)) : a ∉ ρ.l := fun m => by
  rcases L.ch a m with ⟨_, q⟩ | ⟨_, q⟩ | ⟨_, q⟩ | ⟨_, _, _, q⟩ <;> (rw [h] at q; cases q)
theorem Holds.nofrz (L : Holds H ρ) {a : Addr} {o : Obj} {u : HO} (h : H a = some (.frz o u)) : a ∉ ρ.l := fun m => by
  rcases L.ch a m with ⟨_, q⟩ | ⟨_, q⟩ | ⟨_, q⟩ | ⟨_, _, _, q⟩ <;> (rw [h] at q; cases q)
theorem RelL.mono (r : RelL K H ρ xs vs) (L : Holds H ρ) (E : Ext ρ H ρ' H') : RelL K H' ρ' xs vs := by
  induction r with
  | nil => exact .nil
  | non _ ih => exact .non ih
  | bl _ ih => exact .bl ih
  | int _ ih => exact .int ih
  | str _ ih => exact .str ih
  | ty _ ih => exact .ty ih
  | adr _ ih => exact .adr ih
  | ref h _ ih => exact .ref (prefix_get E.pre h) ih
  | tup h _ _ i1 i2 => exact .tup (E.kept _ _ h (L.notup h)) i1 i2
  | rls h n _ _ i1 i2 => exact .rls (E.kept _ _ h n.1) (E.out h n) i1 i2
  | frl h _ _ i1 i2 =>
    refine .frl ?_ i1 i2
    rcases h with ⟨h | ⟨o, h⟩, n⟩ | h
    · exact .inl ⟨.inl (E.kept _ _ h n.1), E.out h n⟩
    · exact .inl ⟨.inr ⟨o, E.kept _ _ h n.1⟩, E.out h n⟩
    · exact .inr h
  | obj h n e _ _ i1 i2 => exact .obj (E.kept _ _ h n.1) (E.out h n) e i1 i2
  | rdK h n e _ _ i1 i2 => exact .rdK (E.kept _ _ h n.1) (E.out h n) e i1 i2
  | rdT h n e _ _ i1 i2 => exact .rdT (E.kept _ _ h n.1) (E.out h n) e i1 i2
theorem RelL.cons (r : RelS K H ρ x v) (q : RelL K H ρ xs vs) : RelL K H ρ (x :: xs) (v :: vs) := by
  cases r with
  | non _ => exact .non q
  | bl _ => exact .bl q
  | int _ => exact .int q
  | str _ => exact .str q
  | ty _ => exact .ty q
  | adr _ => exact .adr q
  | ref h _ => exact .ref h q
  | tup h a _ => exact .tup h a q
  | rls h n a _ => exact .rls h n a q
  | frl h a _ => exact .frl h a q
  | obj h n e a _ => exact .obj h n e a q
  | rdK h n e a _ => exact .rdK h n e a q
  | rdT h n e a _ => exact .rdT h n e a q
theorem RelL.inv (r : RelL K H ρ (x :: xs) vs) : ∃ v us, vs = v :: us ∧ RelS K H ρ x v ∧ RelL K H ρ xs us := by
  cases r with
  | non q => exact ⟨_, _, rfl, .non .nil, q⟩
  | bl q => exact ⟨_, _, rfl, .bl .nil, q⟩
  | int q => exact ⟨_, _, rfl, .int .nil, q⟩
  | str q => exact ⟨_, _, rfl, .str .nil, q⟩
  | ty q => exact ⟨_, _, rfl, .ty .nil, q⟩
  | adr q => exact ⟨_, _, rfl, .adr .nil, q⟩
  | ref h q => exact ⟨_, _, rfl, .ref h .nil, q⟩
  | tup h a q => exact ⟨_, _, rfl, .tup h a .nil, q⟩
  | rls h n a q => exact ⟨_, _, rfl, .rls h n a .nil, q⟩
  | frl h a q => exact ⟨_, _, rfl, .frl h a .nil, q⟩
  | obj h n e a q => exact ⟨_, _, rfl, .obj h n e a .nil, q⟩
  | rdK h n e a q => exact ⟨_, _, rfl, .rdK h n e a .nil, q⟩
  | rdT h n e a q => exact ⟨_, _, rfl, .rdT h n e a .nil, q⟩
theorem RelL.nil_inv (r : RelL K H ρ [] vs) : vs = [] := by cases r; rfl
theorem RelL.length : ∀ {xs : List SV} {vs : List V}, RelL K H ρ xs vs → xs.length = vs.length
  | [], _, r => by rw [r.nil_inv]; rfl
  | x :: xs, _, r => by
    obtain ⟨v, us, rfl, _, q⟩ := r.inv
    simp [RelL.length q]
theorem RelL.get : ∀ {xs : List SV} {vs : List V} {i : Nat} {x : SV}, RelL K H ρ xs vs → xs[i]? = some x → ∃ v, vs[i]? = some v ∧ RelS K H ρ x v
  | [], _, _, _, _, e => by simp at e
  | y :: xs, _, i, x, r, e => by
    obtain ⟨v, us, rfl, a, q⟩ := r.inv
    cases i with
    | zero => simp at e; subst e; exact ⟨_, rfl, a⟩
    | succ i => obtain ⟨w, h1, h2⟩ := RelL.get (i := i) q (by simpa using e); exact ⟨w, by simpa using h1, h2⟩
theorem RelL.app : ∀ {xs ys : List SV} {vs us : List V}, RelL K H ρ xs vs → RelL K H ρ ys us → RelL K H ρ (xs ++ ys) (vs ++ us)
  | [], _, _, _, r, q => by rw [r.nil_inv]; exact q
  | x :: xs, _, _, _, r, q => by
    obtain ⟨v, us, rfl, a, b⟩ := r.inv
    exact .cons a (RelL.app b q)
theorem RelL.snoc (r : RelL K H ρ xs vs) (q : RelS K H ρ x v) : RelL K H ρ (xs ++ [x]) (vs ++ [v]) := r.app q
theorem RelL.one (r : RelS K H ρ x v) : RelL K H ρ [x] [v] := r
theorem RelL.split : ∀ {xs ys : List SV} {vs : List V}, RelL K H ρ (xs ++ ys) vs → ∃ u w, vs = u ++ w ∧ RelL K H ρ xs u ∧ RelL K H ρ ys w
  | [], _, vs, r => ⟨[], vs, rfl, .nil, r⟩
  | x :: xs, _, _, r => by
    obtain ⟨v, us, rfl, a, q⟩ := r.inv
    obtain ⟨u, w, rfl, b, c⟩ := RelL.split (xs := xs) q
    exact ⟨v :: u, w, rfl, .cons a b, c⟩
theorem RelE.mono {e : Env} {σ : St} (r : RelE K H ρ e σ) (L : Holds H ρ) (E : Ext ρ H ρ' H') : RelE K H' ρ' e σ :=
  ⟨r.1, fun i s h => let ⟨v, a, b⟩ := r.2 i s h; ⟨v, a, b.mono L E⟩⟩
theorem ObjRel.mono {a : Addr} {o : SO} (r : ObjRel K H ρ a o) (L : Holds H ρ) (E : Ext ρ H ρ' H') (same : H' a = H a) : ObjRel K H' ρ' a o := by
  cases o with
  | lst xs => obtain ⟨vs, h, q⟩ := r; exact ⟨vs, by rw [same]; exact h, q.mono L E⟩
  | dic t ks xs =>
    rcases r with ⟨kvs, h, e, q⟩ | ⟨kvs, h, e, q⟩
    · exact .inl ⟨kvs, by rw [same]; exact h, e, q.mono L E⟩
    · exact .inr ⟨kvs, by rw [same]; exact h, e, q.mono L E⟩
  | ins C ns xs => obtain ⟨dx, fv, h, e, q⟩ := r; exact ⟨dx, fv, by rw [same]; exact h, e, q.mono L E⟩
theorem RelH.mono {h : SHp} (R : RelH K H ρ h) (E : Ext ρ H ρ H') (same : ∀ a ∈ ρ.l, H' a = H a) : RelH K H' ρ h :=
  ⟨R.len, R.nd, fun i o q => let ⟨a, b, c⟩ := R.ob i o q; ⟨a, b, c.mono R.holds E (same a (List.mem_of_getElem? b))⟩, fun d hd => by
    obtain ⟨o, q⟩ := R.hx d hd
    by_cases m : d ∈ ρ.l
    · exact ⟨o, by rw [same d m]; exact q⟩
    · exact ⟨o, E.kept d o q m⟩, R.dj⟩
theorem RelH.outf {h : SHp} (R : RelH K H ρ h) {p : Addr} (hp : H p = none) : ρ.out p := ⟨fun m => by
  rcases R.holds.ch p m with ⟨_, q⟩ | ⟨_, q⟩ | ⟨_, q⟩ | ⟨_, _, _, q⟩ <;> (rw [hp] at q; cases q), fun m => by
  obtain ⟨o, q⟩ := R.hx p m
  rw [hp] at q; cases q⟩
/-- something new that nobody changes -/
theorem Ext.fresh {p : Addr} {o : HO} (hp : H p = none) : Ext ρ H ρ (upd H p o) := ⟨List.prefix_refl _, fun _ h => .inl h, fun b u q _ => by rw [upd_ne (ne_of_none q hp)]; exact q, fun _ h => .inl h, fun _ h => h⟩
theorem Holds.free (L : Holds H ρ) {p : Addr} (hp : H p = none) : p ∉ ρ.l := fun m => by
  rcases L.ch p m with ⟨_, q⟩ | ⟨_, q⟩ | ⟨_, q⟩ | ⟨_, _, _, q⟩ <;> (rw [hp] at q; cases q)
theorem RelH.fresh {h : SHp} {p : Addr} {o : HO} (R : RelH K H ρ h) (hp : H p = none) : RelH K (upd H p o) ρ h :=
  R.mono (.fresh hp) fun a m => upd_ne fun e => R.holds.free hp (e ▸ m)
/-- a new changing object -/
def Rho.add (ρ : Rho) (p : Addr) : Rho := ⟨ρ.l ++ [p], ρ.ex⟩
theorem Ext.alloc {p : Addr} {o : HO} (hp : H p = none) : Ext ρ H (ρ.add p) (upd H p o) :=
  ⟨List.prefix_append _ _, fun a h => by
    rcases List.mem_append.mp h with q | q
    · exact .inl q
    · rw [List.mem_singleton.mp q]; exact .inr hp, fun b u q _ => by rw [upd_ne (ne_of_none q hp)]; exact q, fun _ h => .inl h, fun _ h => h⟩
theorem RelH.alloc {h : SHp} {p : Addr} {o : HO} {so : SO} (R : RelH K H ρ h) (hp : H p = none) (q : ObjRel K (upd H p o) (ρ.add p) p so) : RelH K (upd H p o) (ρ.add p) (h ++ [so]) := by
  have np : p ∉ ρ.l := R.holds.free hp
  refine ⟨by simp [Rho.add, R.len], List.nodup_append.mpr ⟨R.nd, by simp, fun a ha b hb e => ?_⟩, fun i u hi => ?_, fun d hd => ?_, fun d hd hx => ?_⟩
  · rw [List.mem_singleton.mp hb] at e; exact np (e ▸ ha)
  · by_cases hl : i < h.length
    · rw [List.getElem?_append_left hl] at hi
      obtain ⟨a, b, c⟩ := R.ob i u hi
      refine ⟨a, prefix_get (List.prefix_append _ _) b, c.mono R.holds (.alloc hp) (upd_ne fun e => np (e ▸ List.mem_of_getElem? b))⟩
    · have hi' : i = h.length := by
        have := (List.getElem?_eq_some_iff.mp hi).1
        simp at this; omega
      subst hi'
      simp at hi; subst hi
      exact ⟨p, by rw [← R.len]; simp [Rho.add], q⟩
  · obtain ⟨u, z⟩ := R.hx d hd
    exact ⟨u, by rw [upd_ne (ne_of_none z hp)]; exact z⟩
  · rcases List.mem_append.mp hd with q | q
    · exact R.dj d q hx
    · rw [List.mem_singleton.mp q] at hx
      obtain ⟨u, z⟩ := R.hx p hx
      rw [hp] at z; cases z
/-- an object is changed -/
theorem Ext.write {p : Addr} {o : HO} (hp : p ∈ ρ.l) : Ext ρ H ρ (upd H p o) := ⟨List.prefix_refl _, fun _ h => .inl h, fun b u q n => by rw [upd_ne (fun e => n (by rw [e]; exact hp))]; exact q, fun _ h => .inl h, fun _ h => h⟩
theorem RelH.write {h : SHp} {i : Nat} {p : Addr} {o : HO} {so : SO} (R : RelH K H ρ h) (hi : ρ.l[i]? = some p) (q : ObjRel K (upd H p o) ρ p so) : RelH K (upd H p o) ρ (h.set i so) := by
  refine ⟨by simp [R.len], R.nd, fun j u hj => ?_, fun d hd => ?_, R.dj⟩
  by_cases e : i = j
  · subst e
    have hl : i < h.length := by rw [← R.len]; exact (List.getElem?_eq_some_iff.mp hi).1
    rw [List.getElem?_set_self hl] at hj
    cases hj
    exact ⟨p, hi, q⟩
  · rw [List.getElem?_set_ne e] at hj
    obtain ⟨a, b, c⟩ := R.ob j u hj
    refine ⟨a, b, c.mono R.holds (.write (List.mem_of_getElem? hi)) (upd_ne fun z => e ?_)⟩
    subst z
    exact nodup_at R.nd hi b
  · by_cases z : d = p
    · exact ⟨o, by rw [z]; exact upd_same⟩
    · rw [upd_ne z]; exact R.hx d hd

/-! ### what is hidden -/
def Rho.hide (ρ : Rho) (d : Addr) : Rho := ⟨ρ.l, d :: ρ.ex⟩
theorem RelL.re (r : RelL K H ρ xs vs) (hl : ρ.l <+: ρ'.l) (out : ∀ a, ρ.out a → ρ'.out a) : RelL K H ρ' xs vs := by
  induction r with
  | nil => exact .nil
  | non _ ih => exact .non ih
  | bl _ ih => exact .bl ih
  | int _ ih => exact .int ih
  | str _ ih => exact .str ih
  | ty _ ih => exact .ty ih
  | adr _ ih => exact .adr ih
  | ref h _ ih => exact .ref (prefix_get hl h) ih
  | tup h _ _ i1 i2 => exact .tup h i1 i2
  | rls h n _ _ i1 i2 => exact .rls h (out _ n) i1 i2
  | frl h _ _ i1 i2 => exact .frl (h.imp (fun z => ⟨z.1, out _ z.2⟩) id) i1 i2
  | obj h n e _ _ i1 i2 => exact .obj h (out _ n) e i1 i2
  | rdK h n e _ _ i1 i2 => exact .rdK h (out _ n) e i1 i2
  | rdT h n e _ _ i1 i2 => exact .rdT h (out _ n) e i1 i2
theorem ObjRel.re {a : Addr} {o : SO} (r : ObjRel K H ρ a o) (hl : ρ.l <+: ρ'.l) (out : ∀ a, ρ.out a → ρ'.out a) : ObjRel K H ρ' a o := by
  cases o with
  | lst xs => obtain ⟨vs, h, q⟩ := r; exact ⟨vs, h, q.re hl out⟩
  | dic t ks xs =>
    rcases r with ⟨kvs, h, e, q⟩ | ⟨kvs, h, e, q⟩
    · exact .inl ⟨kvs, h, e, q.re hl out⟩
    · exact .inr ⟨kvs, h, e, q.re hl out⟩
  | ins C ns xs => obtain ⟨dx, fv, h, e, q⟩ := r; exact ⟨dx, fv, h, e, q.re hl out⟩
/-- fewer hidden -/
theorem RelL.show (r : RelL K H ρ xs vs) (hl : ρ'.l = ρ.l) (hs : ∀ a ∈ ρ'.ex, a ∈ ρ.ex) : RelL K H ρ' xs vs := by
  have out : ∀ a, ρ.out a → ρ'.out a := fun a n => ⟨by rw [hl]; exact n.1, fun m => n.2 (hs a m)⟩
  induction r with
  | nil => exact .nil
  | non _ ih => exact .non ih
  | bl _ ih => exact .bl ih
  | int _ ih => exact .int ih
  | str _ ih => exact .str ih
  | ty _ ih => exact .ty ih
  | adr _ ih => exact .adr ih
  | ref h _ ih => exact .ref (by rw [hl]; exact h) ih
  | tup h _ _ i1 i2 => exact .tup h i1 i2
  | rls h n _ _ i1 i2 => exact .rls h (out _ n) i1 i2
  | frl h _ _ i1 i2 => exact .frl (h.imp (fun z => ⟨z.1, out _ z.2⟩) id) i1 i2
  | obj h n e _ _ i1 i2 => exact .obj h (out _ n) e i1 i2
  | rdK h n e _ _ i1 i2 => exact .rdK h (out _ n) e i1 i2
  | rdT h n e _ _ i1 i2 => exact .rdT h (out _ n) e i1 i2
theorem ObjRel.show {a : Addr} {o : SO} (r : ObjRel K H ρ a o) (hl : ρ'.l = ρ.l) (hs : ∀ a ∈ ρ'.ex, a ∈ ρ.ex) : ObjRel K H ρ' a o := by
  cases o with
  | lst xs => obtain ⟨vs, h, q⟩ := r; exact ⟨vs, h, q.show hl hs⟩
  | dic t ks xs =>
    rcases r with ⟨kvs, h, e, q⟩ | ⟨kvs, h, e, q⟩
    · exact .inl ⟨kvs, h, e, q.show hl hs⟩
    · exact .inr ⟨kvs, h, e, q.show hl hs⟩
  | ins C ns xs => obtain ⟨dx, fv, h, e, q⟩ := r; exact ⟨dx, fv, h, e, q.show hl hs⟩
theorem RelH.show {h : SHp} (R : RelH K H ρ h) (hl : ρ'.l = ρ.l) (hs : ∀ a ∈ ρ'.ex, a ∈ ρ.ex) : RelH K H ρ' h :=
  ⟨by rw [hl]; exact R.len, by rw [hl]; exact R.nd, fun i o q => let ⟨a, b, c⟩ := R.ob i o q; ⟨a, by rw [hl]; exact b, c.show hl hs⟩, fun d hd => R.hx d (hs d hd), fun d hd hx => R.dj d (by rw [hl] at hd; exact hd) (hs d hx)⟩
theorem RelE.show {e : Env} {σ : St} (r : RelE K H ρ e σ) (hl : ρ'.l = ρ.l) (hs : ∀ a ∈ ρ'.ex, a ∈ ρ.ex) : RelE K H ρ' e σ :=
  ⟨r.1, fun i s h => let ⟨v, a, b⟩ := r.2 i s h; ⟨v, a, b.show hl hs⟩⟩
/-- a new hidden object -/
theorem Ext.hidden {p : Addr} {o : HO} (hp : H p = none) (L : Holds H ρ) : Ext ρ H (ρ.hide p) (upd H p o) :=
  ⟨List.prefix_refl _, fun _ h => .inl h, fun b u q _ => by rw [upd_ne (ne_of_none q hp)]; exact q, fun a h => by
    rcases List.mem_cons.mp h with q | q
    · subst q; exact .inr ⟨hp, L.free hp⟩
    · exact .inl q, fun _ h => List.mem_cons_of_mem _ h⟩
theorem RelH.hidden {h : SHp} {p : Addr} {o : HO} (R : RelH K H ρ h) (hp : H p = none) : RelH K (upd H p o) (ρ.hide p) h :=
  ⟨R.len, R.nd, fun i u q => let ⟨a, b, c⟩ := R.ob i u q; ⟨a, b, c.mono R.holds (.hidden hp R.holds) (upd_ne fun e => R.holds.free hp (e ▸ List.mem_of_getElem? b))⟩, fun d hd => by
    rcases List.mem_cons.mp hd with q | q
    · exact ⟨o, by rw [q]; exact upd_same⟩
    · obtain ⟨u, z⟩ := R.hx d q
      exact ⟨u, by rw [upd_ne (ne_of_none z hp)]; exact z⟩, fun d hd hx => by
    rcases List.mem_cons.mp hx with q | q
    · subst q; exact R.holds.free hp hd
    · exact R.dj d hd q⟩
def Plain (H : Hp) (d : Addr) : Prop := (∀ us, H d ≠ some (.tup us)) ∧ ∀ o u, H d ≠ some (.frz o u)
theorem Plain.lst {d : Addr} {us : List V} (h : H d = some (.lst us)) : Plain H d := by
  refine ⟨fun us q => ?_, fun o u q => ?_⟩ <;> (rw [h] at q; cases q)
theorem Plain.dK {d : Addr} {k : List (Key × V)} (h : H d = some (.dK k)) : Plain H d := by
  refine ⟨fun us q => ?_, fun o u q => ?_⟩ <;> (rw [h] at q; cases q)
theorem Plain.dT {d : Addr} {k : List (List Key × V)} (h : H d = some (.dT k)) : Plain H d := by
  refine ⟨fun us q => ?_, fun o u q => ?_⟩ <;> (rw [h] at q; cases q)
/-- a hidden list is changed -/
theorem RelL.scribble {d : Addr} {o : HO} (r : RelL K H ρ xs vs) (hd : d ∈ ρ.ex) (hH : Plain H d) : RelL K (upd H d o) ρ xs vs := by
  have ne : ∀ a, ρ.out a → a ≠ d := fun a n z => n.2 (z ▸ hd)
  have nt : ∀ a us, H a = some (.tup us) → a ≠ d := fun a us q z => by subst z; exact hH.1 _ q
  have nf : ∀ a o u, H a = some (.frz o u) → a ≠ d := fun a o u q z => by subst z; exact hH.2 _ _ q
  induction r with
  | nil => exact .nil
  | non _ ih => exact .non ih
  | bl _ ih => exact .bl ih
  | int _ ih => exact .int ih
  | str _ ih => exact .str ih
  | ty _ ih => exact .ty ih
  | adr _ ih => exact .adr ih
  | ref h _ ih => exact .ref h ih
  | tup h _ _ i1 i2 => exact .tup (by rw [upd_ne (nt _ _ h)]; exact h) i1 i2
  | rls h n _ _ i1 i2 => exact .rls (by rw [upd_ne (ne _ n)]; exact h) n i1 i2
  | frl h _ _ i1 i2 =>
    refine .frl ?_ i1 i2
    rcases h with ⟨h | ⟨o, h⟩, n⟩ | h
    · exact .inl ⟨.inl (by rw [upd_ne (ne _ n)]; exact h), n⟩
    · exact .inl ⟨.inr ⟨o, by rw [upd_ne (ne _ n)]; exact h⟩, n⟩
    · exact .inr h
  | obj h n e _ _ i1 i2 => exact .obj (by rw [upd_ne (ne _ n)]; exact h) n e i1 i2
  | rdK h n e _ _ i1 i2 => exact .rdK (by rw [upd_ne (ne _ n)]; exact h) n e i1 i2
  | rdT h n e _ _ i1 i2 => exact .rdT (by rw [upd_ne (ne _ n)]; exact h) n e i1 i2
theorem RelH.scribble {h : SHp} {d : Addr} {o : HO} (R : RelH K H ρ h) (hd : d ∈ ρ.ex) (hH : Plain H d) (hn : d ∉ ρ.l) : RelH K (upd H d o) ρ h := by
  refine ⟨R.len, R.nd, fun i u q => ?_, fun e he => by
    by_cases z : e = d
    · exact ⟨o, by rw [z]; exact upd_same⟩
    · rw [upd_ne z]; exact R.hx e he, R.dj⟩
  obtain ⟨a, b, c⟩ := R.ob i u q
  have ne : a ≠ d := fun z => hn (z ▸ List.mem_of_getElem? b)
  refine ⟨a, b, ?_⟩
  cases u with
  | lst xs => obtain ⟨vs, h, q⟩ := c; exact ⟨vs, by rw [upd_ne ne]; exact h, q.scribble hd hH⟩
  | dic t ks xs =>
    rcases c with ⟨kvs, h, e, q⟩ | ⟨kvs, h, e, q⟩
    · exact .inl ⟨kvs, by rw [upd_ne ne]; exact h, e, q.scribble hd hH⟩
    · exact .inr ⟨kvs, by rw [upd_ne ne]; exact h, e, q.scribble hd hH⟩
  | ins C ns xs => obtain ⟨dx, fv, h, e, q⟩ := c; exact ⟨dx, fv, by rw [upd_ne ne]; exact h, e, q.scribble hd hH⟩
theorem RelE.scribble {e : Env} {σ : St} {d : Addr} {o : HO} (r : RelE K H ρ e σ) (hd : d ∈ ρ.ex) (hH : Plain H d) : RelE K (upd H d o) ρ e σ :=
  ⟨r.1, fun i s h => let ⟨v, a, b⟩ := r.2 i s h; ⟨v, a, b.scribble hd hH⟩⟩
/-- a hidden object becomes one of the changing ones -/
theorem RelH.promote {h : SHp} {d : Addr} {ex : List Addr} {so : SO} (R : RelH K H ρ h) (hd : d ∈ ρ.ex) (hs : ∀ a ∈ ex, a ∈ ρ.ex) (hn : d ∉ ex) (q : ObjRel K H ⟨ρ.l ++ [d], ex⟩ d so) : RelH K H ⟨ρ.l ++ [d], ex⟩ (h ++ [so]) := by
  have nl : d ∉ ρ.l := fun m => R.dj d m hd
  have out : ∀ a, ρ.out a → Rho.out ⟨ρ.l ++ [d], ex⟩ a := fun a o => ⟨fun m => by
    rcases List.mem_append.mp m with z | z
    · exact o.1 z
    · rw [List.mem_singleton.mp z] at o; exact o.2 hd, fun m => o.2 (hs a m)⟩
  refine ⟨by simp [R.len], List.nodup_append.mpr ⟨R.nd, by simp, fun a ha b hb e => ?_⟩, fun i u hi => ?_, fun e he => R.hx e (hs e he), fun e he hx => ?_⟩
  · rw [List.mem_singleton.mp hb] at e; exact nl (e ▸ ha)
  · by_cases hl : i < h.length
    · rw [List.getElem?_append_left hl] at hi
      obtain ⟨a, b, c⟩ := R.ob i u hi
      exact ⟨a, prefix_get (List.prefix_append _ _) b, c.re (List.prefix_append _ _) out⟩
    · have hi' : i = h.length := by
        have := (List.getElem?_eq_some_iff.mp hi).1
        simp at this; omega
      subst hi'
      simp at hi; subst hi
      exact ⟨d, by show (ρ.l ++ [d])[h.length]? = some d; rw [← R.len]; simp, q⟩
  · rcases List.mem_append.mp he with z | z
    · exact R.dj e z (hs e hx)
    · rw [List.mem_singleton.mp z] at hx; exact hn hx
end
end Sim

set_option Elab.async false
set_option linter.all false
set_option maxRecDepth 100000
set_option maxHeartbeats 4000000
namespace Sim
open PySem L2

def ExcRel (K : PySem.W.Frag) (H : Hp) (ρ : Rho) (c : Addr) (fs : List (Str × SV)) (cv : Value) (d : Option Addr) : Prop :=
  cv = .ref c ∧ ((fs = [] ∧ d = none) ∨ ∃ a fv, d = some a ∧ H a = some (.xd fv) ∧ fv.map (·.1) = fs.map (·.1) ∧ RelL K H ρ (fs.map (·.2)) (fv.map (·.2)))
def Post {α β : Type} (K : PySem.W.Frag) (W : WX) (rel : Hp → Rho → α → β → Prop) (σ : St) (ρ : Rho) (H : Hp) (r : Res α) (Q : β → Hp → Prop) : Prop := match r with
  | .ok v h' => ∀ ρ' H' x, Ext ρ H ρ' H' → RelH K H' ρ' h' → rel H' ρ' v x → Q x H'
  | .err c fs h' => ∀ ρ' H' cv d, Ext ρ H ρ' H' → RelH K H' ρ' h' → ExcRel K H' ρ' c fs cv d → W cv d σ H'
  | .stuck => False
abbrev relS (K : PySem.W.Frag) : Hp → Rho → SV → V → Prop := fun H ρ v x => RelS K H ρ v x
abbrev relL (K : PySem.W.Frag) : Hp → Rho → List SV → List V → Prop := fun H ρ v x => RelL K H ρ v x
abbrev relT : Hp → Rho → Bool → Bool → Prop := fun _ _ v x => v = x
/-- a reading that does what the plain function does -/
def tG {α β : Type} (K : PySem.W.Frag) (W : WX) (rel : Hp → Rho → α → β → Prop) (c : Env → M α) : St → Hp → (β → Hp → Prop) → Prop := fun σ H Q =>
  ∃ ρ h env, RelH K H ρ h ∧ RelE K H ρ env σ ∧ Post K W rel σ ρ H (c env h) Q
abbrev tS (K : PySem.W.Frag) (W : WX) (c : Env → M SV) : TE := tG K W (relS K) c
abbrev tA (K : PySem.W.Frag) (W : WX) (c : Env → M (List SV)) : TA := tG K W (relL K) c
abbrev tB (K : PySem.W.Frag) (W : WX) (c : Env → M Bool) : TT := tG K W relT c
structure SE (X : Cx) (W : WX) (e : Expr) (c : Env → M SV) : Prop where
  pe : PE X e (tS X.K W c)
structure SA (X : Cx) (W : WX) (es : List Expr) (c : Env → M (List SV)) : Prop where
  pa : PA X es (tA X.K W c)
structure ST (X : Cx) (W : WX) (e : Expr) (c : Env → M Bool) : Prop where
  pt : PT X e (tB X.K W c)
structure SW (X : Cx) (W : WX) (e : Expr) (c : Env → M Bool) : Prop where
  pw : PW X e (tB X.K W c)

section
variable {X : Cx} {e : Expr} {es : List Expr}
theorem imp_pe {t t' : TE} (h : PE X e t) (i : ∀ σ H Q, t' σ H Q → t σ H Q) : PE X e t' := ⟨fun pins s σ H Q I q => h.run pins s σ H Q I (i σ H Q q)⟩
theorem imp_pt {t t' : TT} (h : PT X e t) (i : ∀ σ H Q, t' σ H Q → t σ H Q) : PT X e t' := ⟨fun pins s σ H Q I q => h.run pins s σ H Q I (i σ H Q q)⟩
theorem imp_pw {t t' : TT} (h : PW X e t) (i : ∀ σ H Q, t' σ H Q → t σ H Q) : PW X e t' := ⟨fun w pins s σ H Q I q => h.run w pins s σ H Q I (i σ H Q q)⟩
theorem imp_pa {t t' : TA} (h : PA X es t) (i : ∀ σ H Q, t' σ H Q → t σ H Q) : PA X es t' := ⟨fun p pins s σ H Q I q => h.run p pins s σ H Q I (i σ H Q q)⟩
end
section
variable {α β γ δ : Type} {K : PySem.W.Frag} {W : WX} {rel : Hp → Rho → α → β → Prop} {rel' : Hp → Rho → γ → δ → Prop} {σ : St} {ρ ρ' : Rho} {H H' : Hp} {h h' : SHp} {r : Res α} {Q : β → Hp → Prop}
theorem Post.shift (P : Post K W rel σ ρ H r Q) (E : Ext ρ H ρ' H') : Post K W rel σ ρ' H' r Q := by
  cases r with
  | ok v h' => exact fun ρ2 H2 x F R q => P ρ2 H2 x (E.tr F) R q
  | err c fs h' => exact fun ρ2 H2 cv d F R q => P ρ2 H2 cv d (E.tr F) R q
  | stuck => exact P
theorem Post.bind {m : M α} {k : α → M γ} {Q : δ → Hp → Prop} (P : Post K W rel' σ ρ H (M.bind m k h) Q) :
    Post K W rel σ ρ H (m h) (fun x H1 => ∃ ρ1 v h1, Ext ρ H ρ1 H1 ∧ RelH K H1 ρ1 h1 ∧ rel H1 ρ1 v x ∧ Post K W rel' σ ρ1 H1 (k v h1) Q) := by
  unfold M.bind at P
  cases e : m h with
  | ok v h1 => rw [e] at P; exact fun ρ1 H1 x E R q => ⟨ρ1, v, h1, E, R, q, P.shift E⟩
  | err c fs h1 => rw [e] at P; exact P
  | stuck => rw [e] at P; exact P
theorem Post.mono {Q' : β → Hp → Prop} (P : Post K W rel σ ρ H r Q) (h : ∀ x H', Q x H' → Q' x H') : Post K W rel σ ρ H r Q' := by
  cases r with
  | ok v h' => exact fun ρ1 H1 x E R q => h _ _ (P ρ1 H1 x E R q)
  | err c fs h' => exact P
  | stuck => exact P
end

/-! ### names, constants -/
def eVar (i : Nat) : Env → M SV := fun e => M.of (e[i]?.join)
def eC (v : SV) : Env → M SV := fun _ => M.ret v
section
variable {X : Cx} {W : WX} {pos : Pos}
theorem e_var (i : Nat) {x : Str} (hN : X.N[i]? = some x := by rfl) (hv : Vis X.env.scope x := by first | exact Or.inl rfl | exact Or.inr (Or.inl rfl) | exact Or.inr (Or.inr rfl)) (hd : (x == ("__debug__" : Str)) = false := by decide)
    (hcd : (x == ("__classdict__" : Str)) = false := by decide) : SE X W (.Name x pos) (eVar i) := ⟨imp_pe (pe_var hN hv hd hcd) fun σ H Q ⟨ρ, h, env, R, RE, P⟩ => by
  unfold eVar M.of at P
  cases e : env[i]?.join with
  | none => rw [e] at P; exact P.elim
  | some v =>
    rw [e] at P
    have e' : env[i]? = some (some v) := by
      cases q : env[i]? with
      | none => rw [q] at e; cases e
      | some o => rw [q] at e; simp at e; rw [e]
    obtain ⟨x, h1, h2⟩ := RE.2 i v e'
    exact ⟨x, h1, P ρ H x .refl R h2⟩⟩
theorem imp_c {v : V} {s : SV} {e : Expr} (h : PE X e (tC v)) (r : ∀ H ρ, RelS X.K H ρ s v) : SE X W e (eC s) := ⟨imp_pe h fun σ H Q ⟨ρ, h, env, R, RE, P⟩ => P ρ H v .refl R (r H ρ)⟩
theorem e_int {i j} : SE X W (.Constant (.int i) j pos) (eC (.int i)) := imp_c pe_int fun _ _ => .int .nil
theorem e_bl {b j} : SE X W (.Constant (.bool b) j pos) (eC (.bl b)) := imp_c pe_bl fun _ _ => .bl .nil
theorem e_non {j} : SE X W (.Constant .none j pos) (eC .non) := imp_c pe_non fun _ _ => .non .nil
theorem e_str {x j} : SE X W (.Constant (.str x) j pos) (eC (.str x)) := imp_c pe_str fun _ _ => .str .nil
/-- a def or class of the top as a value -/
theorem e_adr {x : Str} {a : Addr} (hm : X.mg x = some (.ref a)) (hg : Gl X x := by rfl) (hd : (x == ("__debug__" : Str)) = false := by decide) : SE X W (.Name x pos) (eC (.adr a)) := imp_c (pe_glob (v := .ref a) hg hm rfl hd) fun _ _ => .adr .nil
theorem e_gint {x : Str} {i : Int} {t : Tok} (hm : X.mg x = some (.int i t)) (hg : Gl X x := by rfl) (hd : (x == ("__debug__" : Str)) = false := by decide) : SE X W (.Name x pos) (eC (.int i)) := imp_c (pe_glob (v := .int i) hg hm ⟨t, rfl⟩ hd) fun _ _ => .int .nil
end

/-! ### two-place operations -/
/-- an operation on values, by a plain function that reads the heap -/
def OpS (X : Cx) (f : Value → Value → Sem Value) (g : SV → SV → SHp → Option SV) : Prop :=
  OpR X f fun x y H Q => ∃ ρ h v w z, RelH X.K H ρ h ∧ RelS X.K H ρ v x ∧ RelS X.K H ρ w y ∧ g v w h = some z ∧ ∀ H' r, Ext ρ H ρ H' → RelH X.K H' ρ h → RelS X.K H' ρ z r → Q r H'
def eOp (g : SV → SV → SHp → Option SV) (a b : Env → M SV) : Env → M SV := fun e => M.bind (a e) fun v => M.bind (b e) fun w => fun h => M.of (g v w h) h
section
variable {X : Cx} {W : WX} {pos : Pos} {a b c : Expr} {ca cb cc : Env → M SV}
theorem post_op {g : SV → SV → SHp → Option SV} {f : Value → Value → Sem Value} {σ : St} {H : Hp} {Q : VK} (h : tS X.K W (eOp g ca cb) σ H Q) :
    tOp (fun x y H Q => ∃ ρ h v w z, RelH X.K H ρ h ∧ RelS X.K H ρ v x ∧ RelS X.K H ρ w y ∧ g v w h = some z ∧ ∀ H' r, Ext ρ H ρ H' → RelH X.K H' ρ h → RelS X.K H' ρ z r → Q r H') (tS X.K W ca) (tS X.K W cb) σ H Q := by
  obtain ⟨ρ, h, env, R, RE, P⟩ := h
  refine ⟨ρ, h, env, R, RE, (Post.bind (rel := relS X.K) P).mono fun x H1 q => ?_⟩
  obtain ⟨ρ1, v, h1, E1, R1, r1, P1⟩ := q
  refine ⟨ρ1, h1, env, R1, RE.mono R.holds E1, (Post.bind (rel := relS X.K) P1).mono fun y H2 q => ?_⟩
  obtain ⟨ρ2, w, h2, E2, R2, r2, P2⟩ := q
  unfold M.of at P2
  cases e : g v w h2 with
  | none => rw [e] at P2; exact P2.elim
  | some z => rw [e] at P2; exact ⟨ρ2, h2, v, w, z, R2, r1.mono R1.holds E2, r2, e, fun H' r E' R' q => P2 ρ2 H' r E' R' q⟩
theorem e_op {op : Operator} {g : SV → SV → SHp → Option SV} (ho : OpS X (binaryOp op) g) (ha : SE X W a ca) (hb : SE X W b cb) : SE X W (.BinOp a op b pos) (eOp g ca cb) :=
  ⟨imp_pe (pe_op ho ha.pe hb.pe) fun σ H Q h => post_op (f := binaryOp op) h⟩
theorem e_cmp {op : CmpOp} {g : SV → SV → SHp → Option SV} (ho : OpS X (compareOp op) g) (ha : SE X W a ca) (hb : SE X W b cb) (hm : behindInMarks op b = false := by first | exact nomark _ (by decide) (by decide) | rfl) : SE X W (.Compare a [op] [b] pos) (eOp g ca cb) :=
  ⟨imp_pe (pe_cmpR ho ha.pe hb.pe hm) fun σ H Q h => post_op (f := compareOp op) h⟩
/-- a bool's value as a test -/
def tst (m : M SV) : M Bool := M.bind m fun v => match v with
  | .bl b => M.ret b
  | _ => fun _ => .stuck
def eTst (c : Env → M SV) : Env → M Bool := fun e => tst (c e)
theorem post_tst {c : Env → M SV} {σ : St} {H : Hp} {Q : Bool → Hp → Prop} (h : tB X.K W (eTst c) σ H Q) : tS X.K W c σ H fun x H1 => ∃ k, x = .bl k ∧ Q k H1 := by
  obtain ⟨ρ, h, env, R, RE, P⟩ := h
  refine ⟨ρ, h, env, R, RE, (Post.bind (rel := relS X.K) P).mono fun x H1 q => ?_⟩
  obtain ⟨ρ1, v, h1, E1, R1, r1, P1⟩ := q
  cases v with
  | bl b => cases r1; exact ⟨b, rfl, P1 ρ1 H1 b .refl R1 rfl⟩
  | _ => exact P1.elim
theorem t_cmp {op : CmpOp} {g : SV → SV → SHp → Option SV} (ho : OpS X (compareOp op) g) (ha : SE X W a ca) (hb : SE X W b cb) (hm : behindInMarks op b = false := by first | exact nomark _ (by decide) (by decide) | rfl) : ST X W (.Compare a [op] [b] pos) (eTst (eOp g ca cb)) :=
  ⟨imp_pt (pt_cmpR ho ha.pe hb.pe hm) fun σ H Q h => by
    obtain ⟨ρ, h, env, R, RE, P⟩ := post_tst h
    exact post_op (f := compareOp op) ⟨ρ, h, env, R, RE, P⟩⟩
theorem t_val (h : SE X W a ca) (he : ∀ whole, isTrue a X.env whole = (do let v ← whole; standAt a.pos; holding [v] (truthy v)) := by intro _; rfl) : ST X W a (eTst ca) :=
  ⟨imp_pt (pt_val h.pe he) fun σ H Q h => post_tst h⟩
/-- a < b < c: b is asked once -/
def eChain (g g' : SV → SV → SHp → Option SV) (a b c : Env → M SV) : Env → M SV := fun e => M.bind (a e) fun v => M.bind (b e) fun w => M.bind (fun h => M.of (g v w h) h) fun z => match z with
  | .bl true => M.bind (c e) fun u => fun h => M.of (g' w u h) h
  | .bl false => M.ret (.bl false)
  | _ => fun _ => .stuck
theorem post_chain {op op' : CmpOp} {g g' : SV → SV → SHp → Option SV} {σ : St} {H : Hp} {Q : VK} (h : tS X.K W (eChain g g' ca cb cc) σ H Q) :
    tChain (fun x y H Q => ∃ ρ h v w z, RelH X.K H ρ h ∧ RelS X.K H ρ v x ∧ RelS X.K H ρ w y ∧ g v w h = some z ∧ ∀ H' r, Ext ρ H ρ H' → RelH X.K H' ρ h → RelS X.K H' ρ z r → Q r H')
      (fun x y H Q => ∃ ρ h v w z, RelH X.K H ρ h ∧ RelS X.K H ρ v x ∧ RelS X.K H ρ w y ∧ g' v w h = some z ∧ ∀ H' r, Ext ρ H ρ H' → RelH X.K H' ρ h → RelS X.K H' ρ z r → Q r H')
      (tS X.K W ca) (tS X.K W cb) (tS X.K W cc) σ H Q := by
  obtain ⟨ρ, h, env, R, RE, P⟩ := h
  refine ⟨ρ, h, env, R, RE, (Post.bind (rel := relS X.K) P).mono fun x H1 q => ?_⟩
  obtain ⟨ρ1, v, h1, E1, R1, r1, P1⟩ := q
  have RE1 := RE.mono R.holds E1
  refine ⟨ρ1, h1, env, R1, RE1, (Post.bind (rel := relS X.K) P1).mono fun y H2 q => ?_⟩
  obtain ⟨ρ2, w, h2, E2, R2, r2, P2⟩ := q
  have RE2 := RE1.mono R1.holds E2
  cases e : g v w h2 with
  | none => simp only [M.bind, M.of, e] at P2; exact P2.elim
  | some z =>
    simp only [M.bind, M.of, e] at P2
    refine ⟨ρ2, h2, v, w, z, R2, r1.mono R1.holds E2, r2, e, fun H3 r E3 R3 q => ?_⟩
    cases z with
    | bl k =>
      cases q
      refine ⟨k, rfl, ?_⟩
      cases k with
      | false => exact iteF (P2 ρ2 H3 _ E3 R3 (.bl .nil))
      | true =>
        refine iteT ⟨ρ2, h2, env, R3, RE2.mono R2.holds E3, ?_⟩
        have P3 : Post X.K W (relS X.K) σ ρ2 H3 (M.bind (cc env) (fun u => fun h => M.of (g' w u h) h) h2) Q := Post.shift P2 E3
        refine (Post.bind (rel := relS X.K) P3).mono fun y' H4 q => ?_
        obtain ⟨ρ4, u, h4, E4, R4, r4, P4⟩ := q
        unfold M.of at P4
        cases e4 : g' w u h4 with
        | none => rw [e4] at P4; exact P4.elim
        | some z' => rw [e4] at P4; exact ⟨ρ4, h4, w, u, z', R4, (r2.mono R2.holds E3).mono R3.holds E4, r4, e4, fun H' r E' R' q => P4 ρ4 H' r E' R' q⟩
    | _ => exact P2.elim
theorem e_chain {op op' : CmpOp} {g g' : SV → SV → SHp → Option SV} (ho : OpS X (compareOp op) g) (ho' : OpS X (compareOp op') g') (ha : SE X W a ca) (hb : SE X W b cb) (hc : SE X W c cc)
    (hm : lastMarks [op, op'] [b, c] = false := by with_unfolding_all rfl) : SE X W (.Compare a [op, op'] [b, c] pos) (eChain g g' ca cb cc) :=
  ⟨imp_pe (pe_chain ho ho' ha.pe hb.pe hc.pe hm) fun σ H Q h => post_chain (op := op) (op' := op') h⟩
theorem t_chain {op op' : CmpOp} {g g' : SV → SV → SHp → Option SV} (ho : OpS X (compareOp op) g) (ho' : OpS X (compareOp op') g') (ha : SE X W a ca) (hb : SE X W b cb) (hc : SE X W c cc)
    (hm : lastMarks [op, op'] [b, c] = false := by with_unfolding_all rfl) : ST X W (.Compare a [op, op'] [b, c] pos) (eTst (eChain g g' ca cb cc)) :=
  ⟨imp_pt (pt_chain ho ho' ha.pe hb.pe hc.pe hm) fun σ H Q h => by
    obtain ⟨ρ, h, env, R, RE, P⟩ := post_tst h
    exact post_chain (op := op) (op' := op') ⟨ρ, h, env, R, RE, P⟩⟩
end

/-! ### and, or, not, if -/
def bAnd (a b : Env → M Bool) : Env → M Bool := fun e => M.bind (a e) fun v => if v = true then b e else M.ret false
def bOr (a b : Env → M Bool) : Env → M Bool := fun e => M.bind (a e) fun v => if v = true then M.ret true else b e
def bNot (a : Env → M Bool) : Env → M Bool := fun e => M.bind (a e) fun v => M.ret (!v)
def eAnd (a b : Env → M SV) : Env → M SV := fun e => M.bind (tst (a e)) fun v => if v = true then b e else M.ret (.bl false)
def eOr (a b : Env → M SV) : Env → M SV := fun e => M.bind (tst (a e)) fun v => if v = true then M.ret (.bl true) else b e
def eNot (a : Env → M SV) : Env → M SV := fun e => M.bind (tst (a e)) fun v => M.ret (.bl (!v))
def eIf (t : Env → M Bool) (a b : Env → M SV) : Env → M SV := fun e => M.bind (t e) fun v => if v = true then a e else b e
section
variable {X : Cx} {W : WX} {pos : Pos} {a b c : Expr} {rest : List Expr} {ca cb cc : Env → M SV} {ta tb : Env → M Bool}
theorem w_and1 (ha : ST X W a ta) : SW X W (.BoolOp .And [a] pos) ta := ⟨pw_and1 ha.pt⟩
theorem w_or1 (ha : ST X W a ta) : SW X W (.BoolOp .Or [a] pos) ta := ⟨pw_or1 ha.pt⟩
theorem w_and (ha : ST X W a ta) (hb : SW X W (.BoolOp .And (b :: rest) pos) tb) : SW X W (.BoolOp .And (a :: b :: rest) pos) (bAnd ta tb) :=
  ⟨imp_pw (pw_and ha.pt hb.pw) fun σ H Q ⟨ρ, h, env, R, RE, P⟩ => ⟨ρ, h, env, R, RE, (Post.bind (rel := relT) P).mono fun x H1 ⟨ρ1, v, h1, E1, R1, r1, P1⟩ => by
    cases r1
    cases x with
    | false => exact iteF (P1 ρ1 H1 _ .refl R1 rfl)
    | true => exact iteT ⟨ρ1, h1, env, R1, RE.mono R.holds E1, P1⟩⟩⟩
theorem w_or (ha : ST X W a ta) (hb : SW X W (.BoolOp .Or (b :: rest) pos) tb) : SW X W (.BoolOp .Or (a :: b :: rest) pos) (bOr ta tb) :=
  ⟨imp_pw (pw_or ha.pt hb.pw) fun σ H Q ⟨ρ, h, env, R, RE, P⟩ => ⟨ρ, h, env, R, RE, (Post.bind (rel := relT) P).mono fun x H1 ⟨ρ1, v, h1, E1, R1, r1, P1⟩ => by
    cases r1
    cases x with
    | true => exact iteT (P1 ρ1 H1 _ .refl R1 rfl)
    | false => exact iteF ⟨ρ1, h1, env, R1, RE.mono R.holds E1, P1⟩⟩⟩
theorem SW.st (h : SW X W a ta) : ST X W a ta := ⟨h.pw.pt⟩
theorem t_not (ha : ST X W a ta) : ST X W (.UnaryOp .Not a pos) (bNot ta) :=
  ⟨imp_pt (pt_not ha.pt) fun σ H Q ⟨ρ, h, env, R, RE, P⟩ => ⟨ρ, h, env, R, RE, (Post.bind (rel := relT) P).mono fun x H1 ⟨ρ1, v, h1, E1, R1, r1, P1⟩ => by
    cases r1
    exact P1 ρ1 H1 _ .refl R1 rfl⟩⟩
theorem e_one {op} (ha : SE X W a ca) : SE X W (.BoolOp op [a] pos) ca := ⟨pe_one ha.pe⟩
theorem post_tstV {c : Env → M SV} {k : Bool → M SV} {σ : St} {H : Hp} {ρ : Rho} {h : SHp} {env : Env} {Q : VK} (P : Post X.K W (relS X.K) σ ρ H (M.bind (tst (c env)) k h) Q) :
    Post X.K W (relS X.K) σ ρ H (c env h) fun x H1 => ∃ b, x = .bl b ∧ ∃ ρ1 h1, Ext ρ H ρ1 H1 ∧ RelH X.K H1 ρ1 h1 ∧ Post X.K W (relS X.K) σ ρ1 H1 (k b h1) Q := by
  have P' : Post X.K W (relS X.K) σ ρ H (M.bind (c env) (fun v => M.bind (match v with | .bl b => M.ret b | _ => fun _ => .stuck) k) h) Q := by
    unfold tst M.bind at P
    unfold M.bind
    cases e : c env h with
    | ok v h1 => rw [e] at P; exact P
    | err c fs h1 => rw [e] at P; exact P
    | stuck => rw [e] at P; exact P
  refine (Post.bind (rel := relS X.K) P').mono fun x H1 ⟨ρ1, v, h1, E1, R1, r1, P1⟩ => ?_
  cases v with
  | bl b => cases r1; exact ⟨b, rfl, ρ1, h1, E1, R1, P1⟩
  | _ => exact P1.elim
theorem e_and (ha : SE X W a ca) (hb : SE X W (.BoolOp .And (b :: rest) pos) cb) : SE X W (.BoolOp .And (a :: b :: rest) pos) (eAnd ca cb) :=
  ⟨imp_pe (pe_and ha.pe hb.pe) fun σ H Q ⟨ρ, h, env, R, RE, P⟩ => ⟨ρ, h, env, R, RE, (post_tstV P).mono fun x H1 ⟨k, e, ρ1, h1, E1, R1, P1⟩ => by
    refine ⟨k, e, ?_⟩
    cases k with
    | false => exact iteF (P1 ρ1 H1 _ .refl R1 (.bl .nil))
    | true => exact iteT ⟨ρ1, h1, env, R1, RE.mono R.holds E1, P1⟩⟩⟩
theorem e_or (ha : SE X W a ca) (hb : SE X W (.BoolOp .Or (b :: rest) pos) cb) : SE X W (.BoolOp .Or (a :: b :: rest) pos) (eOr ca cb) :=
  ⟨imp_pe (pe_or ha.pe hb.pe) fun σ H Q ⟨ρ, h, env, R, RE, P⟩ => ⟨ρ, h, env, R, RE, (post_tstV P).mono fun x H1 ⟨k, e, ρ1, h1, E1, R1, P1⟩ => by
    refine ⟨k, e, ?_⟩
    cases k with
    | true => exact iteT (P1 ρ1 H1 _ .refl R1 (.bl .nil))
    | false => exact iteF ⟨ρ1, h1, env, R1, RE.mono R.holds E1, P1⟩⟩⟩
theorem e_not (ha : SE X W a ca) : SE X W (.UnaryOp .Not a pos) (eNot ca) :=
  ⟨imp_pe (pe_not ha.pe) fun σ H Q ⟨ρ, h, env, R, RE, P⟩ => ⟨ρ, h, env, R, RE, (post_tstV P).mono fun x H1 ⟨k, e, ρ1, h1, E1, R1, P1⟩ => ⟨k, e, P1 ρ1 H1 _ .refl R1 (.bl .nil)⟩⟩⟩
theorem e_if (hc : ST X W c ta) (ha : SE X W a ca) (hb : SE X W b cb) : SE X W (.IfExp c a b pos) (eIf ta ca cb) :=
  ⟨imp_pe (pe_ifExp hc.pt ha.pe hb.pe) fun σ H Q ⟨ρ, h, env, R, RE, P⟩ => ⟨ρ, h, env, R, RE, (Post.bind (rel := relT) P).mono fun x H1 ⟨ρ1, v, h1, E1, R1, r1, P1⟩ => by
    cases r1
    cases x with
    | true => exact iteT ⟨ρ1, h1, env, R1, RE.mono R.holds E1, P1⟩
    | false => exact iteF ⟨ρ1, h1, env, R1, RE.mono R.holds E1, P1⟩⟩⟩
end

/-! ### argument lists, displays -/
def aNil : Env → M (List SV) := fun _ => M.ret []
def aCons (a : Env → M SV) (r : Env → M (List SV)) : Env → M (List SV) := fun e => M.bind (a e) fun v => M.bind (r e) fun vs => M.ret (v :: vs)
def eTup (a : Env → M (List SV)) : Env → M SV := fun e => M.bind (a e) fun vs => fun h => if vs.length ≤ sizeLine then .ok (.tup vs) h else .stuck
/-- a list that nobody changes -/
def eLst (a : Env → M (List SV)) : Env → M SV := fun e => M.bind (a e) fun vs => fun h => if vs.length ≤ sizeLine then .ok (.rls vs) h else .stuck
/-- a list that may be changed -/
def eNew (a : Env → M (List SV)) : Env → M SV := fun e => M.bind (a e) fun vs => fun h => if vs.length ≤ sizeLine then .ok (.ref h.length) (h ++ [.lst vs]) else .stuck
section
variable {X : Cx} {W : WX} {pos : Pos} {a : Expr} {es : List Expr} {ca : Env → M SV} {cr : Env → M (List SV)}
theorem a_nil : SA X W [] aNil := ⟨imp_pa pa_nil fun σ H Q ⟨ρ, h, env, R, RE, P⟩ => P ρ H _ .refl R .nil⟩
theorem a_cons (ha : SE X W a ca) (hr : SA X W es cr) (hs : starEach (a :: es) X.env = (false, eval a X.env) :: starEach es X.env := by rfl) : SA X W (a :: es) (aCons ca cr) :=
  ⟨imp_pa (pa_cons ha.pe hr.pa hs) fun σ H Q ⟨ρ, h, env, R, RE, P⟩ => ⟨ρ, h, env, R, RE, (Post.bind (rel := relS X.K) P).mono fun x H1 ⟨ρ1, v, h1, E1, R1, r1, P1⟩ =>
    ⟨ρ1, h1, env, R1, RE.mono R.holds E1, (Post.bind (rel := relL X.K) P1).mono fun xs H2 ⟨ρ2, vs, h2, E2, R2, r2, P2⟩ => P2 ρ2 H2 _ .refl R2 (.cons (r1.mono R1.holds E2) r2)⟩⟩⟩
theorem Holds.mem_free {K : PySem.W.Frag} {H : Hp} {ρ : Rho} {h : SHp} {p : Addr} (R : RelH K H ρ h) (hp : H p = none) : p ∉ ρ.l := R.holds.free hp
theorem rel_tup {K : PySem.W.Frag} {H : Hp} {ρ : Rho} {h : SHp} {p : Addr} {vs : List SV} {xs : List V} (R : RelH K H ρ h) (hp : H p = none) (r : RelL K H ρ vs xs) : RelS K (upd H p (.tup xs)) ρ (.tup vs) (.ref p) :=
  .tup upd_same (r.mono R.holds (.fresh hp)) .nil
theorem rel_rls {K : PySem.W.Frag} {H : Hp} {ρ : Rho} {h : SHp} {p : Addr} {vs : List SV} {xs : List V} (R : RelH K H ρ h) (hp : H p = none) (r : RelL K H ρ vs xs) : RelS K (upd H p (.lst xs)) ρ (.rls vs) (.ref p) :=
  .rls upd_same (R.outf hp) (r.mono R.holds (.fresh hp)) .nil
theorem e_tup {x1} (hr : SA X W es cr) : SE X W (.Tuple es x1 pos) (eTup cr) :=
  ⟨imp_pe (pe_tup hr.pa) fun σ H Q ⟨ρ, h, env, R, RE, P⟩ => ⟨ρ, h, env, R, RE, (Post.bind (rel := relL X.K) P).mono fun xs H1 ⟨ρ1, vs, h1, E1, R1, r1, P1⟩ => by
    have P1' : Post X.K W (relS X.K) σ ρ1 H1 (if vs.length ≤ sizeLine then .ok (.tup vs) h1 else .stuck) Q := P1
    by_cases c : vs.length ≤ sizeLine
    · rw [if_pos c] at P1'
      exact ⟨by rw [← r1.length]; exact c, fun p hp => P1' ρ1 _ _ (.fresh hp) (R1.fresh hp) (rel_tup R1 hp r1)⟩
    · rw [if_neg c] at P1'; exact P1'.elim⟩⟩
theorem e_lst (hr : SA X W es cr) : SE X W (.List es pos) (eLst cr) :=
  ⟨imp_pe (pe_lst hr.pa) fun σ H Q ⟨ρ, h, env, R, RE, P⟩ => ⟨ρ, h, env, R, RE, (Post.bind (rel := relL X.K) P).mono fun xs H1 ⟨ρ1, vs, h1, E1, R1, r1, P1⟩ => by
    have P1' : Post X.K W (relS X.K) σ ρ1 H1 (if vs.length ≤ sizeLine then .ok (.rls vs) h1 else .stuck) Q := P1
    by_cases c : vs.length ≤ sizeLine
    · rw [if_pos c] at P1'
      exact ⟨by rw [← r1.length]; exact c, fun p hp => P1' ρ1 _ _ (.fresh hp) (R1.fresh hp) (rel_rls R1 hp r1)⟩
    · rw [if_neg c] at P1'; exact P1'.elim⟩⟩
theorem e_new (hr : SA X W es cr) : SE X W (.List es pos) (eNew cr) :=
  ⟨imp_pe (pe_lst hr.pa) fun σ H Q ⟨ρ, h, env, R, RE, P⟩ => ⟨ρ, h, env, R, RE, (Post.bind (rel := relL X.K) P).mono fun xs H1 ⟨ρ1, vs, h1, E1, R1, r1, P1⟩ => by
    have P1' : Post X.K W (relS X.K) σ ρ1 H1 (if vs.length ≤ sizeLine then .ok (.ref h1.length) (h1 ++ [.lst vs]) else .stuck) Q := P1
    by_cases c : vs.length ≤ sizeLine
    · rw [if_pos c] at P1'
      exact ⟨by rw [← r1.length]; exact c, fun p hp => P1' _ _ _ (.alloc hp) (R1.alloc hp ⟨xs, upd_same, r1.mono R1.holds (.alloc hp)⟩) (.ref (by rw [← R1.len]; simp [Rho.add]) .nil)⟩
    · rw [if_neg c] at P1'; exact P1'.elim⟩⟩
end
end Sim

set_option Elab.async false
set_option linter.all false
set_option maxRecDepth 100000
set_option maxHeartbeats 4000000
namespace Sim
open PySem L2

/-! ### statements -/
def PostR (K : PySem.W.Frag) (W : WX) (D : Ends) (ρ : Rho) (H : Hp) : SR → Prop
  | .nx e h' => ∀ ρ' H' σ', Ext ρ H ρ' H' → RelH K H' ρ' h' → RelE K H' ρ' e σ' → D.nx σ' H'
  | .bk e h' => ∀ ρ' H' σ', Ext ρ H ρ' H' → RelH K H' ρ' h' → RelE K H' ρ' e σ' → D.bk σ' H'
  | .ct e h' => ∀ ρ' H' σ', Ext ρ H ρ' H' → RelH K H' ρ' h' → RelE K H' ρ' e σ' → D.ct σ' H'
  | .rt v h' => ∀ ρ' H' x, Ext ρ H ρ' H' → RelH K H' ρ' h' → RelS K H' ρ' v x → D.rt x H'
  | .err c fs e h' => ∀ ρ' H' σ' cv d, Ext ρ H ρ' H' → RelH K H' ρ' h' → RelE K H' ρ' e σ' → ExcRel K H' ρ' c fs cv d → W cv d σ' H'
  | .stuck => False
abbrev ST' := Env → SHp → SR
def tR (K : PySem.W.Frag) (W : WX) (c : ST') : TS := fun D σ H => ∃ ρ h env, RelH K H ρ h ∧ RelE K H ρ env σ ∧ PostR K W D ρ H (c env h)
structure SS (X : Cx) (W : WX) (st : Stmt) (c : ST') : Prop where
  ps : PS X st (tR X.K W c)
structure SSs (X : Cx) (W : WX) (sts : List Stmt) (c : ST') : Prop where
  pss : PSs X sts (tR X.K W c)
theorem PostR.shift {K : PySem.W.Frag} {W : WX} {D : Ends} {ρ ρ' : Rho} {H H' : Hp} {r : SR} (P : PostR K W D ρ H r) (E : Ext ρ H ρ' H') : PostR K W D ρ' H' r := by
  cases r with
  | nx e h' => exact fun ρ2 H2 σ F => P ρ2 H2 σ (E.tr F)
  | bk e h' => exact fun ρ2 H2 σ F => P ρ2 H2 σ (E.tr F)
  | ct e h' => exact fun ρ2 H2 σ F => P ρ2 H2 σ (E.tr F)
  | rt v h' => exact fun ρ2 H2 x F => P ρ2 H2 x (E.tr F)
  | err c fs e h' => exact fun ρ2 H2 σ cv d F => P ρ2 H2 σ cv d (E.tr F)
  | stuck => exact P
/-- the ends may be weakened -/
theorem PostR.mono {K : PySem.W.Frag} {W : WX} {D D' : Ends} {ρ : Rho} {H : Hp} {r : SR} (P : PostR K W D ρ H r) (h1 : ∀ σ H, D.nx σ H → D'.nx σ H) (h2 : ∀ σ H, D.bk σ H → D'.bk σ H) (h3 : ∀ σ H, D.ct σ H → D'.ct σ H) (h4 : ∀ x H, D.rt x H → D'.rt x H) : PostR K W D' ρ H r := by
  cases r with
  | nx e h' => exact fun ρ2 H2 σ F R RE => h1 _ _ (P ρ2 H2 σ F R RE)
  | bk e h' => exact fun ρ2 H2 σ F R RE => h2 _ _ (P ρ2 H2 σ F R RE)
  | ct e h' => exact fun ρ2 H2 σ F R RE => h3 _ _ (P ρ2 H2 σ F R RE)
  | rt v h' => exact fun ρ2 H2 x F R RE => h4 _ _ (P ρ2 H2 x F R RE)
  | err c fs e h' => exact P
  | stuck => exact P
section
variable {X : Cx} {st : Stmt} {sts : List Stmt}
theorem imp_ps {t t' : TS} (h : PS X st t) (i : ∀ D σ H, t' D σ H → t D σ H) : PS X st t' := ⟨fun pins s σ H D I q => h.run pins s σ H D I (i D σ H q)⟩
theorem imp_pss {t t' : TS} (h : PSs X sts t) (i : ∀ D σ H, t' D σ H → t D σ H) : PSs X sts t' := ⟨fun pins s σ H D I q => h.run pins s σ H D I (i D σ H q)⟩
end
def cNil : ST' := fun e h => .nx e h
def cSeq (a b : ST') : ST' := fun e h => match a e h with
  | .nx e' h' => b e' h'
  | .rt v h' => .rt v h'
  | .bk e' h' => .bk e' h'
  | .ct e' h' => .ct e' h'
  | .err c fs e' h' => .err c fs e' h'
  | .stuck => .stuck
/-- an expression's value, and what follows with it -/
def onV (m : M SV) (e : Env) (h : SHp) (k : SV → SHp → SR) : SR := match m h with
  | .ok v h' => k v h'
  | .err c fs h' => .err c fs e h'
  | .stuck => .stuck
def onB (m : M Bool) (e : Env) (h : SHp) (k : Bool → SHp → SR) : SR := match m h with
  | .ok v h' => k v h'
  | .err c fs h' => .err c fs e h'
  | .stuck => .stuck
def cSet (i : Nat) (c : Env → M SV) : ST' := fun e h => onV (c e) e h fun v h' => .nx (e.set i (some v)) h'
def cExpr (c : Env → M SV) : ST' := fun e h => onV (c e) e h fun _ h' => .nx e h'
def cRet (c : Env → M SV) : ST' := fun e h => onV (c e) e h fun v h' => .rt v h'
def cRetN : ST' := fun _ h => .rt .non h
def cIf (t : Env → M Bool) (a b : ST') : ST' := fun e h => onB (t e) e h fun v h' => if v = true then a e h' else b e h'
def cNever : ST' := fun _ _ => .stuck
section
variable {X : Cx} {W : WX} {pos : Pos} {st : Stmt} {rest : List Stmt} {e : Expr} {c : Env → M SV} {t : Env → M Bool} {a b : ST'}
theorem post_onV {D : Ends} {σ : St} {ρ : Rho} {H : Hp} {m : M SV} {env : Env} {h : SHp} {k : SV → SHp → SR} (R : RelH X.K H ρ h) (RE : RelE X.K H ρ env σ) (P : PostR X.K W D ρ H (onV m env h k)) :
    Post X.K W (relS X.K) σ ρ H (m h) fun x H1 => ∃ ρ1 v h1, Ext ρ H ρ1 H1 ∧ RelH X.K H1 ρ1 h1 ∧ RelE X.K H1 ρ1 env σ ∧ RelS X.K H1 ρ1 v x ∧ PostR X.K W D ρ1 H1 (k v h1) := by
  unfold onV at P
  cases e : m h with
  | ok v h1 => rw [e] at P; exact fun ρ1 H1 x E R1 q => ⟨ρ1, v, h1, E, R1, RE.mono R.holds E, q, P.shift E⟩
  | err c fs h1 => rw [e] at P; exact fun ρ1 H1 cv d E R1 q => P ρ1 H1 σ cv d E R1 (RE.mono R.holds E) q
  | stuck => rw [e] at P; exact P
theorem post_onB {D : Ends} {σ : St} {ρ : Rho} {H : Hp} {m : M Bool} {env : Env} {h : SHp} {k : Bool → SHp → SR} (R : RelH X.K H ρ h) (RE : RelE X.K H ρ env σ) (P : PostR X.K W D ρ H (onB m env h k)) :
    Post X.K W relT σ ρ H (m h) fun x H1 => ∃ ρ1 h1, Ext ρ H ρ1 H1 ∧ RelH X.K H1 ρ1 h1 ∧ RelE X.K H1 ρ1 env σ ∧ PostR X.K W D ρ1 H1 (k x h1) := by
  unfold onB at P
  cases e : m h with
  | ok v h1 => rw [e] at P; exact fun ρ1 H1 x E R1 q => by cases q; exact ⟨ρ1, h1, E, R1, RE.mono R.holds E, P.shift E⟩
  | err c fs h1 => rw [e] at P; exact fun ρ1 H1 cv d E R1 q => P ρ1 H1 σ cv d E R1 (RE.mono R.holds E) q
  | stuck => rw [e] at P; exact P
theorem ss_nil : SSs X W [] cNil := ⟨imp_pss pss_nil fun D σ H ⟨ρ, h, env, R, RE, P⟩ => P ρ H σ .refl R RE⟩
theorem ss_one (h : SS X W st a) : SSs X W [st] a := ⟨pss_one h.ps⟩
theorem ss_cons (h1 : SS X W st a) (h2 : SSs X W rest b) : SSs X W (st :: rest) (cSeq a b) :=
  ⟨imp_pss (pss_cons h1.ps h2.pss) fun D σ H ⟨ρ, h, env, R, RE, P⟩ => by
    refine ⟨ρ, h, env, R, RE, ?_⟩
    unfold cSeq at P
    cases e : a env h with
    | nx e' h' => rw [e] at P; exact fun ρ' H' σ' E R' RE' => ⟨ρ', h', e', R', RE', P.shift E⟩
    | bk e' h' => rw [e] at P; exact P
    | ct e' h' => rw [e] at P; exact P
    | rt v h' => rw [e] at P; exact P
    | err c fs e' h' => rw [e] at P; exact P
    | stuck => rw [e] at P; exact P⟩
theorem RelE.set {K : PySem.W.Frag} {H : Hp} {ρ : Rho} {env : Env} {σ : St} {i : Nat} {v : SV} {x : V} (RE : RelE K H ρ env σ) (r : RelS K H ρ v x) : RelE K H ρ (env.set i (some v)) (σ.set i (some x)) := by
  refine ⟨by simp [RE.1], fun j s e => ?_⟩
  by_cases hj : i = j
  · subst hj
    have hl : i < env.length := by
      have := (List.getElem?_eq_some_iff.mp e).1
      simpa using this
    rw [List.getElem?_set_self hl] at e
    cases e
    exact ⟨x, List.getElem?_set_self (by rw [← RE.1]; exact hl), r⟩
  · rw [List.getElem?_set_ne hj] at e
    obtain ⟨y, h1, h2⟩ := RE.2 j s e
    exact ⟨y, by rw [List.getElem?_set_ne hj]; exact h1, h2⟩
theorem RelE.set_none {K : PySem.W.Frag} {H : Hp} {ρ : Rho} {env : Env} {σ : St} {i : Nat} {o : Option V} (RE : RelE K H ρ env σ) : RelE K H ρ (env.set i none) (σ.set i o) := by
  refine ⟨by simp [RE.1], fun j s e => ?_⟩
  by_cases hj : i = j
  · subst hj
    have hl : i < env.length := by
      have := (List.getElem?_eq_some_iff.mp e).1
      simpa using this
    rw [List.getElem?_set_self hl] at e
    cases e
  · rw [List.getElem?_set_ne hj] at e
    obtain ⟨y, h1, h2⟩ := RE.2 j s e
    exact ⟨y, by rw [List.getElem?_set_ne hj]; exact h1, h2⟩
theorem s_set (i : Nat) {x : Str} {pos' : Pos} (hN : X.N.Nodup) (he : SE X W e c) (hi : X.N[i]? = some x := by rfl) (hx : Loc X.env.scope x := by first | exact Or.inl rfl | exact Or.inr rfl) (hs : swapsWith e (some (.Name x pos')) pos.line X.env = pure false := by rfl)
    (hf : X.fn x = true ∨ X.env.scope.names.lookup x = some .local := by first | exact .inl rfl | exact .inr rfl | assumption) : SS X W (.Assign [.Name x pos'] e pos) (cSet i c) :=
  ⟨imp_ps (ps_set hN hi hx he.pe hs hf) fun D σ H ⟨ρ, h, env, R, RE, P⟩ => ⟨ρ, h, env, R, RE, (post_onV R RE P).mono fun x H1 ⟨ρ1, v, h1, E1, R1, RE1, r1, P1⟩ => P1 ρ1 H1 _ .refl R1 (RE1.set r1)⟩⟩
theorem s_expr (he : SE X W e c) (hs : swapsWith e none pos.line X.env = pure false := by rfl) : SS X W (.Expr e pos) (cExpr c) :=
  ⟨imp_ps (ps_expr he.pe hs) fun D σ H ⟨ρ, h, env, R, RE, P⟩ => ⟨ρ, h, env, R, RE, (post_onV R RE P).mono fun x H1 ⟨ρ1, v, h1, E1, R1, RE1, r1, P1⟩ => P1 ρ1 H1 _ .refl R1 RE1⟩⟩
theorem s_ret (he : SE X W e c) : SS X W (.Return (some e) pos) (cRet c) :=
  ⟨imp_ps (ps_ret he.pe) fun D σ H ⟨ρ, h, env, R, RE, P⟩ => ⟨ρ, h, env, R, RE, (post_onV R RE P).mono fun x H1 ⟨ρ1, v, h1, E1, R1, RE1, r1, P1⟩ => P1 ρ1 H1 _ .refl R1 r1⟩⟩
theorem s_retN : SS X W (.Return none pos) cRetN := ⟨imp_ps ps_retN fun D σ H ⟨ρ, h, env, R, RE, P⟩ => P ρ H _ .refl R (RelL.non RelL.nil)⟩
theorem s_if {t : Expr} {tc : Env → M Bool} {sa sb : List Stmt} (ht : ST X W t tc) (ha : SSs X W sa a) (hb : SSs X W sb b) : SS X W (.If t sa sb pos) (cIf tc a b) :=
  ⟨imp_ps (ps_if ht.pt ha.pss hb.pss) fun D σ H ⟨ρ, h, env, R, RE, P⟩ => ⟨ρ, h, env, R, RE, (post_onB R RE P).mono fun x H1 ⟨ρ1, h1, E1, R1, RE1, P1⟩ => by
    cases x with
    | true => exact iteT ⟨ρ1, h1, env, R1, RE1, P1⟩
    | false => exact iteF ⟨ρ1, h1, env, R1, RE1, P1⟩⟩⟩
theorem s_never : SS X W st cNever := ⟨imp_ps ps_never fun D σ H ⟨ρ, h, env, R, RE, P⟩ => P⟩
theorem ss_never : SSs X W rest cNever := ⟨imp_pss pss_never fun D σ H ⟨ρ, h, env, R, RE, P⟩ => P⟩
theorem s_pass : SS X W (.Pass pos) cNil := ⟨imp_ps ps_pass fun D σ H ⟨ρ, h, env, R, RE, P⟩ => P ρ H σ .refl R RE⟩
theorem s_doc {x j pos'} : SS X W (.Expr (.Constant (.str x) j pos) pos') cNil := ⟨imp_ps ps_doc fun D σ H ⟨ρ, h, env, R, RE, P⟩ => P ρ H σ .refl R RE⟩
def cBrk : ST' := fun e h => .bk e h
def cCont : ST' := fun e h => .ct e h
theorem s_break : SS X W (.Break pos) cBrk := ⟨imp_ps ps_break fun D σ H ⟨ρ, h, env, R, RE, P⟩ => P ρ H σ .refl R RE⟩
theorem s_cont : SS X W (.Continue pos) cCont := ⟨imp_ps ps_continue fun D σ H ⟨ρ, h, env, R, RE, P⟩ => P ρ H σ .refl R RE⟩
end

/-! ### targets: names and tuples of such -/
def tTg (K : PySem.W.Frag) (g : SV → Env → Option Env) (vs : List Nat) : TG := fun v σ H Q => ∃ ρ h env s env', RelH K H ρ h ∧ RelE K H ρ env σ ∧ RelS K H ρ s v ∧ g s env = some env' ∧ ∀ σ', RelE K H ρ env' σ' → (∀ j : Nat, j ∉ vs → σ'[j]? = σ[j]?) → σ'.length = σ.length → Q σ' H
def tTgs (K : PySem.W.Frag) (g : List SV → Env → Option Env) (vs : List Nat) : TGs := fun us σ H Q => ∃ ρ h env ss env', RelH K H ρ h ∧ RelE K H ρ env σ ∧ RelL K H ρ ss us ∧ g ss env = some env' ∧ ∀ σ', RelE K H ρ env' σ' → (∀ j : Nat, j ∉ vs → σ'[j]? = σ[j]?) → σ'.length = σ.length → Q σ' H
structure SG (X : Cx) (tg : Expr) (g : SV → Env → Option Env) (vs : List Nat) : Prop where
  pg : PG X tg (tTg X.K g vs)
structure SGs (X : Cx) (tgs : List Expr) (g : List SV → Env → Option Env) (vs : List Nat) : Prop where
  pg : PGs X tgs (tTgs X.K g vs)
theorem imp_pg {X : Cx} {tg : Expr} {t t' : TG} (h : PG X tg t) (i : ∀ v σ H Q, t' v σ H Q → t v σ H Q) : PG X tg t' := ⟨fun pins s σ H v u Q I r q => h.run pins s σ H v u Q I r (i v σ H Q q)⟩
theorem imp_pgs {X : Cx} {tg : List Expr} {t t' : TGs} (h : PGs X tg t) (i : ∀ v σ H Q, t' v σ H Q → t v σ H Q) : PGs X tg t' := ⟨fun pins s σ H v u Q I r q => h.run pins s σ H v u Q I r (i v σ H Q q)⟩
def gN (i : Nat) : SV → Env → Option Env := fun s e => some (e.set i (some s))
def gsN : List SV → Env → Option Env := fun ss e => match ss with
  | [] => some e
  | _ => none
def gsC (g : SV → Env → Option Env) (gs : List SV → Env → Option Env) : List SV → Env → Option Env := fun ss e => match ss with
  | s :: r => match g s e with
    | some e' => gs r e'
    | none => none
  | [] => none
def gT (n : Nat) (gs : List SV → Env → Option Env) : SV → Env → Option Env := fun s e => match s with
  | .tup xs => if xs.length = n then gs xs e else none
  | _ => none
section
variable {X : Cx} {pos : Pos} {e : Expr} {es : List Expr} {g : SV → Env → Option Env} {gs : List SV → Env → Option Env} {vs ws : List Nat}
theorem g_name (i : Nat) {x : Str} (hN : X.N.Nodup) (hi : X.N[i]? = some x := by rfl) (hx : Loc X.env.scope x := by first | exact Or.inl rfl | exact Or.inr rfl) (hf : X.fn x = true ∨ X.env.scope.names.lookup x = some .local := by first | exact .inl rfl | exact .inr rfl | assumption) :
    SG X (.Name x pos) (gN i) [i] := ⟨imp_pg (pg_name hN hi hx hf) fun v σ H Q ⟨ρ, h, env, s, env', R, RE, r, e, k⟩ => by
  cases e
  exact k _ (RE.set r) (fun j hj => List.getElem?_set_ne (fun z => hj (by simp [z]))) (by simp)⟩
theorem g_nil : SGs X [] gsN [] := ⟨imp_pgs pgs_nil fun us σ H Q ⟨ρ, h, env, ss, env', R, RE, r, e, k⟩ => by
  cases ss with
  | nil => cases e; exact ⟨r.nil_inv, k σ RE (fun _ _ => rfl) rfl⟩
  | cons s t => cases e⟩
theorem g_cons (h1 : SG X e g vs) (h2 : SGs X es gs ws) (hs : (assignEach (e :: es) X.env).map (·.2) = assign e X.env :: (assignEach es X.env).map (·.2) := by rfl) : SGs X (e :: es) (gsC g gs) (vs ++ ws) := by
  refine ⟨imp_pgs (pgs_cons h1.pg h2.pg hs) fun us σ H Q ⟨ρ, h, env, ss, env', R, RE, r, e, k⟩ => ?_⟩
  cases ss with
  | nil => cases e
  | cons s ss =>
    obtain ⟨v, ur, rfl, r1, r2⟩ := r.inv
    have e' : (match g s env with | some e' => gs ss e' | none => none) = some env' := e
    cases eg : g s env with
    | none => rw [eg] at e'; cases e'
    | some env1 =>
      rw [eg] at e'
      refine ⟨v, ur, rfl, ρ, h, env, s, env1, R, RE, r1, eg, fun σ1 RE1 a1 l1 => ?_⟩
      exact ⟨ρ, h, env1, ss, env', R, RE1, r2, e', fun σ2 RE2 a2 l2 => k σ2 RE2 (fun j hj => by
        rw [a2 j (fun z => hj (List.mem_append_right _ z)), a1 j (fun z => hj (List.mem_append_left _ z))]) (l2.trans l1)⟩
theorem g_tup {k n : Nat} (hc : X.calm = true) (h : SGs X es gs vs) (hn : (assignEach es X.env).length = n := by rfl) (hst : (assignEach es X.env).findIdx? (·.1) = none := by rfl) : SG X (.Tuple es k pos) (gT n gs) vs := by
  refine ⟨imp_pg (pg_tup hc h.pg hn hst) fun v σ H Q ⟨ρ, h, env, s, env', R, RE, r, e, k⟩ => ?_⟩
  cases s with
  | tup xs =>
    have e' : (if xs.length = n then gs xs env else none) = some env' := e
    by_cases hl : xs.length = n
    · rw [if_pos hl] at e'
      cases r with
      | tup hq ra _ => exact ⟨_, _, rfl, .of hq, by rw [← ra.length]; exact hl, ⟨ρ, h, env, xs, env', R, RE, ra, e', k⟩⟩
    · rw [if_neg hl] at e'; cases e'
  | _ => cases e
def cAsg (g : SV → Env → Option Env) (c : Env → M SV) : ST' := fun e h => onV (c e) e h fun v h' => match g v e with
  | some e' => .nx e' h'
  | none => .stuck
theorem s_asg {tg e : Expr} {c : Env → M SV} {W : WX} (hg : SG X tg g vs) (he : SE X W e c) (hs : swapsWithSole [tg] e pos.line X.env = pure false := by rfl) (hw : swappedStores [tg] e X.env = pure none := by rfl)
    (h1 : (assignEach [tg] X.env).map (·.2) = [assign tg X.env] := by rfl) : SS X W (.Assign [tg] e pos) (cAsg g c) := by
  refine ⟨imp_ps (ps_asg he.pe hg.pg hs hw h1) fun D σ H ⟨ρ, h, env, R, RE, P⟩ => ⟨ρ, h, env, R, RE, (post_onV R RE P).mono fun x H1 ⟨ρ1, v, h1, E1, R1, RE1, r1, P1⟩ => ?_⟩⟩
  cases eg : g v env with
  | none => rw [eg] at P1; exact P1.elim
  | some env' => rw [eg] at P1; exact ⟨ρ1, h1, env, v, env', R1, RE1, r1, eg, fun σ' RE' _ _ => P1 ρ1 H1 σ' .refl R1 RE'⟩
/-- a, b = x, y: both reckoned first -/
def cPar (i j : Nat) (c : Env → M (List SV)) : ST' := fun e h => match c e h with
  | .ok [v, w] h' => .nx ((e.set i (some v)).set j (some w)) h'
  | .ok _ _ => .stuck
  | .err c fs h' => .err c fs e h'
  | .stuck => .stuck
theorem s_par (i j : Nat) {x y : Str} {a b : Expr} {c : Env → M (List SV)} {W : WX} {px py pt : Pos} {kt k2 pt2} (hc : X.calm = true) (hN : X.N.Nodup) (ha : SA X W [a, b] c) (hi : X.N[i]? = some x := by rfl) (hj : X.N[j]? = some y := by rfl) (hij : i ≠ j := by decide)
    (hx : X.env.scope.names.lookup x = some .local := by rfl) (hy : X.env.scope.names.lookup y = some .local := by rfl)
    (hw : swappedStores [.Tuple [.Name x px, .Name y py] kt pt] (.Tuple [a, b] k2 pt2) X.env = pure (some [x, y]) := by rfl)
    (hs : swapsWithSole [.Tuple [.Name x px, .Name y py] kt pt] (.Tuple [a, b] k2 pt2) pos.line X.env = pure false := by rfl) : SS X W (.Assign [.Tuple [.Name x px, .Name y py] kt pt] (.Tuple [a, b] k2 pt2) pos) (cPar i j c) :=
  ⟨imp_ps (ps_par hc hN hi hj hij hx hy ha.pa hw hs) fun D σ H ⟨ρ, h, env, R, RE, P⟩ => ⟨ρ, h, env, R, RE, by
    unfold cPar at P
    cases e : c env h with
    | err cc fs h1 => rw [e] at P; exact fun ρ1 H1 cv d E R1 q => P ρ1 H1 σ cv d E R1 (RE.mono R.holds E) q
    | stuck => rw [e] at P; exact P
    | ok vs h1 =>
      rw [e] at P
      match vs, P with
      | [v, w], P =>
        intro ρ1 H1 x E R1 r
        obtain ⟨xv, us, rfl, r1, r2⟩ := RelL.inv r
        obtain ⟨xw, us, rfl, r2, r3⟩ := RelL.inv r2
        cases r3
        exact ⟨xv, xw, rfl, P ρ1 H1 _ E R1 (((RE.mono R.holds E).set r1).set r2)⟩⟩⟩
end

/-! ### what is walked -/
inductive Gd where
  | no | lst (n : Nat) (xs : List SV)
def Gd.ok : Gd → SHp → Bool
  | .no, _ => true
  | .lst n xs, h => match h[n]? with
    | some (.lst ys) => decide (ys = xs)
    | _ => false
def ItOk (K : PySem.W.Frag) (J : It) (items : List SV) (gd : Gd) (ρ1 : Rho) (H1 : Hp) : Prop :=
  ∀ ρ H h, Ext ρ1 H1 ρ H → RelH K H ρ h → gd.ok h = true → (∀ i, i < items.length → J.go i H) ∧ J.stop items.length H ∧
    ∀ i x H', i < items.length → J.yld i H x H' → Ext ρ H ρ H' ∧ RelH K H' ρ h ∧ ∃ s, items[i]? = some s ∧ RelS K H' ρ s x
def tI (K : PySem.W.Frag) (W : WX) (c : Env → M (List SV × Gd)) : TI := fun σ H Rr => ∃ ρ h env, RelH K H ρ h ∧ RelE K H ρ env σ ∧ Post K W (fun H1 ρ1 v J => ItOk K J v.1 v.2 ρ1 H1) σ ρ H (c env h) Rr
structure SI (X : Cx) (W : WX) (tg iter : Expr) (c : Env → M (List SV × Gd)) : Prop where
  pi : PI X tg iter (tI X.K W c)
theorem imp_pi {X : Cx} {tg iter : Expr} {t t' : TI} (h : PI X tg iter t) (i : ∀ σ H Q, t' σ H Q → t σ H Q) : PI X tg iter t' := ⟨fun pins s σ H R I q => h.run pins s σ H R I (i σ H R q)⟩
def forL (g : SV → Env → Option Env) (body : ST') (gd : Gd) : List SV → ST'
  | [], e, h => if gd.ok h = true then .nx e h else .stuck
  | s :: ss, e, h => if gd.ok h = true then match g s e with
    | none => .stuck
    | some e1 => match body e1 h with
      | .nx e2 h2 => forL g body gd ss e2 h2
      | .ct e2 h2 => forL g body gd ss e2 h2
      | .bk e2 h2 => .nx e2 h2
      | .rt v h2 => .rt v h2
      | .err c fs e2 h2 => .err c fs e2 h2
      | .stuck => .stuck
    else .stuck
def cFor (c : Env → M (List SV × Gd)) (g : SV → Env → Option Env) (body : ST') : ST' := fun e h => match c e h with
  | .ok v h' => forL g body v.2 v.1 e h'
  | .err c fs h' => .err c fs e h'
  | .stuck => .stuck
section
variable {X : Cx} {W : WX} {pos : Pos} {tg iter : Expr} {body : List Stmt} {c : Env → M (List SV × Gd)} {g : SV → Env → Option Env} {vs : List Nat} {b : ST'}
theorem s_for (hp : PassesOwn (model X.prog X.w) X.A X.env X.xe) (hc : X.calm = true) (hi : SI X W tg iter c) (hg : SG X tg g vs) (hb : SSs X W body b) (hs : ∀ x, foldedSetIterable iter X.env x = pure x := by intro _; rfl) : SS X W (.For tg iter body [] pos) (cFor c g b) := by
  refine ⟨imp_ps (ps_for hp hc hi.pi hg.pg hb.pss hs) fun D σ H ⟨ρ, h, env, R, RE, P⟩ => ⟨ρ, h, env, R, RE, ?_⟩⟩
  unfold cFor at P
  cases e : c env h with
  | err cc fs h1 => rw [e] at P; exact fun ρ1 H1 cv d E R1 q => P ρ1 H1 σ cv d E R1 (RE.mono R.holds E) q
  | stuck => rw [e] at P; exact P
  | ok v h1 =>
    rw [e] at P
    obtain ⟨items, gd⟩ := v
    intro ρ1 H1 J E1 R1 hJ
    have RE1 := RE.mono R.holds E1
    refine ⟨fun i m σ H => m = items.length - i ∧ i ≤ items.length ∧ ∃ ρ h env, Ext ρ1 H1 ρ H ∧ RelH X.K H ρ h ∧ RelE X.K H ρ env σ ∧ PostR X.K W D ρ H (forL g b gd (items.drop i) env h), ⟨items.length, by simp, Nat.zero_le _, ρ1, h1, env, .refl, R1, RE1, (P.shift E1 : PostR X.K W D ρ1 H1 (forL g b gd items env h1))⟩, ?_⟩
    rintro i m σ H ⟨rfl, hi, ρ, h, env, E, R, RE, P⟩
    by_cases hlt : i < items.length
    · rw [List.drop_eq_getElem_cons hlt] at P
      unfold forL at P
      by_cases hg : gd.ok h = true
      · rw [if_pos hg] at P
        obtain ⟨go, st, yl⟩ := hJ ρ H h E R hg
        refine .inr ⟨go i hlt, fun σ' H' => ∃ ρ h env, Ext ρ1 H1 ρ H' ∧ RelH X.K H' ρ h ∧ RelE X.K H' ρ env σ' ∧ PostR X.K W D ρ H' (forL g b gd (items.drop (i + 1)) env h), fun σ' H' q => ⟨items.length - (i + 1), by omega, rfl, hlt, q⟩, fun x H' y => ?_⟩
        obtain ⟨E2, R2, s, hs, r2⟩ := yl i x H' hlt y
        have hs' : items[i] = s := by rw [List.getElem?_eq_getElem hlt] at hs; exact Option.some.inj hs
        rw [hs'] at P
        cases eg : g s env with
        | none => rw [eg] at P; exact P.elim
        | some env1 =>
          rw [eg] at P
          refine ⟨ρ, h, env, s, env1, R2, RE.mono R.holds E2, r2, eg, fun σ2 RE2 _ _ => ⟨ρ, h, env1, R2, RE2, ?_⟩⟩
          have P2 := P.shift E2
          have E12 := E.tr E2
          cases eb : b env1 h with
          | nx e2 h2 => simp only [eb] at P2; exact fun ρ' H' σ' E' R' RE' => ⟨ρ', h2, e2, E12.tr E', R', RE', P2.shift E'⟩
          | ct e2 h2 => simp only [eb] at P2; exact fun ρ' H' σ' E' R' RE' => ⟨ρ', h2, e2, E12.tr E', R', RE', P2.shift E'⟩
          | bk e2 h2 => simp only [eb] at P2; exact fun ρ' H' σ' E' R' RE' => P2 ρ' H' σ' E' R' RE'
          | rt v h2 => simp only [eb] at P2; exact P2
          | err cc fs e2 h2 => simp only [eb] at P2; exact P2
          | stuck => simp only [eb] at P2; exact P2.elim
      · rw [if_neg hg] at P; exact P.elim
    · have hi' : i = items.length := by omega
      subst hi'
      rw [List.drop_length] at P
      unfold forL at P
      by_cases hg : gd.ok h = true
      · rw [if_pos hg] at P
        obtain ⟨go, st, yl⟩ := hJ ρ H h E R hg
        exact .inl ⟨st, P ρ H σ .refl R RE⟩
      · rw [if_neg hg] at P; exact P.elim
end

/-! ### list comprehensions -/
def wipeE (e : Env) : List Nat → Env
  | [] => e
  | v :: vs => (wipeE e vs).set v none
theorem RelE.wipe {K : PySem.W.Frag} {H : Hp} {ρ : Rho} {env : Env} {σ : St} (RE : RelE K H ρ env σ) : ∀ vs, RelE K H ρ (wipeE env vs) (L2.wipe σ vs)
  | [] => RE
  | v :: vs => (RelE.wipe RE vs).set_none
theorem wipe_get : ∀ (ws : List Nat) (τ : St) (j : Nat), (L2.wipe τ ws)[j]? = if j ∈ ws ∧ j < τ.length then some none else τ[j]? := by
  intro ws
  induction ws with
  | nil => intro τ j; simp [L2.wipe]
  | cons w ws ih =>
    intro τ j
    unfold L2.wipe
    have hlen : (L2.wipe τ ws).length = τ.length := L2.wipe_length τ ws
    by_cases hj : w = j
    · subst hj
      by_cases hl : w < τ.length
      · rw [List.getElem?_set_self (by rw [hlen]; exact hl), if_pos ⟨by simp, hl⟩]
      · rw [List.getElem?_eq_none (by rw [List.length_set, hlen]; omega), if_neg (fun z => hl z.2), List.getElem?_eq_none (by omega)]
    · rw [List.getElem?_set_ne hj, ih τ j]
      by_cases hm : j ∈ ws ∧ j < τ.length
      · rw [if_pos hm, if_pos ⟨List.mem_cons_of_mem _ hm.1, hm.2⟩]
      · rw [if_neg hm, if_neg]
        rintro ⟨z, hz⟩
        rcases List.mem_cons.mp z with q | q
        · exact hj q.symm
        · exact hm ⟨q, hz⟩
theorem wipe_same {σ σ' : St} {vs : List Nat} (ws : List Nat) (h : ∀ j, j ∉ vs → σ'[j]? = (L2.wipe σ ws)[j]?) (hl : σ'.length = (L2.wipe σ ws).length) (hw : ∀ v ∈ vs, v ∈ ws) : L2.wipe σ' ws = L2.wipe σ ws := by
  have hl' : σ'.length = σ.length := by rw [hl, L2.wipe_length]
  refine List.ext_getElem? fun j => ?_
  rw [wipe_get, wipe_get, hl']
  by_cases hm : j ∈ ws ∧ j < σ.length
  · rw [if_pos hm, if_pos hm]
  · rw [if_neg hm, if_neg hm]
    by_cases hv : j ∈ vs
    · have : ¬ j < σ.length := fun z => hm ⟨hw j hv, z⟩
      rw [List.getElem?_eq_none (by omega), List.getElem?_eq_none (by omega)]
    · rw [h j hv, wipe_get, if_neg hm]
/-- an error within is not served -/
def M.bindN {α β : Type} (m : M α) (k : α → M β) : M β := fun h => match m h with
  | .ok v h' => k v h'
  | _ => .stuck
theorem Post.bindN {α β γ δ : Type} {K : PySem.W.Frag} {W : WX} {rel : Hp → Rho → α → β → Prop} {rel' : Hp → Rho → γ → δ → Prop} {σ σ' : St} {ρ1 ρ : Rho} {H1 H : Hp} {h : SHp} {m : M α} {k : α → M γ} {Q : δ → Hp → Prop} (P : Post K W rel' σ ρ1 H1 (M.bindN m k h) Q) :
    Post K (fun _ _ _ _ => False) rel σ' ρ H (m h) (fun x H' => ∃ ρ' v h', Ext ρ H ρ' H' ∧ RelH K H' ρ' h' ∧ rel H' ρ' v x ∧ Post K W rel' σ ρ1 H1 (k v h') Q) := by
  unfold M.bindN at P
  cases e : m h with
  | ok v h1 => rw [e] at P; exact fun ρ1 H1 x E R q => ⟨ρ1, v, h1, E, R, q, P⟩
  | err c fs h1 => rw [e] at P; exact P.elim
  | stuck => rw [e] at P; exact P.elim
def compL (g : SV → Env → Option Env) (t : Env → M Bool) (el : Env → M SV) (gd : Gd) (e : Env) : List SV → List SV → M (List SV)
  | [], acc => fun h => if gd.ok h = true then .ok acc h else .stuck
  | s :: ss, acc => fun h => if gd.ok h = true then match g s e with
    | none => .stuck
    | some e1 => M.bindN (t e1) (fun k => if k = true then M.bindN (el e1) (fun v => if acc.length < sizeLine then compL g t el gd e ss (acc ++ [v]) else fun _ => .stuck) else compL g t el gd e ss acc) h
    else .stuck
def eLc (c : Env → M (List SV × Gd)) (own : List Nat) (g : SV → Env → Option Env) (t : Env → M Bool) (el : Env → M SV) : Env → M SV := fun e =>
  M.bind (c e) fun v => M.bind (compL g t el v.2 (wipeE e own) v.1 []) fun xs => M.ret (.rls xs)
structure STs (X : Cx) (ts : List Expr) (c : Env → M Bool) : Prop where
  pt : PTs X ts (tB X.K (fun _ _ _ _ => False) c)
def bTrue : Env → M Bool := fun _ => M.ret true
theorem t_nil {X : Cx} : STs X [] bTrue := ⟨⟨fun pins s σ H Q I h => pts_nil.run pins s σ H Q I (by
  obtain ⟨ρ, h, env, R, RE, P⟩ := h
  exact P ρ H true .refl R rfl)⟩⟩
theorem t_one {X : Cx} {t : Expr} {c : Env → M Bool} (h : ST X (fun _ _ _ _ => False) t c) : STs X [t] c := ⟨⟨fun pins s σ H Q I q => (pts_one h.pt).run pins s σ H Q I q⟩⟩

abbrev W0 : WX := fun _ _ _ _ => False
section
variable {X : Cx} {W : WX} {elt tg iter : Expr} {ifs : List Expr} {scope : Scope} {pos : Pos} {c : Env → M (List SV × Gd)} {g : SV → Env → Option Env} {t : Env → M Bool} {el : Env → M SV} {vs : List Nat}
/-- from the ground (ρ1, H1) with the hidden list at D -/
theorem Ext.over {ρ1 ρ ρ' : Rho} {H1 H H' : Hp} {ex : List Addr} (E : Ext ρ1 H1 ⟨ρ.l, ex⟩ H) (F : Ext ρ H ρ' H') : Ext ρ1 H1 ⟨ρ'.l, ex⟩ H' := by
  refine ⟨E.pre.trans F.pre, fun a ha => ?_, fun b o hb n => F.kept b o (E.kept b o hb n) (E.outl hb n), E.hid, E.sub⟩
  rcases F.new a ha with q | q
  · exact E.new a q
  · by_cases m : a ∈ ρ1.l
    · exact .inl m
    · exact .inr (E.none_of q m)
theorem lc_post {own : List (Str × Nat)} {σ : St} {H : Hp} {Q : VK} (hv : ∀ v ∈ vs, v ∈ own.map (·.2)) (h : tS X.K W (eLc c (own.map (·.2)) g t el) σ H Q) :
    tLc (tI X.K W c) (tTg X.K g vs) (tB X.K W0 t) (tS X.K W0 el) (own.map (·.2)) σ H Q := by
  obtain ⟨ρ, h, env, R, RE, P⟩ := h
  refine ⟨ρ, h, env, R, RE, (Post.bind (rel := fun H1 ρ1 v J => ItOk X.K J v.1 v.2 ρ1 H1) P).mono fun J H1 ⟨ρ1, v, h1, E1, R1, hJ, P1⟩ D hD => ?_⟩
  obtain ⟨items, gd⟩ := v
  have RE1 := RE.mono R.holds E1
  have oD := R1.outf hD
  -- the list at D, what is made so far
  let Inv' : Nat → Hp → Prop := fun i H => ∃ ρ h acc us, Ext ρ1 H1 ⟨ρ.l, ρ1.ex⟩ H ∧ RelH X.K H ρ h ∧ RelE X.K H ρ env σ ∧ D ∈ ρ.ex ∧ D ∉ ρ.l ∧ (∀ d ∈ ρ.ex, d ∈ ρ1.ex ∨ (H1 d = none ∧ d ∉ ρ1.l)) ∧ (∀ d ∈ ρ1.ex, d ∈ ρ.ex) ∧ H D = some (.lst us) ∧ RelL X.K H ρ acc us ∧
    Post X.K W (relS X.K) σ ρ1 H1 (M.bind (compL g t el gd (wipeE env (own.map (·.2))) (items.drop i) acc) (fun xs => M.ret (.rls xs)) h) Q
  refine ⟨fun i m H => m = items.length - i ∧ i ≤ items.length ∧ Inv' i H, ⟨items.length, by simp, Nat.zero_le _, ρ1.hide D, h1, [], [], ?_, R1.hidden hD, RE1.mono R1.holds (.hidden hD R1.holds), List.mem_cons_self, oD.1, ?_, fun d hd => List.mem_cons_of_mem _ hd, upd_same, .nil, P1⟩, ?_⟩
  · exact .fresh hD
  · intro d hd
    rcases List.mem_cons.mp hd with q | q
    · subst q; exact .inr ⟨hD, oD.1⟩
    · exact .inl q
  rintro i m H ⟨rfl, hi, ρ, h, acc, us, E, R, RE2, mD, nD, hid, sub, hH, ra, P⟩
  have E' : Ext ρ1 H1 ρ H := ⟨E.pre, E.new, E.kept, hid, sub⟩
  by_cases hlt : i < items.length
  · rw [List.drop_eq_getElem_cons hlt] at P
    unfold compL at P
    by_cases hg : gd.ok h = true
    · obtain ⟨go, st, yl⟩ := hJ ρ H h E' R hg
      refine .inr ⟨go i hlt, Inv' (i + 1), fun H' q => ⟨items.length - (i + 1), by omega, rfl, hlt, q⟩, fun x H' y => ?_⟩
      obtain ⟨E2, R2, s, hs, r2⟩ := yl i x H' hlt y
      have hs' : items[i] = s := by rw [List.getElem?_eq_getElem hlt] at hs; exact Option.some.inj hs
      rw [hs'] at P
      have hH2 : H' D = some (.lst us) := E2.kept D _ hH nD
      have ra2 := ra.mono R.holds E2
      have RE3 := RE2.mono R.holds E2
      have E12 := E.over E2
      cases eg : g s (wipeE env (own.map (·.2))) with
      | none => simp only [M.bind, if_pos hg, eg] at P; exact P.elim
      | some env1 =>
        have P0 : Post X.K W (relS X.K) σ ρ1 H1 (M.bindN (t env1) (fun k => M.bind (if k = true then M.bindN (el env1) (fun v => if acc.length < sizeLine then compL g t el gd (wipeE env (own.map (·.2))) (items.drop (i + 1)) (acc ++ [v]) else fun _ => .stuck) else compL g t el gd (wipeE env (own.map (·.2))) (items.drop (i + 1)) acc) (fun xs => M.ret (.rls xs))) h) Q := by
          simp only [M.bind, if_pos hg, eg] at P
          simp only [M.bindN] at P ⊢
          cases et : t env1 h with
          | ok k h' => simp only [et] at P ⊢; exact P
          | err c fs h' => simp only [et] at P; exact P.elim
          | stuck => simp only [et] at P; exact P.elim
        refine ⟨ρ, h, _, s, env1, R2, RE3.wipe _, r2, eg, fun σ2 RE4 a2 l2 => ⟨wipe_same _ a2 l2 hv, ?_⟩⟩
        refine ⟨ρ, h, env1, R2, RE4, (Post.bindN (rel := relT) (σ' := σ2) (ρ := ρ) (H := H') P0).mono fun k H3 ⟨ρ3, k', h3, E3, R3, r3, P3⟩ => ?_⟩
        cases r3
        have E13 := E12.over E3
        have mD3 : D ∈ ρ3.ex := E3.sub D mD
        have nD3 : D ∉ ρ3.l := E3.outl hH2 nD
        have hH3 : H3 D = some (.lst us) := E3.kept D _ hH2 nD
        have ra3 := ra2.mono R2.holds E3
        have RE5 := RE3.mono R2.holds E3
        have EE : Ext ρ1 H1 ρ3 H3 := (E'.tr E2).tr E3
        cases k with
        | false => exact iteF ⟨ρ3, h3, acc, us, E13, R3, RE5, mD3, nD3, EE.hid, EE.sub, hH3, ra3, P3⟩
        | true =>
          refine iteT ⟨ρ3, h3, env1, R3, RE4.mono R2.holds E3, ?_⟩
          have P4 : Post X.K W (relS X.K) σ ρ1 H1 (M.bindN (el env1) (fun v => M.bind (if acc.length < sizeLine then compL g t el gd (wipeE env (own.map (·.2))) (items.drop (i + 1)) (acc ++ [v]) else fun _ => .stuck) (fun xs => M.ret (.rls xs))) h3) Q := by
            simp only [M.bind, M.bindN, if_true] at P3 ⊢
            cases et : el env1 h3 with
            | ok k h' => simp only [et] at P3 ⊢; exact P3
            | err c fs h' => simp only [et] at P3; exact P3.elim
            | stuck => simp only [et] at P3; exact P3.elim
          refine (Post.bindN (rel := relS X.K) (σ' := σ2) (ρ := ρ3) (H := H3) P4).mono fun y H4 ⟨ρ4, v, h4, E4, R4, r4, P5⟩ => ?_
          have mD4 : D ∈ ρ4.ex := E4.sub D mD3
          have nD4 : D ∉ ρ4.l := E4.outl hH3 nD3
          have hH4 : H4 D = some (.lst us) := E4.kept D _ hH3 nD3
          have ra4 := ra3.mono R3.holds E4
          have RE6 := RE5.mono R3.holds E4
          have EE4 : Ext ρ1 H1 ρ4 H4 := EE.tr E4
          have E14 := E13.over E4
          by_cases hs : acc.length < sizeLine
          · simp only [if_pos hs] at P5
            refine ⟨us, hH4, by rw [← ra4.length]; exact hs, ρ4, h4, acc ++ [v], us ++ [y], ⟨E14.pre, E14.new, fun b o q n => ?_, E14.hid, E14.sub⟩, R4.scribble mD4 (.lst hH4) nD4, RE6.scribble mD4 (.lst hH4), mD4, nD4, EE4.hid, EE4.sub, upd_same, (ra4.snoc r4).scribble mD4 (.lst hH4), P5⟩
            rw [upd_ne (fun z => by rw [z, hD] at q; cases q)]
            exact E14.kept b o q n
          · simp only [M.bind, if_neg hs] at P5; exact P5.elim
    · simp only [M.bind, if_neg hg] at P; exact P.elim
  · have hi' : i = items.length := by omega
    subst hi'
    rw [List.drop_length] at P
    unfold compL at P
    by_cases hg : gd.ok h = true
    · obtain ⟨go, st, yl⟩ := hJ ρ H h E' R hg
      simp only [M.bind, if_pos hg] at P
      have ro : Rho.out ⟨ρ.l, ρ1.ex⟩ D := ⟨nD, oD.2⟩
      exact .inl ⟨st, P ⟨ρ.l, ρ1.ex⟩ H _ E (R.show rfl sub) (.rls hH ro (ra.show rfl sub) .nil)⟩
    · simp only [M.bind, if_neg hg] at P; exact P.elim
theorem e_lc (own : List (Str × Nat)) (hc : X.calm = true) (hN : X.N.Nodup) (hi : SI X W tg iter c) (ok : BlkOk X.N X.env.scope scope own)
    (hg : ∀ (s : Shared) (H : Hp) (C : Addr) (cl : List (Str × Addr)) (fp : List Addr), SG (X.blk s H scope (compEnvC scope cl C X.env) fp) tg g vs) (ht : ∀ (s : Shared) (H : Hp) (C : Addr) (cl : List (Str × Addr)) (fp : List Addr), STs (X.blk s H scope (compEnvC scope cl C X.env) fp) ifs t)
    (he : ∀ (s : Shared) (H : Hp) (C : Addr) (cl : List (Str × Addr)) (fp : List Addr), SE (X.blk s H scope (compEnvC scope cl C X.env) fp) W0 elt el) (hv : ∀ v ∈ vs, v ∈ own.map (·.2) := by decide) (hs : ∀ x, foldedSetIterable iter X.env x = pure x := by intro _; rfl) :
    SE X W (.ListComp elt [⟨tg, iter, ifs, 0⟩] scope pos) (eLc c (own.map (·.2)) g t el) :=
  ⟨imp_pe (pe_lc (own := own) (wi := tI X.K W c) (g := tTg X.K g vs) (tt := tB X.K W0 t) (te := tS X.K W0 el) hc hN hi.pi ok (fun s H C cl fp => (hg s H C cl fp).pg) (fun s H C cl fp => (ht s H C cl fp).pt) (fun s H C cl fp => (he s H C cl fp).pe) hs) fun σ H Q h => lc_post hv h⟩
theorem s_setLc (i : Nat) {y : Str} {py spos : Pos} (own : List (Str × Nat)) (hc : X.calm = true) (hN : X.N.Nodup) (hi : SI X W tg iter c) (ok : BlkOk X.N X.env.scope scope own)
    (hg : ∀ (s : Shared) (H : Hp) (C : Addr) (cl : List (Str × Addr)) (fp : List Addr), SG (X.blk s H scope (compEnvC scope cl C X.env) fp) tg g vs) (ht : ∀ (s : Shared) (H : Hp) (C : Addr) (cl : List (Str × Addr)) (fp : List Addr), STs (X.blk s H scope (compEnvC scope cl C X.env) fp) ifs t)
    (he : ∀ (s : Shared) (H : Hp) (C : Addr) (cl : List (Str × Addr)) (fp : List Addr), SE (X.blk s H scope (compEnvC scope cl C X.env) fp) W0 elt el)
    (hsw : swapsWith (.ListComp elt [⟨tg, iter, ifs, 0⟩] scope pos) (some (.Name y py)) spos.line X.env = pure true)
    (hy : X.N[i]? = some y := by rfl) (hyl : X.env.scope.names.lookup y = some .local := by rfl)
    (hv : ∀ v ∈ vs, v ∈ own.map (·.2) := by decide) (hs : ∀ x, foldedSetIterable iter X.env x = pure x := by intro _; rfl) :
    SS X W (.Assign [.Name y py] (.ListComp elt [⟨tg, iter, ifs, 0⟩] scope pos) spos) (cSet i (eLc c (own.map (·.2)) g t el)) :=
  ⟨imp_ps (ps_setLc (own := own) (wi := tI X.K W c) (g := tTg X.K g vs) (tt := tB X.K W0 t) (te := tS X.K W0 el) hc hN hy hyl hsw hi.pi ok (fun s H C cl fp => (hg s H C cl fp).pg) (fun s H C cl fp => (ht s H C cl fp).pt) (fun s H C cl fp => (he s H C cl fp).pe) hs) fun D σ H ⟨ρ, h, env, R, RE, P⟩ =>
    lc_post (Q := fun x H1 => gName i x σ H1 D.nx) hv ⟨ρ, h, env, R, RE, (post_onV R RE P).mono fun x H1 ⟨ρ1, v, h1, E1, R1, RE1, r1, P1⟩ => P1 ρ1 H1 _ .refl R1 (RE1.set r1)⟩⟩
end
end Sim

set_option Elab.async false
set_option linter.all false
set_option maxRecDepth 100000
set_option maxHeartbeats 4000000
namespace Sim
open PySem L2

/-! ### lists and tuples behind a value -/
def listOf (v : SV) (h : SHp) : Option (List SV) := match v with
  | .rls xs => some xs
  | .frl xs => some xs
  | .ref n => match h[n]? with
    | some (.lst xs) => some xs
    | _ => none
  | _ => none
def tupOf (v : SV) : Option (List SV) := match v with
  | .tup xs => some xs
  | _ => none
def seqOf (v : SV) (h : SHp) : Option (List SV) := match v with
  | .tup xs => some xs
  | v => listOf v h
section
variable {K : PySem.W.Frag} {H : Hp} {ρ : Rho} {h : SHp} {v : SV} {x : V} {xs : List SV}
theorem tup_rel1 (r : RelS K H ρ (.tup xs) x) : ∃ a us, x = .ref a ∧ H a = some (.tup us) ∧ RelL K H ρ xs us := by
  cases r with
  | tup h a _ => exact ⟨_, _, rfl, h, a⟩
theorem tup_rel (r : RelS K H ρ (.tup xs) x) : ∃ a us, x = .ref a ∧ SqT K H a us ∧ RelL K H ρ xs us := by
  cases r with
  | tup h a _ => exact ⟨_, _, rfl, .of h, a⟩
theorem list_rel (R : RelH K H ρ h) (e : listOf v h = some xs) (r : RelS K H ρ v x) : ∃ a us, x = .ref a ∧ SqL K H a us ∧ RelL K H ρ xs us := by
  cases v with
  | rls ys => cases e; cases r with
    | rls h n a _ => exact ⟨_, _, rfl, .of h, a⟩
  | frl ys => cases e; cases r with
    | frl h a _ =>
      refine ⟨_, _, rfl, ?_, a⟩
      rcases h with ⟨h, _⟩ | h
      · exact .inl h
      · exact h.seq
  | ref i =>
    have e' : (match h[i]? with | some (.lst xs) => some xs | _ => none) = some xs := e
    cases r with
    | ref hi _ =>
      cases q : h[i]? with
      | none => simp [q] at e'
      | some o =>
        obtain ⟨a, ha, ob⟩ := R.ob i o q
        rw [hi] at ha; cases ha
        cases o with
        | lst ys =>
          simp [q] at e'; subst e'
          obtain ⟨us, h1, h2⟩ := ob
          exact ⟨_, us, rfl, .of h1, h2⟩
        | dic _ _ _ => simp [q] at e'
        | ins _ _ _ => simp [q] at e'
  | _ => cases e
theorem seq_rel (R : RelH K H ρ h) (e : seqOf v h = some xs) (r : RelS K H ρ v x) : ∃ a us, x = .ref a ∧ (SqL K H a us ∨ SqT K H a us) ∧ RelL K H ρ xs us := by
  by_cases ht : ∃ ys, v = .tup ys
  · obtain ⟨ys, rfl⟩ := ht
    cases e
    obtain ⟨a, us, h1, h2, h3⟩ := tup_rel r
    exact ⟨a, us, h1, .inr h2, h3⟩
  · have e' : listOf v h = some xs := by
      cases v <;> first | exact e | exact (ht ⟨_, rfl⟩).elim
    obtain ⟨a, us, h1, h2, h3⟩ := list_rel R e' r
    exact ⟨a, us, h1, .inl h2, h3⟩
end

/-! ### ints -/
def op2I (f : Int → Int → Option SV) : SV → SV → SHp → Option SV := fun v w _ => match v, w with
  | .int i, .int j => f i j
  | _, _ => none
theorem op2I_some {f : Int → Int → Option SV} {v w : SV} {h : SHp} {z : SV} (e : op2I f v w h = some z) : ∃ i j, v = .int i ∧ w = .int j ∧ f i j = some z := by
  unfold op2I at e
  split at e
  · exact ⟨_, _, rfl, rfl, e⟩
  · cases e
theorem OpS.of {X : Cx} {f : Value → Value → Sem Value} {g : SV → SV → SHp → Option SV} {r : R2} (ho : OpR X f r)
    (i : ∀ x y H Q ρ h v w z, RelH X.K H ρ h → RelS X.K H ρ v x → RelS X.K H ρ w y → g v w h = some z → (∀ H' r, Ext ρ H ρ H' → RelH X.K H' ρ h → RelS X.K H' ρ z r → Q r H') → r x y H Q) : OpS X f g :=
  fun pins s σ H x y v u Q I rx ry ⟨ρ, h, a, b, z, R, ra, rb, e, k⟩ => ho pins s σ H x y v u Q I rx ry (i x y H Q ρ h a b z R ra rb e k)
theorem OpS.or {X : Cx} {f : Value → Value → Sem Value} {g g' : SV → SV → SHp → Option SV} (a : OpS X f g) (b : OpS X f g') : OpS X f (fun v w h => (g v w h).or (g' v w h)) :=
  fun pins s σ H x y v u Q I rx ry ⟨ρ, h, p, q, z, R, ra, rb, e, k⟩ => by
    cases e1 : g p q h with
    | some z' =>
      have e' : (g p q h).or (g' p q h) = some z := e
      rw [e1] at e'; cases e'
      exact a pins s σ H x y v u Q I rx ry ⟨ρ, h, p, q, _, R, ra, rb, e1, k⟩
    | none =>
      have e' : (g p q h).or (g' p q h) = some z := e
      rw [e1] at e'
      exact b pins s σ H x y v u Q I rx ry ⟨ρ, h, p, q, _, R, ra, rb, e', k⟩
section
variable {X : Cx}
theorem opI_of {f : Value → Value → Sem Value} {C : Int → Int → Prop} [∀ i j, Decidable (C i j)] {g : Int → Int → Int} (ho : OpR X f (rI C fun i j => .int (g i j))) : OpS X f (op2I fun i j => if C i j then some (.int (g i j)) else none) :=
  .of ho fun x y H Q ρ h v w z R rv rw' e k => by
    obtain ⟨i, j, rfl, rfl, e2⟩ := op2I_some e
    by_cases c : C i j
    · rw [if_pos c] at e2; cases e2
      cases rv; cases rw'
      exact ⟨i, j, rfl, rfl, c, k H _ .refl R (.int .nil)⟩
    · rw [if_neg c] at e2; cases e2
theorem opI0_of {f : Value → Value → Sem Value} {g : Int → Int → Int} (ho : OpR X f (rI0 fun i j => .int (g i j))) : OpS X f (op2I fun i j => some (.int (g i j))) :=
  .of ho fun x y H Q ρ h v w z R rv rw' e k => by
    obtain ⟨i, j, rfl, rfl, e2⟩ := op2I_some e
    cases e2
    cases rv; cases rw'
    exact ⟨i, j, rfl, rfl, k H _ .refl R (.int .nil)⟩
theorem opB0_of {f : Value → Value → Sem Value} {g : Int → Int → Bool} (ho : OpR X f (rI0 fun i j => .bl (g i j))) : OpS X f (op2I fun i j => some (.bl (g i j))) :=
  .of ho fun x y H Q ρ h v w z R rv rw' e k => by
    obtain ⟨i, j, rfl, rfl, e2⟩ := op2I_some e
    cases e2
    cases rv; cases rw'
    exact ⟨i, j, rfl, rfl, k H _ .refl R (.bl .nil)⟩
def addI : SV → SV → SHp → Option SV := op2I fun i j => some (.int (i + j))
def subI : SV → SV → SHp → Option SV := op2I fun i j => some (.int (i - j))
instance (i j : Int) : Decidable (L2.CMulW i j) := inferInstanceAs (Decidable (_ < _))
instance (i j : Int) : Decidable (L2.CDivW i j) := inferInstanceAs (Decidable (_ ∧ _))
instance (i j : Int) : Decidable (L2.CPow i j) := inferInstanceAs (Decidable (_ ∧ _ ∧ _))
def mulI : SV → SV → SHp → Option SV := op2I fun i j => if L2.CMulW i j then some (.int (i * j)) else none
def divI : SV → SV → SHp → Option SV := op2I fun i j => if L2.CDivW i j then some (.int (i / j)) else none
def modI : SV → SV → SHp → Option SV := op2I fun i j => if j ≠ 0 then some (.int (i.fmod j)) else none
def powI : SV → SV → SHp → Option SV := op2I fun i j => if L2.CPow i j then some (.int (i ^ j.toNat)) else none
def ltI : SV → SV → SHp → Option SV := op2I fun i j => some (.bl (decide (i < j)))
def leI : SV → SV → SHp → Option SV := op2I fun i j => some (.bl (decide (i ≤ j)))
def gtI : SV → SV → SHp → Option SV := op2I fun i j => some (.bl (decide (j < i)))
def geI : SV → SV → SHp → Option SV := op2I fun i j => some (.bl (decide (j ≤ i)))
theorem o_addI : OpS X (binaryOp .Add) addI := opI0_of op_add
theorem o_subI : OpS X (binaryOp .Sub) subI := opI0_of op_sub
theorem o_mulI : OpS X (binaryOp .Mult) mulI := opI_of op_mulW
theorem o_divI : OpS X (binaryOp .FloorDiv) divI := opI_of op_fdivW
theorem o_modI : OpS X (binaryOp .Mod) modI := opI_of op_modN
theorem o_powI : OpS X (binaryOp .Pow) powI := opI_of op_pow
theorem o_ltI : OpS X (compareOp .Lt) ltI := opB0_of op_lt
theorem o_leI : OpS X (compareOp .LtE) leI := opB0_of op_le
theorem o_gtI : OpS X (compareOp .Gt) gtI := opB0_of op_gt
theorem o_geI : OpS X (compareOp .GtE) geI := opB0_of op_ge
def addStr : SV → SV → SHp → Option SV := fun v w _ => match v, w with
  | .str a, .str b => if a.length + b.length ≤ sizeLine then some (.str (a ++ b)) else none
  | _, _ => none
def addTup : SV → SV → SHp → Option SV := fun v w _ => match v, w with
  | .tup a, .tup b => if a.length + b.length ≤ sizeLine then some (.tup (a ++ b)) else none
  | _, _ => none
def addLst : SV → SV → SHp → Option SV := fun v w _ => match v, w with
  | .rls a, .rls b => if a.length + b.length ≤ sizeLine then some (.rls (a ++ b)) else none
  | _, _ => none
theorem o_addStr : OpS X (binaryOp .Add) addStr := .of op_add_str fun x y H Q ρ h v w z R rv rw' e k => by
  unfold addStr at e
  split at e
  · rename_i a b
    by_cases c : a.length + b.length ≤ sizeLine
    · rw [if_pos c] at e; cases e
      cases rv; cases rw'
      exact ⟨a, b, rfl, rfl, c, k H _ .refl R (.str .nil)⟩
    · rw [if_neg c] at e; cases e
  · cases e
theorem o_addTup : OpS X (binaryOp .Add) addTup := .of op_catA fun x y H Q ρ h v w z R rv rw' e k => by
  unfold addTup at e
  split at e
  · rename_i a b
    by_cases c : a.length + b.length ≤ sizeLine
    · rw [if_pos c] at e; cases e
      obtain ⟨p, us, rfl, h1, r1⟩ := tup_rel1 rv
      obtain ⟨q, ws, rfl, h2, r2⟩ := tup_rel1 rw'
      refine ⟨p, q, us, ws, rfl, rfl, .of h1, .of h2, by rw [← r1.length, ← r2.length]; exact c, fun e => ?_, fun _ e => ?_, fun _ _ t ht => ?_⟩
      · subst e
        have ea : a = [] := List.length_eq_zero_iff.mp (by rw [r1.length]; rfl)
        subst ea
        exact k H _ .refl R (.tup h2 r2 .nil)
      · subst e
        have eb : b = [] := List.length_eq_zero_iff.mp (by rw [r2.length]; rfl)
        subst eb
        exact k H _ .refl R (by rw [List.append_nil]; exact .tup h1 r1 .nil)
      · exact k _ _ (.fresh ht) (R.fresh ht) (rel_tup R ht (r1.app r2))
    · rw [if_neg c] at e; cases e
  · cases e
theorem o_addLst : OpS X (binaryOp .Add) addLst := .of op_cat fun x y H Q ρ h v w z R rv rw' e k => by
  unfold addLst at e
  split at e
  · rename_i a b
    by_cases c : a.length + b.length ≤ sizeLine
    · rw [if_pos c] at e; cases e
      cases rv with
      | rls h1 n1 r1 _ =>
        cases rw' with
        | rls h2 n2 r2 _ => exact ⟨_, _, _, _, rfl, rfl, h1, h2, by rw [← r1.length, ← r2.length]; exact c, fun t ht => k _ _ (.fresh ht) (R.fresh ht) (rel_rls R ht (r1.app r2))⟩
    · rw [if_neg c] at e; cases e
  · cases e
/-- tuple * n -/
def mulTup : SV → SV → SHp → Option SV := fun v w _ => match v, w with
  | .tup a, .int k => if a ≠ [] ∧ 2 ≤ k ∧ k ≤ 1000 ∧ a.length ≤ 1000 then some (.tup (List.replicate k.toNat a).flatten) else none
  | _, _ => none
theorem rel_rep {K : PySem.W.Frag} {H : Hp} {ρ : Rho} {xs : List SV} {us : List V} (r : RelL K H ρ xs us) : ∀ n : Nat, RelL K H ρ (List.replicate n xs).flatten (List.replicate n us).flatten
  | 0 => .nil
  | n + 1 => by rw [List.replicate_succ, List.replicate_succ, List.flatten_cons, List.flatten_cons]; exact r.app (rel_rep r n)
theorem o_mulTup : OpS X (binaryOp .Mult) mulTup := .of op_repT fun x y H Q ρ h v w z R rv rw' e k => by
  unfold mulTup at e
  split at e
  · rename_i a n
    by_cases c : a ≠ [] ∧ 2 ≤ n ∧ n ≤ 1000 ∧ a.length ≤ 1000
    · rw [if_pos c] at e; cases e
      obtain ⟨p, us, rfl, h1, r1⟩ := tup_rel rv
      cases rw'
      refine ⟨p, n, us, rfl, rfl, h1, fun z => c.1 (List.length_eq_zero_iff.mp (by rw [r1.length, z]; rfl)), c.2.1, c.2.2.1, by rw [← r1.length]; exact c.2.2.2, fun t ht => k _ _ (.fresh ht) (R.fresh ht) (rel_tup R ht (rel_rep r1 _))⟩
    · rw [if_neg c] at e; cases e
  · cases e
def isNoneF : SV → SV → SHp → Option SV := fun v w _ => match w with
  | .non => some (.bl (decide (v = .non)))
  | _ => none
def notNoneF : SV → SV → SHp → Option SV := fun v w _ => match w with
  | .non => some (.bl (!decide (v = .non)))
  | _ => none
theorem none_rel {K : PySem.W.Frag} {H : Hp} {ρ : Rho} {v : SV} {x : V} (r : RelS K H ρ v x) : decide (v = .non) = decide (x = .non) := by
  cases r <;> simp
theorem o_isN : OpS X (compareOp .Is) isNoneF := .of op_isN fun x y H Q ρ h v w z R rv rw' e k => by
  unfold isNoneF at e
  split at e
  · cases e; cases rw'
    exact ⟨rfl, by rw [← none_rel rv]; exact k H _ .refl R (.bl .nil)⟩
  · cases e
theorem o_notN : OpS X (compareOp .IsNot) notNoneF := .of op_notN fun x y H Q ρ h v w z R rv rw' e k => by
  unfold notNoneF at e
  split at e
  · cases e; cases rw'
    exact ⟨rfl, by rw [← none_rel rv]; exact k H _ .refl R (.bl .nil)⟩
  · cases e
end

/-! ### == over data -/
mutual
def dataV : SV → Option PyData
  | .non => some .none
  | .bl b => some (.bool b)
  | .int i => some (.int i)
  | .str x => some (.str x)
  | .tup xs => (dataL xs).map .tuple
  | .rls xs => (dataL xs).map .list
  | .frl xs => (dataL xs).map .list
  | _ => none
def dataL : List SV → Option (List PyData)
  | [] => some []
  | x :: xs => match dataV x, dataL xs with
    | some d, some ds => some (d :: ds)
    | _, _ => none
end
def dataT (v : SV) (h : SHp) : Option PyData := match v with
  | .ref n => match h[n]? with
    | some (.lst xs) => (dataL xs).map .list
    | _ => none
  | v => dataV v
section
variable {K : PySem.W.Frag} {H : Hp} {ρ : Rho}
theorem data_rel {xs : List SV} {us : List V} (r : RelL K H ρ xs us) : ∀ {ds}, dataL xs = some ds → DpAll K H us ds := by
  induction r with
  | nil => intro ds e; simp [dataL] at e; subst e; exact .nil
  | @non xs vs _ ih | @ty i xs vs _ ih | @bl b xs vs _ ih | @int i xs vs _ ih | @str i xs vs _ ih | @adr a xs vs _ ih | @ref i a xs vs _ _ ih => 
    intro ds e
    simp only [dataL, dataV] at e
    cases q : dataL xs with
    | none => simp [q] at e
    | some es => simp [q] at e <;> (subst e; exact .cons (by constructor) (ih q))
  | @tup a ys us xs vs h _ _ i1 i2 =>
    intro ds e
    simp only [dataL, dataV] at e
    cases q : dataL ys with
    | none => simp [q] at e
    | some es =>
      cases q2 : dataL xs with
      | none => simp [q, q2] at e
      | some fs => simp [q, q2] at e; subst e; exact .cons (.tup (.of h) (i1 q)) (i2 q2)
  | @rls a ys us xs vs h _ _ _ i1 i2 =>
    intro ds e
    simp only [dataL, dataV] at e
    cases q : dataL ys with
    | none => simp [q] at e
    | some es =>
      cases q2 : dataL xs with
      | none => simp [q, q2] at e
      | some fs => simp [q, q2] at e; subst e; exact .cons (.lst (.of h) (i1 q)) (i2 q2)
  | @frl a ys us xs vs h _ _ i1 i2 =>
    intro ds e
    simp only [dataL, dataV] at e
    cases q : dataL ys with
    | none => simp [q] at e
    | some es =>
      cases q2 : dataL xs with
      | none => simp [q, q2] at e
      | some fs =>
        simp [q, q2] at e; subst e
        refine .cons (.lst ?_ (i1 q)) (i2 q2)
        rcases h with ⟨h, _⟩ | h
        · exact .inl h
        · exact h.seq
  | obj _ _ _ _ _ _ _ => intro ds e; simp [dataL, dataV] at e
  | rdK _ _ _ _ _ _ _ => intro ds e; simp [dataL, dataV] at e
  | rdT _ _ _ _ _ _ _ => intro ds e; simp [dataL, dataV] at e
theorem data_one {v : SV} {x : V} {d : PyData} (r : RelS K H ρ v x) (e : dataV v = some d) : Dp K H x d := by
  have q : dataL [v] = some [d] := by simp [dataL, e]
  have z := data_rel r q
  cases z with
  | cons a _ => exact a
theorem data_top {h : SHp} {v : SV} {x : V} {d : PyData} (R : RelH K H ρ h) (r : RelS K H ρ v x) (e : dataT v h = some d) : Dp K H x d := by
  cases v with
  | ref n =>
    have e' : (match h[n]? with | some (.lst xs) => (dataL xs).map PyData.list | _ => none) = some d := e
    cases q : h[n]? with
    | none => simp [q] at e'
    | some o =>
      cases r with
      | ref hi _ =>
        obtain ⟨a, ha, ob⟩ := R.ob n o q
        rw [hi] at ha; cases ha
        cases o with
        | lst ys =>
          obtain ⟨us, h1, h2⟩ := ob
          simp only [q] at e'
          cases q2 : dataL ys with
          | none => simp [q2] at e'
          | some ds => simp [q2] at e'; subst e'; exact .lst (.of h1) (data_rel h2 q2)
        | dic _ _ _ => simp [q] at e'
        | ins _ _ _ => simp [q] at e'
  | _ => exact data_one r e
end
def eqF (n : Bool) : SV → SV → SHp → Option SV := fun v w h => match dataT v h, dataT w h with
  | some d, some e => if SeqAt.shaped d = true ∧ SeqAt.shaped e = true then some (.bl (if n then !PyData.eqv d e else PyData.eqv d e)) else none
  | _, _ => none
theorem eqF_some {n : Bool} {v w : SV} {h : SHp} {z : SV} (q : eqF n v w h = some z) : ∃ d e, dataT v h = some d ∧ dataT w h = some e ∧ SeqAt.shaped d = true ∧ SeqAt.shaped e = true ∧ z = .bl (if n then !PyData.eqv d e else PyData.eqv d e) := by
  unfold eqF at q
  split at q
  · rename_i d e h1 h2
    by_cases c : SeqAt.shaped d = true ∧ SeqAt.shaped e = true
    · rw [if_pos c] at q; cases q; exact ⟨d, e, h1, h2, c.1, c.2, rfl⟩
    · rw [if_neg c] at q; cases q
  · cases q
section
variable {X : Cx}
theorem o_eq (hu : X.A.units + 64 < cLine) : OpS X (compareOp .Eq) (eqF false) := .of (op_eqD hu) fun x y H Q ρ h v w z R rv rw' e k => by
  obtain ⟨d, d', h1, h2, s1, s2, rfl⟩ := eqF_some e
  exact ⟨d, d', data_top R rv h1, data_top R rw' h2, s1, s2, k H _ .refl R (.bl .nil)⟩
theorem o_ne (hu : X.A.units + 64 < cLine) : OpS X (compareOp .NotEq) (eqF true) := .of (op_neD hu) fun x y H Q ρ h v w z R rv rw' e k => by
  obtain ⟨d, d', h1, h2, s1, s2, rfl⟩ := eqF_some e
  exact ⟨d, d', data_top R rv h1, data_top R rw' h2, s1, s2, k H _ .refl R (.bl .nil)⟩
end
end Sim

set_option Elab.async false
set_option linter.all false
set_option maxRecDepth 100000
set_option maxHeartbeats 4000000

/-! ### enumerate(tuple) -/
namespace L2
open PySem PySem.Spec PyProof.Rows
def IteT (K : PySem.W.Frag) (a : Addr) : It :=
  ⟨fun i H => ∃ (xs : List V) (x : V), SqT K H a xs ∧ xs[i]? = some x, fun i H v H' => ∃ T x, v = .ref T ∧ H T = none ∧ H' = upd H T (.tup [.int (i : Nat), x]) ∧ ∀ xs, SqT K H a xs → xs[i]? = some x, fun i H => ∃ xs : List V, SqT K H a xs ∧ xs.length = i⟩
theorem turn_enumT {P : Program} {w : World} {K : PySem.W.Frag} {elts : List Expr} {kk : Nat} {tpos : Pos} (a e it : Addr) :
    Turn P w K (.Tuple elts kk tpos) (IteT K a) [e, it] e (fun i h => (∃ old, IsEnum h e it ((i : Nat) : Int) old) ∧ h.IsTupleIter it a i ∧ e ≠ it) where
  mem := by simp
  obj := fun i h st b hb => by
    obtain ⟨⟨old, he⟩, ⟨o, ho, hc, hd⟩, _⟩ := st
    have e' : b = e ∨ b = it := by simpa using hb
    rcases e' with z | z
    · rw [z]; exact ⟨_, he, fun v q => nomatch q⟩
    · rw [z]; exact ⟨o, ho, fun v q => by rw [hd] at q; cases q⟩
  keep := fun i h h' st k => let ⟨⟨old, he⟩, hi, hne⟩ := st; ⟨⟨old, k e (by simp) _ he⟩, hi.at fun o q => k it (by simp) o q, hne⟩
  item := by
    intro X hP hw hK hc i pins s σ H E I hf st hg
    subst hP hw hK
    obtain ⟨⟨old, he⟩, hit, hne⟩ := st
    obtain ⟨xs, x, hq, hx⟩ := hg
    obtain ⟨its, rv, p, hz⟩ := I.tuple hq
    obtain ⟨u, hu, ru⟩ := rv.get hx
    have hel : e < s.heap.objs.size := Heap.lt_size he
    have hil : it < s.heap.objs.size := by obtain ⟨_, q, _⟩ := hit; exact Heap.lt_size q
    have hae : a ≠ e := fun z => by
      obtain ⟨o, ho, hcl, _⟩ := id p
      rw [z] at ho
      have he2 : s.heap.get? e = some _ := he
      rw [he2] at ho; cases ho; injection hcl with q; exact absurd q (by decide)
    have hai : a ≠ it := fun z => by
      obtain ⟨o, ho, hcl, _⟩ := id p
      obtain ⟨o2, ho2, hc2, _⟩ := id hit
      rw [z, ho2] at ho; cases ho; rw [hc2] at hcl; injection hcl with q; exact absurd q (by decide)
    have hlen : i < its.toArray.size := by
      have q := (List.getElem?_eq_some_iff.mp hu).1
      simpa using q
    have D := PySem.Draws.tuple (prog := X.prog) (w := X.w) (A := X.A.in1) (I.ok.hd hc) it a hai its.toArray
    refine wpAny_pyNext_enum_itemD D he ⟨hit, p⟩ hlen hne (by simp [hne, Ne.symm hae]) fun x' h' tk hPx ho hit' hT hsz hk => ?_
    have ex : x' = u := by
      have q : its.toArray[i]? = some u := by simpa using hu
      rw [q] at hPx; exact (Option.some.inj hPx).symm
    subst ex
    refine ⟨_, rfl, wpAny_letOwnedTupleGo_enum (s := { s with heap := h', toks := tk + 1 }) ho fun h'' he' sb => ?_⟩
    have hT2 : h''.get? s.heap.objs.size = some { cls := .type "tuple", data := .seq #[.int i tk, x'] } := (sb.2 _ (Nat.ne_of_gt hel)).trans hT
    have new : ObjOk X.prog X.w (upd H s.heap.objs.size (.tup [.int (i : Nat), x])) h'' s.heap.objs.size (.tup [.int (i : Nat), x]) :=
      ⟨by show 2 ≤ sizeLine; decide, [.int i tk, x'], .cons ⟨_, rfl⟩ (.cons ru .nil), ⟨_, hT2, rfl, _, rfl⟩⟩
    have I1 : Inv X pins σ (upd H s.heap.objs.size (.tup [.int (i : Nat), x])) { s with heap := h'', toks := tk + 1 } :=
      I.turnedNew (ch := [e, it]) (fun b ob hb q => (sb.2 b (fun z => hb (by simp [z]))).trans (hk b ob (fun z => hb (by simp [z])) (fun z => hb (by simp [z])) q)) hf (Nat.le_refl _) new
    refine ⟨.ref s.heap.objs.size, _, I1, rfl, ⟨_, x, rfl, I.hok.fresh (Nat.le_refl _), rfl, fun ys hy => by rw [I.tuple_inj hy hq]; exact hx⟩, ⟨⟨x', ?_⟩, hit'.1.at fun o q => (sb.2 it (Ne.symm hne)).trans q, hne⟩, fun b hb => ?_⟩
    · have e1 : ((i + 1 : Nat) : Int) = (i : Int) + 1 := by omega
      rw [e1]; exact he'
    · have hb' : b < s.heap.objs.size := by
        have e' : b = e ∨ b = it := by simpa using hb
        rcases e' with z | z
        · rw [z]; exact hel
        · rw [z]; exact hil
      rw [upd_ne (Nat.ne_of_lt hb')]
      exact (hf b hb).1
  done := by
    intro X hP hw hK hc i pins s σ H E I hf st hg
    subst hP hw hK
    obtain ⟨⟨old, he⟩, hit, hne⟩ := st
    obtain ⟨xs, hq, hx⟩ := hg
    obtain ⟨its, rv, p, hz⟩ := I.tuple hq
    obtain ⟨f0, f1, f2, f3, f4, f5⟩ := hf it (by simp)
    have hl := rv.length
    have hai : a ≠ it := fun z => by
      obtain ⟨o, ho, hcl, _⟩ := id p
      obtain ⟨o2, ho2, hc2, _⟩ := id hit
      rw [z, ho2] at ho; cases ho; rw [hc2] at hcl; injection hcl with q; exact absurd q (by decide)
    have D := PySem.Draws.tuple (prog := X.prog) (w := X.w) (A := X.A.in1) (I.ok.hd hc) it a hai its.toArray
    have hi : i = its.toArray.size := by simp; omega
    exact wpAny_pyNext_enum_endD D he (by rw [← hi]; exact ⟨hit, p⟩) fun h' eb => ⟨rfl, I.turned (t' := s.toks) (fun b o hb q => eb b o hb q) f0 f1 f3 f4 f5⟩
  self := fun A i s Q E st h => let ⟨⟨_, he⟩, _⟩ := st; wpAny_pyIter_enum he h
theorem meets_enumerate_newT (l : Addr) (items : Array Value) (n : Nat) (dct : Option Addr) (sl : Array (Option Value)) :
    Meets (Builtin.«enumerate.__new__» ⟨[.type "enumerate", .ref l], []⟩) (fun _ R s => s.heap.get? l = some { cls := .type "tuple", dict := dct, data := .seq items n, slots := sl } ∧
      R (.ok (.ret (.ref (s.heap.push { cls := .type "tuple_iterator", data := .fields #[.ref l, .int 0 0] }).objs.size)))
        { s with heap := (s.heap.push { cls := .type "tuple_iterator", data := .fields #[.ref l, .int 0 0] }).push { cls := .type "enumerate", data := .fields #[.none, .bool false, .ref s.heap.objs.size, rawInt 0, .none, .none] } }) :=
  .of_wp fun prog w A R s h => by
    obtain ⟨hp, g, d, tk, os⟩ := s; obtain ⟨hl, h⟩ := h
    have hsub := sub_enumerate
    have hL : Heap.IsTuple (Shared.heap ⟨hp, g, d, tk, os⟩) l items := ⟨_, hl, rfl, n, rfl⟩
    wp_walk using AutoSeq1.wpAny_loadPart' hl
    refine wpAny_stack_any fun st => wpAny_pure ?_
    split
    · rename_i c _ _ _ _ _
      cases (c == Value.type "enumerate")
      · wp_walk using AutoSeq1.wpAny_loadPart' hl, wpAny_pyIter_tuple hL
        exact ⟨_, rfl, h⟩
      · wp_walk using AutoSeq1.wpAny_loadPart' hl, wpAny_pyIter_tuple hL
        exact ⟨_, rfl, h⟩
    · wp_walk using AutoSeq1.wpAny_loadPart' hl, wpAny_pyIter_tuple hL
      exact ⟨_, rfl, h⟩
theorem call_enumerate_tuple {prog : Program} {w : World} {A : Around} {E : Value → Shared → Prop} {s : Shared} {l : Addr} {items : Array Value} {Q : Value → Shared → Prop} (hL : s.heap.IsTuple l items)
    (h : ∀ h', IsEnum h' (s.heap.objs.size + 1) s.heap.objs.size 0 .none → h'.IsTupleIter s.heap.objs.size l 0 → h'.objs.size = s.heap.objs.size + 2 →
      (∀ b o, s.heap.get? b = some o → h'.get? b = some o) → Q (.ref (s.heap.objs.size + 1)) { s with heap := h' }) :
    wpAny (model prog w) A (call (.type "enumerate") [.ref l]) Q E s := by
  obtain ⟨⟨c, dct, dt, sl⟩, hl, hc, n, hd⟩ := hL
  replace hc : c = .type "tuple" := hc
  replace hd : dt = .seq items n := hd
  subst hc hd
  refine callType_new F.called_enumerate (by decide) (F.typeCall_enumerate_1 _) (F.newCall_enumerate_1 _) (fun obj => F.args_object_init_2 obj _) F.entry_enumerate_new
    (meets_enumerate_newT l items n dct sl) ⟨hl, ?_⟩
  have hz : (s.heap.push { cls := .type "tuple_iterator", data := .fields #[.ref l, .int 0 0] }).objs.size = s.heap.objs.size + 1 := Heap.size_push ..
  show _ ∧ _
  rw [hz]
  have he : IsEnum ((s.heap.push { cls := .type "tuple_iterator", data := .fields #[.ref l, .int 0 0] }).push
      { cls := .type "enumerate", data := .fields #[.none, .bool false, .ref s.heap.objs.size, rawInt 0, .none, .none] }) (s.heap.objs.size + 1) s.heap.objs.size 0 .none := by
    have := Heap.get?_push_size (s.heap.push { cls := .type "tuple_iterator", data := .fields #[.ref l, .int 0 0] })
      (o := { cls := .type "enumerate", data := .fields #[.none, .bool false, .ref s.heap.objs.size, rawInt 0, .none, .none] }) rfl
    rw [hz] at this; exact this
  refine ⟨⟨_, he, rfl⟩, h _ he ⟨_, Heap.get?_push_of_some _ (Heap.get?_push_size _ rfl), rfl, rfl⟩ (by rw [Heap.size_push, hz]) fun b o x => Heap.get?_push_of_some _ (Heap.get?_push_of_some _ x)⟩
/-- enumerate of a list or of a tuple -/
def iEnumA (K : PySem.W.Frag) (ta : TA) : TI := fun σ H R => ta σ H fun vs H1 => ∃ a xs, vs = [.ref a] ∧ ((SqL K H1 a xs ∧ R (Ite K a) H1) ∨ (SqT K H1 a xs ∧ R (IteT K a) H1))
theorem pi_enumA {X : Cx} {e : Expr} {ta : TA} {p pos tpos : Pos} {elts : List Expr} {kk : Nat} (hg : Gl X "enumerate") (hm : X.mg "enumerate" = none) (ha : PA X [e] ta) (hs : starEach [e] X.env = [(false, eval e X.env)] := by rfl) :
    PI X (.Tuple elts kk tpos) (.Call (.Name "enumerate" p) [e] [] pos) (iEnumA X.K ta) := by
  refine ⟨fun pins s σ H R I h => ?_⟩
  refine Call_ (ld_blt I hg hm boot_enumerate (PyProof.Rows.callWith_type1 (thn (ha.run pos pins s σ H _ I h) fun us s1 ⟨vs, H1, I1, r1, q1⟩ => ?_) hs rfl))
  obtain ⟨a, xs, ex, q⟩ := q1
  subst ex
  cases r1 with
  | cons r rr =>
    cases rr
    cases r
    have fresh2 : ∀ b ∈ [s1.heap.objs.size + 1, s1.heap.objs.size], FpOk X pins H1 b := fun b hb => by
      have e' : b = s1.heap.objs.size + 1 ∨ b = s1.heap.objs.size := by simpa using hb
      have hle : s1.heap.objs.size ≤ b := by
        rcases e' with z | z
        · rw [z]; exact Nat.le_add_right _ _
        · rw [z]; exact Nat.le_refl _
      exact I1.fpOk hle (I1.hok.fresh hle)
    rcases q with ⟨hq, q⟩ | ⟨hq, q⟩
    · obtain ⟨its, rv, p', hz⟩ := I1.list hq
      refine call_enumerate_list p'.isList fun h' he hit hsz hk => wpAny_pyIter_enum he ?_
      have I2 : Inv X pins σ H1 { s1 with heap := h' } := I1.kept (t' := s1.toks) hk
      exact ⟨s1.heap.objs.size + 1, [s1.heap.objs.size + 1, s1.heap.objs.size], _, _, H1, rfl, I2, turn_enum a (s1.heap.objs.size + 1) s1.heap.objs.size, ⟨⟨.none, he⟩, hit, Nat.succ_ne_self _⟩, fresh2, q⟩
    · obtain ⟨its, rv, p', hz⟩ := I1.tuple hq
      refine call_enumerate_tuple (show s1.heap.IsTuple a its.toArray from p') fun h' he hit hsz hk => wpAny_pyIter_enum he ?_
      have I2 : Inv X pins σ H1 { s1 with heap := h' } := I1.kept (t' := s1.toks) hk
      exact ⟨s1.heap.objs.size + 1, [s1.heap.objs.size + 1, s1.heap.objs.size], _, _, H1, rfl, I2, turn_enumT a (s1.heap.objs.size + 1) s1.heap.objs.size, ⟨⟨.none, he⟩, hit, Nat.succ_ne_self _⟩, fresh2, q⟩
end L2

set_option Elab.async false
set_option linter.all false
set_option maxRecDepth 100000
set_option maxHeartbeats 4000000
namespace Sim
open PySem L2

/-! ### iterables -/
/-- what a for walks over: a tuple, a list -/
def itF (v : SV) : M (List SV × Gd) := fun h => match v with
  | .tup xs => .ok (xs, .no) h
  | .rls xs => .ok (xs, .no) h
  | .frl xs => .ok (xs, .no) h
  | .ref n => match h[n]? with
    | some (.lst xs) => .ok (xs, .lst n xs) h
    | _ => .stuck
  | _ => .stuck
def cIt (c : Env → M SV) : Env → M (List SV × Gd) := fun e => M.bind (c e) itF
section
variable {K : PySem.W.Frag}
theorem itok_tup {H : Hp} {ρ : Rho} {h : SHp} {a : Addr} {us : List V} {xs : List SV} (R : RelH K H ρ h) (hq : SqT K H a us) (r : RelL K H ρ xs us) : ItOk K (Itt K a) xs .no ρ H := by
  intro ρ2 H2 h2 E R2 _
  have hq2 : SqT K H2 a us := SqT_keep (h := hq) (fun a us q => E.kept _ _ q (R.holds.notup q)) (fun a o u q => E.kept _ _ q (R.holds.nofrz q))
  have r2 := r.mono R.holds E
  have hl := r2.length
  refine ⟨fun i hi => ⟨us, us[i]'(by omega), hq2, by simp [show i < us.length by omega]⟩, ⟨us, hq2, by omega⟩, fun i x H' hi y => ?_⟩
  obtain ⟨rfl, y⟩ := y
  obtain ⟨v, h1, h2⟩ := r2.get (i := i) (x := xs[i]) (by simp [hi])
  have := y us hq2
  rw [h1] at this; cases this
  exact ⟨.refl, R2, xs[i], by simp [hi], h2⟩
theorem itok_list {H : Hp} {ρ : Rho} {h : SHp} {a : Addr} {xs : List SV} {gd : Gd} (R : RelH K H ρ h)
    (st : ∀ ρ2 H2 h2, Ext ρ H ρ2 H2 → RelH K H2 ρ2 h2 → gd.ok h2 = true → ∃ us, SqL K H2 a us ∧ RelL K H2 ρ2 xs us) : ItOk K (Itl K a) xs gd ρ H := by
  intro ρ2 H2 h2 E R2 hg
  obtain ⟨us, hq2, r2⟩ := st ρ2 H2 h2 E R2 hg
  have hl := r2.length
  refine ⟨fun i hi => ⟨us, us[i]'(by omega), hq2, by simp [show i < us.length by omega]⟩, ⟨us, hq2, by omega⟩, fun i x H' hi y => ?_⟩
  obtain ⟨rfl, y⟩ := y
  obtain ⟨v, h1, h2⟩ := r2.get (i := i) (x := xs[i]) (by simp [hi])
  have := y us hq2
  rw [h1] at this; cases this
  exact ⟨.refl, R2, xs[i], by simp [hi], h2⟩
/-- a list that nobody changes, or one of the changing ones under guard, stands -/
theorem list_stands {H : Hp} {ρ : Rho} {h : SHp} {v : SV} {a : Addr} {xs : List SV} {gd : Gd} (R : RelH K H ρ h) (r : RelS K H ρ v (.ref a)) (e : itF v h = .ok (xs, gd) h) (nt : ∀ ys, v ≠ .tup ys) :
    ∀ ρ2 H2 h2, Ext ρ H ρ2 H2 → RelH K H2 ρ2 h2 → gd.ok h2 = true → ∃ us, SqL K H2 a us ∧ RelL K H2 ρ2 xs us := by
  intro ρ2 H2 h2 E R2 hg
  have r2 := r.mono R.holds E
  cases v with
  | rls ys => cases e; cases r2 with
    | rls h n q _ => exact ⟨_, .of h, q⟩
  | frl ys => cases e; cases r2 with
    | frl h q _ =>
      rcases h with ⟨h, _⟩ | h
      · exact ⟨_, .inl h, q⟩
      · exact ⟨_, h.seq, q⟩
  | ref n =>
    have e' : (match h[n]? with | some (.lst xs) => .ok (xs, Gd.lst n xs) h | _ => Res.stuck) = Res.ok (xs, gd) h := e
    cases q : h[n]? with
    | none => simp [q] at e'
    | some o =>
      cases o with
      | lst zs =>
        simp only [q] at e'
        cases e'
        unfold Gd.ok at hg
        cases q2 : h2[n]? with
        | none => simp [q2] at hg
        | some o2 =>
          obtain ⟨a2, ha2, ob2⟩ := R2.ob n o2 q2
          cases r2 with
          | ref hi _ =>
            rw [hi] at ha2; cases ha2
            cases o2 with
            | lst ys =>
              simp [q2] at hg; subst hg
              obtain ⟨us, h1, h3⟩ := ob2
              exact ⟨us, .of h1, h3⟩
            | dic _ _ _ => simp [q2] at hg
            | ins _ _ _ => simp [q2] at hg
      | dic _ _ _ => simp [q] at e'
      | ins _ _ _ => simp [q] at e'
  | tup ys => exact (nt ys rfl).elim
  | _ => cases e
theorem itF_ok {v : SV} {h h' : SHp} {p : List SV × Gd} (e : itF v h = .ok p h') : h' = h := by
  unfold itF at e
  split at e <;> try cases e
  all_goals first | rfl | (split at e <;> first | (cases e; rfl) | cases e)
end
section
variable {X : Cx} {W : WX} {tg iter e : Expr} {c : Env → M SV}
theorem PI.or {t t' : TI} (h : PI X tg iter t) (h' : PI X tg iter t') : PI X tg iter (fun σ H R => t σ H R ∨ t' σ H R) :=
  ⟨fun pins s σ H R I q => q.elim (fun q => h.run pins s σ H R I q) fun q => h'.run pins s σ H R I q⟩
theorem i_it (he : SE X W e c) : SI X W tg e (cIt c) :=
  ⟨imp_pi (PI.or (pi_list he.pe) (pi_tup he.pe)) fun σ H Rr ⟨ρ, h, env, R, RE, P⟩ => by
    unfold cIt at P
    cases ec : c env h with
    | err cc fs h1 => exact .inl ⟨ρ, h, env, R, RE, by rw [ec]; unfold M.bind at P; rw [ec] at P; exact P⟩
    | stuck => unfold M.bind at P; rw [ec] at P; exact P.elim
    | ok v h1 =>
      unfold M.bind at P; rw [ec] at P
      cases ei : itF v h1 with
      | err cc fs h2 => unfold itF at ei; split at ei <;> try cases ei
                        all_goals (split at ei <;> cases ei)
      | stuck => simp only [ei] at P; exact P.elim
      | ok p h2 =>
        have eh := itF_ok ei
        subst eh
        obtain ⟨xs, gd⟩ := p
        simp only [ei] at P
        by_cases ht : ∃ ys, v = .tup ys
        · obtain ⟨ys, rfl⟩ := ht
          refine .inr ⟨ρ, h, env, R, RE, ?_⟩
          rw [ec]
          intro ρ1 H1 x E1 R1 r1
          cases ei
          obtain ⟨a, us, rfl, hq, rr⟩ := tup_rel r1
          exact ⟨a, rfl, ⟨us, hq⟩, P ρ1 H1 _ E1 R1 (itok_tup R1 hq rr)⟩
        · refine .inl ⟨ρ, h, env, R, RE, ?_⟩
          rw [ec]
          intro ρ1 H1 x E1 R1 r1
          have nt : ∀ ys, v ≠ .tup ys := fun ys z => ht ⟨ys, z⟩
          have hx : ∃ a, x = .ref a := by
            cases v <;> first | (cases ei) | skip
            all_goals first | (exact (nt _ rfl).elim) | (cases r1 <;> exact ⟨_, rfl⟩)
          obtain ⟨a, rfl⟩ := hx
          have st := list_stands R1 r1 ei nt
          have g0 : gd.ok h2 = true := by
            cases v with
            | ref n =>
              have e' : (match h2[n]? with | some (.lst xs) => .ok (xs, Gd.lst n xs) h2 | _ => Res.stuck) = Res.ok (xs, gd) h2 := ei
              cases q : h2[n]? with
              | none => simp [q] at e'
              | some o => cases o with
                | lst zs => simp only [q] at e'; cases e'; simp [Gd.ok, q]
                | dic _ _ _ => simp [q] at e'
                | ins _ _ _ => simp [q] at e'
            | rls _ => cases ei; rfl
            | frl _ => cases ei; rfl
            | _ => first | exact (nt _ rfl).elim | cases ei
          obtain ⟨us, hq, rr⟩ := st ρ1 H1 h2 .refl R1 g0
          exact ⟨a, rfl, ⟨us, hq⟩, P ρ1 H1 _ E1 R1 (itok_list R1 st)⟩⟩
def rngL (lo : Int) (n : Nat) : List SV := (List.range n).map fun i => .int (lo + (i : Nat))
theorem rngL_length (lo : Int) (n : Nat) : (rngL lo n).length = n := by simp [rngL]
theorem rngL_get {lo : Int} {n i : Nat} (h : i < n) : (rngL lo n)[i]? = some (.int (lo + (i : Nat))) := by simp [rngL, h]
theorem itok_rng {K : PySem.W.Frag} {H : Hp} {ρ : Rho} {lo : Int} {n : Nat} : ItOk K (Itr lo n) (rngL lo n) .no ρ H := by
  intro ρ2 H2 h2 E R2 _
  refine ⟨fun i hi => by rw [rngL_length] at hi; exact hi, by show n ≤ _; rw [rngL_length]; exact Nat.le_refl _, fun i x H' hi y => ?_⟩
  obtain ⟨rfl, rfl⟩ := y
  rw [rngL_length] at hi
  exact ⟨.refl, R2, _, rngL_get hi, .int .nil⟩
def cRng1 (c : Env → M SV) : Env → M (List SV × Gd) := fun e => M.bind (c e) fun v h => match v with
  | .int j => if -(2 ^ 62) ≤ j ∧ j < 2 ^ 62 then .ok (rngL 0 j.toNat, .no) h else .stuck
  | _ => .stuck
def cRng2 (c d : Env → M SV) : Env → M (List SV × Gd) := fun e => M.bind (c e) fun v => M.bind (d e) fun w h => match v, w with
  | .int i, .int j => if -(2 ^ 62) ≤ i ∧ i < 2 ^ 62 ∧ -(2 ^ 62) ≤ j ∧ j < 2 ^ 62 then .ok (rngL i (j - i).toNat, .no) h else .stuck
  | _, _ => .stuck
def rngD (lo : Int) (n : Nat) : List SV := (List.range n).map fun i => .int (lo - (i : Nat))
/-- downward by ones -/
def cRngD (c d f : Env → M SV) : Env → M (List SV × Gd) := fun e => M.bind (c e) fun v => M.bind (d e) fun w => M.bind (f e) fun u h => match v, w, u with
  | .int i, .int j, .int k => if k = -1 ∧ -(2 ^ 62) ≤ i ∧ i < 2 ^ 62 ∧ -(2 ^ 62) ≤ j ∧ j < 2 ^ 62 then .ok (rngD i (i - j).toNat, .no) h else .stuck
  | _, _, _ => .stuck
theorem i_rng1 {a : Expr} {ca : Env → M SV} {p pos : Pos} (hm : X.mg "range" = none) (ha : SE X W a ca) (hg : Gl X "range" := by rfl) (hs : starEach [a] X.env = [(false, eval a X.env)] := by rfl)
    (hs1 : starEach (a :: []) X.env = (false, eval a X.env) :: starEach [] X.env := by rfl) : SI X W tg (.Call (.Name "range" p) [a] [] pos) (cRng1 ca) :=
  ⟨imp_pi (pi_range1 hg hm (L2.pa_cons ha.pe L2.pa_nil hs1) hs) fun σ H Rr ⟨ρ, h, env, R, RE, P⟩ => ⟨ρ, h, env, R, RE, (Post.bind (rel := relS X.K) P).mono fun x H1 ⟨ρ1, v, h1, E1, R1, r1, P1⟩ => by
    cases v with
    | int j =>
      cases r1
      have P1' : Post X.K W (fun H1 ρ1 (v : List SV × Gd) J => ItOk X.K J v.1 v.2 ρ1 H1) σ ρ1 H1 (if -(2 ^ 62) ≤ j ∧ j < 2 ^ 62 then .ok (rngL 0 j.toNat, Gd.no) h1 else .stuck) Rr := P1
      by_cases c : -(2 ^ 62) ≤ j ∧ j < 2 ^ 62
      · rw [if_pos c] at P1'
        exact ⟨j, rfl, c.1, c.2, P1' ρ1 H1 _ .refl R1 itok_rng⟩
      · rw [if_neg c] at P1'; exact P1'.elim
    | _ => exact P1.elim⟩⟩
theorem i_rng2 {a b : Expr} {ca cb : Env → M SV} {p pos : Pos} (hm : X.mg "range" = none) (ha : SE X W a ca) (hb : SE X W b cb) (hg : Gl X "range" := by rfl) (hs : starEach [a, b] X.env = [(false, eval a X.env), (false, eval b X.env)] := by rfl)
    (hs2 : starEach [b] X.env = [(false, eval b X.env)] := by rfl) (hs1 : starEach (a :: [b]) X.env = (false, eval a X.env) :: starEach [b] X.env := by rfl) (hs3 : starEach (b :: []) X.env = (false, eval b X.env) :: starEach [] X.env := by rfl) : SI X W tg (.Call (.Name "range" p) [a, b] [] pos) (cRng2 ca cb) :=
  ⟨imp_pi (pi_range2 hg hm (L2.pa_cons ha.pe (L2.pa_cons hb.pe L2.pa_nil hs3) hs1) hs hs2) fun σ H Rr ⟨ρ, h, env, R, RE, P⟩ => ⟨ρ, h, env, R, RE, (Post.bind (rel := relS X.K) P).mono fun x H1 ⟨ρ1, v, h1, E1, R1, r1, P1⟩ => ⟨ρ1, h1, env, R1, RE.mono R.holds E1, (Post.bind (rel := relS X.K) P1).mono fun y H2 ⟨ρ2, w, h2, E2, R2, r2, P2⟩ => by
    cases v with
    | int i =>
      cases w with
      | int j =>
        cases r1; cases r2
        have P1' : Post X.K W (fun H1 ρ1 (v : List SV × Gd) J => ItOk X.K J v.1 v.2 ρ1 H1) σ ρ2 H2 (if -(2 ^ 62) ≤ i ∧ i < 2 ^ 62 ∧ -(2 ^ 62) ≤ j ∧ j < 2 ^ 62 then .ok (rngL i (j - i).toNat, Gd.no) h2 else .stuck) Rr := P2
        by_cases c : -(2 ^ 62) ≤ i ∧ i < 2 ^ 62 ∧ -(2 ^ 62) ≤ j ∧ j < 2 ^ 62
        · rw [if_pos c] at P1'
          exact ⟨i, j, rfl, c, P1' ρ2 H2 _ .refl R2 itok_rng⟩
        · rw [if_neg c] at P1'; exact P1'.elim
      | _ => exact P2.elim
    | _ => exact P2.elim⟩⟩⟩
theorem itok_rngD {K : PySem.W.Frag} {H : Hp} {ρ : Rho} {lo : Int} {n : Nat} : ItOk K (L2.Itc lo (-1) n) (rngD lo n) .no ρ H := by
  intro ρ2 H2 h2 E R2 _
  have hl : (rngD lo n).length = n := by simp [rngD]
  refine ⟨fun i hi => by rw [hl] at hi; exact hi, by show n ≤ _; rw [hl]; exact Nat.le_refl _, fun i x H' hi y => ?_⟩
  obtain ⟨rfl, rfl⟩ := y
  rw [hl] at hi
  refine ⟨.refl, R2, .int (lo - (i : Nat)), by simp [rngD, hi], ?_⟩
  have e : lo + (i : Int) * -1 = lo - (i : Nat) := by omega
  rw [e]; exact .int .nil
theorem i_rngD {a b c : Expr} {ca cb cc : Env → M SV} {p pos : Pos} (hm : X.mg "range" = none) (ha : SE X W a ca) (hb : SE X W b cb) (hc : SE X W c cc) (hg : Gl X "range" := by rfl) (hs : starEach [a, b, c] X.env = (false, eval a X.env) :: starEach [b, c] X.env := by rfl) (hpl : (backTo pos (starEach [b, c] X.env)).any (·.1) = false := by rfl)
    (hs1 : starEach (b :: [c]) X.env = (false, eval b X.env) :: starEach [c] X.env := by rfl) (hs3 : starEach (c :: []) X.env = (false, eval c X.env) :: starEach [] X.env := by rfl) : SI X W tg (.Call (.Name "range" p) [a, b, c] [] pos) (cRngD ca cb cc) :=
  ⟨imp_pi (L2.pi_range3 hg hm (L2.pa_cons ha.pe (L2.pa_cons hb.pe (L2.pa_cons hc.pe L2.pa_nil hs3) hs1) hs) hs hpl) fun σ H Rr ⟨ρ, h, env, R, RE, P⟩ => ⟨ρ, h, env, R, RE, (Post.bind (rel := relS X.K) P).mono fun x H1 ⟨ρ1, v, h1, E1, R1, r1, P1⟩ => ⟨ρ1, h1, env, R1, RE.mono R.holds E1, (Post.bind (rel := relS X.K) P1).mono fun y H2 ⟨ρ2, w, h2, E2, R2, r2, P2⟩ => ⟨ρ2, h2, env, R2, (RE.mono R.holds E1).mono R1.holds E2, (Post.bind (rel := relS X.K) P2).mono fun z H3 ⟨ρ3, u, h3, E3, R3, r3, P3⟩ => by
    cases v with
    | int i =>
      cases w with
      | int j =>
        cases u with
        | int k =>
          cases r1; cases r2; cases r3
          have P1' : Post X.K W (fun H1 ρ1 (v : List SV × Gd) J => ItOk X.K J v.1 v.2 ρ1 H1) σ ρ3 H3 (if k = -1 ∧ -(2 ^ 62) ≤ i ∧ i < 2 ^ 62 ∧ -(2 ^ 62) ≤ j ∧ j < 2 ^ 62 then .ok (rngD i (i - j).toNat, Gd.no) h3 else .stuck) Rr := P3
          by_cases c : k = -1 ∧ -(2 ^ 62) ≤ i ∧ i < 2 ^ 62 ∧ -(2 ^ 62) ≤ j ∧ j < 2 ^ 62
          · rw [if_pos c] at P1'
            obtain ⟨rfl, c1, c2, c3, c4⟩ := c
            exact ⟨i, j, -1, (i - j).toNat, rfl, L2.RgC.neg c1 c2 c3 c4, P1' ρ3 H3 _ .refl R3 itok_rngD⟩
          · rw [if_neg c] at P1'; exact P1'.elim
        | _ => exact P3.elim
      | _ => exact P3.elim
    | _ => exact P3.elim⟩⟩⟩⟩
/-! enumerate, zip: new pairs -/
def enumL (n : Nat) : List SV → List SV
  | [] => []
  | x :: xs => .tup [.int (n : Nat), x] :: enumL (n + 1) xs
theorem enumL_length : ∀ (xs : List SV) (n : Nat), (enumL n xs).length = xs.length
  | [], _ => rfl
  | _ :: xs, n => by simp [enumL, enumL_length xs]
theorem enumL_get : ∀ (xs : List SV) (n i : Nat) (x : SV), xs[i]? = some x → (enumL n xs)[i]? = some (.tup [.int ((n + i : Nat) : Int), x])
  | [], _, _, _, h => by simp at h
  | y :: xs, n, 0, x, h => by simp at h; subst h; simp [enumL]
  | y :: xs, n, i + 1, x, h => by
    have q := enumL_get xs (n + 1) i x (by simpa using h)
    have e : n + 1 + i = n + (i + 1) := by omega
    rw [e] at q
    simpa [enumL] using q
def seqF (v : SV) : M (List SV) := fun h => match v with
  | .tup xs => .ok xs h
  | .rls xs => .ok xs h
  | .frl xs => .ok xs h
  | _ => .stuck
/-- enumerate of what nobody changes -/
def cEnum (c : Env → M SV) : Env → M (List SV × Gd) := fun e => M.bind (c e) fun v => M.bind (seqF v) fun xs => M.ret (enumL 0 xs, .no)
theorem pair_rel {K : PySem.W.Frag} {H : Hp} {ρ : Rho} {h : SHp} {T : Addr} {s t : SV} {x y : V} (R : RelH K H ρ h) (hT : H T = none) (rs : RelS K H ρ s x) (rt : RelS K H ρ t y) :
    Ext ρ H ρ (upd H T (.tup [x, y])) ∧ RelH K (upd H T (.tup [x, y])) ρ h ∧ RelS K (upd H T (.tup [x, y])) ρ (.tup [s, t]) (.ref T) :=
  ⟨.fresh hT, R.fresh hT, rel_tup R hT (.cons rs rt)⟩
theorem itok_enumT {K : PySem.W.Frag} {H : Hp} {ρ : Rho} {h : SHp} {a : Addr} {us : List V} {xs : List SV} (R : RelH K H ρ h) (hq : SqT K H a us) (r : RelL K H ρ xs us) : ItOk K (L2.IteT K a) (enumL 0 xs) .no ρ H := by
  intro ρ2 H2 h2 E R2 _
  have hq2 : SqT K H2 a us := SqT_keep (h := hq) (fun a us q => E.kept _ _ q (R.holds.notup q)) (fun a o u q => E.kept _ _ q (R.holds.nofrz q))
  have r2 := r.mono R.holds E
  have hl := r2.length
  rw [enumL_length]
  refine ⟨fun i hi => ⟨us, us[i]'(by omega), hq2, by simp [show i < us.length by omega]⟩, ⟨us, hq2, by omega⟩, fun i x H' hi y => ?_⟩
  obtain ⟨T, z, rfl, hT, rfl, hz⟩ := y
  obtain ⟨v, h1, h3⟩ := r2.get (i := i) (x := xs[i]) (by simp [hi])
  have := hz us hq2
  rw [h1] at this; cases this
  obtain ⟨e1, e2, e3⟩ := pair_rel R2 hT (RelL.int (i := ((0 + i : Nat) : Int)) (K := K) (H := H2) (ρ := ρ2) .nil) h3
  rw [Nat.zero_add] at e1 e2 e3
  exact ⟨e1, e2, _, enumL_get xs 0 i xs[i] (by simp [hi]), by rw [Nat.zero_add]; exact e3⟩
theorem itok_enumL {K : PySem.W.Frag} {H : Hp} {ρ : Rho} {a : Addr} {xs : List SV}
    (st : ∀ ρ2 H2 h2, Ext ρ H ρ2 H2 → RelH K H2 ρ2 h2 → ∃ us, SqL K H2 a us ∧ RelL K H2 ρ2 xs us) : ItOk K (L2.Ite K a) (enumL 0 xs) .no ρ H := by
  intro ρ2 H2 h2 E R2 _
  obtain ⟨us, hq2, r2⟩ := st ρ2 H2 h2 E R2
  have hl := r2.length
  rw [enumL_length]
  refine ⟨fun i hi => ⟨us, us[i]'(by omega), hq2, by simp [show i < us.length by omega]⟩, ⟨us, hq2, by omega⟩, fun i x H' hi y => ?_⟩
  obtain ⟨T, z, rfl, hT, rfl, hz⟩ := y
  obtain ⟨v, h1, h3⟩ := r2.get (i := i) (x := xs[i]) (by simp [hi])
  have := hz us hq2
  rw [h1] at this; cases this
  obtain ⟨e1, e2, e3⟩ := pair_rel R2 hT (RelL.int (i := ((0 + i : Nat) : Int)) (K := K) (H := H2) (ρ := ρ2) .nil) h3
  rw [Nat.zero_add] at e1 e2 e3
  exact ⟨e1, e2, _, enumL_get xs 0 i xs[i] (by simp [hi]), by rw [Nat.zero_add]; exact e3⟩
theorem seqF_ok {v : SV} {h h' : SHp} {xs : List SV} (e : seqF v h = .ok xs h') : h' = h ∧ itF v h = .ok (xs, .no) h := by
  unfold seqF at e
  split at e <;> first | (cases e; exact ⟨rfl, rfl⟩) | cases e
theorem i_enum {a : Expr} {ca : Env → M SV} {p pos tpos : Pos} {elts : List Expr} {kk : Nat} (hm : X.mg "enumerate" = none) (ha : SE X W a ca) (hg : Gl X "enumerate" := by rfl) (hs : starEach [a] X.env = [(false, eval a X.env)] := by rfl)
    (hs1 : starEach (a :: []) X.env = (false, eval a X.env) :: starEach [] X.env := by rfl) : SI X W (.Tuple elts kk tpos) (.Call (.Name "enumerate" p) [a] [] pos) (cEnum ca) :=
  ⟨imp_pi (L2.pi_enumA hg hm (L2.pa_cons ha.pe L2.pa_nil hs1) hs) fun σ H Rr ⟨ρ, h, env, R, RE, P⟩ => ⟨ρ, h, env, R, RE, (Post.bind (rel := relS X.K) P).mono fun x H1 ⟨ρ1, v, h1, E1, R1, r1, P1⟩ => by
    cases es : seqF v h1 with
    | err cc fs h2 => unfold seqF at es; split at es <;> cases es
    | stuck => unfold M.bind at P1; rw [es] at P1; exact P1.elim
    | ok xs h2 =>
      unfold M.bind at P1; rw [es] at P1
      obtain ⟨rfl, ei⟩ := seqF_ok es
      by_cases ht : ∃ ys, v = .tup ys
      · obtain ⟨ys, rfl⟩ := ht
        cases es
        obtain ⟨a, us, rfl, hq, rr⟩ := tup_rel r1
        exact ⟨a, us, rfl, .inr ⟨hq, P1 ρ1 H1 _ .refl R1 (itok_enumT R1 hq rr)⟩⟩
      · have nt : ∀ ys, v ≠ .tup ys := fun ys z => ht ⟨ys, z⟩
        have hx : ∃ a, x = .ref a := by
          cases v with
          | rls _ => cases r1; exact ⟨_, rfl⟩
          | frl _ => cases r1; exact ⟨_, rfl⟩
          | tup ys => exact (nt _ rfl).elim
          | _ => cases es
        obtain ⟨a, rfl⟩ := hx
        have st := list_stands R1 r1 ei nt
        obtain ⟨us, hq, rr⟩ := st ρ1 H1 h2 .refl R1 rfl
        exact ⟨a, us, rfl, .inl ⟨hq, P1 ρ1 H1 _ .refl R1 (itok_enumL fun ρ2 H2 h2 E R2 => st ρ2 H2 h2 E R2 rfl)⟩⟩⟩⟩
def zipL : List SV → List SV → List SV
  | x :: xs, y :: ys => .tup [x, y] :: zipL xs ys
  | _, _ => []
theorem zipL_length : ∀ xs ys : List SV, (zipL xs ys).length = min xs.length ys.length
  | [], _ => by simp [zipL]
  | _ :: _, [] => by simp [zipL]
  | _ :: xs, _ :: ys => by simp [zipL, zipL_length xs ys]
theorem zipL_get : ∀ (xs ys : List SV) (i : Nat) (x y : SV), xs[i]? = some x → ys[i]? = some y → (zipL xs ys)[i]? = some (.tup [x, y])
  | [], _, _, _, _, h, _ => by simp at h
  | _ :: _, [], _, _, _, _, h => by simp at h
  | _ :: xs, _ :: ys, 0, _, _, h, k => by simp at h k; subst h k; simp [zipL]
  | _ :: xs, _ :: ys, i + 1, x, y, h, k => by simpa [zipL] using zipL_get xs ys i x y (by simpa using h) (by simpa using k)
/-- zip of two tuples -/
def cZipT (c d : Env → M SV) : Env → M (List SV × Gd) := fun e => M.bind (c e) fun v => M.bind (d e) fun w h => match v, w with
  | .tup xs, .tup ys => .ok (zipL xs ys, .no) h
  | _, _ => .stuck
theorem itok_zipT {K : PySem.W.Frag} {H : Hp} {ρ : Rho} {h : SHp} {a b : Addr} {us ws : List V} {xs ys : List SV} (R : RelH K H ρ h) (hq : SqT K H a us) (r : RelL K H ρ xs us) (hq' : SqT K H b ws) (r' : RelL K H ρ ys ws) : ItOk K (RZ.ItzT K a b) (zipL xs ys) .no ρ H := by
  intro ρ2 H2 h2 E R2 _
  have keep : ∀ {a us}, SqT K H a us → SqT K H2 a us := fun {a us} hq => SqT_keep (h := hq) (fun a us q => E.kept _ _ q (R.holds.notup q)) (fun a o u q => E.kept _ _ q (R.holds.nofrz q))
  have r2 := r.mono R.holds E
  have r3 := r'.mono R.holds E
  have hl := r2.length
  have hl' := r3.length
  rw [zipL_length]
  refine ⟨fun i hi => ⟨us, ws, us[i]'(by omega), ws[i]'(by omega), keep hq, keep hq', by simp [show i < us.length by omega], by simp [show i < ws.length by omega]⟩, ⟨us, ws, keep hq, keep hq', by omega⟩, fun i x H' hi y => ?_⟩
  obtain ⟨T, z, z', rfl, hT, rfl, hz, hz'⟩ := y
  have h1x : i < xs.length := by omega
  have h1y : i < ys.length := by omega
  obtain ⟨v, h1, h3⟩ := r2.get (i := i) (x := xs[i]) (by simp [h1x])
  obtain ⟨v', h1', h3'⟩ := r3.get (i := i) (x := ys[i]) (by simp [h1y])
  have e1 := hz us (keep hq)
  rw [h1] at e1; cases e1
  have e2 := hz' ws (keep hq')
  rw [h1'] at e2; cases e2
  obtain ⟨e1, e2, e3⟩ := pair_rel R2 hT h3 h3'
  exact ⟨e1, e2, _, zipL_get xs ys i xs[i] ys[i] (by simp [h1x]) (by simp [h1y]), e3⟩
theorem i_zipT {a b : Expr} {ca cb : Env → M SV} {p pos tpos : Pos} {elts : List Expr} {kk : Nat} (hm : X.mg "zip" = none) (ha : SE X W a ca) (hb : SE X W b cb) (hg : Gl X "zip" := by rfl) (hs : starEach [a, b] X.env = (false, eval a X.env) :: starEach [b] X.env := by rfl) (hpl : (backTo pos (starEach [b] X.env)).any (·.1) = false := by rfl)
    (hs3 : starEach (b :: []) X.env = (false, eval b X.env) :: starEach [] X.env := by rfl) : SI X W (.Tuple elts kk tpos) (.Call (.Name "zip" p) [a, b] [] pos) (cZipT ca cb) :=
  ⟨imp_pi (RZ.pi_zipA hg hm (L2.pa_cons ha.pe (L2.pa_cons hb.pe L2.pa_nil hs3) hs) hs hpl) fun σ H Rr ⟨ρ, h, env, R, RE, P⟩ => ⟨ρ, h, env, R, RE, (Post.bind (rel := relS X.K) P).mono fun x H1 ⟨ρ1, v, h1, E1, R1, r1, P1⟩ => ⟨ρ1, h1, env, R1, RE.mono R.holds E1, (Post.bind (rel := relS X.K) P1).mono fun y H2 ⟨ρ2, w, h2, E2, R2, r2, P2⟩ => by
    cases v with
    | tup xs =>
      cases w with
      | tup ys =>
        obtain ⟨a, us, rfl, hq, rr⟩ := tup_rel (r1.mono R1.holds E2)
        obtain ⟨b, ws, rfl, hq', rr'⟩ := tup_rel r2
        exact ⟨a, b, us, ws, rfl, .inr ⟨hq, hq', P2 ρ2 H2 _ .refl R2 (itok_zipT R2 hq rr hq' rr')⟩⟩
      | _ => exact P2.elim
    | _ => exact P2.elim⟩⟩⟩
end
end Sim

set_option Elab.async false
set_option linter.all false
set_option maxRecDepth 100000
set_option maxHeartbeats 4000000
namespace Sim
open PySem L2

/-! ### built-ins by name -/
def CallS (X : Cx) (f : Value) (g : List SV → SHp → Option SV) : Prop :=
  CallR X f fun xs H Q => ∃ ρ h vs z, RelH X.K H ρ h ∧ RelL X.K H ρ vs xs ∧ g vs h = some z ∧ ∀ H' r, Ext ρ H ρ H' → RelH X.K H' ρ h → RelS X.K H' ρ z r → Q r H'
def eCB (g : List SV → SHp → Option SV) (c : Env → M (List SV)) : Env → M SV := fun e => M.bind (c e) fun vs => fun h => M.of (g vs h) h
theorem CallS.of {X : Cx} {f : Value} {g : List SV → SHp → Option SV} {r : List V → Hp → VK → Prop} (hc : CallR X f r)
    (i : ∀ xs H Q ρ h vs z, RelH X.K H ρ h → RelL X.K H ρ vs xs → g vs h = some z → (∀ H' r, Ext ρ H ρ H' → RelH X.K H' ρ h → RelS X.K H' ρ z r → Q r H') → r xs H Q) : CallS X f g :=
  fun pins s σ H xs us Q I r ⟨ρ, h, vs, z, R, rl, e, k⟩ => hc pins s σ H xs us Q I r (i xs H Q ρ h vs z R rl e k)
theorem CallS.or {X : Cx} {f : Value} {g g' : List SV → SHp → Option SV} (a : CallS X f g) (b : CallS X f g') : CallS X f (fun vs h => (g vs h).or (g' vs h)) :=
  fun pins s σ H xs us Q I r ⟨ρ, h, vs, z, R, rl, e, k⟩ => by
    have e' : (g vs h).or (g' vs h) = some z := e
    cases e1 : g vs h with
    | some z' => rw [e1] at e'; cases e'; exact a pins s σ H xs us Q I r ⟨ρ, h, vs, _, R, rl, e1, k⟩
    | none => rw [e1] at e'; exact b pins s σ H xs us Q I r ⟨ρ, h, vs, _, R, rl, e', k⟩
section
variable {X : Cx} {W : WX} {x : Str} {p pos : Pos} {e : Expr} {es : List Expr} {c : Env → M (List SV)} {id : String} {g : List SV → SHp → Option SV}
theorem post_cb {σ : St} {H : Hp} {Q : VK} (h : tS X.K W (eCB g c) σ H Q) :
    L2.tCB (fun xs H Q => ∃ ρ h vs z, RelH X.K H ρ h ∧ RelL X.K H ρ vs xs ∧ g vs h = some z ∧ ∀ H' r, Ext ρ H ρ H' → RelH X.K H' ρ h → RelS X.K H' ρ z r → Q r H') (tA X.K W c) σ H Q := by
  obtain ⟨ρ, h, env, R, RE, P⟩ := h
  refine ⟨ρ, h, env, R, RE, (Post.bind (rel := relL X.K) P).mono fun xs H1 ⟨ρ1, vs, h1, E1, R1, r1, P1⟩ => ?_⟩
  unfold M.of at P1
  cases e : g vs h1 with
  | none => rw [e] at P1; exact P1.elim
  | some z => rw [e] at P1; exact ⟨ρ1, h1, vs, z, R1, r1, e, fun H' r E' R' q => P1 ρ1 H' r E' R' q⟩
theorem e_callB (hc : CallS X (.builtin id) g) (hm : X.mg x = none) (ha : SA X W (e :: es) c) (hg : Gl X x := by rfl) (hv : bootBuiltins x = some (.builtin id) := by decide +kernel) (hn : x ≠ "__name__" := by decide) (hdb : (x == ("__debug__" : Str)) = false := by decide)
    (he : starEach (e :: es) X.env = (false, eval e X.env) :: starEach es X.env := by rfl) (hpl : (backTo pos (starEach es X.env)).any (·.1) = false := by rfl) : SE X W (.Call (.Name x p) (e :: es) [] pos) (eCB g c) :=
  ⟨imp_pe (pe_callB hc hg hm hv ha.pa hn hdb he hpl) fun σ H Q h => post_cb h⟩
theorem e_callTy {T : String} (hc : CallS X (.type T) g) (hm : X.mg x = none) (ha : SA X W (e :: es) c) (hg : Gl X x := by rfl) (hv : bootBuiltins x = some (.type T) := by decide +kernel) (hn : x ≠ "__name__" := by decide) (hdb : (x == ("__debug__" : Str)) = false := by decide)
    (he : starEach (e :: es) X.env = (false, eval e X.env) :: starEach es X.env := by rfl) (hpl : (backTo pos (starEach es X.env)).any (·.1) = false := by rfl) : SE X W (.Call (.Name x p) (e :: es) [] pos) (eCB g c) :=
  ⟨imp_pe (pe_callTy hc hg hm hv ha.pa hn hdb he hpl) fun σ H Q h => post_cb h⟩
/-- a built-in type or function as a value (an argument of isinstance) -/
theorem e_ty {T : String} (hm : X.mg x = none) (hg : Gl X x := by rfl) (hv : bootBuiltins x = some (.type T) := by decide +kernel) (hn : x ≠ "__name__" := by decide) (hd : (x == ("__debug__" : Str)) = false := by decide) : SE X W (.Name x pos) (eC (.ty T)) :=
  imp_c (pe_bltn (v := .ty T) hg hm hv rfl hn hd) fun _ _ => .ty .nil
end
def absF : List SV → SHp → Option SV := fun vs _ => match vs with
  | [.int i] => some (.int (if i < 0 then -i else i))
  | _ => none
def intF : List SV → SHp → Option SV := fun vs _ => match vs with
  | [.int i] => some (.int i)
  | [.bl b] => some (.int (if b then 1 else 0))
  | _ => none
def max2F : List SV → SHp → Option SV := fun vs _ => match vs with
  | [.int i, .int j] => some (.int (if j > i then j else i))
  | _ => none
def min2F : List SV → SHp → Option SV := fun vs _ => match vs with
  | [.int i, .int j] => some (.int (if j < i then j else i))
  | _ => none
def lenF : List SV → SHp → Option SV := fun vs h => match vs with
  | [v] => match seqOf v h with
    | some xs => some (.int xs.length)
    | none => match v with
      | .str s => if s.length ≤ sizeLine then some (.int s.length) else none
      | _ => none
  | _ => none
section
variable {X : Cx}
theorem b_abs : CallS X (.builtin "abs") absF := .of call_abs fun xs H Q ρ h vs z R r e k => by
  unfold absF at e
  split at e
  · cases e; obtain ⟨x, us, rfl, rx, r⟩ := RelL.inv r; cases r; cases rx
    exact ⟨_, rfl, k H _ .refl R (.int .nil)⟩
  · cases e
theorem b_int : CallS X (.type "int") intF := .of call_int1 fun xs H Q ρ h vs z R r e k => by
  unfold intF at e
  split at e
  · cases e; obtain ⟨x, us, rfl, rx, r⟩ := RelL.inv r; cases r; cases rx
    exact .inl ⟨_, rfl, k H _ .refl R (.int .nil)⟩
  · cases e; obtain ⟨x, us, rfl, rx, r⟩ := RelL.inv r; cases r; cases rx
    exact .inr ⟨_, rfl, k H _ .refl R (.int .nil)⟩
  · cases e
theorem b_max2 (hc : X.calm = true) : CallS X (.builtin "max") max2F := .of (call_max2 hc) fun xs H Q ρ h vs z R r e k => by
  unfold max2F at e
  split at e
  · cases e; obtain ⟨x, us, rfl, rx, r⟩ := RelL.inv r; obtain ⟨y, us, rfl, ry, r⟩ := RelL.inv r; cases r; cases rx; cases ry
    exact ⟨_, _, rfl, k H _ .refl R (.int .nil)⟩
  · cases e
theorem b_min2 (hc : X.calm = true) : CallS X (.builtin "min") min2F := .of (call_min2 hc) fun xs H Q ρ h vs z R r e k => by
  unfold min2F at e
  split at e
  · cases e; obtain ⟨x, us, rfl, rx, r⟩ := RelL.inv r; obtain ⟨y, us, rfl, ry, r⟩ := RelL.inv r; cases r; cases rx; cases ry
    exact ⟨_, _, rfl, k H _ .refl R (.int .nil)⟩
  · cases e
theorem b_len : CallS X (.builtin "len") lenF := .of call_len fun xs H Q ρ h vs z R r e k => by
  unfold lenF at e
  split at e
  · rename_i v
    obtain ⟨x, us, rfl, rx, r⟩ := RelL.inv r; cases r
    cases q : seqOf v h with
    | some ys =>
      simp only [q] at e; cases e
      obtain ⟨a, us, rfl, hq, rr⟩ := seq_rel R q rx
      rw [rr.length] at k
      refine ⟨_, us.length, rfl, ?_, k H _ .refl R (.int .nil)⟩
      rcases hq with hq | hq
      · exact .inl ⟨us, hq, rfl⟩
      · exact .inr ⟨us, hq, rfl⟩
    | none =>
      simp only [q] at e
      split at e
      · rename_i s
        by_cases c : s.length ≤ sizeLine
        · rw [if_pos c] at e; cases e
          cases rx
          exact ⟨_, _, rfl, ⟨c, rfl⟩, k H _ .refl R (.int .nil)⟩
        · rw [if_neg c] at e; cases e
      · cases e
  · cases e
end
/-! lists of bools, of ints -/
def blsOf : List SV → Option (List Bool)
  | [] => some []
  | .bl b :: xs => (blsOf xs).map (b :: ·)
  | _ => none
def intsOf : List SV → Option (List Int)
  | [] => some []
  | .int b :: xs => (intsOf xs).map (b :: ·)
  | _ => none
theorem bls_rel {K : PySem.W.Frag} {H : Hp} {ρ : Rho} : ∀ {xs : List SV} {us : List V} {bs : List Bool}, RelL K H ρ xs us → blsOf xs = some bs → us = bs.map V.bl
  | [], _, _, r, e => by simp [blsOf] at e; subst e; rw [r.nil_inv]; rfl
  | x :: xs, _, _, r, e => by
    obtain ⟨v, us, rfl, a, q⟩ := r.inv
    cases x <;> simp [blsOf] at e
    obtain ⟨bs, e, rfl⟩ := e
    cases a
    rw [bls_rel q e]; rfl
theorem ints_rel {K : PySem.W.Frag} {H : Hp} {ρ : Rho} : ∀ {xs : List SV} {us : List V} {bs : List Int}, RelL K H ρ xs us → intsOf xs = some bs → us = bs.map V.int
  | [], _, _, r, e => by simp [intsOf] at e; subst e; rw [r.nil_inv]; rfl
  | x :: xs, _, _, r, e => by
    obtain ⟨v, us, rfl, a, q⟩ := r.inv
    cases x <;> simp [intsOf] at e
    obtain ⟨bs, e, rfl⟩ := e
    cases a
    rw [ints_rel q e]; rfl
theorem rel_ints {K : PySem.W.Frag} {H : Hp} {ρ : Rho} : ∀ (ns : List Int), RelL K H ρ (ns.map SV.int) (ns.map V.int)
  | [] => .nil
  | _ :: ns => .int (rel_ints ns)
def allF : List SV → SHp → Option SV := fun vs h => match vs with
  | [v] => match listOf v h with
    | some xs => (blsOf xs).map fun bs => .bl (bs.all id)
    | none => none
  | _ => none
def anyF : List SV → SHp → Option SV := fun vs h => match vs with
  | [v] => match listOf v h with
    | some xs => (blsOf xs).map fun bs => .bl (bs.any id)
    | none => none
  | _ => none
def sumF : List SV → SHp → Option SV := fun vs h => match vs with
  | [v] => match listOf v h with
    | some xs => (intsOf xs).map fun bs => .int bs.sum
    | none => none
  | _ => none
def tupleF : List SV → SHp → Option SV := fun vs h => match vs with
  | [v] => match v with
    | .tup xs => some (.tup xs)
    | v => match listOf v h with
      | some xs => some (.tup xs)
      | none => none
  | _ => none
def listF : List SV → SHp → Option SV := fun vs h => match vs with
  | [v] => match seqOf v h with
    | some xs => some (.rls xs)
    | none => none
  | _ => none
def srt (ns : List Int) : List Int := ns.mergeSort (fun a b => decide (a ≤ b))
def sortedF : List SV → SHp → Option SV := fun vs h => match vs with
  | [v] => match listOf v h with
    | some xs => (intsOf xs).map fun ns => .rls ((srt ns).map SV.int)
    | none => none
  | _ => none
theorem srt_of {ns ns' : List Int} (p : ns'.Perm ns) (s : ns'.Pairwise (· ≤ ·)) : ns' = srt ns := by
  have h1 : (srt ns).Perm ns := List.mergeSort_perm ns _
  have h2 : (srt ns).Pairwise (fun a b => decide (a ≤ b) = true) := List.pairwise_mergeSort (fun a b c h1 h2 => by simp at *; omega) (fun a b => by simp; omega) ns
  have h2' : (srt ns).Pairwise (· ≤ ·) := h2.imp (by intro a b h; simpa using h)
  exact List.Perm.eq_of_pairwise (fun a b _ _ h1 h2 => by omega) s h2' (p.trans h1.symm)
section
variable {X : Cx}
theorem b_all (hc : X.calm = true) : CallS X (.builtin "all") allF := .of (cr_all hc) fun xs H Q ρ h vs z R r e k => by
  unfold allF at e
  split at e
  · rename_i v
    obtain ⟨x, us, rfl, rx, r⟩ := RelL.inv r; cases r
    split at e
    · rename_i ys q
      cases q2 : blsOf ys with
      | none => simp [q2] at e
      | some bs =>
        simp [q2] at e; subst e
        obtain ⟨a, us, rfl, hq, rr⟩ := list_rel R q rx
        rw [bls_rel rr q2] at hq
        exact ⟨a, bs, rfl, hq, k H _ .refl R (.bl .nil)⟩
    · cases e
  · cases e
theorem b_any (hc : X.calm = true) : CallS X (.builtin "any") anyF := .of (cr_any hc) fun xs H Q ρ h vs z R r e k => by
  unfold anyF at e
  split at e
  · rename_i v
    obtain ⟨x, us, rfl, rx, r⟩ := RelL.inv r; cases r
    split at e
    · rename_i ys q
      cases q2 : blsOf ys with
      | none => simp [q2] at e
      | some bs =>
        simp [q2] at e; subst e
        obtain ⟨a, us, rfl, hq, rr⟩ := list_rel R q rx
        rw [bls_rel rr q2] at hq
        exact ⟨a, bs, rfl, hq, k H _ .refl R (.bl .nil)⟩
    · cases e
  · cases e
theorem b_sum (hc : X.calm = true) : CallS X (.builtin "sum") sumF := .of (cr_sum hc) fun xs H Q ρ h vs z R r e k => by
  unfold sumF at e
  split at e
  · rename_i v
    obtain ⟨x, us, rfl, rx, r⟩ := RelL.inv r; cases r
    split at e
    · rename_i ys q
      cases q2 : intsOf ys with
      | none => simp [q2] at e
      | some bs =>
        simp [q2] at e; subst e
        obtain ⟨a, us, rfl, hq, rr⟩ := list_rel R q rx
        rw [ints_rel rr q2] at hq
        exact ⟨a, bs, rfl, hq, k H _ .refl R (.int .nil)⟩
    · cases e
  · cases e
theorem b_tuple : CallS X (.type "tuple") tupleF := .of call_tuple_of fun xs H Q ρ h vs z R r e k => by
  unfold tupleF at e
  split at e
  · rename_i v
    obtain ⟨x, us, rfl, rx, r⟩ := RelL.inv r; cases r
    split at e
    · cases e
      obtain ⟨a, us, rfl, hq, rr⟩ := tup_rel1 rx
      exact ⟨a, us, rfl, .inr ⟨.of hq, k H _ .refl R (.tup hq rr .nil)⟩⟩
    · split at e
      · rename_i ys q
        cases e
        obtain ⟨a, us, rfl, hq, rr⟩ := list_rel R q rx
        exact ⟨a, us, rfl, .inl ⟨hq, fun t ht => k _ _ (.fresh ht) (R.fresh ht) (rel_tup R ht rr)⟩⟩
      · cases e
  · cases e
theorem b_list : CallS X (.type "list") listF := .of call_list_of fun xs H Q ρ h vs z R r e k => by
  unfold listF at e
  split at e
  · rename_i v
    obtain ⟨x, us, rfl, rx, r⟩ := RelL.inv r; cases r
    split at e
    · rename_i ys q
      cases e
      obtain ⟨a, us, rfl, hq, rr⟩ := seq_rel R q rx
      exact ⟨a, us, rfl, hq, fun t ht => k _ _ (.fresh ht) (R.fresh ht) (rel_rls R ht rr)⟩
    · cases e
  · cases e
theorem b_sorted : CallS X (.builtin "sorted") sortedF := .of L2.cr_sortedI fun xs H Q ρ h vs z R r e k => by
  unfold sortedF at e
  split at e
  · rename_i v
    obtain ⟨x, us, rfl, rx, r⟩ := RelL.inv r; cases r
    split at e
    · rename_i ys q
      cases q2 : intsOf ys with
      | none => simp [q2] at e
      | some ns =>
        simp [q2] at e; subst e
        obtain ⟨a, us, rfl, hq, rr⟩ := list_rel R q rx
        rw [ints_rel rr q2] at hq
        refine ⟨a, ns, rfl, hq, fun ns' t p s ht => ?_⟩
        rw [srt_of p s]
        exact k _ _ (.fresh ht) (R.fresh ht) (rel_rls R ht (rel_ints _))
    · cases e
  · cases e
end

/-! ### isinstance by a built-in type -/
def tyN (v : SV) (h : SHp) : Option String := match v with
  | .non => some "NoneType"
  | .bl _ => some "bool"
  | .int _ => some "int"
  | .str _ => some "str"
  | .tup _ => some "tuple"
  | .rls _ => some "list"
  | .frl _ => some "list"
  | .rdc _ _ _ => some "dict"
  | .ref n => match h[n]? with
    | some (.lst _) => some "list"
    | some (.dic _ _ _) => some "dict"
    | _ => none
  | _ => none
def isTy (a b : String) : Bool := a == b || (a == "bool" && b == "int")
def tyNames : List String := ["NoneType", "bool", "int", "str", "tuple", "list", "dict"]
theorem kit_tab : ∀ a ∈ tyNames, ∀ b ∈ tyNames, b ≠ "NoneType" → L2.kitB a b = some (isTy a b) := by decide +kernel
theorem tyN_mem {v : SV} {h : SHp} {t : String} (e : tyN v h = some t) : t ∈ tyNames := by
  unfold tyN at e
  split at e <;> first | (cases e; decide) | (split at e <;> first | (cases e; decide) | cases e) | cases e
theorem tyN_rel {K : PySem.W.Frag} {H : Hp} {ρ : Rho} {h : SHp} {v : SV} {x : V} {t : String} (R : RelH K H ρ h) (e : tyN v h = some t) (r : RelS K H ρ v x) : L2.TyX K H x (.type t) := by
  cases v with
  | non => cases e; cases r; exact .base .non
  | bl b => cases e; cases r; exact .base (.bl _)
  | int b => cases e; cases r; exact .base (.int _)
  | str b => cases e; cases r; exact .base (.str _)
  | tup xs =>
    cases e
    obtain ⟨a, us, rfl, hq, _⟩ := tup_rel1 r
    exact .base (.tup hq)
  | rls xs => cases e; cases r with
    | rls h n a _ => exact .base (.lst h)
  | frl xs => cases e; cases r with
    | frl h a _ =>
      rcases h with ⟨q | ⟨o, q⟩, _⟩ | ⟨o, its, n, q, c, _⟩
      · exact .base (.lst q)
      · exact .base (.frz q)
      · exact .kList q c
  | rdc t ks xs => cases e; cases r with
    | rdK h _ _ _ _ => exact .base (.dK h)
    | rdT h _ _ _ _ => exact .base (.dT h)
  | ref n =>
    have e' : (match h[n]? with | some (SO.lst _) => some "list" | some (SO.dic _ _ _) => some "dict" | _ => none) = some t := e
    cases q : h[n]? with
    | none => simp [q] at e'
    | some o =>
      obtain ⟨a, ha, ob⟩ := R.ob n o q
      cases r with
      | ref hi _ =>
        rw [hi] at ha; cases ha
        cases o with
        | lst xs => simp [q] at e'; subst e'; obtain ⟨us, h1, _⟩ := ob; exact .base (.lst h1)
        | dic t ks xs =>
          simp [q] at e'; subst e'
          rcases ob with ⟨kvs, h1, _⟩ | ⟨kvs, h1, _⟩
          · exact .base (.dK h1)
          · exact .base (.dT h1)
        | ins _ _ _ => simp [q] at e'
  | _ => cases e
def isiF : List SV → SHp → Option SV := fun vs h => match vs with
  | [v, .ty T] => if T ∈ tyNames ∧ T ≠ "NoneType" then (tyN v h).map fun t => .bl (isTy t T) else none
  | _ => none
theorem b_isi {X : Cx} : CallS X (.builtin "isinstance") isiF := .of L2.call_isi fun xs H Q ρ h vs z R r e k => by
  unfold isiF at e
  split at e
  · rename_i v T
    obtain ⟨x, us, rfl, rx, r⟩ := RelL.inv r; obtain ⟨y, us, rfl, ry, r⟩ := RelL.inv r; cases r
    by_cases c : T ∈ tyNames ∧ T ≠ "NoneType"
    · rw [if_pos c] at e
      cases q : tyN v h with
      | none => simp [q] at e
      | some t =>
        simp [q] at e; subst e
        cases ry
        exact ⟨x, _, _, _, _, rfl, .ty T, tyN_rel R q rx, L2.kit_ty (kit_tab t (tyN_mem q) T c.1 c.2), k H _ .refl R (.bl .nil)⟩
    · rw [if_neg c] at e; cases e
  · cases e
end Sim

set_option Elab.async false
set_option linter.all false
set_option maxRecDepth 100000
set_option maxHeartbeats 4000000
namespace Sim
open PySem L2

/-! ### what is thrown away at a def's end -/
mutual
def SV.okr (n : Nat) : SV → Bool
  | .ref i => decide (i < n)
  | .tup xs => SV.okrs n xs
  | .rls xs => SV.okrs n xs
  | .frl xs => SV.okrs n xs
  | .obj _ _ xs => SV.okrs n xs
  | .rdc _ _ xs => SV.okrs n xs
  | _ => true
def SV.okrs (n : Nat) : List SV → Bool
  | [] => true
  | x :: xs => SV.okr n x && SV.okrs n xs
end
def SO.okr (n : Nat) : SO → Bool
  | .lst xs => SV.okrs n xs
  | .dic _ _ xs => SV.okrs n xs
  | .ins _ _ xs => SV.okrs n xs
def gcOk (h h' : SHp) : Bool := (List.range h.length).all fun i => decide (h'[i]? = h[i]?) || (match h'[i]? with
  | some o => o.okr h.length
  | none => false)
def froz : SO → SV
  | .lst xs => .rls xs
  | .dic t ks xs => .rdc t ks xs
  | .ins C ns xs => .obj C ns xs
/-- at a def's end: what it made for itself goes, if nothing holds it; what it gives out becomes a value, if nothing else holds it -/
def gc (fz : Bool) (h : SHp) (v : SV) (h' : SHp) : Res SV :=
  if h'.length ≤ h.length then .ok v h' else if gcOk h h' = true then
    if v.okr h.length = true then .ok v (h'.take h.length) else match v with
    | .ref k => match h'[k]? with
      | some o => if fz = true ∧ h.length ≤ k ∧ o.okr h.length = true then .ok (froz o) (h'.take h.length) else .ok v h'
      | none => .ok v h'
    | _ => .ok v h'
  else .ok v h'
section
variable {K : PySem.W.Frag} {H H' : Hp} {ρ ρ' : Rho} {h h' : SHp} {xs : List SV} {us : List V} {n : Nat}
theorem RelL.okr (r : RelL K H ρ xs us) : SV.okrs ρ.l.length xs = true := by
  induction r with
  | nil => simp [SV.okrs]
  | non _ ih => simp [SV.okrs, SV.okr, ih]
  | bl _ ih => simp [SV.okrs, SV.okr, ih]
  | int _ ih => simp [SV.okrs, SV.okr, ih]
  | str _ ih => simp [SV.okrs, SV.okr, ih]
  | ty _ ih => simp [SV.okrs, SV.okr, ih]
  | adr _ ih => simp [SV.okrs, SV.okr, ih]
  | ref h _ ih => simp [SV.okrs, SV.okr, ih]; exact (List.getElem?_eq_some_iff.mp h).1
  | tup _ _ _ i1 i2 => simp [SV.okrs, SV.okr, i1, i2]
  | rls _ _ _ _ i1 i2 => simp [SV.okrs, SV.okr, i1, i2]
  | frl _ _ _ i1 i2 => simp [SV.okrs, SV.okr, i1, i2]
  | obj _ _ _ _ _ i1 i2 => simp [SV.okrs, SV.okr, i1, i2]
  | rdK _ _ _ _ _ i1 i2 => simp [SV.okrs, SV.okr, i1, i2]
  | rdT _ _ _ _ _ i1 i2 => simp [SV.okrs, SV.okr, i1, i2]
def Rho.cut (ρ : Rho) (n : Nat) : Rho := ⟨ρ.l.take n, ρ.ex⟩
theorem Rho.cut_out {a : Addr} (o : ρ.out a) : (ρ.cut n).out a := ⟨fun m => o.1 (List.mem_of_mem_take m), o.2⟩
theorem RelL.cut (r : RelL K H ρ xs us) (ok : SV.okrs n xs = true) : RelL K H (ρ.cut n) xs us := by
  induction r with
  | nil => exact .nil
  | non _ ih => exact .non (ih (by simpa [SV.okrs, SV.okr] using ok))
  | bl _ ih => exact .bl (ih (by simpa [SV.okrs, SV.okr] using ok))
  | int _ ih => exact .int (ih (by simpa [SV.okrs, SV.okr] using ok))
  | str _ ih => exact .str (ih (by simpa [SV.okrs, SV.okr] using ok))
  | ty _ ih => exact .ty (ih (by simpa [SV.okrs, SV.okr] using ok))
  | adr _ ih => exact .adr (ih (by simpa [SV.okrs, SV.okr] using ok))
  | ref h _ ih =>
    simp [SV.okrs, SV.okr] at ok
    exact .ref (by show (List.take n ρ.l)[_]? = _; rw [List.getElem?_take_of_lt ok.1]; exact h) (ih ok.2)
  | tup h _ _ i1 i2 => simp [SV.okrs, SV.okr] at ok; exact .tup h (i1 ok.1) (i2 ok.2)
  | rls h o _ _ i1 i2 => simp [SV.okrs, SV.okr] at ok; exact .rls h (Rho.cut_out o) (i1 ok.1) (i2 ok.2)
  | frl h _ _ i1 i2 => simp [SV.okrs, SV.okr] at ok; exact .frl (h.imp (fun z => ⟨z.1, Rho.cut_out z.2⟩) id) (i1 ok.1) (i2 ok.2)
  | obj h o e _ _ i1 i2 => simp [SV.okrs, SV.okr] at ok; exact .obj h (Rho.cut_out o) e (i1 ok.1) (i2 ok.2)
  | rdK h o e _ _ i1 i2 => simp [SV.okrs, SV.okr] at ok; exact .rdK h (Rho.cut_out o) e (i1 ok.1) (i2 ok.2)
  | rdT h o e _ _ i1 i2 => simp [SV.okrs, SV.okr] at ok; exact .rdT h (Rho.cut_out o) e (i1 ok.1) (i2 ok.2)
theorem ObjRel.cut {a : Addr} {o : SO} (r : ObjRel K H ρ a o) (ok : o.okr n = true) : ObjRel K H (ρ.cut n) a o := by
  cases o with
  | lst xs => obtain ⟨vs, h, q⟩ := r; exact ⟨vs, h, q.cut ok⟩
  | dic t ks xs =>
    rcases r with ⟨kvs, h, e, q⟩ | ⟨kvs, h, e, q⟩
    · exact .inl ⟨kvs, h, e, q.cut ok⟩
    · exact .inr ⟨kvs, h, e, q.cut ok⟩
  | ins C ns xs => obtain ⟨dx, fv, h, e, q⟩ := r; exact ⟨dx, fv, h, e, q.cut ok⟩
theorem ObjRel.okr {a : Addr} {o : SO} (r : ObjRel K H ρ a o) : o.okr ρ.l.length = true := by
  cases o with
  | lst xs => obtain ⟨vs, h, q⟩ := r; exact q.okr
  | dic t ks xs => rcases r with ⟨kvs, h, e, q⟩ | ⟨kvs, h, e, q⟩ <;> exact q.okr
  | ins C ns xs => obtain ⟨dx, fv, h, e, q⟩ := r; exact q.okr
theorem RelH.cut (R : RelH K H ρ h) (R' : RelH K H' ρ' h') (g : gcOk h h' = true) (hl : h.length ≤ h'.length) : RelH K H' (ρ'.cut h.length) (h'.take h.length) := by
  refine ⟨?_, R'.nd.sublist (List.take_sublist _ _), fun i o q => ?_, R'.hx, fun d hd => R'.dj d (List.mem_of_mem_take hd)⟩
  · show (List.take h.length ρ'.l).length = _
    rw [List.length_take, List.length_take, R'.len]
  · have hi : i < h.length := by
      have := (List.getElem?_eq_some_iff.mp q).1
      rw [List.length_take] at this; omega
    have q' : h'[i]? = some o := by rw [List.getElem?_take_of_lt hi] at q; exact q
    obtain ⟨a, ha, ob⟩ := R'.ob i o q'
    refine ⟨a, by show (List.take h.length ρ'.l)[i]? = _; rw [List.getElem?_take_of_lt hi]; exact ha, ob.cut ?_⟩
    unfold gcOk at g
    have gi := List.all_eq_true.mp g i (List.mem_range.mpr hi)
    rw [q'] at gi
    simp only [Bool.or_eq_true, decide_eq_true_eq] at gi
    rcases gi with e | e
    · obtain ⟨b, hb, ob2⟩ := R.ob i o e.symm
      rw [← R.len]; exact ob2.okr
    · exact e
theorem Ext.cut (E : Ext ρ H ρ' H') (R : RelH K H ρ h) : Ext ρ H (ρ'.cut h.length) H' :=
  ⟨by
    show ρ.l <+: List.take h.length ρ'.l
    obtain ⟨t, e⟩ := E.pre
    rw [← e, ← R.len, List.take_left]
    exact List.prefix_refl _, fun a m => E.new a (List.mem_of_mem_take m), E.kept, E.hid, E.sub⟩
theorem gc_post {fz : Bool} {v : SV} {W : WX} {σ : St} {Q : VK} (R : RelH K H ρ h) (P : Post K W (relS K) σ ρ H (gc fz h v h') Q) : Post K W (relS K) σ ρ H (.ok v h') Q := by
  intro ρ' H' x E R' r
  unfold gc at P
  by_cases c : h'.length ≤ h.length
  · rw [if_pos c] at P; exact P ρ' H' x E R' r
  · rw [if_neg c] at P
    by_cases g : gcOk h h' = true
    · rw [if_pos g] at P
      by_cases o : v.okr h.length = true
      · rw [if_pos o] at P
        exact P (ρ'.cut h.length) H' x (E.cut R) (R.cut R' g (by omega)) (RelL.cut r (by simp [SV.okrs, o]))
      · rw [if_neg o] at P
        cases v with
        | ref k =>
          simp only at P
          cases q : h'[k]? with
          | none => rw [q] at P; exact P ρ' H' x E R' r
          | some ob =>
            rw [q] at P
            simp only at P
            by_cases z : fz = true ∧ h.length ≤ k ∧ ob.okr h.length = true
            · rw [if_pos z] at P
              obtain ⟨_, zk, zo⟩ := z
              refine P (ρ'.cut h.length) H' x (E.cut R) (R.cut R' g (by omega)) ?_
              obtain ⟨a, ha, orl⟩ := R'.ob k ob q
              cases r with
              | ref hi _ =>
                rw [ha] at hi; cases hi
                have out : (ρ'.cut h.length).out a := by
                  refine ⟨fun m => ?_, R'.dj a (List.mem_of_getElem? ha)⟩
                  obtain ⟨j, hj⟩ := List.mem_iff_getElem?.mp m
                  have hjl : j < h.length := by
                    have q1 := (List.getElem?_eq_some_iff.mp hj).1
                    have q2 : (List.take h.length ρ'.l).length = (ρ'.cut h.length).l.length := rfl
                    rw [List.length_take] at q2; omega
                  have hj' : ρ'.l[j]? = some a := by
                    have q3 : (List.take h.length ρ'.l)[j]? = some a := hj
                    rw [List.getElem?_take_of_lt hjl] at q3; exact q3
                  have := nodup_at R'.nd hj' ha
                  omega
                have oc := orl.cut zo
                cases ob with
                | lst xs => obtain ⟨vs, h1, q1⟩ := oc; exact .rls h1 out q1 .nil
                | dic t ks xs =>
                  rcases oc with ⟨kvs, h1, e, q1⟩ | ⟨kvs, h1, e, q1⟩
                  · obtain ⟨rfl, e⟩ := e; exact .rdK h1 out e q1 .nil
                  · obtain ⟨rfl, e⟩ := e; exact .rdT h1 out e q1 .nil
                | ins C ns xs => obtain ⟨dx, fv, h1, e, q1⟩ := oc; exact .obj h1 out e q1 .nil
            · rw [if_neg z] at P; exact P ρ' H' x E R' r
        | _ => exact P ρ' H' x E R' r
    · rw [if_neg g] at P; exact P ρ' H' x E R' r
end

/-! ### defs -/
def fin (fz : Bool) (h : SHp) : SR → Res SV
  | .nx _ h' => gc fz h .non h'
  | .rt v h' => gc fz h v h'
  | .err c fs _ h' => .err c fs h'
  | _ => .stuck
def fnD (fz : Bool) (n : Nat) (body : ST') : List SV → M SV := fun args h => fin fz h (body (args.map some ++ List.replicate (n - args.length) none) h)
def spS (K : PySem.W.Frag) (n : Nat) (D : List SV → M SV) : Sp := fun vs H Q E => vs.length = n ∧ ∃ ρ h args, RelH K H ρ h ∧ RelL K H ρ args vs ∧ Post K (fun c d _ H => E c d H) (relS K) [] ρ H (D args h) Q
theorem start_rel {K : PySem.W.Frag} {H : Hp} {ρ : Rho} {N : List Str} {args : List SV} {vs : List V} (r : RelL K H ρ args vs) : RelE K H ρ (args.map some ++ List.replicate (N.length - args.length) none) (L2.start N vs) := by
  refine ⟨by simp [L2.start, r.length], fun i s e => ?_⟩
  unfold L2.start
  by_cases hi : i < args.length
  · rw [List.getElem?_append_left (by simp [hi])] at e
    rw [List.getElem?_map] at e
    cases q : args[i]? with
    | none => rw [q] at e; cases e
    | some a =>
      rw [q] at e
      cases e
      obtain ⟨v, h1, h2⟩ := r.get q
      exact ⟨v, by rw [List.getElem?_append_left (by simp [← r.length, hi]), List.getElem?_map, h1]; rfl, h2⟩
  · rw [List.getElem?_append_right (by simp; omega)] at e
    rw [List.getElem?_replicate] at e
    split at e <;> cases e
section
variable {P : Program} {w : World} {K : PySem.W.Frag} {mg : Str → Option Value} {base : Heap}
abbrev WF (E : XK) : WX := fun c d _ H => E c d H
theorem sim_fn {x qual : Str} {st : Stmt} {f : Addr} {fd : FuncData} {N ps : List Str} {k : Nat} {body : ST'} (fz : Bool) (F : Fun K x qual st f fd) (S : FnScope N ps (defScope st))
    (hb : ∀ (cdv : Value) (A : Around) (outer : List PySem.Env) (s : Shared) (H : Hp) (E : XK), Room k (A.deeper (PyProof.Rows.envOfC qual (defScope st) s.heap.objs.size f cdv)) →
      Takes (cxOf (L2.CX P w) P w K mg base N qual (defScope st) f cdv A outer s H E) (WF E) →
      PassesOwn (model P w) (A.deeper (PyProof.Rows.envOfC qual (defScope st) s.heap.objs.size f cdv)) (PyProof.Rows.envOfC qual (defScope st) s.heap.objs.size f cdv) (cxOf (L2.CX P w) P w K mg base N qual (defScope st) f cdv A outer s H E).xe →
      SSs (cxOf (L2.CX P w) P w K mg base N qual (defScope st) f cdv A outer s H E) (WF E) (defBody st) body) :
    FnOk P w K mg base (L2.CX P w) (k + 1) f fd ps (spS K ps.length (fnD fz N.length body)) := by
  refine F.okX S (fun vs H Q E h => h.1) fun cdv A outer s H vs Q E hr hsp => ?_
  refine ⟨_, (hb cdv A outer s H E hr (takes_of rfl rfl rfl rfl) (passes_of rfl)).pss, ?_⟩
  obtain ⟨hn, ρ, h, args, R, ra, P0⟩ := hsp
  refine ⟨ρ, h, _, R, start_rel ra, ?_⟩
  unfold fnD at P0
  cases e : body (args.map some ++ List.replicate (N.length - args.length) none) h with
  | nx e' h' => rw [e] at P0; exact fun ρ' H' σ' E' R' RE' => gc_post (fz := fz) R P0 ρ' H' _ E' R' (.non .nil)
  | rt v h' => rw [e] at P0; exact fun ρ' H' x E' R' r' => gc_post (fz := fz) R P0 ρ' H' x E' R' r'
  | err c fs e' h' => rw [e] at P0; exact fun ρ' H' σ' cv d E' R' RE' q => P0 ρ' H' cv d E' R' q
  | bk e' h' => rw [e] at P0; exact P0.elim
  | ct e' h' => rw [e] at P0; exact P0.elim
  | stuck => rw [e] at P0; exact P0.elim
end
/-! ### calls -/
def eCall (D : List SV → M SV) (c : Env → M (List SV)) : Env → M SV := fun e => M.bind (c e) D
section
variable {X : Cx} {W : WX} {k : Nat} {f : Addr} {fd : FuncData} {ps : List Str} {D : List SV → M SV} {x : Str} {p pos : Pos} {e : Expr} {es : List Expr} {c : Env → M (List SV)}
theorem sp_of {K : PySem.W.Frag} {n : Nat} {σ : St} {ρ : Rho} {H : Hp} {h : SHp} {args : List SV} {vs : List V} {Q : VK} (R : RelH K H ρ h) (r : RelL K H ρ args vs) (hn : vs.length = n) (P : Post K W (relS K) σ ρ H (D args h) Q) : spS K n D vs H Q (WE W σ) := by
  refine ⟨hn, ρ, h, args, R, r, ?_⟩
  cases e : D args h with
  | ok v h' => rw [e] at P; exact P
  | err cc fs h' => rw [e] at P; exact P
  | stuck => rw [e] at P; exact P
/-- how many arguments a list of trees gives -/
structure SAn (X : Cx) (W : WX) (es : List Expr) (n : Nat) (c : Env → M (List SV)) : Prop where
  sa : SA X W es c
  len : ∀ e h vs h', c e h = .ok vs h' → vs.length = n
theorem an_nil : SAn X W [] 0 aNil := ⟨a_nil, fun e h vs h' q => by cases q; rfl⟩
theorem an_cons {n : Nat} {ca : Env → M SV} {cr : Env → M (List SV)} (ha : SE X W e ca) (hr : SAn X W es n cr) (hs : starEach (e :: es) X.env = (false, eval e X.env) :: starEach es X.env := by rfl) : SAn X W (e :: es) (n + 1) (aCons ca cr) :=
  ⟨a_cons ha hr.sa hs, fun env h vs h' q => by
    unfold aCons M.bind at q
    cases q1 : ca env h with
    | ok v h1 =>
      simp only [q1] at q
      cases q2 : cr env h1 with
      | ok ws h2 => simp only [q2] at q; cases q; simp [hr.len _ _ _ _ q2]
      | err _ _ _ => simp only [q2] at q; cases q
      | stuck => simp only [q2] at q; cases q
    | err _ _ _ => simp only [q1] at q; cases q
    | stuck => simp only [q1] at q; cases q⟩
theorem call_post {n : Nat} {σ : St} {H : Hp} {Q : VK} (len : ∀ e h vs h', c e h = .ok vs h' → vs.length = n) (h : tS X.K W (eCall D c) σ H Q) : L2.tCallSD (spS X.K n D) [] (WE W) (tA X.K W c) σ H Q := by
  obtain ⟨ρ, h, env, R, RE, P⟩ := h
  refine ⟨ρ, h, env, R, RE, ?_⟩
  have P2 := Post.bind (rel := relL X.K) P
  cases q : c env h with
  | ok vs h1 =>
    rw [q] at P2
    intro ρ' H' x E' R' r'
    obtain ⟨ρ1, v, h1', E1, R1, r1, P1⟩ := P2 ρ' H' x E' R' r'
    rw [List.append_nil]
    have P0 : Post X.K W (relS X.K) σ ρ H (D vs h1) Q := by
      unfold eCall M.bind at P; rw [q] at P; exact P
    exact sp_of R' r' (by rw [← r'.length]; exact len _ _ _ _ q) (P0.shift E')
  | err cc fs h1 => rw [q] at P2; exact P2
  | stuck => rw [q] at P2; exact P2
theorem e_call (tk : Takes X W) (F : FnOk X.prog X.w X.K X.mg X.base (L2.CX X.prog X.w) k f fd ps (spS X.K ps.length D)) (hr : Room k X.A) (hm : X.mg x = some (.ref f)) (hk : PySem.W.keepIn X.K (.ref f) = true) (hb : Binds X.K fd ps [])
    (ha : SAn X W (e :: es) ps.length c) (hg : Gl X x := by rfl) (hdb : (x == ("__debug__" : Str)) = false := by decide) (he : starEach (e :: es) X.env = (false, eval e X.env) :: starEach es X.env := by rfl) (hpl : (backTo pos (starEach es X.env)).any (·.1) = false := by rfl) :
    SE X W (.Call (.Name x p) (e :: es) [] pos) (eCall D c) :=
  ⟨imp_pe (L2.pe_callSD F hr hg hm hk hb .nil (fun σ => passAt tk σ) ha.sa.pa hdb he hpl) fun σ H Q h => call_post ha.len h⟩
end
end Sim

set_option Elab.async false
set_option linter.all false
set_option maxRecDepth 100000
set_option maxHeartbeats 4000000
namespace Sim
open PySem L2

/-! ### subscripts, slices -/
def ixF : SV → SV → SHp → Option SV := fun v w h => match w with
  | .int i => match seqOf v h with
    | some xs => L2.atI xs i
    | none => match v with
      | .str s => if s.length ≤ sizeLine then (L2.atI s.cps.toList i).map fun c => .str ⟨#[c]⟩ else none
      | _ => none
  | _ => none
theorem atI_rel {K : PySem.W.Frag} {H : Hp} {ρ : Rho} {xs : List SV} {us : List V} {i : Int} {s : SV} (r : RelL K H ρ xs us) (e : L2.atI xs i = some s) : ∃ v, L2.atI us i = some v ∧ RelS K H ρ s v := by
  unfold L2.atI at e ⊢
  rw [← r.length]
  cases q : ixN xs.length i with
  | none => rw [q] at e; cases e
  | some j => rw [q] at e; exact r.get e
section
variable {X : Cx} {W : WX} {pos p2 : Pos} {a b : Expr} {ca cb : Env → M SV}
theorem e_ix (ha : SE X W a ca) (hb : SE X W b cb) (hs : PlainIx b := by intro _ _; rfl) : SE X W (.Subscript a b pos) (eOp ixF ca cb) :=
  ⟨imp_pe (pe_ix ix_seq ha.pe hb.pe hs) fun σ H Q ⟨ρ, h, env, R, RE, P⟩ => ⟨ρ, h, env, R, RE, (Post.bind (rel := relS X.K) P).mono fun x H1 ⟨ρ1, v, h1, E1, R1, r1, P1⟩ => ⟨ρ1, h1, env, R1, RE.mono R.holds E1, (Post.bind (rel := relS X.K) P1).mono fun y H2 ⟨ρ2, w, h2, E2, R2, r2, P2⟩ => by
    have r1' := r1.mono R1.holds E2
    unfold M.of ixF at P2
    cases w with
    | int i =>
      cases r2
      simp only at P2
      cases q : seqOf v h2 with
      | some xs =>
        rw [q] at P2
        simp only at P2
        cases q2 : L2.atI xs i with
        | none => rw [q2] at P2; exact P2.elim
        | some s =>
          rw [q2] at P2
          obtain ⟨p, us, rfl, hq, rr⟩ := seq_rel R2 q r1'
          obtain ⟨z, hz, rz⟩ := atI_rel rr q2
          rcases hq with hq | hq
          · exact .inl ⟨p, us, i, z, rfl, rfl, hq, hz, P2 ρ2 H2 z .refl R2 rz⟩
          · exact .inr (.inl ⟨p, us, i, z, rfl, rfl, hq, hz, P2 ρ2 H2 z .refl R2 rz⟩)
      | none =>
        rw [q] at P2
        cases v with
        | str s =>
          cases r1'
          simp only at P2
          by_cases c : s.length ≤ sizeLine
          · rw [if_pos c] at P2
            cases q2 : L2.atI s.cps.toList i with
            | none => rw [q2] at P2; exact P2.elim
            | some cc => rw [q2] at P2; exact .inr (.inr ⟨s, i, cc, rfl, rfl, c, q2, P2 ρ2 H2 _ .refl R2 (.str .nil)⟩)
          · rw [if_neg c] at P2; exact P2.elim
        | _ => exact P2.elim
    | _ => exact P2.elim⟩⟩⟩
structure SO' (X : Cx) (W : WX) (e : Option Expr) (c : Env → M (Option Int)) : Prop where
  po : PO X e (tG X.K W (fun _ _ a b => a = b) c)
theorem imp_po {X : Cx} {e : Option Expr} {t t' : TO} (h : PO X e t) (i : ∀ σ H Q, t' σ H Q → t σ H Q) : PO X e t' := ⟨fun pins s σ H Q I q => h.run pins s σ H Q I (i σ H Q q)⟩
def oNo : Env → M (Option Int) := fun _ => M.ret none
def oYes (c : Env → M SV) : Env → M (Option Int) := fun e => M.bind (c e) fun v => match v with
  | .int i => M.ret (some i)
  | _ => fun _ => .stuck
theorem o_no : SO' X W none oNo := ⟨imp_po po_none fun σ H Q ⟨ρ, h, env, R, RE, P⟩ => P ρ H none .refl R rfl⟩
theorem o_yes (ha : SE X W a ca) : SO' X W (some a) (oYes ca) := ⟨imp_po (po_some ha.pe) fun σ H Q ⟨ρ, h, env, R, RE, P⟩ => ⟨ρ, h, env, R, RE, (Post.bind (rel := relS X.K) P).mono fun x H1 ⟨ρ1, v, h1, E1, R1, r1, P1⟩ => by
  cases v with
  | int i => cases r1; exact ⟨i, rfl, P1 ρ1 H1 _ .refl R1 rfl⟩
  | _ => exact P1.elim⟩⟩
def cutL (xs : List SV) (lo hi : Option Int) : List SV := (xs.drop (HT.sIx xs.length 0 lo)).take (HT.sIx xs.length xs.length hi - HT.sIx xs.length 0 lo)
theorem RelL.drop {K : PySem.W.Frag} {H : Hp} {ρ : Rho} : ∀ {xs : List SV} {us : List V} (n : Nat), RelL K H ρ xs us → RelL K H ρ (xs.drop n) (us.drop n)
  | _, _, 0, r => r
  | [], _, n + 1, r => by rw [r.nil_inv]; exact .nil
  | x :: xs, _, n + 1, r => by obtain ⟨v, us, rfl, _, q⟩ := r.inv; exact RelL.drop n q
theorem RelL.take {K : PySem.W.Frag} {H : Hp} {ρ : Rho} : ∀ {xs : List SV} {us : List V} (n : Nat), RelL K H ρ xs us → RelL K H ρ (xs.take n) (us.take n)
  | _, _, 0, r => by rw [List.take_zero, List.take_zero]; exact .nil
  | [], _, n + 1, r => by rw [r.nil_inv]; exact .nil
  | x :: xs, _, n + 1, r => by obtain ⟨v, us, rfl, a, q⟩ := r.inv; exact .cons a (RelL.take n q)
theorem cut_rel {K : PySem.W.Frag} {H : Hp} {ρ : Rho} {xs : List SV} {us : List V} (lo hi : Option Int) (r : RelL K H ρ xs us) : RelL K H ρ (cutL xs lo hi) (cutV us lo hi) := by
  unfold cutL cutV
  rw [← r.length]
  exact (r.drop _).take _
theorem cut_whole {xs : List SV} {lo hi : Option Int} (h : HT.sIx xs.length 0 lo = 0 ∧ HT.sIx xs.length xs.length hi = xs.length) : cutL xs lo hi = xs := by
  unfold cutL; rw [h.1, h.2]; simp
def slF (v : SV) (lo hi : Option Int) (h : SHp) : Option SV := match v with
  | .tup xs => some (.tup (cutL xs lo hi))
  | .str s => if s.length ≤ sizeLine then some (.str (L2.cutS s lo hi)) else none
  | v => (listOf v h).map fun xs => .rls (cutL xs lo hi)
def eSl (c : Env → M SV) (lo hi : Env → M (Option Int)) : Env → M SV := fun e => M.bind (c e) fun v => M.bind (lo e) fun l => M.bind (hi e) fun u => fun h => M.of (slF v l u h) h
theorem e_sl {lo hi : Option Expr} {cl ch : Env → M (Option Int)} (ha : SE X W a ca) (hl : SO' X W lo cl) (hh : SO' X W hi ch) : SE X W (.Subscript a (.Slice lo hi none p2) pos) (eSl ca cl ch) :=
  ⟨imp_pe (pe_slice (SlR.or sl_tupA (SlR.or sl_list sl_str)) ha.pe hl.po hh.po) fun σ H Q ⟨ρ, h, env, R, RE, P⟩ => ⟨ρ, h, env, R, RE, (Post.bind (rel := relS X.K) P).mono fun x H1 ⟨ρ1, v, h1, E1, R1, r1, P1⟩ =>
    ⟨ρ1, h1, env, R1, RE.mono R.holds E1, (Post.bind (rel := fun _ _ a b => a = b) P1).mono fun l H2 ⟨ρ2, l', h2, E2, R2, r2, P2⟩ => ⟨ρ2, h2, env, R2, (RE.mono R.holds E1).mono R1.holds E2, (Post.bind (rel := fun _ _ a b => a = b) P2).mono fun u H3 ⟨ρ3, u', h3, E3, R3, r3, P3⟩ => by
      cases r2; cases r3
      have r1' := (r1.mono R1.holds E2).mono R2.holds E3
      unfold M.of at P3
      cases q : slF v l u h3 with
      | none => rw [q] at P3; exact P3.elim
      | some z =>
        rw [q] at P3
        by_cases ht : ∃ xs, v = .tup xs
        · obtain ⟨xs, rfl⟩ := ht
          cases q
          obtain ⟨p, us, rfl, hq, rr⟩ := tup_rel1 r1'
          have hl := rr.length
          refine .inl ⟨p, us, rfl, .of hq, fun w => ?_, fun w t ht => P3 _ _ _ (.fresh ht) (R3.fresh ht) (rel_tup R3 ht (cut_rel l u rr))⟩
          refine P3 ρ3 H3 _ .refl R3 ?_
          rw [cut_whole (by rw [hl]; exact w)]
          exact .tup hq rr .nil
        · by_cases hs : ∃ s, v = .str s
          · obtain ⟨s, rfl⟩ := hs
            have q' : (if s.length ≤ sizeLine then some (SV.str (L2.cutS s l u)) else none) = some z := q
            by_cases c : s.length ≤ sizeLine
            · rw [if_pos c] at q'; cases q'
              cases r1'
              exact .inr (.inr ⟨s, rfl, c, P3 ρ3 H3 _ .refl R3 (.str .nil)⟩)
            · rw [if_neg c] at q'; cases q'
          · have q' : (listOf v h3).map (fun xs => SV.rls (cutL xs l u)) = some z := by
              cases v <;> first | exact q | exact (ht ⟨_, rfl⟩).elim | exact (hs ⟨_, rfl⟩).elim
            cases q2 : listOf v h3 with
            | none => rw [q2] at q'; cases q'
            | some xs =>
              rw [q2] at q'; cases q'
              obtain ⟨p, us, rfl, hq, rr⟩ := list_rel R3 q2 r1'
              exact .inr (.inl ⟨p, us, rfl, hq, fun t ht => P3 _ _ _ (.fresh ht) (R3.fresh ht) (rel_rls R3 ht (cut_rel l u rr))⟩)⟩⟩⟩⟩
end

/-! ### fields -/
def getF (f : Str) : List Str → List SV → Option SV
  | n :: ns, x :: xs => if f = n then some x else getF f ns xs
  | _, _ => none
def fldF (C : Addr) (f : Str) (v : SV) (h : SHp) : Option SV := match v with
  | .obj D ns xs => if D = C then getF f ns xs else none
  | .ref n => match h[n]? with
    | some (.ins D ns xs) => if D = C then getF f ns xs else none
    | _ => none
  | _ => none
def eFld (C : Addr) (f : Str) (c : Env → M SV) : Env → M SV := fun e => M.bind (c e) fun v => fun h => M.of (fldF C f v h) h
theorem getF_rel {K : PySem.W.Frag} {H : Hp} {ρ : Rho} {f : Str} : ∀ {fv : List (Str × V)} {xs : List SV} {s : SV}, RelL K H ρ xs (fv.map (·.2)) → getF f (fv.map (·.1)) xs = some s → ∃ v, fv.lookup f = some v ∧ RelS K H ρ s v
  | [], _, _, _, e => by simp [getF] at e
  | (n, v) :: fv, xs, s, r, e => by
    cases xs with
    | nil => simp [getF] at e
    | cons x xs =>
      obtain ⟨v', us, e2, a, q⟩ := RelL.inv r
      cases e2
      simp only [List.map_cons, getF] at e
      by_cases c : f = n
      · rw [if_pos c] at e; cases e
        subst c
        exact ⟨v, by simp [List.lookup], a⟩
      · rw [if_neg c] at e
        obtain ⟨w, h1, h2⟩ := getF_rel q e
        exact ⟨w, by rw [List.lookup_cons, (beq_eq_false_iff_ne (a := f) (b := n)).mpr c]; exact h1, h2⟩
theorem ins_rel {K : PySem.W.Frag} {H : Hp} {ρ : Rho} {h : SHp} {v : SV} {x : V} {C : Addr} {ns : List Str} {xs : List SV} (R : RelH K H ρ h) (r : RelS K H ρ v x)
    (e : v = .obj C ns xs ∨ ∃ n, v = .ref n ∧ h[n]? = some (.ins C ns xs)) : ∃ a dx fv, x = .ref a ∧ H a = some (.ins C dx fv) ∧ fv.map (·.1) = ns ∧ RelL K H ρ xs (fv.map (·.2)) := by
  rcases e with rfl | ⟨n, rfl, q⟩
  · cases r with
    | obj h o e rr _ => exact ⟨_, _, _, rfl, h, e, rr⟩
  · cases r with
    | ref hi _ =>
      obtain ⟨a, ha, ob⟩ := R.ob n _ q
      rw [hi] at ha; cases ha
      obtain ⟨dx, fv, h1, h2, h3⟩ := ob
      exact ⟨_, dx, fv, rfl, h1, h2, h3⟩
theorem fldF_some {C : Addr} {f : Str} {v z : SV} {h : SHp} (e : fldF C f v h = some z) : ∃ ns xs, (v = .obj C ns xs ∨ ∃ n, v = .ref n ∧ h[n]? = some (.ins C ns xs)) ∧ getF f ns xs = some z := by
  cases v with
  | obj D ns xs =>
    have e' : (if D = C then getF f ns xs else none) = some z := e
    by_cases c : D = C
    · subst c; rw [if_pos rfl] at e'; exact ⟨ns, xs, .inl rfl, e'⟩
    · rw [if_neg c] at e'; cases e'
  | ref n =>
    have e' : (match h[n]? with | some (.ins D ns xs) => if D = C then getF f ns xs else none | _ => none) = some z := e
    cases q : h[n]? with
    | none => simp [q] at e'
    | some o =>
      cases o with
      | ins D ns xs =>
        simp only [q] at e'
        by_cases c : D = C
        · subst c; rw [if_pos rfl] at e'; exact ⟨ns, xs, .inr ⟨n, rfl, q⟩, e'⟩
        · rw [if_neg c] at e'; cases e'
      | lst _ => simp [q] at e'
      | dic _ _ _ => simp [q] at e'
  | _ => cases e
section
variable {X : Cx} {W : WX} {pos : Pos} {a : Expr} {ca : Env → M SV} {C : Addr} {f : Str}
theorem e_fld (hC : Cls X.K C) (hf : NoAttr X.K C f) (ha : SE X W a ca) (hb : attributeBase a f X.env (eval a X.env) = eval a X.env := by rfl) : SE X W (.Attribute a f pos) (eFld C f ca) :=
  ⟨imp_pe (pe_fld ha.pe hb) fun σ H Q ⟨ρ, h, env, R, RE, P⟩ => ⟨ρ, h, env, R, RE, (Post.bind (rel := relS X.K) P).mono fun x H1 ⟨ρ1, v, h1, E1, R1, r1, P1⟩ => by
    unfold M.of at P1
    cases q : fldF C f v h1 with
    | none => rw [q] at P1; exact P1.elim
    | some z =>
      rw [q] at P1
      obtain ⟨ns, xs, hv, hg⟩ := fldF_some q
      obtain ⟨a, dx, fv, rfl, hH, en, rr⟩ := ins_rel R1 r1 hv
      subst en
      obtain ⟨w, hw, rw'⟩ := getF_rel rr hg
      exact ⟨a, C, dx, fv, w, rfl, hH, hC, hf, hw, P1 ρ1 H1 w .refl R1 rw'⟩⟩⟩
def setF (f : Str) (v : SV) : List Str → List SV → List Str × List SV
  | n :: ns, x :: xs => if n = f then (n :: ns, v :: xs) else let p := setF f v ns xs; (n :: p.1, x :: p.2)
  | [], [] => ([f], [v])
  | ns, xs => (ns, xs)
/-- o.f = e for a changing object -/
def cFld (C : Addr) (f : Str) (o c : Env → M SV) : ST' := fun e h => onV (c e) e h fun v h1 => onV (o e) e h1 fun w h2 => match w with
  | .ref n => match h2[n]? with
    | some (.ins D ns xs) => if D = C ∧ ns.length < 1000 then .nx e (h2.set n (.ins D (setF f v ns xs).1 (setF f v ns xs).2)) else .stuck
    | _ => .stuck
  | _ => .stuck
theorem setF_rel {K : PySem.W.Frag} {H : Hp} {ρ : Rho} {f : Str} {v : SV} {y : V} (rv : RelS K H ρ v y) : ∀ {fv : List (Str × V)} {xs : List SV}, RelL K H ρ xs (fv.map (·.2)) →
    (putF f y fv).map (·.1) = (setF f v (fv.map (·.1)) xs).1 ∧ RelL K H ρ (setF f v (fv.map (·.1)) xs).2 ((putF f y fv).map (·.2))
  | [], xs, r => by
    cases xs with
    | nil => exact ⟨rfl, .cons rv .nil⟩
    | cons x xs => cases r.length
  | (n, w) :: fv, xs, r => by
    cases xs with
    | nil => cases r.length
    | cons x xs =>
      obtain ⟨v', us, e2, a, q⟩ := RelL.inv r
      cases e2
      obtain ⟨i1, i2⟩ := setF_rel (f := f) rv q
      simp only [List.map_cons, setF, putF]
      by_cases c : n = f
      · rw [if_pos c, if_pos c]; exact ⟨rfl, .cons rv q⟩
      · rw [if_neg c, if_neg c]; exact ⟨by simp [i1], .cons a i2⟩
theorem s_fld {o e : Expr} {co ce : Env → M SV} {pos' : Pos} (hC : Cls X.K C) (hf : NoAttr X.K C f) (ho : SE X W o co) (he : SE X W e ce) (hs : swapsWith e (some (.Attribute o f pos')) pos.line X.env = pure false := by rfl) :
    SS X W (.Assign [.Attribute o f pos'] e pos) (cFld C f co ce) :=
  ⟨imp_ps (ps_fld ho.pe he.pe hs) fun D σ H ⟨ρ, h, env, R, RE, P⟩ => ⟨ρ, h, env, R, RE, (post_onV R RE P).mono fun y H1 ⟨ρ1, v, h1, E1, R1, RE1, r1, P1⟩ => ⟨ρ1, h1, env, R1, RE1, (post_onV R1 RE1 P1).mono fun x H2 ⟨ρ2, w, h2, E2, R2, RE2, r2, P2⟩ => by
    cases w with
    | ref n =>
      simp only at P2
      cases q : h2[n]? with
      | none => rw [q] at P2; exact P2.elim
      | some ob =>
        rw [q] at P2
        cases ob with
        | ins D' ns xs =>
          simp only at P2
          by_cases c : D' = C ∧ ns.length < 1000
          · rw [if_pos c] at P2
            obtain ⟨rfl, cl⟩ := c
            obtain ⟨a, ha, dx, fv, hH, en, rr⟩ := R2.ob n _ q
            cases r2 with
            | ref hi _ =>
              rw [hi] at ha; cases ha
              subst en
              have Ew : Ext ρ2 H2 ρ2 (upd H2 a (.ins D' dx (putF f y fv))) := .write (List.mem_of_getElem? hi)
              obtain ⟨s1, s2⟩ := setF_rel (f := f) (r1.mono R1.holds E2) rr
              refine ⟨a, D', dx, fv, rfl, hH, hC, hf, by simpa using cl, P2 ρ2 _ _ Ew (R2.write hi ⟨dx, _, upd_same, s1, s2.mono R2.holds Ew⟩) (RE2.mono R2.holds Ew)⟩
          · rw [if_neg c] at P2; exact P2.elim
        | lst _ => exact P2.elim
        | dic _ _ _ => exact P2.elim
    | _ => exact P2.elim⟩⟩⟩
end

/-! ### new instances -/
def eMake (fz : Bool) (C : Addr) (D : List SV → M SV) (c : Env → M (List SV)) : Env → M SV := fun e => M.bind (c e) fun vs => fun h => match D (.ref h.length :: vs) (h ++ [.ins C [] []]) with
  | .ok .non h' => gc fz h (.ref h.length) h'
  | .ok _ _ => .stuck
  | .err c fs h' => .err c fs h'
  | .stuck => .stuck
theorem upd_comm {H : Hp} {a b : Addr} {o u : HO} (h : a ≠ b) : upd (upd H a o) b u = upd (upd H b u) a o := by
  funext c
  by_cases h1 : c = a
  · subst h1; rw [upd_ne h, upd_same, upd_same]
  · by_cases h2 : c = b
    · subst h2; rw [upd_same, upd_ne h1, upd_same]
    · rw [upd_ne h2, upd_ne h1, upd_ne h1, upd_ne h2]
end Sim
namespace L2
open PySem PySem.Spec PyProof.Rows
section
variable {X : Cx} {CX : CXT} {k : Nat} {f C : Addr} {fd : FuncData} {ps : List Str} {sp : Sp} {dvs : List V} {ds : List Value} {E : St → XK} {x : Str} {p pos : Pos} {e : Expr} {es : List Expr} {t : TA}
def tMakeSD (C : Addr) (sp : Sp) (dvs : List V) (E : St → XK) (t : TA) : TE := fun σ H Q => t σ H fun vs H1 => ∀ x dx, H1 x = none → H1 dx = none → dx ≠ x →
  sp (.ref x :: (vs ++ dvs)) (upd (upd H1 dx (.own x)) x (.ins C dx [])) (fun v H2 => v = .non ∧ Q (.ref x) H2) (E σ)
theorem run_makeSD {pins : List (Addr × Obj)} {σ : St} {H : Hp} {s : Shared} {Q : VK} {us : List Value} {vs : List V} (M : Mk X.K C f) (F : FnOk X.prog X.w X.K X.mg X.base CX k f fd ps sp) (hr : Room (k + 1) X.A) (hb : Binds X.K fd ps ds) (hd : Vals dvs ds)
    (hx : PassesAt CX X σ (E σ)) (I : Inv X pins σ H s) (r : Vals vs us)
    (h : ∀ x dx, H x = none → H dx = none → dx ≠ x → sp (.ref x :: (vs ++ dvs)) (upd (upd H dx (.own x)) x (.ins C dx [])) (fun v H2 => v = .non ∧ Q (.ref x) H2) (E σ)) :
    wpAny (model X.prog X.w) X.A (call (.ref C) us) (EP X pins σ Q) X.xe s := by
  have hq := h (s.heap.objs.size + 1) s.heap.objs.size (I.hok.fresh (Nat.le_succ _)) (I.hok.fresh (Nat.le_refl _)) (Nat.ne_of_lt (Nat.lt_succ_self _))
  have I2 := Inv.made (C := C) I
  have r2 : Vals (V.ref (s.heap.objs.size + 1) :: (vs ++ dvs)) (Value.ref (s.heap.objs.size + 1) :: (us ++ ds)) := .cons rfl (r.append hd)
  have hl : (Value.ref (s.heap.objs.size + 1) :: us ++ ds).length = ps.length := by
    have e := r2.length
    rw [F.len _ _ _ _ hq] at e
    exact e.symm
  refine wpAny_call (make_map (f := f) I.kIn M.makes M.init (beq_iff_eq.mp M.fn) (codeAny_mono (F.run _ X.stack _ _ ⟨Value.ref (s.heap.objs.size + 1) :: us, []⟩ (Value.ref (s.heap.objs.size + 1) :: (us ++ ds)) _ _ (E σ) (hr.make C us [])
    (I2.env0.make C us []) (hb _ (Value.ref (s.heap.objs.size + 1) :: us) I2.kIn hl) r2 hq) fun r s' hq' => ?_))
  cases r with
  | error e => exact hx pins _ _ e s' I2 hq'
  | ok fl =>
    cases fl with
    | ret u =>
      obtain ⟨v, H', I3, rv, ev, q3⟩ := I2.after hq'
      subst ev
      exact ⟨rv, ⟨V.ref (s.heap.objs.size + 1), H', I3, rfl, q3⟩⟩
    | next => exact False.elim hq'
    | brk => exact False.elim hq'
    | cont => exact False.elim hq'
theorem pe_makeSD (M : Mk X.K C f) (F : FnOk X.prog X.w X.K X.mg X.base CX k f fd ps sp) (hr : Room (k + 1) X.A) (hg : Gl X x) (hm : X.mg x = some (.ref C)) (hb : Binds X.K fd ps ds) (hd : Vals dvs ds) (hx : ∀ σ, PassesAt CX X σ (E σ))
    (ha : PA X (e :: es) t) (hdb : (x == ("__debug__" : Str)) = false := by decide) (he : starEach (e :: es) X.env = (false, eval e X.env) :: starEach es X.env := by rfl) (hpl : (backTo pos (starEach es X.env)).any (·.1) = false := by rfl) :
    PE X (.Call (.Name x p) (e :: es) [] pos) (tMakeSD C sp dvs E t) := by
  refine ⟨fun pins s σ H Q I h => ?_⟩
  refine wpAny_Call_Name_kw (ld_glob I hg hm ?_ hdb)
  refine PySem.W.callWith_K (h₀ := X.base) I.ok.mod.kin M.kp (thn (ha.run pos pins s σ H _ I h) fun us s1 ⟨vs, H1, I1, r, q⟩ => ⟨I1.kIn, ?_⟩) he hpl
  exact run_makeSD M F hr hb hd (hx σ) I1 r q
end
end L2
namespace Sim
open PySem L2
section
variable {X : Cx} {W : WX} {k : Nat} {f C : Addr} {fd : FuncData} {ps : List Str} {D : List SV → M SV} {x : Str} {p pos : Pos} {e : Expr} {es : List Expr} {c : Env → M (List SV)}
theorem e_make (fz : Bool) (tk : Takes X W) (Mk' : Mk X.K C f) (F : FnOk X.prog X.w X.K X.mg X.base (L2.CX X.prog X.w) k f fd ps (spS X.K ps.length D)) (hr : Room (k + 1) X.A) (hm : X.mg x = some (.ref C)) (hb : Binds X.K fd ps [])
    {n : Nat} (hn : ps.length = n + 1) (ha : SAn X W (e :: es) n c) (hg : Gl X x := by rfl) (hdb : (x == ("__debug__" : Str)) = false := by decide) (he : starEach (e :: es) X.env = (false, eval e X.env) :: starEach es X.env := by rfl) (hpl : (backTo pos (starEach es X.env)).any (·.1) = false := by rfl) :
    SE X W (.Call (.Name x p) (e :: es) [] pos) (eMake fz C D c) :=
  ⟨imp_pe (L2.pe_makeSD (E := WE W) Mk' F hr hg hm hb .nil (fun σ => passAt tk σ) ha.sa.pa hdb he hpl) fun σ H Q ⟨ρ, h, env, R, RE, P⟩ => by
    refine ⟨ρ, h, env, R, RE, ?_⟩
    have P2 := Post.bind (rel := relL X.K) P
    cases q : c env h with
    | err cc fs h1 => rw [q] at P2; exact P2
    | stuck => rw [q] at P2; exact P2
    | ok vs h1 =>
      intro ρ1 H1 xs E1 R1 r1
      intro y dy hy hdy hne
      rw [List.append_nil]
      have P0 : Post X.K W (relS X.K) σ ρ1 H1 (match D (.ref h1.length :: vs) (h1 ++ [.ins C [] []]) with
        | .ok .non h' => gc fz h1 (.ref h1.length) h'
        | .ok _ _ => .stuck
        | .err c fs h' => .err c fs h'
        | .stuck => .stuck) Q := by
        unfold eMake M.bind at P; rw [q] at P; exact Post.shift P E1
      -- the new dict, then the new instance
      have R2 : RelH X.K (upd H1 dy (.own y)) ρ1 h1 := R1.fresh hdy
      have E2 : Ext ρ1 H1 ρ1 (upd H1 dy (.own y)) := .fresh hdy
      have hy2 : upd H1 dy (.own y) y = none := by rw [upd_ne hne.symm]; exact hy
      have R3 : RelH X.K (upd (upd H1 dy (.own y)) y (.ins C dy [])) (ρ1.add y) (h1 ++ [.ins C [] []]) := R2.alloc hy2 ⟨dy, [], upd_same, rfl, .nil⟩
      have E3 : Ext ρ1 H1 (ρ1.add y) (upd (upd H1 dy (.own y)) y (.ins C dy [])) := E2.tr (.alloc hy2)
      have rr : RelL X.K (upd (upd H1 dy (.own y)) y (.ins C dy [])) (ρ1.add y) (.ref h1.length :: vs) (.ref y :: xs) :=
        .ref (by rw [← R1.len]; simp [Rho.add]) (r1.mono R1.holds E3)
      refine sp_of (D := D) (n := ps.length) R3 rr (by simp [hn, ← r1.length, ha.len _ _ _ _ q]) ?_
      cases qd : D (.ref h1.length :: vs) (h1 ++ [.ins C [] []]) with
      | err cc fs h2 => rw [qd] at P0; exact fun ρ' H' cv d E' R' z => P0 ρ' H' cv d (E3.tr E') R' z
      | stuck => rw [qd] at P0; exact P0
      | ok v h2 =>
        rw [qd] at P0
        intro ρ' H' z E' R' rz
        cases v with
        | non =>
          cases rz
          refine ⟨rfl, ?_⟩
          have hre : RelS X.K H' ρ' (.ref h1.length) (.ref y) := .ref (prefix_get E'.pre (by show (ρ1.l ++ [y])[h1.length]? = some y; rw [← R1.len]; simp)) .nil
          exact gc_post R1 P0 ρ' H' (.ref y) (E3.tr E') R' hre
        | _ => exact P0.elim⟩
end

/-! ### methods of lists -/
def cApp (o c : Env → M SV) : ST' := fun e h => onV (o e) e h fun w h1 => match w with
  | .ref n => match h1[n]? with
    | some (.lst _) => onV (c e) e h1 fun v h2 => match h2[n]? with
      | some (.lst xs) => if xs.length < sizeLine then .nx e (h2.set n (.lst (xs ++ [v]))) else .stuck
      | _ => .stuck
    | _ => .stuck
  | _ => .stuck
section
variable {X : Cx} {W : WX} {pos : Pos} {o e : Expr} {co ce : Env → M SV} {apos cpos : Pos}
theorem s_app (ho : SE X W o co) (he : SE X W e ce) (hbase : attributeBase o "append" X.env (eval o X.env) = eval o X.env := by rfl)
    (hfew : ((backTo cpos (starEach [e] X.env)).all (fun x => !x.1) && (backToKw cpos (keywordEach [] X.env)).all (fun x => x.1.isSome)
      && decide ([e].length + ([] : List Keyword).length + (if ([] : List Keyword).isEmpty then 0 else 1) < 30)) = true := by rfl)
    (hline : (apos.endLine == cpos.line) = true := by rfl) (hs : starEach [e] X.env = (false, eval e X.env) :: starEach [] X.env := by rfl) (hplain : (backTo cpos (starEach [] X.env)).any (·.1) = false := by rfl)
    (hsw : swapsWith (.Call (.Attribute o "append" apos) [e] [] cpos) none pos.line X.env = pure false := by rfl) : SS X W (.Expr (.Call (.Attribute o "append" apos) [e] [] cpos) pos) (cApp co ce) :=
  ⟨imp_ps (ps_expr (pe_bm PySem.F.plainAttrs_list PySem.F.slot_list_append PySem.F.type_list_append mt_append ho.pe (pa_cons he.pe pa_nil hs) hbase hfew hline hs hplain) hsw) fun D σ H ⟨ρ, h, env, R, RE, P⟩ =>
    ⟨ρ, h, env, R, RE, (post_onV R RE P).mono fun x H1 ⟨ρ1, w, h1, E1, R1, RE1, r1, P1⟩ => by
      cases w with
      | ref n =>
        simp only at P1
        cases q1 : h1[n]? with
        | none => rw [q1] at P1; exact P1.elim
        | some ob1 =>
          rw [q1] at P1
          cases ob1 with
          | lst ys =>
            have P1' := post_onV R1 RE1 P1
            obtain ⟨a, hi, us0, hu0, _⟩ := R1.ob n _ q1
            cases r1 with
            | ref hi' _ =>
              rw [hi] at hi'; cases hi'
              refine ⟨.inl ⟨rfl, us0, .of hu0⟩, ρ1, h1, env, R1, RE1, P1'.mono fun y H2 ⟨ρ2, v, h2, E2, R2, RE2, r2, P2⟩ => ?_⟩
              cases q2 : h2[n]? with
              | none => simp only [q2] at P2; exact P2.elim
              | some ob =>
                cases ob with
                | lst xs =>
                  simp only [q2] at P2
                  obtain ⟨a2, ha2, us, hu, ru⟩ := R2.ob n _ q2
                  have hi2 := prefix_get E2.pre hi
                  rw [hi2] at ha2; cases ha2
                  by_cases c : xs.length < sizeLine
                  · rw [if_pos c] at P2
                    have Ew : Ext ρ2 H2 ρ2 (upd H2 a (.lst (us ++ [y]))) := .write (List.mem_of_getElem? hi2)
                    exact ⟨a, us, y, rfl, rfl, hu, by rw [← ru.length]; exact c, P2 ρ2 _ _ Ew (R2.write hi2 ⟨_, upd_same, (ru.snoc r2).mono R2.holds Ew⟩) (RE2.mono R2.holds Ew)⟩
                  · rw [if_neg c] at P2; exact P2.elim
                | dic _ _ _ => simp only [q2] at P2; exact P2.elim
                | ins _ _ _ => simp only [q2] at P2; exact P2.elim
          | dic _ _ _ => exact P1.elim
          | ins _ _ _ => exact P1.elim
      | _ => exact P1.elim⟩⟩
end
end Sim

set_option Elab.async false
set_option linter.all false
set_option maxRecDepth 100000
set_option maxHeartbeats 4000000
namespace Sim
open PySem L2

/-! ### while: at most so many turns -/
def whL (t : Env → M Bool) (b : ST') : Nat → ST'
  | 0, _, _ => .stuck
  | n + 1, e, h => onB (t e) e h fun k h1 => if k = true then match b e h1 with
    | .nx e2 h2 => whL t b n e2 h2
    | .ct e2 h2 => whL t b n e2 h2
    | .bk e2 h2 => .nx e2 h2
    | .rt v h2 => .rt v h2
    | .err c fs e2 h2 => .err c fs e2 h2
    | .stuck => .stuck
    else .nx e h1
def cWh (n : Nat) (t : Env → M Bool) (b : ST') : ST' := whL t b n
section
variable {X : Cx} {W : WX} {pos : Pos} {t : Expr} {body : List Stmt} {tc : Env → M Bool} {b : ST'}
theorem s_while (n : Nat) (hp : PassesOwn (model X.prog X.w) X.A X.env X.xe) (ht : ST X W t tc) (hb : SSs X W body b) : SS X W (.While t body [] pos) (cWh n tc b) := by
  refine ⟨imp_ps (ps_while hp ht.pt hb.pss) fun D σ H ⟨ρ, h, env, R, RE, P⟩ => ?_⟩
  refine ⟨fun m σ H => ∃ ρ h env, RelH X.K H ρ h ∧ RelE X.K H ρ env σ ∧ PostR X.K W D ρ H (whL tc b m env h), ⟨n, ρ, h, env, R, RE, P⟩, ?_⟩
  rintro m σ H ⟨ρ, h, env, R, RE, P⟩
  cases m with
  | zero => exact P.elim
  | succ m =>
    unfold whL at P
    refine ⟨ρ, h, env, R, RE, (post_onB R RE P).mono fun k H1 ⟨ρ1, h1, E1, R1, RE1, P1⟩ => ?_⟩
    cases k with
    | false => exact iteF (P1 ρ1 H1 σ .refl R1 RE1)
    | true =>
      refine iteT ⟨fun σ H => ∃ ρ h env, RelH X.K H ρ h ∧ RelE X.K H ρ env σ ∧ PostR X.K W D ρ H (whL tc b m env h), fun σ' H' q => ⟨m, Nat.lt_succ_self _, q⟩, ρ1, h1, env, R1, RE1, ?_⟩
      cases eb : b env h1 with
      | nx e2 h2 => simp only [eb, if_true] at P1; exact fun ρ' H' σ' E' R' RE' => ⟨ρ', h2, e2, R', RE', P1.shift E'⟩
      | ct e2 h2 => simp only [eb, if_true] at P1; exact fun ρ' H' σ' E' R' RE' => ⟨ρ', h2, e2, R', RE', P1.shift E'⟩
      | bk e2 h2 => simp only [eb, if_true] at P1; exact P1
      | rt v h2 => simp only [eb, if_true] at P1; exact P1
      | err cc fs e2 h2 => simp only [eb, if_true] at P1; exact P1
      | stuck => simp only [eb, if_true] at P1; exact P1.elim
end

/-! ### dicts: keys are ints and texts, or tuples of such -/
def isK : SV → Bool
  | .int _ => true
  | .str _ => true
  | _ => false
def isKT : SV → Bool
  | .tup xs => xs.all isK
  | _ => false
def findD : List SV → List SV → SV → Option SV
  | k :: ks, x :: xs, q => if k = q then some x else findD ks xs q
  | _, _, _ => none
def putX : List SV → List SV → SV → SV → List SV
  | k :: ks, x :: xs, q, v => (if k = q then v else x) :: putX ks xs q v
  | _, _, _, _ => []
def putD (ks xs : List SV) (q v : SV) : List SV × List SV := if ks.any (fun k => decide (k = q)) = true then (ks, putX ks xs q v) else (ks ++ [q], xs ++ [v])
def dicOf (v : SV) (h : SHp) : Option (Bool × List SV × List SV) := match v with
  | .rdc t ks xs => some (t, ks, xs)
  | .ref n => match h[n]? with
    | some (.dic t ks xs) => some (t, ks, xs)
    | _ => none
  | _ => none
/-- a key that fits -/
def keyOk (t : Bool) (q : SV) : Bool := if t then isKT q else isK q
theorem keyS_inj {a b : Key} (h : keyS a = keyS b) : a = b := by
  cases a <;> cases b <;> simp [keyS] at h <;> (subst h; rfl)
theorem keysS_inj : ∀ {a b : List Key}, a.map keyS = b.map keyS → a = b
  | [], [], _ => rfl
  | _ :: _, [], h => by simp at h
  | [], _ :: _, h => by simp at h
  | x :: a, y :: b, h => by
    simp only [List.map_cons, List.cons.injEq] at h
    rw [keyS_inj h.1, keysS_inj h.2]
section
variable {K : PySem.W.Frag} {H : Hp} {ρ : Rho}
theorem isK_rel {q : SV} {y : V} (e : isK q = true) (r : RelS K H ρ q y) : ∃ k : Key, y = kV k ∧ q = keyS k := by
  cases r <;> simp [isK] at e
  · exact ⟨.inl _, rfl, rfl⟩
  · exact ⟨.inr _, rfl, rfl⟩
theorem isKs_rel : ∀ {qs : List SV} {ys : List V}, qs.all isK = true → RelL K H ρ qs ys → ∃ ks : List Key, ys = ks.map kV ∧ qs = ks.map keyS
  | [], _, _, r => by rw [r.nil_inv]; exact ⟨[], rfl, rfl⟩
  | q :: qs, _, e, r => by
    obtain ⟨y, ys, rfl, a, b⟩ := r.inv
    simp at e
    obtain ⟨k, rfl, rfl⟩ := isK_rel e.1 a
    obtain ⟨ks, rfl, rfl⟩ := isKs_rel (by simpa using e.2) b
    exact ⟨k :: ks, rfl, rfl⟩
theorem isKT_rel {q : SV} {y : V} (e : isKT q = true) (r : RelS K H ρ q y) : ∃ (ks : List Key) (b : Addr), y = .ref b ∧ H b = some (.tup (ks.map kV)) ∧ q = .tup (ks.map keyS) := by
  cases q with
  | tup xs =>
    obtain ⟨a, us, rfl, hq, rr⟩ := tup_rel1 r
    obtain ⟨ks, rfl, rfl⟩ := isKs_rel (by simpa [isKT] using e) rr
    exact ⟨ks, a, rfl, hq, rfl⟩
  | _ => simp [isKT] at e
theorem findD_rel {κ : Type} [DecidableEq κ] {f : κ → SV} (inj : ∀ a b, f a = f b → a = b) : ∀ {kvs : List (κ × V)} {xs : List SV} {k : κ}, RelL K H ρ xs (kvs.map (·.2)) →
    match findD (kvs.map (fun p => f p.1)) xs (f k) with
    | some s => ∃ v, valV kvs k = some v ∧ RelS K H ρ s v
    | none => valV kvs k = none
  | [], xs, k, r => by simp [findD, valV_nil]
  | (j, w) :: kvs, [], k, r => by cases r.length
  | (j, w) :: kvs, x :: xs, k, r => by
    obtain ⟨v', us, e2, a, q⟩ := RelL.inv r
    cases e2
    simp only [List.map_cons, findD]
    by_cases c : j = k
    · subst c; rw [if_pos rfl]; exact ⟨w, valV_pos rfl, a⟩
    · rw [if_neg (fun z => c (inj _ _ z))]
      have ih := findD_rel inj (k := k) q
      have e3 : valV ((j, w) :: kvs) k = valV kvs k := by simp [valV, List.find?_cons, c]
      rw [e3]; exact ih
theorem putX_rel {κ : Type} [DecidableEq κ] {f : κ → SV} (inj : ∀ a b, f a = f b → a = b) {s : SV} {y : V} {k : κ} (rv : RelS K H ρ s y) : ∀ {kvs : List (κ × V)} {xs : List SV}, RelL K H ρ xs (kvs.map (·.2)) →
    RelL K H ρ (putX (kvs.map (fun p => f p.1)) xs (f k) s) ((kvs.map (fun kv => if kv.1 = k then (kv.1, y) else kv)).map (·.2))
  | [], xs, r => by cases xs with
    | nil => exact .nil
    | cons _ _ => cases r.length
  | (j, w) :: kvs, [], r => by cases r.length
  | (j, w) :: kvs, x :: xs, r => by
    obtain ⟨v', us, e2, a, q⟩ := RelL.inv r
    cases e2
    simp only [List.map_cons, putX]
    have ih := putX_rel inj (k := k) rv q
    by_cases c : j = k
    · subst c; rw [if_pos rfl, if_pos rfl]; exact .cons rv ih
    · rw [if_neg (fun z => c (inj _ _ z)), if_neg c]; exact .cons a ih
theorem any_rel {κ : Type} [DecidableEq κ] {f : κ → SV} (inj : ∀ a b, f a = f b → a = b) {k : κ} : ∀ (kvs : List (κ × V)), (kvs.map (fun p => f p.1)).any (fun j => decide (j = f k)) = kvs.any (fun kv => decide (kv.1 = k))
  | [] => rfl
  | (j, w) :: kvs => by
    simp only [List.map_cons, List.any_cons]
    rw [any_rel inj kvs]
    congr 1
    by_cases c : j = k
    · subst c; simp
    · simp [c]; exact fun z => c (inj _ _ z)
theorem putD_rel {κ : Type} [DecidableEq κ] {f : κ → SV} (inj : ∀ a b, f a = f b → a = b) {s : SV} {y : V} {k : κ} (rv : RelS K H ρ s y) {kvs : List (κ × V)} {xs : List SV} (r : RelL K H ρ xs (kvs.map (·.2))) :
    (putK kvs k y).map (fun p => f p.1) = (putD (kvs.map (fun p => f p.1)) xs (f k) s).1 ∧ RelL K H ρ (putD (kvs.map (fun p => f p.1)) xs (f k) s).2 ((putK kvs k y).map (·.2)) := by
  unfold putD putK
  rw [any_rel inj]
  by_cases c : (kvs.any fun kv => decide (kv.1 = k)) = true
  · rw [if_pos c, if_pos c]
    refine ⟨?_, putX_rel inj rv r⟩
    rw [List.map_map]
    refine List.map_congr_left fun p _ => ?_
    simp only [Function.comp]
    split <;> rfl
  · rw [if_neg c, if_neg c]
    refine ⟨by simp, ?_⟩
    rw [List.map_append]
    exact r.snoc rv
theorem keys_all (kvs : List (Key × V)) : (kvs.map (fun p => keyS p.1)).all isK = true := by
  simp only [List.all_map, List.all_eq_true]
  intro p _
  show isK (keyS p.1) = true
  cases p.1 <;> rfl
theorem kt_nK (ks : List Key) : isK (SV.tup (ks.map keyS)) = false := rfl
theorem isKT_of (ks : List Key) : isKT (SV.tup (ks.map keyS)) = true := by
  simp only [isKT, List.all_map, List.all_eq_true]
  intro p _
  show isK (keyS p) = true
  cases p <;> rfl
/-- what stands behind a dict's value -/
theorem dic_rel {h : SHp} {v : SV} {x : V} {t : Bool} {ks xs : List SV} (R : RelH K H ρ h) (e : dicOf v h = some (t, ks, xs)) (r : RelS K H ρ v x) :
    ∃ a, x = .ref a ∧ ((∃ kvs : List (Key × V), H a = some (.dK kvs) ∧ (t = false ∧ kvs.map (fun p => keyS p.1) = ks) ∧ RelL K H ρ xs (kvs.map (·.2))) ∨
      (∃ kvs : List (List Key × V), H a = some (.dT kvs) ∧ (t = true ∧ kvs.map (fun p => SV.tup (p.1.map keyS)) = ks) ∧ RelL K H ρ xs (kvs.map (·.2)))) := by
  cases v with
  | rdc t' ks' xs' =>
    cases e
    cases r with
    | rdK h o e rr _ => exact ⟨_, rfl, .inl ⟨_, h, ⟨rfl, e⟩, rr⟩⟩
    | rdT h o e rr _ => exact ⟨_, rfl, .inr ⟨_, h, ⟨rfl, e⟩, rr⟩⟩
  | ref n =>
    have e' : (match h[n]? with | some (SO.dic t ks xs) => some (t, ks, xs) | _ => none) = some (t, ks, xs) := e
    cases q : h[n]? with
    | none => simp [q] at e'
    | some o =>
      obtain ⟨a, ha, ob⟩ := R.ob n o q
      cases r with
      | ref hi _ =>
        rw [hi] at ha; cases ha
        cases o with
        | dic t' ks' xs' => simp [q] at e'; obtain ⟨rfl, rfl, rfl⟩ := e'; exact ⟨_, rfl, ob⟩
        | lst _ => simp [q] at e'
        | ins _ _ _ => simp [q] at e'
  | _ => cases e
theorem tupk_inj : ∀ a b : List Key, SV.tup (a.map keyS) = SV.tup (b.map keyS) → a = b := fun a b h => keysS_inj (by injection h)
def FindR (K : PySem.W.Frag) (H : Hp) (ρ : Rho) (o : Option V) : Option SV → Prop
  | some s => ∃ w, o = some w ∧ RelS K H ρ s w
  | none => o = none
/-- a look-up -/
theorem dget_rel {h : SHp} {v q : SV} {x y : V} {t : Bool} {ks xs : List SV} (R : RelH K H ρ h) (e : dicOf v h = some (t, ks, xs)) (r : RelS K H ρ v x) (rq : RelS K H ρ q y) (ok : keyOk t q = true) :
    ∃ a o, x = .ref a ∧ DGet H a y o ∧ FindR K H ρ o (findD ks xs q) := by
  obtain ⟨a, rfl, hd⟩ := dic_rel R e r
  rcases hd with ⟨kvs, hH, ⟨rfl, rfl⟩, rr⟩ | ⟨kvs, hH, ⟨rfl, rfl⟩, rr⟩
  · obtain ⟨k, rfl, rfl⟩ := isK_rel ok rq
    have z := findD_rel (fun a b => keyS_inj) (k := k) rr
    refine ⟨a, _, rfl, DGet.k (k := k) hH, ?_⟩
    split at z
    · rename_i s qs; rw [qs]; exact z
    · rename_i qs; rw [qs]; exact z
  · obtain ⟨k, b, rfl, hb, rfl⟩ := isKT_rel ok rq
    have z := findD_rel (f := fun k : List Key => SV.tup (k.map keyS)) tupk_inj (k := k) rr
    refine ⟨a, _, rfl, DGet.t (k := k) hH hb, ?_⟩
    split at z
    · rename_i s qs; rw [qs]; exact z
    · rename_i qs; rw [qs]; exact z
end
def inF (neg : Bool) (q v : SV) (h : SHp) : Option SV := match dicOf v h with
  | some (t, ks, xs) => if keyOk t q = true then some (.bl (if neg then !(findD ks xs q).isSome else (findD ks xs q).isSome)) else none
  | none => none
def dgF (v q : SV) (h : SHp) : Option SV := match dicOf v h with
  | some (t, ks, xs) => if keyOk t q = true then findD ks xs q else none
  | none => none
theorem findR_some {K : PySem.W.Frag} {H : Hp} {ρ : Rho} {o : Option V} {r : Option SV} (h : FindR K H ρ o r) : o.isSome = r.isSome := by
  cases r with
  | none => rw [show o = none from h]; rfl
  | some s => obtain ⟨w, rfl, _⟩ := h; rfl
section
variable {X : Cx} {W : WX} {pos : Pos} {i o : Expr} {ci co : Env → M SV}
theorem post_din (neg : Bool) {σ : St} {H : Hp} {Q : VK} (h : tS X.K W (eOp (inF neg) ci co) σ H Q) :
    (tS X.K W ci) σ H fun y H1 => (tS X.K W co) σ H1 fun x H2 => ∃ a ov, x = .ref a ∧ DGet H2 a y ov ∧ Q (.bl (if neg then !ov.isSome else ov.isSome)) H2 := by
  obtain ⟨ρ, h, env, R, RE, P⟩ := h
  refine ⟨ρ, h, env, R, RE, (Post.bind (rel := relS X.K) P).mono fun y H1 ⟨ρ1, q, h1, E1, R1, r1, P1⟩ => ⟨ρ1, h1, env, R1, RE.mono R.holds E1, (Post.bind (rel := relS X.K) P1).mono fun x H2 ⟨ρ2, v, h2, E2, R2, r2, P2⟩ => ?_⟩⟩
  unfold M.of inF at P2
  cases e : dicOf v h2 with
  | none => rw [e] at P2; exact P2.elim
  | some p =>
    obtain ⟨t, ks, xs⟩ := p
    rw [e] at P2
    simp only at P2
    by_cases c : keyOk t q = true
    · rw [if_pos c] at P2
      obtain ⟨a, ov, rfl, g, fr⟩ := dget_rel R2 e r2 (r1.mono R1.holds E2) c
      refine ⟨a, ov, rfl, g, ?_⟩
      rw [findR_some fr]
      exact P2 ρ2 H2 _ .refl R2 (.bl .nil)
    · rw [if_neg c] at P2; exact P2.elim
theorem e_din (hu : X.A.units + 1 < cLine) (hi : SE X W i ci) (ho : SE X W o co) (hm : behindInMarks .In o = false := by rfl) : SE X W (.Compare i [.In] [o] pos) (eOp (inF false) ci co) :=
  ⟨imp_pe (pe_cmp (pc_din hu hi.pe ho.pe) hm) fun σ H Q h => post_din false h⟩
theorem e_dnotin (hu : X.A.units + 1 < cLine) (hi : SE X W i ci) (ho : SE X W o co) (hm : behindInMarks .NotIn o = false := by rfl) : SE X W (.Compare i [.NotIn] [o] pos) (eOp (inF true) ci co) :=
  ⟨imp_pe (pe_cmp (pc_dnotin hu hi.pe ho.pe) hm) fun σ H Q h => post_din true h⟩
theorem t_din (hu : X.A.units + 1 < cLine) (hi : SE X W i ci) (ho : SE X W o co) (hm : behindInMarks .In o = false := by rfl) : ST X W (.Compare i [.In] [o] pos) (eTst (eOp (inF false) ci co)) :=
  ⟨imp_pt (pt_cmp (pc_din hu hi.pe ho.pe) hm) fun σ H Q h => by obtain ⟨ρ, h, env, R, RE, P⟩ := post_tst h; exact post_din false ⟨ρ, h, env, R, RE, P⟩⟩
theorem t_dnotin (hu : X.A.units + 1 < cLine) (hi : SE X W i ci) (ho : SE X W o co) (hm : behindInMarks .NotIn o = false := by rfl) : ST X W (.Compare i [.NotIn] [o] pos) (eTst (eOp (inF true) ci co)) :=
  ⟨imp_pt (pt_cmp (pc_dnotin hu hi.pe ho.pe) hm) fun σ H Q h => by obtain ⟨ρ, h, env, R, RE, P⟩ := post_tst h; exact post_din true ⟨ρ, h, env, R, RE, P⟩⟩
theorem e_dget (hu : X.A.units + 1 < cLine) (ho : SE X W o co) (hi : SE X W i ci) (hs : NoSl i := by intro _ _; rfl) : SE X W (.Subscript o i pos) (eOp dgF co ci) :=
  ⟨imp_pe (pe_dget hu ho.pe hi.pe hs) fun σ H Q ⟨ρ, h, env, R, RE, P⟩ => ⟨ρ, h, env, R, RE, (Post.bind (rel := relS X.K) P).mono fun x H1 ⟨ρ1, v, h1, E1, R1, r1, P1⟩ => ⟨ρ1, h1, env, R1, RE.mono R.holds E1, (Post.bind (rel := relS X.K) P1).mono fun y H2 ⟨ρ2, q, h2, E2, R2, r2, P2⟩ => by
    unfold M.of dgF at P2
    cases e : dicOf v h2 with
    | none => rw [e] at P2; exact P2.elim
    | some p =>
      obtain ⟨t, ks, xs⟩ := p
      rw [e] at P2
      simp only at P2
      by_cases c : keyOk t q = true
      · rw [if_pos c] at P2
        obtain ⟨a, ov, rfl, g, fr⟩ := dget_rel R2 e (r1.mono R1.holds E2) r2 c
        cases qf : findD ks xs q with
        | none => rw [qf] at P2; exact P2.elim
        | some s =>
          rw [qf] at P2 fr
          obtain ⟨w, rfl, rw'⟩ := fr
          exact ⟨a, w, rfl, g, P2 ρ2 H2 w .refl R2 rw'⟩
      · rw [if_neg c] at P2; exact P2.elim⟩⟩⟩
/-- d[k] = v -/
def cPut (o i c : Env → M SV) : ST' := fun e h => onV (c e) e h fun v h1 => onV (o e) e h1 fun w h2 => onV (i e) e h2 fun q h3 => match w with
  | .ref n => match h3[n]? with
    | some (.dic t ks xs) => if keyOk t q = true ∧ ks.length < sizeLine then .nx e (h3.set n (.dic t (putD ks xs q v).1 (putD ks xs q v).2)) else .stuck
    | _ => .stuck
  | _ => .stuck
theorem s_put {val : Expr} {cv : Env → M SV} {pos' : Pos} (hu : X.A.units + 1 < cLine) (ho : SE X W o co) (hi : SE X W i ci) (hv : SE X W val cv) (hs : swapsWith val (some (.Subscript o i pos')) pos.line X.env = pure false := by rfl) :
    SS X W (.Assign [.Subscript o i pos'] val pos) (cPut co ci cv) :=
  ⟨imp_ps (ps_dput hu ho.pe hi.pe hv.pe hs) fun D σ H ⟨ρ, h, env, R, RE, P⟩ => ⟨ρ, h, env, R, RE, (post_onV R RE P).mono fun v H1 ⟨ρ1, s, h1, E1, R1, RE1, r1, P1⟩ => ⟨ρ1, h1, env, R1, RE1, (post_onV R1 RE1 P1).mono fun x H2 ⟨ρ2, w, h2, E2, R2, RE2, r2, P2⟩ =>
    ⟨ρ2, h2, env, R2, RE2, (post_onV R2 RE2 P2).mono fun y H3 ⟨ρ3, q, h3, E3, R3, RE3, r3, P3⟩ => by
      have rs := (r1.mono R1.holds E2).mono R2.holds E3
      have rw' := r2.mono R2.holds E3
      cases w with
      | ref n =>
        simp only at P3
        cases q3 : h3[n]? with
        | none => rw [q3] at P3; exact P3.elim
        | some ob =>
          rw [q3] at P3
          cases ob with
          | dic t ks xs =>
            simp only at P3
            by_cases c : keyOk t q = true ∧ ks.length < sizeLine
            · rw [if_pos c] at P3
              obtain ⟨ck, cl⟩ := c
              obtain ⟨a, ha, ob⟩ := R3.ob n _ q3
              cases rw' with
              | ref hi' _ =>
                rw [hi'] at ha; cases ha
                rcases ob with ⟨kvs, hH, ⟨rfl, rfl⟩, rr⟩ | ⟨kvs, hH, ⟨rfl, rfl⟩, rr⟩
                · obtain ⟨k, rfl, rfl⟩ := isK_rel ck r3
                  have Ew : Ext ρ3 H3 ρ3 (upd H3 a (.dK (putK kvs k v))) := .write (List.mem_of_getElem? hi')
                  obtain ⟨p1, p2⟩ := putD_rel (fun a b => keyS_inj) (k := k) rs rr
                  exact ⟨a, _, rfl, DPut.k hH (by simpa using cl), P3 ρ3 _ _ Ew (R3.write hi' (.inl ⟨_, upd_same, ⟨rfl, p1⟩, p2.mono R3.holds Ew⟩)) (RE3.mono R3.holds Ew)⟩
                · obtain ⟨k, b, rfl, hb, rfl⟩ := isKT_rel ck r3
                  have Ew : Ext ρ3 H3 ρ3 (upd H3 a (.dT (putK kvs k v))) := .write (List.mem_of_getElem? hi')
                  obtain ⟨p1, p2⟩ := putD_rel (f := fun k : List Key => SV.tup (k.map keyS)) tupk_inj (k := k) rs rr
                  exact ⟨a, _, rfl, DPut.t hH hb (by simpa using cl), P3 ρ3 _ _ Ew (R3.write hi' (.inr ⟨_, upd_same, ⟨rfl, p1⟩, p2.mono R3.holds Ew⟩)) (RE3.mono R3.holds Ew)⟩
            · rw [if_neg c] at P3; exact P3.elim
          | lst _ => exact P3.elim
          | ins _ _ _ => exact P3.elim
      | _ => exact P3.elim⟩⟩⟩⟩
/-! dicts written out: {} and {k: v}, keys ints and texts -/
def eDic0 (t : Bool) : Env → M SV := fun _ h => .ok (.ref h.length) (h ++ [.dic t [] []])
theorem e_dic0 : SE X W (.Dict [] [] pos) (eDic0 false) := ⟨imp_pe pe_dnewK fun σ H Q ⟨ρ, h, env, R, RE, P⟩ => fun p hp =>
  P _ _ _ (.alloc hp) (R.alloc hp (.inl ⟨[], upd_same, ⟨rfl, rfl⟩, .nil⟩)) (.ref (by rw [← R.len]; simp [Rho.add]) .nil)⟩
theorem e_dic0T : SE X W (.Dict [] [] pos) (eDic0 true) := ⟨imp_pe pe_dnewT fun σ H Q ⟨ρ, h, env, R, RE, P⟩ => fun p hp =>
  P _ _ _ (.alloc hp) (R.alloc hp (.inr ⟨[], upd_same, ⟨rfl, rfl⟩, .nil⟩)) (.ref (by rw [← R.len]; simp [Rho.add]) .nil)⟩
end
/-- {k: v} -/
def eDic1 (k c : Env → M SV) : Env → M SV := fun e => M.bind (k e) fun q => M.bind (c e) fun v => fun h => if isK q = true then .ok (.ref h.length) (h ++ [.dic false [q] [v]]) else .stuck
section
variable {X : Cx} {W : WX} {pos : Pos} {a b : Expr} {ca cb : Env → M SV}
theorem e_dic1 (ha : SE X W a ca) (hb : SE X W b cb) : SE X W (.Dict [some a] [b] pos) (eDic1 ca cb) :=
  ⟨imp_pe (L2.pe_disp (L2.pps_cons ha.pe hb.pe L2.pps_nil) rfl rfl (fun z => by cases z) (by show 1 ≤ 15; decide)) fun σ H Q ⟨ρ, h, env, R, RE, P⟩ => fun D hD => by
    have oD := R.outf hD
    have P' : Post X.K W (relS X.K) σ ρ H (M.bind (ca env) (fun q => M.bind (cb env) fun v => fun h => if isK q = true then .ok (.ref h.length) (h ++ [.dic false [q] [v]]) else .stuck) h) Q := P
    have Eh : Ext ρ H (ρ.hide D) (upd H D (.dK [])) := .hidden hD R.holds
    have Rh : RelH X.K (upd H D (.dK [])) (ρ.hide D) h := R.hidden hD
    refine ⟨ρ.hide D, h, env, Rh, RE.mono R.holds Eh, ?_⟩
    cases e1 : ca env h with
    | err cc fs h1 => simp only [M.bind, e1] at P'; exact Post.shift (r := Res.err cc fs h1) (rel := relS X.K) (Q := Q) P' Eh
    | stuck => simp only [M.bind, e1] at P'; exact P'
    | ok q h1 =>
      intro ρ1 H1 x E1 R1 r1
      refine ⟨ρ1, h1, env, R1, (RE.mono R.holds Eh).mono Rh.holds E1, ?_⟩
      cases e2 : cb env h1 with
      | err cc fs h2 => simp only [M.bind, e1, e2] at P'; exact Post.shift (r := Res.err cc fs h2) (rel := relS X.K) (Q := Q) P' (Eh.tr E1)
      | stuck => simp only [M.bind, e1, e2] at P'; exact P'
      | ok v h2 =>
        intro ρ2 H2 y E2 R2 r2
        simp only [M.bind, e1, e2] at P'
        have EE := (Eh.tr E1).tr E2
        have mD : D ∈ ρ2.ex := E2.sub D (E1.sub D List.mem_cons_self)
        have nD : D ∉ ρ2.l := fun m => R2.dj D m mD
        have nD1 : D ∉ ρ1.l := fun m => R1.dj D m (E1.sub D List.mem_cons_self)
        have hH : H2 D = some (.dK []) := E2.kept D _ (E1.kept D _ upd_same oD.1) nD1
        refine ⟨hH, ?_⟩
        by_cases c : isK q = true
        · rw [if_pos c] at P'
          obtain ⟨k, rfl, rfl⟩ := isK_rel c r1
          refine ⟨[(k, y)], rfl, by show 1 ≤ 15; decide, ?_⟩
          have hm : mergeK [] [(k, y)] = [(k, y)] := by simp [mergeK, putK]
          rw [hm]
          have sub : ∀ a ∈ ρ.ex, a ∈ ρ2.ex := fun a m => E2.sub a (E1.sub a (List.mem_cons_of_mem _ m))
          have R3 : RelH X.K (upd H2 D (.dK [(k, y)])) ρ2 h2 := R2.scribble mD (.dK hH) nD
          have r3 : RelS X.K (upd H2 D (.dK [(k, y)])) ρ2 v y := r2.scribble mD (.dK hH)
          have out : ∀ a, ρ2.out a → Rho.out ⟨ρ2.l ++ [D], ρ.ex⟩ a := fun a o => ⟨fun m => by
            rcases List.mem_append.mp m with z | z
            · exact o.1 z
            · rw [List.mem_singleton.mp z] at o; exact o.2 mD, fun m => o.2 (sub a m)⟩
          have RF := R3.promote (ex := ρ.ex) (so := .dic false [keyS k] [v]) mD sub oD.2 (.inl ⟨[(k, y)], upd_same, ⟨rfl, rfl⟩, r3.re (List.prefix_append _ _) out⟩)
          refine P' ⟨ρ2.l ++ [D], ρ.ex⟩ _ _ ⟨EE.pre.trans (List.prefix_append _ _), fun a m => ?_, fun b o hb n => ?_, fun a m => .inl m, fun a m => m⟩ RF (.ref (by show (ρ2.l ++ [D])[h2.length]? = some D; rw [← R2.len]; simp) .nil)
          · rcases List.mem_append.mp m with z | z
            · exact EE.new a z
            · rw [List.mem_singleton.mp z]; exact .inr hD
          · rw [upd_ne (fun z => by rw [z, hD] at hb; cases hb)]
            exact EE.kept b o hb n
        · rw [if_neg c] at P'; exact P'.elim⟩
end
/-- sorted of a dict with int keys -/
def sortedDF : List SV → SHp → Option SV := fun vs h => match vs with
  | [v] => match dicOf v h with
    | some (false, ks, _) => (intsOf ks).bind fun ns => if ns.length < 64 then some (.rls ((srt ns).map SV.int)) else none
    | _ => none
  | _ => none
theorem intsOf_keys : ∀ {kvs : List (Key × V)} {ns : List Int}, intsOf (kvs.map (fun p => keyS p.1)) = some ns → kvs.map (·.1) = ns.map Sum.inl
  | [], ns, e => by simp [intsOf] at e; subst e; rfl
  | (.inl i, w) :: kvs, ns, e => by
    simp [intsOf, keyS] at e
    obtain ⟨ms, e, rfl⟩ := e
    simp [intsOf_keys e]
  | (.inr i, w) :: kvs, ns, e => by simp [intsOf, keyS] at e
theorem b_sortedD {X : Cx} (hc : X.calm = true) : CallS X (.builtin "sorted") sortedDF := .of (L2.call_sortedDI hc) fun xs H Q ρ h vs z R r e k => by
  unfold sortedDF at e
  split at e
  · rename_i v
    obtain ⟨x, us, rfl, rx, r⟩ := RelL.inv r; cases r
    split at e
    · rename_i ks xs' q
      cases q2 : intsOf ks with
      | none => simp [q2] at e
      | some ns =>
        simp only [q2, Option.bind_some] at e
        by_cases c : ns.length < 64
        · rw [if_pos c] at e; cases e
          obtain ⟨a, rfl, hd⟩ := dic_rel R q rx
          rcases hd with ⟨kvs, hH, ⟨_, rfl⟩, rr⟩ | ⟨kvs, hH, ⟨z, _⟩, rr⟩
          · refine ⟨a, kvs, ns, rfl, .inl hH, intsOf_keys q2, c, ?_⟩
            exact fun ns' t p s ht => by rw [srt_of p s]; exact k _ _ (.fresh ht) (R.fresh ht) (rel_rls R ht (rel_ints _))
          · cases z
        · rw [if_neg c] at e; cases e
    · cases e
  · cases e
end Sim

set_option Elab.async false
set_option linter.all false
set_option maxRecDepth 100000
set_option maxHeartbeats 4000000
namespace Sim
open PySem L2
section
variable {X : Cx}
/-- powers -/
def CPw (i j : Int) : Prop := 0 ≤ j ∧ (Builtin.Int.intBits i : Int) * j ≤ 2 ^ 27
instance (i j : Int) : Decidable (CPw i j) := inferInstanceAs (Decidable (_ ∧ _))
def powF : SV → SV → SHp → Option SV := op2I fun i j => if CPw i j then some (.int (i ^ j.toNat)) else none
theorem o_pow : OpS X (binaryOp .Pow) powF := opI_of (g := fun i j => i ^ j.toNat) (opI fun _ _ _ _ _ _ _ hc q => PyProof.Rows.pow_int hc.1 hc.2 q)
def addF : SV → SV → SHp → Option SV := fun v w h => match v, w with
  | .int i, .int j => some (.int (i + j))
  | .tup a, .tup b => if a.length + b.length ≤ sizeLine then some (.tup (a ++ b)) else none
  | .str a, .str b => if a.length + b.length ≤ sizeLine then some (.str (a ++ b)) else none
  | .rls a, .rls b => if a.length + b.length ≤ sizeLine then some (.rls (a ++ b)) else none
  | _, _ => none
theorem OpS.imp {f : Value → Value → Sem Value} {g g' : SV → SV → SHp → Option SV} (h : OpS X f g) (i : ∀ v w h z, g' v w h = some z → g v w h = some z) : OpS X f g' :=
  fun pins s σ H x y v u Q I rx ry ⟨ρ, hh, a, b, z, R, ra, rb, e, k⟩ => h pins s σ H x y v u Q I rx ry ⟨ρ, hh, a, b, z, R, ra, rb, i _ _ _ _ e, k⟩
theorem o_add : OpS X (binaryOp .Add) addF := OpS.imp (.or o_addI (.or o_addTup (.or o_addStr o_addLst))) fun v w h z e => by
  unfold addF at e
  split at e
  · exact e
  · split at e
    · rename_i c; cases e; simp [addI, op2I, addTup, c]
    · cases e
  · split at e
    · rename_i c; cases e; simp [addI, op2I, addTup, addStr, c]
    · cases e
  · split at e
    · rename_i c; cases e; simp [addI, op2I, addTup, addStr, addLst, c]
    · cases e
  · cases e
def mulF : SV → SV → SHp → Option SV := fun v w h => match v, w with
  | .int i, .int j => if L2.CMulW i j then some (.int (i * j)) else none
  | .tup a, .int k => if a ≠ [] ∧ 2 ≤ k ∧ k ≤ 1000 ∧ a.length ≤ 1000 then some (.tup (List.replicate k.toNat a).flatten) else none
  | _, _ => none
theorem o_mul : OpS X (binaryOp .Mult) mulF := OpS.imp (.or o_mulI o_mulTup) fun v w h z e => by
  unfold mulF at e
  split at e
  · rename_i i j
    by_cases c : L2.CMulW i j
    · rw [if_pos c] at e; show (mulI (.int i) (.int j) h).or _ = _; unfold mulI op2I; simp only [if_pos c]; exact e
    · rw [if_neg c] at e; cases e
  · exact e
  · cases e
/-- -x -/
def negF : SV → Option SV := fun v => match v with
  | .int i => some (.int (-i))
  | _ => none
def eNeg (c : Env → M SV) : Env → M SV := fun e => M.bind (c e) fun v => M.of (negF v)
theorem e_neg {W : WX} {pos : Pos} {a : Expr} {ca : Env → M SV} (ha : SE X W a ca) : SE X W (.UnaryOp .USub a pos) (eNeg ca) :=
  ⟨imp_pe (pe_un un_neg ha.pe) fun σ H Q ⟨ρ, h, env, R, RE, P⟩ => ⟨ρ, h, env, R, RE, (Post.bind (rel := relS X.K) P).mono fun x H1 ⟨ρ1, v, h1, E1, R1, r1, P1⟩ => by
    cases v with
    | int i => cases r1; exact ⟨i, rfl, P1 ρ1 H1 _ .refl R1 (.int .nil)⟩
    | _ => exact P1.elim⟩⟩
/-- x in a list or a tuple of plain things -/
def flatS : SV → Bool
  | .non => true
  | .bl _ => true
  | .int _ => true
  | .str _ => true
  | _ => false
def eqS : SV → SV → Bool
  | .non, .non => true
  | .bl a, .bl b => a == b
  | .bl a, .int j => (if a then 1 else 0) == j
  | .int i, .bl b => i == (if b then 1 else 0)
  | .int i, .int j => i == j
  | .str a, .str b => a == b
  | _, _ => false
def inL (x : SV) (xs : List SV) : Bool := xs.any fun y => eqS y x
def inSeqF (neg : Bool) : SV → SV → SHp → Option SV := fun v w h => match seqOf w h with
  | some xs => if flatS v = true ∧ xs.all flatS = true then some (.bl (if neg then !inL v xs else inL v xs)) else none
  | none => none
theorem flat_rel {K : PySem.W.Frag} {H : Hp} {ρ : Rho} {v : SV} {x : V} (e : flatS v = true) (r : RelS K H ρ v x) : flatV x = true := by
  cases r <;> simp [flatS] at e <;> rfl
theorem eqS_rel {K : PySem.W.Frag} {H : Hp} {ρ : Rho} {v w : SV} {x y : V} (e : flatS v = true) (e' : flatS w = true) (r : RelS K H ρ v x) (r' : RelS K H ρ w y) : eqV x y = eqS v w := by
  cases r <;> simp [flatS] at e <;> cases r' <;> simp [flatS] at e' <;> rfl
theorem flats_rel {K : PySem.W.Frag} {H : Hp} {ρ : Rho} {v : SV} {x : V} (e : flatS v = true) (r : RelS K H ρ v x) : ∀ {xs : List SV} {us : List V}, xs.all flatS = true → RelL K H ρ xs us → us.all flatV = true ∧ inV x us = inL v xs
  | [], _, _, q => by rw [q.nil_inv]; exact ⟨rfl, rfl⟩
  | y :: xs, _, h, q => by
    obtain ⟨z, us, rfl, a, b⟩ := q.inv
    simp only [List.all_cons, Bool.and_eq_true] at h
    obtain ⟨h1, h2⟩ := flats_rel e r h.2 b
    refine ⟨by simp [flat_rel h.1 a, h1], ?_⟩
    unfold inV inL at h2 ⊢
    simp only [List.any_cons]
    rw [h2, eqS_rel h.1 e a r]
theorem in_seq_gen (neg : Bool) {op : CmpOp} (ho : OpR X (compareOp op) (rIn X.K neg)) : OpS X (compareOp op) (inSeqF neg) := .of ho fun x y H Q ρ h v w z R rv rw' e k => by
  unfold inSeqF at e
  split at e
  · rename_i xs q
    by_cases c : flatS v = true ∧ xs.all flatS = true
    · rw [if_pos c] at e; cases e
      obtain ⟨a, us, rfl, hq, rr⟩ := seq_rel R q rw'
      obtain ⟨h1, h2⟩ := flats_rel c.1 rv c.2 rr
      exact ⟨a, us, rfl, hq, flat_rel c.1 rv, h1, by rw [h2]; exact k H _ .refl R (.bl .nil)⟩
    · rw [if_neg c] at e; cases e
  · cases e
theorem o_inS : OpS X (compareOp .In) (inSeqF false) := in_seq_gen false op_in_seq
theorem o_notinS : OpS X (compareOp .NotIn) (inSeqF true) := in_seq_gen true op_notIn_seq
/-- isinstance by an own class -/
structure IsC (K : PySem.W.Frag) (C : Addr) : Prop where
  cl : Cls K C
  ha : PySem.W.findIn K (.ref C) "__class__" = some (some (.builtin "object.__class__"))
  hn : PySem.W.specialIn K (.builtin "object.__class__") "__get__" = some (some (.builtin "getset_descriptor.__get__"))
  ht : PySem.W.takesIn K (.builtin "object.__class__") = some true
  hm : PySem.W.mroIn K C (.type "object") = some true
  own : PySem.W.kitOne K (.ref C) (.ref C) = some true
def isCF (C : Addr) (ts : List String) : List SV → SHp → Option SV := fun vs h => match vs with
  | [v, .adr D] => if D = C then match v with
    | .obj E _ _ => if E = C then some (.bl true) else none
    | .ref n => match h[n]? with
      | some (.ins E _ _) => if E = C then some (.bl true) else none
      | _ => (tyN v h).bind fun t => if t ∈ ts then some (.bl false) else none
    | v => (tyN v h).bind fun t => if t ∈ ts then some (.bl false) else none
    else none
  | _ => none
theorem isC_ty {K : PySem.W.Frag} {H : Hp} {a C dx : Addr} {fs : List (Str × V)} (I : IsC K C) (e : H a = some (.ins C dx fs)) : L2.TyX K H (.ref a) (.ref C) := .base (.ins e I.cl I.ha I.hn I.ht I.hm)
theorem b_isC {C : Addr} {ts : List String} (I : IsC X.K C) (hts : ∀ t ∈ ts, PySem.W.kitOne X.K (.type t) (.ref C) = some false) : CallS X (.builtin "isinstance") (isCF C ts) := .of L2.call_isi fun xs H Q ρ h vs z R r e k => by
  unfold isCF at e
  split at e
  · rename_i v D
    obtain ⟨x, us, rfl, rx, r⟩ := RelL.inv r; obtain ⟨y, us, rfl, ry, r⟩ := RelL.inv r; cases r
    by_cases c : D = C
    · subst c
      rw [if_pos rfl] at e
      cases ry
      have other : ∀ {t : String}, tyN v h = some t → t ∈ ts → z = .bl false → L2.rIsi X.K [x, .ref D] H Q := fun {t} e1 e2 e3 => by
        subst e3
        exact ⟨x, _, _, _, false, rfl, .own D, tyN_rel R e1 rx, hts t e2, k H _ .refl R (.bl .nil)⟩
      have oth2 : (tyN v h).bind (fun t => if t ∈ ts then some (SV.bl false) else none) = some z → L2.rIsi X.K [x, .ref D] H Q := fun q => by
        cases e1 : tyN v h with
        | none => rw [e1] at q; cases q
        | some t =>
          rw [e1] at q
          have q' : (if t ∈ ts then some (SV.bl false) else none) = some z := q
          by_cases c2 : t ∈ ts
          · rw [if_pos c2] at q'; cases q'; exact other e1 c2 rfl
          · rw [if_neg c2] at q'; cases q'
      cases v with
      | obj E ns ys =>
        simp only at e
        by_cases c : E = D
        · subst c
          rw [if_pos rfl] at e; cases e
          obtain ⟨a, dx, fv, rfl, hH, _⟩ := ins_rel R rx (.inl rfl)
          exact ⟨_, _, _, _, true, rfl, .own E, isC_ty I hH, I.own, k H _ .refl R (.bl .nil)⟩
        · rw [if_neg c] at e; cases e
      | ref n =>
        simp only at e
        split at e
        · rename_i E ns ys q
          by_cases c : E = D
          · subst c
            rw [if_pos rfl] at e; cases e
            obtain ⟨a, dx, fv, rfl, hH, _⟩ := ins_rel R rx (.inr ⟨n, rfl, q⟩)
            exact ⟨_, _, _, _, true, rfl, .own E, isC_ty I hH, I.own, k H _ .refl R (.bl .nil)⟩
          · rw [if_neg c] at e; cases e
        · exact oth2 e
      | _ => exact oth2 e
    · rw [if_neg c] at e; cases e
  · cases e
/-- a, b, c = x, y, z -/
def cPar3 (i j l : Nat) (c : Env → M (List SV)) : ST' := fun e h => match c e h with
  | .ok [u, v, w] h' => .nx (((e.set i (some u)).set j (some v)).set l (some w)) h'
  | .ok _ _ => .stuck
  | .err c fs h' => .err c fs e h'
  | .stuck => .stuck
theorem s_par3 (i j l : Nat) {x y z : Str} {a b c : Expr} {cc : Env → M (List SV)} {W : WX} {px py pz pt pos : Pos} {kt k2 pt2} (hc : X.calm = true) (hN : X.N.Nodup) (ha : SA X W [a, b, c] cc) (hi : X.N[i]? = some x := by rfl) (hj : X.N[j]? = some y := by rfl) (hl : X.N[l]? = some z := by rfl) (hij : i ≠ j := by decide) (hil : i ≠ l := by decide) (hjl : j ≠ l := by decide)
    (hx : X.env.scope.names.lookup x = some .local := by rfl) (hy : X.env.scope.names.lookup y = some .local := by rfl) (hz : X.env.scope.names.lookup z = some .local := by rfl)
    (hw : swappedStores [.Tuple [.Name x px, .Name y py, .Name z pz] kt pt] (.Tuple [a, b, c] k2 pt2) X.env = pure (some [x, y, z]) := by rfl)
    (hs : swapsWithSole [.Tuple [.Name x px, .Name y py, .Name z pz] kt pt] (.Tuple [a, b, c] k2 pt2) pos.line X.env = pure false := by rfl) :
    SS X W (.Assign [.Tuple [.Name x px, .Name y py, .Name z pz] kt pt] (.Tuple [a, b, c] k2 pt2) pos) (cPar3 i j l cc) :=
  ⟨imp_ps (ps_par3 hc hN hi hj hl hij hil hjl hx hy hz ha.pa hw hs) fun D σ H ⟨ρ, h, env, R, RE, P⟩ => ⟨ρ, h, env, R, RE, by
    unfold cPar3 at P
    cases e : cc env h with
    | err cc fs h1 => rw [e] at P; exact fun ρ1 H1 cv d E R1 q => P ρ1 H1 σ cv d E R1 (RE.mono R.holds E) q
    | stuck => rw [e] at P; exact P
    | ok vs h1 =>
      rw [e] at P
      match vs, P with
      | [u, v, w], P =>
        intro ρ1 H1 x E R1 r
        obtain ⟨xu, us, rfl, r0, r⟩ := RelL.inv r
        obtain ⟨xv, us, rfl, r1, r2⟩ := RelL.inv r
        obtain ⟨xw, us, rfl, r2, r3⟩ := RelL.inv r2
        cases r3
        exact ⟨xu, xv, xw, rfl, P ρ1 H1 _ E R1 ((((RE.mono R.holds E).set r0).set r1).set r2)⟩⟩⟩
end
end Sim

set_option Elab.async false
set_option linter.all false
set_option maxRecDepth 100000
set_option maxHeartbeats 4000000
namespace Sim
open PySem L2
/-- xs[i] = v -/
def cSetIx (o i c : Env → M SV) : ST' := fun e h => onV (c e) e h fun v h1 => onV (o e) e h1 fun w h2 => onV (i e) e h2 fun q h3 => match w, q with
  | .ref n, .int k => match h3[n]? with
    | some (.lst xs) => match ixN xs.length k with
      | some j => .nx e (h3.set n (.lst (xs.set j v)))
      | none => .stuck
    | _ => .stuck
  | _, _ => .stuck
theorem RelL.set {K : PySem.W.Frag} {H : Hp} {ρ : Rho} {s : SV} {y : V} (rs : RelS K H ρ s y) : ∀ {xs : List SV} {us : List V} (j : Nat), RelL K H ρ xs us → RelL K H ρ (xs.set j s) (us.set j y)
  | [], _, _, r => by rw [r.nil_inv]; exact .nil
  | x :: xs, _, 0, r => by obtain ⟨v, us, rfl, a, q⟩ := r.inv; exact .cons rs q
  | x :: xs, _, j + 1, r => by obtain ⟨v, us, rfl, a, q⟩ := r.inv; exact .cons a (RelL.set rs j q)
section
variable {X : Cx} {W : WX} {pos : Pos} {o i val : Expr} {co ci cv : Env → M SV}
theorem s_setIx {pos' : Pos} (ho : SE X W o co) (hi : SE X W i ci) (hv : SE X W val cv)
    (hs : swapsWithSole [.Subscript o i pos'] val pos.line X.env = pure false := by rfl) (hw : swappedStores [.Subscript o i pos'] val X.env = pure none := by rfl)
    (h1 : (assignEach [.Subscript o i pos'] X.env).map (·.2) = [assign (.Subscript o i pos') X.env] := by rfl) (hg : ∀ {to ti : TE} {t : TSet}, PE X o to → PE X i ti → PSet X t → PG X (.Subscript o i pos') (gSub to ti t) := by exact fun ho hi hs => pg_sub ho hi hs) :
    SS X W (.Assign [.Subscript o i pos'] val pos) (cSetIx co ci cv) :=
  ⟨imp_ps (ps_asg hv.pe (hg ho.pe hi.pe set_list) hs hw h1) fun D σ H ⟨ρ, h, env, R, RE, P⟩ => ⟨ρ, h, env, R, RE, (post_onV R RE P).mono fun v H1 ⟨ρ1, s, h1, E1, R1, RE1, r1, P1⟩ => ⟨ρ1, h1, env, R1, RE1, (post_onV R1 RE1 P1).mono fun x H2 ⟨ρ2, w, h2, E2, R2, RE2, r2, P2⟩ =>
    ⟨ρ2, h2, env, R2, RE2, (post_onV R2 RE2 P2).mono fun y H3 ⟨ρ3, q, h3, E3, R3, RE3, r3, P3⟩ => by
      have rs := (r1.mono R1.holds E2).mono R2.holds E3
      have rw' := r2.mono R2.holds E3
      cases w with
      | ref n =>
        cases q with
        | int k =>
          cases r3
          simp only at P3
          cases q3 : h3[n]? with
          | none => rw [q3] at P3; exact P3.elim
          | some ob =>
            rw [q3] at P3
            cases ob with
            | lst xs =>
              simp only at P3
              cases qj : ixN xs.length k with
              | none => rw [qj] at P3; exact P3.elim
              | some j =>
                rw [qj] at P3
                obtain ⟨a, ha, us, hu, ru⟩ := R3.ob n _ q3
                cases rw' with
                | ref hi' _ =>
                  rw [hi'] at ha; cases ha
                  have Ew : Ext ρ3 H3 ρ3 (upd H3 a (.lst (us.set j v))) := .write (List.mem_of_getElem? hi')
                  exact ⟨a, us, k, j, rfl, rfl, hu, by rw [← ru.length]; exact qj, P3 ρ3 _ _ Ew (R3.write hi' ⟨_, upd_same, (RelL.set rs j ru).mono R3.holds Ew⟩) (RE3.mono R3.holds Ew)⟩
            | dic _ _ _ => exact P3.elim
            | ins _ _ _ => exact P3.elim
        | _ => exact P3.elim
      | _ => exact P3.elim⟩⟩⟩⟩
end
end Sim

set_option Elab.async false
set_option linter.all false
set_option maxRecDepth 100000
set_option maxHeartbeats 4000000
namespace L2
open PySem PySem.Spec PyProof.Rows
/-- () * n, t * 1: the tuple itself -/
theorem tuple_mul1 (l : Addr) (items : Array Value) (n : Nat) (dd : Option Addr) (sl : Array (Option Value)) (x : Int) (u : Tok) (c0 : (decide (x < -(2 ^ 63)) || decide (x ≥ 2 ^ 63)) = false) (c1 : (items.isEmpty || x == 1) = true) :
    Meets (Builtin.«tuple.__mul__» ⟨[.ref l, .int x u], []⟩) (fun _ R s => s.heap.get? l = some { cls := .type "tuple", dict := dd, data := .seq items n, slots := sl } ∧
      R (.ok (.ret (Value.ref l))) s) :=
  .of_wp fun prog w A R s h => by
    obtain ⟨hp, g, d, tk, os⟩ := s
    obtain ⟨hl, h⟩ := h
    have f1 := AutoSeq1.idx_int
    wp_walk using wpAny_loadPart' hl
    repeat (first
      | (refine wpAny_ite_false (decide_eq_false (by rw [c0]; exact Bool.false_ne_true)) ?_; wp_walk using wpAny_loadPart' hl)
      | (refine wpAny_ite_true (decide_eq_true c1) ?_; wp_walk using wpAny_loadPart' hl))
    exact ⟨_, rfl, h⟩
def rRepT1 (K : PySem.W.Frag) : R2 := fun x y H Q => ∃ l k xs, x = .ref l ∧ y = .int k ∧ SqT K H l xs ∧ (xs = [] ∨ k = 1) ∧ -(2 ^ 63) ≤ k ∧ k < 2 ^ 63 ∧ Q (.ref l) H
theorem op_repT1 {X : Cx} : OpR X (binaryOp .Mult) (rRepT1 X.K) := by
  intro pins s σ H x y v u Q I rx ry h
  obtain ⟨l, k, xs, rfl, rfl, hT, he, h1, h2, q⟩ := h
  cases rx
  obtain ⟨t, rfl⟩ := ry
  obtain ⟨its, r, ⟨⟨cls, dd, data, sl⟩, ho, hc, n, hd⟩, hs⟩ := I.tuple hT
  simp only at hc hd
  subst hc hd
  have c0 : (decide (k < -(2 ^ 63)) || decide (k ≥ 2 ^ 63)) = false := by
    rw [decide_eq_false (by omega), decide_eq_false (by omega)] <;> rfl
  have c1 : (its.toArray.isEmpty || k == 1) = true := by
    rcases he with e | e
    · subst e
      cases r
      rfl
    · subst e; simp
  refine wpAny_binaryOp_repeat_ref (T := "tuple") (U := "int") (by decide) ⟨_, ho, rfl⟩ (fun s' => typeIs_int s' k t) noFill_tuple_mul F.fills_int_mul F.slot_int_rmul repeat_tuple F.slot_int_index.lookup
    (call_meets F.slot_int_rmul (typeIs_int s k t) F.entry_int_rmul (F.args_int_rmul_2 _ _) (int_rmul_tuple k t l its.toArray n dd sl)
      ⟨ho, rfl, ⟨_, ho, rfl⟩, call_meets F.slot_tuple_mul ⟨_, ho, rfl⟩ F.entry_tuple_mul (F.args_tuple_mul_2 _ _) (tuple_mul1 l its.toArray n dd sl k t c0 c1) ⟨ho, ?_⟩⟩)
  exact ⟨.ref l, H, I, rfl, q⟩
end L2
namespace Sim
open PySem L2
def mulT : SV → SV → SHp → Option SV := fun v w h => match v, w with
  | .int i, .int j => if L2.CMulW i j then some (.int (i * j)) else none
  | .tup a, .int k => if 1 ≤ k ∧ k ≤ 1000 ∧ a.length ≤ 1000 then some (.tup (List.replicate k.toNat a).flatten) else none
  | _, _ => none
def mulTup1 : SV → SV → SHp → Option SV := fun v w _ => match v, w with
  | .tup a, .int k => if (a = [] ∨ k = 1) ∧ 1 ≤ k ∧ k ≤ 1000 then some (.tup a) else none
  | _, _ => none
section
variable {X : Cx}
theorem o_mulTup1 : OpS X (binaryOp .Mult) mulTup1 := .of op_repT1 fun x y H Q ρ h v w z R rv rw' e k => by
  unfold mulTup1 at e
  split at e
  · rename_i a n
    by_cases c : (a = [] ∨ n = 1) ∧ 1 ≤ n ∧ n ≤ 1000
    · rw [if_pos c] at e; cases e
      obtain ⟨p, us, rfl, h1, r1⟩ := tup_rel1 rv
      cases rw'
      refine ⟨p, n, us, rfl, rfl, .of h1, ?_, by omega, by omega, k H _ .refl R (.tup h1 r1 .nil)⟩
      rcases c.1 with e | e
      · subst e; exact .inl r1.nil_inv
      · exact .inr e
    · rw [if_neg c] at e; cases e
  · cases e
theorem rep_nil (n : Nat) : (List.replicate n ([] : List SV)).flatten = [] := by induction n with
  | zero => rfl
  | succ n ih => simp [List.replicate_succ, ih]
theorem o_mulT : OpS X (binaryOp .Mult) mulT := OpS.imp (.or o_mulI (.or o_mulTup o_mulTup1)) fun v w h z e => by
  unfold mulT at e
  split at e
  · rename_i i j
    by_cases c : L2.CMulW i j
    · rw [if_pos c] at e; cases e; simp [mulI, op2I, c]
    · rw [if_neg c] at e; cases e
  · rename_i a k
    by_cases c : 1 ≤ k ∧ k ≤ 1000 ∧ a.length ≤ 1000
    · rw [if_pos c] at e; cases e
      by_cases ha : a = []
      · subst ha
        simp [mulI, op2I, mulTup, mulTup1, c.1, c.2.1, rep_nil]
      · by_cases hk : k = 1
        · subst hk; simp [mulI, op2I, mulTup, mulTup1, List.replicate]
        · simp [mulI, op2I, mulTup, ha, show 2 ≤ k by omega, c.2.1, c.2.2]
    · rw [if_neg c] at e; cases e
  · cases e
end

/-! ### the end of a law -/
theorem kit_self {K : PySem.W.Frag} {c : Value} : PySem.W.kitOne K c c = some true := by
  unfold PySem.W.kitOne
  rw [if_pos (by simp)]
def spTrue (K : PySem.W.Frag) : Sp := fun vs H Q _ => ∃ (b : Addr) (ns : List Int), vs = [.ref b] ∧ SqL K H b (ns.map V.int) ∧ ns.length ≤ 63 ∧ ∀ H', Q (.bl true) H'
theorem spTrue_imp {K : PySem.W.Frag} {D : List SV → M SV} (h : ∀ ns : List Int, ns.length ≤ 63 → ∃ h', D [.frl (ns.map SV.int)] [] = .ok (.bl true) h') : ∀ vs H Q E, spTrue K vs H Q E → spS K 1 D vs H Q E := by
  rintro vs H Q E ⟨b, ns, rfl, hS, hl, k⟩
  obtain ⟨h', e⟩ := h ns hl
  refine ⟨rfl, ⟨[], []⟩, [], [.frl (ns.map SV.int)], ⟨rfl, List.nodup_nil, fun i o q => (by simp at q), fun d hd => (by cases hd), fun d hd => (by cases hd)⟩, .frl ?_ (rel_ints ns) .nil, ?_⟩
  · rcases hS with hS | hS
    · exact .inl ⟨hS, fun m => (by cases m), fun m => (by cases m)⟩
    · exact .inr hS
  · rw [e]
    intro ρ' H' x E' R' r
    cases r
    exact k H'
theorem noCX {P : Program} {w : World} {H : Hp} {s : Shared} {e : Value} {s' : Shared} (h : L2.CX P w [] H s (fun _ _ _ => False) e s') : False := by
  obtain ⟨_, _, _, _, _, _, _, _, _, _, _, _, z⟩ := h
  exact z.elim
end Sim

set_option Elab.async false
set_option linter.all false
set_option maxRecDepth 100000
set_option maxHeartbeats 4000000
namespace Sim
open PySem L2

/-! ### reckoning with mirrors -/
theorem gc_len {fz : Bool} {h h' : SHp} {v : SV} (c : h'.length ≤ h.length) : gc fz h v h' = .ok v h' := by unfold gc; rw [if_pos c]
theorem gc_same {fz : Bool} {h : SHp} {v : SV} : gc fz h v h = .ok v h := gc_len (Nat.le_refl _)
theorem gc_set {fz : Bool} {h : SHp} {v : SV} {i : Nat} {o : SO} : gc fz h v (h.set i o) = .ok v (h.set i o) := gc_len (by simp)
theorem gcOk_app (h g : SHp) : gcOk h (h ++ g) = true := by
  unfold gcOk
  refine List.all_eq_true.mpr fun i hi => ?_
  rw [List.getElem?_append_left (List.mem_range.mp hi)]
  simp
theorem gc_app {fz : Bool} {h g : SHp} {v : SV} (o : v.okr h.length = true) : gc fz h v (h ++ g) = .ok v h := by
  unfold gc
  by_cases c : (h ++ g).length ≤ h.length
  · have : g = [] := by
      rw [List.length_append] at c
      exact List.eq_nil_of_length_eq_zero (by omega)
    subst this
    rw [if_pos c, List.append_nil]
  · rw [if_neg c, if_pos (gcOk_app h g), if_pos o, List.take_left]
theorem gc_app_ref {h g : SHp} {k : Nat} {ob : SO} (hk : h.length ≤ k) (e : (h ++ g)[k]? = some ob) (o : ob.okr h.length = true) : gc true h (.ref k) (h ++ g) = .ok (froz ob) h := by
  have hl := (List.getElem?_eq_some_iff.mp e).1
  unfold gc
  rw [if_neg (by omega), if_pos (gcOk_app h g), if_neg (by simp [SV.okr]; omega)]
  simp only [e]
  rw [if_pos ⟨trivial, hk, o⟩, List.take_left]
/-- plain data holds no changing object -/
theorem okr_data (n : Nat) : ∀ (xs : List SV) {ds}, dataL xs = some ds → SV.okrs n xs = true
  | [], _, _ => by simp [SV.okrs]
  | x :: xs, _, e => by
    simp only [dataL] at e
    cases q : dataV x with
    | none => simp [q] at e
    | some d =>
      cases q2 : dataL xs with
      | none => simp [q, q2] at e
      | some ds =>
        have h2 := okr_data n xs q2
        have h1 : SV.okr n x = true := by
          cases x with
          | tup ys =>
            simp only [dataV] at q
            cases q3 : dataL ys with
            | none => simp [q3] at q
            | some _ => simp only [SV.okr]; exact okr_data n ys q3
          | rls ys =>
            simp only [dataV] at q
            cases q3 : dataL ys with
            | none => simp [q3] at q
            | some _ => simp only [SV.okr]; exact okr_data n ys q3
          | frl ys =>
            simp only [dataV] at q
            cases q3 : dataL ys with
            | none => simp [q3] at q
            | some _ => simp only [SV.okr]; exact okr_data n ys q3
          | non => rfl
          | bl _ => rfl
          | int _ => rfl
          | str _ => rfl
          | _ => simp [dataV] at q
        simp [SV.okrs, h1, h2]
theorem okrs_ints (n : Nat) : ∀ ns : List Int, SV.okrs n (ns.map SV.int) = true
  | [] => by simp [SV.okrs]
  | _ :: ns => by simp [SV.okrs, SV.okr, okrs_ints n ns]
theorem okrs_app (n : Nat) : ∀ xs ys : List SV, SV.okrs n (xs ++ ys) = (SV.okrs n xs && SV.okrs n ys)
  | [], ys => by simp [SV.okrs]
  | x :: xs, ys => by simp [SV.okrs, okrs_app n xs ys, Bool.and_assoc]
theorem okrs_iff (n : Nat) : ∀ xs : List SV, SV.okrs n xs = true ↔ ∀ x ∈ xs, x.okr n = true
  | [] => by simp [SV.okrs]
  | x :: xs => by simp [SV.okrs, okrs_iff n xs]

/-- a comprehension whose parts change nothing -/
theorem compL_pure {g : SV → Env → Option Env} {t : Env → M Bool} {el : Env → M SV} {e : Env} {h : SHp} (p : SV → Bool) (f : SV → SV) :
    ∀ (items acc : List SV), (∀ s ∈ items, ∃ e1, g s e = some e1 ∧ t e1 h = .ok (p s) h ∧ (p s = true → el e1 h = .ok (f s) h)) → acc.length + items.length ≤ sizeLine →
      compL g t el .no e items acc h = .ok (acc ++ (items.filter p).map f) h
  | [], acc, _, _ => by simp [compL, Gd.ok]
  | s :: ss, acc, H, hl => by
    obtain ⟨e1, h1, h2, h3⟩ := H s (by simp)
    have hl' : acc.length + (ss.length + 1) ≤ sizeLine := by simpa using hl
    unfold compL
    rw [if_pos (by rfl)]
    simp only [h1, M.bindN, h2]
    cases q : p s with
    | true =>
      simp only [if_true, M.bindN, h3 q]
      rw [if_pos (by omega), compL_pure p f ss (acc ++ [f s]) (fun s hs => H s (List.mem_cons_of_mem _ hs)) (by simp; omega)]
      simp [q]
    | false =>
      simp only [Bool.false_eq_true, if_false]
      rw [compL_pure p f ss acc (fun s hs => H s (List.mem_cons_of_mem _ hs)) (by omega)]
      simp [q]
theorem compL_map {g : SV → Env → Option Env} {el : Env → M SV} {e : Env} {h : SHp} (f : SV → SV) {items : List SV} (H : ∀ s ∈ items, ∃ e1, g s e = some e1 ∧ el e1 h = .ok (f s) h) (hl : items.length ≤ sizeLine) :
    compL g bTrue el .no e items [] h = .ok (items.map f) h := by
  have := compL_pure (t := bTrue) (fun _ => true) f items [] (fun s hs => let ⟨e1, a, b⟩ := H s hs; ⟨e1, a, rfl, fun _ => b⟩) (by simpa using hl)
  rw [this, List.nil_append]
  congr 2
  exact List.filter_eq_self.mpr fun _ _ => rfl
/-- a comprehension that changes the heap: Iv by what is made so far -/
theorem compL_inv {g : SV → Env → Option Env} {t : Env → M Bool} {el : Env → M SV} {gd : Gd} {e : Env} (Iv : Nat → List SV → SHp → Prop) (hg : ∀ i acc h, Iv i acc h → gd.ok h = true) :
    ∀ (items : List SV) (i : Nat) (acc : List SV) (h : SHp), Iv i acc h → acc.length + items.length ≤ sizeLine →
      (∀ j s acc h, items[j]? = some s → Iv (i + j) acc h → ∃ e1 k h1, g s e = some e1 ∧ t e1 h = .ok k h1 ∧ (k = false → Iv (i + j + 1) acc h1) ∧ (k = true → ∃ v h2, el e1 h1 = .ok v h2 ∧ Iv (i + j + 1) (acc ++ [v]) h2)) →
      ∃ acc' h', compL g t el gd e items acc h = .ok acc' h' ∧ Iv (i + items.length) acc' h'
  | [], i, acc, h, hI, _, _ => ⟨acc, h, by simp [compL, hg _ _ _ hI], hI⟩
  | s :: ss, i, acc, h, hI, hl, H => by
    have hl' : acc.length + (ss.length + 1) ≤ sizeLine := by simpa using hl
    obtain ⟨e1, k, h1, q1, q2, q3, q4⟩ := H 0 s acc h rfl hI
    have H' : ∀ j s acc h, ss[j]? = some s → Iv (i + 1 + j) acc h → ∃ e1 k h1, g s e = some e1 ∧ t e1 h = .ok k h1 ∧ (k = false → Iv (i + 1 + j + 1) acc h1) ∧ (k = true → ∃ v h2, el e1 h1 = .ok v h2 ∧ Iv (i + 1 + j + 1) (acc ++ [v]) h2) := fun j s acc h e hI => by
      have := H (j + 1) s acc h (by simpa using e) (by rw [show i + (j + 1) = i + 1 + j by omega]; exact hI)
      rw [show i + (j + 1) + 1 = i + 1 + j + 1 by omega] at this
      exact this
    unfold compL
    rw [if_pos (hg _ _ _ hI)]
    simp only [q1, M.bindN, q2]
    cases k with
    | true =>
      obtain ⟨v, h2, q5, q6⟩ := q4 rfl
      simp only [if_true, M.bindN, q5]
      rw [if_pos (by omega)]
      obtain ⟨acc', h', z1, z2⟩ := compL_inv Iv hg ss (i + 1) (acc ++ [v]) h2 q6 (by simp; omega) H'
      exact ⟨acc', h', z1, by rw [List.length_cons, show i + (ss.length + 1) = i + 1 + ss.length by omega]; exact z2⟩
    | false =>
      simp only [Bool.false_eq_true, if_false]
      obtain ⟨acc', h', z1, z2⟩ := compL_inv Iv hg ss (i + 1) acc h1 (q3 rfl) (by omega) H'
      exact ⟨acc', h', z1, by rw [List.length_cons, show i + (ss.length + 1) = i + 1 + ss.length by omega]; exact z2⟩
/-- a loop: Iv by the turn; a turn goes on, or leaves as Rv says -/
theorem forL_inv {g : SV → Env → Option Env} {body : ST'} {gd : Gd} (Iv : Nat → Env → SHp → Prop) (Rv : SR → Prop) (hg : ∀ i e h, Iv i e h → gd.ok h = true) :
    ∀ (items : List SV) (i : Nat) (e : Env) (h : SHp), Iv i e h →
      (∀ j s e h, items[j]? = some s → Iv (i + j) e h → ∃ e1, g s e = some e1 ∧ ((∃ e2 h2, (body e1 h = .nx e2 h2 ∨ body e1 h = .ct e2 h2) ∧ Iv (i + j + 1) e2 h2) ∨ (∃ v h2, body e1 h = .rt v h2 ∧ Rv (.rt v h2)) ∨ (∃ e2 h2, body e1 h = .bk e2 h2 ∧ Rv (.nx e2 h2)) ∨ ∃ c fs e2 h2, body e1 h = .err c fs e2 h2 ∧ Rv (.err c fs e2 h2))) →
      (∃ e' h', forL g body gd items e h = .nx e' h' ∧ Iv (i + items.length) e' h') ∨ Rv (forL g body gd items e h)
  | [], i, e, h, hI, _ => .inl ⟨e, h, by simp [forL, hg _ _ _ hI], hI⟩
  | s :: ss, i, e, h, hI, H => by
    obtain ⟨e1, q1, q2⟩ := H 0 s e h rfl hI
    have H' : ∀ j s e h, ss[j]? = some s → Iv (i + 1 + j) e h → ∃ e1, g s e = some e1 ∧ ((∃ e2 h2, (body e1 h = .nx e2 h2 ∨ body e1 h = .ct e2 h2) ∧ Iv (i + 1 + j + 1) e2 h2) ∨ (∃ v h2, body e1 h = .rt v h2 ∧ Rv (.rt v h2)) ∨ (∃ e2 h2, body e1 h = .bk e2 h2 ∧ Rv (.nx e2 h2)) ∨ ∃ c fs e2 h2, body e1 h = .err c fs e2 h2 ∧ Rv (.err c fs e2 h2)) := fun j s e h q hI => by
      have := H (j + 1) s e h (by simpa using q) (by rw [show i + (j + 1) = i + 1 + j by omega]; exact hI)
      rw [show i + (j + 1) + 1 = i + 1 + j + 1 by omega] at this
      exact this
    unfold forL
    rw [if_pos (hg _ _ _ hI)]
    simp only [q1]
    have fin : ∀ e2 h2, Iv (i + 1) e2 h2 → (∃ e' h', forL g body gd ss e2 h2 = .nx e' h' ∧ Iv (i + (s :: ss).length) e' h') ∨ Rv (forL g body gd ss e2 h2) := fun e2 h2 hI2 => by
      rw [List.length_cons, show i + (ss.length + 1) = i + 1 + ss.length by omega]
      exact forL_inv Iv Rv hg ss (i + 1) e2 h2 hI2 H'
    rcases q2 with ⟨e2, h2, q | q, hI2⟩ | ⟨v, h2, q, r⟩ | ⟨e2, h2, q, r⟩ | ⟨c, fs, e2, h2, q, r⟩
    · simp only [q]; exact fin e2 h2 hI2
    · simp only [q]; exact fin e2 h2 hI2
    · simp only [q]; exact .inr r
    · simp only [q]; exact .inr r
    · simp only [q]; exact .inr r
/-- a loop without a way out -/
theorem forL_nx {g : SV → Env → Option Env} {body : ST'} {gd : Gd} (Iv : Nat → Env → SHp → Prop) (hg : ∀ i e h, Iv i e h → gd.ok h = true) {items : List SV} {e : Env} {h : SHp} (hI : Iv 0 e h)
    (H : ∀ j s e h, items[j]? = some s → Iv j e h → ∃ e1 e2 h2, g s e = some e1 ∧ body e1 h = .nx e2 h2 ∧ Iv (j + 1) e2 h2) : ∃ e' h', forL g body gd items e h = .nx e' h' ∧ Iv items.length e' h' := by
  rcases forL_inv (body := body) Iv (fun _ => False) hg items 0 e h hI (fun j s e h q hI => by
    rw [Nat.zero_add] at hI ⊢
    obtain ⟨e1, e2, h2, a, b, c⟩ := H j s e h q hI
    exact ⟨e1, a, .inl ⟨e2, h2, .inl b, c⟩⟩) with q | q
  · rw [Nat.zero_add] at q; exact q
  · exact q.elim
/-- a while by a measure -/
theorem whL_inv {t : Env → M Bool} {b : ST'} (Iv : Env → SHp → Prop) (Rv : SR → Prop) (μ : Env → SHp → Nat)
    (H : ∀ e h, Iv e h → (∃ h1, t e h = .ok false h1 ∧ Rv (.nx e h1)) ∨ (∃ h1, t e h = .ok true h1 ∧ ((∃ e2 h2, (b e h1 = .nx e2 h2 ∨ b e h1 = .ct e2 h2) ∧ Iv e2 h2 ∧ μ e2 h2 < μ e h) ∨ (∃ v h2, b e h1 = .rt v h2 ∧ Rv (.rt v h2)) ∨ (∃ e2 h2, b e h1 = .bk e2 h2 ∧ Rv (.nx e2 h2))))) :
    ∀ (n : Nat) (e : Env) (h : SHp), Iv e h → μ e h < n → Rv (whL t b n e h)
  | 0, _, _, _, hn => by omega
  | n + 1, e, h, hI, hn => by
    unfold whL onB
    rcases H e h hI with ⟨h1, q, r⟩ | ⟨h1, q, r⟩
    · simp only [q, Bool.false_eq_true, if_false]; exact r
    · simp only [q, if_true]
      rcases r with ⟨e2, h2, z | z, hI2, lt⟩ | ⟨v, h2, z, r⟩ | ⟨e2, h2, z, r⟩
      · simp only [z]; exact whL_inv Iv Rv μ H n e2 h2 hI2 (by omega)
      · simp only [z]; exact whL_inv Iv Rv μ H n e2 h2 hI2 (by omega)
      · simp only [z]; exact r
      · simp only [z]; exact r
end Sim

set_option Elab.async false
set_option linter.all false
set_option maxRecDepth 100000
set_option maxHeartbeats 4000000
namespace Sim
open PySem L2
def Res.bd {α β : Type} : Res α → (α → SHp → Res β) → Res β
  | .ok v h, k => k v h
  | .err c fs h, _ => .err c fs h
  | .stuck, _ => .stuck
def Res.sr {α : Type} : Res α → Env → (α → SHp → SR) → SR
  | .ok v h, _, k => k v h
  | .err c fs h, e, _ => .err c fs e h
  | .stuck, _, _ => .stuck
def SR.sq : SR → ST' → SR
  | .nx e h, b => b e h
  | .rt v h, _ => .rt v h
  | .bk e h, _ => .bk e h
  | .ct e h, _ => .ct e h
  | .err c fs e h, _ => .err c fs e h
  | .stuck, _ => .stuck
/-- a bool's value -/
def bk {β : Type} (v : SV) (k : Bool → SHp → Res β) : SHp → Res β := fun h => match v with
  | .bl b => k b h
  | _ => .stuck
section
variable {α β : Type} {e : Env} {h : SHp} {a b c : Env → M SV} {t u : Env → M Bool} {as : Env → M (List SV)} {fz : Bool} {v w : SV} {g g' : SV → SV → SHp → Option SV} {s r : ST'} {D : List SV → M SV} {vs : List SV}
theorem bd_ok {v : α} {k : α → SHp → Res β} : Res.bd (.ok v h) k = k v h := rfl
theorem sr_ok {v : α} {k : α → SHp → SR} : Res.sr (.ok v h) e k = k v h := rfl
theorem sr_err {cc : Addr} {fs} {k : α → SHp → SR} : Res.sr (.err cc fs h) e k = .err cc fs e h := rfl
theorem bd_err {cc : Addr} {fs} {k : α → SHp → Res β} : Res.bd (.err cc fs h) k = .err cc fs h := rfl
theorem sq_nx {b : ST'} : SR.sq (.nx e h) b = b e h := rfl
theorem sq_rt {b : ST'} : SR.sq (.rt v h) b = .rt v h := rfl
theorem sq_err {b : ST'} {cc : Addr} {fs} : SR.sq (.err cc fs e h) b = .err cc fs e h := rfl
theorem bk_bl {x : Bool} {k : Bool → SHp → Res β} : bk (.bl x) k h = k x h := rfl
theorem of_some {v : α} : M.of (some v) h = .ok v h := rfl
theorem ev_ret {v : α} : M.ret v h = .ok v h := rfl
theorem ev_bind {m : M α} {k : α → M β} : M.bind m k h = Res.bd (m h) k := by unfold M.bind; cases m h <;> rfl
theorem ev_bindN {m : M α} {k : α → M β} {v : α} {h' : SHp} (q : m h = .ok v h') : M.bindN m k h = k v h' := by unfold M.bindN; rw [q]
theorem ev_var {i : Nat} : eVar i e h = M.of (e[i]?.join) h := rfl
theorem ev_C : eC v e h = .ok v h := rfl
theorem ev_op : eOp g a b e h = Res.bd (a e h) fun v h => Res.bd (b e h) fun w h => M.of (g v w h) h := by
  unfold eOp; rw [ev_bind]; cases a e h <;> first | rfl | (simp only [bd_ok, ev_bind])
theorem ev_call : eCall D as e h = Res.bd (as e h) D := ev_bind
theorem ev_cb {f : List SV → SHp → Option SV} : eCB f as e h = Res.bd (as e h) fun vs h => M.of (f vs h) h := ev_bind
theorem ev_tst {m : M SV} : tst m h = Res.bd (m h) fun v h => bk v (fun x h => .ok x h) h := by
  unfold tst; rw [ev_bind]; congr 1; funext v h; cases v <;> rfl
theorem ev_eTst : eTst a e h = Res.bd (a e h) fun v h => bk v (fun x h => .ok x h) h := ev_tst
theorem ev_and : eAnd a b e h = Res.bd (a e h) fun v h => bk v (fun x h => if x = true then b e h else .ok (.bl false) h) h := by
  unfold eAnd; rw [ev_bind, ev_tst]
  cases a e h with
  | ok v h' => simp only [bd_ok]; cases v <;> first | rfl | (rename_i x; cases x <;> rfl)
  | err _ _ _ => rfl
  | stuck => rfl
theorem ev_or : eOr a b e h = Res.bd (a e h) fun v h => bk v (fun x h => if x = true then .ok (.bl true) h else b e h) h := by
  unfold eOr; rw [ev_bind, ev_tst]
  cases a e h with
  | ok v h' => simp only [bd_ok]; cases v <;> first | rfl | (rename_i x; cases x <;> rfl)
  | err _ _ _ => rfl
  | stuck => rfl
theorem ev_not : eNot a e h = Res.bd (a e h) fun v h => bk v (fun x h => .ok (.bl (!x)) h) h := by
  unfold eNot; rw [ev_bind, ev_tst]
  cases a e h with
  | ok v h' => simp only [bd_ok]; cases v <;> rfl
  | err _ _ _ => rfl
  | stuck => rfl
theorem ev_eIf : eIf t a b e h = Res.bd (t e h) fun x h => if x = true then a e h else b e h := by
  unfold eIf; rw [ev_bind]; congr 1; funext x h; cases x <;> rfl
theorem ev_bAnd : bAnd t u e h = Res.bd (t e h) fun x h => if x = true then u e h else .ok false h := by
  unfold bAnd; rw [ev_bind]; congr 1; funext x h; cases x <;> rfl
theorem ev_bOr : bOr t u e h = Res.bd (t e h) fun x h => if x = true then .ok true h else u e h := by
  unfold bOr; rw [ev_bind]; congr 1; funext x h; cases x <;> rfl
theorem ev_bNot : bNot t e h = Res.bd (t e h) fun x h => .ok (!x) h := ev_bind
theorem ev_chain : eChain g g' a b c e h = Res.bd (a e h) fun v h => Res.bd (b e h) fun w h => Res.bd (M.of (g v w h) h) fun z h => bk z (fun x h => if x = true then Res.bd (c e h) fun u h => M.of (g' w u h) h else .ok (.bl false) h) h := by
  unfold eChain; rw [ev_bind]
  congr 1; funext v h; rw [ev_bind]; congr 1; funext w h; rw [ev_bind]; congr 1; funext z h
  cases z <;> first | rfl | (rename_i x; cases x <;> first | rfl | (simp only [bk, if_true]; rw [ev_bind]))
theorem ev_nil : aNil e h = .ok [] h := rfl
theorem ev_cons : aCons a as e h = Res.bd (a e h) fun v h => Res.bd (as e h) fun vs h => .ok (v :: vs) h := by
  unfold aCons; rw [ev_bind]; congr 1; funext v h; rw [ev_bind]; rfl
theorem ev_tup : eTup as e h = Res.bd (as e h) fun vs h => if vs.length ≤ sizeLine then .ok (.tup vs) h else .stuck := ev_bind
theorem ev_lst : eLst as e h = Res.bd (as e h) fun vs h => if vs.length ≤ sizeLine then .ok (.rls vs) h else .stuck := ev_bind
theorem ev_new : eNew as e h = Res.bd (as e h) fun vs h => if vs.length ≤ sizeLine then .ok (.ref h.length) (h ++ [.lst vs]) else .stuck := ev_bind
theorem ev_neg : eNeg a e h = Res.bd (a e h) fun v h => M.of (negF v) h := ev_bind
theorem ev_fld {C : Addr} {f : Str} : eFld C f a e h = Res.bd (a e h) fun v h => M.of (fldF C f v h) h := ev_bind
theorem ev_sl {lo hi : Env → M (Option Int)} : eSl a lo hi e h = Res.bd (a e h) fun v h => Res.bd (lo e h) fun l h => Res.bd (hi e h) fun u h => M.of (slF v l u h) h := by
  unfold eSl; rw [ev_bind]; congr 1; funext v h; rw [ev_bind]; congr 1; funext l h; rw [ev_bind]
theorem ev_oNo : oNo e h = .ok none h := rfl
def ik {β : Type} (v : SV) (k : Int → SHp → Res β) : SHp → Res β := fun h => match v with
  | .int b => k b h
  | _ => .stuck
theorem ik_int {x : Int} {k : Int → SHp → Res β} : ik (.int x) k h = k x h := rfl
theorem ev_oYes : oYes a e h = Res.bd (a e h) fun v h => ik v (fun i h => .ok (some i) h) h := by
  unfold oYes; rw [ev_bind]; congr 1; funext v h; cases v <;> rfl
theorem ev_bTrue : bTrue e h = .ok true h := rfl
theorem ev_lc {it : Env → M (List SV × Gd)} {own : List Nat} {gg : SV → Env → Option Env} : eLc it own gg t a e h = Res.bd (it e h) fun p h => Res.bd (compL gg t a p.2 (wipeE e own) p.1 [] h) fun xs h => .ok (.rls xs) h := by
  unfold eLc; rw [ev_bind]; congr 1; funext v h; rw [ev_bind]; rfl
theorem ev_it : cIt a e h = Res.bd (a e h) itF := ev_bind
theorem ev_rng1 : cRng1 a e h = Res.bd (a e h) fun v h => ik v (fun j h => if -(2 ^ 62) ≤ j ∧ j < 2 ^ 62 then .ok (rngL 0 j.toNat, .no) h else .stuck) h := by
  unfold cRng1; rw [ev_bind]; congr 1
theorem ev_enum : cEnum a e h = Res.bd (a e h) fun v h => Res.bd (seqF v h) fun xs h => .ok (enumL 0 xs, .no) h := by
  unfold cEnum; rw [ev_bind]; congr 1; funext v h; rw [ev_bind]; rfl
/-! statements -/
theorem ev_onV {m : M SV} {k : SV → SHp → SR} : onV m e h k = Res.sr (m h) e k := by unfold onV; cases m h <;> rfl
theorem ev_onB {m : M Bool} {k : Bool → SHp → SR} : onB m e h k = Res.sr (m h) e k := by unfold onB; cases m h <;> rfl
theorem ev_seq : cSeq s r e h = SR.sq (s e h) r := by unfold cSeq; cases s e h <;> rfl
theorem ev_cNil : cNil e h = .nx e h := rfl
theorem ev_set {i : Nat} : cSet i a e h = Res.sr (a e h) e fun v h => .nx (e.set i (some v)) h := ev_onV
theorem ev_expr : cExpr a e h = Res.sr (a e h) e fun _ h => .nx e h := ev_onV
theorem ev_rt : cRet a e h = Res.sr (a e h) e fun v h => .rt v h := ev_onV
theorem ev_rtN : cRetN e h = .rt .non h := rfl
theorem ev_if : cIf t s r e h = Res.sr (t e h) e fun x h => if x = true then s e h else r e h := ev_onB
theorem ev_for {it : Env → M (List SV × Gd)} {gg : SV → Env → Option Env} : cFor it gg s e h = Res.sr (it e h) e fun p h => forL gg s p.2 p.1 e h := by unfold cFor; cases it e h <;> rfl
def SR.gt (o : Option Env) (h : SHp) : SR := match o with
  | some e' => .nx e' h
  | none => .stuck
theorem ev_asg {gg : SV → Env → Option Env} : cAsg gg a e h = Res.sr (a e h) e fun v h => SR.gt (gg v e) h := by
  unfold cAsg; rw [ev_onV]; congr 1
theorem gt_some {e' : Env} : SR.gt (some e') h = .nx e' h := rfl
theorem ev_fn {n : Nat} {args : List SV} : fnD fz n s args h = fin fz h (s (args.map some ++ List.replicate (n - args.length) none) h) := rfl
theorem fin_rt {h' : SHp} : fin fz h (.rt v h') = gc fz h v h' := rfl
theorem fin_nx {h' : SHp} {e' : Env} : fin fz h (.nx e' h') = gc fz h .non h' := rfl
theorem fin_err {h' : SHp} {e' : Env} {cc : Addr} {fs} : fin fz h (.err cc fs e' h') = .err cc fs h' := rfl
end
end Sim

set_option Elab.async false
set_option linter.all false
set_option maxRecDepth 100000
set_option maxHeartbeats 4000000
namespace Sim
open PySem L2
instance (i j : Int) : Decidable (L2.CShl i j) := inferInstanceAs (Decidable (_ ∧ _))
def shlF : SV → SV → SHp → Option SV := op2I fun i j => if L2.CShl i j then some (.int (i * 2 ^ j.toNat)) else none
theorem o_shl {X : Cx} : OpS X (binaryOp .LShift) shlF := opI_of (g := fun i j => i * 2 ^ j.toNat) op_shlW
end Sim

set_option Elab.async false
set_option linter.all false
set_option maxRecDepth 100000
set_option maxHeartbeats 4000000
namespace Sim
open PySem L2
def rgF (v : SV) : M (List SV × Gd) := fun h => match v with
  | .int j => if -(2 ^ 62) ≤ j ∧ j < 2 ^ 62 then .ok (rngL 0 j.toNat, .no) h else .stuck
  | _ => .stuck
theorem ev_rng {a : Sim.Env → M SV} {e : Sim.Env} {h : SHp} : cRng1 a e h = Res.bd (a e h) rgF := by
  unfold cRng1; rw [ev_bind]; rfl
theorem rgF_int {i : Int} {n : Nat} (hn : n ≤ 1000000) (q : i = n) (h : SHp) : rgF (.int i) h = .ok (rngL 0 n, .no) h := by
  have c1 : -2 ^ 62 ≤ i ∧ i < 2 ^ 62 := by omega
  show (if -2 ^ 62 ≤ i ∧ i < 2 ^ 62 then _ else _) = _
  rw [if_pos c1, q, Int.toNat_natCast]
section
variable {i j : Int} {h : SHp}
theorem lt_int : ltI (.int i) (.int j) h = some (.bl (decide (i < j))) := rfl
theorem le_int : leI (.int i) (.int j) h = some (.bl (decide (i ≤ j))) := rfl
theorem gt_int : gtI (.int i) (.int j) h = some (.bl (decide (j < i))) := rfl
theorem ge_int : geI (.int i) (.int j) h = some (.bl (decide (j ≤ i))) := rfl
theorem add_int : addF (.int i) (.int j) h = some (.int (i + j)) := rfl
theorem sub_int : subI (.int i) (.int j) h = some (.int (i - j)) := rfl
theorem gN_ap {n : Nat} {s : SV} {e : Env} : gN n s e = some (e.set n (some s)) := rfl
end
/-! ### plain values: what the small operations tell of them -/
theorem shp_int (k : Int) : SeqAt.shaped (.int k) = true := rfl
theorem shp_bl (k : Bool) : SeqAt.shaped (.bool k) = true := rfl
theorem eqF_int (b : Bool) (i j : Int) (h : SHp) : eqF b (.int i) (.int j) h = some (.bl (if b then !decide (i = j) else decide (i = j))) := by
  have e : (i == j) = decide (i = j) := by by_cases c : i = j <;> simp [c]
  simp [eqF, dataT, dataV, shp_int, PyData.eqv, e]
theorem eqF_bl (b : Bool) (i j : Bool) (h : SHp) : eqF b (.bl i) (.bl j) h = some (.bl (if b then !decide (i = j) else decide (i = j))) := by
  have e : (i == j) = decide (i = j) := by cases i <;> cases j <;> rfl
  simp [eqF, dataT, dataV, shp_bl, PyData.eqv, e]
theorem dataL_ints : ∀ xs : List Int, dataL (xs.map SV.int) = some (xs.map PyData.int)
  | [] => rfl
  | x :: xs => by simp [dataL, dataV, dataL_ints xs]
theorem eqv_ints : ∀ xs ys : List Int, PyData.eqvAll (xs.map PyData.int) (ys.map PyData.int) = decide (xs = ys)
  | [], [] => rfl
  | x :: xs, [] => rfl
  | [], y :: ys => rfl
  | x :: xs, y :: ys => by
    have e : (x == y) = decide (x = y) := by by_cases c : x = y <;> simp [c]
    simp only [List.map_cons, PyData.eqvAll, PyData.eqv, eqv_ints xs ys, e]
    by_cases c : x = y <;> by_cases d : xs = ys <;> simp [c, d]
theorem lay_ints : ∀ xs : List Int, PyData.canLayAll0 (xs.map PyData.int) = true
  | [] => rfl
  | x :: xs => by simp [PyData.canLayAll0, PyData.canLay0, lay_ints xs]
theorem dep_ints : ∀ xs : List Int, PyData.depthAll (xs.map PyData.int) ≤ 1
  | [] => by simp [PyData.depthAll]
  | x :: xs => by have := dep_ints xs; simp only [List.map_cons, PyData.depthAll, PyData.depth]; omega
theorem shp_tupI (xs : List Int) : SeqAt.shaped (.tuple (xs.map PyData.int)) = true := by
  have := dep_ints xs
  simp [SeqAt.shaped, PyData.canLay0, lay_ints, PyData.depth]; omega
theorem shp_lstI (xs : List Int) : SeqAt.shaped (.list (xs.map PyData.int)) = true := by
  have := dep_ints xs
  simp [SeqAt.shaped, PyData.canLay0, lay_ints, PyData.depth]; omega
theorem eqF_tupI (b : Bool) (xs ys : List Int) (h : SHp) : eqF b (.tup (xs.map SV.int)) (.tup (ys.map SV.int)) h = some (.bl (if b then !decide (xs = ys) else decide (xs = ys))) := by
  simp [eqF, dataT, dataV, dataL_ints, shp_tupI, PyData.eqv, eqv_ints]
theorem eqF_rlsI (b : Bool) (xs ys : List Int) (h : SHp) : eqF b (.rls (xs.map SV.int)) (.rls (ys.map SV.int)) h = some (.bl (if b then !decide (xs = ys) else decide (xs = ys))) := by
  simp [eqF, dataT, dataV, dataL_ints, shp_lstI, PyData.eqv, eqv_ints]
theorem bls_true : ∀ (k : Nat), blsOf (List.replicate k (SV.bl true)) = some (List.replicate k true)
  | 0 => rfl
  | k + 1 => by simp [List.replicate_succ, blsOf, bls_true k]
theorem bls_map {α : Type} (f : α → Bool) : ∀ xs : List α, blsOf (xs.map fun x => SV.bl (f x)) = some (xs.map f)
  | [] => rfl
  | x :: xs => by simp [blsOf, bls_map f xs]
theorem all_map {α : Type} (f : α → Bool) (xs : List α) (h : SHp) : allF [.rls (xs.map fun x => SV.bl (f x))] h = some (.bl (xs.all f)) := by
  simp only [allF, Sim.listOf, bls_map, Option.map_some, List.all_map]; rfl
theorem isi_tup (xs : List SV) (h : SHp) : isiF [.tup xs, .ty "tuple"] h = some (.bl true) := by simp [isiF, tyN, tyNames, isTy]
theorem isi_int (i : Int) (h : SHp) : isiF [.int i, .ty "int"] h = some (.bl true) := by simp [isiF, tyN, tyNames, isTy]
theorem isi_intb (i : Int) (h : SHp) : isiF [.int i, .ty "bool"] h = some (.bl false) := by simp [isiF, tyN, tyNames, isTy]
theorem len_tup (xs : List SV) (h : SHp) : lenF [.tup xs] h = some (.int xs.length) := by simp [lenF, seqOf]
theorem len_lst {xs : List SV} {v : SV} {h : SHp} (e : Sim.listOf v h = some xs) (nt : tupOf v = none) : lenF [v] h = some (.int xs.length) := by
  cases v <;> simp_all [lenF, seqOf, Sim.listOf, tupOf]
theorem tup_rls (xs : List SV) (h : SHp) : tupleF [.rls xs] h = some (.tup xs) := rfl
theorem it_tup (xs : List SV) (h : SHp) : itF (.tup xs) h = .ok (xs, .no) h := rfl
theorem it_rls (xs : List SV) (h : SHp) : itF (.rls xs) h = .ok (xs, .no) h := rfl
theorem it_frl (xs : List SV) (h : SHp) : itF (.frl xs) h = .ok (xs, .no) h := rfl
theorem ixS_tup {xs : List SV} {i : Int} {h : SHp} : ixF (.tup xs) (.int i) h = L2.atI xs i := rfl
theorem ixS_rls {xs : List SV} {i : Int} {h : SHp} : ixF (.rls xs) (.int i) h = L2.atI xs i := rfl
theorem atI_map {α : Type} (xs : List α) (f : α → SV) (i : Nat) (h : i < xs.length) : L2.atI (xs.map f) (i : Int) = some (f xs[i]) :=
  L2.atI_nat (by rw [List.getElem?_map, List.getElem?_eq_getElem h]; rfl)
theorem fld_obj {C D : Addr} {f : Str} {ns : List Str} {xs : List SV} {h : SHp} : fldF C f (.obj D ns xs) h = if D = C then getF f ns xs else none := rfl
theorem seq_tup (xs : List SV) (h : SHp) : seqF (.tup xs) h = .ok xs h := rfl
abbrev nv (i : Nat) : SV := .int (i : Nat)
abbrev natsV (r : List Nat) : SV := .tup (r.map nv)
def zs (r : List Nat) : List Int := r.map Int.ofNat
theorem nv_ints (r : List Nat) : r.map nv = (zs r).map SV.int := by simp [nv, zs]

/-! the heap of one's own objects -/
theorem hp_get0 {h g : SHp} {o : SO} : (h ++ o :: g)[h.length]? = some o := by simp
theorem hp_get1 {h g : SHp} {o p : SO} : (h ++ o :: p :: g)[h.length + 1]? = some p := by
  rw [List.getElem?_append_right (by omega), show h.length + 1 - h.length = 1 by omega]; rfl
theorem hp_set0 {h g : SHp} {o u : SO} : (h ++ o :: g).set h.length u = h ++ u :: g := by simp
theorem hp_set1 {h g : SHp} {o p u : SO} : (h ++ o :: p :: g).set (h.length + 1) u = h ++ o :: u :: g := by
  rw [List.set_append_right _ _ (by omega), show h.length + 1 - h.length = 1 by omega]; rfl
theorem hp_len1 {h : SHp} {o : SO} : (h ++ [o]).length = h.length + 1 := by simp
theorem hp_app {h : SHp} {o p : SO} : h ++ [o] ++ [p] = h ++ [o, p] := by simp
section
variable {e : Env} {h h1 h2 h3 : SHp} {o i c : Env → M SV} {v w q : SV} {n : Nat} {xs ys ks : List SV}
theorem app_ok (a : o e h = .ok (.ref n) h1) (b : h1[n]? = some (.lst ys)) (d : c e h1 = .ok v h2) (g : h2[n]? = some (.lst xs)) (l : xs.length < sizeLine) : cApp o c e h = .nx e (h2.set n (.lst (xs ++ [v]))) := by
  simp only [cApp, onV, a, b, d, g]; rw [if_pos l]
theorem put_ok (d : c e h = .ok v h1) (a : o e h1 = .ok (.ref n) h2) (b : i e h2 = .ok q h3) (g : h3[n]? = some (.dic false ks xs)) (k : isK q = true) (l : ks.length < sizeLine) :
    cPut o i c e h = .nx e (h3.set n (.dic false (putD ks xs q v).1 (putD ks xs q v).2)) := by
  simp only [cPut, onV, a, b, d, g]; rw [if_pos ⟨k, l⟩]
theorem six_ok {k : Int} {j : Nat} (d : c e h = .ok v h1) (a : o e h1 = .ok (.ref n) h2) (b : i e h2 = .ok (.int k) h3) (g : h3[n]? = some (.lst xs)) (l : ixN xs.length k = some j) : cSetIx o i c e h = .nx e (h3.set n (.lst (xs.set j v))) := by
  simp only [cSetIx, onV, a, b, d, g, l]
theorem dic_ok (a : i e h = .ok q h1) (b : c e h1 = .ok v h2) (k : isK q = true) : eDic1 i c e h = .ok (.ref h2.length) (h2 ++ [.dic false [q] [v]]) := by
  simp only [eDic1, M.bind, a, b]; rw [if_pos k]
theorem fldS_ok {C : Addr} {f : Str} {ns : List Str} (d : c e h = .ok v h1) (a : o e h1 = .ok (.ref n) h2) (g : h2[n]? = some (.ins C ns xs)) (l : ns.length < 1000) : cFld C f o c e h = .nx e (h2.set n (.ins C (setF f v ns xs).1 (setF f v ns xs).2)) := by
  simp only [cFld, onV, a, d, g]; rw [if_pos ⟨trivial, l⟩]
theorem make_ok {fz : Bool} {C : Addr} {D : List SV → M SV} {as : Env → M (List SV)} {vs : List SV} (a : as e h = .ok vs h1) (d : D (.ref h1.length :: vs) (h1 ++ [.ins C [] []]) = .ok .non h2) : eMake fz C D as e h = gc fz h1 (.ref h1.length) h2 := by
  simp only [eMake, M.bind, a, d]
theorem par_ok {as : Env → M (List SV)} {k j : Nat} (a : as e h = .ok [v, w] h1) : cPar k j as e h = .nx ((e.set k (some v)).set j (some w)) h1 := by simp only [cPar, a]
theorem par3_ok {as : Env → M (List SV)} {k j l : Nat} (a : as e h = .ok [v, w, q] h1) : cPar3 k j l as e h = .nx (((e.set k (some v)).set j (some w)).set l (some q)) h1 := by simp only [cPar3, a]
theorem zipT_ok {a b : Env → M SV} (p : a e h = .ok (.tup xs) h1) (r : b e h1 = .ok (.tup ys) h2) : cZipT a b e h = .ok (zipL xs ys, .no) h2 := by simp only [cZipT, M.bind, p, r]
def fS (C : Addr) (f : Str) (e : Env) (v w : SV) (h2 : SHp) : SR := match w with
  | .ref n => match h2[n]? with
    | some (.ins D ns xs) => if D = C ∧ ns.length < 1000 then .nx e (h2.set n (.ins D (setF f v ns xs).1 (setF f v ns xs).2)) else .stuck
    | _ => .stuck
  | _ => .stuck
theorem ev_fldS {C : Addr} {f : Str} : cFld C f o c e h = Res.sr (c e h) e fun v h => Res.sr (o e h) e fun w h => fS C f e v w h := by
  unfold cFld; rw [ev_onV]; congr 1; funext v h; rw [ev_onV]; rfl
theorem fS_hp0 {C : Addr} {f : Str} {ns : List Str} : fS C f e v (.ref h.length) (h ++ [.ins C ns xs]) = if ns.length < 1000 then .nx e (h ++ [.ins C (setF f v ns xs).1 (setF f v ns xs).2]) else .stuck := by
  simp only [fS, hp_get0, hp_set0, true_and]
theorem setF_nil {f : Str} : setF f v [] [] = ([f], [v]) := rfl
theorem setF_ne {f m : Str} {ns : List Str} {x : SV} (q : (m == f) = false) : setF f v (m :: ns) (x :: xs) = (m :: (setF f v ns xs).1, x :: (setF f v ns xs).2) := by
  simp only [setF]; rw [if_neg (by simpa using q)]
end
theorem cut_tail (xs : List SV) : cutL xs (some 1) none = xs.drop 1 := by
  unfold cutL
  rw [HT.sIx_none, show (some (1 : Int)) = some ((1 : Nat) : Int) from rfl, HT.sIx_nat]
  cases xs with
  | nil => simp
  | cons x xs => simp
def ascP (xs : List Nat) : List (Nat × Nat) := List.zip xs (xs.drop 1)
theorem zip_asc' : ∀ (xs : List Nat), zipL (xs.map nv) ((xs.map nv).drop 1) = (List.zip xs (xs.drop 1)).map fun p => .tup [nv p.1, nv p.2]
  | [] => rfl
  | [x] => rfl
  | x :: y :: xs => by
    have := zip_asc' (y :: xs)
    simp only [List.map_cons, List.drop_succ_cons, List.drop_zero, List.zip_cons_cons, zipL] at this ⊢
    rw [this]
theorem zip_asc (xs : List Nat) : zipL (xs.map nv) ((xs.map nv).drop 1) = (ascP xs).map fun p => .tup [nv p.1, nv p.2] := zip_asc' xs
theorem ascP_len (xs : List Nat) : (ascP xs).length ≤ xs.length := by unfold ascP; simp
theorem asc_len0 : ∀ {xs : List Nat} {lo n : Nat}, xs.Pairwise (· < ·) → (∀ x ∈ xs, lo ≤ x ∧ x < n) → xs.length ≤ n - lo
  | [], _, _, _, _ => by simp
  | x :: xs, lo, n, hs, hx => by
    have h1 := List.pairwise_cons.mp hs
    have h2 := hx x (by simp)
    have := asc_len0 (lo := x + 1) (n := n) h1.2 (fun y hy => ⟨h1.1 y hy, (hx y (by simp [hy])).2⟩)
    simp only [List.length_cons]; omega
theorem asc_len {xs : List Nat} {n : Nat} (hs : xs.Pairwise (· < ·)) (hx : ∀ x ∈ xs, x < n) : xs.length ≤ n := by
  have := asc_len0 (lo := 0) (n := n) hs (fun x h => ⟨by omega, hx x h⟩)
  omega
theorem asc_zip {xs : List Nat} (h : xs.Pairwise (· < ·)) : ∀ p ∈ ascP xs, p.1 < p.2 := by
  unfold ascP
  induction xs with
  | nil => intro p hp; simp at hp
  | cons x xs ih =>
    cases xs with
    | nil => intro p hp; simp at hp
    | cons y xs =>
      intro p hp
      simp only [List.drop_succ_cons, List.drop_zero, List.zip_cons_cons, List.mem_cons] at hp
      rcases hp with rfl | hp
      · exact (List.pairwise_cons.mp h).1 y (by simp)
      · exact ih (List.pairwise_cons.mp h).2 p (by simpa using hp)
section
variable {g : SV → Env → Option Env} {body : ST'} {gd : Gd} {s v : SV} {ss : List SV} {e e1 e2 : Env} {h h1 h2 : SHp} {t : Env → M Bool} {n : Nat}
theorem forL_nil (k : gd.ok h = true) : forL g body gd [] e h = .nx e h := by simp only [forL, k, if_true]
theorem forL_cons (k : gd.ok h = true) (q : g s e = some e1) (b : body e1 h = .nx e2 h2) : forL g body gd (s :: ss) e h = forL g body gd ss e2 h2 := by
  simp only [forL, k, if_true, q, b]
theorem forL_rt (k : gd.ok h = true) (q : g s e = some e1) (b : body e1 h = .rt v h2) : forL g body gd (s :: ss) e h = .rt v h2 := by
  simp only [forL, k, if_true, q, b]
theorem whL_ff (q : t e h = .ok false h1) : whL t body (n + 1) e h = .nx e h1 := by simp only [whL, onB, q, Bool.false_eq_true, if_false]
theorem whL_tt (q : t e h = .ok true h1) (b : body e h1 = .nx e2 h2) : whL t body (n + 1) e h = whL t body n e2 h2 := by simp only [whL, onB, q, if_true, b]
theorem whL_rt (q : t e h = .ok true h1) (b : body e h1 = .rt v h2) : whL t body (n + 1) e h = .rt v h2 := by simp only [whL, onB, q, if_true, b]
end
theorem getD_lt {α : Type} {xs : List α} {i : Nat} {d : α} (h : i < xs.length) : xs.getD i d = xs[i] := by
  rw [List.getD_eq_getElem?_getD, List.getElem?_eq_getElem h]; rfl
theorem okr_nv (n i : Nat) : (nv i).okr n = true := by simp [SV.okr]
theorem okr_nats (n : Nat) (xs : List Nat) : (natsV xs).okr n = true := by simp [SV.okr, okrs_iff]
end Sim

set_option Elab.async false
set_option linter.all false
set_option maxRecDepth 100000
set_option maxHeartbeats 4000000
namespace Sim
open PySem L2
/-! ### dicts whose keys are numbers -/
theorem findD_none {x : Nat} : ∀ {ks : List Nat} {xs : List SV}, x ∉ ks → findD (ks.map nv) xs (nv x) = none
  | [], _, _ => rfl
  | k :: ks, [], _ => rfl
  | k :: ks, y :: xs, h => by
    simp only [List.mem_cons, not_or] at h
    simp only [List.map_cons, findD]
    rw [if_neg (by intro e; cases e; simp_all [nv]), findD_none h.2]
theorem findD_at : ∀ {ks : List Nat} {xs : List SV} {j : Nat}, ks.Nodup → ∀ (hj : j < ks.length) (hl : j < xs.length), findD (ks.map nv) xs (nv ks[j]) = some xs[j]
  | [], _, _, _, hj, _ => by simp at hj
  | k :: ks, [], _, _, _, hl => by simp at hl
  | k :: ks, y :: xs, 0, _, _, _ => by simp [findD]
  | k :: ks, y :: xs, j + 1, hn, hj, hl => by
    have hn' := List.nodup_cons.mp hn
    simp only [List.map_cons, findD, List.getElem_cons_succ]
    rw [if_neg (by
      intro e
      have e2 : (k : Int) = (ks[j]'(by simpa using hj) : Nat) := SV.int.inj e
      have e3 : k = ks[j]'(by simpa using hj) := by omega
      exact hn'.1 (e3 ▸ List.getElem_mem _))]
    exact findD_at hn'.2 (by simpa using hj) (by simpa using hl)
theorem putD_new {x : Nat} {v : SV} {ks : List Nat} {xs : List SV} (h : x ∉ ks) : putD (ks.map nv) xs (nv x) v = ((ks ++ [x]).map nv, xs ++ [v]) := by
  unfold putD
  rw [if_neg, List.map_append]; · rfl
  · intro e
    obtain ⟨y, hy, q⟩ := List.any_eq_true.mp e
    obtain ⟨z, hz, rfl⟩ := List.mem_map.mp hy
    have e1 : (z : Int) = (x : Nat) := SV.int.inj (of_decide_eq_true q)
    have e2 : z = x := by omega
    exact h (e2 ▸ hz)
theorem nodup_len : ∀ (n : Nat) (xs : List Nat), xs.Nodup → (∀ x ∈ xs, x < n) → xs.length ≤ n
  | 0, xs, _, h => by
    cases xs with
    | nil => simp
    | cons x xs => exact absurd (h x (by simp)) (by omega)
  | n + 1, xs, hn, h => by
    by_cases c : n ∈ xs
    · have h1 := nodup_len n (xs.erase n) (hn.erase n) (fun x hx => by
        have h2 := (hn.mem_erase_iff).mp hx
        have h3 := h x h2.2
        have := h2.1
        omega)
      rw [List.length_erase_of_mem c] at h1
      omega
    · have := nodup_len n xs hn (fun x hx => by
        have h3 := h x hx
        have : x ≠ n := fun e => c (e ▸ hx)
        omega)
      omega
/-! ### a map, done again and again from 0 -/
def itr (f : Nat → Nat) : Nat → Nat
  | 0 => 0
  | k + 1 => f (itr f k)
def itrs (f : Nat → Nat) (m : Nat) : List Nat := (List.range m).map (itr f)
theorem itrs_len (f : Nat → Nat) (m : Nat) : (itrs f m).length = m := by simp [itrs]
theorem itrs_get (f : Nat → Nat) (m j : Nat) (h : j < (itrs f m).length) : (itrs f m)[j] = itr f j := by simp [itrs]
theorem itrs_succ (f : Nat → Nat) (m : Nat) : itrs f (m + 1) = itrs f m ++ [itr f m] := by simp [itrs, List.range_succ]
theorem mem_itrs {f : Nat → Nat} {m x : Nat} : x ∈ itrs f m ↔ ∃ j, j < m ∧ itr f j = x := by simp [itrs]
theorem itr_add {f : Nat → Nat} {m p : Nat} (h : itr f (m + p) = itr f m) : ∀ d, itr f (m + d + p) = itr f (m + d)
  | 0 => h
  | d + 1 => by
    have := itr_add h d
    rw [show m + (d + 1) + p = (m + d + p) + 1 by omega, show m + (d + 1) = (m + d) + 1 by omega]
    simp only [itr, this]
theorem itr_mul {f : Nat → Nat} {m p : Nat} (h : itr f (m + p) = itr f m) : ∀ q d, itr f (m + d + p * q) = itr f (m + d)
  | 0, d => by simp
  | q + 1, d => by
    have := itr_mul h q d
    rw [show m + d + p * (q + 1) = m + (d + p * q) + p by rw [Nat.mul_add]; omega, itr_add h, show m + (d + p * q) = m + d + p * q by omega, this]
theorem itr_per {f : Nat → Nat} {m p t : Nat} (h : itr f (m + p) = itr f m) (ht : m ≤ t) : itr f (m + (t - m) % p) = itr f t := by
  have := itr_mul h ((t - m) / p) ((t - m) % p)
  have e : (t - m) % p + p * ((t - m) / p) = t - m := Nat.mod_add_div _ _
  rw [show m + (t - m) % p + p * ((t - m) / p) = t by omega] at this
  exact this.symm
theorem itrs_nodup_le {f : Nat → Nat} {n m : Nat} (h0 : 0 < n) (hf : ∀ s, s < n → f s < n) (hn : (itrs f m).Nodup) : m ≤ n := by
  have lt : ∀ k, itr f k < n := fun k => by
    induction k with
    | zero => exact h0
    | succ k ih => exact hf _ ih
  have := nodup_len n (itrs f m) hn (fun x hx => by
    obtain ⟨j, _, rfl⟩ := mem_itrs.mp hx
    exact lt j)
  rw [itrs_len] at this
  exact this
theorem itr_lt {f : Nat → Nat} {n : Nat} (h0 : 0 < n) (hf : ∀ s, s < n → f s < n) : ∀ k, itr f k < n
  | 0 => h0
  | k + 1 => hf _ (itr_lt h0 hf k)
theorem nodup_app {xs : List Nat} {x : Nat} (hn : xs.Nodup) (h : x ∉ xs) : (xs ++ [x]).Nodup := by
  rw [List.nodup_append]
  refine ⟨hn, by simp, ?_⟩
  intro a ha b hb e
  simp at hb; subst hb; subst e; exact h ha
theorem eqS_nv (i j : Nat) : eqS (nv i) (nv j) = decide (i = j) := by
  by_cases c : i = j
  · subst c; simp [eqS]
  · have : ¬ ((i : Int) = j) := by omega
    simp [eqS, c, this]
theorem inS_nats (s : Nat) (xs : List Nat) (h : SHp) : inSeqF false (nv s) (natsV xs) h = some (.bl (decide (s ∈ xs))) := by
  have q : ∀ xs : List Nat, (xs.map nv).all flatS = true := fun xs => by simp [flatS]
  have q2 : ∀ xs : List Nat, inL (nv s) (xs.map nv) = decide (s ∈ xs) := fun xs => by
    induction xs with
    | nil => rfl
    | cons x xs ih =>
      unfold inL at ih ⊢
      simp only [List.map_cons, List.any_cons, ih, eqS_nv]
      by_cases c : x = s
      · subst c; simp
      · have c' : ¬ s = x := fun e => c e.symm
        by_cases d : s ∈ xs <;> simp [c, d, c']
  unfold inSeqF
  simp only [seqOf]
  rw [if_pos ⟨rfl, q xs⟩, q2 xs]; rfl
section
variable {h : SHp} {xs ys ks vs : List SV} {i : Int} {o : SO} {q : SV} {g : SHp}
theorem ixr0 : ixF (.ref h.length) (.int i) (h ++ .lst xs :: g) = L2.atI xs i := by
  simp only [ixF, seqOf, Sim.listOf, hp_get0]
theorem lenr0 : lenF [.ref h.length] (h ++ .lst xs :: g) = some (.int xs.length) := by
  simp only [lenF, seqOf, Sim.listOf, hp_get0]
theorem inr1 {b : Bool} (k : isK q = true) : inF b q (.ref (h.length + 1)) (h ++ o :: .dic false ks vs :: g) = some (.bl (if b then !(findD ks vs q).isSome else (findD ks vs q).isSome)) := by
  simp only [inF, dicOf, hp_get1, keyOk, Bool.false_eq_true, if_false, k, if_true]
theorem dgr1 (k : isK q = true) : dgF (.ref (h.length + 1)) q (h ++ o :: .dic false ks vs :: g) = findD ks vs q := by
  simp only [dgF, dicOf, hp_get1, keyOk, Bool.false_eq_true, if_false, k, if_true]
end
theorem neg_int {i : Int} : negF (.int i) = some (.int (-i)) := rfl
theorem mod_nv {i j : Nat} {h : SHp} (p : 0 < j) : modI (nv i) (nv j) h = some (nv (i % j)) := by
  simp only [modI, op2I]
  rw [if_pos (by omega), Int.fmod_eq_emod_of_nonneg _ (by omega)]
  rfl
theorem sub_nv {i j : Nat} (p : j ≤ i) : SV.int ((i : Int) - (j : Nat)) = nv (i - j) := by simp only [nv]; congr 1; omega
theorem add_nv {i j : Nat} : SV.int ((i : Int) + (j : Nat)) = nv (i + j) := by simp [nv]
def pS (e : Env) (v w q : SV) (h3 : SHp) : SR := match w with
  | .ref n => match h3[n]? with
    | some (.dic t ks xs) => if keyOk t q = true ∧ ks.length < sizeLine then .nx e (h3.set n (.dic t (putD ks xs q v).1 (putD ks xs q v).2)) else .stuck
    | _ => .stuck
  | _ => .stuck
def apG (w : SV) (h1 : SHp) (X : SR) : SR := match w with
  | .ref n => match h1[n]? with
    | some (.lst _) => X
    | _ => .stuck
  | _ => .stuck
def aS (e : Env) (v w : SV) (h2 : SHp) : SR := match w with
  | .ref n => match h2[n]? with
    | some (.lst xs) => if xs.length < sizeLine then .nx e (h2.set n (.lst (xs ++ [v]))) else .stuck
    | _ => .stuck
  | _ => .stuck
section
variable {e : Env} {h : SHp} {o i c : Env → M SV} {v w q : SV} {p : SO} {g : SHp} {ks xs : List SV} {X : SR}
theorem ev_put : cPut o i c e h = Res.sr (c e h) e fun v h => Res.sr (o e h) e fun w h => Res.sr (i e h) e fun q h => pS e v w q h := by
  unfold cPut; rw [ev_onV]; congr 1; funext v h; rw [ev_onV]; congr 1; funext w h; rw [ev_onV]; rfl
theorem pS_1 (k : isK q = true) : pS e v (.ref (h.length + 1)) q (h ++ p :: .dic false ks xs :: g) = if ks.length < sizeLine then .nx e (h ++ p :: .dic false (putD ks xs q v).1 (putD ks xs q v).2 :: g) else .stuck := by
  simp only [pS, hp_get1, hp_set1, keyOk, k, Bool.false_eq_true, if_false, true_and]
theorem pS_0 (k : isK q = true) : pS e v (.ref h.length) q (h ++ .dic false ks xs :: g) = if ks.length < sizeLine then .nx e (h ++ .dic false (putD ks xs q v).1 (putD ks xs q v).2 :: g) else .stuck := by
  simp only [pS, hp_get0, hp_set0, keyOk, k, Bool.false_eq_true, if_false, true_and]
theorem ev_app : cApp o c e h = Res.sr (o e h) e fun w h1 => apG w h1 (Res.sr (c e h1) e fun v h2 => aS e v w h2) := by
  unfold cApp; rw [ev_onV]; congr 1; funext w h
  unfold apG
  cases w <;> first | rfl | skip
  rename_i n
  simp only
  cases h[n]? with
  | none => rfl
  | some ob => cases ob <;> first | rfl | skip
               simp only [ev_onV]; rfl
theorem apG_0 : apG (.ref h.length) (h ++ .lst xs :: g) X = X := by simp only [apG, hp_get0]
theorem apG_1 : apG (.ref (h.length + 1)) (h ++ p :: .lst xs :: g) X = X := by simp only [apG, hp_get1]
theorem aS_0 : aS e v (.ref h.length) (h ++ .lst xs :: g) = if xs.length < sizeLine then .nx e (h ++ .lst (xs ++ [v]) :: g) else .stuck := by
  simp only [aS, hp_get0, hp_set0]
theorem aS_1 : aS e v (.ref (h.length + 1)) (h ++ p :: .lst xs :: g) = if xs.length < sizeLine then .nx e (h ++ p :: .lst (xs ++ [v]) :: g) else .stuck := by
  simp only [aS, hp_get1, hp_set1]
end
theorem int_int {i : Int} {h : SHp} : intF [.int i] h = some (.int i) := rfl
end Sim

set_option Elab.async false
set_option linter.all false
set_option maxRecDepth 100000
set_option maxHeartbeats 4000000
namespace Sim
open PySem L2

/-! ### type(x), is -/
def typF : List SV → SHp → Option SV := fun vs h => match vs with
  | [.rdc true _ _] => none
  | [.ref n] => match h[n]? with
    | some (.lst _) => some (.ty "list")
    | some (.dic false _ _) => some (.ty "dict")
    | _ => none
  | [v] => (tyN v h).map .ty
  | _ => none
theorem typ_rel {K : PySem.W.Frag} {H : Hp} {ρ : Rho} {h : SHp} {v z : SV} {x : V} (R : RelH K H ρ h) (e : typF [v] h = some z) (r : RelS K H ρ v x) : ∃ t, z = .ty t ∧ L2.TyB K H x t := by
  cases v with
  | non => simp [typF, tyN] at e; subst e; cases r; exact ⟨_, rfl, .non⟩
  | bl b => simp [typF, tyN] at e; subst e; cases r; exact ⟨_, rfl, .bl _⟩
  | int b => simp [typF, tyN] at e; subst e; cases r; exact ⟨_, rfl, .int _⟩
  | str b => simp [typF, tyN] at e; subst e; cases r; exact ⟨_, rfl, .str _⟩
  | tup xs =>
    simp [typF, tyN] at e; subst e
    obtain ⟨a, us, rfl, hq, _⟩ := tup_rel r
    exact ⟨_, rfl, .tup hq⟩
  | rls xs =>
    simp [typF, tyN] at e; subst e
    obtain ⟨a, us, rfl, hq, _⟩ := list_rel R (v := .rls xs) rfl r
    exact ⟨_, rfl, .lst hq⟩
  | frl xs =>
    simp [typF, tyN] at e; subst e
    obtain ⟨a, us, rfl, hq, _⟩ := list_rel R (v := .frl xs) rfl r
    exact ⟨_, rfl, .lst hq⟩
  | rdc t ks xs =>
    cases t with
    | true => simp [typF] at e
    | false =>
      simp [typF, tyN] at e; subst e
      cases r with
      | rdK h _ _ _ _ => exact ⟨_, rfl, .dK h⟩
  | ref n =>
    simp only [typF] at e
    cases q : h[n]? with
    | none => simp [q] at e
    | some o =>
      obtain ⟨a, ha, ob⟩ := R.ob n o q
      cases r with
      | ref hi _ =>
        rw [hi] at ha; cases ha
        cases o with
        | lst xs => simp [q] at e; subst e; obtain ⟨us, h1, _⟩ := ob; exact ⟨_, rfl, .lst (.inl (.inl h1))⟩
        | dic t ks xs =>
          cases t with
          | true => simp [q] at e
          | false =>
            simp [q] at e; subst e
            rcases ob with ⟨kvs, h1, _⟩ | ⟨kvs, h1, ⟨e, _⟩, _⟩
            · exact ⟨_, rfl, .dK h1⟩
            · cases e
        | ins _ _ _ => simp [q] at e
  | _ => simp [typF, tyN] at e
section
variable {X : Cx}
theorem b_type : CallS X (.type "type") typF := .of L2.call_type1 fun xs H Q ρ h vs z R r e k => by
  match vs, e with
  | [v], e =>
    obtain ⟨x, us, rfl, rx, r⟩ := RelL.inv r; cases r
    obtain ⟨t, rfl, ht⟩ := typ_rel R e rx
    exact ⟨x, t, rfl, ht, k H _ .refl R (.ty .nil)⟩
  | [], e => cases e
  | _ :: _ :: _, e => simp [typF] at e
def isTF (n : Bool) : SV → SV → SHp → Option SV := fun v w _ => match v, w with
  | .ty a, .ty b => some (.bl (if n then !decide (a = b) else decide (a = b)))
  | _, _ => none
theorem o_isT : OpS X (compareOp .Is) (isTF false) := .of L2.op_isTy fun x y H Q ρ h v w z R rv rw' e k => by
  unfold isTF at e
  split at e
  · cases e; cases rv; cases rw'
    exact ⟨_, _, rfl, rfl, k H _ .refl R (.bl .nil)⟩
  · cases e
theorem o_isNT : OpS X (compareOp .IsNot) (isTF true) := .of L2.op_isNotTy fun x y H Q ρ h v w z R rv rw' e k => by
  unfold isTF at e
  split at e
  · cases e; cases rv; cases rw'
    exact ⟨_, _, rfl, rfl, k H _ .refl R (.bl .nil)⟩
  · cases e
/-- is, is not: with None, or of two types -/
def isF (n : Bool) : SV → SV → SHp → Option SV := fun v w h => match w with
  | .ty b => isTF n v (.ty b) h
  | w => if n then notNoneF v w h else isNoneF v w h
theorem o_is : OpS X (compareOp .Is) (isF false) := OpS.imp (.or o_isT o_isN) fun v w h z e => by
  unfold isF at e
  split at e
  · simp [e]
  · rename_i hn
    have : isTF false v w h = none := by
      unfold isTF
      split
      · rename_i b; exact (hn b rfl).elim
      · rfl
    rw [this]; simpa using e
theorem o_isnot : OpS X (compareOp .IsNot) (isF true) := OpS.imp (.or o_isNT o_notN) fun v w h z e => by
  unfold isF at e
  split at e
  · simp [e]
  · rename_i hn
    have : isTF true v w h = none := by
      unfold isTF
      split
      · rename_i b; exact (hn b rfl).elim
      · rfl
    rw [this]; simpa using e
end
end Sim

/-! ### min, max of a list or a tuple of ints -/
namespace L2
open PySem PySem.Spec PyProof.Rows
section
variable {prog : Program} {w : World} {A : Around} {E : Value → Shared → Prop} {s : Shared} {l : Addr} {xs : Array (Int × Tok)}
theorem iter_intTup {Q : Value → Shared → Prop} (hl : s.heap.IsTuple l (intItems xs))
    (h : ∀ s₂ : Shared, s₂ = { s with heap := s.heap.push { cls := .type "tuple_iterator", data := .fields #[.ref l, .int 0 0] } } →
      (s₂.heap.IsTupleIter s.heap.objs.size l 0 ∧ s₂.heap.IsTuple l (intItems xs)) → (∀ b ∈ [s.heap.objs.size, l], b < s₂.heap.objs.size) → l ≠ s.heap.objs.size → Q (.ref s.heap.objs.size) s₂) :
    wpAny (model prog w) A (pyIter (.ref l)) Q E s := by
  have hlt : l < s.heap.objs.size := by obtain ⟨_, e, _⟩ := hl; exact Heap.lt_size e
  refine wpAny_pyIter_tuple hl (h _ rfl ⟨⟨_, Heap.get?_push_size _ rfl, rfl, rfl⟩, hl.push _⟩ (fun b hb => ?_) (Nat.ne_of_lt hlt))
  show b < (s.heap.push _).objs.size
  rw [Heap.size_push]
  rcases List.mem_cons.mp hb with rfl | hb
  · exact Nat.lt_succ_self _
  · rcases List.mem_cons.mp hb with rfl | hb
    · exact Nat.lt_succ_of_lt hlt
    · cases hb
theorem old_keptT {h' : Heap} {o : Obj} (hk : ∀ b u, b ∉ [s.heap.objs.size] → (s.heap.push o).get? b = some u → h'.get? b = some u) :
    ∀ b u, s.heap.get? b = some u → h'.get? b = some u := fun b u e => by
  refine hk b u (fun hm => ?_) (Heap.get?_push_of_some _ e)
  rcases List.mem_cons.mp hm with e1 | hm
  · exact absurd (e1 ▸ Heap.lt_size e) (Nat.lt_irrefl _)
  · cases hm
theorem max_intTup {Q : Value → Shared → Prop} (hh : A.handled = none) (hl : s.heap.IsTuple l (intItems xs)) (hne : 0 < xs.size)
    (h : ∀ v h' tk, (intItems xs)[argBest (fun i j => decide (numAt xs i > numAt xs j)) (xs.size - 1)]? = some v → (∀ b o, s.heap.get? b = some o → h'.get? b = some o) → Q v { s with heap := h', toks := tk }) :
    wpAny (model prog w) A (call (.builtin "max") [.ref l]) Q E s := by
  refine call_max_walk (iter_intTup hl fun s₂ e st hfp hlI => ?_)
  subst e
  refine ⟨_, _, _, _, _, _, _, rfl, Walks.tuple (A := A.in1) hh _ l hlI (intItems xs), st, hfp, by simpa [intItems] using hne, CmpOf.ints_gt (numAt xs) (fun _ _ => intItems_at), fun v h' tk hP hk => ?_⟩
  exact h v h' tk (by simpa [intItems] using hP) (old_keptT hk)
theorem min_intTup {Q : Value → Shared → Prop} (hh : A.handled = none) (hl : s.heap.IsTuple l (intItems xs)) (hne : 0 < xs.size)
    (h : ∀ v h' tk, (intItems xs)[argBest (fun i j => decide (numAt xs i < numAt xs j)) (xs.size - 1)]? = some v → (∀ b o, s.heap.get? b = some o → h'.get? b = some o) → Q v { s with heap := h', toks := tk }) :
    wpAny (model prog w) A (call (.builtin "min") [.ref l]) Q E s := by
  refine call_min_walk (iter_intTup hl fun s₂ e st hfp hlI => ?_)
  subst e
  refine ⟨_, _, _, _, _, _, _, rfl, Walks.tuple (A := A.in1) hh _ l hlI (intItems xs), st, hfp, by simpa [intItems] using hne, CmpOf.ints_lt (numAt xs) (fun _ _ => intItems_at), fun v h' tk hP hk => ?_⟩
  exact h v h' tk (by simpa [intItems] using hP) (old_keptT hk)
end
section
variable {prog : Program} {w : World} {A : Around} {E : Value → Shared → Prop} {s : Shared} {l : Addr} {its : List Value} {ns : List Int} {Q : Value → Shared → Prop}
theorem max_rawT (hh : A.handled = none) (hl : s.heap.IsTuple l its.toArray) (hi : IntsAre its ns) (hne : 0 < ns.length)
    (h : ∀ h' tk M t', (∀ b o, s.heap.get? b = some o → h'.get? b = some o) → M ∈ ns → (∀ a, a ∈ ns → a ≤ M) → Q (.int M t') { s with heap := h', toks := tk }) : wpAny (model prog w) A (call (.builtin "max") [.ref l]) Q E s := by
  obtain ⟨xs, e⟩ := hi.allInts.items
  have hn : numsOf (intItems xs).toList = ns := by rw [← e]; exact hi.numsOf
  rw [nums_intItems] at hn
  subst hn
  rw [e] at hl
  have hsz : 0 < xs.size := by simpa using hne
  refine max_intTup hh hl hsz fun v h' tk hv hk => ?_
  obtain ⟨t, rfl⟩ := intItems_at hv
  obtain ⟨h1, h2⟩ := argBest_gt (numAt xs) (xs.size - 1)
  refine h h' tk _ t hk ?_ fun a ha => ?_
  · rw [numAt_eq]; exact PySem.getD_mem (by rw [List.length_map, Array.length_toList]; omega)
  · obtain ⟨j, hj, rfl⟩ := mem_getD ha
    rw [List.length_map, Array.length_toList] at hj
    rw [← numAt_eq]; exact h2 j (by omega)
theorem min_rawT (hh : A.handled = none) (hl : s.heap.IsTuple l its.toArray) (hi : IntsAre its ns) (hne : 0 < ns.length)
    (h : ∀ h' tk M t', (∀ b o, s.heap.get? b = some o → h'.get? b = some o) → M ∈ ns → (∀ a, a ∈ ns → M ≤ a) → Q (.int M t') { s with heap := h', toks := tk }) : wpAny (model prog w) A (call (.builtin "min") [.ref l]) Q E s := by
  obtain ⟨xs, e⟩ := hi.allInts.items
  have hn : numsOf (intItems xs).toList = ns := by rw [← e]; exact hi.numsOf
  rw [nums_intItems] at hn
  subst hn
  rw [e] at hl
  have hsz : 0 < xs.size := by simpa using hne
  refine min_intTup hh hl hsz fun v h' tk hv hk => ?_
  obtain ⟨t, rfl⟩ := intItems_at hv
  obtain ⟨h1, h2⟩ := argBest_lt (numAt xs) (xs.size - 1)
  refine h h' tk _ t hk ?_ fun a ha => ?_
  · rw [numAt_eq]; exact PySem.getD_mem (by rw [List.length_map, Array.length_toList]; omega)
  · obtain ⟨j, hj, rfl⟩ := mem_getD ha
    rw [List.length_map, Array.length_toList] at hj
    rw [← numAt_eq]; exact h2 j (by omega)
end
section
variable {X : Cx}
def rMaxA (K : PySem.W.Frag) : List V → Hp → VK → Prop := fun vs H Q => ∃ (a : Addr) (ns : List Int), vs = [V.ref a] ∧ (SqL K H a (ns.map V.int) ∨ SqT K H a (ns.map V.int)) ∧ 0 < ns.length ∧ ∀ m, m ∈ ns → (∀ y, y ∈ ns → y ≤ m) → Q (.int m) H
def rMinA (K : PySem.W.Frag) : List V → Hp → VK → Prop := fun vs H Q => ∃ (a : Addr) (ns : List Int), vs = [V.ref a] ∧ (SqL K H a (ns.map V.int) ∨ SqT K H a (ns.map V.int)) ∧ 0 < ns.length ∧ ∀ m, m ∈ ns → (∀ y, y ∈ ns → m ≤ y) → Q (.int m) H
theorem cr_maxA (hc : X.calm = true) : CallR X (.builtin "max") (rMaxA X.K) := by
  intro pins s σ H vs us Q I r h
  obtain ⟨a, ns, rfl, hs, hne, q⟩ := h
  rcases hs with hs | hs
  · exact cr_max hc pins s σ H _ us Q I r ⟨a, ns, rfl, hs, hne, q⟩
  · obtain ⟨its, rv, hl, _⟩ := I.tuple hs
    rw [Vals.ref1 r]
    exact max_rawT (I.ok.hd hc) hl rv.ints hne fun h' tk m t' hk h1 h2 => ⟨.int _, H, I.kept hk, ⟨_, rfl⟩, q m h1 h2⟩
theorem cr_minA (hc : X.calm = true) : CallR X (.builtin "min") (rMinA X.K) := by
  intro pins s σ H vs us Q I r h
  obtain ⟨a, ns, rfl, hs, hne, q⟩ := h
  rcases hs with hs | hs
  · exact cr_min hc pins s σ H _ us Q I r ⟨a, ns, rfl, hs, hne, q⟩
  · obtain ⟨its, rv, hl, _⟩ := I.tuple hs
    rw [Vals.ref1 r]
    exact min_rawT (I.ok.hd hc) hl rv.ints hne fun h' tk m t' hk h1 h2 => ⟨.int _, H, I.kept hk, ⟨_, rfl⟩, q m h1 h2⟩
end
end L2
namespace Sim
open PySem L2
def maxL : List Int → Int
  | [] => 0
  | [x] => x
  | x :: xs => max x (maxL xs)
def minL : List Int → Int
  | [] => 0
  | [x] => x
  | x :: xs => min x (minL xs)
theorem maxL_spec : ∀ {xs : List Int}, xs ≠ [] → maxL xs ∈ xs ∧ ∀ y ∈ xs, y ≤ maxL xs
  | [], h => (h rfl).elim
  | [x], _ => by simp [maxL]
  | x :: y :: xs, _ => by
    obtain ⟨h1, h2⟩ := maxL_spec (xs := y :: xs) (by simp)
    have e : maxL (x :: y :: xs) = max x (maxL (y :: xs)) := rfl
    rw [e]
    refine ⟨?_, fun z hz => ?_⟩
    · rcases Int.le_total x (maxL (y :: xs)) with q | q
      · rw [Int.max_eq_right q]; exact List.mem_cons_of_mem _ h1
      · rw [Int.max_eq_left q]; exact List.mem_cons_self
    · rcases List.mem_cons.mp hz with rfl | hz
      · exact Int.le_max_left ..
      · exact Int.le_trans (h2 z hz) (Int.le_max_right ..)
theorem minL_spec : ∀ {xs : List Int}, xs ≠ [] → minL xs ∈ xs ∧ ∀ y ∈ xs, minL xs ≤ y
  | [], h => (h rfl).elim
  | [x], _ => by simp [minL]
  | x :: y :: xs, _ => by
    obtain ⟨h1, h2⟩ := minL_spec (xs := y :: xs) (by simp)
    have e : minL (x :: y :: xs) = min x (minL (y :: xs)) := rfl
    rw [e]
    refine ⟨?_, fun z hz => ?_⟩
    · rcases Int.le_total x (minL (y :: xs)) with q | q
      · rw [Int.min_eq_left q]; exact List.mem_cons_self
      · rw [Int.min_eq_right q]; exact List.mem_cons_of_mem _ h1
    · rcases List.mem_cons.mp hz with rfl | hz
      · exact Int.min_le_left ..
      · exact Int.le_trans (Int.min_le_right ..) (h2 z hz)
def bestF (f : List Int → Int) : List SV → SHp → Option SV := fun vs h => match vs with
  | [v] => (seqOf v h).bind fun xs => (intsOf xs).bind fun ns => if ns = [] then none else some (.int (f ns))
  | _ => none
abbrev max1F := bestF maxL
abbrev min1F := bestF minL
section
variable {X : Cx}
theorem best_rel {f : List Int → Int} {K : PySem.W.Frag} {H : Hp} {ρ : Rho} {h : SHp} {vs : List SV} {z : SV} {xs : List V} (R : RelH K H ρ h) (r : RelL K H ρ vs xs) (e : bestF f vs h = some z) :
    ∃ (a : Addr) (ns : List Int), xs = [V.ref a] ∧ (SqL K H a (ns.map V.int) ∨ SqT K H a (ns.map V.int)) ∧ ns ≠ [] ∧ z = .int (f ns) := by
  unfold bestF at e
  split at e
  · rename_i v
    obtain ⟨x, us, rfl, rx, r⟩ := RelL.inv r; cases r
    cases q : seqOf v h with
    | none => simp [q] at e
    | some ys =>
      cases q2 : intsOf ys with
      | none => simp [q, q2] at e
      | some ns =>
        simp [q, q2] at e
        obtain ⟨a, us, rfl, hq, rr⟩ := seq_rel R q rx
        rw [ints_rel rr q2] at hq
        exact ⟨a, ns, rfl, hq, e.1, e.2.symm⟩
  · cases e
theorem b_max1 (hc : X.calm = true) : CallS X (.builtin "max") max1F := .of (L2.cr_maxA hc) fun xs H Q ρ h vs z R r e k => by
  obtain ⟨a, ns, rfl, hq, hn, rfl⟩ := best_rel R r e
  refine ⟨a, ns, rfl, hq, List.length_pos_iff.mpr hn, fun m h1 h2 => ?_⟩
  have := maxL_spec hn
  rw [show m = maxL ns from Int.le_antisymm (this.2 m h1) (h2 _ this.1)]
  exact k H _ .refl R (.int .nil)
theorem b_min1 (hc : X.calm = true) : CallS X (.builtin "min") min1F := .of (L2.cr_minA hc) fun xs H Q ρ h vs z R r e k => by
  obtain ⟨a, ns, rfl, hq, hn, rfl⟩ := best_rel R r e
  refine ⟨a, ns, rfl, hq, List.length_pos_iff.mpr hn, fun m h1 h2 => ?_⟩
  have := minL_spec hn
  rw [show m = minL ns from Int.le_antisymm (h2 _ this.1) (this.2 m h1)]
  exact k H _ .refl R (.int .nil)
end
end Sim

set_option Elab.async false
set_option linter.all false
set_option maxRecDepth 100000
set_option maxHeartbeats 4000000
namespace Sim
open PySem L2

/-! ### texts that nobody reads -/
abbrev relU : Hp → Rho → Unit → V → Prop := fun _ _ _ _ => True
abbrev relJ : Hp → Rho → Nat → V → Prop := fun _ _ n x => ∃ y : Str, x = .str y ∧ y.length ≤ n
structure SU (X : Cx) (W : WX) (e : Expr) (c : Env → M Unit) : Prop where
  pe : PE X e (tG X.K W relU c)
structure SJ (X : Cx) (W : WX) (e : Expr) (c : Env → M Nat) : Prop where
  pe : PE X e (tG X.K W relJ c)
def uV (c : Env → M SV) : Env → M Unit := fun e => M.bind (c e) fun _ => M.ret ()
def uJ (c : Env → M Nat) : Env → M Unit := fun e => M.bind (c e) fun _ => M.ret ()
/-- what a part of an f-string may come to -/
def fmtC : List SV → Option Nat
  | [] => some 9
  | .int i :: xs => if i.natAbs.log2 < 1920 then (fmtC xs).map (· + 1930) else none
  | .str y :: xs => (fmtC xs).map (· + ((reprText y).length + 2))
  | _ :: _ => none
def fmtN : SV → Option Nat
  | .int i => if i.natAbs.log2 < 1920 then some 1930 else none
  | .str y => if y.length ≤ sizeLine then some y.length else none
  | .tup xs => (fmtC xs).bind fun n => if n ≤ sizeLine then some n else none
  | _ => none
def eFmtN (c : Env → M SV) : Env → M Nat := fun e => M.bind (c e) fun v => M.of (fmtN v)
def eStrN (n : Nat) : Env → M Nat := fun _ => M.ret n
def joinN : List (Env → M Nat) → Nat → Env → M Unit
  | [], _, _ => M.ret ()
  | c :: cs, n, e => M.bind (c e) fun m => if n + m ≤ sizeLine then joinN cs (n + m) e else fun _ => .stuck
inductive SJs (X : Cx) (W : WX) : List Expr → List (Env → M Nat) → Prop where
  | nil : SJs X W [] []
  | cons {e : Expr} {c : Env → M Nat} {es : List Expr} {cs : List (Env → M Nat)} (h : SJ X W e c) (r : SJs X W es cs) : SJs X W (e :: es) (c :: cs)
theorem fmtC_texts {K : PySem.W.Frag} {H : Hp} {ρ : Rho} {prog : Program} {w : World} : ∀ {xs : List SV} {n : Nat} {us : List V} {its : List Value}, fmtC xs = some n → n ≤ sizeLine → RelL K H ρ xs us → Vals us its → ∃ ts, ReprAll prog w its ts ∧ piled ts + 9 ≤ n
  | [], _, _, _, e, _, r, q => by
    cases e; rw [r.nil_inv] at q; cases q
    exact ⟨[], .nil, by simp [piled]⟩
  | x :: xs, n, _, _, e, hn, r, q => by
    obtain ⟨v, us, rfl, rx, rr⟩ := r.inv
    cases q with
    | cons q1 q2 =>
      cases x with
      | int i =>
        unfold fmtC at e
        by_cases c : i.natAbs.log2 < 1920
        · rw [if_pos c] at e
          cases e2 : fmtC xs with
          | none => rw [e2] at e; cases e
          | some m =>
            rw [e2] at e; simp only [Option.map_some, Option.some.injEq] at e; subst e
            obtain ⟨ts, h1, h2⟩ := fmtC_texts (prog := prog) (w := w) e2 (by omega) rr q2
            cases rx
            obtain ⟨t, rfl⟩ := q1
            have hl := int_text_length_le (k := 1920) (by decide) c
            refine ⟨_ :: ts, .cons (ReprIs.int t c) h1, ?_⟩
            rw [piled_cons, PySem.ofString_length]
            omega
        · rw [if_neg c] at e; cases e
      | str y =>
        unfold fmtC at e
        cases e2 : fmtC xs with
        | none => rw [e2] at e; cases e
        | some m =>
          rw [e2] at e; simp only [Option.map_some, Option.some.injEq] at e; subst e
          obtain ⟨ts, h1, h2⟩ := fmtC_texts (prog := prog) (w := w) e2 (by omega) rr q2
          cases rx
          obtain ⟨t, rfl⟩ := q1
          refine ⟨_ :: ts, .cons (ReprIs.str y t (by omega)) h1, ?_⟩
          rw [piled_cons]
          omega
      | _ => simp [fmtC] at e
section
variable {X : Cx} {W : WX} {pos : Pos} {e : Expr} {c : Env → M SV}
theorem SE.u (h : SE X W e c) : SU X W e (uV c) := ⟨imp_pe h.pe fun σ H Q ⟨ρ, h, env, R, RE, P⟩ => ⟨ρ, h, env, R, RE, (Post.bind (rel := relS X.K) P).mono fun x H1 ⟨ρ1, v, h1, E1, R1, r1, P1⟩ => P1 ρ1 H1 x .refl R1 trivial⟩⟩
theorem j_str {x : Str} {j} : SJ X W (.Constant (.str x) j pos) (eStrN x.length) := ⟨imp_pe pe_str fun σ H Q ⟨ρ, h, env, R, RE, P⟩ => P ρ H _ .refl R ⟨x, rfl, Nat.le_refl _⟩⟩
theorem j_fmt {k : Nat} (hr : Room k X.A) (he : SE X W e c) : SJ X W (.FormattedValue e (-1) none pos) (eFmtN c) := by
  refine ⟨⟨fun pins s σ H Q I hh => ?_⟩⟩
  obtain ⟨ρ, h, env, R, RE, P⟩ := hh
  have P2 := Post.bind (rel := relS X.K) P
  refine wpAny_FormattedValue_plain (thn (he.pe.run pins s σ H _ I ⟨ρ, h, env, R, RE, P2⟩) fun v s1 hv => ?_)
  obtain ⟨x, H1, I1, r1, ρ1, sv, h1, E1, R1, rx, P1⟩ := hv
  cases sv with
  | str y =>
    simp only [fmtN] at P1
    by_cases c : y.length ≤ sizeLine
    · rw [if_pos c] at P1
      cases rx
      have q := P1 ρ1 H1 (.str y) .refl R1 ⟨y, rfl, Nat.le_refl _⟩
      obtain ⟨t, rfl⟩ := r1
      exact wpAny_formatField_str ⟨.str y, H1, I1, ⟨t, rfl⟩, q⟩ ⟨.str y, H1, I1.tok _, ⟨_, rfl⟩, q⟩ c
    · rw [if_neg c] at P1; exact P1.elim
  | int i =>
    simp only [fmtN] at P1
    by_cases c : i.natAbs.log2 < 1920
    · rw [if_pos c] at P1
      cases rx
      have hl := int_text_length_le (k := 1920) (by decide) c
      have q := P1 ρ1 H1 (.str (toString i)) .refl R1 ⟨_, rfl, by rw [PySem.ofString_length]; omega⟩
      obtain ⟨t, rfl⟩ := r1
      exact wpAny_formatField_int c ⟨.str (toString i), H1, I1.tok _, ⟨_, rfl⟩, q⟩
    · rw [if_neg c] at P1; exact P1.elim
  | tup xs =>
    simp only [fmtN] at P1
    cases e2 : fmtC xs with
    | none => rw [e2] at P1; exact P1.elim
    | some n =>
      rw [e2] at P1
      by_cases c : n ≤ sizeLine
      · have P3 : Post X.K W relJ σ ρ1 H1 (M.of (some n) h1) Q := by
          have : (if n ≤ sizeLine then some n else none) = some n := if_pos c
          simp only [Option.bind_some, this] at P1; exact P1
        obtain ⟨a, us, rfl, ht, rr⟩ := tup_rel rx
        cases r1
        obtain ⟨its, rv, ⟨o, ho, hcl, m, hd⟩, _⟩ := I1.tuple ht
        obtain ⟨ts, h3, h4⟩ := fmtC_texts (prog := X.prog) (w := X.w) e2 c rr rv
        have htx := fmt_text ts
        have hu := hr.units
        refine fmt_tuple (ts := ts) (by omega) ho hcl hd h3 (by omega) fun m u tk hm => ⟨.str m, H1, I1.tok _, ⟨u, rfl⟩, P3 ρ1 H1 (.str m) .refl R1 ⟨m, rfl, by omega⟩⟩
      · have : (if n ≤ sizeLine then some n else none) = none := if_neg c
        simp only [Option.bind_some, this] at P1; exact P1.elim
  | _ => exact P1.elim
theorem str_app_len (a b : Str) : (a ++ b).length = a.length + b.length := PySem.strLen_append a b
theorem joinN_run : ∀ {es : List Expr} {cs : List (Env → M Nat)}, SJs X W es cs → ∃ ts, PJ X es ts ∧ ∀ (acc : Str) (n : Nat) (σ : St) (H : Hp) (Q : VK) (ρ : Rho) (h : SHp) (env : Env), acc.length ≤ n → RelH X.K H ρ h → RelE X.K H ρ env σ →
    Post X.K W relU σ ρ H (joinN cs n env h) Q → tJs ts acc σ H fun out H1 => Q (.str out) H1
  | _, _, .nil => ⟨[], .nil, fun acc n σ H Q ρ h env hl R RE P => P ρ H _ .refl R trivial⟩
  | _, _, @SJs.cons _ _ e c es cs hj hr => by
    obtain ⟨ts, hp, k⟩ := joinN_run hr
    refine ⟨_ :: ts, .cons hj.pe hp, fun acc n σ H Q ρ h env hl R RE P => ⟨ρ, h, env, R, RE, (Post.bind (rel := relJ) P).mono fun x H1 ⟨ρ1, m, h1, E1, R1, r1, P1⟩ => ?_⟩⟩
    obtain ⟨y, rfl, hy⟩ := r1
    by_cases c : n + m ≤ sizeLine
    · simp only [if_pos c] at P1
      exact ⟨y, rfl, by rw [str_app_len]; omega, k (acc ++ y) (n + m) σ H1 Q ρ1 h1 env (by rw [str_app_len]; omega) R1 (RE.mono R.holds E1) P1⟩
    · simp only [if_neg c] at P1; exact P1.elim
theorem u_join {v1 v2 : Expr} {rest : List Expr} {cs : List (Env → M Nat)} (h : SJs X W (v1 :: v2 :: rest) cs) : SU X W (.JoinedStr (v1 :: v2 :: rest) pos) (joinN cs 0) := by
  obtain ⟨ts, hp, k⟩ := joinN_run h
  exact ⟨imp_pe (pe_joined hp) fun σ H Q ⟨ρ, h, env, R, RE, P⟩ => k Str.empty 0 σ H Q ρ h env (Nat.le_refl _) R RE P⟩

/-! ### raise -/
def cRaise (C : Addr) (c : Env → M Unit) : ST' := fun e h => match c e h with
  | .ok _ h' => .err C [] e h'
  | .err cc fs h' => .err cc fs e h'
  | .stuck => .stuck
theorem s_raise {C : Addr} {bmB : List Value} {B newId initId : String} {x : Str} {cu : Env → M Unit} {p pos' : Pos} (F : ExcBaseFacts B newId initId bmB) (q : PySem.W.excIn X.K C bmB newId = true) (kC : PySem.W.keepIn X.K (.ref C) = true)
    (bC : PySem.W.subIn X.K (.ref C) (.type "BaseException") = some true) (tC : PySem.W.typeIn X.K (.ref C) = some (.type "type"))
    (gC : X.mg x = some (.ref C)) (hc : X.calm = true) (tk : Takes X W) (he : SU X W e cu) (hg : Gl X x := by rfl) (hs : starEach [e] X.env = (false, eval e X.env) :: starEach [] X.env := by rfl) (hdb : (x == ("__debug__" : Str)) = false := by decide) :
    SS X W (.Raise (some (.Call (.Name x p) [e] [] pos)) none pos') (cRaise C cu) :=
  ⟨imp_ps (ps_raise hc tk (SkE.pmk_own1 F q gC kC (raises_own bC tC) hg he.pe hs hdb)) fun D σ H ⟨ρ, h, env, R, RE, P⟩ => ⟨ρ, h, env, R, RE, by
    unfold cRaise at P
    cases z : cu env h with
    | ok v h' => rw [z] at P; exact fun ρ1 H1 x E1 R1 _ => P ρ1 H1 σ (.ref C) none E1 R1 (RE.mono R.holds E1) ⟨rfl, .inl ⟨rfl, rfl⟩⟩
    | err cc fs h' => rw [z] at P; exact fun ρ1 H1 cv d E1 R1 q => P ρ1 H1 σ cv d E1 R1 (RE.mono R.holds E1) q
    | stuck => rw [z] at P; exact P⟩⟩

/-! ### try: one clause without a name -/
def SR.noErr : SR → SR
  | .err _ _ _ _ => .stuck
  | r => r
def cTry1 (m : Addr → Option Bool) (b s : ST') : ST' := fun e h => match b e h with
  | .err c fs e' h' => match m c with
    | some true => SR.noErr (s e' h')
    | some false => .err c fs e' h'
    | none => .stuck
  | r => r
theorem s_try1 {x : Str} {C : Addr} {body suite : List Stmt} {b₀ : Stmt} {np pos' : Pos} {b s : ST'} {m : Addr → Option Bool} (hm : ∀ c k, m c = some k → PySem.W.exmOne X.K (.ref c) (.ref C) = some k) (gC : X.mg x = some (.ref C)) (tk : Takes X W)
    (hb : ∀ (W' : WX) (pn : List (Addr × Obj)) (xe : Value → Shared → Prop), Takes (X.tr pn xe) W' → PassesOwn (model X.prog X.w) X.A X.env xe → SSs (X.tr pn xe) W' body b)
    (hsu : ∀ (a : Addr) (oe : Obj) (cls : Value) (d : Option Addr) (pn : List (Addr × Obj)), Zc cls d oe → (∃ vs, oe.data = .fields vs) → SSs (X.suite a ((a, oe) :: pn)) W0 (b₀ :: suite) s)
    (hs : X.stack = X.env :: X.outer := by rfl) (hf : X.env.frame = some X.env.locals := by rfl) (hg : Gl X x := by rfl) (hdb : (x == ("__debug__" : Str)) = false := by decide) :
    SS X W (.Try body [.ExceptHandler (some (.Name x np)) none (b₀ :: suite) pos'] [] [] pos) (cTry1 m b s) :=
  ⟨imp_ps (ps_try_only (c := .ref C) (tb := fun W' => tR X.K W' b) (ts := fun _ _ _ => tR X.K W0 s) hs hf ⟨hg, hdb, .inl gC⟩ tk (fun W' pn xe t p => (hb W' pn xe t p).pss) (fun a oe cls d pn z f => (hsu a oe cls d pn z f).pss)) fun D σ H ⟨ρ, h, env, R, RE, P⟩ => ⟨ρ, h, env, R, RE, by
    unfold cTry1 at P
    cases z : b env h with
    | err c fs e' h' =>
      rw [z] at P
      simp only at P
      intro ρ1 H1 σ1 cv d E1 R1 RE1 q
      obtain ⟨rfl, _⟩ := q
      cases mc : m c with
      | none => rw [mc] at P; exact P.elim
      | some k =>
        rw [mc] at P
        refine ⟨k, hm c k mc, fun hk a ha => ?_, fun hk => ?_⟩
        · subst hk
          refine ⟨ρ1, h', e', R1, RE1, ?_⟩
          have P' := PostR.shift P E1
          simp only at P'
          cases z2 : s e' h' with
          | err _ _ _ _ => rw [z2] at P'; exact P'.elim
          | nx _ _ => rw [z2] at P'; exact P'
          | rt _ _ => rw [z2] at P'; exact P'
          | bk _ _ => rw [z2] at P'; exact P'
          | ct _ _ => rw [z2] at P'; exact P'
          | stuck => rw [z2] at P'; exact P'.elim
        · subst hk
          exact P ρ1 H1 σ1 _ d E1 R1 RE1 ⟨rfl, by assumption⟩
    | nx _ _ => rw [z] at P; exact P
    | rt _ _ => rw [z] at P; exact P
    | bk _ _ => rw [z] at P; exact P
    | ct _ _ => rw [z] at P; exact P
    | stuck => rw [z] at P; exact P⟩⟩
end
end Sim

set_option Elab.async false
set_option linter.all false
set_option maxRecDepth 100000
set_option maxHeartbeats 4000000
namespace L2
open PySem PySem.Spec PyProof.Rows
section
variable {prog : Program} {w : World} {A : Around} {E : Value → Shared → Prop} {s : Shared} {K : PySem.W.Frag} {x C f : Addr} {ox od : Obj}
theorem looks_of_typeIs {M : Model} {u : Value} {T : String} (h : s.TypeIs u T) : PySem.W.Looks M s.heap (typeOf u) (.type T) := fun A Q E s' k q => by
  cases u with
  | ref a =>
    obtain ⟨o, ho, hc⟩ := h
    exact wpAny_typeOf_ref (k _ _ ho) (by rw [hc]; exact q)
  | _ => exact wpAny_of_eq h q
theorem callSp_K {M : Model} {args : List Value} {name : Str} {Q : Option Value → Shared → Prop} (X : K.In s.heap) (I : PySem.W.InstAt s.heap x ox C (some od)) (hs : PySem.W.findIn K (.ref C) name = some (some (.ref f))) (hf : PySem.W.isFn K (.ref f) = true)
    (h : wpAny M A (call (.ref f) (.ref x :: args)) (fun v => Q (some v)) E s) : wpAny M A (callSpecial? (.ref x) name args) Q E s := by
  unfold callSpecial? specialOf
  refine wpAny_bind (wpAny_bind (I.type.here ((PySem.W.looks_findIn X hs).here ?_)))
  have fin : wpAny M A (call (.ref f) ([.ref x] ++ args) >>= fun v => pure (some v)) Q E s := wpAny_bind (wpAny_mono h (fun v s' h' => wpAny_pure h') fun _ _ h' => h')
  refine wpAny_holding (wpAny_bind ((PySem.W.bind_fn X _ (beq_iff_eq.mp hf)).here ?_))
  first | exact fin | exact wpAny_pure fin
theorem str_ownK {Q : Value → Shared → Prop} (hu : A.units + 2 < cLine) (X : K.In s.heap) (I : PySem.W.InstAt s.heap x ox C (some od)) (hs : PySem.W.findIn K (.ref C) "__str__" = some (some (.ref f))) (hf : PySem.W.isFn K (.ref f) = true)
    (h : wpAny (model prog w) A.in1.in1 (call (.ref f) [.ref x]) (fun r s' => ∃ m tk, r = .str m tk ∧ Q (.str m tk) s') E s) : wpAny (model prog w) A (call (.type "str") [.ref x]) Q E s :=
  callType_newIn F.called_str (by decide) (F.typeCall_str_1 _) (F.newCall_str_1 _) (fun obj => F.args_object_init_2 obj _) F.entry_str_new
    (S := fun A' R s' => A' = A.in1 ∧ s' = s ∧ (∀ m tk s2, Q (.str m tk) s2 → R (.ok (.ret (.str m tk))) s2) ∧ ∀ e s2, E e s2 → R (.error e) s2) (.of_wp fun A' R s' hh => by
      obtain ⟨rfl, rfl, hR, hE⟩ := hh
      rw [str_new_tree]
      refine wpAny_bind (wpAny_pure ?_)
      refine wpAny_bind (wpAny_of_eq isSubtype_str_str ?_)
      refine wpAny_bind ?_
      unfold Builtin.Str.strOf
      rw [if_neg (by simp [Builtin.Str.isExactStr])]
      refine wpAny_bind (wpAny_cRoomFor (by show A.units + 1 + 1 < cLine; exact hu) ?_)
      refine wpAny_bind (callSp_K X I hs hf (wpAny_mono h (fun r s2 hr => ?_) fun e s2 he => hE e s2 he))
      obtain ⟨m, tk, rfl, q⟩ := hr
      exact wpAny_pure (wpAny_pure ⟨_, rfl, hR m tk s2 q⟩)) ⟨rfl, rfl, fun m tk s2 q => ⟨typeIs_str _ _ _, q⟩, fun _ _ e => e⟩
theorem objNe_entryK {b : Value} {Q : Fin → Shared → Prop} (hu : A.units < cLine) (X : K.In s.heap) (I : PySem.W.InstAt s.heap x ox C (some od)) (hs : PySem.W.findIn K (.ref C) "__eq__" = some (some (.ref f))) (hf : PySem.W.isFn K (.ref f) = true)
    (hcall : wpAny (model prog w) A (call (.ref f) [.ref x, b]) (fun v s' => ∃ b, v = .bool b ∧ Q (.done (.ret (.bool (!b)))) s') E s) :
    wpAny (model prog w) A (Builtin.«object.__ne__» ⟨[.ref x, b], []⟩) Q E s := by
  unfold Builtin.«object.__ne__»
  repeat (first
    | with_reducible refine wpAny_cRoomFor hu ?_
    | (refine wpAny_bind (m := callSpecialIfBound? (.ref x) (Str.ofString "__eq__") [b])
        (PySem.W.ifBound_K X I hs hf (wpAny_mono hcall (fun r s' hr => by
          obtain ⟨b, rfl, hq⟩ := hr
          repeat (first | exact hq | exact wpAny_pure hq | exact wpAny_truthy_bool hq | (refine wpAny_bind (m := truthy (.bool _)) (wpAny_truthy_bool ?_)) | wp_step)) fun _ _ e => e)))
    | wp_step)
theorem ifBoundB_K {M : Model} {B : String} {id : String} {args : List Value} {name : Str} {Q : Option Value → Shared → Prop} (X : K.In s.heap) (I : PySem.W.InstAt s.heap x ox C (some od)) (hs : PySem.W.findIn K (.ref C) name = some (some (.builtin id))) (S : Slot B name id)
    (h : wpAny M A (call (.builtin id) (.ref x :: args)) (fun v => Q (some v)) E s) : wpAny M A (callSpecialIfBound? (.ref x) name args) Q E s := by
  simp only [callSpecialIfBound?, bindSpecialIfBound?]
  refine wpAny_holding (wpAny_bind (wpAny_bind (wpAny_bind (I.type.here ((PySem.W.looks_findIn X hs).here ?_)))))
  simp only [S.bind]
  refine wpAny_bind (wpAny_askSetting (wpAny_ite ?_))
  have fin : wpAny M A (call (.builtin id) ([.ref x] ++ args) >>= fun v => pure (some v)) Q E s :=
    wpAny_bind (wpAny_mono h (fun v s' h' => wpAny_pure h') fun _ _ h' => h')
  split
  · exact wpAny_bind (wpAny_pure (wpAny_pure fin))
  · exact wpAny_tryCatch (wpAny_bind (wpAny_pure (wpAny_pure fin)))
theorem tryNe_K {b : Value} {Q : Option Value → Shared → Prop} (hu : A.units + 1 < cLine) (X : K.In s.heap) (I : PySem.W.InstAt s.heap x ox C (some od)) (hn : PySem.W.findIn K (.ref C) "__ne__" = some (some (.builtin "object.__ne__"))) (hm : PySem.W.mroIn K C (.type "object") = some true)
    (hs : PySem.W.findIn K (.ref C) "__eq__" = some (some (.ref f))) (hf : PySem.W.isFn K (.ref f) = true)
    (hcall : wpAny (model prog w) A.in1 (call (.ref f) [.ref x, b]) (fun v s' => ∃ b, v = .bool b ∧ Q (some (.bool (!b))) s') E s) : wpAny (model prog w) A (tryCompare (.ref x) "__ne__" b) Q E s := by
  unfold tryCompare
  have sub : PySem.W.Looks (model prog w) s.heap (isInstance (.ref x) (.type "object")) true := I.type.andThen (PySem.W.looks_mroIn X hm)
  refine wpAny_bind (ifBoundB_K X I hn F.cmp_object.ne (wpAny_call (codeAny_call_builtin F.cmp_object.ne.plain F.cmpEntry_ne (PySem.W.check_slot (kw := []) F.cmpKind_ne F.cmpSplit_ne sub (F.cmpArgs_ne _ _) (objNe_entryK (A := A.in1) hu X I hs hf (wpAny_mono hcall (fun v s' hv => ?_) fun _ _ e => e))))))
  obtain ⟨b, rfl, hq⟩ := hv
  first | exact ⟨b, rfl, wpAny_pure hq⟩ | exact ⟨b, rfl, wpAny_pure (wpAny_pure hq)⟩ | exact ⟨b, rfl, hq⟩
theorem ne_ownK {b tb : Value} {Q : Value → Shared → Prop} (hu : A.units + 1 < cLine) (X : K.In s.heap) (I : PySem.W.InstAt s.heap x ox C (some od)) (hb : PySem.W.Looks (model prog w) s.heap (typeOf b) tb) (hnf : PySem.W.notFirst K C tb = true)
    (hn : PySem.W.findIn K (.ref C) "__ne__" = some (some (.builtin "object.__ne__"))) (hm : PySem.W.mroIn K C (.type "object") = some true)
    (hs : PySem.W.findIn K (.ref C) "__eq__" = some (some (.ref f))) (hf : PySem.W.isFn K (.ref f) = true)
    (hcall : wpAny (model prog w) A.in1 (call (.ref f) [.ref x, b]) (fun v s' => ∃ b, v = .bool b ∧ Q (.bool (!b)) s') E s) : wpAny (model prog w) A (richCompare .NotEq (.ref x) b) Q E s := by
  have one : wpAny (model prog w) A (tryCompare (.ref x) "__ne__" b) (fun r s' => ∃ v, r = some v ∧ Q v s') E s :=
    tryNe_K hu X I hn hm hs hf (wpAny_mono hcall (fun v s' ⟨k, e, q⟩ => ⟨k, e, _, rfl, q⟩) fun _ _ e => e)
  unfold richCompare
  simp only [oneThing_ref]
  refine wpAny_holding (wpAny_bind (wpAny_cRoomFor (Nat.lt_of_succ_lt hu) ?_))
  rw [cmpInfo_NotEq]
  dsimp only
  refine wpAny_bind (I.type.here (wpAny_bind (hb.here ?_)))
  split
  · rename_i q
    have e : PySem.W.subIn K tb (.ref C) = some false := by
      rcases Bool.or_eq_true_iff.mp hnf with e | e
      · rw [beq_iff_eq.mp e] at q; simp at q
      · exact beq_iff_eq.mp e
    refine wpAny_bind ((PySem.W.looks_subIn X e).here ?_)
    simp only [Bool.false_eq_true, if_false]
    refine wpAny_bind (wpAny_mono one (fun r s' z => ?_) fun _ _ e => e)
    obtain ⟨v, rfl, hq⟩ := z
    exact wpAny_pure hq
  · refine wpAny_bind (wpAny_pure ?_)
    simp only [Bool.false_eq_true, if_false]
    refine wpAny_bind (wpAny_mono one (fun r s' z => ?_) fun _ _ e => e)
    obtain ⟨v, rfl, hq⟩ := z
    exact wpAny_pure hq
end
end L2

set_option Elab.async false
set_option linter.all false
set_option maxRecDepth 100000
set_option maxHeartbeats 4000000
namespace Sim
open PySem L2

/-! ### == and != by an own __eq__ -/
def instOf (v : SV) (h : SHp) : Option Addr := match v with
  | .obj C _ _ => some C
  | .ref n => match h[n]? with
    | some (.ins C _ _) => some C
    | _ => none
  | _ => none
/-- what a class must have for its own == -/
structure EqC (K : PySem.W.Frag) (C f : Addr) (ts : List String) : Prop where
  eq : PySem.W.findIn K (.ref C) "__eq__" = some (some (.ref f))
  fn : PySem.W.isFn K (.ref f) = true
  ne : PySem.W.findIn K (.ref C) "__ne__" = some (some (.builtin "object.__ne__"))
  mro : PySem.W.mroIn K C (.type "object") = some true
  ts : ∀ t ∈ ts, PySem.W.notFirst K C (.type t) = true
def eqOk (C : Addr) (ts : List String) (v w : SV) (h : SHp) : Bool := decide (instOf v h = some C) && (decide (instOf w h = some C) || match typF [w] h with
  | some (.ty t) => ts.contains t
  | _ => false)
def eqO (neg : Bool) (C : Addr) (ts : List String) (D : List SV → M SV) (v w : SV) : M SV := fun h => if eqOk C ts v w h = true then match D [v, w] h with
    | .ok (.bl k) h' => .ok (.bl (if neg then !k else k)) h'
    | _ => .stuck
  else .stuck
def eEqO (neg : Bool) (C : Addr) (ts : List String) (D : List SV → M SV) (a b : Env → M SV) : Env → M SV := fun e => M.bind (a e) fun v => M.bind (b e) fun w => eqO neg C ts D v w
section
variable {K : PySem.W.Frag} {H : Hp} {ρ : Rho} {h : SHp} {v : SV} {x : V} {C : Addr}
theorem inst_rel (R : RelH K H ρ h) (r : RelS K H ρ v x) (e : instOf v h = some C) : ∃ a dx fv, x = .ref a ∧ H a = some (.ins C dx fv) := by
  cases v with
  | obj D ns xs =>
    cases e
    obtain ⟨a, dx, fv, rfl, hH, _⟩ := ins_rel R r (.inl rfl)
    exact ⟨a, dx, fv, rfl, hH⟩
  | ref n =>
    unfold instOf at e
    cases q : h[n]? with
    | none => simp [q] at e
    | some o =>
      cases o with
      | ins D ns xs =>
        simp [q] at e; subst e
        obtain ⟨a, dx, fv, rfl, hH, _⟩ := ins_rel R r (.inr ⟨n, rfl, q⟩)
        exact ⟨a, dx, fv, rfl, hH⟩
      | _ => simp [q] at e
  | _ => cases e
end
section
variable {X : Cx} {W : WX} {k : Nat} {f C : Addr} {fd : FuncData} {ps : List Str} {D : List SV → M SV}
/-- a def called with values, from anywhere below the body -/
theorem call_any {A : Around} {pins : List (Addr × Obj)} {σ : St} {H : Hp} {s : Shared} {us : List Value} {vs : List V} {Q : VK} {R : Value → Shared → Prop} (F : FnOk X.prog X.w X.K X.mg X.base (L2.CX X.prog X.w) k f fd ps (spS X.K ps.length D)) (hb : Binds X.K fd ps []) (hr : Room k A) (hfr : A.frames = X.A.frames)
    (I : Inv X pins σ H s) (r : Vals vs us) (hn : vs.length = ps.length) (sp : spS X.K ps.length D vs H Q (fun _ _ _ => False)) (hR : ∀ u s' v H', Inv X pins σ H' s' → L2.RelV v u → Q v H' → R u s') :
    wpAny (model X.prog X.w) A (call (.ref f) us) R X.xe s := by
  have e0 : Env0 X.prog X.w X.K X.mg X.base A X.stack s H := by
    have e := I.env0
    exact ⟨by rw [hfr]; exact e.frames, e.mod, e.bs, e.bsz, e.funs, e.frf, e.hok, e.bare⟩
  have hl : us.length = ps.length := by rw [← r.length]; exact hn
  have b := hb s us I.kIn (by simpa using hl)
  rw [List.append_nil] at b
  refine wpAny_call (codeAny_mono (F.run A X.stack s H ⟨us, []⟩ us vs Q (fun _ _ _ => False) hr e0 b r sp) fun r s' hq => ?_)
  cases r with
  | error e => exact (noCXs hq).elim
  | ok fl =>
    cases fl with
    | ret w =>
      obtain ⟨z, H', I', rz, q⟩ := I.after hq
      exact hR w s' z H' I' rz q
    | next => exact False.elim hq
    | brk => exact False.elim hq
    | cont => exact False.elim hq
where
  noCXs {H : Hp} {s : Shared} {e : Value} {s' : Shared} (h : L2.CX X.prog X.w X.stack H s (fun _ _ _ => False) e s') : False := by
    obtain ⟨_, _, _, _, _, _, _, _, _, _, _, _, z⟩ := h
    exact z.elim
def rEqO (K : PySem.W.Frag) (C : Addr) (ts : List String) (neg : Bool) (D : List SV → M SV) : R2 := fun x y H Q => (∃ a dx fv, x = .ref a ∧ H a = some (.ins C dx fv)) ∧ ((∃ b dy gv, y = .ref b ∧ H b = some (.ins C dy gv)) ∨ ∃ t ∈ ts, L2.TyB K H y t) ∧
  spS K 2 D [x, y] H (fun v H' => ∃ k, v = .bl k ∧ Q (.bl (if neg then !k else k)) H') (fun _ _ _ => False)
theorem looks_inst {H : Hp} {pins : List (Addr × Obj)} {σ : St} {s : Shared} {y : V} {u : Value} {ts : List String} (I : Inv X pins σ H s) (ry : L2.RelV y u) (E : EqC X.K C f ts) (hy : (∃ b dy gv, y = .ref b ∧ H b = some (.ins C dy gv)) ∨ ∃ t ∈ ts, L2.TyB X.K H y t) :
    ∃ tb, PySem.W.Looks (model X.prog X.w) s.heap (typeOf u) tb ∧ PySem.W.notFirst X.K C tb = true := by
  rcases hy with ⟨b, dy, gv, rfl, hb⟩ | ⟨t, ht, hy⟩
  · cases ry
    obtain ⟨mB, J', _⟩ := ins_get I.hok hb
    obtain ⟨od', J', _⟩ := J'.look
    exact ⟨.ref C, J'.type, by simp [PySem.W.notFirst]⟩
  · exact ⟨.type t, L2.looks_of_typeIs (hy.is I ry), E.ts t ht⟩
theorem op_eqO {ts : List String} (E : EqC X.K C f ts) (F : FnOk X.prog X.w X.K X.mg X.base (L2.CX X.prog X.w) k f fd ps (spS X.K ps.length D)) (h2 : ps.length = 2) (hb : Binds X.K fd ps []) (hr : Room k X.A) : OpR X (compareOp .Eq) (rEqO X.K C ts false D) := by
  intro pins s σ H x y v u Q I rx ry hq
  obtain ⟨⟨a, dx, fv, rfl, ha⟩, hy, sp⟩ := hq
  cases rx
  show wpAny (model X.prog X.w) X.A (richCompare .Eq (.ref a) u) (EP X pins σ Q) X.xe s
  obtain ⟨mA, J, _⟩ := ins_get I.hok ha
  obtain ⟨od, J, _⟩ := J.look
  obtain ⟨tb, hl, hnf⟩ := looks_inst I ry E hy
  obtain ⟨m, hF⟩ := I.fr
  refine PySem.W.cmp_K (op := .Eq) (tb := tb) hr.units0 hF I.ok.mod.kin J hl hnf E.eq E.fn ?_
  refine call_any (vs := [.ref a, y]) F hb hr rfl I (.cons rfl (.cons ry .nil)) (by rw [h2]; rfl) (by rw [h2]; exact sp) fun w s' z H' I' rz hz => ?_
  obtain ⟨k, rfl, q⟩ := hz
  cases rz
  exact ⟨.bl k, H', I', rfl, q⟩
theorem op_neO {ts : List String} (E : EqC X.K C f ts) (F : FnOk X.prog X.w X.K X.mg X.base (L2.CX X.prog X.w) k f fd ps (spS X.K ps.length D)) (h2 : ps.length = 2) (hb : Binds X.K fd ps []) (hr : Room (k + 1) X.A) : OpR X (compareOp .NotEq) (rEqO X.K C ts true D) := by
  intro pins s σ H x y v u Q I rx ry hq
  obtain ⟨⟨a, dx, fv, rfl, ha⟩, hy, sp⟩ := hq
  cases rx
  show wpAny (model X.prog X.w) X.A (richCompare .NotEq (.ref a) u) (EP X pins σ Q) X.xe s
  obtain ⟨mA, J, _⟩ := ins_get I.hok ha
  obtain ⟨od, J, _⟩ := J.look
  obtain ⟨tb, hl, hnf⟩ := looks_inst I ry E hy
  have hu := hr.units
  refine L2.ne_ownK (tb := tb) (by omega) I.kIn J hl hnf E.ne E.mro E.eq E.fn ?_
  refine call_any (vs := [.ref a, y]) F hb hr.in1 rfl I (.cons rfl (.cons ry .nil)) (by rw [h2]; rfl) (by rw [h2]; exact sp) fun w s' z H' I' rz hz => ?_
  obtain ⟨k, rfl, q⟩ := hz
  cases rz
  exact ⟨k, rfl, .bl (!k), H', I', rfl, q⟩
variable {pos : Pos} {a b : Expr} {ca cb : Env → M SV}
theorem post_eqO {neg : Bool} {ts : List String} {σ : St} {H : Hp} {Q : VK} (h : tS X.K W (eEqO neg C ts D ca cb) σ H Q) : tOp (rEqO X.K C ts neg D) (tS X.K W ca) (tS X.K W cb) σ H Q := by
  obtain ⟨ρ, h, env, R, RE, P⟩ := h
  refine ⟨ρ, h, env, R, RE, (Post.bind (rel := relS X.K) P).mono fun x H1 ⟨ρ1, v, h1, E1, R1, r1, P1⟩ => ?_⟩
  refine ⟨ρ1, h1, env, R1, RE.mono R.holds E1, (Post.bind (rel := relS X.K) P1).mono fun y H2 ⟨ρ2, w, h2, E2, R2, r2, P2⟩ => ?_⟩
  have r1' := r1.mono R1.holds E2
  unfold eqO at P2
  by_cases c : eqOk C ts v w h2 = true
  · rw [if_pos c] at P2
    unfold eqOk at c
    simp only [Bool.and_eq_true, Bool.or_eq_true, decide_eq_true_eq] at c
    refine ⟨inst_rel R2 r1' c.1, ?_, rfl, ρ2, h2, [v, w], R2, .cons r1' r2, ?_⟩
    · rcases c.2 with q | q
      · exact .inl (inst_rel R2 r2 q)
      · right
        split at q
        · rename_i t e
          obtain ⟨t', e', ht⟩ := typ_rel R2 e r2
          cases e'
          exact ⟨t, by simpa using q, ht⟩
        · cases q
    · cases z : D [v, w] h2 with
      | ok r h3 =>
        rw [z] at P2
        cases r with
        | bl k =>
          intro ρ3 H3 x3 E3 R3 r3
          cases r3
          exact ⟨k, rfl, P2 ρ3 H3 _ E3 R3 (.bl .nil)⟩
        | _ => exact P2.elim
      | err _ _ _ => rw [z] at P2; exact P2.elim
      | stuck => rw [z] at P2; exact P2.elim
  · rw [if_neg c] at P2; exact P2.elim
theorem e_eqO {ts : List String} (E : EqC X.K C f ts) (F : FnOk X.prog X.w X.K X.mg X.base (L2.CX X.prog X.w) k f fd ps (spS X.K ps.length D)) (h2 : ps.length = 2) (hb : Binds X.K fd ps []) (hr : Room k X.A) (ha : SE X W a ca) (hb' : SE X W b cb)
    (hm : behindInMarks .Eq b = false := by first | exact nomark _ (by decide) (by decide) | rfl) : SE X W (.Compare a [.Eq] [b] pos) (eEqO false C ts D ca cb) :=
  ⟨imp_pe (pe_cmpR (op_eqO E F h2 hb hr) ha.pe hb'.pe hm) fun σ H Q h => post_eqO h⟩
theorem e_neO {ts : List String} (E : EqC X.K C f ts) (F : FnOk X.prog X.w X.K X.mg X.base (L2.CX X.prog X.w) k f fd ps (spS X.K ps.length D)) (h2 : ps.length = 2) (hb : Binds X.K fd ps []) (hr : Room (k + 1) X.A) (ha : SE X W a ca) (hb' : SE X W b cb)
    (hm : behindInMarks .NotEq b = false := by first | exact nomark _ (by decide) (by decide) | rfl) : SE X W (.Compare a [.NotEq] [b] pos) (eEqO true C ts D ca cb) :=
  ⟨imp_pe (pe_cmpR (op_neO E F h2 hb hr) ha.pe hb'.pe hm) fun σ H Q h => post_eqO h⟩
end

/-! ### texts that are read -/
def fmtS : SV → Option SV
  | .int i => if i.natAbs.log2 < 1920 then some (.str (toString i)) else none
  | .str y => if y.length ≤ sizeLine then some (.str y) else none
  | _ => none
def eFmtS (c : Env → M SV) : Env → M SV := fun e => M.bind (c e) fun v => M.of (fmtS v)
def joinS : List (Env → M SV) → Str → Env → M SV
  | [], acc, _ => M.ret (.str acc)
  | c :: cs, acc, e => M.bind (c e) fun v => match v with
    | .str y => if (acc ++ y).length ≤ sizeLine then joinS cs (acc ++ y) e else fun _ => .stuck
    | _ => fun _ => .stuck
inductive SSL (X : Cx) (W : WX) : List Expr → List (Env → M SV) → Prop where
  | nil : SSL X W [] []
  | cons {e : Expr} {c : Env → M SV} {es : List Expr} {cs : List (Env → M SV)} (h : SE X W e c) (r : SSL X W es cs) : SSL X W (e :: es) (c :: cs)
def strF : List SV → SHp → Option SV := fun vs _ => match vs with
  | [.int i] => if i.natAbs.log2 < 1920 then some (.str (toString i)) else none
  | [.str y] => some (.str y)
  | _ => none
section
variable {X : Cx} {W : WX} {pos : Pos} {e : Expr} {c : Env → M SV}
theorem e_fmtS (he : SE X W e c) : SE X W (.FormattedValue e (-1) none pos) (eFmtS c) := ⟨imp_pe (pe_fmt he.pe) fun σ H Q ⟨ρ, h, env, R, RE, P⟩ => ⟨ρ, h, env, R, RE, (Post.bind (rel := relS X.K) P).mono fun x H1 ⟨ρ1, v, h1, E1, R1, r1, P1⟩ => by
  cases v with
  | int i =>
    simp only [fmtS] at P1
    by_cases c : i.natAbs.log2 < 1920
    · rw [if_pos c] at P1; cases r1; exact .inr ⟨i, rfl, c, P1 ρ1 H1 _ .refl R1 (.str .nil)⟩
    · rw [if_neg c] at P1; exact P1.elim
  | str y =>
    simp only [fmtS] at P1
    by_cases c : y.length ≤ sizeLine
    · rw [if_pos c] at P1; cases r1; exact .inl ⟨y, rfl, c, P1 ρ1 H1 _ .refl R1 (.str .nil)⟩
    · rw [if_neg c] at P1; exact P1.elim
  | _ => exact P1.elim⟩⟩
theorem joinS_run : ∀ {es : List Expr} {cs : List (Env → M SV)}, SSL X W es cs → ∃ ts, PJ X es ts ∧ ∀ (acc : Str) (σ : St) (H : Hp) (Q : VK) (ρ : Rho) (h : SHp) (env : Env), RelH X.K H ρ h → RelE X.K H ρ env σ →
    Post X.K W (relS X.K) σ ρ H (joinS cs acc env h) Q → tJs ts acc σ H fun out H1 => Q (.str out) H1
  | _, _, .nil => ⟨[], .nil, fun acc σ H Q ρ h env R RE P => P ρ H _ .refl R (.str .nil)⟩
  | _, _, @SSL.cons _ _ e c es cs hj hr => by
    obtain ⟨ts, hp, k⟩ := joinS_run hr
    refine ⟨_ :: ts, .cons hj.pe hp, fun acc σ H Q ρ h env R RE P => ⟨ρ, h, env, R, RE, (Post.bind (rel := relS X.K) P).mono fun x H1 ⟨ρ1, v, h1, E1, R1, r1, P1⟩ => ?_⟩⟩
    cases v with
    | str y =>
      cases r1
      by_cases c : (acc ++ y).length ≤ sizeLine
      · simp only [if_pos c] at P1
        exact ⟨y, rfl, c, k (acc ++ y) σ H1 Q ρ1 h1 env R1 (RE.mono R.holds E1) P1⟩
      · simp only [if_neg c] at P1; exact P1.elim
    | _ => exact P1.elim
theorem e_join {v1 v2 : Expr} {rest : List Expr} {cs : List (Env → M SV)} (h : SSL X W (v1 :: v2 :: rest) cs) : SE X W (.JoinedStr (v1 :: v2 :: rest) pos) (joinS cs Str.empty) := by
  obtain ⟨ts, hp, k⟩ := joinS_run h
  exact ⟨imp_pe (pe_joined hp) fun σ H Q ⟨ρ, h, env, R, RE, P⟩ => k Str.empty σ H Q ρ h env R RE P⟩
theorem b_strI : CallS X (.type "str") (fun vs h => match vs with | [.int i] => if i.natAbs.log2 < 1920 then some (.str (toString i)) else none | _ => none) := .of call_str_int fun xs H Q ρ h vs z R r e k => by
  split at e
  · rename_i i
    obtain ⟨x, us, rfl, rx, r⟩ := RelL.inv r; cases r; cases rx
    by_cases c : i.natAbs.log2 < 1920
    · rw [if_pos c] at e; cases e; exact ⟨i, rfl, c, k H _ .refl R (.str .nil)⟩
    · rw [if_neg c] at e; cases e
  · cases e
theorem b_strS : CallS X (.type "str") (fun vs h => match vs with | [.str y] => some (.str y) | _ => none) := .of SkE.call_str_str fun xs H Q ρ h vs z R r e k => by
  split at e
  · rename_i i
    obtain ⟨x, us, rfl, rx, r⟩ := RelL.inv r; cases r; cases rx; cases e
    exact ⟨_, rfl, k H _ .refl R (.str .nil)⟩
  · cases e
theorem CallS.imp {f : Value} {g g' : List SV → SHp → Option SV} (h : CallS X f g) (i : ∀ vs h z, g' vs h = some z → g vs h = some z) : CallS X f g' :=
  fun pins s σ H vs us Q I r q => h pins s σ H vs us Q I r (by
    obtain ⟨ρ, h, ws, z, R, rr, e, k⟩ := q
    exact ⟨ρ, h, ws, z, R, rr, i _ _ _ e, k⟩)
theorem b_str : CallS X (.type "str") strF := CallS.imp (.or b_strI b_strS) fun vs h z e => by
  unfold strF at e
  split at e
  · simp only; rw [e]; rfl
  · simpa using e
  · cases e
/-- str of an object with an own __str__ -/
structure StrC (K : PySem.W.Frag) (C f : Addr) : Prop where
  st : PySem.W.findIn K (.ref C) "__str__" = some (some (.ref f))
  fn : PySem.W.isFn K (.ref f) = true
def strO (C : Addr) (D : List SV → M SV) (vs : List SV) : M SV := fun h => match vs with
  | [v] => if instOf v h = some C then match D [v] h with
    | .ok (.str y) h' => .ok (.str y) h'
    | _ => .stuck
    else .stuck
  | _ => .stuck
def eStrO (C : Addr) (D : List SV → M SV) (c : Env → M SV) : Env → M SV := fun e => M.bind (c e) fun v => strO C D [v]
variable {k : Nat} {f C : Addr} {fd : FuncData} {ps : List Str} {D : List SV → M SV}
def rStrO (K : PySem.W.Frag) (C : Addr) (D : List SV → M SV) : List V → Hp → VK → Prop := fun xs H Q => ∃ a dx fv, xs = [.ref a] ∧ H a = some (.ins C dx fv) ∧ spS K 1 D [.ref a] H (fun v H' => ∃ y, v = .str y ∧ Q (.str y) H') (fun _ _ _ => False)
theorem call_strO (S : StrC X.K C f) (F : FnOk X.prog X.w X.K X.mg X.base (L2.CX X.prog X.w) k f fd ps (spS X.K ps.length D)) (h1 : ps.length = 1) (hb : Binds X.K fd ps []) (hr : Room (k + 2) X.A) : CallR X (.type "str") (rStrO X.K C D) := by
  intro pins s σ H xs us Q I r h
  obtain ⟨a, dx, fv, rfl, ha, sp⟩ := h
  obtain ⟨u, rfl, ru⟩ := vals1 r
  cases ru
  obtain ⟨mA, J, _⟩ := ins_get I.hok ha
  obtain ⟨od, J, _⟩ := J.look
  have hu := hr.units
  refine L2.str_ownK (by omega) I.kIn J S.st S.fn ?_
  refine call_any (vs := [.ref a]) F hb hr.in1.in1 rfl I (.cons rfl .nil) (by rw [h1]; rfl) (by rw [h1]; exact sp) fun w s' z H' I' rz hz => ?_
  obtain ⟨y, rfl, q⟩ := hz
  obtain ⟨t, rfl⟩ := rz
  exact ⟨y, t, rfl, .str y, H', I', ⟨t, rfl⟩, q⟩
theorem e_strO {p : Pos} (S : StrC X.K C f) (F : FnOk X.prog X.w X.K X.mg X.base (L2.CX X.prog X.w) k f fd ps (spS X.K ps.length D)) (h1 : ps.length = 1) (hb : Binds X.K fd ps []) (hr : Room (k + 2) X.A) (hm : X.mg "str" = none) (he : SE X W e c) (hg : Gl X "str" := by rfl)
    (hs : starEach [e] X.env = (false, eval e X.env) :: starEach [] X.env := by rfl) :
    SE X W (.Call (.Name "str" p) [e] [] pos) (eStrO C D c) :=
  ⟨imp_pe (pe_callTy (call_strO S F h1 hb hr) hg hm (by decide +kernel) (pa_cons he.pe pa_nil hs) (he := hs)) fun σ H Q ⟨ρ, h, env, R, RE, P⟩ => ⟨ρ, h, env, R, RE, (Post.bind (rel := relS X.K) P).mono fun x H1 ⟨ρ1, v, h2, E1, R1, r1, P1⟩ => by
    unfold strO at P1
    simp only at P1
    by_cases c : instOf v h2 = some C
    · rw [if_pos c] at P1
      obtain ⟨a, dx, fv, rfl, ha⟩ := inst_rel R1 r1 c
      refine ⟨a, dx, fv, rfl, ha, rfl, ρ1, h2, [v], R1, r1, ?_⟩
      cases z : D [v] h2 with
      | ok r h3 =>
        rw [z] at P1
        cases r with
        | str y => exact fun ρ3 H3 x3 E3 R3 r3 => by cases r3; exact ⟨y, rfl, P1 ρ3 H3 _ E3 R3 (.str .nil)⟩
        | _ => exact P1.elim
      | err _ _ _ => rw [z] at P1; exact P1.elim
      | stuck => rw [z] at P1; exact P1.elim
    · rw [if_neg c] at P1; exact P1.elim⟩⟩
end
end Sim

set_option Elab.async false
set_option linter.all false
set_option maxRecDepth 100000
set_option maxHeartbeats 4000000
namespace HT
open PySem PySem.Spec PyProof.Rows L2
section
variable {prog : Program} {w : World} {A : Around} {E : Value → Shared → Prop} {s : Shared}
theorem places_rev (n : Nat) : Builtin.Slice.slicePlaces ((n : Int) - 1) (-1) (-1) = n := by
  unfold Builtin.Slice.slicePlaces
  have h1 : ¬ ((-1 : Int) > 0) := by omega
  simp only [h1, if_false]
  split
  · have : (((n : Int) - 1 - -1 - 1) / - -1 + 1) = n := by rw [show (- -1 : Int) = 1 by rfl, Int.ediv_one]; omega
    rw [this]; simp
  · have : n = 0 := by omega
    subst this; rfl
theorem pick_rev (xs : Array Value) : ((List.range xs.size).filterMap fun (m : Nat) => xs[(((xs.size : Int) - 1) + (m : Int) * -1).toNat]?).toArray = xs.toList.reverse.toArray := by
  congr 1
  have key : ∀ n ≤ xs.size, (List.range n).filterMap (fun (m : Nat) => xs[(((xs.size : Int) - 1) + (m : Int) * -1).toNat]?) = xs.toList.reverse.take n := by
    intro n
    induction n with
    | zero => intro _; simp
    | succ n ih =>
      intro hn
      rw [List.range_succ, List.filterMap_append, ih (by omega), List.take_add_one]
      congr 1
      have e : (((xs.size : Int) - 1) + (n : Int) * -1).toNat = xs.size - 1 - n := by omega
      have hl : xs.size - 1 - n < xs.size := by omega
      have e2 : xs.toList.reverse[n]? = some xs[xs.size - 1 - n] := by
        rw [List.getElem?_reverse (by simp; omega)]
        simp [hl]
      rw [e2]
      simp only [List.filterMap_cons, List.filterMap_nil, e, Array.getElem?_eq_getElem hl, Option.toList_some]
  have := key xs.size (Nat.le_refl _)
  rw [this, List.take_of_length_le (by simp)]
theorem sliceApplied_rev {sl : Addr} {vl vu vs : Value} {n : Nat} {Q : Int × Int × Nat → Shared → Prop} (hs : s.heap.IsSliceOf sl vl vu vs) (pl : IsPart vl none) (pu : IsPart vu none) (ps : IsPart vs (some (-1)))
    (h : Q ((n : Int) - 1, -1, n) s) : wpAny (model prog w) A (Builtin.Slice.sliceApplied (.ref sl) (pure (n : Int))) Q E s := by
  obtain ⟨os, hos, hcs, hds⟩ := id hs
  unfold Builtin.Slice.sliceApplied Builtin.Slice.sliceFields
  refine wpAny_bind (wpAny_bind (wpAny_field hos hds (x := vl) rfl (wpAny_bind (wpAny_field hos hds (x := vu) rfl (wpAny_bind (wpAny_field hos hds (x := vs) rfl (wpAny_pure ?_)))))))
  refine wpAny_bind (slicePart_ ps ?_)
  show wpAny _ _ (if ((-1 : Int) == 0) = true then _ else _) _ _ s
  rw [if_neg (by decide)]
  refine wpAny_bind (slicePart_ pl (wpAny_bind (slicePart_ pu (wpAny_bind (wpAny_pure ?_)))))
  show wpAny _ _ (pure ((n : Int) - 1, (-1 : Int), Builtin.Slice.slicePlaces ((n : Int) - 1) (-1) (-1))) _ _ s
  rw [places_rev]
  exact wpAny_pure h
theorem getItem_tuple_rev {t sl : Addr} {items : Array Value} {vl vu vs : Value} {Q : Value → Shared → Prop} (ht : IsTup s.heap t items) (hs : s.heap.IsSliceOf sl vl vu vs) (pl : IsPart vl none) (pu : IsPart vu none) (ps : IsPart vs (some (-1)))
    (h : Q (.ref s.heap.objs.size) { s with heap := s.heap.push { cls := .type "tuple", data := .seq items.toList.reverse.toArray } })
    (hsz : items.size ≤ sizeLine) : wpAny (model prog w) A (getItem (.ref t) (.ref sl)) Q E s := by
  have htake : sizeOk (.seq items.toList.reverse.toArray) := by
    show items.toList.reverse.toArray.size ≤ sizeLine
    rw [List.size_toArray, List.length_reverse, Array.length_toList]
    omega
  obtain ⟨os, hos, hcs, hds⟩ := id hs
  have hTs : s.TypeIs (.ref sl) "slice" := ⟨os, hos, hcs⟩
  unfold getItem
  try with_reducible refine wpAny_holding ?_
  first | refine wpAny_bind (wpAny_pure ?_) | skip
  refine wpAny_bind (wpAny_sequenceKey ht.typeIs (by decide) ?_)
  refine wpAny_bind (wpAny_callSpecial?_slot (name := Str.ofString "__getitem__") ht.typeIs PyProof.Rows.slot_tuple_getitem
    (wpAny_call_entry PyProof.Rows.slot_tuple_getitem ht.typeIs entry_tuple_getitem ?_ (args_tuple_getitem _ _)))
  show wpAny _ _ (Builtin.Tuple.tupleItemsOf (.ref t) >>= _) _ _ s
  refine wpAny_bind (tupleItemsOf_ ht ?_)
  refine wpAny_bind (wpAny_typeOf hTs ?_)
  rw [if_pos (by decide)]
  refine wpAny_bind (sliceApplied_rev hs pl pu ps ?_)
  show wpAny _ _ (if (((items.size : Int) - 1) == 0 && (-1 : Int) == 1 && items.size == items.size) = true then _ else _) _ _ s
  rw [if_neg (by simp), pick_rev]
  first
    | exact wpAny_bind (m := Builtin.Tuple.tupleExact _) (wpAny_newObj_type (wpAny_pure ⟨_, rfl, wpAny_pure h⟩) htake)
    | exact wpAny_bind (m := Builtin.Tuple.tupleExact _) (wpAny_newObj_type (wpAny_bind (wpAny_pure (wpAny_pure ⟨_, rfl, wpAny_pure h⟩))) htake)
    | exact wpAny_bind (wpAny_bind (m := Builtin.Tuple.tupleExact _) (wpAny_newObj_type (wpAny_pure (wpAny_pure ⟨_, rfl, wpAny_pure h⟩)) htake))
    | exact wpAny_bind (wpAny_bind (m := Builtin.Tuple.tupleExact _) (wpAny_newObj_type (wpAny_pure ⟨_, rfl, wpAny_pure h⟩) htake))
end
end HT
namespace L2
open PySem PySem.Spec PyProof.Rows
section
variable {X : Cx}
def tRevA (K : PySem.W.Frag) (te : TE) : TE := fun σ H Q => te σ H fun x H1 => ∃ a xs, x = .ref a ∧ ((SqL K H1 a xs ∧ ∀ p, H1 p = none → Q (.ref p) (upd H1 p (.lst xs.reverse))) ∨ (SqT K H1 a xs ∧ ∀ p, H1 p = none → Q (.ref p) (upd H1 p (.tup xs.reverse))))
theorem pe_revA {e : Expr} {te : TE} {k : Nat} {p1 p2 p3 pos : Pos} (he : PE X e te) : PE X (.Subscript e (.Slice none none (some (.UnaryOp .USub (.Constant (.int 1) k p1) p2)) p3) pos) (tRevA X.K te) := by
  refine ⟨fun pins s σ H Q I h => ?_⟩
  refine Subscript_ (thn (he.run pins s σ H _ I h) fun v s1 ⟨x, H1, I1, r1, q1⟩ => ?_)
  obtain ⟨a, xs, ex, hx⟩ := q1
  subst ex
  cases r1
  have hst : PO X (some (.UnaryOp .USub (.Constant (.int 1) k p1) p2)) (tPart (tUn (rU fun i => .int (-i)) (tC (.int 1)))) := po_some (pe_un un_neg pe_int)
  refine wpAny_Slice (thn (po_none.run pins s1 σ H1 (fun o H2 => o = none ∧ H2 = H1) I1 ⟨rfl, rfl⟩) fun vl s2 ⟨l, H2, I2, pl, el, e2⟩ => ?_)
  subst el e2
  refine thn (po_none.run pins s2 σ H2 (fun o H3 => o = none ∧ H3 = H2) I2 ⟨rfl, rfl⟩) fun vu s3 ⟨u, H3, I3, pu, eu, e3⟩ => ?_
  subst eu e3
  refine thn (hst.run pins s3 σ H3 (fun o H4 => o = some (-1) ∧ H4 = H3) I3 ⟨1, rfl, -1, rfl, rfl, rfl⟩) fun vs s4 ⟨o, H4, I4, ps, eo, e4⟩ => ?_
  subst eo e4
  have I5 : Inv X pins σ H4 { s4 with heap := s4.heap.push { cls := .type "slice", data := .fields #[vl, vu, vs] } } := I4.kept (t' := s4.toks) fun b ob q => Heap.get?_push_of_some _ q
  show wpAny (model X.prog X.w) X.A (subscriptTail e (.Slice none none (some (.UnaryOp .USub (.Constant (.int 1) k p1) p2)) p3) (.ref a) (.ref s4.heap.objs.size)) (EP X pins σ Q) X.xe { s4 with heap := s4.heap.push { cls := .type "slice", data := .fields #[vl, vu, vs] } }
  rcases hx with ⟨hx, q⟩ | ⟨hx, q⟩
  · obtain ⟨its, r, ht, hz⟩ := I5.list hx
    have hlen := r.length
    refine tail_any (ops := [.ref a, .ref s4.heap.objs.size]) ht.isList.typeIs (PySem.slot_list_getitem.lookup) ?_ (by with_unfolding_all rfl)
    refine wpAny_getItem_list_slice ht.isList (Heap.IsSliceOf.new _ vl vu vs) pl pu ps (by decide) ?_ (by rw [List.size_toArray]; omega)
    rw [PySem.W.krv_pick]
    refine ⟨.ref _, _, I5.laid (t' := s4.toks) (o := .lst xs.reverse) (fun b ob q => Heap.get?_push_of_some _ q) (Nat.le_refl _) ?_, rfl, q _ (I5.hok.fresh (Nat.le_refl _))⟩
    exact ⟨by rw [List.length_reverse]; exact hz, _, 0, r.reverse, Heap.get?_push_size _ rfl⟩
  · obtain ⟨its, r, ht, hz⟩ := I5.tuple hx
    have hlen := r.length
    refine tail_any (ops := [.ref a, .ref s4.heap.objs.size]) ht.typeIs (PyProof.Rows.slot_tuple_getitem.lookup) ?_ (by with_unfolding_all rfl)
    refine HT.getItem_tuple_rev ht (Heap.IsSliceOf.new _ vl vu vs) pl pu ps ?_ (by rw [List.size_toArray]; omega)
    refine ⟨.ref _, _, I5.laid (t' := s4.toks) (o := .tup xs.reverse) (fun b ob q => Heap.get?_push_of_some _ q) (Nat.le_refl _) ?_, rfl, q _ (I5.hok.fresh (Nat.le_refl _))⟩
    exact ⟨by rw [List.length_reverse]; exact hz, _, by simpa using r.reverse, IsTup.new _ _⟩
/-- set(t), t a tuple of ints -/
def rSetT (K : PySem.W.Frag) (w : World) : List V → Hp → VK → Prop := fun xs H Q => ∃ (l : Addr) (ns : List Int), xs = [.ref l] ∧ SqT K H l (ns.map V.int) ∧ ns.length + 1 < scanBound ∧
  ∀ p c, H p = none → c ≤ ns.length → Q (.ref p) (upd H p (SetO w p (fun j => decide (j ∈ ns)) c))
theorem cr_setT (hc : X.calm = true) : CallR X (.type "set") (rSetT X.K X.w) := by
  intro pins s σ H xs us Q I r h
  obtain ⟨l, ns, rfl, hl, hb, q⟩ := h
  obtain ⟨u, rfl, ru⟩ := vals1 r
  cases ru
  obtain ⟨its, rv, ht, _⟩ := I.tuple hl
  refine call_set_tupI ns (I.ok.hd hc) ht (by simpa using rv.ints) hb fun h' tk c hS hcn hk => ?_
  exact ⟨.ref _, upd H s.heap.objs.size (SetO X.w s.heap.objs.size (fun j => decide (j ∈ ns)) c), I.laid (t' := tk) hk (Nat.le_refl _) (setO_new hS), rfl, q _ c (I.hok.fresh (Nat.le_refl _)) hcn⟩
end
end L2
namespace Sim
open PySem L2
def revF (v : SV) (h : SHp) : Option SV := match v with
  | .tup xs => some (.tup xs.reverse)
  | .rls xs => some (.rls xs.reverse)
  | .frl xs => some (.rls xs.reverse)
  | .ref n => (listOf (.ref n) h).map fun xs => .rls xs.reverse
  | _ => none
def eRev (c : Env → M SV) : Env → M SV := fun e => M.bind (c e) fun v => fun h => M.of (revF v h) h
theorem RelL.reverse {K : PySem.W.Frag} {H : Hp} {ρ : Rho} : ∀ {xs : List SV} {us : List V}, RelL K H ρ xs us → RelL K H ρ xs.reverse us.reverse
  | [], _, r => by rw [r.nil_inv]; exact .nil
  | x :: xs, _, r => by
    obtain ⟨v, us, rfl, a, q⟩ := r.inv
    rw [List.reverse_cons, List.reverse_cons]
    exact (RelL.reverse q).snoc a
/-- the ints of a list, each once, ascending -/
def setL : List Int → List Int
  | [] => []
  | x :: xs => insS x (setL xs)
where
  insS (x : Int) : List Int → List Int
    | [] => [x]
    | y :: ys => if x < y then x :: y :: ys else if x = y then y :: ys else y :: insS x ys
theorem insS_mem {x z : Int} : ∀ {ys : List Int}, z ∈ setL.insS x ys ↔ z = x ∨ z ∈ ys
  | [] => by simp [setL.insS]
  | y :: ys => by
    unfold setL.insS
    by_cases c : x < y
    · rw [if_pos c]; simp
    · rw [if_neg c]
      by_cases d : x = y
      · rw [if_pos d]; subst d; simp
      · rw [if_neg d]; simp [insS_mem]; constructor <;> (intro q; rcases q with q | q | q <;> simp [q])
theorem insS_asc {x : Int} : ∀ {ys : List Int}, ys.Pairwise (· < ·) → (setL.insS x ys).Pairwise (· < ·)
  | [], _ => by simp [setL.insS]
  | y :: ys, h => by
    have h1 := List.pairwise_cons.mp h
    unfold setL.insS
    by_cases c : x < y
    · rw [if_pos c]
      refine List.pairwise_cons.mpr ⟨fun z hz => ?_, h⟩
      rcases List.mem_cons.mp hz with rfl | hz
      · exact c
      · have := h1.1 z hz; omega
    · rw [if_neg c]
      by_cases d : x = y
      · rw [if_pos d]; exact h
      · rw [if_neg d]
        refine List.pairwise_cons.mpr ⟨fun z hz => ?_, insS_asc h1.2⟩
        rcases insS_mem.mp hz with rfl | hz
        · omega
        · exact h1.1 z hz
theorem setL_mem {z : Int} : ∀ {xs : List Int}, z ∈ setL xs ↔ z ∈ xs
  | [] => by simp [setL]
  | x :: xs => by simp [setL, insS_mem, setL_mem]
theorem setL_asc : ∀ (xs : List Int), (setL xs).Pairwise (· < ·)
  | [] => by simp [setL]
  | x :: xs => insS_asc (setL_asc xs)
theorem asc_eq : ∀ {xs ys : List Int}, xs.Pairwise (· < ·) → ys.Pairwise (· < ·) → (∀ z, z ∈ xs ↔ z ∈ ys) → xs = ys
  | [], [], _, _, _ => rfl
  | [], y :: ys, _, _, h => by have := (h y).mpr (by simp); simp at this
  | x :: xs, [], _, _, h => by have := (h x).mp (by simp); simp at this
  | x :: xs, y :: ys, hx, hy, h => by
    have h1 := List.pairwise_cons.mp hx
    have h2 := List.pairwise_cons.mp hy
    have e : x = y := by
      have a := (h x).mp (by simp)
      have b := (h y).mpr (by simp)
      rcases List.mem_cons.mp a with a | a
      · exact a
      · rcases List.mem_cons.mp b with b | b
        · exact b.symm
        · have := h1.1 y b; have := h2.1 x a; omega
    subst e
    rw [asc_eq h1.2 h2.2 fun z => ?_]
    constructor
    · intro hz
      have := h1.1 z hz
      rcases List.mem_cons.mp ((h z).mp (List.mem_cons_of_mem _ hz)) with q | q
      · omega
      · exact q
    · intro hz
      have := h2.1 z hz
      rcases List.mem_cons.mp ((h z).mpr (List.mem_cons_of_mem _ hz)) with q | q
      · omega
      · exact q
theorem setL_len (xs : List Int) : (setL xs).length ≤ xs.length := by
  induction xs with
  | nil => simp [setL]
  | cons x xs ih =>
    have : ∀ ys : List Int, (setL.insS x ys).length ≤ ys.length + 1 := by
      intro ys
      induction ys with
      | nil => simp [setL.insS]
      | cons y ys ih => unfold setL.insS; split; simp; split; simp; simp; omega
    have := this (setL xs)
    simp [setL]; omega
/-- the numbers of a tuple -/
def tupInts (v : SV) : Option (List Int) := match v with
  | .tup xs => (intsOf xs).bind fun ns => if ns.length < 60 then some ns else none
  | _ => none
def eSrtSet (c : Env → M SV) : Env → M SV := fun e => M.bind (c e) fun v => M.of ((tupInts v).map fun ns => .rls ((setL ns).map .int))
def eLenSet (c : Env → M SV) : Env → M SV := fun e => M.bind (c e) fun v => M.of ((tupInts v).map fun ns => .int (setL ns).length)
section
variable {X : Cx} {W : WX} {pos : Pos} {e : Expr} {c : Env → M SV}
theorem e_rev {k : Nat} {p1 p2 p3 : Pos} (he : SE X W e c) : SE X W (.Subscript e (.Slice none none (some (.UnaryOp .USub (.Constant (.int 1) k p1) p2)) p3) pos) (eRev c) :=
  ⟨imp_pe (pe_revA he.pe) fun σ H Q ⟨ρ, h, env, R, RE, P⟩ => ⟨ρ, h, env, R, RE, (Post.bind (rel := relS X.K) P).mono fun x H1 ⟨ρ1, v, h1, E1, R1, r1, P1⟩ => by
    have lst : ∀ xs, listOf v h1 = some xs → Post X.K W (relS X.K) σ ρ1 H1 (.ok (.rls xs.reverse) h1) Q → ∃ a xs, x = .ref a ∧ ((SqL X.K H1 a xs ∧ ∀ p, H1 p = none → Q (.ref p) (upd H1 p (.lst xs.reverse))) ∨ (SqT X.K H1 a xs ∧ ∀ p, H1 p = none → Q (.ref p) (upd H1 p (.tup xs.reverse)))) := fun xs q P1 => by
      obtain ⟨a, us, rfl, hq, rr⟩ := list_rel R1 q r1
      exact ⟨a, us, rfl, .inl ⟨hq, fun p hp => P1 ρ1 _ _ (.fresh hp) (R1.fresh hp) (rel_rls R1 hp (RelL.reverse rr))⟩⟩
    cases v with
    | tup xs =>
      obtain ⟨a, us, rfl, hq, rr⟩ := tup_rel1 r1
      exact ⟨a, us, rfl, .inr ⟨.of hq, fun p hp => P1 ρ1 _ _ (.fresh hp) (R1.fresh hp) (rel_tup R1 hp (RelL.reverse rr))⟩⟩
    | rls xs => exact lst xs rfl P1
    | frl xs => exact lst xs rfl P1
    | ref n =>
      simp only [revF] at P1
      cases q : listOf (.ref n) h1 with
      | none => rw [q] at P1; exact P1.elim
      | some xs => rw [q] at P1; exact lst xs q P1
    | _ => exact P1.elim⟩⟩
theorem tupInts_rel {K : PySem.W.Frag} {H : Hp} {ρ : Rho} {v : SV} {x : V} {ns : List Int} (e : tupInts v = some ns) (r : RelS K H ρ v x) : ∃ l, x = .ref l ∧ SqT K H l (ns.map V.int) ∧ ns.length < 60 := by
  cases v with
  | tup xs =>
    simp only [tupInts] at e
    cases q : intsOf xs with
    | none => simp [q] at e
    | some ms =>
      simp [q] at e
      obtain ⟨e1, rfl⟩ := e
      obtain ⟨a, us, rfl, hq, rr⟩ := tup_rel r
      rw [ints_rel rr q] at hq
      exact ⟨a, rfl, hq, e1⟩
  | _ => cases e
theorem e_srtSet {p q p0 pos0 : Pos} (hc : X.calm = true) (m1 : X.mg "sorted" = none) (m2 : X.mg "set" = none) (he : SE X W e c) (g1 : Gl X "sorted" := by rfl) (g2 : Gl X "set" := by rfl)
    (hs : starEach [e] X.env = (false, eval e X.env) :: starEach [] X.env := by rfl) (hs2 : starEach [Expr.Call (.Name "set" p) [e] [] q] X.env = (false, eval (Expr.Call (.Name "set" p) [e] [] q) X.env) :: starEach [] X.env := by rfl) :
    SE X W (.Call (.Name "sorted" p0) [.Call (.Name "set" p) [e] [] q] [] pos0) (eSrtSet c) := by
  have inner : PE X (.Call (.Name "set" p) [e] [] q) (tCB (rSetT X.K X.w) (tCons (tS X.K W c) tNil)) := pe_callTy (cr_setT hc) g2 m2 (by decide +kernel) (pa_cons he.pe pa_nil hs) (he := hs)
  refine ⟨imp_pe (pe_callB (cr_sortedSet hc) g1 m1 (by decide +kernel) (pa_cons inner pa_nil hs2) (he := hs2)) fun σ H Q ⟨ρ, h, env, R, RE, P⟩ => ⟨ρ, h, env, R, RE, (Post.bind (rel := relS X.K) P).mono fun x H1 ⟨ρ1, v, h1, E1, R1, r1, P1⟩ => ?_⟩⟩
  cases e2 : tupInts v with
  | none => rw [e2] at P1; exact P1.elim
  | some ns =>
    rw [e2] at P1
    obtain ⟨l, rfl, hl, hn⟩ := tupInts_rel e2 r1
    refine ⟨l, ns, rfl, hl, by unfold scanBound; omega, fun p c hp hcn => ⟨p, _, c, rfl, upd_same, by omega, fun ms p2 has hmem _ hp2 => ?_⟩⟩
    have em : ms = setL ns := asc_eq has (setL_asc ns) fun z => by rw [hmem z, setL_mem]; simp
    subst em
    have hp2' : H1 p2 = none := by
      by_cases z : p2 = p
      · rw [z]; exact hp
      · rw [upd_ne z] at hp2; exact hp2
    have R2 := R1.fresh (o := SetO X.w p (fun j => decide (j ∈ ns)) c) hp
    have E2 : Ext ρ1 H1 ρ1 (upd H1 p (SetO X.w p (fun j => decide (j ∈ ns)) c)) := .fresh hp
    exact P1 ρ1 _ _ (E2.tr (.fresh hp2)) (R2.fresh hp2) (rel_rls R2 hp2 (rel_ints _))
end
end Sim

set_option Elab.async false
set_option linter.all false
set_option maxRecDepth 100000
set_option maxHeartbeats 4000000
namespace Sim
open PySem L2
/-- a list that is no list of the text -/
def lstOf (v : SV) (h : SHp) : Option (List SV) := match v with
  | .rls xs => some xs
  | .ref n => match h[n]? with
    | some (.lst xs) => some xs
    | _ => none
  | _ => none
theorem lst_rel {K : PySem.W.Frag} {H : Hp} {ρ : Rho} {h : SHp} {v : SV} {x : V} {xs : List SV} (R : RelH K H ρ h) (e : lstOf v h = some xs) (r : RelS K H ρ v x) : ∃ a us, x = .ref a ∧ H a = some (.lst us) ∧ RelL K H ρ xs us := by
  cases v with
  | rls ys => cases e; cases r with
    | rls h _ a _ => exact ⟨_, _, rfl, h, a⟩
  | ref n =>
    unfold lstOf at e
    cases q : h[n]? with
    | none => simp [q] at e
    | some o =>
      obtain ⟨a, ha, ob⟩ := R.ob n o q
      cases r with
      | ref hi _ =>
        rw [hi] at ha; cases ha
        cases o with
        | lst zs => simp [q] at e; subst e; obtain ⟨us, h1, h2⟩ := ob; exact ⟨_, _, rfl, h1, h2⟩
        | _ => simp [q] at e
  | _ => cases e
/-- xs + ys, a list that goes on changing -/
def eAddNew (a b : Env → M SV) : Env → M SV := fun e => M.bind (a e) fun v => M.bind (b e) fun w => fun h => match lstOf v h, lstOf w h with
  | some xs, some ys => if xs.length + ys.length ≤ sizeLine then .ok (.ref h.length) (h ++ [.lst (xs ++ ys)]) else .stuck
  | _, _ => .stuck
section
variable {X : Cx} {W : WX} {pos : Pos} {a b : Expr} {ca cb : Env → M SV}
theorem e_addNew (ha : SE X W a ca) (hb : SE X W b cb) : SE X W (.BinOp a .Add b pos) (eAddNew ca cb) :=
  ⟨imp_pe (pe_op op_cat ha.pe hb.pe) fun σ H Q ⟨ρ, h, env, R, RE, P⟩ => ⟨ρ, h, env, R, RE, (Post.bind (rel := relS X.K) P).mono fun x H1 ⟨ρ1, v, h1, E1, R1, r1, P1⟩ =>
    ⟨ρ1, h1, env, R1, RE.mono R.holds E1, (Post.bind (rel := relS X.K) P1).mono fun y H2 ⟨ρ2, w, h2, E2, R2, r2, P2⟩ => by
      have r1' := r1.mono R1.holds E2
      cases q1 : lstOf v h2 with
      | none => simp only [q1] at P2; exact P2.elim
      | some xs =>
        cases q2 : lstOf w h2 with
        | none => simp only [q1, q2] at P2; exact P2.elim
        | some ys =>
          simp only [q1, q2] at P2
          by_cases c : xs.length + ys.length ≤ sizeLine
          · rw [if_pos c] at P2
            obtain ⟨l, us, rfl, hl, rl⟩ := lst_rel R2 q1 r1'
            obtain ⟨m, ws, rfl, hm, rm⟩ := lst_rel R2 q2 r2
            refine ⟨l, m, us, ws, rfl, rfl, hl, hm, by rw [← rl.length, ← rm.length]; exact c, fun p hp => ?_⟩
            have Ea : Ext ρ2 H2 (ρ2.add p) (upd H2 p (.lst (us ++ ws))) := .alloc hp
            refine P2 (ρ2.add p) _ _ Ea (R2.alloc hp ⟨_, upd_same, (rl.app rm).mono R2.holds Ea⟩) (.ref ?_ .nil)
            rw [← R2.len]; simp [Rho.add]
          · rw [if_neg c] at P2; exact P2.elim⟩⟩⟩
/-- own == as a test -/
theorem t_eqO {k : Nat} {f C : Addr} {fd : FuncData} {ps : List Str} {D : List SV → M SV} {ts : List String} (E : EqC X.K C f ts) (F : FnOk X.prog X.w X.K X.mg X.base (L2.CX X.prog X.w) k f fd ps (spS X.K ps.length D)) (h2 : ps.length = 2) (hb : Binds X.K fd ps []) (hr : Room k X.A) (ha : SE X W a ca) (hb' : SE X W b cb)
    (hm : behindInMarks .Eq b = false := by first | exact nomark _ (by decide) (by decide) | rfl) : ST X W (.Compare a [.Eq] [b] pos) (eTst (eEqO false C ts D ca cb)) :=
  ⟨imp_pt (pt_cmpR (op_eqO E F h2 hb hr) ha.pe hb'.pe hm) fun σ H Q h => by
    obtain ⟨ρ, h, env, R, RE, P⟩ := post_tst h
    exact post_eqO ⟨ρ, h, env, R, RE, P⟩⟩
theorem t_neO {k : Nat} {f C : Addr} {fd : FuncData} {ps : List Str} {D : List SV → M SV} {ts : List String} (E : EqC X.K C f ts) (F : FnOk X.prog X.w X.K X.mg X.base (L2.CX X.prog X.w) k f fd ps (spS X.K ps.length D)) (h2 : ps.length = 2) (hb : Binds X.K fd ps []) (hr : Room (k + 1) X.A) (ha : SE X W a ca) (hb' : SE X W b cb)
    (hm : behindInMarks .NotEq b = false := by first | exact nomark _ (by decide) (by decide) | rfl) : ST X W (.Compare a [.NotEq] [b] pos) (eTst (eEqO true C ts D ca cb)) :=
  ⟨imp_pt (pt_cmpR (op_neO E F h2 hb hr) ha.pe hb'.pe hm) fun σ H Q h => by
    obtain ⟨ρ, h, env, R, RE, P⟩ := post_tst h
    exact post_eqO ⟨ρ, h, env, R, RE, P⟩⟩
/-- what a class of exceptions must have to be raised -/
structure RaiseC (K : PySem.W.Frag) (C : Addr) : Prop where
  ex : ∃ B newId initId bmB, ExcBaseFacts B newId initId bmB ∧ PySem.W.excIn K C bmB newId = true
  kC : PySem.W.keepIn K (.ref C) = true
  bC : PySem.W.subIn K (.ref C) (.type "BaseException") = some true
  tC : PySem.W.typeIn K (.ref C) = some (.type "type")
theorem s_raiseC {C : Addr} {x : Str} {e : Expr} {cu : Env → M Unit} {p pos' : Pos} (T : RaiseC X.K C) (gC : X.mg x = some (.ref C)) (hc : X.calm = true) (tk : Takes X W) (he : SU X W e cu) (hg : Gl X x := by rfl) (hs : starEach [e] X.env = (false, eval e X.env) :: starEach [] X.env := by rfl) (hdb : (x == ("__debug__" : Str)) = false := by decide) :
    SS X W (.Raise (some (.Call (.Name x p) [e] [] pos)) none pos') (cRaise C cu) := by
  obtain ⟨B, newId, initId, bmB, F, q⟩ := T.ex
  exact s_raise F q T.kC T.bC T.tC gC hc tk he hg hs hdb
end
theorem raise_VE {K : PySem.W.Frag} {C : Addr} (q : PySem.W.excIn K C [.type "ValueError", .type "Exception", .type "BaseException", .type "object"] "ValueError.__new__" = true) (kC : PySem.W.keepIn K (.ref C) = true) (bC : PySem.W.subIn K (.ref C) (.type "BaseException") = some true) (tC : PySem.W.typeIn K (.ref C) = some (.type "type")) : RaiseC K C :=
  ⟨⟨_, _, _, _, PySem.F.excBase_ValueError, q⟩, kC, bC, tC⟩
theorem catch_one {K : PySem.W.Frag} {C : Addr} (h : PySem.W.exmOne K (.ref C) (.ref C) = some true) : ∀ c k, (fun c => if c = C then some true else none : Addr → Option Bool) c = some k → PySem.W.exmOne K (.ref c) (.ref C) = some k := fun c k e => by
  simp only at e
  by_cases z : c = C
  · rw [if_pos z] at e; cases e; rw [z]; exact h
  · rw [if_neg z] at e; cases e
/-- a recursion that goes no further -/
theorem FnOk.zero {P : Program} {w : World} {K : PySem.W.Frag} {mg : Str → Option Value} {base : Heap} {CX : CXT} {k : Nat} {f : Addr} {fd : FuncData} {ps : List Str} : FnOk P w K mg base CX k f fd ps (spS K ps.length fun _ _ => .stuck) :=
  ⟨fun vs H Q E ⟨h, _⟩ => h, fun A outer s H args us vs Q E hr e0 hb r ⟨_, ρ, h, as, R, ra, P⟩ => P.elim⟩
end Sim

set_option Elab.async false
set_option linter.all false
set_option maxRecDepth 100000
set_option maxHeartbeats 4000000
namespace Sim
open PySem L2
/-- whether a value counts as true -/
def truF (v : SV) (h : SHp) : Option Bool := match v with
  | .bl b => some b
  | .non => some false
  | .int i => some (decide (i ≠ 0))
  | v => (seqOf v h).map fun xs => !xs.isEmpty
def tru (c : Env → M SV) : Env → M Bool := fun e => M.bind (c e) fun v => fun h => M.of (truF v h) h
def eNotT (c : Env → M SV) : Env → M SV := fun e => M.bind (tru c e) fun k => M.ret (.bl (!k))
theorem RelL.isEmpty {K : PySem.W.Frag} {H : Hp} {ρ : Rho} {xs : List SV} {us : List V} (r : RelL K H ρ xs us) : us.isEmpty = xs.isEmpty := by
  have := r.length
  cases xs <;> cases us <;> simp_all
theorem tru_rel {K : PySem.W.Frag} {H : Hp} {ρ : Rho} {h : SHp} {v : SV} {x : V} {k : Bool} (R : RelH K H ρ h) (e : truF v h = some k) (r : RelS K H ρ v x) : L2.TruV K x H k := by
  have seq : ∀ xs, seqOf v h = some xs → k = (!xs.isEmpty) → L2.TruV K x H k := fun xs q ek => by
    obtain ⟨a, us, rfl, hq, rr⟩ := seq_rel R q r
    rw [← rr.isEmpty] at ek
    rcases hq with hq | hq
    · exact .inl ⟨us, hq, ek⟩
    · exact .inr (.inl ⟨us, hq, ek⟩)
  have gen : (seqOf v h).map (fun xs => !xs.isEmpty) = some k → L2.TruV K x H k := fun q => by
    cases z : seqOf v h with
    | none => rw [z] at q; cases q
    | some xs => rw [z] at q; simp only [Option.map_some, Option.some.injEq] at q; exact seq xs z q.symm
  cases v with
  | bl b => cases e; cases r; rfl
  | non => cases e; cases r; rfl
  | int i =>
    cases e; cases r
    show decide (i ≠ 0) = (i != 0)
    by_cases c : i = 0 <;> simp [c]
  | _ => exact gen e
section
variable {X : Cx} {W : WX} {pos : Pos} {a : Expr} {ca : Env → M SV}
theorem tru_post {σ : St} {H : Hp} {Q : Bool → Hp → Prop} (h : tB X.K W (tru ca) σ H Q) : tS X.K W ca σ H fun x H1 => ∃ k, L2.TruV X.K x H1 k ∧ Q k H1 := by
  obtain ⟨ρ, h, env, R, RE, P⟩ := h
  refine ⟨ρ, h, env, R, RE, (Post.bind (rel := relS X.K) P).mono fun x H1 ⟨ρ1, v, h1, E1, R1, r1, P1⟩ => ?_⟩
  cases z : truF v h1 with
  | none => rw [z] at P1; exact P1.elim
  | some k => rw [z] at P1; exact ⟨k, tru_rel R1 z r1, P1 ρ1 H1 k .refl R1 rfl⟩
theorem t_tru (ha : SE X W a ca) (he : ∀ whole, isTrue a X.env whole = (do let v ← whole; standAt a.pos; holding [v] (truthy v)) := by intro _; rfl) : ST X W a (tru ca) :=
  ⟨imp_pt (pt_truth ha.pe he) fun σ H Q h => tru_post h⟩
theorem e_notT (ha : SE X W a ca) : SE X W (.UnaryOp .Not a pos) (eNotT ca) :=
  ⟨imp_pe (pe_notT ha.pe) fun σ H Q ⟨ρ, h, env, R, RE, P⟩ => by
    obtain ⟨ρ', h', env', R', RE', P'⟩ := tru_post (Q := fun k H1 => Q (.bl (!k)) H1) ⟨ρ, h, env, R, RE, (Post.bind (rel := relT) P).mono fun k H1 ⟨ρ1, k', h1, E1, R1, r1, P1⟩ => by
      cases r1; exact P1 ρ1 H1 _ .refl R1 (.bl .nil)⟩
    exact ⟨ρ', h', env', R', RE', P'⟩⟩
end
/-! ### facts of classes -/
theorem kitCls_of {K : PySem.W.Frag} {S : Addr} {t : Value} {b : Bool} (h2 : PySem.W.isClsIn K S = true) (h3 : PySem.W.typeIn K (.ref S) = some (.type "type")) (h4 : PySem.W.subIn K t (.ref S) = some b) : PySem.W.kitCls K t (.ref S) = some b := by
  have e2 : ((PySem.W.clsIn K S).isSome && PySem.W.typeIn K (.ref S) == some (.type "type")) = true := by
    have h2' : (PySem.W.clsIn K S).isSome = true := h2
    rw [h2', h3] <;> rfl
  show (if ((PySem.W.clsIn K S).isSome && PySem.W.typeIn K (.ref S) == some (.type "type")) = true then PySem.W.subIn K t (.ref S) else none) = some b
  rw [if_pos e2]
  exact h4
theorem exm_of {K : PySem.W.Frag} {S T : Addr} {b : Bool} (h1 : PySem.W.subIn K (.ref S) (.type "BaseException") = some true) (h2 : PySem.W.isClsIn K S = true) (h3 : PySem.W.typeIn K (.ref S) = some (.type "type")) (h4 : PySem.W.subIn K (.ref T) (.ref S) = some b) :
    PySem.W.exmOne K (.ref T) (.ref S) = some b := by
  have e1 : (PySem.W.subIn K (.ref S) (.type "BaseException") == some true) = true := by rw [h1] <;> rfl
  show (if (PySem.W.subIn K (.ref S) (.type "BaseException") == some true) = true then PySem.W.kitCls K (.ref T) (.ref S) else none) = some b
  rw [if_pos e1]
  exact kitCls_of h2 h3 h4
theorem kit_no {K : PySem.W.Frag} {S : Addr} {t : String} (h2 : PySem.W.isClsIn K S = true) (h3 : PySem.W.typeIn K (.ref S) = some (.type "type")) (h4 : PySem.W.subIn K (.type t) (.ref S) = some false) : PySem.W.kitOne K (.type t) (.ref S) = some false := by
  unfold PySem.W.kitOne
  rw [if_neg (by simp)]
  exact kitCls_of h2 h3 h4
end Sim

set_option Elab.async false
set_option linter.all false
set_option maxRecDepth 100000
set_option maxHeartbeats 4000000
namespace Sim
open PySem L2
section
variable {e : Env} {h : SHp} {a b : Env → M SV}
theorem ev_notT : eNotT a e h = Res.bd (a e h) fun v h => Res.bd (M.of (truF v h) h) fun k h => .ok (.bl (!k)) h := by
  unfold eNotT tru; rw [ev_bind, ev_bind]; cases a e h <;> rfl
theorem ev_tru : tru a e h = Res.bd (a e h) fun v h => M.of (truF v h) h := ev_bind
theorem ev_rev : eRev a e h = Res.bd (a e h) fun v h => M.of (revF v h) h := ev_bind
theorem ev_srtSet : eSrtSet a e h = Res.bd (a e h) fun v h => M.of ((tupInts v).map fun ns => .rls ((setL ns).map .int)) h := ev_bind
theorem ev_fmtS : eFmtS a e h = Res.bd (a e h) fun v h => M.of (fmtS v) h := ev_bind
theorem ev_joinS_nil {acc : Str} : joinS [] acc e h = .ok (.str acc) h := rfl
def jS (cs : List (Env → M SV)) (acc : Str) (e : Env) (v : SV) : SHp → Res SV := fun h => match v with
  | .str y => if (acc ++ y).length ≤ sizeLine then joinS cs (acc ++ y) e h else .stuck
  | _ => .stuck
theorem ev_joinS {c : Env → M SV} {cs : List (Env → M SV)} {acc : Str} : joinS (c :: cs) acc e h = Res.bd (c e h) fun v h => jS cs acc e v h := by
  show M.bind (c e) _ h = _
  rw [ev_bind]; congr 1; funext v h; unfold jS; cases v <;> first | rfl | (dsimp only; split <;> rfl)
theorem ev_eqO {neg : Bool} {C : Addr} {ts : List String} {D : List SV → M SV} : eEqO neg C ts D a b e h = Res.bd (a e h) fun v h => Res.bd (b e h) fun w h => eqO neg C ts D v w h := by
  unfold eEqO; rw [ev_bind]; congr 1; funext v h; rw [ev_bind]
theorem ev_strO {C : Addr} {D : List SV → M SV} : eStrO C D a e h = Res.bd (a e h) fun v h => strO C D [v] h := ev_bind
def anF (v w : SV) : SHp → Res SV := fun h => match lstOf v h, lstOf w h with
  | some xs, some ys => if xs.length + ys.length ≤ sizeLine then .ok (.ref h.length) (h ++ [.lst (xs ++ ys)]) else .stuck
  | _, _ => .stuck
theorem ev_addNew : eAddNew a b e h = Res.bd (a e h) fun v h => Res.bd (b e h) fun w h => anF v w h := by
  unfold eAddNew; rw [ev_bind]; congr 1; funext v h; rw [ev_bind]; rfl
theorem ev_try {m : Addr → Option Bool} {b s : ST'} : cTry1 m b s e h = (match b e h with
  | .err c fs e' h' => match m c with
    | some true => SR.noErr (s e' h')
    | some false => .err c fs e' h'
    | none => .stuck
  | r => r) := rfl
end
end Sim

set_option Elab.async false
set_option linter.all false
set_option maxRecDepth 100000
set_option maxHeartbeats 4000000
namespace My
open PySem L2 Sim
def topS (i : Nat) : Stmt := PySem.Challenge.pw_wholebyparts_k26_whole_readers_and_fault.main.body.getD i (.Pass ⟨0, 0, 0, 0⟩)
abbrev s_u_law_bag : Stmt := topS 18
abbrev s_m_Reader_eq : Stmt := inClass (topS 16) 1
abbrev s_are_integers : Stmt := topS 5
abbrev s_are_indices : Stmt := topS 6
abbrev s_u_is_step : Stmt := topS 15
abbrev s_is_integer : Stmt := topS 4
abbrev s_is_between : Stmt := topS 7
abbrev s_is_ascending : Stmt := topS 8
abbrev s_is_index_tuple : Stmt := topS 9
abbrev s_reader_fault : Stmt := topS 14
abbrev s_m_Reader_init : Stmt := inClass (topS 16) 0
abbrev s_m_Reader_str : Stmt := inClass (topS 16) 2
abbrev s_u_law_pick : Stmt := topS 19
abbrev s_u_law_one_of : Stmt := topS 20
abbrev s_u_law_bent : Stmt := topS 24
abbrev s_u_law_is_from : Stmt := topS 22
abbrev s_u_law_fault : Stmt := topS 23
abbrev s_u_law_is_right : Stmt := topS 25
abbrev s_u_law_re_drawn : Stmt := topS 21
abbrev s_u_law_right : Stmt := topS 26
abbrev s_law : Stmt := topS 27
/-- addresses of the top that values speak of -/
structure Ads where
  none_ : Unit := ()
  C_InvalidReader : Addr
  C_Reader : Addr
def isTs_Reader : List String := ["int", "tuple"]
def eqTs_Reader : List String := ["int", "tuple"]
/-! ### the mirrors -/
def B_u_law_bag (a : Ads) : ST' :=
  (cSeq (cSet 2 (eIf (eTst (eOp ltI (eVar 1) (eCB lenF (aCons (eVar 0) aNil)))) (eCB intF (aCons (eOp ixF (eVar 0) (eVar 1)) aNil)) (eOp addF (eOp mulT (eC (.int 431)) (eVar 1)) (eC (.int 73)))))
    (cSeq (cSet 3 (eOp modI (eCB intF (aCons (eCB absF (aCons (eVar 2) aNil)) aNil)) (eOp powF (eOp powF (eC (.int 10)) (eC (.int 56))) (eC (.int 6)))))
    (cSeq (cSet 4 (eOp addF (eOp addF (eOp addF (eOp mulT (eOp modI (eCB intF (aCons (eVar 3) aNil)) (eC (.int 2305843009213693723))) (eC (.int 79))) (eOp mulT (eC (.int 1009)) (eVar 1))) (eOp mulT (eC (.int 53)) (eCB intF (aCons (eOp ltI (eVar 2) (eC (.int 0))) aNil)))) (eC (.int 37))))
    (cRet (eNew (aCons (eCB max2F (aCons (eC (.int 0)) (aCons (eOp subI (eVar 3) (eOp powF (eC (.int 10)) (eC (.int 16)))) aNil))) (aCons (eVar 4) (aCons (eC (.int 0)) aNil))))))))
def D_u_law_bag (a : Ads) : List SV → M SV := fnD false 5 (B_u_law_bag a)
def B_m_Reader_eq (a : Ads) : ST' :=
  (cSeq (cIf (bNot (eTst (eCB (isCF a.C_Reader isTs_Reader) (aCons (eVar 1) (aCons (eC (.adr a.C_Reader)) aNil))))) (cRet (eC (.bl false))) cNil)
    (cRet (eAnd (eOp (eqF false) (eFld a.C_Reader "letters" (eVar 0)) (eFld a.C_Reader "letters" (eVar 1))) (eAnd (eOp (eqF false) (eFld a.C_Reader "steps" (eVar 0)) (eFld a.C_Reader "steps" (eVar 1))) (eOp (eqF false) (eFld a.C_Reader "accepting" (eVar 0)) (eFld a.C_Reader "accepting" (eVar 1)))))))
def D_m_Reader_eq (a : Ads) : List SV → M SV := fnD true 2 (B_m_Reader_eq a)
def B_are_integers (a : Ads) : ST' :=
  (cRet (eNotT (eLc (cIt (eVar 0)) [1] (gN 1) (eTst (eOp (isF true) (eCB typF (aCons (eVar 1) aNil)) (eC (.ty "int")))) (eVar 1))))
def D_are_integers (a : Ads) : List SV → M SV := fnD true 2 (B_are_integers a)
def B_are_indices (a : Ads) : ST' :=
  (cRet (eAnd (eCall (D_are_integers a) (aCons (eVar 0) aNil)) (eOr (eNotT (eVar 0)) (eAnd (eOp geI (eCB min1F (aCons (eVar 0) aNil)) (eC (.int 0))) (eOp ltI (eCB max1F (aCons (eVar 0) aNil)) (eVar 1))))))
def D_are_indices (a : Ads) : List SV → M SV := fnD true 2 (B_are_indices a)
def B_u_is_step (a : Ads) : ST' :=
  (cRet (eAnd (eCB isiF (aCons (eVar 2) (aCons (eC (.ty "tuple")) aNil))) (eAnd (eOp (eqF false) (eCB lenF (aCons (eVar 2) aNil)) (eVar 0)) (eCall (D_are_indices a) (aCons (eVar 2) (aCons (eVar 1) aNil))))))
def D_u_is_step (a : Ads) : List SV → M SV := fnD true 3 (B_u_is_step a)
def B_is_integer (a : Ads) : ST' :=
  (cRet (eOp (isF false) (eCB typF (aCons (eVar 0) aNil)) (eC (.ty "int"))))
def D_is_integer (a : Ads) : List SV → M SV := fnD true 1 (B_is_integer a)
def B_is_between (a : Ads) : ST' :=
  (cRet (eAnd (eCall (D_is_integer a) (aCons (eVar 0) aNil)) (eChain leI leI (eVar 1) (eVar 0) (eVar 2))))
def D_is_between (a : Ads) : List SV → M SV := fnD true 3 (B_is_between a)
def B_is_ascending (a : Ads) : ST' :=
  (cRet (eCB allF (aCons (eLc (cZipT (eVar 0) (eSl (eVar 0) (oYes (eC (.int 1))) oNo)) [1, 2] (gT 2 (gsC (gN 1) (gsC (gN 2) gsN))) bTrue (eOp ltI (eVar 1) (eVar 2))) aNil)))
def D_is_ascending (a : Ads) : List SV → M SV := fnD true 3 (B_is_ascending a)
def B_is_index_tuple (a : Ads) : ST' :=
  (cRet (eAnd (eCB isiF (aCons (eVar 0) (aCons (eC (.ty "tuple")) aNil))) (eAnd (eCall (D_are_indices a) (aCons (eVar 0) (aCons (eVar 1) aNil))) (eCall (D_is_ascending a) (aCons (eVar 0) aNil)))))
def D_is_index_tuple (a : Ads) : List SV → M SV := fnD true 2 (B_is_index_tuple a)
def B_reader_fault (a : Ads) : ST' :=
  (cSeq (cIf (bNot (eTst (eCall (D_is_between a) (aCons (eVar 0) (aCons (eC (.int 1)) (aCons (eC (.int 64)) aNil)))))) (cRet (eTup (aCons (eC (.str "letters")) aNil))) cNil)
    (cSeq (cIf (bOr (bNot (eTst (eCB isiF (aCons (eVar 1) (aCons (eC (.ty "tuple")) aNil))))) (bNot (eTst (eChain leI leI (eC (.int 1)) (eCB lenF (aCons (eVar 1) aNil)) (eC (.int 512)))))) (cRet (eTup (aCons (eC (.str "steps")) aNil))) cNil)
    (cSeq (cFor (cEnum (eVar 1)) (gT 2 (gsC (gN 3) (gsC (gN 4) gsN))) (cIf (bNot (eTst (eCall (D_u_is_step a) (aCons (eVar 0) (aCons (eCB lenF (aCons (eVar 1) aNil)) (aCons (eVar 4) aNil)))))) (cRet (eTup (aCons (eC (.str "step")) (aCons (eVar 3) aNil)))) cNil))
    (cSeq (cIf (bNot (eTst (eCall (D_is_index_tuple a) (aCons (eVar 2) (aCons (eCB lenF (aCons (eVar 1) aNil)) aNil))))) (cRet (eTup (aCons (eC (.str "accepting")) aNil))) cNil)
    (cRet (eC .non))))))
def D_reader_fault (a : Ads) : List SV → M SV := fnD true 5 (B_reader_fault a)
def B_m_Reader_init (a : Ads) : ST' :=
  (cSeq (cSet 4 (eCall (D_reader_fault a) (aCons (eVar 1) (aCons (eVar 2) (aCons (eVar 3) aNil)))))
    (cSeq (cIf (eTst (eOp (isF true) (eVar 4) (eC .non))) (cRaise a.C_InvalidReader (joinN [(eStrN (Str.ofString "a reader with the fault ").length), (eFmtN (eVar 4))] 0)) cNil)
    (cSeq (cFld a.C_Reader "letters" (eVar 0) (eVar 1))
    (cSeq (cFld a.C_Reader "steps" (eVar 0) (eVar 2))
    (cSeq (cFld a.C_Reader "accepting" (eVar 0) (eVar 3))
    (cFld a.C_Reader "states" (eVar 0) (eCB lenF (aCons (eVar 2) aNil))))))))
def D_m_Reader_init (a : Ads) : List SV → M SV := fnD true 5 (B_m_Reader_init a)
def B_m_Reader_str (a : Ads) : ST' :=
  (cRet (joinS [(eC (.str "reader of ")), (eFmtS (eFld a.C_Reader "states" (eVar 0))), (eC (.str " states over ")), (eFmtS (eFld a.C_Reader "letters" (eVar 0))), (eC (.str " letters"))] Str.empty))
def D_m_Reader_str (a : Ads) : List SV → M SV := fnD true 1 (B_m_Reader_str a)
def B_u_law_pick (a : Ads) : ST' :=
  (cSeq (cIf (eTst (eOp gtI (eOp ixF (eVar 0) (eC (.int 0))) (eC (.int 0)))) (cSeq (cSet 2 (eOp modI (eCB intF (aCons (eOp ixF (eVar 0) (eC (.int 0))) aNil)) (eVar 1)))
    (cSeq (cSetIx (eVar 0) (eC (.int 0)) (eOp divI (eOp ixF (eVar 0) (eC (.int 0))) (eVar 1)))
    (cRet (eVar 2)))) cNil)
    (cSeq (cSetIx (eVar 0) (eC (.int 2)) (eOp addF (eOp ixF (eVar 0) (eC (.int 2))) (eC (.int 1))))
    (cSeq (cSet 3 (eOp modI (eCB intF (aCons (eOp addF (eOp ixF (eVar 0) (eC (.int 1))) (eOp mulT (eC (.int 49979693)) (eOp ixF (eVar 0) (eC (.int 2))))) aNil)) (eC (.int 2305843009213693951))))
    (cSeq (cSet 4 (eOp addF (eOp mulT (eOp modI (eCB intF (aCons (eOp addF (eOp mulT (eVar 3) (eVar 3)) (eOp mulT (eC (.int 127)) (eOp ixF (eVar 0) (eC (.int 2))))) aNil)) (eC (.int 2305843009213693921))) (eC (.int 32452847))) (eVar 3)))
    (cRet (eOp modI (eCB intF (aCons (eOp divI (eVar 4) (eC (.int 65551))) aNil)) (eVar 1)))))))
def D_u_law_pick (a : Ads) : List SV → M SV := fnD true 5 (B_u_law_pick a)
def B_u_law_one_of (a : Ads) : ST' :=
  (cRet (eOp ixF (eVar 1) (eCall (D_u_law_pick a) (aCons (eVar 0) (aCons (eCB lenF (aCons (eVar 1) aNil)) aNil)))))
def D_u_law_one_of (a : Ads) : List SV → M SV := fnD true 2 (B_u_law_one_of a)
def B_u_law_bent (r : List SV → M SV) (a : Ads) : ST' :=
  (cSeq (cIf (bAnd (eTst (eCB isiF (aCons (eVar 1) (aCons (eC (.ty "tuple")) aNil)))) (bAnd (eTst (eOp (eqF true) (eVar 1) (eTup aNil))) (eTst (eOp gtI (eCall (D_u_law_pick a) (aCons (eVar 0) (aCons (eC (.int 6)) aNil))) (eC (.int 0)))))) (cSeq (cPar 2 3 (aCons (eCall (D_u_law_pick a) (aCons (eVar 0) (aCons (eCB lenF (aCons (eVar 1) aNil)) aNil))) (aCons (eCall (D_u_law_pick a) (aCons (eVar 0) (aCons (eC (.int 9)) aNil))) aNil)))
    (cSeq (cIf (eTst (eOp (eqF false) (eVar 3) (eC (.int 0)))) (cRet (eOp addF (eSl (eVar 1) oNo (oYes (eVar 2))) (eSl (eVar 1) (oYes (eOp addF (eVar 2) (eC (.int 1)))) oNo))) cNil)
    (cSeq (cIf (eTst (eOp (eqF false) (eVar 3) (eC (.int 1)))) (cRet (eOp addF (eOp addF (eSl (eVar 1) oNo (oYes (eVar 2))) (eSl (eVar 1) (oYes (eVar 2)) (oYes (eOp addF (eVar 2) (eC (.int 1)))))) (eSl (eVar 1) (oYes (eVar 2)) oNo))) cNil)
    (cSeq (cIf (eTst (eOp (eqF false) (eVar 3) (eC (.int 2)))) (cRet (eRev (eVar 1))) cNil)
    (cRet (eOp addF (eOp addF (eSl (eVar 1) oNo (oYes (eVar 2))) (eTup (aCons (eCall r (aCons (eVar 0) (aCons (eOp ixF (eVar 1) (eVar 2)) aNil))) aNil))) (eSl (eVar 1) (oYes (eOp addF (eVar 2) (eC (.int 1)))) oNo))))))) cNil)
    (cSeq (cIf (bAnd (eTst (eCB isiF (aCons (eVar 1) (aCons (eC (.ty "int")) aNil)))) (bAnd (bNot (eTst (eCB isiF (aCons (eVar 1) (aCons (eC (.ty "bool")) aNil))))) (eTst (eOp gtI (eCall (D_u_law_pick a) (aCons (eVar 0) (aCons (eC (.int 3)) aNil))) (eC (.int 0)))))) (cRet (eOp addF (eVar 1) (eCall (D_u_law_one_of a) (aCons (eVar 0) (aCons (eLst (aCons (eC (.int 1)) (aCons (eNeg (eC (.int 1))) (aCons (eC (.int 2)) aNil)))) aNil))))) cNil)
    (cRet (eCall (D_u_law_one_of a) (aCons (eVar 0) (aCons (eLst (aCons (eC .non) (aCons (eC (.bl true)) (aCons (eTup aNil) (aCons (eC (.int 0)) (aCons (eC (.int 1)) (aCons (eC (.str "0")) (aCons (eLst (aCons (eC (.int 0)) aNil)) (aCons (eTup (aCons (eC (.int 0)) aNil)) (aCons (eTup (aCons (eTup (aCons (eC (.int 0)) aNil)) aNil)) (aCons (eDic0 false) (aCons (eNeg (eC (.int 1))) (aCons (eC (.int 64)) (aCons (eC (.int 65)) (aCons (eOp powF (eC (.int 10)) (eC (.int 30))) (aCons (eLst (aCons (eLst (aCons (eC (.int 0)) (aCons (eC (.int 0)) aNil))) aNil)) aNil)))))))))))))))) aNil))))))
def D_u_law_bent : Nat → Ads → List SV → M SV
  | 0, _ => fun _ _ => .stuck
  | n + 1, a => fnD true 4 (B_u_law_bent (D_u_law_bent n a) a)
def B_u_law_is_from (a : Ads) : ST' :=
  (cRet (eAnd (eCB isiF (aCons (eVar 0) (aCons (eC (.ty "int")) aNil))) (eAnd (eNot (eCB isiF (aCons (eVar 0) (aCons (eC (.ty "bool")) aNil)))) (eChain leI leI (eVar 1) (eVar 0) (eVar 2)))))
def D_u_law_is_from (a : Ads) : List SV → M SV := fnD true 3 (B_u_law_is_from a)
def B_u_law_fault (a : Ads) : ST' :=
  (cSeq (cIf (bNot (eTst (eCall (D_u_law_is_from a) (aCons (eVar 0) (aCons (eC (.int 1)) (aCons (eC (.int 64)) aNil)))))) (cRet (eTup (aCons (eC (.str "letters")) aNil))) cNil)
    (cSeq (cIf (bOr (bNot (eTst (eCB isiF (aCons (eVar 1) (aCons (eC (.ty "tuple")) aNil))))) (bNot (eTst (eChain leI leI (eC (.int 1)) (eCB lenF (aCons (eVar 1) aNil)) (eC (.int 512)))))) (cRet (eTup (aCons (eC (.str "steps")) aNil))) cNil)
    (cSeq (cFor (cEnum (eVar 1)) (gT 2 (gsC (gN 3) (gsC (gN 4) gsN))) (cSeq (cIf (bOr (bNot (eTst (eCB isiF (aCons (eVar 4) (aCons (eC (.ty "tuple")) aNil))))) (eTst (eOp (eqF true) (eCB lenF (aCons (eVar 4) aNil)) (eVar 0)))) (cRet (eTup (aCons (eC (.str "step")) (aCons (eVar 3) aNil)))) cNil)
    (cIf (eTst (eOp (eqF true) (eLc (cIt (eVar 4)) [5] (gN 5) (bNot (eTst (eCall (D_u_law_is_from a) (aCons (eVar 5) (aCons (eC (.int 0)) (aCons (eOp subI (eCB lenF (aCons (eVar 1) aNil)) (eC (.int 1))) aNil)))))) (eC (.int 1))) (eLst aNil))) (cRet (eTup (aCons (eC (.str "step")) (aCons (eVar 3) aNil)))) cNil)))
    (cSeq (cIf (bOr (bNot (eTst (eCB isiF (aCons (eVar 2) (aCons (eC (.ty "tuple")) aNil))))) (eTst (eOp (eqF true) (eLc (cIt (eVar 2)) [6] (gN 6) (bNot (eTst (eCall (D_u_law_is_from a) (aCons (eVar 6) (aCons (eC (.int 0)) (aCons (eOp subI (eCB lenF (aCons (eVar 1) aNil)) (eC (.int 1))) aNil)))))) (eC (.int 1))) (eLst aNil)))) (cRet (eTup (aCons (eC (.str "accepting")) aNil))) cNil)
    (cRet (eIf (eTst (eOp (eqF false) (eCB listF (aCons (eVar 2) aNil)) (eSrtSet (eVar 2)))) (eC .non) (eTup (aCons (eC (.str "accepting")) aNil))))))))
def D_u_law_fault (a : Ads) : List SV → M SV := fnD true 7 (B_u_law_fault a)
def B_u_law_is_right (a : Ads) : ST' :=
  (cSeq (cSet 1 (eCall (D_u_law_fault a) (aCons (eOp ixF (eVar 0) (eC (.int 0))) (aCons (eOp ixF (eVar 0) (eC (.int 1))) (aCons (eOp ixF (eVar 0) (eC (.int 2))) aNil)))))
    (cSeq (cIf (eTst (eOp (eqF true) (eCall (D_reader_fault a) (aCons (eOp ixF (eVar 0) (eC (.int 0))) (aCons (eOp ixF (eVar 0) (eC (.int 1))) (aCons (eOp ixF (eVar 0) (eC (.int 2))) aNil)))) (eVar 1))) (cRet (eC (.bl false))) cNil)
    (cSeq (cTry1 (fun c => if c = a.C_InvalidReader then some true else none) (cSet 2 (eMake true a.C_Reader (D_m_Reader_init a) (aCons (eOp ixF (eVar 0) (eC (.int 0))) (aCons (eOp ixF (eVar 0) (eC (.int 1))) (aCons (eOp ixF (eVar 0) (eC (.int 2))) aNil))))) (cRet (eOp (isF true) (eVar 1) (eC .non))))
    (cRet (eAnd (eOp (isF false) (eVar 1) (eC .non)) (eOp (eqF false) (eTup (aCons (eFld a.C_Reader "letters" (eVar 2)) (aCons (eFld a.C_Reader "steps" (eVar 2)) (aCons (eFld a.C_Reader "accepting" (eVar 2)) (aCons (eFld a.C_Reader "states" (eVar 2)) aNil))))) (eOp addF (eVar 0) (eTup (aCons (eCB lenF (aCons (eOp ixF (eVar 0) (eC (.int 1))) aNil)) aNil)))))))))
def D_u_law_is_right (a : Ads) : List SV → M SV := fnD true 3 (B_u_law_is_right a)
def B_u_law_re_drawn (a : Ads) : ST' :=
  (cSeq (cSet 3 (eOp addF (eC (.int 1)) (eCall (D_u_law_pick a) (aCons (eVar 0) (aCons (eVar 2) aNil)))))
    (cSeq (cSet 4 (eLc (cRng1 (eVar 3)) [5] (gN 5) bTrue (eCB tupleF (aCons (eLc (cRng1 (eVar 1)) [6] (gN 6) bTrue (eCall (D_u_law_pick a) (aCons (eVar 0) (aCons (eVar 3) aNil)))) aNil))))
    (cRet (eTup (aCons (eVar 1) (aCons (eCB tupleF (aCons (eVar 4) aNil)) (aCons (eCB tupleF (aCons (eLc (cRng1 (eVar 3)) [5] (gN 5) (eTst (eOp (eqF false) (eCall (D_u_law_pick a) (aCons (eVar 0) (aCons (eC (.int 2)) aNil))) (eC (.int 0)))) (eVar 5)) aNil)) aNil)))))))
def D_u_law_re_drawn (a : Ads) : List SV → M SV := fnD true 7 (B_u_law_re_drawn a)
def B_u_law_right (a : Ads) : ST' :=
  (cSeq (cPar 1 2 (aCons (eCall (D_u_law_re_drawn a) (aCons (eVar 0) (aCons (eOp addF (eC (.int 1)) (eCall (D_u_law_pick a) (aCons (eVar 0) (aCons (eC (.int 3)) aNil)))) (aCons (eC (.int 5)) aNil)))) (aCons (eCall (D_u_law_re_drawn a) (aCons (eVar 0) (aCons (eOp addF (eC (.int 1)) (eCall (D_u_law_pick a) (aCons (eVar 0) (aCons (eC (.int 3)) aNil)))) (aCons (eC (.int 5)) aNil)))) aNil)))
    (cSeq (cIf (bNot (eTst (eCall (D_u_law_is_right a) (aCons (eVar 1) aNil)))) (cRet (eC (.bl false))) cNil)
    (cSeq (cFor (cRng1 (eC (.int 20))) (gN 3) (cSeq (cSet 4 (eLc (cIt (eVar 1)) [8] (gN 8) bTrue (eIf (eTst (eOp (eqF false) (eCall (D_u_law_pick a) (aCons (eVar 0) (aCons (eC (.int 2)) aNil))) (eC (.int 0)))) (eCall (D_u_law_bent 4 a) (aCons (eVar 0) (aCons (eVar 8) aNil))) (eVar 8))))
    (cIf (bNot (eTst (eCall (D_u_law_is_right a) (aCons (eCB tupleF (aCons (eVar 4) aNil)) aNil)))) (cRet (eC (.bl false))) cNil)))
    (cSeq (cPar 5 6 (aCons (eMake true a.C_Reader (D_m_Reader_init a) (aCons (eOp ixF (eVar 1) (eC (.int 0))) (aCons (eOp ixF (eVar 1) (eC (.int 1))) (aCons (eOp ixF (eVar 1) (eC (.int 2))) aNil)))) (aCons (eMake true a.C_Reader (D_m_Reader_init a) (aCons (eOp ixF (eVar 2) (eC (.int 0))) (aCons (eOp ixF (eVar 2) (eC (.int 1))) (aCons (eOp ixF (eVar 2) (eC (.int 2))) aNil)))) aNil)))
    (cSeq (cIf (bOr (eTst (eOp (eqF true) (eEqO false a.C_Reader eqTs_Reader (D_m_Reader_eq a) (eVar 5) (eVar 6)) (eOp (eqF false) (eVar 1) (eVar 2)))) (bOr (eTst (eOp (eqF true) (eEqO true a.C_Reader eqTs_Reader (D_m_Reader_eq a) (eVar 5) (eVar 6)) (eOp (eqF true) (eVar 1) (eVar 2)))) (bOr (eTst (eEqO false a.C_Reader eqTs_Reader (D_m_Reader_eq a) (eVar 5) (eVar 1))) (eTst (eEqO false a.C_Reader eqTs_Reader (D_m_Reader_eq a) (eVar 5) (eC (.int 0))))))) (cRet (eC (.bl false))) cNil)
    (cSeq (cSet 7 (eOp addF (eOp addF (eOp addF (eOp addF (eC (.str "reader of ")) (eCB strF (aCons (eCB lenF (aCons (eOp ixF (eVar 1) (eC (.int 1))) aNil)) aNil))) (eC (.str " states over "))) (eCB strF (aCons (eOp ixF (eVar 1) (eC (.int 0))) aNil))) (eC (.str " letters"))))
    (cRet (eAnd (eEqO false a.C_Reader eqTs_Reader (D_m_Reader_eq a) (eVar 5) (eMake true a.C_Reader (D_m_Reader_init a) (aCons (eOp ixF (eVar 1) (eC (.int 0))) (aCons (eOp ixF (eVar 1) (eC (.int 1))) (aCons (eOp ixF (eVar 1) (eC (.int 2))) aNil))))) (eOp (eqF false) (eStrO a.C_Reader (D_m_Reader_str a) (eVar 5)) (eVar 7))))))))))
def D_u_law_right (a : Ads) : List SV → M SV := fnD true 9 (B_u_law_right a)
def B_law (a : Ads) : ST' :=
  (cSeq (cFor (cRng1 (eCB max2F (aCons (eC (.int 1)) (aCons (eCB min2F (aCons (eC (.int 3)) (aCons (eCB lenF (aCons (eVar 0) aNil)) aNil))) aNil)))) (gN 1) (cSeq (cSet 2 (eCall (D_u_law_bag a) (aCons (eVar 0) (aCons (eVar 1) aNil))))
    (cIf (bOr (bNot (eTst (eCall (D_u_law_right a) (aCons (eVar 2) aNil)))) (bNot (eTst (eCall (D_u_law_right a) (aCons (eVar 2) aNil))))) (cRet (eC (.bl false))) cNil)))
    (cSeq (cSet 3 (eNew (aCons (eTup (aCons (eC (.int 64)) (aCons (eTup (aCons (eOp mulT (eTup (aCons (eC (.int 0)) aNil)) (eC (.int 64))) aNil)) (aCons (eTup aNil) aNil)))) (aCons (eTup (aCons (eC (.int 65)) (aCons (eTup (aCons (eOp mulT (eTup (aCons (eC (.int 0)) aNil)) (eC (.int 65))) aNil)) (aCons (eTup aNil) aNil)))) (aCons (eTup (aCons (eC (.int 1)) (aCons (eOp mulT (eTup (aCons (eTup (aCons (eC (.int 0)) aNil)) aNil)) (eC (.int 512))) (aCons (eTup (aCons (eC (.int 511)) aNil)) aNil)))) (aCons (eTup (aCons (eC (.int 1)) (aCons (eOp mulT (eTup (aCons (eTup (aCons (eC (.int 0)) aNil)) aNil)) (eC (.int 513))) (aCons (eTup aNil) aNil)))) aNil))))))
    (cSeq (cSet 3 (eAddNew (eVar 3) (eLst (aCons (eTup (aCons (eC (.int 0)) (aCons (eTup (aCons (eTup aNil) aNil)) (aCons (eTup aNil) aNil)))) (aCons (eTup (aCons (eC (.int 1)) (aCons (eTup aNil) (aCons (eTup aNil) aNil)))) (aCons (eTup (aCons (eC (.int 2)) (aCons (eTup (aCons (eTup (aCons (eC (.int 0)) (aCons (eC (.int 0)) aNil))) (aCons (eTup (aCons (eC (.int 0)) aNil)) aNil))) (aCons (eTup aNil) aNil)))) (aCons (eTup (aCons (eC (.int 1)) (aCons (eTup (aCons (eTup (aCons (eC (.int 1)) aNil)) aNil)) (aCons (eTup aNil) aNil)))) (aCons (eTup (aCons (eC (.int 1)) (aCons (eTup (aCons (eTup (aCons (eC (.int 0)) aNil)) aNil)) (aCons (eTup (aCons (eC (.int 0)) (aCons (eC (.int 0)) aNil))) aNil)))) aNil))))))))
    (cSeq (cSet 3 (eAddNew (eVar 3) (eLst (aCons (eTup (aCons (eC (.int 1)) (aCons (eTup (aCons (eTup (aCons (eC (.int 0)) aNil)) (aCons (eTup (aCons (eC (.int 0)) aNil)) aNil))) (aCons (eTup (aCons (eC (.int 1)) (aCons (eC (.int 0)) aNil))) aNil)))) (aCons (eTup (aCons (eC (.int 1)) (aCons (eTup (aCons (eTup (aCons (eC (.int 0)) aNil)) aNil)) (aCons (eLst (aCons (eC (.int 0)) aNil)) aNil)))) (aCons (eTup (aCons (eC (.int 1)) (aCons (eLst (aCons (eTup (aCons (eC (.int 0)) aNil)) aNil)) (aCons (eTup aNil) aNil)))) (aCons (eTup (aCons (eC (.bl true)) (aCons (eTup (aCons (eTup (aCons (eC (.int 0)) aNil)) aNil)) (aCons (eTup aNil) aNil)))) aNil)))))))
    (cSeq (cApp (eVar 3) (eTup (aCons (eC (.int 1)) (aCons (eTup (aCons (eTup (aCons (eC (.bl false)) aNil)) aNil)) (aCons (eTup aNil) aNil)))))
    (cSeq (cSet 3 (eAddNew (eVar 3) (eLst (aCons (eTup (aCons (eC (.int 65)) (aCons (eTup aNil) (aCons (eC .non) aNil)))) (aCons (eTup (aCons (eC (.int 1)) (aCons (eTup aNil) (aCons (eC .non) aNil)))) (aCons (eTup (aCons (eC (.int 1)) (aCons (eTup (aCons (eTup (aCons (eNeg (eC (.int 1))) aNil)) aNil)) (aCons (eC .non) aNil)))) (aCons (eTup (aCons (eC (.int 2)) (aCons (eTup (aCons (eTup (aCons (eC (.int 0)) (aCons (eC (.int 1)) (aCons (eC (.int 0)) aNil)))) (aCons (eTup (aCons (eC (.int 0)) (aCons (eC (.int 1)) aNil))) aNil))) (aCons (eTup (aCons (eC (.int 0)) aNil)) aNil)))) aNil)))))))
    (cSeq (cSet 4 (eLc (cIt (eVar 3)) [6, 7, 8] (gT 3 (gsC (gN 6) (gsC (gN 7) (gsC (gN 8) gsN)))) bTrue (eCall (D_reader_fault a) (aCons (eVar 6) (aCons (eVar 7) (aCons (eVar 8) aNil))))))
    (cSeq (cSet 5 (eLst (aCons (eC .non) (aCons (eTup (aCons (eC (.str "letters")) aNil)) (aCons (eC .non) (aCons (eTup (aCons (eC (.str "steps")) aNil)) (aCons (eTup (aCons (eC (.str "letters")) aNil)) (aCons (eTup (aCons (eC (.str "steps")) aNil)) (aCons (eTup (aCons (eC (.str "step")) (aCons (eC (.int 1)) aNil))) (aCons (eTup (aCons (eC (.str "step")) (aCons (eC (.int 0)) aNil))) (aCons (eTup (aCons (eC (.str "accepting")) aNil)) aNil)))))))))))
    (cSeq (cSet 5 (eOp addF (eVar 5) (eLst (aCons (eTup (aCons (eC (.str "accepting")) aNil)) (aCons (eTup (aCons (eC (.str "accepting")) aNil)) (aCons (eTup (aCons (eC (.str "steps")) aNil)) (aCons (eTup (aCons (eC (.str "letters")) aNil)) (aCons (eTup (aCons (eC (.str "step")) (aCons (eC (.int 0)) aNil))) (aCons (eTup (aCons (eC (.str "letters")) aNil)) (aCons (eTup (aCons (eC (.str "steps")) aNil)) aNil))))))))))
    (cRet (eAnd (eOp (eqF false) (eVar 4) (eOp addF (eVar 5) (eLst (aCons (eTup (aCons (eC (.str "step")) (aCons (eC (.int 0)) aNil))) (aCons (eTup (aCons (eC (.str "step")) (aCons (eC (.int 0)) aNil))) aNil))))) (eOp (eqF false) (eTup (aCons (eC (.int 64)) (aCons (eC (.int 512)) (aCons (eC (.int 2000)) aNil)))) (eTup (aCons (eC (.int 64)) (aCons (eC (.int 512)) (aCons (eC (.int 2000)) aNil))))))))))))))))
def D_law (a : Ads) : List SV → M SV := fnD true 9 (B_law a)
end My

set_option Elab.async false
set_option linter.all false
set_option maxRecDepth 100000
set_option maxHeartbeats 4000000
namespace My
open PySem L2 Sim
/-! ### the top -/
structure Top (K : PySem.W.Frag) (mg : Str → Option Value) (a : Ads) where
  p_u_law_bag : Addr
  d_u_law_bag : FuncData
  F_u_law_bag : Fun K "_law_bag" "_law_bag" s_u_law_bag p_u_law_bag d_u_law_bag
  b_u_law_bag : Binds K d_u_law_bag ["script", "spot"] []
  g_u_law_bag : mg "_law_bag" = some (.ref p_u_law_bag)
  p_m_Reader_eq : Addr
  d_m_Reader_eq : FuncData
  F_m_Reader_eq : Fun K "__eq__" "Reader.__eq__" s_m_Reader_eq p_m_Reader_eq d_m_Reader_eq
  b_m_Reader_eq : Binds K d_m_Reader_eq ["self", "other"] []
  p_are_integers : Addr
  d_are_integers : FuncData
  F_are_integers : Fun K "are_integers" "are_integers" s_are_integers p_are_integers d_are_integers
  b_are_integers : Binds K d_are_integers ["values"] []
  g_are_integers : mg "are_integers" = some (.ref p_are_integers)
  p_are_indices : Addr
  d_are_indices : FuncData
  F_are_indices : Fun K "are_indices" "are_indices" s_are_indices p_are_indices d_are_indices
  b_are_indices : Binds K d_are_indices ["values", "many"] []
  g_are_indices : mg "are_indices" = some (.ref p_are_indices)
  p_u_is_step : Addr
  d_u_is_step : FuncData
  F_u_is_step : Fun K "_is_step" "_is_step" s_u_is_step p_u_is_step d_u_is_step
  b_u_is_step : Binds K d_u_is_step ["letters", "states", "value"] []
  g_u_is_step : mg "_is_step" = some (.ref p_u_is_step)
  p_is_integer : Addr
  d_is_integer : FuncData
  F_is_integer : Fun K "is_integer" "is_integer" s_is_integer p_is_integer d_is_integer
  b_is_integer : Binds K d_is_integer ["value"] []
  g_is_integer : mg "is_integer" = some (.ref p_is_integer)
  p_is_between : Addr
  d_is_between : FuncData
  F_is_between : Fun K "is_between" "is_between" s_is_between p_is_between d_is_between
  b_is_between : Binds K d_is_between ["value", "low", "high"] []
  g_is_between : mg "is_between" = some (.ref p_is_between)
  p_is_ascending : Addr
  d_is_ascending : FuncData
  F_is_ascending : Fun K "is_ascending" "is_ascending" s_is_ascending p_is_ascending d_is_ascending
  b_is_ascending : Binds K d_is_ascending ["values"] []
  g_is_ascending : mg "is_ascending" = some (.ref p_is_ascending)
  p_is_index_tuple : Addr
  d_is_index_tuple : FuncData
  F_is_index_tuple : Fun K "is_index_tuple" "is_index_tuple" s_is_index_tuple p_is_index_tuple d_is_index_tuple
  b_is_index_tuple : Binds K d_is_index_tuple ["value", "many"] []
  g_is_index_tuple : mg "is_index_tuple" = some (.ref p_is_index_tuple)
  p_reader_fault : Addr
  d_reader_fault : FuncData
  F_reader_fault : Fun K "reader_fault" "reader_fault" s_reader_fault p_reader_fault d_reader_fault
  b_reader_fault : Binds K d_reader_fault ["letters", "steps", "accepting"] []
  g_reader_fault : mg "reader_fault" = some (.ref p_reader_fault)
  p_m_Reader_init : Addr
  d_m_Reader_init : FuncData
  F_m_Reader_init : Fun K "__init__" "Reader.__init__" s_m_Reader_init p_m_Reader_init d_m_Reader_init
  b_m_Reader_init : Binds K d_m_Reader_init ["self", "letters", "steps", "accepting"] []
  p_m_Reader_str : Addr
  d_m_Reader_str : FuncData
  F_m_Reader_str : Fun K "__str__" "Reader.__str__" s_m_Reader_str p_m_Reader_str d_m_Reader_str
  b_m_Reader_str : Binds K d_m_Reader_str ["self"] []
  p_u_law_pick : Addr
  d_u_law_pick : FuncData
  F_u_law_pick : Fun K "_law_pick" "_law_pick" s_u_law_pick p_u_law_pick d_u_law_pick
  b_u_law_pick : Binds K d_u_law_pick ["bag", "total"] []
  g_u_law_pick : mg "_law_pick" = some (.ref p_u_law_pick)
  p_u_law_one_of : Addr
  d_u_law_one_of : FuncData
  F_u_law_one_of : Fun K "_law_one_of" "_law_one_of" s_u_law_one_of p_u_law_one_of d_u_law_one_of
  b_u_law_one_of : Binds K d_u_law_one_of ["bag", "items"] []
  g_u_law_one_of : mg "_law_one_of" = some (.ref p_u_law_one_of)
  p_u_law_bent : Addr
  d_u_law_bent : FuncData
  F_u_law_bent : Fun K "_law_bent" "_law_bent" s_u_law_bent p_u_law_bent d_u_law_bent
  b_u_law_bent : Binds K d_u_law_bent ["bag", "value"] []
  g_u_law_bent : mg "_law_bent" = some (.ref p_u_law_bent)
  p_u_law_is_from : Addr
  d_u_law_is_from : FuncData
  F_u_law_is_from : Fun K "_law_is_from" "_law_is_from" s_u_law_is_from p_u_law_is_from d_u_law_is_from
  b_u_law_is_from : Binds K d_u_law_is_from ["value", "least", "most"] []
  g_u_law_is_from : mg "_law_is_from" = some (.ref p_u_law_is_from)
  p_u_law_fault : Addr
  d_u_law_fault : FuncData
  F_u_law_fault : Fun K "_law_fault" "_law_fault" s_u_law_fault p_u_law_fault d_u_law_fault
  b_u_law_fault : Binds K d_u_law_fault ["letters", "steps", "accepting"] []
  g_u_law_fault : mg "_law_fault" = some (.ref p_u_law_fault)
  p_u_law_is_right : Addr
  d_u_law_is_right : FuncData
  F_u_law_is_right : Fun K "_law_is_right" "_law_is_right" s_u_law_is_right p_u_law_is_right d_u_law_is_right
  b_u_law_is_right : Binds K d_u_law_is_right ["told"] []
  g_u_law_is_right : mg "_law_is_right" = some (.ref p_u_law_is_right)
  p_u_law_re_drawn : Addr
  d_u_law_re_drawn : FuncData
  F_u_law_re_drawn : Fun K "_law_re_drawn" "_law_re_drawn" s_u_law_re_drawn p_u_law_re_drawn d_u_law_re_drawn
  b_u_law_re_drawn : Binds K d_u_law_re_drawn ["bag", "letters", "most"] []
  g_u_law_re_drawn : mg "_law_re_drawn" = some (.ref p_u_law_re_drawn)
  p_u_law_right : Addr
  d_u_law_right : FuncData
  F_u_law_right : Fun K "_law_right" "_law_right" s_u_law_right p_u_law_right d_u_law_right
  b_u_law_right : Binds K d_u_law_right ["bag"] []
  g_u_law_right : mg "_law_right" = some (.ref p_u_law_right)
  p_law : Addr
  d_law : FuncData
  F_law : Fun K "law" "law" s_law p_law d_law
  b_law : Binds K d_law ["script"] []
  g_law : mg "law" = some (.ref p_law)
  g_InvalidReader : mg "InvalidReader" = some (.ref a.C_InvalidReader)
  g_Reader : mg "Reader" = some (.ref a.C_Reader)
  cl_Reader : Cls K a.C_Reader
  mk_Reader : Mk K a.C_Reader p_m_Reader_init
  is_Reader : IsC K a.C_Reader
  ists_Reader : ∀ t ∈ isTs_Reader, PySem.W.kitOne K (.type t) (.ref a.C_Reader) = some false
  eqc_Reader : EqC K a.C_Reader p_m_Reader_eq eqTs_Reader
  str_Reader : StrC K a.C_Reader p_m_Reader_str
  rc_InvalidReader : RaiseC K a.C_InvalidReader
  ex_InvalidReader : PySem.W.exmOne K (.ref a.C_InvalidReader) (.ref a.C_InvalidReader) = some true
  na_Reader_accepting : NoAttr K a.C_Reader "accepting"
  na_Reader_letters : NoAttr K a.C_Reader "letters"
  na_Reader_states : NoAttr K a.C_Reader "states"
  na_Reader_steps : NoAttr K a.C_Reader "steps"
  t_MOST_LETTERS : Tok
  c_MOST_LETTERS : mg "MOST_LETTERS" = some (.int 64 t_MOST_LETTERS)
  t_MOST_STATES : Tok
  c_MOST_STATES : mg "MOST_STATES" = some (.int 512 t_MOST_STATES)
  t_MOST_WORD : Tok
  c_MOST_WORD : mg "MOST_WORD" = some (.int 2000 t_MOST_WORD)
  n_abs : mg "abs" = none
  n_all : mg "all" = none
  n_bool : mg "bool" = none
  n_enumerate : mg "enumerate" = none
  n_int : mg "int" = none
  n_isinstance : mg "isinstance" = none
  n_len : mg "len" = none
  n_list : mg "list" = none
  n_max : mg "max" = none
  n_min : mg "min" = none
  n_range : mg "range" = none
  n_set : mg "set" = none
  n_sorted : mg "sorted" = none
  n_str : mg "str" = none
  n_tuple : mg "tuple" = none
  n_type : mg "type" = none
  n_zip : mg "zip" = none
section
variable {P : Program} {w : World} {K : PySem.W.Frag} {mg : Str → Option Value} {base : Heap} {a : Ads}
theorem sc_u_law_bag : FnScope ["script", "spot", "cell", "great", "mixed"] ["script", "spot"] (defScope s_u_law_bag) := ⟨rfl, rfl, rfl, by decide +kernel, rfl, by decide +kernel, by decide +kernel⟩
theorem ok_u_law_bag (T : Top K mg a) : FnOk P w K mg base (L2.CX P w) 1 T.p_u_law_bag T.d_u_law_bag ["script", "spot"] (spS K 2 (D_u_law_bag a)) := by
  refine sim_fn false T.F_u_law_bag sc_u_law_bag fun cdv A outer s H E hr tk hp => ?_
  have hu := hu_of hr
  have hu64 := hr.units
  exact (ss_cons (s_set 2 sc_u_law_bag.nd (e_if (t_cmp o_ltI (e_var 1) (e_callB b_len T.n_len (a_cons (e_var 0) a_nil))) (e_callTy b_int T.n_int (a_cons (e_ix (e_var 0) (e_var 1)) a_nil)) (e_op o_add (e_op o_mulT e_int (e_var 1)) e_int)))
    (ss_cons (s_set 3 sc_u_law_bag.nd (e_op o_modI (e_callTy b_int T.n_int (a_cons (e_callB b_abs T.n_abs (a_cons (e_var 2) a_nil)) a_nil)) (e_op o_pow (e_op o_pow e_int e_int) e_int)))
    (ss_cons (s_set 4 sc_u_law_bag.nd (e_op o_add (e_op o_add (e_op o_add (e_op o_mulT (e_op o_modI (e_callTy b_int T.n_int (a_cons (e_var 3) a_nil)) e_int) e_int) (e_op o_mulT e_int (e_var 1))) (e_op o_mulT e_int (e_callTy b_int T.n_int (a_cons (e_cmp o_ltI (e_var 2) e_int) a_nil)))) e_int))
    (ss_one (s_ret (e_new (a_cons (e_callB (b_max2 rfl) T.n_max (a_cons e_int (a_cons (e_op o_subI (e_var 3) (e_op o_pow e_int e_int)) a_nil))) (a_cons (e_var 4) (a_cons e_int a_nil)))))))))
theorem sc_m_Reader_eq : FnScope ["self", "other"] ["self", "other"] (defScope s_m_Reader_eq) := ⟨rfl, rfl, rfl, by decide +kernel, rfl, by decide +kernel, by decide +kernel⟩
theorem ok_m_Reader_eq (T : Top K mg a) : FnOk P w K mg base (L2.CX P w) 1 T.p_m_Reader_eq T.d_m_Reader_eq ["self", "other"] (spS K 2 (D_m_Reader_eq a)) := by
  refine sim_fn true T.F_m_Reader_eq sc_m_Reader_eq fun cdv A outer s H E hr tk hp => ?_
  have hu := hu_of hr
  have hu64 := hr.units
  exact (ss_cons (s_if (t_not (t_val (e_callB (b_isC T.is_Reader T.ists_Reader) T.n_isinstance (a_cons (e_var 1) (a_cons (e_adr T.g_Reader) a_nil))))) (ss_one (s_ret e_bl)) ss_nil)
    (ss_one (s_ret (e_and (e_cmp (o_eq hu64) (e_fld T.cl_Reader T.na_Reader_letters (e_var 0)) (e_fld T.cl_Reader T.na_Reader_letters (e_var 1))) (e_and (e_cmp (o_eq hu64) (e_fld T.cl_Reader T.na_Reader_steps (e_var 0)) (e_fld T.cl_Reader T.na_Reader_steps (e_var 1))) (e_one (e_cmp (o_eq hu64) (e_fld T.cl_Reader T.na_Reader_accepting (e_var 0)) (e_fld T.cl_Reader T.na_Reader_accepting (e_var 1)))))))))
theorem sc_are_integers : FnScope ["values", "value"] ["values"] (defScope s_are_integers) := ⟨rfl, rfl, rfl, by decide +kernel, rfl, by decide +kernel, by decide +kernel⟩
theorem ok_are_integers (T : Top K mg a) : FnOk P w K mg base (L2.CX P w) 1 T.p_are_integers T.d_are_integers ["values"] (spS K 1 (D_are_integers a)) := by
  refine sim_fn true T.F_are_integers sc_are_integers fun cdv A outer s H E hr tk hp => ?_
  have hu := hu_of hr
  have hu64 := hr.units
  exact (ss_one (s_ret (e_notT (e_lc [("value", 1)] rfl sc_are_integers.nd (i_it (e_var 0)) (L2.blkOk_by (N := ["values", "value"]) (sc := (defScope s_are_integers)) (by decide +kernel)) (fun _ _ _ _ _ => (g_name 1 sc_are_integers.nd)) (fun _ _ _ _ _ => (t_one (t_cmp o_isnot (e_callTy b_type T.n_type (a_cons (e_var 1) a_nil)) (e_ty T.n_int)))) (fun _ _ _ _ _ => (e_var 1))))))
theorem sc_are_indices : FnScope ["values", "many"] ["values", "many"] (defScope s_are_indices) := ⟨rfl, rfl, rfl, by decide +kernel, rfl, by decide +kernel, by decide +kernel⟩
theorem ok_are_indices (T : Top K mg a) : FnOk P w K mg base (L2.CX P w) 2 T.p_are_indices T.d_are_indices ["values", "many"] (spS K 2 (D_are_indices a)) := by
  refine sim_fn true T.F_are_indices sc_are_indices fun cdv A outer s H E hr tk hp => ?_
  have hu := hu_of hr
  have hu64 := hr.units
  exact (ss_one (s_ret (e_and (e_call tk (ok_are_integers T) (hr.mono (by decide)) T.g_are_integers T.F_are_integers.kp T.b_are_integers (an_cons (e_var 0) an_nil)) (e_one (e_or (e_notT (e_var 0)) (e_one (e_and (e_cmp o_geI (e_callB (b_min1 rfl) T.n_min (a_cons (e_var 0) a_nil)) e_int) (e_one (e_cmp o_ltI (e_callB (b_max1 rfl) T.n_max (a_cons (e_var 0) a_nil)) (e_var 1))))))))))
theorem sc_u_is_step : FnScope ["letters", "states", "value"] ["letters", "states", "value"] (defScope s_u_is_step) := ⟨rfl, rfl, rfl, by decide +kernel, rfl, by decide +kernel, by decide +kernel⟩
theorem ok_u_is_step (T : Top K mg a) : FnOk P w K mg base (L2.CX P w) 3 T.p_u_is_step T.d_u_is_step ["letters", "states", "value"] (spS K 3 (D_u_is_step a)) := by
  refine sim_fn true T.F_u_is_step sc_u_is_step fun cdv A outer s H E hr tk hp => ?_
  have hu := hu_of hr
  have hu64 := hr.units
  exact (ss_one (s_ret (e_and (e_callB b_isi T.n_isinstance (a_cons (e_var 2) (a_cons (e_ty T.n_tuple) a_nil))) (e_and (e_cmp (o_eq hu64) (e_callB b_len T.n_len (a_cons (e_var 2) a_nil)) (e_var 0)) (e_one (e_call tk (ok_are_indices T) (hr.mono (by decide)) T.g_are_indices T.F_are_indices.kp T.b_are_indices (an_cons (e_var 2) (an_cons (e_var 1) an_nil))))))))
theorem sc_is_integer : FnScope ["value"] ["value"] (defScope s_is_integer) := ⟨rfl, rfl, rfl, by decide +kernel, rfl, by decide +kernel, by decide +kernel⟩
theorem ok_is_integer (T : Top K mg a) : FnOk P w K mg base (L2.CX P w) 1 T.p_is_integer T.d_is_integer ["value"] (spS K 1 (D_is_integer a)) := by
  refine sim_fn true T.F_is_integer sc_is_integer fun cdv A outer s H E hr tk hp => ?_
  have hu := hu_of hr
  have hu64 := hr.units
  exact (ss_one (s_ret (e_cmp o_is (e_callTy b_type T.n_type (a_cons (e_var 0) a_nil)) (e_ty T.n_int))))
theorem sc_is_between : FnScope ["value", "low", "high"] ["value", "low", "high"] (defScope s_is_between) := ⟨rfl, rfl, rfl, by decide +kernel, rfl, by decide +kernel, by decide +kernel⟩
theorem ok_is_between (T : Top K mg a) : FnOk P w K mg base (L2.CX P w) 2 T.p_is_between T.d_is_between ["value", "low", "high"] (spS K 3 (D_is_between a)) := by
  refine sim_fn true T.F_is_between sc_is_between fun cdv A outer s H E hr tk hp => ?_
  have hu := hu_of hr
  have hu64 := hr.units
  exact (ss_one (s_ret (e_and (e_call tk (ok_is_integer T) (hr.mono (by decide)) T.g_is_integer T.F_is_integer.kp T.b_is_integer (an_cons (e_var 0) an_nil)) (e_one (e_chain o_leI o_leI (e_var 1) (e_var 0) (e_var 2))))))
theorem sc_is_ascending : FnScope ["values", "low", "high"] ["values"] (defScope s_is_ascending) := ⟨rfl, rfl, rfl, by decide +kernel, rfl, by decide +kernel, by decide +kernel⟩
theorem ok_is_ascending (T : Top K mg a) : FnOk P w K mg base (L2.CX P w) 1 T.p_is_ascending T.d_is_ascending ["values"] (spS K 1 (D_is_ascending a)) := by
  refine sim_fn true T.F_is_ascending sc_is_ascending fun cdv A outer s H E hr tk hp => ?_
  have hu := hu_of hr
  have hu64 := hr.units
  exact (ss_one (s_ret (e_callB (b_all rfl) T.n_all (a_cons (e_lc [("low", 1), ("high", 2)] rfl sc_is_ascending.nd (i_zipT T.n_zip (e_var 0) (e_sl (e_var 0) (o_yes e_int) o_no)) (L2.blkOk_by (N := ["values", "low", "high"]) (sc := (defScope s_is_ascending)) (by decide +kernel)) (fun _ _ _ _ _ => (g_tup rfl (g_cons (g_name 1 sc_is_ascending.nd) (g_cons (g_name 2 sc_is_ascending.nd) g_nil)))) (fun _ _ _ _ _ => t_nil) (fun _ _ _ _ _ => (e_cmp o_ltI (e_var 1) (e_var 2)))) a_nil))))
theorem sc_is_index_tuple : FnScope ["value", "many"] ["value", "many"] (defScope s_is_index_tuple) := ⟨rfl, rfl, rfl, by decide +kernel, rfl, by decide +kernel, by decide +kernel⟩
theorem ok_is_index_tuple (T : Top K mg a) : FnOk P w K mg base (L2.CX P w) 3 T.p_is_index_tuple T.d_is_index_tuple ["value", "many"] (spS K 2 (D_is_index_tuple a)) := by
  refine sim_fn true T.F_is_index_tuple sc_is_index_tuple fun cdv A outer s H E hr tk hp => ?_
  have hu := hu_of hr
  have hu64 := hr.units
  exact (ss_one (s_ret (e_and (e_callB b_isi T.n_isinstance (a_cons (e_var 0) (a_cons (e_ty T.n_tuple) a_nil))) (e_and (e_call tk (ok_are_indices T) (hr.mono (by decide)) T.g_are_indices T.F_are_indices.kp T.b_are_indices (an_cons (e_var 0) (an_cons (e_var 1) an_nil))) (e_one (e_call tk (ok_is_ascending T) (hr.mono (by decide)) T.g_is_ascending T.F_is_ascending.kp T.b_is_ascending (an_cons (e_var 0) an_nil)))))))
theorem sc_reader_fault : FnScope ["letters", "steps", "accepting", "state", "step"] ["letters", "steps", "accepting"] (defScope s_reader_fault) := ⟨rfl, rfl, rfl, by decide +kernel, rfl, by decide +kernel, by decide +kernel⟩
theorem ok_reader_fault (T : Top K mg a) : FnOk P w K mg base (L2.CX P w) 4 T.p_reader_fault T.d_reader_fault ["letters", "steps", "accepting"] (spS K 3 (D_reader_fault a)) := by
  refine sim_fn true T.F_reader_fault sc_reader_fault fun cdv A outer s H E hr tk hp => ?_
  have hu := hu_of hr
  have hu64 := hr.units
  exact (ss_cons (s_if (t_not (t_val (e_call tk (ok_is_between T) (hr.mono (by decide)) T.g_is_between T.F_is_between.kp T.b_is_between (an_cons (e_var 0) (an_cons e_int (an_cons (e_gint T.c_MOST_LETTERS) an_nil)))))) (ss_one (s_ret (e_tup (a_cons e_str a_nil)))) ss_nil)
    (ss_cons (s_if (SW.st (w_or (t_not (t_val (e_callB b_isi T.n_isinstance (a_cons (e_var 1) (a_cons (e_ty T.n_tuple) a_nil))))) (w_or1 (t_not (t_chain o_leI o_leI e_int (e_callB b_len T.n_len (a_cons (e_var 1) a_nil)) (e_gint T.c_MOST_STATES)))))) (ss_one (s_ret (e_tup (a_cons e_str a_nil)))) ss_nil)
    (ss_cons (s_for hp rfl (i_enum T.n_enumerate (e_var 1)) (g_tup rfl (g_cons (g_name 3 sc_reader_fault.nd) (g_cons (g_name 4 sc_reader_fault.nd) g_nil))) (ss_one (s_if (t_not (t_val (e_call tk (ok_u_is_step T) (hr.mono (by decide)) T.g_u_is_step T.F_u_is_step.kp T.b_u_is_step (an_cons (e_var 0) (an_cons (e_callB b_len T.n_len (a_cons (e_var 1) a_nil)) (an_cons (e_var 4) an_nil)))))) (ss_one (s_ret (e_tup (a_cons e_str (a_cons (e_var 3) a_nil))))) ss_nil)))
    (ss_cons (s_if (t_not (t_val (e_call tk (ok_is_index_tuple T) (hr.mono (by decide)) T.g_is_index_tuple T.F_is_index_tuple.kp T.b_is_index_tuple (an_cons (e_var 2) (an_cons (e_callB b_len T.n_len (a_cons (e_var 1) a_nil)) an_nil))))) (ss_one (s_ret (e_tup (a_cons e_str a_nil)))) ss_nil)
    (ss_one (s_ret e_non))))))
theorem sc_m_Reader_init : FnScope ["self", "letters", "steps", "accepting", "fault"] ["self", "letters", "steps", "accepting"] (defScope s_m_Reader_init) := ⟨rfl, rfl, rfl, by decide +kernel, rfl, by decide +kernel, by decide +kernel⟩
theorem ok_m_Reader_init (T : Top K mg a) : FnOk P w K mg base (L2.CX P w) 5 T.p_m_Reader_init T.d_m_Reader_init ["self", "letters", "steps", "accepting"] (spS K 4 (D_m_Reader_init a)) := by
  refine sim_fn true T.F_m_Reader_init sc_m_Reader_init fun cdv A outer s H E hr tk hp => ?_
  have hu := hu_of hr
  have hu64 := hr.units
  exact (ss_cons (s_set 4 sc_m_Reader_init.nd (e_call tk (ok_reader_fault T) (hr.mono (by decide)) T.g_reader_fault T.F_reader_fault.kp T.b_reader_fault (an_cons (e_var 1) (an_cons (e_var 2) (an_cons (e_var 3) an_nil)))))
    (ss_cons (s_if (t_cmp o_isnot (e_var 4) e_non) (ss_one (s_raiseC T.rc_InvalidReader T.g_InvalidReader rfl tk (u_join (.cons j_str (.cons (j_fmt hr (e_var 4)) .nil))))) ss_nil)
    (ss_cons (s_fld T.cl_Reader T.na_Reader_letters (e_var 0) (e_var 1))
    (ss_cons (s_fld T.cl_Reader T.na_Reader_steps (e_var 0) (e_var 2))
    (ss_cons (s_fld T.cl_Reader T.na_Reader_accepting (e_var 0) (e_var 3))
    (ss_one (s_fld T.cl_Reader T.na_Reader_states (e_var 0) (e_callB b_len T.n_len (a_cons (e_var 2) a_nil)))))))))
theorem sc_m_Reader_str : FnScope ["self"] ["self"] (defScope s_m_Reader_str) := ⟨rfl, rfl, rfl, by decide +kernel, rfl, by decide +kernel, by decide +kernel⟩
theorem ok_m_Reader_str (T : Top K mg a) : FnOk P w K mg base (L2.CX P w) 1 T.p_m_Reader_str T.d_m_Reader_str ["self"] (spS K 1 (D_m_Reader_str a)) := by
  refine sim_fn true T.F_m_Reader_str sc_m_Reader_str fun cdv A outer s H E hr tk hp => ?_
  have hu := hu_of hr
  have hu64 := hr.units
  exact (ss_one (s_ret (e_join (.cons e_str (.cons (e_fmtS (e_fld T.cl_Reader T.na_Reader_states (e_var 0))) (.cons e_str (.cons (e_fmtS (e_fld T.cl_Reader T.na_Reader_letters (e_var 0))) (.cons e_str .nil))))))))
theorem sc_u_law_pick : FnScope ["bag", "total", "found", "one", "two"] ["bag", "total"] (defScope s_u_law_pick) := ⟨rfl, rfl, rfl, by decide +kernel, rfl, by decide +kernel, by decide +kernel⟩
theorem ok_u_law_pick (T : Top K mg a) : FnOk P w K mg base (L2.CX P w) 1 T.p_u_law_pick T.d_u_law_pick ["bag", "total"] (spS K 2 (D_u_law_pick a)) := by
  refine sim_fn true T.F_u_law_pick sc_u_law_pick fun cdv A outer s H E hr tk hp => ?_
  have hu := hu_of hr
  have hu64 := hr.units
  exact (ss_cons (s_if (t_cmp o_gtI (e_ix (e_var 0) e_int) e_int) (ss_cons (s_set 2 sc_u_law_pick.nd (e_op o_modI (e_callTy b_int T.n_int (a_cons (e_ix (e_var 0) e_int) a_nil)) (e_var 1)))
    (ss_cons (s_setIx (e_var 0) e_int (e_op o_divI (e_ix (e_var 0) e_int) (e_var 1)))
    (ss_one (s_ret (e_var 2))))) ss_nil)
    (ss_cons (s_setIx (e_var 0) e_int (e_op o_add (e_ix (e_var 0) e_int) e_int))
    (ss_cons (s_set 3 sc_u_law_pick.nd (e_op o_modI (e_callTy b_int T.n_int (a_cons (e_op o_add (e_ix (e_var 0) e_int) (e_op o_mulT e_int (e_ix (e_var 0) e_int))) a_nil)) e_int))
    (ss_cons (s_set 4 sc_u_law_pick.nd (e_op o_add (e_op o_mulT (e_op o_modI (e_callTy b_int T.n_int (a_cons (e_op o_add (e_op o_mulT (e_var 3) (e_var 3)) (e_op o_mulT e_int (e_ix (e_var 0) e_int))) a_nil)) e_int) e_int) (e_var 3)))
    (ss_one (s_ret (e_op o_modI (e_callTy b_int T.n_int (a_cons (e_op o_divI (e_var 4) e_int) a_nil)) (e_var 1))))))))
theorem sc_u_law_one_of : FnScope ["bag", "items"] ["bag", "items"] (defScope s_u_law_one_of) := ⟨rfl, rfl, rfl, by decide +kernel, rfl, by decide +kernel, by decide +kernel⟩
theorem ok_u_law_one_of (T : Top K mg a) : FnOk P w K mg base (L2.CX P w) 2 T.p_u_law_one_of T.d_u_law_one_of ["bag", "items"] (spS K 2 (D_u_law_one_of a)) := by
  refine sim_fn true T.F_u_law_one_of sc_u_law_one_of fun cdv A outer s H E hr tk hp => ?_
  have hu := hu_of hr
  have hu64 := hr.units
  exact (ss_one (s_ret (e_ix (e_var 1) (e_call tk (ok_u_law_pick T) (hr.mono (by decide)) T.g_u_law_pick T.F_u_law_pick.kp T.b_u_law_pick (an_cons (e_var 0) (an_cons (e_callB b_len T.n_len (a_cons (e_var 1) a_nil)) an_nil))))))
theorem sc_u_law_bent : FnScope ["bag", "value", "at", "way"] ["bag", "value"] (defScope s_u_law_bent) := ⟨rfl, rfl, rfl, by decide +kernel, rfl, by decide +kernel, by decide +kernel⟩
theorem ok_u_law_bent (T : Top K mg a) : ∀ n : Nat, FnOk P w K mg base (L2.CX P w) (3 + n) T.p_u_law_bent T.d_u_law_bent ["bag", "value"] (spS K 2 (D_u_law_bent n a))
  | 0 => FnOk.zero
  | n + 1 => by
    refine sim_fn (k := 3 + n) true T.F_u_law_bent sc_u_law_bent fun cdv A outer s H E hr tk hp => ?_
    have hu := hu_of hr
    have hu64 := hr.units
    have hrec := ok_u_law_bent T n
    exact (ss_cons (s_if (SW.st (w_and (t_val (e_callB b_isi T.n_isinstance (a_cons (e_var 1) (a_cons (e_ty T.n_tuple) a_nil)))) (w_and (t_cmp (o_ne hu64) (e_var 1) (e_tup a_nil)) (w_and1 (t_cmp o_gtI (e_call tk (ok_u_law_pick T) (hr.mono (by omega)) T.g_u_law_pick T.F_u_law_pick.kp T.b_u_law_pick (an_cons (e_var 0) (an_cons e_int an_nil))) e_int))))) (ss_cons (s_par 2 3 rfl sc_u_law_bent.nd (a_cons (e_call tk (ok_u_law_pick T) (hr.mono (by omega)) T.g_u_law_pick T.F_u_law_pick.kp T.b_u_law_pick (an_cons (e_var 0) (an_cons (e_callB b_len T.n_len (a_cons (e_var 1) a_nil)) an_nil))) (a_cons (e_call tk (ok_u_law_pick T) (hr.mono (by omega)) T.g_u_law_pick T.F_u_law_pick.kp T.b_u_law_pick (an_cons (e_var 0) (an_cons e_int an_nil))) a_nil)))
    (ss_cons (s_if (t_cmp (o_eq hu64) (e_var 3) e_int) (ss_one (s_ret (e_op o_add (e_sl (e_var 1) o_no (o_yes (e_var 2))) (e_sl (e_var 1) (o_yes (e_op o_add (e_var 2) e_int)) o_no)))) ss_nil)
    (ss_cons (s_if (t_cmp (o_eq hu64) (e_var 3) e_int) (ss_one (s_ret (e_op o_add (e_op o_add (e_sl (e_var 1) o_no (o_yes (e_var 2))) (e_sl (e_var 1) (o_yes (e_var 2)) (o_yes (e_op o_add (e_var 2) e_int)))) (e_sl (e_var 1) (o_yes (e_var 2)) o_no)))) ss_nil)
    (ss_cons (s_if (t_cmp (o_eq hu64) (e_var 3) e_int) (ss_one (s_ret (e_rev (e_var 1)))) ss_nil)
    (ss_one (s_ret (e_op o_add (e_op o_add (e_sl (e_var 1) o_no (o_yes (e_var 2))) (e_tup (a_cons (e_call tk hrec (hr.mono (by omega)) T.g_u_law_bent T.F_u_law_bent.kp T.b_u_law_bent (an_cons (e_var 0) (an_cons (e_ix (e_var 1) (e_var 2)) an_nil))) a_nil))) (e_sl (e_var 1) (o_yes (e_op o_add (e_var 2) e_int)) o_no)))))))) ss_nil)
    (ss_cons (s_if (SW.st (w_and (t_val (e_callB b_isi T.n_isinstance (a_cons (e_var 1) (a_cons (e_ty T.n_int) a_nil)))) (w_and (t_not (t_val (e_callB b_isi T.n_isinstance (a_cons (e_var 1) (a_cons (e_ty T.n_bool) a_nil))))) (w_and1 (t_cmp o_gtI (e_call tk (ok_u_law_pick T) (hr.mono (by omega)) T.g_u_law_pick T.F_u_law_pick.kp T.b_u_law_pick (an_cons (e_var 0) (an_cons e_int an_nil))) e_int))))) (ss_one (s_ret (e_op o_add (e_var 1) (e_call tk (ok_u_law_one_of T) (hr.mono (by omega)) T.g_u_law_one_of T.F_u_law_one_of.kp T.b_u_law_one_of (an_cons (e_var 0) (an_cons (e_lst (a_cons e_int (a_cons (e_neg e_int) (a_cons e_int a_nil)))) an_nil)))))) ss_nil)
    (ss_one (s_ret (e_call tk (ok_u_law_one_of T) (hr.mono (by omega)) T.g_u_law_one_of T.F_u_law_one_of.kp T.b_u_law_one_of (an_cons (e_var 0) (an_cons (e_lst (a_cons e_non (a_cons e_bl (a_cons (e_tup a_nil) (a_cons e_int (a_cons e_int (a_cons e_str (a_cons (e_lst (a_cons e_int a_nil)) (a_cons (e_tup (a_cons e_int a_nil)) (a_cons (e_tup (a_cons (e_tup (a_cons e_int a_nil)) a_nil)) (a_cons e_dic0 (a_cons (e_neg e_int) (a_cons e_int (a_cons e_int (a_cons (e_op o_pow e_int e_int) (a_cons (e_lst (a_cons (e_lst (a_cons e_int (a_cons e_int a_nil))) a_nil)) a_nil)))))))))))))))) an_nil)))))))
theorem sc_u_law_is_from : FnScope ["value", "least", "most"] ["value", "least", "most"] (defScope s_u_law_is_from) := ⟨rfl, rfl, rfl, by decide +kernel, rfl, by decide +kernel, by decide +kernel⟩
theorem ok_u_law_is_from (T : Top K mg a) : FnOk P w K mg base (L2.CX P w) 1 T.p_u_law_is_from T.d_u_law_is_from ["value", "least", "most"] (spS K 3 (D_u_law_is_from a)) := by
  refine sim_fn true T.F_u_law_is_from sc_u_law_is_from fun cdv A outer s H E hr tk hp => ?_
  have hu := hu_of hr
  have hu64 := hr.units
  exact (ss_one (s_ret (e_and (e_callB b_isi T.n_isinstance (a_cons (e_var 0) (a_cons (e_ty T.n_int) a_nil))) (e_and (e_not (e_callB b_isi T.n_isinstance (a_cons (e_var 0) (a_cons (e_ty T.n_bool) a_nil)))) (e_one (e_chain o_leI o_leI (e_var 1) (e_var 0) (e_var 2)))))))
theorem sc_u_law_fault : FnScope ["letters", "steps", "accepting", "state", "row", "other", "one"] ["letters", "steps", "accepting"] (defScope s_u_law_fault) := ⟨rfl, rfl, rfl, by decide +kernel, rfl, by decide +kernel, by decide +kernel⟩
theorem ok_u_law_fault (T : Top K mg a) : FnOk P w K mg base (L2.CX P w) 2 T.p_u_law_fault T.d_u_law_fault ["letters", "steps", "accepting"] (spS K 3 (D_u_law_fault a)) := by
  refine sim_fn true T.F_u_law_fault sc_u_law_fault fun cdv A outer s H E hr tk hp => ?_
  have hu := hu_of hr
  have hu64 := hr.units
  exact (ss_cons (s_if (t_not (t_val (e_call tk (ok_u_law_is_from T) (hr.mono (by decide)) T.g_u_law_is_from T.F_u_law_is_from.kp T.b_u_law_is_from (an_cons (e_var 0) (an_cons e_int (an_cons e_int an_nil)))))) (ss_one (s_ret (e_tup (a_cons e_str a_nil)))) ss_nil)
    (ss_cons (s_if (SW.st (w_or (t_not (t_val (e_callB b_isi T.n_isinstance (a_cons (e_var 1) (a_cons (e_ty T.n_tuple) a_nil))))) (w_or1 (t_not (t_chain o_leI o_leI e_int (e_callB b_len T.n_len (a_cons (e_var 1) a_nil)) e_int))))) (ss_one (s_ret (e_tup (a_cons e_str a_nil)))) ss_nil)
    (ss_cons (s_for hp rfl (i_enum T.n_enumerate (e_var 1)) (g_tup rfl (g_cons (g_name 3 sc_u_law_fault.nd) (g_cons (g_name 4 sc_u_law_fault.nd) g_nil))) (ss_cons (s_if (SW.st (w_or (t_not (t_val (e_callB b_isi T.n_isinstance (a_cons (e_var 4) (a_cons (e_ty T.n_tuple) a_nil))))) (w_or1 (t_cmp (o_ne hu64) (e_callB b_len T.n_len (a_cons (e_var 4) a_nil)) (e_var 0))))) (ss_one (s_ret (e_tup (a_cons e_str (a_cons (e_var 3) a_nil))))) ss_nil)
    (ss_one (s_if (t_cmp (o_ne hu64) (e_lc [("other", 5)] rfl sc_u_law_fault.nd (i_it (e_var 4)) (L2.blkOk_by (N := ["letters", "steps", "accepting", "state", "row", "other", "one"]) (sc := (defScope s_u_law_fault)) (by decide +kernel)) (fun _ _ _ _ _ => (g_name 5 sc_u_law_fault.nd)) (fun _ _ _ _ _ => (t_one (t_not (t_val (e_call L2.takes0 (ok_u_law_is_from T) (hr.mono (by decide)) T.g_u_law_is_from T.F_u_law_is_from.kp T.b_u_law_is_from (an_cons (e_var 5) (an_cons e_int (an_cons (e_op o_subI (e_callB b_len T.n_len (a_cons (e_var 1) a_nil)) e_int) an_nil)))))))) (fun _ _ _ _ _ => e_int)) (e_lst a_nil)) (ss_one (s_ret (e_tup (a_cons e_str (a_cons (e_var 3) a_nil))))) ss_nil))))
    (ss_cons (s_if (SW.st (w_or (t_not (t_val (e_callB b_isi T.n_isinstance (a_cons (e_var 2) (a_cons (e_ty T.n_tuple) a_nil))))) (w_or1 (t_cmp (o_ne hu64) (e_lc [("one", 6)] rfl sc_u_law_fault.nd (i_it (e_var 2)) (L2.blkOk_by (N := ["letters", "steps", "accepting", "state", "row", "other", "one"]) (sc := (defScope s_u_law_fault)) (by decide +kernel)) (fun _ _ _ _ _ => (g_name 6 sc_u_law_fault.nd)) (fun _ _ _ _ _ => (t_one (t_not (t_val (e_call L2.takes0 (ok_u_law_is_from T) (hr.mono (by decide)) T.g_u_law_is_from T.F_u_law_is_from.kp T.b_u_law_is_from (an_cons (e_var 6) (an_cons e_int (an_cons (e_op o_subI (e_callB b_len T.n_len (a_cons (e_var 1) a_nil)) e_int) an_nil)))))))) (fun _ _ _ _ _ => e_int)) (e_lst a_nil))))) (ss_one (s_ret (e_tup (a_cons e_str a_nil)))) ss_nil)
    (ss_one (s_ret (e_if (t_cmp (o_eq hu64) (e_callTy b_list T.n_list (a_cons (e_var 2) a_nil)) (e_srtSet rfl T.n_sorted T.n_set (e_var 2))) e_non (e_tup (a_cons e_str a_nil)))))))))
theorem sc_u_law_is_right : FnScope ["told", "due", "real"] ["told"] (defScope s_u_law_is_right) := ⟨rfl, rfl, rfl, by decide +kernel, rfl, by decide +kernel, by decide +kernel⟩
theorem ok_u_law_is_right (T : Top K mg a) : FnOk P w K mg base (L2.CX P w) 7 T.p_u_law_is_right T.d_u_law_is_right ["told"] (spS K 1 (D_u_law_is_right a)) := by
  refine sim_fn true T.F_u_law_is_right sc_u_law_is_right fun cdv A outer s H E hr tk hp => ?_
  have hu := hu_of hr
  have hu64 := hr.units
  exact (ss_cons (s_set 1 sc_u_law_is_right.nd (e_call tk (ok_u_law_fault T) (hr.mono (by decide)) T.g_u_law_fault T.F_u_law_fault.kp T.b_u_law_fault (an_cons (e_ix (e_var 0) e_int) (an_cons (e_ix (e_var 0) e_int) (an_cons (e_ix (e_var 0) e_int) an_nil)))))
    (ss_cons (s_if (t_cmp (o_ne hu64) (e_call tk (ok_reader_fault T) (hr.mono (by decide)) T.g_reader_fault T.F_reader_fault.kp T.b_reader_fault (an_cons (e_ix (e_var 0) e_int) (an_cons (e_ix (e_var 0) e_int) (an_cons (e_ix (e_var 0) e_int) an_nil)))) (e_var 1)) (ss_one (s_ret e_bl)) ss_nil)
    (ss_cons (s_try1 (catch_one T.ex_InvalidReader) T.g_InvalidReader tk (fun _ _ _ tk hp => (ss_one (s_set 2 sc_u_law_is_right.nd (e_make true tk T.mk_Reader (ok_m_Reader_init T) (hr.mono (by decide)) T.g_Reader T.b_m_Reader_init rfl (an_cons (e_ix (e_var 0) e_int) (an_cons (e_ix (e_var 0) e_int) (an_cons (e_ix (e_var 0) e_int) an_nil))))))) (fun _ _ _ _ _ _ _ => (ss_one (s_ret (e_cmp o_isnot (e_var 1) e_non)))))
    (ss_one (s_ret (e_and (e_cmp o_is (e_var 1) e_non) (e_one (e_cmp (o_eq hu64) (e_tup (a_cons (e_fld T.cl_Reader T.na_Reader_letters (e_var 2)) (a_cons (e_fld T.cl_Reader T.na_Reader_steps (e_var 2)) (a_cons (e_fld T.cl_Reader T.na_Reader_accepting (e_var 2)) (a_cons (e_fld T.cl_Reader T.na_Reader_states (e_var 2)) a_nil))))) (e_op o_add (e_var 0) (e_tup (a_cons (e_callB b_len T.n_len (a_cons (e_ix (e_var 0) e_int) a_nil)) a_nil)))))))))))
theorem sc_u_law_re_drawn : FnScope ["bag", "letters", "most", "many", "steps", "state", "letter"] ["bag", "letters", "most"] (defScope s_u_law_re_drawn) := ⟨rfl, rfl, rfl, by decide +kernel, rfl, by decide +kernel, by decide +kernel⟩
theorem ok_u_law_re_drawn (T : Top K mg a) : FnOk P w K mg base (L2.CX P w) 2 T.p_u_law_re_drawn T.d_u_law_re_drawn ["bag", "letters", "most"] (spS K 3 (D_u_law_re_drawn a)) := by
  refine sim_fn true T.F_u_law_re_drawn sc_u_law_re_drawn fun cdv A outer s H E hr tk hp => ?_
  have hu := hu_of hr
  have hu64 := hr.units
  exact (ss_cons (s_set 3 sc_u_law_re_drawn.nd (e_op o_add e_int (e_call tk (ok_u_law_pick T) (hr.mono (by decide)) T.g_u_law_pick T.F_u_law_pick.kp T.b_u_law_pick (an_cons (e_var 0) (an_cons (e_var 2) an_nil)))))
    (ss_cons (s_setLc 4 [("state", 5)] rfl sc_u_law_re_drawn.nd (i_rng1 T.n_range (e_var 3)) (L2.blkOk_by (N := ["bag", "letters", "most", "many", "steps", "state", "letter"]) (sc := (defScope s_u_law_re_drawn)) (by decide +kernel)) (fun _ _ _ _ _ => (g_name 5 sc_u_law_re_drawn.nd)) (fun _ _ _ _ _ => t_nil) (fun _ _ _ _ _ => (e_callTy b_tuple T.n_tuple (a_cons (e_lc [("letter", 6)] rfl sc_u_law_re_drawn.nd (i_rng1 T.n_range (e_var 1)) (L2.blkOk_by (N := ["bag", "letters", "most", "many", "steps", "state", "letter"]) (sc := (L2.relS _ (defScope s_u_law_re_drawn))) (by decide +kernel)) (fun _ _ _ _ _ => (g_name 6 sc_u_law_re_drawn.nd)) (fun _ _ _ _ _ => t_nil) (fun _ _ _ _ _ => (e_call L2.takes0 (ok_u_law_pick T) (hr.mono (by decide)) T.g_u_law_pick T.F_u_law_pick.kp T.b_u_law_pick (an_cons (e_var 0) (an_cons (e_var 3) an_nil))))) a_nil))) (L2.sw_true rfl rfl rfl (by decide +kernel)))
    (ss_one (s_ret (e_tup (a_cons (e_var 1) (a_cons (e_callTy b_tuple T.n_tuple (a_cons (e_var 4) a_nil)) (a_cons (e_callTy b_tuple T.n_tuple (a_cons (e_lc [("state", 5)] rfl sc_u_law_re_drawn.nd (i_rng1 T.n_range (e_var 3)) (L2.blkOk_by (N := ["bag", "letters", "most", "many", "steps", "state", "letter"]) (sc := (defScope s_u_law_re_drawn)) (by decide +kernel)) (fun _ _ _ _ _ => (g_name 5 sc_u_law_re_drawn.nd)) (fun _ _ _ _ _ => (t_one (t_cmp (o_eq hu64) (e_call L2.takes0 (ok_u_law_pick T) (hr.mono (by decide)) T.g_u_law_pick T.F_u_law_pick.kp T.b_u_law_pick (an_cons (e_var 0) (an_cons e_int an_nil))) e_int))) (fun _ _ _ _ _ => (e_var 5))) a_nil)) a_nil))))))))
theorem sc_u_law_right : FnScope ["bag", "plain", "other", "turn", "bent", "real", "far", "shown", "part"] ["bag"] (defScope s_u_law_right) := ⟨rfl, rfl, rfl, by decide +kernel, rfl, by decide +kernel, by decide +kernel⟩
theorem ok_u_law_right (T : Top K mg a) : FnOk P w K mg base (L2.CX P w) 8 T.p_u_law_right T.d_u_law_right ["bag"] (spS K 1 (D_u_law_right a)) := by
  refine sim_fn true T.F_u_law_right sc_u_law_right fun cdv A outer s H E hr tk hp => ?_
  have hu := hu_of hr
  have hu64 := hr.units
  exact (ss_cons (s_par 1 2 rfl sc_u_law_right.nd (a_cons (e_call tk (ok_u_law_re_drawn T) (hr.mono (by decide)) T.g_u_law_re_drawn T.F_u_law_re_drawn.kp T.b_u_law_re_drawn (an_cons (e_var 0) (an_cons (e_op o_add e_int (e_call tk (ok_u_law_pick T) (hr.mono (by decide)) T.g_u_law_pick T.F_u_law_pick.kp T.b_u_law_pick (an_cons (e_var 0) (an_cons e_int an_nil)))) (an_cons e_int an_nil)))) (a_cons (e_call tk (ok_u_law_re_drawn T) (hr.mono (by decide)) T.g_u_law_re_drawn T.F_u_law_re_drawn.kp T.b_u_law_re_drawn (an_cons (e_var 0) (an_cons (e_op o_add e_int (e_call tk (ok_u_law_pick T) (hr.mono (by decide)) T.g_u_law_pick T.F_u_law_pick.kp T.b_u_law_pick (an_cons (e_var 0) (an_cons e_int an_nil)))) (an_cons e_int an_nil)))) a_nil)))
    (ss_cons (s_if (t_not (t_val (e_call tk (ok_u_law_is_right T) (hr.mono (by decide)) T.g_u_law_is_right T.F_u_law_is_right.kp T.b_u_law_is_right (an_cons (e_var 1) an_nil)))) (ss_one (s_ret e_bl)) ss_nil)
    (ss_cons (s_for hp rfl (i_rng1 T.n_range e_int) (g_name 3 sc_u_law_right.nd) (ss_cons (s_setLc 4 [("part", 8)] rfl sc_u_law_right.nd (i_it (e_var 1)) (L2.blkOk_by (N := ["bag", "plain", "other", "turn", "bent", "real", "far", "shown", "part"]) (sc := (defScope s_u_law_right)) (by decide +kernel)) (fun _ _ _ _ _ => (g_name 8 sc_u_law_right.nd)) (fun _ _ _ _ _ => t_nil) (fun _ _ _ _ _ => (e_if (t_cmp (o_eq hu64) (e_call L2.takes0 (ok_u_law_pick T) (hr.mono (by decide)) T.g_u_law_pick T.F_u_law_pick.kp T.b_u_law_pick (an_cons (e_var 0) (an_cons e_int an_nil))) e_int) (e_call L2.takes0 (ok_u_law_bent T 4) (hr.mono (by decide)) T.g_u_law_bent T.F_u_law_bent.kp T.b_u_law_bent (an_cons (e_var 0) (an_cons (e_var 8) an_nil))) (e_var 8))) (L2.sw_true rfl rfl rfl (by decide +kernel)))
    (ss_one (s_if (t_not (t_val (e_call tk (ok_u_law_is_right T) (hr.mono (by decide)) T.g_u_law_is_right T.F_u_law_is_right.kp T.b_u_law_is_right (an_cons (e_callTy b_tuple T.n_tuple (a_cons (e_var 4) a_nil)) an_nil)))) (ss_one (s_ret e_bl)) ss_nil))))
    (ss_cons (s_par 5 6 rfl sc_u_law_right.nd (a_cons (e_make true tk T.mk_Reader (ok_m_Reader_init T) (hr.mono (by decide)) T.g_Reader T.b_m_Reader_init rfl (an_cons (e_ix (e_var 1) e_int) (an_cons (e_ix (e_var 1) e_int) (an_cons (e_ix (e_var 1) e_int) an_nil)))) (a_cons (e_make true tk T.mk_Reader (ok_m_Reader_init T) (hr.mono (by decide)) T.g_Reader T.b_m_Reader_init rfl (an_cons (e_ix (e_var 2) e_int) (an_cons (e_ix (e_var 2) e_int) (an_cons (e_ix (e_var 2) e_int) an_nil)))) a_nil)))
    (ss_cons (s_if (SW.st (w_or (t_cmp (o_ne hu64) (e_eqO T.eqc_Reader (ok_m_Reader_eq T) rfl T.b_m_Reader_eq (hr.mono (by decide)) (e_var 5) (e_var 6)) (e_cmp (o_eq hu64) (e_var 1) (e_var 2))) (w_or (t_cmp (o_ne hu64) (e_neO T.eqc_Reader (ok_m_Reader_eq T) rfl T.b_m_Reader_eq (hr.mono (by decide)) (e_var 5) (e_var 6)) (e_cmp (o_ne hu64) (e_var 1) (e_var 2))) (w_or (t_eqO T.eqc_Reader (ok_m_Reader_eq T) rfl T.b_m_Reader_eq (hr.mono (by decide)) (e_var 5) (e_var 1)) (w_or1 (t_eqO T.eqc_Reader (ok_m_Reader_eq T) rfl T.b_m_Reader_eq (hr.mono (by decide)) (e_var 5) e_int)))))) (ss_one (s_ret e_bl)) ss_nil)
    (ss_cons (s_set 7 sc_u_law_right.nd (e_op o_add (e_op o_add (e_op o_add (e_op o_add e_str (e_callTy b_str T.n_str (a_cons (e_callB b_len T.n_len (a_cons (e_ix (e_var 1) e_int) a_nil)) a_nil))) e_str) (e_callTy b_str T.n_str (a_cons (e_ix (e_var 1) e_int) a_nil))) e_str))
    (ss_one (s_ret (e_and (e_eqO T.eqc_Reader (ok_m_Reader_eq T) rfl T.b_m_Reader_eq (hr.mono (by decide)) (e_var 5) (e_make true tk T.mk_Reader (ok_m_Reader_init T) (hr.mono (by decide)) T.g_Reader T.b_m_Reader_init rfl (an_cons (e_ix (e_var 1) e_int) (an_cons (e_ix (e_var 1) e_int) (an_cons (e_ix (e_var 1) e_int) an_nil))))) (e_one (e_cmp (o_eq hu64) (e_strO T.str_Reader (ok_m_Reader_str T) rfl T.b_m_Reader_str (hr.mono (by decide)) T.n_str (e_var 5)) (e_var 7))))))))))))
theorem sc_law : FnScope ["script", "spot", "bag", "some", "told", "due", "letters", "steps", "accepting"] ["script"] (defScope s_law) := ⟨rfl, rfl, rfl, by decide +kernel, rfl, by decide +kernel, by decide +kernel⟩
theorem ok_law (T : Top K mg a) : FnOk P w K mg base (L2.CX P w) 9 T.p_law T.d_law ["script"] (spS K 1 (D_law a)) := by
  refine sim_fn true T.F_law sc_law fun cdv A outer s H E hr tk hp => ?_
  have hu := hu_of hr
  have hu64 := hr.units
  exact (ss_cons (s_for hp rfl (i_rng1 T.n_range (e_callB (b_max2 rfl) T.n_max (a_cons e_int (a_cons (e_callB (b_min2 rfl) T.n_min (a_cons e_int (a_cons (e_callB b_len T.n_len (a_cons (e_var 0) a_nil)) a_nil))) a_nil)))) (g_name 1 sc_law.nd) (ss_cons (s_set 2 sc_law.nd (e_call tk (ok_u_law_bag T) (hr.mono (by decide)) T.g_u_law_bag T.F_u_law_bag.kp T.b_u_law_bag (an_cons (e_var 0) (an_cons (e_var 1) an_nil))))
    (ss_one (s_if (SW.st (w_or (t_not (t_val (e_call tk (ok_u_law_right T) (hr.mono (by decide)) T.g_u_law_right T.F_u_law_right.kp T.b_u_law_right (an_cons (e_var 2) an_nil)))) (w_or1 (t_not (t_val (e_call tk (ok_u_law_right T) (hr.mono (by decide)) T.g_u_law_right T.F_u_law_right.kp T.b_u_law_right (an_cons (e_var 2) an_nil))))))) (ss_one (s_ret e_bl)) ss_nil))))
    (ss_cons (s_set 3 sc_law.nd (e_new (a_cons (e_tup (a_cons e_int (a_cons (e_tup (a_cons (e_op o_mulT (e_tup (a_cons e_int a_nil)) e_int) a_nil)) (a_cons (e_tup a_nil) a_nil)))) (a_cons (e_tup (a_cons e_int (a_cons (e_tup (a_cons (e_op o_mulT (e_tup (a_cons e_int a_nil)) e_int) a_nil)) (a_cons (e_tup a_nil) a_nil)))) (a_cons (e_tup (a_cons e_int (a_cons (e_op o_mulT (e_tup (a_cons (e_tup (a_cons e_int a_nil)) a_nil)) e_int) (a_cons (e_tup (a_cons e_int a_nil)) a_nil)))) (a_cons (e_tup (a_cons e_int (a_cons (e_op o_mulT (e_tup (a_cons (e_tup (a_cons e_int a_nil)) a_nil)) e_int) (a_cons (e_tup a_nil) a_nil)))) a_nil))))))
    (ss_cons (s_set 3 sc_law.nd (e_addNew (e_var 3) (e_lst (a_cons (e_tup (a_cons e_int (a_cons (e_tup (a_cons (e_tup a_nil) a_nil)) (a_cons (e_tup a_nil) a_nil)))) (a_cons (e_tup (a_cons e_int (a_cons (e_tup a_nil) (a_cons (e_tup a_nil) a_nil)))) (a_cons (e_tup (a_cons e_int (a_cons (e_tup (a_cons (e_tup (a_cons e_int (a_cons e_int a_nil))) (a_cons (e_tup (a_cons e_int a_nil)) a_nil))) (a_cons (e_tup a_nil) a_nil)))) (a_cons (e_tup (a_cons e_int (a_cons (e_tup (a_cons (e_tup (a_cons e_int a_nil)) a_nil)) (a_cons (e_tup a_nil) a_nil)))) (a_cons (e_tup (a_cons e_int (a_cons (e_tup (a_cons (e_tup (a_cons e_int a_nil)) a_nil)) (a_cons (e_tup (a_cons e_int (a_cons e_int a_nil))) a_nil)))) a_nil))))))))
    (ss_cons (s_set 3 sc_law.nd (e_addNew (e_var 3) (e_lst (a_cons (e_tup (a_cons e_int (a_cons (e_tup (a_cons (e_tup (a_cons e_int a_nil)) (a_cons (e_tup (a_cons e_int a_nil)) a_nil))) (a_cons (e_tup (a_cons e_int (a_cons e_int a_nil))) a_nil)))) (a_cons (e_tup (a_cons e_int (a_cons (e_tup (a_cons (e_tup (a_cons e_int a_nil)) a_nil)) (a_cons (e_lst (a_cons e_int a_nil)) a_nil)))) (a_cons (e_tup (a_cons e_int (a_cons (e_lst (a_cons (e_tup (a_cons e_int a_nil)) a_nil)) (a_cons (e_tup a_nil) a_nil)))) (a_cons (e_tup (a_cons e_bl (a_cons (e_tup (a_cons (e_tup (a_cons e_int a_nil)) a_nil)) (a_cons (e_tup a_nil) a_nil)))) a_nil)))))))
    (ss_cons (s_app (e_var 3) (e_tup (a_cons e_int (a_cons (e_tup (a_cons (e_tup (a_cons e_bl a_nil)) a_nil)) (a_cons (e_tup a_nil) a_nil)))))
    (ss_cons (s_set 3 sc_law.nd (e_addNew (e_var 3) (e_lst (a_cons (e_tup (a_cons e_int (a_cons (e_tup a_nil) (a_cons e_non a_nil)))) (a_cons (e_tup (a_cons e_int (a_cons (e_tup a_nil) (a_cons e_non a_nil)))) (a_cons (e_tup (a_cons e_int (a_cons (e_tup (a_cons (e_tup (a_cons (e_neg e_int) a_nil)) a_nil)) (a_cons e_non a_nil)))) (a_cons (e_tup (a_cons e_int (a_cons (e_tup (a_cons (e_tup (a_cons e_int (a_cons e_int (a_cons e_int a_nil)))) (a_cons (e_tup (a_cons e_int (a_cons e_int a_nil))) a_nil))) (a_cons (e_tup (a_cons e_int a_nil)) a_nil)))) a_nil)))))))
    (ss_cons (s_setLc 4 [("letters", 6), ("steps", 7), ("accepting", 8)] rfl sc_law.nd (i_it (e_var 3)) (L2.blkOk_by (N := ["script", "spot", "bag", "some", "told", "due", "letters", "steps", "accepting"]) (sc := (defScope s_law)) (by decide +kernel)) (fun _ _ _ _ _ => (g_tup rfl (g_cons (g_name 6 sc_law.nd) (g_cons (g_name 7 sc_law.nd) (g_cons (g_name 8 sc_law.nd) g_nil))))) (fun _ _ _ _ _ => t_nil) (fun _ _ _ _ _ => (e_call L2.takes0 (ok_reader_fault T) (hr.mono (by decide)) T.g_reader_fault T.F_reader_fault.kp T.b_reader_fault (an_cons (e_var 6) (an_cons (e_var 7) (an_cons (e_var 8) an_nil))))) (L2.sw_true rfl rfl rfl (by decide +kernel)))
    (ss_cons (s_set 5 sc_law.nd (e_lst (a_cons e_non (a_cons (e_tup (a_cons e_str a_nil)) (a_cons e_non (a_cons (e_tup (a_cons e_str a_nil)) (a_cons (e_tup (a_cons e_str a_nil)) (a_cons (e_tup (a_cons e_str a_nil)) (a_cons (e_tup (a_cons e_str (a_cons e_int a_nil))) (a_cons (e_tup (a_cons e_str (a_cons e_int a_nil))) (a_cons (e_tup (a_cons e_str a_nil)) a_nil)))))))))))
    (ss_cons (s_set 5 sc_law.nd (e_op o_add (e_var 5) (e_lst (a_cons (e_tup (a_cons e_str a_nil)) (a_cons (e_tup (a_cons e_str a_nil)) (a_cons (e_tup (a_cons e_str a_nil)) (a_cons (e_tup (a_cons e_str a_nil)) (a_cons (e_tup (a_cons e_str (a_cons e_int a_nil))) (a_cons (e_tup (a_cons e_str a_nil)) (a_cons (e_tup (a_cons e_str a_nil)) a_nil))))))))))
    (ss_one (s_ret (e_and (e_cmp (o_eq hu64) (e_var 4) (e_op o_add (e_var 5) (e_lst (a_cons (e_tup (a_cons e_str (a_cons e_int a_nil))) (a_cons (e_tup (a_cons e_str (a_cons e_int a_nil))) a_nil))))) (e_one (e_cmp (o_eq hu64) (e_tup (a_cons (e_gint T.c_MOST_LETTERS) (a_cons (e_gint T.c_MOST_STATES) (a_cons (e_gint T.c_MOST_WORD) a_nil)))) (e_tup (a_cons e_int (a_cons e_int (a_cons e_int a_nil))))))))))))))))))
end
end My

set_option Elab.async false
set_option linter.all false
set_option maxRecDepth 100000
set_option maxHeartbeats 4000000
namespace My
open PySem L2 Sim
variable (a : Ads) (h : SHp)
/-- the type of a value that holds no changing object -/
def ty : SV → Option String
  | .non => some "NoneType"
  | .bl _ => some "bool"
  | .int _ => some "int"
  | .str _ => some "str"
  | .tup _ => some "tuple"
  | .rls _ => some "list"
  | .rdc false _ _ => some "dict"
  | _ => none
theorem ty_typ {v : SV} {t : String} (e : ty v = some t) : typF [v] h = some (.ty t) := by
  cases v with
  | rdc b ks xs => cases b <;> simp [ty] at e; subst e; rfl
  | _ => simp [ty] at e <;> subst e <;> rfl
theorem ty_tyN {v : SV} {t : String} (e : ty v = some t) : tyN v h = some t := by
  cases v with
  | rdc b ks xs => cases b <;> simp [ty] at e; subst e; rfl
  | _ => simp [ty] at e <;> subst e <;> rfl
theorem ty_isi {v : SV} {t T : String} (e : ty v = some t) (hT : T ∈ tyNames ∧ T ≠ "NoneType") : isiF [v, .ty T] h = some (.bl (isTy t T)) := by
  simp only [isiF, if_pos hT, ty_tyN h e, Option.map_some]
def isI : SV → Bool
  | .int _ => true
  | _ => false
theorem isT_ty {s t : String} {b : Bool} : isF b (.ty s) (.ty t) h = some (.bl (if b then !decide (s = t) else decide (s = t))) := rfl
theorem ty_isI {v : SV} {t : String} (e : ty v = some t) : decide (t = "int") = isI v := by
  cases v with
  | rdc b ks xs => cases b <;> simp [ty] at e; subst e; rfl
  | _ => simp [ty] at e <;> subst e <;> rfl
theorem v_is_integer {v : SV} (hv : (ty v).isSome = true) : D_is_integer a [v] h = .ok (.bl (isI v)) h := by
  obtain ⟨t, e⟩ := Option.isSome_iff_exists.mp hv
  simp only [D_is_integer, B_is_integer]
  ((try simp -implicitDefEqProofs only [ev_fn, fin_rt, fin_nx, fin_err, ev_seq, sq_nx, sq_rt, sq_err, ev_cNil, ev_set, ev_expr, ev_rt, ev_rtN, ev_if, ev_for, ev_asg, gt_some, ev_onV, ev_onB, bd_ok, bd_err, sr_ok, sr_err, bk_bl, ik_int, of_some, ev_ret, ev_bind, ev_var, ev_C, ev_op, ev_call, ev_cb, ev_tst, ev_eTst, ev_and, ev_or, ev_not, ev_eIf, ev_bAnd, ev_bOr, ev_bNot, ev_chain, ev_nil, ev_cons, ev_tup, ev_lst, ev_new, ev_neg, ev_fld, ev_sl, ev_oNo, ev_oYes, ev_bTrue, ev_lc, ev_it, ev_rng, ev_enum, lt_int, le_int, gt_int, ge_int, add_int, sub_int, gN_ap, isNoneF, notNoneF, List.map_cons, List.map_nil, List.cons_append, List.nil_append, List.append_nil, List.length_cons, List.length_nil, List.length_map, wipeE, Nat.reduceAdd, Nat.reduceSub, Nat.reduceLeDiff, List.replicate, List.getElem?_cons_zero, List.getElem?_cons_succ, Option.join_some, Option.join_none, List.set_cons_zero, List.set_cons_succ, gc_same, decide_true, decide_false, ev_fldS, ev_put, ev_app, if_true, if_false, ite_true, ite_false, Bool.false_eq_true, Bool.not_true, Bool.not_false, reduceIte, sizeLine_eq, ev_notT, ev_tru, ev_rev, ev_srtSet, ev_fmtS, ev_joinS_nil, ev_joinS, ev_eqO, ev_strO]); repeat (simp -implicitDefEqProofs only [ty_typ _ e, isT_ty, ty_isI e]; (try simp -implicitDefEqProofs only [ev_fn, fin_rt, fin_nx, fin_err, ev_seq, sq_nx, sq_rt, sq_err, ev_cNil, ev_set, ev_expr, ev_rt, ev_rtN, ev_if, ev_for, ev_asg, gt_some, ev_onV, ev_onB, bd_ok, bd_err, sr_ok, sr_err, bk_bl, ik_int, of_some, ev_ret, ev_bind, ev_var, ev_C, ev_op, ev_call, ev_cb, ev_tst, ev_eTst, ev_and, ev_or, ev_not, ev_eIf, ev_bAnd, ev_bOr, ev_bNot, ev_chain, ev_nil, ev_cons, ev_tup, ev_lst, ev_new, ev_neg, ev_fld, ev_sl, ev_oNo, ev_oYes, ev_bTrue, ev_lc, ev_it, ev_rng, ev_enum, lt_int, le_int, gt_int, ge_int, add_int, sub_int, gN_ap, isNoneF, notNoneF, List.map_cons, List.map_nil, List.cons_append, List.nil_append, List.append_nil, List.length_cons, List.length_nil, List.length_map, wipeE, Nat.reduceAdd, Nat.reduceSub, Nat.reduceLeDiff, List.replicate, List.getElem?_cons_zero, List.getElem?_cons_succ, Option.join_some, Option.join_none, List.set_cons_zero, List.set_cons_succ, gc_same, decide_true, decide_false, ev_fldS, ev_put, ev_app, if_true, if_false, ite_true, ite_false, Bool.false_eq_true, Bool.not_true, Bool.not_false, reduceIte, sizeLine_eq, ev_notT, ev_tru, ev_rev, ev_srtSet, ev_fmtS, ev_joinS_nil, ev_joinS, ev_eqO, ev_strO])))
def inR (v : SV) (lo hi : Int) : Bool := match v with
  | .int i => decide (lo ≤ i) && decide (i ≤ hi)
  | _ => false
theorem v_is_between {v : SV} (hv : (ty v).isSome = true) (lo hi : Int) : D_is_between a [v, .int lo, .int hi] h = .ok (.bl (inR v lo hi)) h := by
  simp only [D_is_between, B_is_between]
  cases v with
  | int i =>
    ((try simp -implicitDefEqProofs only [ev_fn, fin_rt, fin_nx, fin_err, ev_seq, sq_nx, sq_rt, sq_err, ev_cNil, ev_set, ev_expr, ev_rt, ev_rtN, ev_if, ev_for, ev_asg, gt_some, ev_onV, ev_onB, bd_ok, bd_err, sr_ok, sr_err, bk_bl, ik_int, of_some, ev_ret, ev_bind, ev_var, ev_C, ev_op, ev_call, ev_cb, ev_tst, ev_eTst, ev_and, ev_or, ev_not, ev_eIf, ev_bAnd, ev_bOr, ev_bNot, ev_chain, ev_nil, ev_cons, ev_tup, ev_lst, ev_new, ev_neg, ev_fld, ev_sl, ev_oNo, ev_oYes, ev_bTrue, ev_lc, ev_it, ev_rng, ev_enum, lt_int, le_int, gt_int, ge_int, add_int, sub_int, gN_ap, isNoneF, notNoneF, List.map_cons, List.map_nil, List.cons_append, List.nil_append, List.append_nil, List.length_cons, List.length_nil, List.length_map, wipeE, Nat.reduceAdd, Nat.reduceSub, Nat.reduceLeDiff, List.replicate, List.getElem?_cons_zero, List.getElem?_cons_succ, Option.join_some, Option.join_none, List.set_cons_zero, List.set_cons_succ, gc_same, decide_true, decide_false, ev_fldS, ev_put, ev_app, if_true, if_false, ite_true, ite_false, Bool.false_eq_true, Bool.not_true, Bool.not_false, reduceIte, sizeLine_eq, ev_notT, ev_tru, ev_rev, ev_srtSet, ev_fmtS, ev_joinS_nil, ev_joinS, ev_eqO, ev_strO]); repeat (simp -implicitDefEqProofs only [v_is_integer a h hv, isI]; (try simp -implicitDefEqProofs only [ev_fn, fin_rt, fin_nx, fin_err, ev_seq, sq_nx, sq_rt, sq_err, ev_cNil, ev_set, ev_expr, ev_rt, ev_rtN, ev_if, ev_for, ev_asg, gt_some, ev_onV, ev_onB, bd_ok, bd_err, sr_ok, sr_err, bk_bl, ik_int, of_some, ev_ret, ev_bind, ev_var, ev_C, ev_op, ev_call, ev_cb, ev_tst, ev_eTst, ev_and, ev_or, ev_not, ev_eIf, ev_bAnd, ev_bOr, ev_bNot, ev_chain, ev_nil, ev_cons, ev_tup, ev_lst, ev_new, ev_neg, ev_fld, ev_sl, ev_oNo, ev_oYes, ev_bTrue, ev_lc, ev_it, ev_rng, ev_enum, lt_int, le_int, gt_int, ge_int, add_int, sub_int, gN_ap, isNoneF, notNoneF, List.map_cons, List.map_nil, List.cons_append, List.nil_append, List.append_nil, List.length_cons, List.length_nil, List.length_map, wipeE, Nat.reduceAdd, Nat.reduceSub, Nat.reduceLeDiff, List.replicate, List.getElem?_cons_zero, List.getElem?_cons_succ, Option.join_some, Option.join_none, List.set_cons_zero, List.set_cons_succ, gc_same, decide_true, decide_false, ev_fldS, ev_put, ev_app, if_true, if_false, ite_true, ite_false, Bool.false_eq_true, Bool.not_true, Bool.not_false, reduceIte, sizeLine_eq, ev_notT, ev_tru, ev_rev, ev_srtSet, ev_fmtS, ev_joinS_nil, ev_joinS, ev_eqO, ev_strO])))
    by_cases c : lo ≤ i
    · ((try simp -implicitDefEqProofs only [ev_fn, fin_rt, fin_nx, fin_err, ev_seq, sq_nx, sq_rt, sq_err, ev_cNil, ev_set, ev_expr, ev_rt, ev_rtN, ev_if, ev_for, ev_asg, gt_some, ev_onV, ev_onB, bd_ok, bd_err, sr_ok, sr_err, bk_bl, ik_int, of_some, ev_ret, ev_bind, ev_var, ev_C, ev_op, ev_call, ev_cb, ev_tst, ev_eTst, ev_and, ev_or, ev_not, ev_eIf, ev_bAnd, ev_bOr, ev_bNot, ev_chain, ev_nil, ev_cons, ev_tup, ev_lst, ev_new, ev_neg, ev_fld, ev_sl, ev_oNo, ev_oYes, ev_bTrue, ev_lc, ev_it, ev_rng, ev_enum, lt_int, le_int, gt_int, ge_int, add_int, sub_int, gN_ap, isNoneF, notNoneF, List.map_cons, List.map_nil, List.cons_append, List.nil_append, List.append_nil, List.length_cons, List.length_nil, List.length_map, wipeE, Nat.reduceAdd, Nat.reduceSub, Nat.reduceLeDiff, List.replicate, List.getElem?_cons_zero, List.getElem?_cons_succ, Option.join_some, Option.join_none, List.set_cons_zero, List.set_cons_succ, gc_same, decide_true, decide_false, ev_fldS, ev_put, ev_app, if_true, if_false, ite_true, ite_false, Bool.false_eq_true, Bool.not_true, Bool.not_false, reduceIte, sizeLine_eq, ev_notT, ev_tru, ev_rev, ev_srtSet, ev_fmtS, ev_joinS_nil, ev_joinS, ev_eqO, ev_strO]); repeat (simp -implicitDefEqProofs only [c]; (try simp -implicitDefEqProofs only [ev_fn, fin_rt, fin_nx, fin_err, ev_seq, sq_nx, sq_rt, sq_err, ev_cNil, ev_set, ev_expr, ev_rt, ev_rtN, ev_if, ev_for, ev_asg, gt_some, ev_onV, ev_onB, bd_ok, bd_err, sr_ok, sr_err, bk_bl, ik_int, of_some, ev_ret, ev_bind, ev_var, ev_C, ev_op, ev_call, ev_cb, ev_tst, ev_eTst, ev_and, ev_or, ev_not, ev_eIf, ev_bAnd, ev_bOr, ev_bNot, ev_chain, ev_nil, ev_cons, ev_tup, ev_lst, ev_new, ev_neg, ev_fld, ev_sl, ev_oNo, ev_oYes, ev_bTrue, ev_lc, ev_it, ev_rng, ev_enum, lt_int, le_int, gt_int, ge_int, add_int, sub_int, gN_ap, isNoneF, notNoneF, List.map_cons, List.map_nil, List.cons_append, List.nil_append, List.append_nil, List.length_cons, List.length_nil, List.length_map, wipeE, Nat.reduceAdd, Nat.reduceSub, Nat.reduceLeDiff, List.replicate, List.getElem?_cons_zero, List.getElem?_cons_succ, Option.join_some, Option.join_none, List.set_cons_zero, List.set_cons_succ, gc_same, decide_true, decide_false, ev_fldS, ev_put, ev_app, if_true, if_false, ite_true, ite_false, Bool.false_eq_true, Bool.not_true, Bool.not_false, reduceIte, sizeLine_eq, ev_notT, ev_tru, ev_rev, ev_srtSet, ev_fmtS, ev_joinS_nil, ev_joinS, ev_eqO, ev_strO])))
      simp [inR, c]
    · ((try simp -implicitDefEqProofs only [ev_fn, fin_rt, fin_nx, fin_err, ev_seq, sq_nx, sq_rt, sq_err, ev_cNil, ev_set, ev_expr, ev_rt, ev_rtN, ev_if, ev_for, ev_asg, gt_some, ev_onV, ev_onB, bd_ok, bd_err, sr_ok, sr_err, bk_bl, ik_int, of_some, ev_ret, ev_bind, ev_var, ev_C, ev_op, ev_call, ev_cb, ev_tst, ev_eTst, ev_and, ev_or, ev_not, ev_eIf, ev_bAnd, ev_bOr, ev_bNot, ev_chain, ev_nil, ev_cons, ev_tup, ev_lst, ev_new, ev_neg, ev_fld, ev_sl, ev_oNo, ev_oYes, ev_bTrue, ev_lc, ev_it, ev_rng, ev_enum, lt_int, le_int, gt_int, ge_int, add_int, sub_int, gN_ap, isNoneF, notNoneF, List.map_cons, List.map_nil, List.cons_append, List.nil_append, List.append_nil, List.length_cons, List.length_nil, List.length_map, wipeE, Nat.reduceAdd, Nat.reduceSub, Nat.reduceLeDiff, List.replicate, List.getElem?_cons_zero, List.getElem?_cons_succ, Option.join_some, Option.join_none, List.set_cons_zero, List.set_cons_succ, gc_same, decide_true, decide_false, ev_fldS, ev_put, ev_app, if_true, if_false, ite_true, ite_false, Bool.false_eq_true, Bool.not_true, Bool.not_false, reduceIte, sizeLine_eq, ev_notT, ev_tru, ev_rev, ev_srtSet, ev_fmtS, ev_joinS_nil, ev_joinS, ev_eqO, ev_strO]); repeat (simp -implicitDefEqProofs only [c]; (try simp -implicitDefEqProofs only [ev_fn, fin_rt, fin_nx, fin_err, ev_seq, sq_nx, sq_rt, sq_err, ev_cNil, ev_set, ev_expr, ev_rt, ev_rtN, ev_if, ev_for, ev_asg, gt_some, ev_onV, ev_onB, bd_ok, bd_err, sr_ok, sr_err, bk_bl, ik_int, of_some, ev_ret, ev_bind, ev_var, ev_C, ev_op, ev_call, ev_cb, ev_tst, ev_eTst, ev_and, ev_or, ev_not, ev_eIf, ev_bAnd, ev_bOr, ev_bNot, ev_chain, ev_nil, ev_cons, ev_tup, ev_lst, ev_new, ev_neg, ev_fld, ev_sl, ev_oNo, ev_oYes, ev_bTrue, ev_lc, ev_it, ev_rng, ev_enum, lt_int, le_int, gt_int, ge_int, add_int, sub_int, gN_ap, isNoneF, notNoneF, List.map_cons, List.map_nil, List.cons_append, List.nil_append, List.append_nil, List.length_cons, List.length_nil, List.length_map, wipeE, Nat.reduceAdd, Nat.reduceSub, Nat.reduceLeDiff, List.replicate, List.getElem?_cons_zero, List.getElem?_cons_succ, Option.join_some, Option.join_none, List.set_cons_zero, List.set_cons_succ, gc_same, decide_true, decide_false, ev_fldS, ev_put, ev_app, if_true, if_false, ite_true, ite_false, Bool.false_eq_true, Bool.not_true, Bool.not_false, reduceIte, sizeLine_eq, ev_notT, ev_tru, ev_rev, ev_srtSet, ev_fmtS, ev_joinS_nil, ev_joinS, ev_eqO, ev_strO])))
      simp [inR, c]
  | _ =>
    ((try simp -implicitDefEqProofs only [ev_fn, fin_rt, fin_nx, fin_err, ev_seq, sq_nx, sq_rt, sq_err, ev_cNil, ev_set, ev_expr, ev_rt, ev_rtN, ev_if, ev_for, ev_asg, gt_some, ev_onV, ev_onB, bd_ok, bd_err, sr_ok, sr_err, bk_bl, ik_int, of_some, ev_ret, ev_bind, ev_var, ev_C, ev_op, ev_call, ev_cb, ev_tst, ev_eTst, ev_and, ev_or, ev_not, ev_eIf, ev_bAnd, ev_bOr, ev_bNot, ev_chain, ev_nil, ev_cons, ev_tup, ev_lst, ev_new, ev_neg, ev_fld, ev_sl, ev_oNo, ev_oYes, ev_bTrue, ev_lc, ev_it, ev_rng, ev_enum, lt_int, le_int, gt_int, ge_int, add_int, sub_int, gN_ap, isNoneF, notNoneF, List.map_cons, List.map_nil, List.cons_append, List.nil_append, List.append_nil, List.length_cons, List.length_nil, List.length_map, wipeE, Nat.reduceAdd, Nat.reduceSub, Nat.reduceLeDiff, List.replicate, List.getElem?_cons_zero, List.getElem?_cons_succ, Option.join_some, Option.join_none, List.set_cons_zero, List.set_cons_succ, gc_same, decide_true, decide_false, ev_fldS, ev_put, ev_app, if_true, if_false, ite_true, ite_false, Bool.false_eq_true, Bool.not_true, Bool.not_false, reduceIte, sizeLine_eq, ev_notT, ev_tru, ev_rev, ev_srtSet, ev_fmtS, ev_joinS_nil, ev_joinS, ev_eqO, ev_strO]); repeat (simp -implicitDefEqProofs only [v_is_integer a h hv, isI]; (try simp -implicitDefEqProofs only [ev_fn, fin_rt, fin_nx, fin_err, ev_seq, sq_nx, sq_rt, sq_err, ev_cNil, ev_set, ev_expr, ev_rt, ev_rtN, ev_if, ev_for, ev_asg, gt_some, ev_onV, ev_onB, bd_ok, bd_err, sr_ok, sr_err, bk_bl, ik_int, of_some, ev_ret, ev_bind, ev_var, ev_C, ev_op, ev_call, ev_cb, ev_tst, ev_eTst, ev_and, ev_or, ev_not, ev_eIf, ev_bAnd, ev_bOr, ev_bNot, ev_chain, ev_nil, ev_cons, ev_tup, ev_lst, ev_new, ev_neg, ev_fld, ev_sl, ev_oNo, ev_oYes, ev_bTrue, ev_lc, ev_it, ev_rng, ev_enum, lt_int, le_int, gt_int, ge_int, add_int, sub_int, gN_ap, isNoneF, notNoneF, List.map_cons, List.map_nil, List.cons_append, List.nil_append, List.append_nil, List.length_cons, List.length_nil, List.length_map, wipeE, Nat.reduceAdd, Nat.reduceSub, Nat.reduceLeDiff, List.replicate, List.getElem?_cons_zero, List.getElem?_cons_succ, Option.join_some, Option.join_none, List.set_cons_zero, List.set_cons_succ, gc_same, decide_true, decide_false, ev_fldS, ev_put, ev_app, if_true, if_false, ite_true, ite_false, Bool.false_eq_true, Bool.not_true, Bool.not_false, reduceIte, sizeLine_eq, ev_notT, ev_tru, ev_rev, ev_srtSet, ev_fmtS, ev_joinS_nil, ev_joinS, ev_eqO, ev_strO])))
    rfl
end My

set_option Elab.async false
set_option linter.all false
set_option maxRecDepth 100000
set_option maxHeartbeats 4000000
namespace My
open PySem L2 Sim
variable (a : Ads) (h : SHp)
def P1 (xs : List SV) : Prop := (∀ x ∈ xs, (ty x).isSome = true) ∧ xs.length ≤ 1000
theorem tru_rls {xs : List SV} : truF (.rls xs) h = some (!xs.isEmpty) := rfl
theorem tru_tup {xs : List SV} : truF (.tup xs) h = some (!xs.isEmpty) := rfl
theorem filter_all (p : SV → Bool) (xs : List SV) : (xs.filter fun x => !p x).isEmpty = xs.all p := by
  induction xs with
  | nil => rfl
  | cons x xs ih => cases q : p x <;> simp [q, ih]
theorem v_are_integers {xs : List SV} (hx : P1 xs) : D_are_integers a [.tup xs] h = .ok (.bl (xs.all isI)) h := by
  have key := compL_pure (g := gN 1) (t := eTst (eOp (isF true) (eCB typF (aCons (eVar 1) aNil)) (eC (.ty "int")))) (el := eVar 1) (e := [some (.tup xs), none]) (h := h) (fun s => !isI s) id xs [] (fun s hs => by
    obtain ⟨t, e⟩ := Option.isSome_iff_exists.mp (hx.1 s hs)
    refine ⟨[some (.tup xs), some s], rfl, ?_, fun _ => rfl⟩
    ((try simp -implicitDefEqProofs only [ev_fn, fin_rt, fin_nx, fin_err, ev_seq, sq_nx, sq_rt, sq_err, ev_cNil, ev_set, ev_expr, ev_rt, ev_rtN, ev_if, ev_for, ev_asg, gt_some, ev_onV, ev_onB, bd_ok, bd_err, sr_ok, sr_err, bk_bl, ik_int, of_some, ev_ret, ev_bind, ev_var, ev_C, ev_op, ev_call, ev_cb, ev_tst, ev_eTst, ev_and, ev_or, ev_not, ev_eIf, ev_bAnd, ev_bOr, ev_bNot, ev_chain, ev_nil, ev_cons, ev_tup, ev_lst, ev_new, ev_neg, ev_fld, ev_sl, ev_oNo, ev_oYes, ev_bTrue, ev_lc, ev_it, ev_rng, ev_enum, lt_int, le_int, gt_int, ge_int, add_int, sub_int, gN_ap, isNoneF, notNoneF, List.map_cons, List.map_nil, List.cons_append, List.nil_append, List.append_nil, List.length_cons, List.length_nil, List.length_map, wipeE, Nat.reduceAdd, Nat.reduceSub, Nat.reduceLeDiff, List.replicate, List.getElem?_cons_zero, List.getElem?_cons_succ, Option.join_some, Option.join_none, List.set_cons_zero, List.set_cons_succ, gc_same, decide_true, decide_false, ev_fldS, ev_put, ev_app, if_true, if_false, ite_true, ite_false, Bool.false_eq_true, Bool.not_true, Bool.not_false, reduceIte, sizeLine_eq, ev_notT, ev_tru, ev_rev, ev_srtSet, ev_fmtS, ev_joinS_nil, ev_joinS, ev_eqO, ev_strO]); repeat (simp -implicitDefEqProofs only [ty_typ _ e, isT_ty, ty_isI e]; (try simp -implicitDefEqProofs only [ev_fn, fin_rt, fin_nx, fin_err, ev_seq, sq_nx, sq_rt, sq_err, ev_cNil, ev_set, ev_expr, ev_rt, ev_rtN, ev_if, ev_for, ev_asg, gt_some, ev_onV, ev_onB, bd_ok, bd_err, sr_ok, sr_err, bk_bl, ik_int, of_some, ev_ret, ev_bind, ev_var, ev_C, ev_op, ev_call, ev_cb, ev_tst, ev_eTst, ev_and, ev_or, ev_not, ev_eIf, ev_bAnd, ev_bOr, ev_bNot, ev_chain, ev_nil, ev_cons, ev_tup, ev_lst, ev_new, ev_neg, ev_fld, ev_sl, ev_oNo, ev_oYes, ev_bTrue, ev_lc, ev_it, ev_rng, ev_enum, lt_int, le_int, gt_int, ge_int, add_int, sub_int, gN_ap, isNoneF, notNoneF, List.map_cons, List.map_nil, List.cons_append, List.nil_append, List.append_nil, List.length_cons, List.length_nil, List.length_map, wipeE, Nat.reduceAdd, Nat.reduceSub, Nat.reduceLeDiff, List.replicate, List.getElem?_cons_zero, List.getElem?_cons_succ, Option.join_some, Option.join_none, List.set_cons_zero, List.set_cons_succ, gc_same, decide_true, decide_false, ev_fldS, ev_put, ev_app, if_true, if_false, ite_true, ite_false, Bool.false_eq_true, Bool.not_true, Bool.not_false, reduceIte, sizeLine_eq, ev_notT, ev_tru, ev_rev, ev_srtSet, ev_fmtS, ev_joinS_nil, ev_joinS, ev_eqO, ev_strO])))) (by have := hx.2; rw [sizeLine_eq]; simp; omega)
  simp only [D_are_integers, B_are_integers]
  ((try simp -implicitDefEqProofs only [ev_fn, fin_rt, fin_nx, fin_err, ev_seq, sq_nx, sq_rt, sq_err, ev_cNil, ev_set, ev_expr, ev_rt, ev_rtN, ev_if, ev_for, ev_asg, gt_some, ev_onV, ev_onB, bd_ok, bd_err, sr_ok, sr_err, bk_bl, ik_int, of_some, ev_ret, ev_bind, ev_var, ev_C, ev_op, ev_call, ev_cb, ev_tst, ev_eTst, ev_and, ev_or, ev_not, ev_eIf, ev_bAnd, ev_bOr, ev_bNot, ev_chain, ev_nil, ev_cons, ev_tup, ev_lst, ev_new, ev_neg, ev_fld, ev_sl, ev_oNo, ev_oYes, ev_bTrue, ev_lc, ev_it, ev_rng, ev_enum, lt_int, le_int, gt_int, ge_int, add_int, sub_int, gN_ap, isNoneF, notNoneF, List.map_cons, List.map_nil, List.cons_append, List.nil_append, List.append_nil, List.length_cons, List.length_nil, List.length_map, wipeE, Nat.reduceAdd, Nat.reduceSub, Nat.reduceLeDiff, List.replicate, List.getElem?_cons_zero, List.getElem?_cons_succ, Option.join_some, Option.join_none, List.set_cons_zero, List.set_cons_succ, gc_same, decide_true, decide_false, ev_fldS, ev_put, ev_app, if_true, if_false, ite_true, ite_false, Bool.false_eq_true, Bool.not_true, Bool.not_false, reduceIte, sizeLine_eq, ev_notT, ev_tru, ev_rev, ev_srtSet, ev_fmtS, ev_joinS_nil, ev_joinS, ev_eqO, ev_strO]); repeat (simp -implicitDefEqProofs only [it_tup, key, tru_rls]; (try simp -implicitDefEqProofs only [ev_fn, fin_rt, fin_nx, fin_err, ev_seq, sq_nx, sq_rt, sq_err, ev_cNil, ev_set, ev_expr, ev_rt, ev_rtN, ev_if, ev_for, ev_asg, gt_some, ev_onV, ev_onB, bd_ok, bd_err, sr_ok, sr_err, bk_bl, ik_int, of_some, ev_ret, ev_bind, ev_var, ev_C, ev_op, ev_call, ev_cb, ev_tst, ev_eTst, ev_and, ev_or, ev_not, ev_eIf, ev_bAnd, ev_bOr, ev_bNot, ev_chain, ev_nil, ev_cons, ev_tup, ev_lst, ev_new, ev_neg, ev_fld, ev_sl, ev_oNo, ev_oYes, ev_bTrue, ev_lc, ev_it, ev_rng, ev_enum, lt_int, le_int, gt_int, ge_int, add_int, sub_int, gN_ap, isNoneF, notNoneF, List.map_cons, List.map_nil, List.cons_append, List.nil_append, List.append_nil, List.length_cons, List.length_nil, List.length_map, wipeE, Nat.reduceAdd, Nat.reduceSub, Nat.reduceLeDiff, List.replicate, List.getElem?_cons_zero, List.getElem?_cons_succ, Option.join_some, Option.join_none, List.set_cons_zero, List.set_cons_succ, gc_same, decide_true, decide_false, ev_fldS, ev_put, ev_app, if_true, if_false, ite_true, ite_false, Bool.false_eq_true, Bool.not_true, Bool.not_false, reduceIte, sizeLine_eq, ev_notT, ev_tru, ev_rev, ev_srtSet, ev_fmtS, ev_joinS_nil, ev_joinS, ev_eqO, ev_strO])))
  simp [filter_all]
theorem ints_all {xs : List SV} (hx : xs.all isI = true) : ∃ ns : List Int, xs = ns.map SV.int := by
  induction xs with
  | nil => exact ⟨[], rfl⟩
  | cons x xs ih =>
    simp only [List.all_cons, Bool.and_eq_true] at hx
    obtain ⟨ns, e⟩ := ih hx.2
    cases x with
    | int i => exact ⟨i :: ns, by rw [e]; rfl⟩
    | _ => simp [isI] at hx
theorem intsOf_map (ns : List Int) : intsOf (ns.map SV.int) = some ns := by
  induction ns with
  | nil => rfl
  | cons n ns ih => simp [intsOf, ih]
theorem min1_tup {ns : List Int} (hn : ns ≠ []) : min1F [.tup (ns.map .int)] h = some (.int (minL ns)) := by
  simp [min1F, bestF, seqOf, tupOf, intsOf_map, hn]
theorem max1_tup {ns : List Int} (hn : ns ≠ []) : max1F [.tup (ns.map .int)] h = some (.int (maxL ns)) := by
  simp [max1F, bestF, seqOf, tupOf, intsOf_map, hn]
def idx (n : Nat) (xs : List SV) : Bool := xs.all fun x => inR x 0 ((n : Int) - 1)
theorem idx_ints (n : Nat) (ns : List Int) : idx n (ns.map .int) = true ↔ ∀ x ∈ ns, 0 ≤ x ∧ x < n := by
  simp only [idx, List.all_map, List.all_eq_true, Function.comp, inR, Bool.and_eq_true, decide_eq_true_eq]
  constructor
  · intro q x hx; have := q x hx; omega
  · intro q x hx; have := q x hx; omega
theorem idx_no {n : Nat} {xs : List SV} (q : xs.all isI = false) : idx n xs = false := by
  rw [← Bool.not_eq_true] at q ⊢
  intro z
  apply q
  simp only [idx, List.all_eq_true] at z ⊢
  intro x hx
  have := z x hx
  cases x <;> simp_all [inR, isI]
theorem v_are_indices {xs : List SV} (hx : P1 xs) (n : Nat) : D_are_indices a [.tup xs, nv n] h = .ok (.bl (idx n xs)) h := by
  simp only [D_are_indices, B_are_indices]
  cases q : xs.all isI with
  | false =>
    ((try simp -implicitDefEqProofs only [ev_fn, fin_rt, fin_nx, fin_err, ev_seq, sq_nx, sq_rt, sq_err, ev_cNil, ev_set, ev_expr, ev_rt, ev_rtN, ev_if, ev_for, ev_asg, gt_some, ev_onV, ev_onB, bd_ok, bd_err, sr_ok, sr_err, bk_bl, ik_int, of_some, ev_ret, ev_bind, ev_var, ev_C, ev_op, ev_call, ev_cb, ev_tst, ev_eTst, ev_and, ev_or, ev_not, ev_eIf, ev_bAnd, ev_bOr, ev_bNot, ev_chain, ev_nil, ev_cons, ev_tup, ev_lst, ev_new, ev_neg, ev_fld, ev_sl, ev_oNo, ev_oYes, ev_bTrue, ev_lc, ev_it, ev_rng, ev_enum, lt_int, le_int, gt_int, ge_int, add_int, sub_int, gN_ap, isNoneF, notNoneF, List.map_cons, List.map_nil, List.cons_append, List.nil_append, List.append_nil, List.length_cons, List.length_nil, List.length_map, wipeE, Nat.reduceAdd, Nat.reduceSub, Nat.reduceLeDiff, List.replicate, List.getElem?_cons_zero, List.getElem?_cons_succ, Option.join_some, Option.join_none, List.set_cons_zero, List.set_cons_succ, gc_same, decide_true, decide_false, ev_fldS, ev_put, ev_app, if_true, if_false, ite_true, ite_false, Bool.false_eq_true, Bool.not_true, Bool.not_false, reduceIte, sizeLine_eq, ev_notT, ev_tru, ev_rev, ev_srtSet, ev_fmtS, ev_joinS_nil, ev_joinS, ev_eqO, ev_strO]); repeat (simp -implicitDefEqProofs only [v_are_integers a _ hx, q]; (try simp -implicitDefEqProofs only [ev_fn, fin_rt, fin_nx, fin_err, ev_seq, sq_nx, sq_rt, sq_err, ev_cNil, ev_set, ev_expr, ev_rt, ev_rtN, ev_if, ev_for, ev_asg, gt_some, ev_onV, ev_onB, bd_ok, bd_err, sr_ok, sr_err, bk_bl, ik_int, of_some, ev_ret, ev_bind, ev_var, ev_C, ev_op, ev_call, ev_cb, ev_tst, ev_eTst, ev_and, ev_or, ev_not, ev_eIf, ev_bAnd, ev_bOr, ev_bNot, ev_chain, ev_nil, ev_cons, ev_tup, ev_lst, ev_new, ev_neg, ev_fld, ev_sl, ev_oNo, ev_oYes, ev_bTrue, ev_lc, ev_it, ev_rng, ev_enum, lt_int, le_int, gt_int, ge_int, add_int, sub_int, gN_ap, isNoneF, notNoneF, List.map_cons, List.map_nil, List.cons_append, List.nil_append, List.append_nil, List.length_cons, List.length_nil, List.length_map, wipeE, Nat.reduceAdd, Nat.reduceSub, Nat.reduceLeDiff, List.replicate, List.getElem?_cons_zero, List.getElem?_cons_succ, Option.join_some, Option.join_none, List.set_cons_zero, List.set_cons_succ, gc_same, decide_true, decide_false, ev_fldS, ev_put, ev_app, if_true, if_false, ite_true, ite_false, Bool.false_eq_true, Bool.not_true, Bool.not_false, reduceIte, sizeLine_eq, ev_notT, ev_tru, ev_rev, ev_srtSet, ev_fmtS, ev_joinS_nil, ev_joinS, ev_eqO, ev_strO])))
    rw [idx_no q]
  | true =>
    obtain ⟨ns, rfl⟩ := ints_all q
    by_cases hn : ns = []
    · subst hn
      ((try simp -implicitDefEqProofs only [ev_fn, fin_rt, fin_nx, fin_err, ev_seq, sq_nx, sq_rt, sq_err, ev_cNil, ev_set, ev_expr, ev_rt, ev_rtN, ev_if, ev_for, ev_asg, gt_some, ev_onV, ev_onB, bd_ok, bd_err, sr_ok, sr_err, bk_bl, ik_int, of_some, ev_ret, ev_bind, ev_var, ev_C, ev_op, ev_call, ev_cb, ev_tst, ev_eTst, ev_and, ev_or, ev_not, ev_eIf, ev_bAnd, ev_bOr, ev_bNot, ev_chain, ev_nil, ev_cons, ev_tup, ev_lst, ev_new, ev_neg, ev_fld, ev_sl, ev_oNo, ev_oYes, ev_bTrue, ev_lc, ev_it, ev_rng, ev_enum, lt_int, le_int, gt_int, ge_int, add_int, sub_int, gN_ap, isNoneF, notNoneF, List.map_cons, List.map_nil, List.cons_append, List.nil_append, List.append_nil, List.length_cons, List.length_nil, List.length_map, wipeE, Nat.reduceAdd, Nat.reduceSub, Nat.reduceLeDiff, List.replicate, List.getElem?_cons_zero, List.getElem?_cons_succ, Option.join_some, Option.join_none, List.set_cons_zero, List.set_cons_succ, gc_same, decide_true, decide_false, ev_fldS, ev_put, ev_app, if_true, if_false, ite_true, ite_false, Bool.false_eq_true, Bool.not_true, Bool.not_false, reduceIte, sizeLine_eq, ev_notT, ev_tru, ev_rev, ev_srtSet, ev_fmtS, ev_joinS_nil, ev_joinS, ev_eqO, ev_strO]); repeat (simp -implicitDefEqProofs only [v_are_integers a _ hx, q, tru_tup, List.isEmpty_nil, List.map_nil]; (try simp -implicitDefEqProofs only [ev_fn, fin_rt, fin_nx, fin_err, ev_seq, sq_nx, sq_rt, sq_err, ev_cNil, ev_set, ev_expr, ev_rt, ev_rtN, ev_if, ev_for, ev_asg, gt_some, ev_onV, ev_onB, bd_ok, bd_err, sr_ok, sr_err, bk_bl, ik_int, of_some, ev_ret, ev_bind, ev_var, ev_C, ev_op, ev_call, ev_cb, ev_tst, ev_eTst, ev_and, ev_or, ev_not, ev_eIf, ev_bAnd, ev_bOr, ev_bNot, ev_chain, ev_nil, ev_cons, ev_tup, ev_lst, ev_new, ev_neg, ev_fld, ev_sl, ev_oNo, ev_oYes, ev_bTrue, ev_lc, ev_it, ev_rng, ev_enum, lt_int, le_int, gt_int, ge_int, add_int, sub_int, gN_ap, isNoneF, notNoneF, List.map_cons, List.map_nil, List.cons_append, List.nil_append, List.append_nil, List.length_cons, List.length_nil, List.length_map, wipeE, Nat.reduceAdd, Nat.reduceSub, Nat.reduceLeDiff, List.replicate, List.getElem?_cons_zero, List.getElem?_cons_succ, Option.join_some, Option.join_none, List.set_cons_zero, List.set_cons_succ, gc_same, decide_true, decide_false, ev_fldS, ev_put, ev_app, if_true, if_false, ite_true, ite_false, Bool.false_eq_true, Bool.not_true, Bool.not_false, reduceIte, sizeLine_eq, ev_notT, ev_tru, ev_rev, ev_srtSet, ev_fmtS, ev_joinS_nil, ev_joinS, ev_eqO, ev_strO])))
      ((try simp -implicitDefEqProofs only [ev_fn, fin_rt, fin_nx, fin_err, ev_seq, sq_nx, sq_rt, sq_err, ev_cNil, ev_set, ev_expr, ev_rt, ev_rtN, ev_if, ev_for, ev_asg, gt_some, ev_onV, ev_onB, bd_ok, bd_err, sr_ok, sr_err, bk_bl, ik_int, of_some, ev_ret, ev_bind, ev_var, ev_C, ev_op, ev_call, ev_cb, ev_tst, ev_eTst, ev_and, ev_or, ev_not, ev_eIf, ev_bAnd, ev_bOr, ev_bNot, ev_chain, ev_nil, ev_cons, ev_tup, ev_lst, ev_new, ev_neg, ev_fld, ev_sl, ev_oNo, ev_oYes, ev_bTrue, ev_lc, ev_it, ev_rng, ev_enum, lt_int, le_int, gt_int, ge_int, add_int, sub_int, gN_ap, isNoneF, notNoneF, List.map_cons, List.map_nil, List.cons_append, List.nil_append, List.append_nil, List.length_cons, List.length_nil, List.length_map, wipeE, Nat.reduceAdd, Nat.reduceSub, Nat.reduceLeDiff, List.replicate, List.getElem?_cons_zero, List.getElem?_cons_succ, Option.join_some, Option.join_none, List.set_cons_zero, List.set_cons_succ, gc_same, decide_true, decide_false, ev_fldS, ev_put, ev_app, if_true, if_false, ite_true, ite_false, Bool.false_eq_true, Bool.not_true, Bool.not_false, reduceIte, sizeLine_eq, ev_notT, ev_tru, ev_rev, ev_srtSet, ev_fmtS, ev_joinS_nil, ev_joinS, ev_eqO, ev_strO]); repeat (simp -implicitDefEqProofs only [v_are_integers a h (xs := []) hx, tru_tup, List.isEmpty_nil, List.all_nil]; (try simp -implicitDefEqProofs only [ev_fn, fin_rt, fin_nx, fin_err, ev_seq, sq_nx, sq_rt, sq_err, ev_cNil, ev_set, ev_expr, ev_rt, ev_rtN, ev_if, ev_for, ev_asg, gt_some, ev_onV, ev_onB, bd_ok, bd_err, sr_ok, sr_err, bk_bl, ik_int, of_some, ev_ret, ev_bind, ev_var, ev_C, ev_op, ev_call, ev_cb, ev_tst, ev_eTst, ev_and, ev_or, ev_not, ev_eIf, ev_bAnd, ev_bOr, ev_bNot, ev_chain, ev_nil, ev_cons, ev_tup, ev_lst, ev_new, ev_neg, ev_fld, ev_sl, ev_oNo, ev_oYes, ev_bTrue, ev_lc, ev_it, ev_rng, ev_enum, lt_int, le_int, gt_int, ge_int, add_int, sub_int, gN_ap, isNoneF, notNoneF, List.map_cons, List.map_nil, List.cons_append, List.nil_append, List.append_nil, List.length_cons, List.length_nil, List.length_map, wipeE, Nat.reduceAdd, Nat.reduceSub, Nat.reduceLeDiff, List.replicate, List.getElem?_cons_zero, List.getElem?_cons_succ, Option.join_some, Option.join_none, List.set_cons_zero, List.set_cons_succ, gc_same, decide_true, decide_false, ev_fldS, ev_put, ev_app, if_true, if_false, ite_true, ite_false, Bool.false_eq_true, Bool.not_true, Bool.not_false, reduceIte, sizeLine_eq, ev_notT, ev_tru, ev_rev, ev_srtSet, ev_fmtS, ev_joinS_nil, ev_joinS, ev_eqO, ev_strO])))
      rfl
    · have e1 : (ns.map SV.int).isEmpty = false := by cases ns <;> simp_all
      have m1 := minL_spec hn
      have m2 := maxL_spec hn
      by_cases c : 0 ≤ minL ns
      · ((try simp -implicitDefEqProofs only [ev_fn, fin_rt, fin_nx, fin_err, ev_seq, sq_nx, sq_rt, sq_err, ev_cNil, ev_set, ev_expr, ev_rt, ev_rtN, ev_if, ev_for, ev_asg, gt_some, ev_onV, ev_onB, bd_ok, bd_err, sr_ok, sr_err, bk_bl, ik_int, of_some, ev_ret, ev_bind, ev_var, ev_C, ev_op, ev_call, ev_cb, ev_tst, ev_eTst, ev_and, ev_or, ev_not, ev_eIf, ev_bAnd, ev_bOr, ev_bNot, ev_chain, ev_nil, ev_cons, ev_tup, ev_lst, ev_new, ev_neg, ev_fld, ev_sl, ev_oNo, ev_oYes, ev_bTrue, ev_lc, ev_it, ev_rng, ev_enum, lt_int, le_int, gt_int, ge_int, add_int, sub_int, gN_ap, isNoneF, notNoneF, List.map_cons, List.map_nil, List.cons_append, List.nil_append, List.append_nil, List.length_cons, List.length_nil, List.length_map, wipeE, Nat.reduceAdd, Nat.reduceSub, Nat.reduceLeDiff, List.replicate, List.getElem?_cons_zero, List.getElem?_cons_succ, Option.join_some, Option.join_none, List.set_cons_zero, List.set_cons_succ, gc_same, decide_true, decide_false, ev_fldS, ev_put, ev_app, if_true, if_false, ite_true, ite_false, Bool.false_eq_true, Bool.not_true, Bool.not_false, reduceIte, sizeLine_eq, ev_notT, ev_tru, ev_rev, ev_srtSet, ev_fmtS, ev_joinS_nil, ev_joinS, ev_eqO, ev_strO]); repeat (simp -implicitDefEqProofs only [v_are_integers a _ hx, q, tru_tup, e1, min1_tup _ hn, max1_tup _ hn, c]; (try simp -implicitDefEqProofs only [ev_fn, fin_rt, fin_nx, fin_err, ev_seq, sq_nx, sq_rt, sq_err, ev_cNil, ev_set, ev_expr, ev_rt, ev_rtN, ev_if, ev_for, ev_asg, gt_some, ev_onV, ev_onB, bd_ok, bd_err, sr_ok, sr_err, bk_bl, ik_int, of_some, ev_ret, ev_bind, ev_var, ev_C, ev_op, ev_call, ev_cb, ev_tst, ev_eTst, ev_and, ev_or, ev_not, ev_eIf, ev_bAnd, ev_bOr, ev_bNot, ev_chain, ev_nil, ev_cons, ev_tup, ev_lst, ev_new, ev_neg, ev_fld, ev_sl, ev_oNo, ev_oYes, ev_bTrue, ev_lc, ev_it, ev_rng, ev_enum, lt_int, le_int, gt_int, ge_int, add_int, sub_int, gN_ap, isNoneF, notNoneF, List.map_cons, List.map_nil, List.cons_append, List.nil_append, List.append_nil, List.length_cons, List.length_nil, List.length_map, wipeE, Nat.reduceAdd, Nat.reduceSub, Nat.reduceLeDiff, List.replicate, List.getElem?_cons_zero, List.getElem?_cons_succ, Option.join_some, Option.join_none, List.set_cons_zero, List.set_cons_succ, gc_same, decide_true, decide_false, ev_fldS, ev_put, ev_app, if_true, if_false, ite_true, ite_false, Bool.false_eq_true, Bool.not_true, Bool.not_false, reduceIte, sizeLine_eq, ev_notT, ev_tru, ev_rev, ev_srtSet, ev_fmtS, ev_joinS_nil, ev_joinS, ev_eqO, ev_strO])))
        congr 3
        rw [Bool.eq_iff_iff, idx_ints, decide_eq_true_eq]
        constructor
        · intro z x hx; have := m1.2 x hx; have := m2.2 x hx; omega
        · intro z; exact (z _ m2.1).2
      · ((try simp -implicitDefEqProofs only [ev_fn, fin_rt, fin_nx, fin_err, ev_seq, sq_nx, sq_rt, sq_err, ev_cNil, ev_set, ev_expr, ev_rt, ev_rtN, ev_if, ev_for, ev_asg, gt_some, ev_onV, ev_onB, bd_ok, bd_err, sr_ok, sr_err, bk_bl, ik_int, of_some, ev_ret, ev_bind, ev_var, ev_C, ev_op, ev_call, ev_cb, ev_tst, ev_eTst, ev_and, ev_or, ev_not, ev_eIf, ev_bAnd, ev_bOr, ev_bNot, ev_chain, ev_nil, ev_cons, ev_tup, ev_lst, ev_new, ev_neg, ev_fld, ev_sl, ev_oNo, ev_oYes, ev_bTrue, ev_lc, ev_it, ev_rng, ev_enum, lt_int, le_int, gt_int, ge_int, add_int, sub_int, gN_ap, isNoneF, notNoneF, List.map_cons, List.map_nil, List.cons_append, List.nil_append, List.append_nil, List.length_cons, List.length_nil, List.length_map, wipeE, Nat.reduceAdd, Nat.reduceSub, Nat.reduceLeDiff, List.replicate, List.getElem?_cons_zero, List.getElem?_cons_succ, Option.join_some, Option.join_none, List.set_cons_zero, List.set_cons_succ, gc_same, decide_true, decide_false, ev_fldS, ev_put, ev_app, if_true, if_false, ite_true, ite_false, Bool.false_eq_true, Bool.not_true, Bool.not_false, reduceIte, sizeLine_eq, ev_notT, ev_tru, ev_rev, ev_srtSet, ev_fmtS, ev_joinS_nil, ev_joinS, ev_eqO, ev_strO]); repeat (simp -implicitDefEqProofs only [v_are_integers a _ hx, q, tru_tup, e1, min1_tup _ hn, max1_tup _ hn, c]; (try simp -implicitDefEqProofs only [ev_fn, fin_rt, fin_nx, fin_err, ev_seq, sq_nx, sq_rt, sq_err, ev_cNil, ev_set, ev_expr, ev_rt, ev_rtN, ev_if, ev_for, ev_asg, gt_some, ev_onV, ev_onB, bd_ok, bd_err, sr_ok, sr_err, bk_bl, ik_int, of_some, ev_ret, ev_bind, ev_var, ev_C, ev_op, ev_call, ev_cb, ev_tst, ev_eTst, ev_and, ev_or, ev_not, ev_eIf, ev_bAnd, ev_bOr, ev_bNot, ev_chain, ev_nil, ev_cons, ev_tup, ev_lst, ev_new, ev_neg, ev_fld, ev_sl, ev_oNo, ev_oYes, ev_bTrue, ev_lc, ev_it, ev_rng, ev_enum, lt_int, le_int, gt_int, ge_int, add_int, sub_int, gN_ap, isNoneF, notNoneF, List.map_cons, List.map_nil, List.cons_append, List.nil_append, List.append_nil, List.length_cons, List.length_nil, List.length_map, wipeE, Nat.reduceAdd, Nat.reduceSub, Nat.reduceLeDiff, List.replicate, List.getElem?_cons_zero, List.getElem?_cons_succ, Option.join_some, Option.join_none, List.set_cons_zero, List.set_cons_succ, gc_same, decide_true, decide_false, ev_fldS, ev_put, ev_app, if_true, if_false, ite_true, ite_false, Bool.false_eq_true, Bool.not_true, Bool.not_false, reduceIte, sizeLine_eq, ev_notT, ev_tru, ev_rev, ev_srtSet, ev_fmtS, ev_joinS_nil, ev_joinS, ev_eqO, ev_strO])))
        congr 2
        symm
        rw [← Bool.not_eq_true, idx_ints]
        intro z; exact c (z _ m1.1).1
end My

set_option Elab.async false
set_option linter.all false
set_option maxRecDepth 100000
set_option maxHeartbeats 4000000
namespace My
open PySem L2 Sim
variable (a : Ads) (h : SHp)
def P2 (v : SV) : Prop := (ty v).isSome = true ∧ ∀ xs, v = .tup xs → P1 xs
def stepOk (L : Int) (n : Nat) (v : SV) : Bool := match v with
  | .tup xs => decide ((xs.length : Int) = L) && idx n xs
  | _ => false
theorem mem_tup : "tuple" ∈ tyNames ∧ "tuple" ≠ "NoneType" := by decide
theorem mem_int : "int" ∈ tyNames ∧ "int" ≠ "NoneType" := by decide
theorem mem_bool : "bool" ∈ tyNames ∧ "bool" ≠ "NoneType" := by decide
def isTp : SV → Bool
  | .tup _ => true
  | _ => false
theorem ty_isTp {v : SV} {t : String} (e : ty v = some t) : isTy t "tuple" = isTp v := by
  cases v with
  | rdc b ks xs => cases b <;> simp [ty] at e; subst e; show isTy "dict" "tuple" = false; decide
  | _ => simp [ty] at e <;> subst e <;> first | rfl | decide
theorem isi_tp {v : SV} (hv : (ty v).isSome = true) : isiF [v, .ty "tuple"] h = some (.bl (isTp v)) := by
  obtain ⟨t, e⟩ := Option.isSome_iff_exists.mp hv
  rw [ty_isi h e mem_tup, ty_isTp e]
theorem isTp_no {v : SV} (q : isTp v = false) : ∀ xs, v ≠ .tup xs := fun xs e => by rw [e] at q; cases q
theorem v_is_step {v : SV} (hv : P2 v) (L : Int) (n : Nat) : D_u_is_step a [.int L, nv n, v] h = .ok (.bl (stepOk L n v)) h := by
  simp only [D_u_is_step, B_u_is_step]
  cases q : isTp v with
  | false =>
    ((try simp -implicitDefEqProofs only [ev_fn, fin_rt, fin_nx, fin_err, ev_seq, sq_nx, sq_rt, sq_err, ev_cNil, ev_set, ev_expr, ev_rt, ev_rtN, ev_if, ev_for, ev_asg, gt_some, ev_onV, ev_onB, bd_ok, bd_err, sr_ok, sr_err, bk_bl, ik_int, of_some, ev_ret, ev_bind, ev_var, ev_C, ev_op, ev_call, ev_cb, ev_tst, ev_eTst, ev_and, ev_or, ev_not, ev_eIf, ev_bAnd, ev_bOr, ev_bNot, ev_chain, ev_nil, ev_cons, ev_tup, ev_lst, ev_new, ev_neg, ev_fld, ev_sl, ev_oNo, ev_oYes, ev_bTrue, ev_lc, ev_it, ev_rng, ev_enum, lt_int, le_int, gt_int, ge_int, add_int, sub_int, gN_ap, isNoneF, notNoneF, List.map_cons, List.map_nil, List.cons_append, List.nil_append, List.append_nil, List.length_cons, List.length_nil, List.length_map, wipeE, Nat.reduceAdd, Nat.reduceSub, Nat.reduceLeDiff, List.replicate, List.getElem?_cons_zero, List.getElem?_cons_succ, Option.join_some, Option.join_none, List.set_cons_zero, List.set_cons_succ, gc_same, decide_true, decide_false, ev_fldS, ev_put, ev_app, if_true, if_false, ite_true, ite_false, Bool.false_eq_true, Bool.not_true, Bool.not_false, reduceIte, sizeLine_eq, ev_notT, ev_tru, ev_rev, ev_srtSet, ev_fmtS, ev_joinS_nil, ev_joinS, ev_eqO, ev_strO]); repeat (simp -implicitDefEqProofs only [isi_tp h hv.1, q]; (try simp -implicitDefEqProofs only [ev_fn, fin_rt, fin_nx, fin_err, ev_seq, sq_nx, sq_rt, sq_err, ev_cNil, ev_set, ev_expr, ev_rt, ev_rtN, ev_if, ev_for, ev_asg, gt_some, ev_onV, ev_onB, bd_ok, bd_err, sr_ok, sr_err, bk_bl, ik_int, of_some, ev_ret, ev_bind, ev_var, ev_C, ev_op, ev_call, ev_cb, ev_tst, ev_eTst, ev_and, ev_or, ev_not, ev_eIf, ev_bAnd, ev_bOr, ev_bNot, ev_chain, ev_nil, ev_cons, ev_tup, ev_lst, ev_new, ev_neg, ev_fld, ev_sl, ev_oNo, ev_oYes, ev_bTrue, ev_lc, ev_it, ev_rng, ev_enum, lt_int, le_int, gt_int, ge_int, add_int, sub_int, gN_ap, isNoneF, notNoneF, List.map_cons, List.map_nil, List.cons_append, List.nil_append, List.append_nil, List.length_cons, List.length_nil, List.length_map, wipeE, Nat.reduceAdd, Nat.reduceSub, Nat.reduceLeDiff, List.replicate, List.getElem?_cons_zero, List.getElem?_cons_succ, Option.join_some, Option.join_none, List.set_cons_zero, List.set_cons_succ, gc_same, decide_true, decide_false, ev_fldS, ev_put, ev_app, if_true, if_false, ite_true, ite_false, Bool.false_eq_true, Bool.not_true, Bool.not_false, reduceIte, sizeLine_eq, ev_notT, ev_tru, ev_rev, ev_srtSet, ev_fmtS, ev_joinS_nil, ev_joinS, ev_eqO, ev_strO])))
    cases v <;> first | rfl | simp [isTp] at q
  | true =>
    cases v with
    | tup xs =>
      have p := hv.2 xs rfl
      by_cases c : (xs.length : Int) = L
      · ((try simp -implicitDefEqProofs only [ev_fn, fin_rt, fin_nx, fin_err, ev_seq, sq_nx, sq_rt, sq_err, ev_cNil, ev_set, ev_expr, ev_rt, ev_rtN, ev_if, ev_for, ev_asg, gt_some, ev_onV, ev_onB, bd_ok, bd_err, sr_ok, sr_err, bk_bl, ik_int, of_some, ev_ret, ev_bind, ev_var, ev_C, ev_op, ev_call, ev_cb, ev_tst, ev_eTst, ev_and, ev_or, ev_not, ev_eIf, ev_bAnd, ev_bOr, ev_bNot, ev_chain, ev_nil, ev_cons, ev_tup, ev_lst, ev_new, ev_neg, ev_fld, ev_sl, ev_oNo, ev_oYes, ev_bTrue, ev_lc, ev_it, ev_rng, ev_enum, lt_int, le_int, gt_int, ge_int, add_int, sub_int, gN_ap, isNoneF, notNoneF, List.map_cons, List.map_nil, List.cons_append, List.nil_append, List.append_nil, List.length_cons, List.length_nil, List.length_map, wipeE, Nat.reduceAdd, Nat.reduceSub, Nat.reduceLeDiff, List.replicate, List.getElem?_cons_zero, List.getElem?_cons_succ, Option.join_some, Option.join_none, List.set_cons_zero, List.set_cons_succ, gc_same, decide_true, decide_false, ev_fldS, ev_put, ev_app, if_true, if_false, ite_true, ite_false, Bool.false_eq_true, Bool.not_true, Bool.not_false, reduceIte, sizeLine_eq, ev_notT, ev_tru, ev_rev, ev_srtSet, ev_fmtS, ev_joinS_nil, ev_joinS, ev_eqO, ev_strO]); repeat (simp -implicitDefEqProofs only [isi_tp h hv.1, q, len_tup, eqF_int, decide_eq_true c, v_are_indices a h p]; (try simp -implicitDefEqProofs only [ev_fn, fin_rt, fin_nx, fin_err, ev_seq, sq_nx, sq_rt, sq_err, ev_cNil, ev_set, ev_expr, ev_rt, ev_rtN, ev_if, ev_for, ev_asg, gt_some, ev_onV, ev_onB, bd_ok, bd_err, sr_ok, sr_err, bk_bl, ik_int, of_some, ev_ret, ev_bind, ev_var, ev_C, ev_op, ev_call, ev_cb, ev_tst, ev_eTst, ev_and, ev_or, ev_not, ev_eIf, ev_bAnd, ev_bOr, ev_bNot, ev_chain, ev_nil, ev_cons, ev_tup, ev_lst, ev_new, ev_neg, ev_fld, ev_sl, ev_oNo, ev_oYes, ev_bTrue, ev_lc, ev_it, ev_rng, ev_enum, lt_int, le_int, gt_int, ge_int, add_int, sub_int, gN_ap, isNoneF, notNoneF, List.map_cons, List.map_nil, List.cons_append, List.nil_append, List.append_nil, List.length_cons, List.length_nil, List.length_map, wipeE, Nat.reduceAdd, Nat.reduceSub, Nat.reduceLeDiff, List.replicate, List.getElem?_cons_zero, List.getElem?_cons_succ, Option.join_some, Option.join_none, List.set_cons_zero, List.set_cons_succ, gc_same, decide_true, decide_false, ev_fldS, ev_put, ev_app, if_true, if_false, ite_true, ite_false, Bool.false_eq_true, Bool.not_true, Bool.not_false, reduceIte, sizeLine_eq, ev_notT, ev_tru, ev_rev, ev_srtSet, ev_fmtS, ev_joinS_nil, ev_joinS, ev_eqO, ev_strO])))
        simp [stepOk, c]
      · ((try simp -implicitDefEqProofs only [ev_fn, fin_rt, fin_nx, fin_err, ev_seq, sq_nx, sq_rt, sq_err, ev_cNil, ev_set, ev_expr, ev_rt, ev_rtN, ev_if, ev_for, ev_asg, gt_some, ev_onV, ev_onB, bd_ok, bd_err, sr_ok, sr_err, bk_bl, ik_int, of_some, ev_ret, ev_bind, ev_var, ev_C, ev_op, ev_call, ev_cb, ev_tst, ev_eTst, ev_and, ev_or, ev_not, ev_eIf, ev_bAnd, ev_bOr, ev_bNot, ev_chain, ev_nil, ev_cons, ev_tup, ev_lst, ev_new, ev_neg, ev_fld, ev_sl, ev_oNo, ev_oYes, ev_bTrue, ev_lc, ev_it, ev_rng, ev_enum, lt_int, le_int, gt_int, ge_int, add_int, sub_int, gN_ap, isNoneF, notNoneF, List.map_cons, List.map_nil, List.cons_append, List.nil_append, List.append_nil, List.length_cons, List.length_nil, List.length_map, wipeE, Nat.reduceAdd, Nat.reduceSub, Nat.reduceLeDiff, List.replicate, List.getElem?_cons_zero, List.getElem?_cons_succ, Option.join_some, Option.join_none, List.set_cons_zero, List.set_cons_succ, gc_same, decide_true, decide_false, ev_fldS, ev_put, ev_app, if_true, if_false, ite_true, ite_false, Bool.false_eq_true, Bool.not_true, Bool.not_false, reduceIte, sizeLine_eq, ev_notT, ev_tru, ev_rev, ev_srtSet, ev_fmtS, ev_joinS_nil, ev_joinS, ev_eqO, ev_strO]); repeat (simp -implicitDefEqProofs only [isi_tp h hv.1, q, len_tup, eqF_int, decide_eq_false c]; (try simp -implicitDefEqProofs only [ev_fn, fin_rt, fin_nx, fin_err, ev_seq, sq_nx, sq_rt, sq_err, ev_cNil, ev_set, ev_expr, ev_rt, ev_rtN, ev_if, ev_for, ev_asg, gt_some, ev_onV, ev_onB, bd_ok, bd_err, sr_ok, sr_err, bk_bl, ik_int, of_some, ev_ret, ev_bind, ev_var, ev_C, ev_op, ev_call, ev_cb, ev_tst, ev_eTst, ev_and, ev_or, ev_not, ev_eIf, ev_bAnd, ev_bOr, ev_bNot, ev_chain, ev_nil, ev_cons, ev_tup, ev_lst, ev_new, ev_neg, ev_fld, ev_sl, ev_oNo, ev_oYes, ev_bTrue, ev_lc, ev_it, ev_rng, ev_enum, lt_int, le_int, gt_int, ge_int, add_int, sub_int, gN_ap, isNoneF, notNoneF, List.map_cons, List.map_nil, List.cons_append, List.nil_append, List.append_nil, List.length_cons, List.length_nil, List.length_map, wipeE, Nat.reduceAdd, Nat.reduceSub, Nat.reduceLeDiff, List.replicate, List.getElem?_cons_zero, List.getElem?_cons_succ, Option.join_some, Option.join_none, List.set_cons_zero, List.set_cons_succ, gc_same, decide_true, decide_false, ev_fldS, ev_put, ev_app, if_true, if_false, ite_true, ite_false, Bool.false_eq_true, Bool.not_true, Bool.not_false, reduceIte, sizeLine_eq, ev_notT, ev_tru, ev_rev, ev_srtSet, ev_fmtS, ev_joinS_nil, ev_joinS, ev_eqO, ev_strO])))
        simp [stepOk, c]
    | _ => simp [isTp] at q
def ascI (ns : List Int) : Bool := (List.zip ns (ns.drop 1)).all fun p => decide (p.1 < p.2)
theorem zip_ascI : ∀ (xs : List Int), zipL (xs.map SV.int) ((xs.map SV.int).drop 1) = (List.zip xs (xs.drop 1)).map fun p => .tup [.int p.1, .int p.2]
  | [] => rfl
  | [x] => rfl
  | x :: y :: xs => by
    have := zip_ascI (y :: xs)
    simp only [List.map_cons, List.drop_succ_cons, List.drop_zero, List.zip_cons_cons, zipL] at this ⊢
    rw [this]
theorem v_is_ascending (ns : List Int) (hl : ns.length ≤ 1000) : D_is_ascending a [.tup (ns.map .int)] h = .ok (.bl (ascI ns)) h := by
  have Z : ∀ e h, cZipT (eVar 0) (eSl (eVar 0) (oYes (eC (.int 1))) oNo) (some (.tup (ns.map .int)) :: e) h = .ok (((List.zip ns (ns.drop 1)).map fun p => .tup [.int p.1, .int p.2]), .no) h := by
    intro e h
    have q1 : eVar 0 (some (.tup (ns.map .int)) :: e) h = .ok (.tup (ns.map .int)) h := by (try simp -implicitDefEqProofs only [ev_fn, fin_rt, fin_nx, fin_err, ev_seq, sq_nx, sq_rt, sq_err, ev_cNil, ev_set, ev_expr, ev_rt, ev_rtN, ev_if, ev_for, ev_asg, gt_some, ev_onV, ev_onB, bd_ok, bd_err, sr_ok, sr_err, bk_bl, ik_int, of_some, ev_ret, ev_bind, ev_var, ev_C, ev_op, ev_call, ev_cb, ev_tst, ev_eTst, ev_and, ev_or, ev_not, ev_eIf, ev_bAnd, ev_bOr, ev_bNot, ev_chain, ev_nil, ev_cons, ev_tup, ev_lst, ev_new, ev_neg, ev_fld, ev_sl, ev_oNo, ev_oYes, ev_bTrue, ev_lc, ev_it, ev_rng, ev_enum, lt_int, le_int, gt_int, ge_int, add_int, sub_int, gN_ap, isNoneF, notNoneF, List.map_cons, List.map_nil, List.cons_append, List.nil_append, List.append_nil, List.length_cons, List.length_nil, List.length_map, wipeE, Nat.reduceAdd, Nat.reduceSub, Nat.reduceLeDiff, List.replicate, List.getElem?_cons_zero, List.getElem?_cons_succ, Option.join_some, Option.join_none, List.set_cons_zero, List.set_cons_succ, gc_same, decide_true, decide_false, ev_fldS, ev_put, ev_app, if_true, if_false, ite_true, ite_false, Bool.false_eq_true, Bool.not_true, Bool.not_false, reduceIte, sizeLine_eq, ev_notT, ev_tru, ev_rev, ev_srtSet, ev_fmtS, ev_joinS_nil, ev_joinS, ev_eqO, ev_strO])
    have q2 : eSl (eVar 0) (oYes (eC (.int 1))) oNo (some (.tup (ns.map .int)) :: e) h = .ok (.tup ((ns.map .int).drop 1)) h := by
      ((try simp -implicitDefEqProofs only [ev_fn, fin_rt, fin_nx, fin_err, ev_seq, sq_nx, sq_rt, sq_err, ev_cNil, ev_set, ev_expr, ev_rt, ev_rtN, ev_if, ev_for, ev_asg, gt_some, ev_onV, ev_onB, bd_ok, bd_err, sr_ok, sr_err, bk_bl, ik_int, of_some, ev_ret, ev_bind, ev_var, ev_C, ev_op, ev_call, ev_cb, ev_tst, ev_eTst, ev_and, ev_or, ev_not, ev_eIf, ev_bAnd, ev_bOr, ev_bNot, ev_chain, ev_nil, ev_cons, ev_tup, ev_lst, ev_new, ev_neg, ev_fld, ev_sl, ev_oNo, ev_oYes, ev_bTrue, ev_lc, ev_it, ev_rng, ev_enum, lt_int, le_int, gt_int, ge_int, add_int, sub_int, gN_ap, isNoneF, notNoneF, List.map_cons, List.map_nil, List.cons_append, List.nil_append, List.append_nil, List.length_cons, List.length_nil, List.length_map, wipeE, Nat.reduceAdd, Nat.reduceSub, Nat.reduceLeDiff, List.replicate, List.getElem?_cons_zero, List.getElem?_cons_succ, Option.join_some, Option.join_none, List.set_cons_zero, List.set_cons_succ, gc_same, decide_true, decide_false, ev_fldS, ev_put, ev_app, if_true, if_false, ite_true, ite_false, Bool.false_eq_true, Bool.not_true, Bool.not_false, reduceIte, sizeLine_eq, ev_notT, ev_tru, ev_rev, ev_srtSet, ev_fmtS, ev_joinS_nil, ev_joinS, ev_eqO, ev_strO]); repeat (simp -implicitDefEqProofs only [slF, cut_tail]; (try simp -implicitDefEqProofs only [ev_fn, fin_rt, fin_nx, fin_err, ev_seq, sq_nx, sq_rt, sq_err, ev_cNil, ev_set, ev_expr, ev_rt, ev_rtN, ev_if, ev_for, ev_asg, gt_some, ev_onV, ev_onB, bd_ok, bd_err, sr_ok, sr_err, bk_bl, ik_int, of_some, ev_ret, ev_bind, ev_var, ev_C, ev_op, ev_call, ev_cb, ev_tst, ev_eTst, ev_and, ev_or, ev_not, ev_eIf, ev_bAnd, ev_bOr, ev_bNot, ev_chain, ev_nil, ev_cons, ev_tup, ev_lst, ev_new, ev_neg, ev_fld, ev_sl, ev_oNo, ev_oYes, ev_bTrue, ev_lc, ev_it, ev_rng, ev_enum, lt_int, le_int, gt_int, ge_int, add_int, sub_int, gN_ap, isNoneF, notNoneF, List.map_cons, List.map_nil, List.cons_append, List.nil_append, List.append_nil, List.length_cons, List.length_nil, List.length_map, wipeE, Nat.reduceAdd, Nat.reduceSub, Nat.reduceLeDiff, List.replicate, List.getElem?_cons_zero, List.getElem?_cons_succ, Option.join_some, Option.join_none, List.set_cons_zero, List.set_cons_succ, gc_same, decide_true, decide_false, ev_fldS, ev_put, ev_app, if_true, if_false, ite_true, ite_false, Bool.false_eq_true, Bool.not_true, Bool.not_false, reduceIte, sizeLine_eq, ev_notT, ev_tru, ev_rev, ev_srtSet, ev_fmtS, ev_joinS_nil, ev_joinS, ev_eqO, ev_strO])))
    rw [zipT_ok q1 q2, zip_ascI]
  have zl : (List.zip ns (ns.drop 1)).length ≤ 1000 := by simp; omega
  have E : ∀ h, compL (gT 2 (gsC (gN 1) (gsC (gN 2) gsN))) bTrue (eOp ltI (eVar 1) (eVar 2)) .no [some (.tup (ns.map .int)), none, none] ((List.zip ns (ns.drop 1)).map fun p => .tup [.int p.1, .int p.2]) [] h
      = .ok ((List.zip ns (ns.drop 1)).map fun p => .bl (decide (p.1 < p.2))) h := by
    intro h
    have := compL_map (g := gT 2 (gsC (gN 1) (gsC (gN 2) gsN))) (el := eOp ltI (eVar 1) (eVar 2)) (e := [some (.tup (ns.map .int)), none, none]) (h := h) (fun v => match v with | .tup [.int x, .int y] => .bl (decide (x < y)) | v => v) (items := (List.zip ns (ns.drop 1)).map fun p => .tup [.int p.1, .int p.2]) (fun x hx' => by
      obtain ⟨y, hy, rfl⟩ := List.mem_map.mp hx'
      refine ⟨[some (.tup (ns.map .int)), some (.int y.1), some (.int y.2)], rfl, ?_⟩
      (try simp -implicitDefEqProofs only [ev_fn, fin_rt, fin_nx, fin_err, ev_seq, sq_nx, sq_rt, sq_err, ev_cNil, ev_set, ev_expr, ev_rt, ev_rtN, ev_if, ev_for, ev_asg, gt_some, ev_onV, ev_onB, bd_ok, bd_err, sr_ok, sr_err, bk_bl, ik_int, of_some, ev_ret, ev_bind, ev_var, ev_C, ev_op, ev_call, ev_cb, ev_tst, ev_eTst, ev_and, ev_or, ev_not, ev_eIf, ev_bAnd, ev_bOr, ev_bNot, ev_chain, ev_nil, ev_cons, ev_tup, ev_lst, ev_new, ev_neg, ev_fld, ev_sl, ev_oNo, ev_oYes, ev_bTrue, ev_lc, ev_it, ev_rng, ev_enum, lt_int, le_int, gt_int, ge_int, add_int, sub_int, gN_ap, isNoneF, notNoneF, List.map_cons, List.map_nil, List.cons_append, List.nil_append, List.append_nil, List.length_cons, List.length_nil, List.length_map, wipeE, Nat.reduceAdd, Nat.reduceSub, Nat.reduceLeDiff, List.replicate, List.getElem?_cons_zero, List.getElem?_cons_succ, Option.join_some, Option.join_none, List.set_cons_zero, List.set_cons_succ, gc_same, decide_true, decide_false, ev_fldS, ev_put, ev_app, if_true, if_false, ite_true, ite_false, Bool.false_eq_true, Bool.not_true, Bool.not_false, reduceIte, sizeLine_eq, ev_notT, ev_tru, ev_rev, ev_srtSet, ev_fmtS, ev_joinS_nil, ev_joinS, ev_eqO, ev_strO])) (by rw [sizeLine_eq, List.length_map]; omega)
    rw [this, List.map_map]; rfl
  simp only [D_is_ascending, B_is_ascending]
  have z : (List.zip ns (ns.drop 1)).length ≤ 131072 := by omega
  ((try simp -implicitDefEqProofs only [ev_fn, fin_rt, fin_nx, fin_err, ev_seq, sq_nx, sq_rt, sq_err, ev_cNil, ev_set, ev_expr, ev_rt, ev_rtN, ev_if, ev_for, ev_asg, gt_some, ev_onV, ev_onB, bd_ok, bd_err, sr_ok, sr_err, bk_bl, ik_int, of_some, ev_ret, ev_bind, ev_var, ev_C, ev_op, ev_call, ev_cb, ev_tst, ev_eTst, ev_and, ev_or, ev_not, ev_eIf, ev_bAnd, ev_bOr, ev_bNot, ev_chain, ev_nil, ev_cons, ev_tup, ev_lst, ev_new, ev_neg, ev_fld, ev_sl, ev_oNo, ev_oYes, ev_bTrue, ev_lc, ev_it, ev_rng, ev_enum, lt_int, le_int, gt_int, ge_int, add_int, sub_int, gN_ap, isNoneF, notNoneF, List.map_cons, List.map_nil, List.cons_append, List.nil_append, List.append_nil, List.length_cons, List.length_nil, List.length_map, wipeE, Nat.reduceAdd, Nat.reduceSub, Nat.reduceLeDiff, List.replicate, List.getElem?_cons_zero, List.getElem?_cons_succ, Option.join_some, Option.join_none, List.set_cons_zero, List.set_cons_succ, gc_same, decide_true, decide_false, ev_fldS, ev_put, ev_app, if_true, if_false, ite_true, ite_false, Bool.false_eq_true, Bool.not_true, Bool.not_false, reduceIte, sizeLine_eq, ev_notT, ev_tru, ev_rev, ev_srtSet, ev_fmtS, ev_joinS_nil, ev_joinS, ev_eqO, ev_strO]); repeat (simp -implicitDefEqProofs only [Z, E, all_map, if_pos z]; (try simp -implicitDefEqProofs only [ev_fn, fin_rt, fin_nx, fin_err, ev_seq, sq_nx, sq_rt, sq_err, ev_cNil, ev_set, ev_expr, ev_rt, ev_rtN, ev_if, ev_for, ev_asg, gt_some, ev_onV, ev_onB, bd_ok, bd_err, sr_ok, sr_err, bk_bl, ik_int, of_some, ev_ret, ev_bind, ev_var, ev_C, ev_op, ev_call, ev_cb, ev_tst, ev_eTst, ev_and, ev_or, ev_not, ev_eIf, ev_bAnd, ev_bOr, ev_bNot, ev_chain, ev_nil, ev_cons, ev_tup, ev_lst, ev_new, ev_neg, ev_fld, ev_sl, ev_oNo, ev_oYes, ev_bTrue, ev_lc, ev_it, ev_rng, ev_enum, lt_int, le_int, gt_int, ge_int, add_int, sub_int, gN_ap, isNoneF, notNoneF, List.map_cons, List.map_nil, List.cons_append, List.nil_append, List.append_nil, List.length_cons, List.length_nil, List.length_map, wipeE, Nat.reduceAdd, Nat.reduceSub, Nat.reduceLeDiff, List.replicate, List.getElem?_cons_zero, List.getElem?_cons_succ, Option.join_some, Option.join_none, List.set_cons_zero, List.set_cons_succ, gc_same, decide_true, decide_false, ev_fldS, ev_put, ev_app, if_true, if_false, ite_true, ite_false, Bool.false_eq_true, Bool.not_true, Bool.not_false, reduceIte, sizeLine_eq, ev_notT, ev_tru, ev_rev, ev_srtSet, ev_fmtS, ev_joinS_nil, ev_joinS, ev_eqO, ev_strO])))
  rfl
def ascS (xs : List SV) : Bool := match intsOf xs with
  | some ns => ascI ns
  | none => false
def tupOk (n : Nat) (v : SV) : Bool := match v with
  | .tup xs => idx n xs && ascS xs
  | _ => false
theorem idx_all {n : Nat} {xs : List SV} (q : idx n xs = true) : xs.all isI = true := by
  cases z : xs.all isI with
  | true => rfl
  | false => rw [idx_no z] at q; cases q
theorem v_is_index_tuple {v : SV} (hv : P2 v) (n : Nat) : D_is_index_tuple a [v, nv n] h = .ok (.bl (tupOk n v)) h := by
  simp only [D_is_index_tuple, B_is_index_tuple]
  cases q : isTp v with
  | false =>
    ((try simp -implicitDefEqProofs only [ev_fn, fin_rt, fin_nx, fin_err, ev_seq, sq_nx, sq_rt, sq_err, ev_cNil, ev_set, ev_expr, ev_rt, ev_rtN, ev_if, ev_for, ev_asg, gt_some, ev_onV, ev_onB, bd_ok, bd_err, sr_ok, sr_err, bk_bl, ik_int, of_some, ev_ret, ev_bind, ev_var, ev_C, ev_op, ev_call, ev_cb, ev_tst, ev_eTst, ev_and, ev_or, ev_not, ev_eIf, ev_bAnd, ev_bOr, ev_bNot, ev_chain, ev_nil, ev_cons, ev_tup, ev_lst, ev_new, ev_neg, ev_fld, ev_sl, ev_oNo, ev_oYes, ev_bTrue, ev_lc, ev_it, ev_rng, ev_enum, lt_int, le_int, gt_int, ge_int, add_int, sub_int, gN_ap, isNoneF, notNoneF, List.map_cons, List.map_nil, List.cons_append, List.nil_append, List.append_nil, List.length_cons, List.length_nil, List.length_map, wipeE, Nat.reduceAdd, Nat.reduceSub, Nat.reduceLeDiff, List.replicate, List.getElem?_cons_zero, List.getElem?_cons_succ, Option.join_some, Option.join_none, List.set_cons_zero, List.set_cons_succ, gc_same, decide_true, decide_false, ev_fldS, ev_put, ev_app, if_true, if_false, ite_true, ite_false, Bool.false_eq_true, Bool.not_true, Bool.not_false, reduceIte, sizeLine_eq, ev_notT, ev_tru, ev_rev, ev_srtSet, ev_fmtS, ev_joinS_nil, ev_joinS, ev_eqO, ev_strO]); repeat (simp -implicitDefEqProofs only [isi_tp h hv.1, q]; (try simp -implicitDefEqProofs only [ev_fn, fin_rt, fin_nx, fin_err, ev_seq, sq_nx, sq_rt, sq_err, ev_cNil, ev_set, ev_expr, ev_rt, ev_rtN, ev_if, ev_for, ev_asg, gt_some, ev_onV, ev_onB, bd_ok, bd_err, sr_ok, sr_err, bk_bl, ik_int, of_some, ev_ret, ev_bind, ev_var, ev_C, ev_op, ev_call, ev_cb, ev_tst, ev_eTst, ev_and, ev_or, ev_not, ev_eIf, ev_bAnd, ev_bOr, ev_bNot, ev_chain, ev_nil, ev_cons, ev_tup, ev_lst, ev_new, ev_neg, ev_fld, ev_sl, ev_oNo, ev_oYes, ev_bTrue, ev_lc, ev_it, ev_rng, ev_enum, lt_int, le_int, gt_int, ge_int, add_int, sub_int, gN_ap, isNoneF, notNoneF, List.map_cons, List.map_nil, List.cons_append, List.nil_append, List.append_nil, List.length_cons, List.length_nil, List.length_map, wipeE, Nat.reduceAdd, Nat.reduceSub, Nat.reduceLeDiff, List.replicate, List.getElem?_cons_zero, List.getElem?_cons_succ, Option.join_some, Option.join_none, List.set_cons_zero, List.set_cons_succ, gc_same, decide_true, decide_false, ev_fldS, ev_put, ev_app, if_true, if_false, ite_true, ite_false, Bool.false_eq_true, Bool.not_true, Bool.not_false, reduceIte, sizeLine_eq, ev_notT, ev_tru, ev_rev, ev_srtSet, ev_fmtS, ev_joinS_nil, ev_joinS, ev_eqO, ev_strO])))
    cases v <;> first | rfl | simp [isTp] at q
  | true =>
    cases v with
    | tup xs =>
      have p := hv.2 xs rfl
      cases c : idx n xs with
      | false =>
        ((try simp -implicitDefEqProofs only [ev_fn, fin_rt, fin_nx, fin_err, ev_seq, sq_nx, sq_rt, sq_err, ev_cNil, ev_set, ev_expr, ev_rt, ev_rtN, ev_if, ev_for, ev_asg, gt_some, ev_onV, ev_onB, bd_ok, bd_err, sr_ok, sr_err, bk_bl, ik_int, of_some, ev_ret, ev_bind, ev_var, ev_C, ev_op, ev_call, ev_cb, ev_tst, ev_eTst, ev_and, ev_or, ev_not, ev_eIf, ev_bAnd, ev_bOr, ev_bNot, ev_chain, ev_nil, ev_cons, ev_tup, ev_lst, ev_new, ev_neg, ev_fld, ev_sl, ev_oNo, ev_oYes, ev_bTrue, ev_lc, ev_it, ev_rng, ev_enum, lt_int, le_int, gt_int, ge_int, add_int, sub_int, gN_ap, isNoneF, notNoneF, List.map_cons, List.map_nil, List.cons_append, List.nil_append, List.append_nil, List.length_cons, List.length_nil, List.length_map, wipeE, Nat.reduceAdd, Nat.reduceSub, Nat.reduceLeDiff, List.replicate, List.getElem?_cons_zero, List.getElem?_cons_succ, Option.join_some, Option.join_none, List.set_cons_zero, List.set_cons_succ, gc_same, decide_true, decide_false, ev_fldS, ev_put, ev_app, if_true, if_false, ite_true, ite_false, Bool.false_eq_true, Bool.not_true, Bool.not_false, reduceIte, sizeLine_eq, ev_notT, ev_tru, ev_rev, ev_srtSet, ev_fmtS, ev_joinS_nil, ev_joinS, ev_eqO, ev_strO]); repeat (simp -implicitDefEqProofs only [isi_tp h hv.1, q, v_are_indices a h p, c]; (try simp -implicitDefEqProofs only [ev_fn, fin_rt, fin_nx, fin_err, ev_seq, sq_nx, sq_rt, sq_err, ev_cNil, ev_set, ev_expr, ev_rt, ev_rtN, ev_if, ev_for, ev_asg, gt_some, ev_onV, ev_onB, bd_ok, bd_err, sr_ok, sr_err, bk_bl, ik_int, of_some, ev_ret, ev_bind, ev_var, ev_C, ev_op, ev_call, ev_cb, ev_tst, ev_eTst, ev_and, ev_or, ev_not, ev_eIf, ev_bAnd, ev_bOr, ev_bNot, ev_chain, ev_nil, ev_cons, ev_tup, ev_lst, ev_new, ev_neg, ev_fld, ev_sl, ev_oNo, ev_oYes, ev_bTrue, ev_lc, ev_it, ev_rng, ev_enum, lt_int, le_int, gt_int, ge_int, add_int, sub_int, gN_ap, isNoneF, notNoneF, List.map_cons, List.map_nil, List.cons_append, List.nil_append, List.append_nil, List.length_cons, List.length_nil, List.length_map, wipeE, Nat.reduceAdd, Nat.reduceSub, Nat.reduceLeDiff, List.replicate, List.getElem?_cons_zero, List.getElem?_cons_succ, Option.join_some, Option.join_none, List.set_cons_zero, List.set_cons_succ, gc_same, decide_true, decide_false, ev_fldS, ev_put, ev_app, if_true, if_false, ite_true, ite_false, Bool.false_eq_true, Bool.not_true, Bool.not_false, reduceIte, sizeLine_eq, ev_notT, ev_tru, ev_rev, ev_srtSet, ev_fmtS, ev_joinS_nil, ev_joinS, ev_eqO, ev_strO])))
        simp [tupOk, c]
      | true =>
        obtain ⟨ns, rfl⟩ := ints_all (idx_all c)
        have hl := p.2
        rw [List.length_map] at hl
        ((try simp -implicitDefEqProofs only [ev_fn, fin_rt, fin_nx, fin_err, ev_seq, sq_nx, sq_rt, sq_err, ev_cNil, ev_set, ev_expr, ev_rt, ev_rtN, ev_if, ev_for, ev_asg, gt_some, ev_onV, ev_onB, bd_ok, bd_err, sr_ok, sr_err, bk_bl, ik_int, of_some, ev_ret, ev_bind, ev_var, ev_C, ev_op, ev_call, ev_cb, ev_tst, ev_eTst, ev_and, ev_or, ev_not, ev_eIf, ev_bAnd, ev_bOr, ev_bNot, ev_chain, ev_nil, ev_cons, ev_tup, ev_lst, ev_new, ev_neg, ev_fld, ev_sl, ev_oNo, ev_oYes, ev_bTrue, ev_lc, ev_it, ev_rng, ev_enum, lt_int, le_int, gt_int, ge_int, add_int, sub_int, gN_ap, isNoneF, notNoneF, List.map_cons, List.map_nil, List.cons_append, List.nil_append, List.append_nil, List.length_cons, List.length_nil, List.length_map, wipeE, Nat.reduceAdd, Nat.reduceSub, Nat.reduceLeDiff, List.replicate, List.getElem?_cons_zero, List.getElem?_cons_succ, Option.join_some, Option.join_none, List.set_cons_zero, List.set_cons_succ, gc_same, decide_true, decide_false, ev_fldS, ev_put, ev_app, if_true, if_false, ite_true, ite_false, Bool.false_eq_true, Bool.not_true, Bool.not_false, reduceIte, sizeLine_eq, ev_notT, ev_tru, ev_rev, ev_srtSet, ev_fmtS, ev_joinS_nil, ev_joinS, ev_eqO, ev_strO]); repeat (simp -implicitDefEqProofs only [isi_tp h hv.1, q, v_are_indices a h p, c, v_is_ascending a h ns hl]; (try simp -implicitDefEqProofs only [ev_fn, fin_rt, fin_nx, fin_err, ev_seq, sq_nx, sq_rt, sq_err, ev_cNil, ev_set, ev_expr, ev_rt, ev_rtN, ev_if, ev_for, ev_asg, gt_some, ev_onV, ev_onB, bd_ok, bd_err, sr_ok, sr_err, bk_bl, ik_int, of_some, ev_ret, ev_bind, ev_var, ev_C, ev_op, ev_call, ev_cb, ev_tst, ev_eTst, ev_and, ev_or, ev_not, ev_eIf, ev_bAnd, ev_bOr, ev_bNot, ev_chain, ev_nil, ev_cons, ev_tup, ev_lst, ev_new, ev_neg, ev_fld, ev_sl, ev_oNo, ev_oYes, ev_bTrue, ev_lc, ev_it, ev_rng, ev_enum, lt_int, le_int, gt_int, ge_int, add_int, sub_int, gN_ap, isNoneF, notNoneF, List.map_cons, List.map_nil, List.cons_append, List.nil_append, List.append_nil, List.length_cons, List.length_nil, List.length_map, wipeE, Nat.reduceAdd, Nat.reduceSub, Nat.reduceLeDiff, List.replicate, List.getElem?_cons_zero, List.getElem?_cons_succ, Option.join_some, Option.join_none, List.set_cons_zero, List.set_cons_succ, gc_same, decide_true, decide_false, ev_fldS, ev_put, ev_app, if_true, if_false, ite_true, ite_false, Bool.false_eq_true, Bool.not_true, Bool.not_false, reduceIte, sizeLine_eq, ev_notT, ev_tru, ev_rev, ev_srtSet, ev_fmtS, ev_joinS_nil, ev_joinS, ev_eqO, ev_strO])))
        simp [tupOk, c, ascS, intsOf_map]
    | _ => simp [isTp] at q
theorem ty_isb {v : SV} {t : String} (e : ty v = some t) : (isTy t "int" && !isTy t "bool") = isI v := by
  cases v with
  | rdc b ks xs => cases b <;> simp [ty] at e; subst e; show (isTy "dict" "int" && !isTy "dict" "bool") = false; decide
  | _ => simp [ty] at e <;> subst e <;> first | rfl | decide
def isIB : SV → Bool
  | .int _ => true
  | .bl _ => true
  | _ => false
def isB : SV → Bool
  | .bl _ => true
  | _ => false
theorem isTy_int {v : SV} {t : String} (e : ty v = some t) : isTy t "int" = isIB v := by
  cases v with
  | rdc b ks xs => cases b <;> simp [ty] at e; subst e; show isTy "dict" "int" = false; decide
  | _ => simp [ty] at e <;> subst e <;> first | rfl | decide
theorem isTy_bool {v : SV} {t : String} (e : ty v = some t) : isTy t "bool" = isB v := by
  cases v with
  | rdc b ks xs => cases b <;> simp [ty] at e; subst e; show isTy "dict" "bool" = false; decide
  | _ => simp [ty] at e <;> subst e <;> first | rfl | decide
theorem v_is_from {v : SV} (hv : (ty v).isSome = true) (lo hi : Int) : D_u_law_is_from a [v, .int lo, .int hi] h = .ok (.bl (inR v lo hi)) h := by
  obtain ⟨t, e⟩ := Option.isSome_iff_exists.mp hv
  have e1 := isTy_int e
  have e2 := isTy_bool e
  simp only [D_u_law_is_from, B_u_law_is_from]
  cases v with
  | int i =>
    simp only [isIB, isB] at e1 e2
    by_cases c : lo ≤ i
    · ((try simp -implicitDefEqProofs only [ev_fn, fin_rt, fin_nx, fin_err, ev_seq, sq_nx, sq_rt, sq_err, ev_cNil, ev_set, ev_expr, ev_rt, ev_rtN, ev_if, ev_for, ev_asg, gt_some, ev_onV, ev_onB, bd_ok, bd_err, sr_ok, sr_err, bk_bl, ik_int, of_some, ev_ret, ev_bind, ev_var, ev_C, ev_op, ev_call, ev_cb, ev_tst, ev_eTst, ev_and, ev_or, ev_not, ev_eIf, ev_bAnd, ev_bOr, ev_bNot, ev_chain, ev_nil, ev_cons, ev_tup, ev_lst, ev_new, ev_neg, ev_fld, ev_sl, ev_oNo, ev_oYes, ev_bTrue, ev_lc, ev_it, ev_rng, ev_enum, lt_int, le_int, gt_int, ge_int, add_int, sub_int, gN_ap, isNoneF, notNoneF, List.map_cons, List.map_nil, List.cons_append, List.nil_append, List.append_nil, List.length_cons, List.length_nil, List.length_map, wipeE, Nat.reduceAdd, Nat.reduceSub, Nat.reduceLeDiff, List.replicate, List.getElem?_cons_zero, List.getElem?_cons_succ, Option.join_some, Option.join_none, List.set_cons_zero, List.set_cons_succ, gc_same, decide_true, decide_false, ev_fldS, ev_put, ev_app, if_true, if_false, ite_true, ite_false, Bool.false_eq_true, Bool.not_true, Bool.not_false, reduceIte, sizeLine_eq, ev_notT, ev_tru, ev_rev, ev_srtSet, ev_fmtS, ev_joinS_nil, ev_joinS, ev_eqO, ev_strO]); repeat (simp -implicitDefEqProofs only [ty_isi h e mem_int, ty_isi h e mem_bool, e1, e2, c]; (try simp -implicitDefEqProofs only [ev_fn, fin_rt, fin_nx, fin_err, ev_seq, sq_nx, sq_rt, sq_err, ev_cNil, ev_set, ev_expr, ev_rt, ev_rtN, ev_if, ev_for, ev_asg, gt_some, ev_onV, ev_onB, bd_ok, bd_err, sr_ok, sr_err, bk_bl, ik_int, of_some, ev_ret, ev_bind, ev_var, ev_C, ev_op, ev_call, ev_cb, ev_tst, ev_eTst, ev_and, ev_or, ev_not, ev_eIf, ev_bAnd, ev_bOr, ev_bNot, ev_chain, ev_nil, ev_cons, ev_tup, ev_lst, ev_new, ev_neg, ev_fld, ev_sl, ev_oNo, ev_oYes, ev_bTrue, ev_lc, ev_it, ev_rng, ev_enum, lt_int, le_int, gt_int, ge_int, add_int, sub_int, gN_ap, isNoneF, notNoneF, List.map_cons, List.map_nil, List.cons_append, List.nil_append, List.append_nil, List.length_cons, List.length_nil, List.length_map, wipeE, Nat.reduceAdd, Nat.reduceSub, Nat.reduceLeDiff, List.replicate, List.getElem?_cons_zero, List.getElem?_cons_succ, Option.join_some, Option.join_none, List.set_cons_zero, List.set_cons_succ, gc_same, decide_true, decide_false, ev_fldS, ev_put, ev_app, if_true, if_false, ite_true, ite_false, Bool.false_eq_true, Bool.not_true, Bool.not_false, reduceIte, sizeLine_eq, ev_notT, ev_tru, ev_rev, ev_srtSet, ev_fmtS, ev_joinS_nil, ev_joinS, ev_eqO, ev_strO])))
      simp [inR, c]
    · ((try simp -implicitDefEqProofs only [ev_fn, fin_rt, fin_nx, fin_err, ev_seq, sq_nx, sq_rt, sq_err, ev_cNil, ev_set, ev_expr, ev_rt, ev_rtN, ev_if, ev_for, ev_asg, gt_some, ev_onV, ev_onB, bd_ok, bd_err, sr_ok, sr_err, bk_bl, ik_int, of_some, ev_ret, ev_bind, ev_var, ev_C, ev_op, ev_call, ev_cb, ev_tst, ev_eTst, ev_and, ev_or, ev_not, ev_eIf, ev_bAnd, ev_bOr, ev_bNot, ev_chain, ev_nil, ev_cons, ev_tup, ev_lst, ev_new, ev_neg, ev_fld, ev_sl, ev_oNo, ev_oYes, ev_bTrue, ev_lc, ev_it, ev_rng, ev_enum, lt_int, le_int, gt_int, ge_int, add_int, sub_int, gN_ap, isNoneF, notNoneF, List.map_cons, List.map_nil, List.cons_append, List.nil_append, List.append_nil, List.length_cons, List.length_nil, List.length_map, wipeE, Nat.reduceAdd, Nat.reduceSub, Nat.reduceLeDiff, List.replicate, List.getElem?_cons_zero, List.getElem?_cons_succ, Option.join_some, Option.join_none, List.set_cons_zero, List.set_cons_succ, gc_same, decide_true, decide_false, ev_fldS, ev_put, ev_app, if_true, if_false, ite_true, ite_false, Bool.false_eq_true, Bool.not_true, Bool.not_false, reduceIte, sizeLine_eq, ev_notT, ev_tru, ev_rev, ev_srtSet, ev_fmtS, ev_joinS_nil, ev_joinS, ev_eqO, ev_strO]); repeat (simp -implicitDefEqProofs only [ty_isi h e mem_int, ty_isi h e mem_bool, e1, e2, c]; (try simp -implicitDefEqProofs only [ev_fn, fin_rt, fin_nx, fin_err, ev_seq, sq_nx, sq_rt, sq_err, ev_cNil, ev_set, ev_expr, ev_rt, ev_rtN, ev_if, ev_for, ev_asg, gt_some, ev_onV, ev_onB, bd_ok, bd_err, sr_ok, sr_err, bk_bl, ik_int, of_some, ev_ret, ev_bind, ev_var, ev_C, ev_op, ev_call, ev_cb, ev_tst, ev_eTst, ev_and, ev_or, ev_not, ev_eIf, ev_bAnd, ev_bOr, ev_bNot, ev_chain, ev_nil, ev_cons, ev_tup, ev_lst, ev_new, ev_neg, ev_fld, ev_sl, ev_oNo, ev_oYes, ev_bTrue, ev_lc, ev_it, ev_rng, ev_enum, lt_int, le_int, gt_int, ge_int, add_int, sub_int, gN_ap, isNoneF, notNoneF, List.map_cons, List.map_nil, List.cons_append, List.nil_append, List.append_nil, List.length_cons, List.length_nil, List.length_map, wipeE, Nat.reduceAdd, Nat.reduceSub, Nat.reduceLeDiff, List.replicate, List.getElem?_cons_zero, List.getElem?_cons_succ, Option.join_some, Option.join_none, List.set_cons_zero, List.set_cons_succ, gc_same, decide_true, decide_false, ev_fldS, ev_put, ev_app, if_true, if_false, ite_true, ite_false, Bool.false_eq_true, Bool.not_true, Bool.not_false, reduceIte, sizeLine_eq, ev_notT, ev_tru, ev_rev, ev_srtSet, ev_fmtS, ev_joinS_nil, ev_joinS, ev_eqO, ev_strO])))
      simp [inR, c]
  | bl b =>
    simp only [isIB, isB] at e1 e2
    ((try simp -implicitDefEqProofs only [ev_fn, fin_rt, fin_nx, fin_err, ev_seq, sq_nx, sq_rt, sq_err, ev_cNil, ev_set, ev_expr, ev_rt, ev_rtN, ev_if, ev_for, ev_asg, gt_some, ev_onV, ev_onB, bd_ok, bd_err, sr_ok, sr_err, bk_bl, ik_int, of_some, ev_ret, ev_bind, ev_var, ev_C, ev_op, ev_call, ev_cb, ev_tst, ev_eTst, ev_and, ev_or, ev_not, ev_eIf, ev_bAnd, ev_bOr, ev_bNot, ev_chain, ev_nil, ev_cons, ev_tup, ev_lst, ev_new, ev_neg, ev_fld, ev_sl, ev_oNo, ev_oYes, ev_bTrue, ev_lc, ev_it, ev_rng, ev_enum, lt_int, le_int, gt_int, ge_int, add_int, sub_int, gN_ap, isNoneF, notNoneF, List.map_cons, List.map_nil, List.cons_append, List.nil_append, List.append_nil, List.length_cons, List.length_nil, List.length_map, wipeE, Nat.reduceAdd, Nat.reduceSub, Nat.reduceLeDiff, List.replicate, List.getElem?_cons_zero, List.getElem?_cons_succ, Option.join_some, Option.join_none, List.set_cons_zero, List.set_cons_succ, gc_same, decide_true, decide_false, ev_fldS, ev_put, ev_app, if_true, if_false, ite_true, ite_false, Bool.false_eq_true, Bool.not_true, Bool.not_false, reduceIte, sizeLine_eq, ev_notT, ev_tru, ev_rev, ev_srtSet, ev_fmtS, ev_joinS_nil, ev_joinS, ev_eqO, ev_strO]); repeat (simp -implicitDefEqProofs only [ty_isi h e mem_int, ty_isi h e mem_bool, e1, e2]; (try simp -implicitDefEqProofs only [ev_fn, fin_rt, fin_nx, fin_err, ev_seq, sq_nx, sq_rt, sq_err, ev_cNil, ev_set, ev_expr, ev_rt, ev_rtN, ev_if, ev_for, ev_asg, gt_some, ev_onV, ev_onB, bd_ok, bd_err, sr_ok, sr_err, bk_bl, ik_int, of_some, ev_ret, ev_bind, ev_var, ev_C, ev_op, ev_call, ev_cb, ev_tst, ev_eTst, ev_and, ev_or, ev_not, ev_eIf, ev_bAnd, ev_bOr, ev_bNot, ev_chain, ev_nil, ev_cons, ev_tup, ev_lst, ev_new, ev_neg, ev_fld, ev_sl, ev_oNo, ev_oYes, ev_bTrue, ev_lc, ev_it, ev_rng, ev_enum, lt_int, le_int, gt_int, ge_int, add_int, sub_int, gN_ap, isNoneF, notNoneF, List.map_cons, List.map_nil, List.cons_append, List.nil_append, List.append_nil, List.length_cons, List.length_nil, List.length_map, wipeE, Nat.reduceAdd, Nat.reduceSub, Nat.reduceLeDiff, List.replicate, List.getElem?_cons_zero, List.getElem?_cons_succ, Option.join_some, Option.join_none, List.set_cons_zero, List.set_cons_succ, gc_same, decide_true, decide_false, ev_fldS, ev_put, ev_app, if_true, if_false, ite_true, ite_false, Bool.false_eq_true, Bool.not_true, Bool.not_false, reduceIte, sizeLine_eq, ev_notT, ev_tru, ev_rev, ev_srtSet, ev_fmtS, ev_joinS_nil, ev_joinS, ev_eqO, ev_strO])))
    rfl
  | _ =>
    simp only [isIB, isB] at e1 e2
    ((try simp -implicitDefEqProofs only [ev_fn, fin_rt, fin_nx, fin_err, ev_seq, sq_nx, sq_rt, sq_err, ev_cNil, ev_set, ev_expr, ev_rt, ev_rtN, ev_if, ev_for, ev_asg, gt_some, ev_onV, ev_onB, bd_ok, bd_err, sr_ok, sr_err, bk_bl, ik_int, of_some, ev_ret, ev_bind, ev_var, ev_C, ev_op, ev_call, ev_cb, ev_tst, ev_eTst, ev_and, ev_or, ev_not, ev_eIf, ev_bAnd, ev_bOr, ev_bNot, ev_chain, ev_nil, ev_cons, ev_tup, ev_lst, ev_new, ev_neg, ev_fld, ev_sl, ev_oNo, ev_oYes, ev_bTrue, ev_lc, ev_it, ev_rng, ev_enum, lt_int, le_int, gt_int, ge_int, add_int, sub_int, gN_ap, isNoneF, notNoneF, List.map_cons, List.map_nil, List.cons_append, List.nil_append, List.append_nil, List.length_cons, List.length_nil, List.length_map, wipeE, Nat.reduceAdd, Nat.reduceSub, Nat.reduceLeDiff, List.replicate, List.getElem?_cons_zero, List.getElem?_cons_succ, Option.join_some, Option.join_none, List.set_cons_zero, List.set_cons_succ, gc_same, decide_true, decide_false, ev_fldS, ev_put, ev_app, if_true, if_false, ite_true, ite_false, Bool.false_eq_true, Bool.not_true, Bool.not_false, reduceIte, sizeLine_eq, ev_notT, ev_tru, ev_rev, ev_srtSet, ev_fmtS, ev_joinS_nil, ev_joinS, ev_eqO, ev_strO]); repeat (simp -implicitDefEqProofs only [ty_isi h e mem_int, ty_isi h e mem_bool, e1, e2]; (try simp -implicitDefEqProofs only [ev_fn, fin_rt, fin_nx, fin_err, ev_seq, sq_nx, sq_rt, sq_err, ev_cNil, ev_set, ev_expr, ev_rt, ev_rtN, ev_if, ev_for, ev_asg, gt_some, ev_onV, ev_onB, bd_ok, bd_err, sr_ok, sr_err, bk_bl, ik_int, of_some, ev_ret, ev_bind, ev_var, ev_C, ev_op, ev_call, ev_cb, ev_tst, ev_eTst, ev_and, ev_or, ev_not, ev_eIf, ev_bAnd, ev_bOr, ev_bNot, ev_chain, ev_nil, ev_cons, ev_tup, ev_lst, ev_new, ev_neg, ev_fld, ev_sl, ev_oNo, ev_oYes, ev_bTrue, ev_lc, ev_it, ev_rng, ev_enum, lt_int, le_int, gt_int, ge_int, add_int, sub_int, gN_ap, isNoneF, notNoneF, List.map_cons, List.map_nil, List.cons_append, List.nil_append, List.append_nil, List.length_cons, List.length_nil, List.length_map, wipeE, Nat.reduceAdd, Nat.reduceSub, Nat.reduceLeDiff, List.replicate, List.getElem?_cons_zero, List.getElem?_cons_succ, Option.join_some, Option.join_none, List.set_cons_zero, List.set_cons_succ, gc_same, decide_true, decide_false, ev_fldS, ev_put, ev_app, if_true, if_false, ite_true, ite_false, Bool.false_eq_true, Bool.not_true, Bool.not_false, reduceIte, sizeLine_eq, ev_notT, ev_tru, ev_rev, ev_srtSet, ev_fmtS, ev_joinS_nil, ev_joinS, ev_eqO, ev_strO])))
    rfl
end My

set_option Elab.async false
set_option linter.all false
set_option maxRecDepth 100000
set_option maxHeartbeats 4000000
namespace My
open PySem L2 Sim
variable (a : Ads) (h : SHp)
def P3 (v : SV) : Prop := (ty v).isSome = true ∧ ∀ xs, v = .tup xs → xs.length ≤ 1000 ∧ ∀ x ∈ xs, P2 x
def badS (L : Int) (n : Nat) (v : SV) : Bool := match v with
  | .tup [_, r] => !stepOk L n r
  | _ => false
def retS (v : SV) : SV := match v with
  | .tup [i, _] => .tup [.str "step", i]
  | v => v
def faultS (l s c : SV) : SV := if inR l 1 64 = true then match l, s with
  | .int L, .tup rows => if 1 ≤ rows.length ∧ rows.length ≤ 512 then match (enumL 0 rows).find? (badS L rows.length) with
      | some v => retS v
      | none => if tupOk rows.length c = true then .non else .tup [.str "accepting"]
    else .tup [.str "steps"]
  | _, _ => .tup [.str "steps"]
  else .tup [.str "letters"]
/-- a loop that looks for the first bad item -/
theorem forL_find {g : SV → Sim.Env → Option Sim.Env} {body : ST'} {h : SHp} (bad : SV → Bool) (ret : SV → SV) (Ie : Sim.Env → Prop) : ∀ (items : List SV), (∀ s e, s ∈ items → Ie e → ∃ e1, g s e = some e1 ∧ (bad s = true → body e1 h = .rt (ret s) h) ∧ (bad s = false → ∃ e2, body e1 h = .nx e2 h ∧ Ie e2)) →
    ∀ e, Ie e → (∀ v, items.find? bad = some v → forL g body .no items e h = .rt (ret v) h) ∧ (items.find? bad = none → ∃ e', forL g body .no items e h = .nx e' h ∧ Ie e')
  | [], _, e, he => ⟨fun v q => by simp at q, fun _ => ⟨e, forL_nil rfl, he⟩⟩
  | s :: ss, H, e, he => by
    obtain ⟨e1, q1, q2, q3⟩ := H s e (by simp) he
    cases c : bad s with
    | true =>
      refine ⟨fun v q => ?_, fun q => by simp [c] at q⟩
      simp [c] at q; subst q
      exact forL_rt rfl q1 (q2 c)
    | false =>
      obtain ⟨e2, q4, q5⟩ := q3 c
      have ih := forL_find bad ret Ie ss (fun s e hs => H s e (by simp [hs])) e2 q5
      have st := forL_cons (ss := ss) (gd := .no) rfl q1 q4
      refine ⟨fun v q => ?_, fun q => ?_⟩
      · simp [c] at q; rw [st]; exact ih.1 v q
      · simp [c] at q; rw [st]; exact ih.2 (by simpa using q)
theorem enumL_mem : ∀ {xs : List SV} {n : Nat} {v : SV}, v ∈ enumL n xs → ∃ i : Nat, ∃ x ∈ xs, v = .tup [.int i, x]
  | [], _, _, hv => by simp [enumL] at hv
  | x :: xs, n, v, hv => by
    simp only [enumL, List.mem_cons] at hv
    rcases hv with rfl | hv
    · exact ⟨n, x, by simp, rfl⟩
    · obtain ⟨i, y, hy, e⟩ := enumL_mem hv
      exact ⟨i, y, by simp [hy], e⟩
theorem v_fault {l s c : SV} (hl : (ty l).isSome = true) (hs : P3 s) (hc : P2 c) : D_reader_fault a [l, s, c] h = .ok (faultS l s c) h := by
  simp only [D_reader_fault, B_reader_fault]
  cases q : inR l 1 64 with
  | false =>
    ((try simp -implicitDefEqProofs only [ev_fn, fin_rt, fin_nx, fin_err, ev_seq, sq_nx, sq_rt, sq_err, ev_cNil, ev_set, ev_expr, ev_rt, ev_rtN, ev_if, ev_for, ev_asg, gt_some, ev_onV, ev_onB, bd_ok, bd_err, sr_ok, sr_err, bk_bl, ik_int, of_some, ev_ret, ev_bind, ev_var, ev_C, ev_op, ev_call, ev_cb, ev_tst, ev_eTst, ev_and, ev_or, ev_not, ev_eIf, ev_bAnd, ev_bOr, ev_bNot, ev_chain, ev_nil, ev_cons, ev_tup, ev_lst, ev_new, ev_neg, ev_fld, ev_sl, ev_oNo, ev_oYes, ev_bTrue, ev_lc, ev_it, ev_rng, ev_enum, lt_int, le_int, gt_int, ge_int, add_int, sub_int, gN_ap, isNoneF, notNoneF, List.map_cons, List.map_nil, List.cons_append, List.nil_append, List.append_nil, List.length_cons, List.length_nil, List.length_map, wipeE, Nat.reduceAdd, Nat.reduceSub, Nat.reduceLeDiff, List.replicate, List.getElem?_cons_zero, List.getElem?_cons_succ, Option.join_some, Option.join_none, List.set_cons_zero, List.set_cons_succ, gc_same, decide_true, decide_false, ev_fldS, ev_put, ev_app, if_true, if_false, ite_true, ite_false, Bool.false_eq_true, Bool.not_true, Bool.not_false, reduceIte, sizeLine_eq, ev_notT, ev_tru, ev_rev, ev_srtSet, ev_fmtS, ev_joinS_nil, ev_joinS, ev_eqO, ev_strO]); repeat (simp -implicitDefEqProofs only [v_is_between a h hl, q]; (try simp -implicitDefEqProofs only [ev_fn, fin_rt, fin_nx, fin_err, ev_seq, sq_nx, sq_rt, sq_err, ev_cNil, ev_set, ev_expr, ev_rt, ev_rtN, ev_if, ev_for, ev_asg, gt_some, ev_onV, ev_onB, bd_ok, bd_err, sr_ok, sr_err, bk_bl, ik_int, of_some, ev_ret, ev_bind, ev_var, ev_C, ev_op, ev_call, ev_cb, ev_tst, ev_eTst, ev_and, ev_or, ev_not, ev_eIf, ev_bAnd, ev_bOr, ev_bNot, ev_chain, ev_nil, ev_cons, ev_tup, ev_lst, ev_new, ev_neg, ev_fld, ev_sl, ev_oNo, ev_oYes, ev_bTrue, ev_lc, ev_it, ev_rng, ev_enum, lt_int, le_int, gt_int, ge_int, add_int, sub_int, gN_ap, isNoneF, notNoneF, List.map_cons, List.map_nil, List.cons_append, List.nil_append, List.append_nil, List.length_cons, List.length_nil, List.length_map, wipeE, Nat.reduceAdd, Nat.reduceSub, Nat.reduceLeDiff, List.replicate, List.getElem?_cons_zero, List.getElem?_cons_succ, Option.join_some, Option.join_none, List.set_cons_zero, List.set_cons_succ, gc_same, decide_true, decide_false, ev_fldS, ev_put, ev_app, if_true, if_false, ite_true, ite_false, Bool.false_eq_true, Bool.not_true, Bool.not_false, reduceIte, sizeLine_eq, ev_notT, ev_tru, ev_rev, ev_srtSet, ev_fmtS, ev_joinS_nil, ev_joinS, ev_eqO, ev_strO])))
    simp [faultS, q]
  | true =>
    cases l with
    | int L =>
      cases q2 : isTp s with
      | false =>
        ((try simp -implicitDefEqProofs only [ev_fn, fin_rt, fin_nx, fin_err, ev_seq, sq_nx, sq_rt, sq_err, ev_cNil, ev_set, ev_expr, ev_rt, ev_rtN, ev_if, ev_for, ev_asg, gt_some, ev_onV, ev_onB, bd_ok, bd_err, sr_ok, sr_err, bk_bl, ik_int, of_some, ev_ret, ev_bind, ev_var, ev_C, ev_op, ev_call, ev_cb, ev_tst, ev_eTst, ev_and, ev_or, ev_not, ev_eIf, ev_bAnd, ev_bOr, ev_bNot, ev_chain, ev_nil, ev_cons, ev_tup, ev_lst, ev_new, ev_neg, ev_fld, ev_sl, ev_oNo, ev_oYes, ev_bTrue, ev_lc, ev_it, ev_rng, ev_enum, lt_int, le_int, gt_int, ge_int, add_int, sub_int, gN_ap, isNoneF, notNoneF, List.map_cons, List.map_nil, List.cons_append, List.nil_append, List.append_nil, List.length_cons, List.length_nil, List.length_map, wipeE, Nat.reduceAdd, Nat.reduceSub, Nat.reduceLeDiff, List.replicate, List.getElem?_cons_zero, List.getElem?_cons_succ, Option.join_some, Option.join_none, List.set_cons_zero, List.set_cons_succ, gc_same, decide_true, decide_false, ev_fldS, ev_put, ev_app, if_true, if_false, ite_true, ite_false, Bool.false_eq_true, Bool.not_true, Bool.not_false, reduceIte, sizeLine_eq, ev_notT, ev_tru, ev_rev, ev_srtSet, ev_fmtS, ev_joinS_nil, ev_joinS, ev_eqO, ev_strO]); repeat (simp -implicitDefEqProofs only [v_is_between a h hl, q, isi_tp h hs.1, q2]; (try simp -implicitDefEqProofs only [ev_fn, fin_rt, fin_nx, fin_err, ev_seq, sq_nx, sq_rt, sq_err, ev_cNil, ev_set, ev_expr, ev_rt, ev_rtN, ev_if, ev_for, ev_asg, gt_some, ev_onV, ev_onB, bd_ok, bd_err, sr_ok, sr_err, bk_bl, ik_int, of_some, ev_ret, ev_bind, ev_var, ev_C, ev_op, ev_call, ev_cb, ev_tst, ev_eTst, ev_and, ev_or, ev_not, ev_eIf, ev_bAnd, ev_bOr, ev_bNot, ev_chain, ev_nil, ev_cons, ev_tup, ev_lst, ev_new, ev_neg, ev_fld, ev_sl, ev_oNo, ev_oYes, ev_bTrue, ev_lc, ev_it, ev_rng, ev_enum, lt_int, le_int, gt_int, ge_int, add_int, sub_int, gN_ap, isNoneF, notNoneF, List.map_cons, List.map_nil, List.cons_append, List.nil_append, List.append_nil, List.length_cons, List.length_nil, List.length_map, wipeE, Nat.reduceAdd, Nat.reduceSub, Nat.reduceLeDiff, List.replicate, List.getElem?_cons_zero, List.getElem?_cons_succ, Option.join_some, Option.join_none, List.set_cons_zero, List.set_cons_succ, gc_same, decide_true, decide_false, ev_fldS, ev_put, ev_app, if_true, if_false, ite_true, ite_false, Bool.false_eq_true, Bool.not_true, Bool.not_false, reduceIte, sizeLine_eq, ev_notT, ev_tru, ev_rev, ev_srtSet, ev_fmtS, ev_joinS_nil, ev_joinS, ev_eqO, ev_strO])))
        cases s <;> first | (simp [isTp] at q2; done) | simp [faultS, q]
      | true =>
        cases s with
        | tup rows =>
          obtain ⟨hr, hrow⟩ := hs.2 rows rfl
          by_cases c1 : (1 : Int) ≤ (rows.length : Nat)
          · by_cases c2 : ((rows.length : Nat) : Int) ≤ 512
            · have fn := forL_find (g := gT 2 (gsC (gN 3) (gsC (gN 4) gsN))) (h := h) (body := (cIf (bNot (eTst (eCall (D_u_is_step a) (aCons (eVar 0) (aCons (eCB lenF (aCons (eVar 1) aNil)) (aCons (eVar 4) aNil)))))) (cRet (eTup (aCons (eC (.str "step")) (aCons (eVar 3) aNil)))) cNil)) (badS L rows.length) retS
                (fun e => ∃ x y, e = [some (.int L), some (.tup rows), some c, x, y]) (enumL 0 rows) (fun v e hv ⟨x, y, ee⟩ => by
                  obtain ⟨i, r, hr', rfl⟩ := enumL_mem hv
                  subst ee
                  refine ⟨[some (.int L), some (.tup rows), some c, some (.int i), some r], rfl, fun b => ?_, fun b => ⟨[some (.int L), some (.tup rows), some c, some (.int i), some r], ?_, _, _, rfl⟩⟩
                  · have b' : stepOk L rows.length r = false := by simpa [badS] using b
                    ((try simp -implicitDefEqProofs only [ev_fn, fin_rt, fin_nx, fin_err, ev_seq, sq_nx, sq_rt, sq_err, ev_cNil, ev_set, ev_expr, ev_rt, ev_rtN, ev_if, ev_for, ev_asg, gt_some, ev_onV, ev_onB, bd_ok, bd_err, sr_ok, sr_err, bk_bl, ik_int, of_some, ev_ret, ev_bind, ev_var, ev_C, ev_op, ev_call, ev_cb, ev_tst, ev_eTst, ev_and, ev_or, ev_not, ev_eIf, ev_bAnd, ev_bOr, ev_bNot, ev_chain, ev_nil, ev_cons, ev_tup, ev_lst, ev_new, ev_neg, ev_fld, ev_sl, ev_oNo, ev_oYes, ev_bTrue, ev_lc, ev_it, ev_rng, ev_enum, lt_int, le_int, gt_int, ge_int, add_int, sub_int, gN_ap, isNoneF, notNoneF, List.map_cons, List.map_nil, List.cons_append, List.nil_append, List.append_nil, List.length_cons, List.length_nil, List.length_map, wipeE, Nat.reduceAdd, Nat.reduceSub, Nat.reduceLeDiff, List.replicate, List.getElem?_cons_zero, List.getElem?_cons_succ, Option.join_some, Option.join_none, List.set_cons_zero, List.set_cons_succ, gc_same, decide_true, decide_false, ev_fldS, ev_put, ev_app, if_true, if_false, ite_true, ite_false, Bool.false_eq_true, Bool.not_true, Bool.not_false, reduceIte, sizeLine_eq, ev_notT, ev_tru, ev_rev, ev_srtSet, ev_fmtS, ev_joinS_nil, ev_joinS, ev_eqO, ev_strO]); repeat (simp -implicitDefEqProofs only [len_tup]; (try simp -implicitDefEqProofs only [ev_fn, fin_rt, fin_nx, fin_err, ev_seq, sq_nx, sq_rt, sq_err, ev_cNil, ev_set, ev_expr, ev_rt, ev_rtN, ev_if, ev_for, ev_asg, gt_some, ev_onV, ev_onB, bd_ok, bd_err, sr_ok, sr_err, bk_bl, ik_int, of_some, ev_ret, ev_bind, ev_var, ev_C, ev_op, ev_call, ev_cb, ev_tst, ev_eTst, ev_and, ev_or, ev_not, ev_eIf, ev_bAnd, ev_bOr, ev_bNot, ev_chain, ev_nil, ev_cons, ev_tup, ev_lst, ev_new, ev_neg, ev_fld, ev_sl, ev_oNo, ev_oYes, ev_bTrue, ev_lc, ev_it, ev_rng, ev_enum, lt_int, le_int, gt_int, ge_int, add_int, sub_int, gN_ap, isNoneF, notNoneF, List.map_cons, List.map_nil, List.cons_append, List.nil_append, List.append_nil, List.length_cons, List.length_nil, List.length_map, wipeE, Nat.reduceAdd, Nat.reduceSub, Nat.reduceLeDiff, List.replicate, List.getElem?_cons_zero, List.getElem?_cons_succ, Option.join_some, Option.join_none, List.set_cons_zero, List.set_cons_succ, gc_same, decide_true, decide_false, ev_fldS, ev_put, ev_app, if_true, if_false, ite_true, ite_false, Bool.false_eq_true, Bool.not_true, Bool.not_false, reduceIte, sizeLine_eq, ev_notT, ev_tru, ev_rev, ev_srtSet, ev_fmtS, ev_joinS_nil, ev_joinS, ev_eqO, ev_strO])))
                    have := v_is_step a h (hrow r hr') L rows.length
                    ((try simp -implicitDefEqProofs only [ev_fn, fin_rt, fin_nx, fin_err, ev_seq, sq_nx, sq_rt, sq_err, ev_cNil, ev_set, ev_expr, ev_rt, ev_rtN, ev_if, ev_for, ev_asg, gt_some, ev_onV, ev_onB, bd_ok, bd_err, sr_ok, sr_err, bk_bl, ik_int, of_some, ev_ret, ev_bind, ev_var, ev_C, ev_op, ev_call, ev_cb, ev_tst, ev_eTst, ev_and, ev_or, ev_not, ev_eIf, ev_bAnd, ev_bOr, ev_bNot, ev_chain, ev_nil, ev_cons, ev_tup, ev_lst, ev_new, ev_neg, ev_fld, ev_sl, ev_oNo, ev_oYes, ev_bTrue, ev_lc, ev_it, ev_rng, ev_enum, lt_int, le_int, gt_int, ge_int, add_int, sub_int, gN_ap, isNoneF, notNoneF, List.map_cons, List.map_nil, List.cons_append, List.nil_append, List.append_nil, List.length_cons, List.length_nil, List.length_map, wipeE, Nat.reduceAdd, Nat.reduceSub, Nat.reduceLeDiff, List.replicate, List.getElem?_cons_zero, List.getElem?_cons_succ, Option.join_some, Option.join_none, List.set_cons_zero, List.set_cons_succ, gc_same, decide_true, decide_false, ev_fldS, ev_put, ev_app, if_true, if_false, ite_true, ite_false, Bool.false_eq_true, Bool.not_true, Bool.not_false, reduceIte, sizeLine_eq, ev_notT, ev_tru, ev_rev, ev_srtSet, ev_fmtS, ev_joinS_nil, ev_joinS, ev_eqO, ev_strO]); repeat (simp -implicitDefEqProofs only [this, b']; (try simp -implicitDefEqProofs only [ev_fn, fin_rt, fin_nx, fin_err, ev_seq, sq_nx, sq_rt, sq_err, ev_cNil, ev_set, ev_expr, ev_rt, ev_rtN, ev_if, ev_for, ev_asg, gt_some, ev_onV, ev_onB, bd_ok, bd_err, sr_ok, sr_err, bk_bl, ik_int, of_some, ev_ret, ev_bind, ev_var, ev_C, ev_op, ev_call, ev_cb, ev_tst, ev_eTst, ev_and, ev_or, ev_not, ev_eIf, ev_bAnd, ev_bOr, ev_bNot, ev_chain, ev_nil, ev_cons, ev_tup, ev_lst, ev_new, ev_neg, ev_fld, ev_sl, ev_oNo, ev_oYes, ev_bTrue, ev_lc, ev_it, ev_rng, ev_enum, lt_int, le_int, gt_int, ge_int, add_int, sub_int, gN_ap, isNoneF, notNoneF, List.map_cons, List.map_nil, List.cons_append, List.nil_append, List.append_nil, List.length_cons, List.length_nil, List.length_map, wipeE, Nat.reduceAdd, Nat.reduceSub, Nat.reduceLeDiff, List.replicate, List.getElem?_cons_zero, List.getElem?_cons_succ, Option.join_some, Option.join_none, List.set_cons_zero, List.set_cons_succ, gc_same, decide_true, decide_false, ev_fldS, ev_put, ev_app, if_true, if_false, ite_true, ite_false, Bool.false_eq_true, Bool.not_true, Bool.not_false, reduceIte, sizeLine_eq, ev_notT, ev_tru, ev_rev, ev_srtSet, ev_fmtS, ev_joinS_nil, ev_joinS, ev_eqO, ev_strO])))
                    rfl
                  · have b' : stepOk L rows.length r = true := by simpa [badS] using b
                    ((try simp -implicitDefEqProofs only [ev_fn, fin_rt, fin_nx, fin_err, ev_seq, sq_nx, sq_rt, sq_err, ev_cNil, ev_set, ev_expr, ev_rt, ev_rtN, ev_if, ev_for, ev_asg, gt_some, ev_onV, ev_onB, bd_ok, bd_err, sr_ok, sr_err, bk_bl, ik_int, of_some, ev_ret, ev_bind, ev_var, ev_C, ev_op, ev_call, ev_cb, ev_tst, ev_eTst, ev_and, ev_or, ev_not, ev_eIf, ev_bAnd, ev_bOr, ev_bNot, ev_chain, ev_nil, ev_cons, ev_tup, ev_lst, ev_new, ev_neg, ev_fld, ev_sl, ev_oNo, ev_oYes, ev_bTrue, ev_lc, ev_it, ev_rng, ev_enum, lt_int, le_int, gt_int, ge_int, add_int, sub_int, gN_ap, isNoneF, notNoneF, List.map_cons, List.map_nil, List.cons_append, List.nil_append, List.append_nil, List.length_cons, List.length_nil, List.length_map, wipeE, Nat.reduceAdd, Nat.reduceSub, Nat.reduceLeDiff, List.replicate, List.getElem?_cons_zero, List.getElem?_cons_succ, Option.join_some, Option.join_none, List.set_cons_zero, List.set_cons_succ, gc_same, decide_true, decide_false, ev_fldS, ev_put, ev_app, if_true, if_false, ite_true, ite_false, Bool.false_eq_true, Bool.not_true, Bool.not_false, reduceIte, sizeLine_eq, ev_notT, ev_tru, ev_rev, ev_srtSet, ev_fmtS, ev_joinS_nil, ev_joinS, ev_eqO, ev_strO]); repeat (simp -implicitDefEqProofs only [len_tup]; (try simp -implicitDefEqProofs only [ev_fn, fin_rt, fin_nx, fin_err, ev_seq, sq_nx, sq_rt, sq_err, ev_cNil, ev_set, ev_expr, ev_rt, ev_rtN, ev_if, ev_for, ev_asg, gt_some, ev_onV, ev_onB, bd_ok, bd_err, sr_ok, sr_err, bk_bl, ik_int, of_some, ev_ret, ev_bind, ev_var, ev_C, ev_op, ev_call, ev_cb, ev_tst, ev_eTst, ev_and, ev_or, ev_not, ev_eIf, ev_bAnd, ev_bOr, ev_bNot, ev_chain, ev_nil, ev_cons, ev_tup, ev_lst, ev_new, ev_neg, ev_fld, ev_sl, ev_oNo, ev_oYes, ev_bTrue, ev_lc, ev_it, ev_rng, ev_enum, lt_int, le_int, gt_int, ge_int, add_int, sub_int, gN_ap, isNoneF, notNoneF, List.map_cons, List.map_nil, List.cons_append, List.nil_append, List.append_nil, List.length_cons, List.length_nil, List.length_map, wipeE, Nat.reduceAdd, Nat.reduceSub, Nat.reduceLeDiff, List.replicate, List.getElem?_cons_zero, List.getElem?_cons_succ, Option.join_some, Option.join_none, List.set_cons_zero, List.set_cons_succ, gc_same, decide_true, decide_false, ev_fldS, ev_put, ev_app, if_true, if_false, ite_true, ite_false, Bool.false_eq_true, Bool.not_true, Bool.not_false, reduceIte, sizeLine_eq, ev_notT, ev_tru, ev_rev, ev_srtSet, ev_fmtS, ev_joinS_nil, ev_joinS, ev_eqO, ev_strO])))
                    have := v_is_step a h (hrow r hr') L rows.length
                    ((try simp -implicitDefEqProofs only [ev_fn, fin_rt, fin_nx, fin_err, ev_seq, sq_nx, sq_rt, sq_err, ev_cNil, ev_set, ev_expr, ev_rt, ev_rtN, ev_if, ev_for, ev_asg, gt_some, ev_onV, ev_onB, bd_ok, bd_err, sr_ok, sr_err, bk_bl, ik_int, of_some, ev_ret, ev_bind, ev_var, ev_C, ev_op, ev_call, ev_cb, ev_tst, ev_eTst, ev_and, ev_or, ev_not, ev_eIf, ev_bAnd, ev_bOr, ev_bNot, ev_chain, ev_nil, ev_cons, ev_tup, ev_lst, ev_new, ev_neg, ev_fld, ev_sl, ev_oNo, ev_oYes, ev_bTrue, ev_lc, ev_it, ev_rng, ev_enum, lt_int, le_int, gt_int, ge_int, add_int, sub_int, gN_ap, isNoneF, notNoneF, List.map_cons, List.map_nil, List.cons_append, List.nil_append, List.append_nil, List.length_cons, List.length_nil, List.length_map, wipeE, Nat.reduceAdd, Nat.reduceSub, Nat.reduceLeDiff, List.replicate, List.getElem?_cons_zero, List.getElem?_cons_succ, Option.join_some, Option.join_none, List.set_cons_zero, List.set_cons_succ, gc_same, decide_true, decide_false, ev_fldS, ev_put, ev_app, if_true, if_false, ite_true, ite_false, Bool.false_eq_true, Bool.not_true, Bool.not_false, reduceIte, sizeLine_eq, ev_notT, ev_tru, ev_rev, ev_srtSet, ev_fmtS, ev_joinS_nil, ev_joinS, ev_eqO, ev_strO]); repeat (simp -implicitDefEqProofs only [this, b']; (try simp -implicitDefEqProofs only [ev_fn, fin_rt, fin_nx, fin_err, ev_seq, sq_nx, sq_rt, sq_err, ev_cNil, ev_set, ev_expr, ev_rt, ev_rtN, ev_if, ev_for, ev_asg, gt_some, ev_onV, ev_onB, bd_ok, bd_err, sr_ok, sr_err, bk_bl, ik_int, of_some, ev_ret, ev_bind, ev_var, ev_C, ev_op, ev_call, ev_cb, ev_tst, ev_eTst, ev_and, ev_or, ev_not, ev_eIf, ev_bAnd, ev_bOr, ev_bNot, ev_chain, ev_nil, ev_cons, ev_tup, ev_lst, ev_new, ev_neg, ev_fld, ev_sl, ev_oNo, ev_oYes, ev_bTrue, ev_lc, ev_it, ev_rng, ev_enum, lt_int, le_int, gt_int, ge_int, add_int, sub_int, gN_ap, isNoneF, notNoneF, List.map_cons, List.map_nil, List.cons_append, List.nil_append, List.append_nil, List.length_cons, List.length_nil, List.length_map, wipeE, Nat.reduceAdd, Nat.reduceSub, Nat.reduceLeDiff, List.replicate, List.getElem?_cons_zero, List.getElem?_cons_succ, Option.join_some, Option.join_none, List.set_cons_zero, List.set_cons_succ, gc_same, decide_true, decide_false, ev_fldS, ev_put, ev_app, if_true, if_false, ite_true, ite_false, Bool.false_eq_true, Bool.not_true, Bool.not_false, reduceIte, sizeLine_eq, ev_notT, ev_tru, ev_rev, ev_srtSet, ev_fmtS, ev_joinS_nil, ev_joinS, ev_eqO, ev_strO])))) [some (.int L), some (.tup rows), some c, none, none] ⟨_, _, rfl⟩
              have e0 : decide ((1 : Int) ≤ (rows.length : Nat)) = true := decide_eq_true c1
              have e1 : decide (((rows.length : Nat) : Int) ≤ 512) = true := decide_eq_true c2
              have ft : faultS (.int L) (.tup rows) c = match (enumL 0 rows).find? (badS L rows.length) with
                  | some v => retS v
                  | none => if tupOk rows.length c = true then .non else .tup [.str "accepting"] := by
                unfold faultS; rw [if_pos q]; simp only; rw [if_pos (by omega)]
              rw [ft]
              cases z : (enumL 0 rows).find? (badS L rows.length) with
              | some v =>
                ((try simp -implicitDefEqProofs only [ev_fn, fin_rt, fin_nx, fin_err, ev_seq, sq_nx, sq_rt, sq_err, ev_cNil, ev_set, ev_expr, ev_rt, ev_rtN, ev_if, ev_for, ev_asg, gt_some, ev_onV, ev_onB, bd_ok, bd_err, sr_ok, sr_err, bk_bl, ik_int, of_some, ev_ret, ev_bind, ev_var, ev_C, ev_op, ev_call, ev_cb, ev_tst, ev_eTst, ev_and, ev_or, ev_not, ev_eIf, ev_bAnd, ev_bOr, ev_bNot, ev_chain, ev_nil, ev_cons, ev_tup, ev_lst, ev_new, ev_neg, ev_fld, ev_sl, ev_oNo, ev_oYes, ev_bTrue, ev_lc, ev_it, ev_rng, ev_enum, lt_int, le_int, gt_int, ge_int, add_int, sub_int, gN_ap, isNoneF, notNoneF, List.map_cons, List.map_nil, List.cons_append, List.nil_append, List.append_nil, List.length_cons, List.length_nil, List.length_map, wipeE, Nat.reduceAdd, Nat.reduceSub, Nat.reduceLeDiff, List.replicate, List.getElem?_cons_zero, List.getElem?_cons_succ, Option.join_some, Option.join_none, List.set_cons_zero, List.set_cons_succ, gc_same, decide_true, decide_false, ev_fldS, ev_put, ev_app, if_true, if_false, ite_true, ite_false, Bool.false_eq_true, Bool.not_true, Bool.not_false, reduceIte, sizeLine_eq, ev_notT, ev_tru, ev_rev, ev_srtSet, ev_fmtS, ev_joinS_nil, ev_joinS, ev_eqO, ev_strO]); repeat (simp -implicitDefEqProofs only [v_is_between a h hl, q, isi_tp h hs.1, q2, len_tup, e0, e1, seq_tup, fn.1 v z]; (try simp -implicitDefEqProofs only [ev_fn, fin_rt, fin_nx, fin_err, ev_seq, sq_nx, sq_rt, sq_err, ev_cNil, ev_set, ev_expr, ev_rt, ev_rtN, ev_if, ev_for, ev_asg, gt_some, ev_onV, ev_onB, bd_ok, bd_err, sr_ok, sr_err, bk_bl, ik_int, of_some, ev_ret, ev_bind, ev_var, ev_C, ev_op, ev_call, ev_cb, ev_tst, ev_eTst, ev_and, ev_or, ev_not, ev_eIf, ev_bAnd, ev_bOr, ev_bNot, ev_chain, ev_nil, ev_cons, ev_tup, ev_lst, ev_new, ev_neg, ev_fld, ev_sl, ev_oNo, ev_oYes, ev_bTrue, ev_lc, ev_it, ev_rng, ev_enum, lt_int, le_int, gt_int, ge_int, add_int, sub_int, gN_ap, isNoneF, notNoneF, List.map_cons, List.map_nil, List.cons_append, List.nil_append, List.append_nil, List.length_cons, List.length_nil, List.length_map, wipeE, Nat.reduceAdd, Nat.reduceSub, Nat.reduceLeDiff, List.replicate, List.getElem?_cons_zero, List.getElem?_cons_succ, Option.join_some, Option.join_none, List.set_cons_zero, List.set_cons_succ, gc_same, decide_true, decide_false, ev_fldS, ev_put, ev_app, if_true, if_false, ite_true, ite_false, Bool.false_eq_true, Bool.not_true, Bool.not_false, reduceIte, sizeLine_eq, ev_notT, ev_tru, ev_rev, ev_srtSet, ev_fmtS, ev_joinS_nil, ev_joinS, ev_eqO, ev_strO])))
              | none =>
                obtain ⟨e', q3, x, y, rfl⟩ := fn.2 z
                have it := v_is_index_tuple a h hc rows.length
                cases w : tupOk rows.length c with
                | true =>
                  ((try simp -implicitDefEqProofs only [ev_fn, fin_rt, fin_nx, fin_err, ev_seq, sq_nx, sq_rt, sq_err, ev_cNil, ev_set, ev_expr, ev_rt, ev_rtN, ev_if, ev_for, ev_asg, gt_some, ev_onV, ev_onB, bd_ok, bd_err, sr_ok, sr_err, bk_bl, ik_int, of_some, ev_ret, ev_bind, ev_var, ev_C, ev_op, ev_call, ev_cb, ev_tst, ev_eTst, ev_and, ev_or, ev_not, ev_eIf, ev_bAnd, ev_bOr, ev_bNot, ev_chain, ev_nil, ev_cons, ev_tup, ev_lst, ev_new, ev_neg, ev_fld, ev_sl, ev_oNo, ev_oYes, ev_bTrue, ev_lc, ev_it, ev_rng, ev_enum, lt_int, le_int, gt_int, ge_int, add_int, sub_int, gN_ap, isNoneF, notNoneF, List.map_cons, List.map_nil, List.cons_append, List.nil_append, List.append_nil, List.length_cons, List.length_nil, List.length_map, wipeE, Nat.reduceAdd, Nat.reduceSub, Nat.reduceLeDiff, List.replicate, List.getElem?_cons_zero, List.getElem?_cons_succ, Option.join_some, Option.join_none, List.set_cons_zero, List.set_cons_succ, gc_same, decide_true, decide_false, ev_fldS, ev_put, ev_app, if_true, if_false, ite_true, ite_false, Bool.false_eq_true, Bool.not_true, Bool.not_false, reduceIte, sizeLine_eq, ev_notT, ev_tru, ev_rev, ev_srtSet, ev_fmtS, ev_joinS_nil, ev_joinS, ev_eqO, ev_strO]); repeat (simp -implicitDefEqProofs only [v_is_between a h hl, q, isi_tp h hs.1, q2, len_tup, e0, e1, seq_tup, q3]; (try simp -implicitDefEqProofs only [ev_fn, fin_rt, fin_nx, fin_err, ev_seq, sq_nx, sq_rt, sq_err, ev_cNil, ev_set, ev_expr, ev_rt, ev_rtN, ev_if, ev_for, ev_asg, gt_some, ev_onV, ev_onB, bd_ok, bd_err, sr_ok, sr_err, bk_bl, ik_int, of_some, ev_ret, ev_bind, ev_var, ev_C, ev_op, ev_call, ev_cb, ev_tst, ev_eTst, ev_and, ev_or, ev_not, ev_eIf, ev_bAnd, ev_bOr, ev_bNot, ev_chain, ev_nil, ev_cons, ev_tup, ev_lst, ev_new, ev_neg, ev_fld, ev_sl, ev_oNo, ev_oYes, ev_bTrue, ev_lc, ev_it, ev_rng, ev_enum, lt_int, le_int, gt_int, ge_int, add_int, sub_int, gN_ap, isNoneF, notNoneF, List.map_cons, List.map_nil, List.cons_append, List.nil_append, List.append_nil, List.length_cons, List.length_nil, List.length_map, wipeE, Nat.reduceAdd, Nat.reduceSub, Nat.reduceLeDiff, List.replicate, List.getElem?_cons_zero, List.getElem?_cons_succ, Option.join_some, Option.join_none, List.set_cons_zero, List.set_cons_succ, gc_same, decide_true, decide_false, ev_fldS, ev_put, ev_app, if_true, if_false, ite_true, ite_false, Bool.false_eq_true, Bool.not_true, Bool.not_false, reduceIte, sizeLine_eq, ev_notT, ev_tru, ev_rev, ev_srtSet, ev_fmtS, ev_joinS_nil, ev_joinS, ev_eqO, ev_strO])))
                  rw [w] at it
                  ((try simp -implicitDefEqProofs only [ev_fn, fin_rt, fin_nx, fin_err, ev_seq, sq_nx, sq_rt, sq_err, ev_cNil, ev_set, ev_expr, ev_rt, ev_rtN, ev_if, ev_for, ev_asg, gt_some, ev_onV, ev_onB, bd_ok, bd_err, sr_ok, sr_err, bk_bl, ik_int, of_some, ev_ret, ev_bind, ev_var, ev_C, ev_op, ev_call, ev_cb, ev_tst, ev_eTst, ev_and, ev_or, ev_not, ev_eIf, ev_bAnd, ev_bOr, ev_bNot, ev_chain, ev_nil, ev_cons, ev_tup, ev_lst, ev_new, ev_neg, ev_fld, ev_sl, ev_oNo, ev_oYes, ev_bTrue, ev_lc, ev_it, ev_rng, ev_enum, lt_int, le_int, gt_int, ge_int, add_int, sub_int, gN_ap, isNoneF, notNoneF, List.map_cons, List.map_nil, List.cons_append, List.nil_append, List.append_nil, List.length_cons, List.length_nil, List.length_map, wipeE, Nat.reduceAdd, Nat.reduceSub, Nat.reduceLeDiff, List.replicate, List.getElem?_cons_zero, List.getElem?_cons_succ, Option.join_some, Option.join_none, List.set_cons_zero, List.set_cons_succ, gc_same, decide_true, decide_false, ev_fldS, ev_put, ev_app, if_true, if_false, ite_true, ite_false, Bool.false_eq_true, Bool.not_true, Bool.not_false, reduceIte, sizeLine_eq, ev_notT, ev_tru, ev_rev, ev_srtSet, ev_fmtS, ev_joinS_nil, ev_joinS, ev_eqO, ev_strO]); repeat (simp -implicitDefEqProofs only [it]; (try simp -implicitDefEqProofs only [ev_fn, fin_rt, fin_nx, fin_err, ev_seq, sq_nx, sq_rt, sq_err, ev_cNil, ev_set, ev_expr, ev_rt, ev_rtN, ev_if, ev_for, ev_asg, gt_some, ev_onV, ev_onB, bd_ok, bd_err, sr_ok, sr_err, bk_bl, ik_int, of_some, ev_ret, ev_bind, ev_var, ev_C, ev_op, ev_call, ev_cb, ev_tst, ev_eTst, ev_and, ev_or, ev_not, ev_eIf, ev_bAnd, ev_bOr, ev_bNot, ev_chain, ev_nil, ev_cons, ev_tup, ev_lst, ev_new, ev_neg, ev_fld, ev_sl, ev_oNo, ev_oYes, ev_bTrue, ev_lc, ev_it, ev_rng, ev_enum, lt_int, le_int, gt_int, ge_int, add_int, sub_int, gN_ap, isNoneF, notNoneF, List.map_cons, List.map_nil, List.cons_append, List.nil_append, List.append_nil, List.length_cons, List.length_nil, List.length_map, wipeE, Nat.reduceAdd, Nat.reduceSub, Nat.reduceLeDiff, List.replicate, List.getElem?_cons_zero, List.getElem?_cons_succ, Option.join_some, Option.join_none, List.set_cons_zero, List.set_cons_succ, gc_same, decide_true, decide_false, ev_fldS, ev_put, ev_app, if_true, if_false, ite_true, ite_false, Bool.false_eq_true, Bool.not_true, Bool.not_false, reduceIte, sizeLine_eq, ev_notT, ev_tru, ev_rev, ev_srtSet, ev_fmtS, ev_joinS_nil, ev_joinS, ev_eqO, ev_strO])))
                | false =>
                  ((try simp -implicitDefEqProofs only [ev_fn, fin_rt, fin_nx, fin_err, ev_seq, sq_nx, sq_rt, sq_err, ev_cNil, ev_set, ev_expr, ev_rt, ev_rtN, ev_if, ev_for, ev_asg, gt_some, ev_onV, ev_onB, bd_ok, bd_err, sr_ok, sr_err, bk_bl, ik_int, of_some, ev_ret, ev_bind, ev_var, ev_C, ev_op, ev_call, ev_cb, ev_tst, ev_eTst, ev_and, ev_or, ev_not, ev_eIf, ev_bAnd, ev_bOr, ev_bNot, ev_chain, ev_nil, ev_cons, ev_tup, ev_lst, ev_new, ev_neg, ev_fld, ev_sl, ev_oNo, ev_oYes, ev_bTrue, ev_lc, ev_it, ev_rng, ev_enum, lt_int, le_int, gt_int, ge_int, add_int, sub_int, gN_ap, isNoneF, notNoneF, List.map_cons, List.map_nil, List.cons_append, List.nil_append, List.append_nil, List.length_cons, List.length_nil, List.length_map, wipeE, Nat.reduceAdd, Nat.reduceSub, Nat.reduceLeDiff, List.replicate, List.getElem?_cons_zero, List.getElem?_cons_succ, Option.join_some, Option.join_none, List.set_cons_zero, List.set_cons_succ, gc_same, decide_true, decide_false, ev_fldS, ev_put, ev_app, if_true, if_false, ite_true, ite_false, Bool.false_eq_true, Bool.not_true, Bool.not_false, reduceIte, sizeLine_eq, ev_notT, ev_tru, ev_rev, ev_srtSet, ev_fmtS, ev_joinS_nil, ev_joinS, ev_eqO, ev_strO]); repeat (simp -implicitDefEqProofs only [v_is_between a h hl, q, isi_tp h hs.1, q2, len_tup, e0, e1, seq_tup, q3]; (try simp -implicitDefEqProofs only [ev_fn, fin_rt, fin_nx, fin_err, ev_seq, sq_nx, sq_rt, sq_err, ev_cNil, ev_set, ev_expr, ev_rt, ev_rtN, ev_if, ev_for, ev_asg, gt_some, ev_onV, ev_onB, bd_ok, bd_err, sr_ok, sr_err, bk_bl, ik_int, of_some, ev_ret, ev_bind, ev_var, ev_C, ev_op, ev_call, ev_cb, ev_tst, ev_eTst, ev_and, ev_or, ev_not, ev_eIf, ev_bAnd, ev_bOr, ev_bNot, ev_chain, ev_nil, ev_cons, ev_tup, ev_lst, ev_new, ev_neg, ev_fld, ev_sl, ev_oNo, ev_oYes, ev_bTrue, ev_lc, ev_it, ev_rng, ev_enum, lt_int, le_int, gt_int, ge_int, add_int, sub_int, gN_ap, isNoneF, notNoneF, List.map_cons, List.map_nil, List.cons_append, List.nil_append, List.append_nil, List.length_cons, List.length_nil, List.length_map, wipeE, Nat.reduceAdd, Nat.reduceSub, Nat.reduceLeDiff, List.replicate, List.getElem?_cons_zero, List.getElem?_cons_succ, Option.join_some, Option.join_none, List.set_cons_zero, List.set_cons_succ, gc_same, decide_true, decide_false, ev_fldS, ev_put, ev_app, if_true, if_false, ite_true, ite_false, Bool.false_eq_true, Bool.not_true, Bool.not_false, reduceIte, sizeLine_eq, ev_notT, ev_tru, ev_rev, ev_srtSet, ev_fmtS, ev_joinS_nil, ev_joinS, ev_eqO, ev_strO])))
                  rw [w] at it
                  ((try simp -implicitDefEqProofs only [ev_fn, fin_rt, fin_nx, fin_err, ev_seq, sq_nx, sq_rt, sq_err, ev_cNil, ev_set, ev_expr, ev_rt, ev_rtN, ev_if, ev_for, ev_asg, gt_some, ev_onV, ev_onB, bd_ok, bd_err, sr_ok, sr_err, bk_bl, ik_int, of_some, ev_ret, ev_bind, ev_var, ev_C, ev_op, ev_call, ev_cb, ev_tst, ev_eTst, ev_and, ev_or, ev_not, ev_eIf, ev_bAnd, ev_bOr, ev_bNot, ev_chain, ev_nil, ev_cons, ev_tup, ev_lst, ev_new, ev_neg, ev_fld, ev_sl, ev_oNo, ev_oYes, ev_bTrue, ev_lc, ev_it, ev_rng, ev_enum, lt_int, le_int, gt_int, ge_int, add_int, sub_int, gN_ap, isNoneF, notNoneF, List.map_cons, List.map_nil, List.cons_append, List.nil_append, List.append_nil, List.length_cons, List.length_nil, List.length_map, wipeE, Nat.reduceAdd, Nat.reduceSub, Nat.reduceLeDiff, List.replicate, List.getElem?_cons_zero, List.getElem?_cons_succ, Option.join_some, Option.join_none, List.set_cons_zero, List.set_cons_succ, gc_same, decide_true, decide_false, ev_fldS, ev_put, ev_app, if_true, if_false, ite_true, ite_false, Bool.false_eq_true, Bool.not_true, Bool.not_false, reduceIte, sizeLine_eq, ev_notT, ev_tru, ev_rev, ev_srtSet, ev_fmtS, ev_joinS_nil, ev_joinS, ev_eqO, ev_strO]); repeat (simp -implicitDefEqProofs only [it]; (try simp -implicitDefEqProofs only [ev_fn, fin_rt, fin_nx, fin_err, ev_seq, sq_nx, sq_rt, sq_err, ev_cNil, ev_set, ev_expr, ev_rt, ev_rtN, ev_if, ev_for, ev_asg, gt_some, ev_onV, ev_onB, bd_ok, bd_err, sr_ok, sr_err, bk_bl, ik_int, of_some, ev_ret, ev_bind, ev_var, ev_C, ev_op, ev_call, ev_cb, ev_tst, ev_eTst, ev_and, ev_or, ev_not, ev_eIf, ev_bAnd, ev_bOr, ev_bNot, ev_chain, ev_nil, ev_cons, ev_tup, ev_lst, ev_new, ev_neg, ev_fld, ev_sl, ev_oNo, ev_oYes, ev_bTrue, ev_lc, ev_it, ev_rng, ev_enum, lt_int, le_int, gt_int, ge_int, add_int, sub_int, gN_ap, isNoneF, notNoneF, List.map_cons, List.map_nil, List.cons_append, List.nil_append, List.append_nil, List.length_cons, List.length_nil, List.length_map, wipeE, Nat.reduceAdd, Nat.reduceSub, Nat.reduceLeDiff, List.replicate, List.getElem?_cons_zero, List.getElem?_cons_succ, Option.join_some, Option.join_none, List.set_cons_zero, List.set_cons_succ, gc_same, decide_true, decide_false, ev_fldS, ev_put, ev_app, if_true, if_false, ite_true, ite_false, Bool.false_eq_true, Bool.not_true, Bool.not_false, reduceIte, sizeLine_eq, ev_notT, ev_tru, ev_rev, ev_srtSet, ev_fmtS, ev_joinS_nil, ev_joinS, ev_eqO, ev_strO])))
            · have e0 : decide ((1 : Int) ≤ (rows.length : Nat)) = true := decide_eq_true c1
              have e1 : decide (((rows.length : Nat) : Int) ≤ 512) = false := decide_eq_false c2
              ((try simp -implicitDefEqProofs only [ev_fn, fin_rt, fin_nx, fin_err, ev_seq, sq_nx, sq_rt, sq_err, ev_cNil, ev_set, ev_expr, ev_rt, ev_rtN, ev_if, ev_for, ev_asg, gt_some, ev_onV, ev_onB, bd_ok, bd_err, sr_ok, sr_err, bk_bl, ik_int, of_some, ev_ret, ev_bind, ev_var, ev_C, ev_op, ev_call, ev_cb, ev_tst, ev_eTst, ev_and, ev_or, ev_not, ev_eIf, ev_bAnd, ev_bOr, ev_bNot, ev_chain, ev_nil, ev_cons, ev_tup, ev_lst, ev_new, ev_neg, ev_fld, ev_sl, ev_oNo, ev_oYes, ev_bTrue, ev_lc, ev_it, ev_rng, ev_enum, lt_int, le_int, gt_int, ge_int, add_int, sub_int, gN_ap, isNoneF, notNoneF, List.map_cons, List.map_nil, List.cons_append, List.nil_append, List.append_nil, List.length_cons, List.length_nil, List.length_map, wipeE, Nat.reduceAdd, Nat.reduceSub, Nat.reduceLeDiff, List.replicate, List.getElem?_cons_zero, List.getElem?_cons_succ, Option.join_some, Option.join_none, List.set_cons_zero, List.set_cons_succ, gc_same, decide_true, decide_false, ev_fldS, ev_put, ev_app, if_true, if_false, ite_true, ite_false, Bool.false_eq_true, Bool.not_true, Bool.not_false, reduceIte, sizeLine_eq, ev_notT, ev_tru, ev_rev, ev_srtSet, ev_fmtS, ev_joinS_nil, ev_joinS, ev_eqO, ev_strO]); repeat (simp -implicitDefEqProofs only [v_is_between a h hl, q, isi_tp h hs.1, q2, len_tup, e0, e1]; (try simp -implicitDefEqProofs only [ev_fn, fin_rt, fin_nx, fin_err, ev_seq, sq_nx, sq_rt, sq_err, ev_cNil, ev_set, ev_expr, ev_rt, ev_rtN, ev_if, ev_for, ev_asg, gt_some, ev_onV, ev_onB, bd_ok, bd_err, sr_ok, sr_err, bk_bl, ik_int, of_some, ev_ret, ev_bind, ev_var, ev_C, ev_op, ev_call, ev_cb, ev_tst, ev_eTst, ev_and, ev_or, ev_not, ev_eIf, ev_bAnd, ev_bOr, ev_bNot, ev_chain, ev_nil, ev_cons, ev_tup, ev_lst, ev_new, ev_neg, ev_fld, ev_sl, ev_oNo, ev_oYes, ev_bTrue, ev_lc, ev_it, ev_rng, ev_enum, lt_int, le_int, gt_int, ge_int, add_int, sub_int, gN_ap, isNoneF, notNoneF, List.map_cons, List.map_nil, List.cons_append, List.nil_append, List.append_nil, List.length_cons, List.length_nil, List.length_map, wipeE, Nat.reduceAdd, Nat.reduceSub, Nat.reduceLeDiff, List.replicate, List.getElem?_cons_zero, List.getElem?_cons_succ, Option.join_some, Option.join_none, List.set_cons_zero, List.set_cons_succ, gc_same, decide_true, decide_false, ev_fldS, ev_put, ev_app, if_true, if_false, ite_true, ite_false, Bool.false_eq_true, Bool.not_true, Bool.not_false, reduceIte, sizeLine_eq, ev_notT, ev_tru, ev_rev, ev_srtSet, ev_fmtS, ev_joinS_nil, ev_joinS, ev_eqO, ev_strO])))
              unfold faultS; rw [if_pos q]; simp only; rw [if_neg (by omega)]
          · have e0 : decide ((1 : Int) ≤ (rows.length : Nat)) = false := decide_eq_false c1
            ((try simp -implicitDefEqProofs only [ev_fn, fin_rt, fin_nx, fin_err, ev_seq, sq_nx, sq_rt, sq_err, ev_cNil, ev_set, ev_expr, ev_rt, ev_rtN, ev_if, ev_for, ev_asg, gt_some, ev_onV, ev_onB, bd_ok, bd_err, sr_ok, sr_err, bk_bl, ik_int, of_some, ev_ret, ev_bind, ev_var, ev_C, ev_op, ev_call, ev_cb, ev_tst, ev_eTst, ev_and, ev_or, ev_not, ev_eIf, ev_bAnd, ev_bOr, ev_bNot, ev_chain, ev_nil, ev_cons, ev_tup, ev_lst, ev_new, ev_neg, ev_fld, ev_sl, ev_oNo, ev_oYes, ev_bTrue, ev_lc, ev_it, ev_rng, ev_enum, lt_int, le_int, gt_int, ge_int, add_int, sub_int, gN_ap, isNoneF, notNoneF, List.map_cons, List.map_nil, List.cons_append, List.nil_append, List.append_nil, List.length_cons, List.length_nil, List.length_map, wipeE, Nat.reduceAdd, Nat.reduceSub, Nat.reduceLeDiff, List.replicate, List.getElem?_cons_zero, List.getElem?_cons_succ, Option.join_some, Option.join_none, List.set_cons_zero, List.set_cons_succ, gc_same, decide_true, decide_false, ev_fldS, ev_put, ev_app, if_true, if_false, ite_true, ite_false, Bool.false_eq_true, Bool.not_true, Bool.not_false, reduceIte, sizeLine_eq, ev_notT, ev_tru, ev_rev, ev_srtSet, ev_fmtS, ev_joinS_nil, ev_joinS, ev_eqO, ev_strO]); repeat (simp -implicitDefEqProofs only [v_is_between a h hl, q, isi_tp h hs.1, q2, len_tup, e0]; (try simp -implicitDefEqProofs only [ev_fn, fin_rt, fin_nx, fin_err, ev_seq, sq_nx, sq_rt, sq_err, ev_cNil, ev_set, ev_expr, ev_rt, ev_rtN, ev_if, ev_for, ev_asg, gt_some, ev_onV, ev_onB, bd_ok, bd_err, sr_ok, sr_err, bk_bl, ik_int, of_some, ev_ret, ev_bind, ev_var, ev_C, ev_op, ev_call, ev_cb, ev_tst, ev_eTst, ev_and, ev_or, ev_not, ev_eIf, ev_bAnd, ev_bOr, ev_bNot, ev_chain, ev_nil, ev_cons, ev_tup, ev_lst, ev_new, ev_neg, ev_fld, ev_sl, ev_oNo, ev_oYes, ev_bTrue, ev_lc, ev_it, ev_rng, ev_enum, lt_int, le_int, gt_int, ge_int, add_int, sub_int, gN_ap, isNoneF, notNoneF, List.map_cons, List.map_nil, List.cons_append, List.nil_append, List.append_nil, List.length_cons, List.length_nil, List.length_map, wipeE, Nat.reduceAdd, Nat.reduceSub, Nat.reduceLeDiff, List.replicate, List.getElem?_cons_zero, List.getElem?_cons_succ, Option.join_some, Option.join_none, List.set_cons_zero, List.set_cons_succ, gc_same, decide_true, decide_false, ev_fldS, ev_put, ev_app, if_true, if_false, ite_true, ite_false, Bool.false_eq_true, Bool.not_true, Bool.not_false, reduceIte, sizeLine_eq, ev_notT, ev_tru, ev_rev, ev_srtSet, ev_fmtS, ev_joinS_nil, ev_joinS, ev_eqO, ev_strO])))
            unfold faultS; rw [if_pos q]; simp only; rw [if_neg (by omega)]
        | _ => simp [isTp] at q2
    | _ => simp [inR] at q
end My

set_option Elab.async false
set_option linter.all false
set_option maxRecDepth 100000
set_option maxHeartbeats 4000000
namespace My
open PySem L2 Sim
variable (a : Ads) (h : SHp)
theorem ascI_iff : ∀ ns : List Int, ascI ns = true ↔ ns.Pairwise (· < ·)
  | [] => by simp [ascI]
  | [x] => by simp [ascI]
  | x :: y :: xs => by
    have ih := ascI_iff (y :: xs)
    have e : ascI (x :: y :: xs) = (decide (x < y) && ascI (y :: xs)) := by simp [ascI]
    rw [e, Bool.and_eq_true, ih, decide_eq_true_eq, List.pairwise_cons (a := x)]
    constructor
    · rintro ⟨q1, q2⟩
      refine ⟨fun z hz => ?_, q2⟩
      rcases List.mem_cons.mp hz with rfl | hz
      · exact q1
      · have := (List.pairwise_cons.mp q2).1 z hz; omega
    · rintro ⟨q1, q2⟩
      exact ⟨q1 y (by simp), q2⟩
theorem asc_set (ns : List Int) : decide (ns = setL ns) = ascI ns := by
  rw [Bool.eq_iff_iff, decide_eq_true_eq, ascI_iff]
  constructor
  · intro q; rw [q]; exact setL_asc ns
  · intro q; exact asc_eq q (setL_asc ns) fun z => setL_mem.symm
def ones (n : Nat) (xs : List SV) : List SV := (xs.filter fun x => !inR x 0 ((n : Int) - 1)).map fun _ => .int 1
theorem ones_ne (n : Nat) (xs : List SV) (h : SHp) : eqF true (.rls (ones n xs)) (.rls []) h = some (.bl (!idx n xs)) := by
  have e : ones n xs = ((xs.filter fun x => !inR x 0 ((n : Int) - 1)).map fun _ => (1 : Int)).map SV.int := by simp [ones]
  have := eqF_rlsI true ((xs.filter fun x => !inR x 0 ((n : Int) - 1)).map fun _ => (1 : Int)) [] h
  rw [e]
  simp only [List.map_nil] at this
  rw [this]
  simp only [if_true]
  congr 2
  show _ = !(xs.all fun x => inR x 0 ((n : Int) - 1))
  rw [← filter_all (fun x => inR x 0 ((n : Int) - 1)) xs]
  cases (xs.filter fun x => !inR x 0 ((n : Int) - 1)) <;> simp
theorem v_ones {xs : List SV} (hx : P1 xs) (n : Nat) (i : Nat) (ce : Sim.Env → M (List SV)) (e : Sim.Env) (hce : ∀ s h, s ∈ xs → ce (e.set i (some s)) h = .ok [s, .int 0, .int ((n : Int) - 1)] h) :
    compL (gN i) (bNot (eTst (eCall (D_u_law_is_from a) ce))) (eC (.int 1)) .no e xs [] h = .ok (ones n xs) h := by
  have := compL_pure (g := gN i) (t := bNot (eTst (eCall (D_u_law_is_from a) ce))) (el := eC (.int 1)) (e := e) (h := h) (fun s => !inR s 0 ((n : Int) - 1)) (fun _ => .int 1) xs [] (fun s hs => by
    refine ⟨e.set i (some s), rfl, ?_, fun _ => rfl⟩
    have q := v_is_from a h (hx.1 s hs) 0 ((n : Int) - 1)
    ((try simp -implicitDefEqProofs only [ev_fn, fin_rt, fin_nx, fin_err, ev_seq, sq_nx, sq_rt, sq_err, ev_cNil, ev_set, ev_expr, ev_rt, ev_rtN, ev_if, ev_for, ev_asg, gt_some, ev_onV, ev_onB, bd_ok, bd_err, sr_ok, sr_err, bk_bl, ik_int, of_some, ev_ret, ev_bind, ev_var, ev_C, ev_op, ev_call, ev_cb, ev_tst, ev_eTst, ev_and, ev_or, ev_not, ev_eIf, ev_bAnd, ev_bOr, ev_bNot, ev_chain, ev_nil, ev_cons, ev_tup, ev_lst, ev_new, ev_neg, ev_fld, ev_sl, ev_oNo, ev_oYes, ev_bTrue, ev_lc, ev_it, ev_rng, ev_enum, lt_int, le_int, gt_int, ge_int, add_int, sub_int, gN_ap, isNoneF, notNoneF, List.map_cons, List.map_nil, List.cons_append, List.nil_append, List.append_nil, List.length_cons, List.length_nil, List.length_map, wipeE, Nat.reduceAdd, Nat.reduceSub, Nat.reduceLeDiff, List.replicate, List.getElem?_cons_zero, List.getElem?_cons_succ, Option.join_some, Option.join_none, List.set_cons_zero, List.set_cons_succ, gc_same, decide_true, decide_false, ev_fldS, ev_put, ev_app, if_true, if_false, ite_true, ite_false, Bool.false_eq_true, Bool.not_true, Bool.not_false, reduceIte, sizeLine_eq, ev_notT, ev_tru, ev_rev, ev_srtSet, ev_fmtS, ev_joinS_nil, ev_joinS, ev_eqO, ev_strO]); repeat (simp -implicitDefEqProofs only [hce s _ hs, q]; (try simp -implicitDefEqProofs only [ev_fn, fin_rt, fin_nx, fin_err, ev_seq, sq_nx, sq_rt, sq_err, ev_cNil, ev_set, ev_expr, ev_rt, ev_rtN, ev_if, ev_for, ev_asg, gt_some, ev_onV, ev_onB, bd_ok, bd_err, sr_ok, sr_err, bk_bl, ik_int, of_some, ev_ret, ev_bind, ev_var, ev_C, ev_op, ev_call, ev_cb, ev_tst, ev_eTst, ev_and, ev_or, ev_not, ev_eIf, ev_bAnd, ev_bOr, ev_bNot, ev_chain, ev_nil, ev_cons, ev_tup, ev_lst, ev_new, ev_neg, ev_fld, ev_sl, ev_oNo, ev_oYes, ev_bTrue, ev_lc, ev_it, ev_rng, ev_enum, lt_int, le_int, gt_int, ge_int, add_int, sub_int, gN_ap, isNoneF, notNoneF, List.map_cons, List.map_nil, List.cons_append, List.nil_append, List.append_nil, List.length_cons, List.length_nil, List.length_map, wipeE, Nat.reduceAdd, Nat.reduceSub, Nat.reduceLeDiff, List.replicate, List.getElem?_cons_zero, List.getElem?_cons_succ, Option.join_some, Option.join_none, List.set_cons_zero, List.set_cons_succ, gc_same, decide_true, decide_false, ev_fldS, ev_put, ev_app, if_true, if_false, ite_true, ite_false, Bool.false_eq_true, Bool.not_true, Bool.not_false, reduceIte, sizeLine_eq, ev_notT, ev_tru, ev_rev, ev_srtSet, ev_fmtS, ev_joinS_nil, ev_joinS, ev_eqO, ev_strO])))) (by have := hx.2; rw [sizeLine_eq]; simp; omega)
  rw [this]; rfl
theorem v_law_fault {l s c : SV} (hl : (ty l).isSome = true) (hs : P3 s) (hc : P2 c) (hc2 : ∀ xs, c = .tup xs → xs.length < 60) : D_u_law_fault a [l, s, c] h = .ok (faultS l s c) h := by
  simp only [D_u_law_fault, B_u_law_fault]
  cases q : inR l 1 64 with
  | false =>
    ((try simp -implicitDefEqProofs only [ev_fn, fin_rt, fin_nx, fin_err, ev_seq, sq_nx, sq_rt, sq_err, ev_cNil, ev_set, ev_expr, ev_rt, ev_rtN, ev_if, ev_for, ev_asg, gt_some, ev_onV, ev_onB, bd_ok, bd_err, sr_ok, sr_err, bk_bl, ik_int, of_some, ev_ret, ev_bind, ev_var, ev_C, ev_op, ev_call, ev_cb, ev_tst, ev_eTst, ev_and, ev_or, ev_not, ev_eIf, ev_bAnd, ev_bOr, ev_bNot, ev_chain, ev_nil, ev_cons, ev_tup, ev_lst, ev_new, ev_neg, ev_fld, ev_sl, ev_oNo, ev_oYes, ev_bTrue, ev_lc, ev_it, ev_rng, ev_enum, lt_int, le_int, gt_int, ge_int, add_int, sub_int, gN_ap, isNoneF, notNoneF, List.map_cons, List.map_nil, List.cons_append, List.nil_append, List.append_nil, List.length_cons, List.length_nil, List.length_map, wipeE, Nat.reduceAdd, Nat.reduceSub, Nat.reduceLeDiff, List.replicate, List.getElem?_cons_zero, List.getElem?_cons_succ, Option.join_some, Option.join_none, List.set_cons_zero, List.set_cons_succ, gc_same, decide_true, decide_false, ev_fldS, ev_put, ev_app, if_true, if_false, ite_true, ite_false, Bool.false_eq_true, Bool.not_true, Bool.not_false, reduceIte, sizeLine_eq, ev_notT, ev_tru, ev_rev, ev_srtSet, ev_fmtS, ev_joinS_nil, ev_joinS, ev_eqO, ev_strO]); repeat (simp -implicitDefEqProofs only [v_is_from a h hl, q]; (try simp -implicitDefEqProofs only [ev_fn, fin_rt, fin_nx, fin_err, ev_seq, sq_nx, sq_rt, sq_err, ev_cNil, ev_set, ev_expr, ev_rt, ev_rtN, ev_if, ev_for, ev_asg, gt_some, ev_onV, ev_onB, bd_ok, bd_err, sr_ok, sr_err, bk_bl, ik_int, of_some, ev_ret, ev_bind, ev_var, ev_C, ev_op, ev_call, ev_cb, ev_tst, ev_eTst, ev_and, ev_or, ev_not, ev_eIf, ev_bAnd, ev_bOr, ev_bNot, ev_chain, ev_nil, ev_cons, ev_tup, ev_lst, ev_new, ev_neg, ev_fld, ev_sl, ev_oNo, ev_oYes, ev_bTrue, ev_lc, ev_it, ev_rng, ev_enum, lt_int, le_int, gt_int, ge_int, add_int, sub_int, gN_ap, isNoneF, notNoneF, List.map_cons, List.map_nil, List.cons_append, List.nil_append, List.append_nil, List.length_cons, List.length_nil, List.length_map, wipeE, Nat.reduceAdd, Nat.reduceSub, Nat.reduceLeDiff, List.replicate, List.getElem?_cons_zero, List.getElem?_cons_succ, Option.join_some, Option.join_none, List.set_cons_zero, List.set_cons_succ, gc_same, decide_true, decide_false, ev_fldS, ev_put, ev_app, if_true, if_false, ite_true, ite_false, Bool.false_eq_true, Bool.not_true, Bool.not_false, reduceIte, sizeLine_eq, ev_notT, ev_tru, ev_rev, ev_srtSet, ev_fmtS, ev_joinS_nil, ev_joinS, ev_eqO, ev_strO])))
    simp [faultS, q]
  | true =>
    cases l with
    | int L =>
      cases q2 : isTp s with
      | false =>
        ((try simp -implicitDefEqProofs only [ev_fn, fin_rt, fin_nx, fin_err, ev_seq, sq_nx, sq_rt, sq_err, ev_cNil, ev_set, ev_expr, ev_rt, ev_rtN, ev_if, ev_for, ev_asg, gt_some, ev_onV, ev_onB, bd_ok, bd_err, sr_ok, sr_err, bk_bl, ik_int, of_some, ev_ret, ev_bind, ev_var, ev_C, ev_op, ev_call, ev_cb, ev_tst, ev_eTst, ev_and, ev_or, ev_not, ev_eIf, ev_bAnd, ev_bOr, ev_bNot, ev_chain, ev_nil, ev_cons, ev_tup, ev_lst, ev_new, ev_neg, ev_fld, ev_sl, ev_oNo, ev_oYes, ev_bTrue, ev_lc, ev_it, ev_rng, ev_enum, lt_int, le_int, gt_int, ge_int, add_int, sub_int, gN_ap, isNoneF, notNoneF, List.map_cons, List.map_nil, List.cons_append, List.nil_append, List.append_nil, List.length_cons, List.length_nil, List.length_map, wipeE, Nat.reduceAdd, Nat.reduceSub, Nat.reduceLeDiff, List.replicate, List.getElem?_cons_zero, List.getElem?_cons_succ, Option.join_some, Option.join_none, List.set_cons_zero, List.set_cons_succ, gc_same, decide_true, decide_false, ev_fldS, ev_put, ev_app, if_true, if_false, ite_true, ite_false, Bool.false_eq_true, Bool.not_true, Bool.not_false, reduceIte, sizeLine_eq, ev_notT, ev_tru, ev_rev, ev_srtSet, ev_fmtS, ev_joinS_nil, ev_joinS, ev_eqO, ev_strO]); repeat (simp -implicitDefEqProofs only [v_is_from a h hl, q, isi_tp h hs.1, q2]; (try simp -implicitDefEqProofs only [ev_fn, fin_rt, fin_nx, fin_err, ev_seq, sq_nx, sq_rt, sq_err, ev_cNil, ev_set, ev_expr, ev_rt, ev_rtN, ev_if, ev_for, ev_asg, gt_some, ev_onV, ev_onB, bd_ok, bd_err, sr_ok, sr_err, bk_bl, ik_int, of_some, ev_ret, ev_bind, ev_var, ev_C, ev_op, ev_call, ev_cb, ev_tst, ev_eTst, ev_and, ev_or, ev_not, ev_eIf, ev_bAnd, ev_bOr, ev_bNot, ev_chain, ev_nil, ev_cons, ev_tup, ev_lst, ev_new, ev_neg, ev_fld, ev_sl, ev_oNo, ev_oYes, ev_bTrue, ev_lc, ev_it, ev_rng, ev_enum, lt_int, le_int, gt_int, ge_int, add_int, sub_int, gN_ap, isNoneF, notNoneF, List.map_cons, List.map_nil, List.cons_append, List.nil_append, List.append_nil, List.length_cons, List.length_nil, List.length_map, wipeE, Nat.reduceAdd, Nat.reduceSub, Nat.reduceLeDiff, List.replicate, List.getElem?_cons_zero, List.getElem?_cons_succ, Option.join_some, Option.join_none, List.set_cons_zero, List.set_cons_succ, gc_same, decide_true, decide_false, ev_fldS, ev_put, ev_app, if_true, if_false, ite_true, ite_false, Bool.false_eq_true, Bool.not_true, Bool.not_false, reduceIte, sizeLine_eq, ev_notT, ev_tru, ev_rev, ev_srtSet, ev_fmtS, ev_joinS_nil, ev_joinS, ev_eqO, ev_strO])))
        cases s <;> first | (simp [isTp] at q2; done) | simp [faultS, q]
      | true =>
        cases s with
        | tup rows =>
          obtain ⟨hr, hrow⟩ := hs.2 rows rfl
          by_cases c1 : (1 : Int) ≤ (rows.length : Nat)
          · by_cases c2 : ((rows.length : Nat) : Int) ≤ 512
            · have fn := forL_find (g := gT 2 (gsC (gN 3) (gsC (gN 4) gsN))) (h := h) (body := (cSeq (cIf (bOr (bNot (eTst (eCB isiF (aCons (eVar 4) (aCons (eC (.ty "tuple")) aNil))))) (eTst (eOp (eqF true) (eCB lenF (aCons (eVar 4) aNil)) (eVar 0)))) (cRet (eTup (aCons (eC (.str "step")) (aCons (eVar 3) aNil)))) cNil)
    (cIf (eTst (eOp (eqF true) (eLc (cIt (eVar 4)) [5] (gN 5) (bNot (eTst (eCall (D_u_law_is_from a) (aCons (eVar 5) (aCons (eC (.int 0)) (aCons (eOp subI (eCB lenF (aCons (eVar 1) aNil)) (eC (.int 1))) aNil)))))) (eC (.int 1))) (eLst aNil))) (cRet (eTup (aCons (eC (.str "step")) (aCons (eVar 3) aNil)))) cNil))) (badS L rows.length) retS
                (fun e => ∃ x y, e = [some (.int L), some (.tup rows), some c, x, y, none, none]) (enumL 0 rows) (fun v e hv ⟨x, y, ee⟩ => by
                  obtain ⟨i, r, hr', rfl⟩ := enumL_mem hv
                  subst ee
                  have pr := hrow r hr'
                  refine ⟨[some (.int L), some (.tup rows), some c, some (.int i), some r, none, none], rfl, ?_⟩
                  have main : (∀ b, stepOk L rows.length r = b → (cSeq (cIf (bOr (bNot (eTst (eCB isiF (aCons (eVar 4) (aCons (eC (.ty "tuple")) aNil))))) (eTst (eOp (eqF true) (eCB lenF (aCons (eVar 4) aNil)) (eVar 0)))) (cRet (eTup (aCons (eC (.str "step")) (aCons (eVar 3) aNil)))) cNil)
    (cIf (eTst (eOp (eqF true) (eLc (cIt (eVar 4)) [5] (gN 5) (bNot (eTst (eCall (D_u_law_is_from a) (aCons (eVar 5) (aCons (eC (.int 0)) (aCons (eOp subI (eCB lenF (aCons (eVar 1) aNil)) (eC (.int 1))) aNil)))))) (eC (.int 1))) (eLst aNil))) (cRet (eTup (aCons (eC (.str "step")) (aCons (eVar 3) aNil)))) cNil)) [some (.int L), some (.tup rows), some c, some (.int i), some r, none, none] h
                    = if b = true then .nx [some (.int L), some (.tup rows), some c, some (.int i), some r, none, none] h else .rt (.tup [.str "step", .int i]) h) := by
                    intro b hb
                    subst hb
                    cases q4 : isTp r with
                    | false =>
                      ((try simp -implicitDefEqProofs only [ev_fn, fin_rt, fin_nx, fin_err, ev_seq, sq_nx, sq_rt, sq_err, ev_cNil, ev_set, ev_expr, ev_rt, ev_rtN, ev_if, ev_for, ev_asg, gt_some, ev_onV, ev_onB, bd_ok, bd_err, sr_ok, sr_err, bk_bl, ik_int, of_some, ev_ret, ev_bind, ev_var, ev_C, ev_op, ev_call, ev_cb, ev_tst, ev_eTst, ev_and, ev_or, ev_not, ev_eIf, ev_bAnd, ev_bOr, ev_bNot, ev_chain, ev_nil, ev_cons, ev_tup, ev_lst, ev_new, ev_neg, ev_fld, ev_sl, ev_oNo, ev_oYes, ev_bTrue, ev_lc, ev_it, ev_rng, ev_enum, lt_int, le_int, gt_int, ge_int, add_int, sub_int, gN_ap, isNoneF, notNoneF, List.map_cons, List.map_nil, List.cons_append, List.nil_append, List.append_nil, List.length_cons, List.length_nil, List.length_map, wipeE, Nat.reduceAdd, Nat.reduceSub, Nat.reduceLeDiff, List.replicate, List.getElem?_cons_zero, List.getElem?_cons_succ, Option.join_some, Option.join_none, List.set_cons_zero, List.set_cons_succ, gc_same, decide_true, decide_false, ev_fldS, ev_put, ev_app, if_true, if_false, ite_true, ite_false, Bool.false_eq_true, Bool.not_true, Bool.not_false, reduceIte, sizeLine_eq, ev_notT, ev_tru, ev_rev, ev_srtSet, ev_fmtS, ev_joinS_nil, ev_joinS, ev_eqO, ev_strO]); repeat (simp -implicitDefEqProofs only [isi_tp h pr.1, q4]; (try simp -implicitDefEqProofs only [ev_fn, fin_rt, fin_nx, fin_err, ev_seq, sq_nx, sq_rt, sq_err, ev_cNil, ev_set, ev_expr, ev_rt, ev_rtN, ev_if, ev_for, ev_asg, gt_some, ev_onV, ev_onB, bd_ok, bd_err, sr_ok, sr_err, bk_bl, ik_int, of_some, ev_ret, ev_bind, ev_var, ev_C, ev_op, ev_call, ev_cb, ev_tst, ev_eTst, ev_and, ev_or, ev_not, ev_eIf, ev_bAnd, ev_bOr, ev_bNot, ev_chain, ev_nil, ev_cons, ev_tup, ev_lst, ev_new, ev_neg, ev_fld, ev_sl, ev_oNo, ev_oYes, ev_bTrue, ev_lc, ev_it, ev_rng, ev_enum, lt_int, le_int, gt_int, ge_int, add_int, sub_int, gN_ap, isNoneF, notNoneF, List.map_cons, List.map_nil, List.cons_append, List.nil_append, List.append_nil, List.length_cons, List.length_nil, List.length_map, wipeE, Nat.reduceAdd, Nat.reduceSub, Nat.reduceLeDiff, List.replicate, List.getElem?_cons_zero, List.getElem?_cons_succ, Option.join_some, Option.join_none, List.set_cons_zero, List.set_cons_succ, gc_same, decide_true, decide_false, ev_fldS, ev_put, ev_app, if_true, if_false, ite_true, ite_false, Bool.false_eq_true, Bool.not_true, Bool.not_false, reduceIte, sizeLine_eq, ev_notT, ev_tru, ev_rev, ev_srtSet, ev_fmtS, ev_joinS_nil, ev_joinS, ev_eqO, ev_strO])))
                      cases r <;> first | (simp [isTp] at q4; done) | simp [stepOk]
                    | true =>
                      cases r with
                      | tup xs =>
                        have p1 := pr.2 xs rfl
                        by_cases c3 : (xs.length : Int) = L
                        · have e3 : decide ((xs.length : Int) = L) = true := decide_eq_true c3
                          have vo := v_ones a h p1 rows.length 5 (aCons (eVar 5) (aCons (eC (.int 0)) (aCons (eOp subI (eCB lenF (aCons (eVar 1) aNil)) (eC (.int 1))) aNil))) [some (.int L), some (.tup rows), some c, some (.int i), some (.tup xs), none, none] (fun s h' hs => by ((try simp -implicitDefEqProofs only [ev_fn, fin_rt, fin_nx, fin_err, ev_seq, sq_nx, sq_rt, sq_err, ev_cNil, ev_set, ev_expr, ev_rt, ev_rtN, ev_if, ev_for, ev_asg, gt_some, ev_onV, ev_onB, bd_ok, bd_err, sr_ok, sr_err, bk_bl, ik_int, of_some, ev_ret, ev_bind, ev_var, ev_C, ev_op, ev_call, ev_cb, ev_tst, ev_eTst, ev_and, ev_or, ev_not, ev_eIf, ev_bAnd, ev_bOr, ev_bNot, ev_chain, ev_nil, ev_cons, ev_tup, ev_lst, ev_new, ev_neg, ev_fld, ev_sl, ev_oNo, ev_oYes, ev_bTrue, ev_lc, ev_it, ev_rng, ev_enum, lt_int, le_int, gt_int, ge_int, add_int, sub_int, gN_ap, isNoneF, notNoneF, List.map_cons, List.map_nil, List.cons_append, List.nil_append, List.append_nil, List.length_cons, List.length_nil, List.length_map, wipeE, Nat.reduceAdd, Nat.reduceSub, Nat.reduceLeDiff, List.replicate, List.getElem?_cons_zero, List.getElem?_cons_succ, Option.join_some, Option.join_none, List.set_cons_zero, List.set_cons_succ, gc_same, decide_true, decide_false, ev_fldS, ev_put, ev_app, if_true, if_false, ite_true, ite_false, Bool.false_eq_true, Bool.not_true, Bool.not_false, reduceIte, sizeLine_eq, ev_notT, ev_tru, ev_rev, ev_srtSet, ev_fmtS, ev_joinS_nil, ev_joinS, ev_eqO, ev_strO]); repeat (simp -implicitDefEqProofs only [len_tup]; (try simp -implicitDefEqProofs only [ev_fn, fin_rt, fin_nx, fin_err, ev_seq, sq_nx, sq_rt, sq_err, ev_cNil, ev_set, ev_expr, ev_rt, ev_rtN, ev_if, ev_for, ev_asg, gt_some, ev_onV, ev_onB, bd_ok, bd_err, sr_ok, sr_err, bk_bl, ik_int, of_some, ev_ret, ev_bind, ev_var, ev_C, ev_op, ev_call, ev_cb, ev_tst, ev_eTst, ev_and, ev_or, ev_not, ev_eIf, ev_bAnd, ev_bOr, ev_bNot, ev_chain, ev_nil, ev_cons, ev_tup, ev_lst, ev_new, ev_neg, ev_fld, ev_sl, ev_oNo, ev_oYes, ev_bTrue, ev_lc, ev_it, ev_rng, ev_enum, lt_int, le_int, gt_int, ge_int, add_int, sub_int, gN_ap, isNoneF, notNoneF, List.map_cons, List.map_nil, List.cons_append, List.nil_append, List.append_nil, List.length_cons, List.length_nil, List.length_map, wipeE, Nat.reduceAdd, Nat.reduceSub, Nat.reduceLeDiff, List.replicate, List.getElem?_cons_zero, List.getElem?_cons_succ, Option.join_some, Option.join_none, List.set_cons_zero, List.set_cons_succ, gc_same, decide_true, decide_false, ev_fldS, ev_put, ev_app, if_true, if_false, ite_true, ite_false, Bool.false_eq_true, Bool.not_true, Bool.not_false, reduceIte, sizeLine_eq, ev_notT, ev_tru, ev_rev, ev_srtSet, ev_fmtS, ev_joinS_nil, ev_joinS, ev_eqO, ev_strO]))))
                          cases c4 : idx rows.length xs with
                          | true =>
                            ((try simp -implicitDefEqProofs only [ev_fn, fin_rt, fin_nx, fin_err, ev_seq, sq_nx, sq_rt, sq_err, ev_cNil, ev_set, ev_expr, ev_rt, ev_rtN, ev_if, ev_for, ev_asg, gt_some, ev_onV, ev_onB, bd_ok, bd_err, sr_ok, sr_err, bk_bl, ik_int, of_some, ev_ret, ev_bind, ev_var, ev_C, ev_op, ev_call, ev_cb, ev_tst, ev_eTst, ev_and, ev_or, ev_not, ev_eIf, ev_bAnd, ev_bOr, ev_bNot, ev_chain, ev_nil, ev_cons, ev_tup, ev_lst, ev_new, ev_neg, ev_fld, ev_sl, ev_oNo, ev_oYes, ev_bTrue, ev_lc, ev_it, ev_rng, ev_enum, lt_int, le_int, gt_int, ge_int, add_int, sub_int, gN_ap, isNoneF, notNoneF, List.map_cons, List.map_nil, List.cons_append, List.nil_append, List.append_nil, List.length_cons, List.length_nil, List.length_map, wipeE, Nat.reduceAdd, Nat.reduceSub, Nat.reduceLeDiff, List.replicate, List.getElem?_cons_zero, List.getElem?_cons_succ, Option.join_some, Option.join_none, List.set_cons_zero, List.set_cons_succ, gc_same, decide_true, decide_false, ev_fldS, ev_put, ev_app, if_true, if_false, ite_true, ite_false, Bool.false_eq_true, Bool.not_true, Bool.not_false, reduceIte, sizeLine_eq, ev_notT, ev_tru, ev_rev, ev_srtSet, ev_fmtS, ev_joinS_nil, ev_joinS, ev_eqO, ev_strO]); repeat (simp -implicitDefEqProofs only [isi_tp h pr.1, q4, len_tup, eqF_int, e3, it_tup, vo, ones_ne, c4]; (try simp -implicitDefEqProofs only [ev_fn, fin_rt, fin_nx, fin_err, ev_seq, sq_nx, sq_rt, sq_err, ev_cNil, ev_set, ev_expr, ev_rt, ev_rtN, ev_if, ev_for, ev_asg, gt_some, ev_onV, ev_onB, bd_ok, bd_err, sr_ok, sr_err, bk_bl, ik_int, of_some, ev_ret, ev_bind, ev_var, ev_C, ev_op, ev_call, ev_cb, ev_tst, ev_eTst, ev_and, ev_or, ev_not, ev_eIf, ev_bAnd, ev_bOr, ev_bNot, ev_chain, ev_nil, ev_cons, ev_tup, ev_lst, ev_new, ev_neg, ev_fld, ev_sl, ev_oNo, ev_oYes, ev_bTrue, ev_lc, ev_it, ev_rng, ev_enum, lt_int, le_int, gt_int, ge_int, add_int, sub_int, gN_ap, isNoneF, notNoneF, List.map_cons, List.map_nil, List.cons_append, List.nil_append, List.append_nil, List.length_cons, List.length_nil, List.length_map, wipeE, Nat.reduceAdd, Nat.reduceSub, Nat.reduceLeDiff, List.replicate, List.getElem?_cons_zero, List.getElem?_cons_succ, Option.join_some, Option.join_none, List.set_cons_zero, List.set_cons_succ, gc_same, decide_true, decide_false, ev_fldS, ev_put, ev_app, if_true, if_false, ite_true, ite_false, Bool.false_eq_true, Bool.not_true, Bool.not_false, reduceIte, sizeLine_eq, ev_notT, ev_tru, ev_rev, ev_srtSet, ev_fmtS, ev_joinS_nil, ev_joinS, ev_eqO, ev_strO])))
                            simp [stepOk, c3, c4]
                          | false =>
                            ((try simp -implicitDefEqProofs only [ev_fn, fin_rt, fin_nx, fin_err, ev_seq, sq_nx, sq_rt, sq_err, ev_cNil, ev_set, ev_expr, ev_rt, ev_rtN, ev_if, ev_for, ev_asg, gt_some, ev_onV, ev_onB, bd_ok, bd_err, sr_ok, sr_err, bk_bl, ik_int, of_some, ev_ret, ev_bind, ev_var, ev_C, ev_op, ev_call, ev_cb, ev_tst, ev_eTst, ev_and, ev_or, ev_not, ev_eIf, ev_bAnd, ev_bOr, ev_bNot, ev_chain, ev_nil, ev_cons, ev_tup, ev_lst, ev_new, ev_neg, ev_fld, ev_sl, ev_oNo, ev_oYes, ev_bTrue, ev_lc, ev_it, ev_rng, ev_enum, lt_int, le_int, gt_int, ge_int, add_int, sub_int, gN_ap, isNoneF, notNoneF, List.map_cons, List.map_nil, List.cons_append, List.nil_append, List.append_nil, List.length_cons, List.length_nil, List.length_map, wipeE, Nat.reduceAdd, Nat.reduceSub, Nat.reduceLeDiff, List.replicate, List.getElem?_cons_zero, List.getElem?_cons_succ, Option.join_some, Option.join_none, List.set_cons_zero, List.set_cons_succ, gc_same, decide_true, decide_false, ev_fldS, ev_put, ev_app, if_true, if_false, ite_true, ite_false, Bool.false_eq_true, Bool.not_true, Bool.not_false, reduceIte, sizeLine_eq, ev_notT, ev_tru, ev_rev, ev_srtSet, ev_fmtS, ev_joinS_nil, ev_joinS, ev_eqO, ev_strO]); repeat (simp -implicitDefEqProofs only [isi_tp h pr.1, q4, len_tup, eqF_int, e3, it_tup, vo, ones_ne, c4]; (try simp -implicitDefEqProofs only [ev_fn, fin_rt, fin_nx, fin_err, ev_seq, sq_nx, sq_rt, sq_err, ev_cNil, ev_set, ev_expr, ev_rt, ev_rtN, ev_if, ev_for, ev_asg, gt_some, ev_onV, ev_onB, bd_ok, bd_err, sr_ok, sr_err, bk_bl, ik_int, of_some, ev_ret, ev_bind, ev_var, ev_C, ev_op, ev_call, ev_cb, ev_tst, ev_eTst, ev_and, ev_or, ev_not, ev_eIf, ev_bAnd, ev_bOr, ev_bNot, ev_chain, ev_nil, ev_cons, ev_tup, ev_lst, ev_new, ev_neg, ev_fld, ev_sl, ev_oNo, ev_oYes, ev_bTrue, ev_lc, ev_it, ev_rng, ev_enum, lt_int, le_int, gt_int, ge_int, add_int, sub_int, gN_ap, isNoneF, notNoneF, List.map_cons, List.map_nil, List.cons_append, List.nil_append, List.append_nil, List.length_cons, List.length_nil, List.length_map, wipeE, Nat.reduceAdd, Nat.reduceSub, Nat.reduceLeDiff, List.replicate, List.getElem?_cons_zero, List.getElem?_cons_succ, Option.join_some, Option.join_none, List.set_cons_zero, List.set_cons_succ, gc_same, decide_true, decide_false, ev_fldS, ev_put, ev_app, if_true, if_false, ite_true, ite_false, Bool.false_eq_true, Bool.not_true, Bool.not_false, reduceIte, sizeLine_eq, ev_notT, ev_tru, ev_rev, ev_srtSet, ev_fmtS, ev_joinS_nil, ev_joinS, ev_eqO, ev_strO])))
                            simp [stepOk, c3, c4]
                        · have e3 : decide ((xs.length : Int) = L) = false := decide_eq_false c3
                          ((try simp -implicitDefEqProofs only [ev_fn, fin_rt, fin_nx, fin_err, ev_seq, sq_nx, sq_rt, sq_err, ev_cNil, ev_set, ev_expr, ev_rt, ev_rtN, ev_if, ev_for, ev_asg, gt_some, ev_onV, ev_onB, bd_ok, bd_err, sr_ok, sr_err, bk_bl, ik_int, of_some, ev_ret, ev_bind, ev_var, ev_C, ev_op, ev_call, ev_cb, ev_tst, ev_eTst, ev_and, ev_or, ev_not, ev_eIf, ev_bAnd, ev_bOr, ev_bNot, ev_chain, ev_nil, ev_cons, ev_tup, ev_lst, ev_new, ev_neg, ev_fld, ev_sl, ev_oNo, ev_oYes, ev_bTrue, ev_lc, ev_it, ev_rng, ev_enum, lt_int, le_int, gt_int, ge_int, add_int, sub_int, gN_ap, isNoneF, notNoneF, List.map_cons, List.map_nil, List.cons_append, List.nil_append, List.append_nil, List.length_cons, List.length_nil, List.length_map, wipeE, Nat.reduceAdd, Nat.reduceSub, Nat.reduceLeDiff, List.replicate, List.getElem?_cons_zero, List.getElem?_cons_succ, Option.join_some, Option.join_none, List.set_cons_zero, List.set_cons_succ, gc_same, decide_true, decide_false, ev_fldS, ev_put, ev_app, if_true, if_false, ite_true, ite_false, Bool.false_eq_true, Bool.not_true, Bool.not_false, reduceIte, sizeLine_eq, ev_notT, ev_tru, ev_rev, ev_srtSet, ev_fmtS, ev_joinS_nil, ev_joinS, ev_eqO, ev_strO]); repeat (simp -implicitDefEqProofs only [isi_tp h pr.1, q4, len_tup, eqF_int, e3]; (try simp -implicitDefEqProofs only [ev_fn, fin_rt, fin_nx, fin_err, ev_seq, sq_nx, sq_rt, sq_err, ev_cNil, ev_set, ev_expr, ev_rt, ev_rtN, ev_if, ev_for, ev_asg, gt_some, ev_onV, ev_onB, bd_ok, bd_err, sr_ok, sr_err, bk_bl, ik_int, of_some, ev_ret, ev_bind, ev_var, ev_C, ev_op, ev_call, ev_cb, ev_tst, ev_eTst, ev_and, ev_or, ev_not, ev_eIf, ev_bAnd, ev_bOr, ev_bNot, ev_chain, ev_nil, ev_cons, ev_tup, ev_lst, ev_new, ev_neg, ev_fld, ev_sl, ev_oNo, ev_oYes, ev_bTrue, ev_lc, ev_it, ev_rng, ev_enum, lt_int, le_int, gt_int, ge_int, add_int, sub_int, gN_ap, isNoneF, notNoneF, List.map_cons, List.map_nil, List.cons_append, List.nil_append, List.append_nil, List.length_cons, List.length_nil, List.length_map, wipeE, Nat.reduceAdd, Nat.reduceSub, Nat.reduceLeDiff, List.replicate, List.getElem?_cons_zero, List.getElem?_cons_succ, Option.join_some, Option.join_none, List.set_cons_zero, List.set_cons_succ, gc_same, decide_true, decide_false, ev_fldS, ev_put, ev_app, if_true, if_false, ite_true, ite_false, Bool.false_eq_true, Bool.not_true, Bool.not_false, reduceIte, sizeLine_eq, ev_notT, ev_tru, ev_rev, ev_srtSet, ev_fmtS, ev_joinS_nil, ev_joinS, ev_eqO, ev_strO])))
                          simp [stepOk, c3]
                      | _ => simp [isTp] at q4
                  refine ⟨fun b => ?_, fun b => ⟨[some (.int L), some (.tup rows), some c, some (.int i), some r, none, none], ?_, _, _, rfl⟩⟩
                  · have b' : stepOk L rows.length r = false := by simpa [badS] using b
                    rw [main _ b']; rfl
                  · have b' : stepOk L rows.length r = true := by simpa [badS] using b
                    rw [main _ b']; rfl) [some (.int L), some (.tup rows), some c, none, none, none, none] ⟨_, _, rfl⟩
              have e0 : decide ((1 : Int) ≤ (rows.length : Nat)) = true := decide_eq_true c1
              have e1 : decide (((rows.length : Nat) : Int) ≤ 512) = true := decide_eq_true c2
              have ft : faultS (.int L) (.tup rows) c = match (enumL 0 rows).find? (badS L rows.length) with
                  | some v => retS v
                  | none => if tupOk rows.length c = true then .non else .tup [.str "accepting"] := by
                unfold faultS; rw [if_pos q]; simp only; rw [if_pos (by omega)]; all_goals rfl
              rw [ft]
              cases z : (enumL 0 rows).find? (badS L rows.length) with
              | some v =>
                ((try simp -implicitDefEqProofs only [ev_fn, fin_rt, fin_nx, fin_err, ev_seq, sq_nx, sq_rt, sq_err, ev_cNil, ev_set, ev_expr, ev_rt, ev_rtN, ev_if, ev_for, ev_asg, gt_some, ev_onV, ev_onB, bd_ok, bd_err, sr_ok, sr_err, bk_bl, ik_int, of_some, ev_ret, ev_bind, ev_var, ev_C, ev_op, ev_call, ev_cb, ev_tst, ev_eTst, ev_and, ev_or, ev_not, ev_eIf, ev_bAnd, ev_bOr, ev_bNot, ev_chain, ev_nil, ev_cons, ev_tup, ev_lst, ev_new, ev_neg, ev_fld, ev_sl, ev_oNo, ev_oYes, ev_bTrue, ev_lc, ev_it, ev_rng, ev_enum, lt_int, le_int, gt_int, ge_int, add_int, sub_int, gN_ap, isNoneF, notNoneF, List.map_cons, List.map_nil, List.cons_append, List.nil_append, List.append_nil, List.length_cons, List.length_nil, List.length_map, wipeE, Nat.reduceAdd, Nat.reduceSub, Nat.reduceLeDiff, List.replicate, List.getElem?_cons_zero, List.getElem?_cons_succ, Option.join_some, Option.join_none, List.set_cons_zero, List.set_cons_succ, gc_same, decide_true, decide_false, ev_fldS, ev_put, ev_app, if_true, if_false, ite_true, ite_false, Bool.false_eq_true, Bool.not_true, Bool.not_false, reduceIte, sizeLine_eq, ev_notT, ev_tru, ev_rev, ev_srtSet, ev_fmtS, ev_joinS_nil, ev_joinS, ev_eqO, ev_strO]); repeat (simp -implicitDefEqProofs only [v_is_from a h hl, q, isi_tp h hs.1, q2, len_tup, e0, e1, seq_tup, fn.1 v z]; (try simp -implicitDefEqProofs only [ev_fn, fin_rt, fin_nx, fin_err, ev_seq, sq_nx, sq_rt, sq_err, ev_cNil, ev_set, ev_expr, ev_rt, ev_rtN, ev_if, ev_for, ev_asg, gt_some, ev_onV, ev_onB, bd_ok, bd_err, sr_ok, sr_err, bk_bl, ik_int, of_some, ev_ret, ev_bind, ev_var, ev_C, ev_op, ev_call, ev_cb, ev_tst, ev_eTst, ev_and, ev_or, ev_not, ev_eIf, ev_bAnd, ev_bOr, ev_bNot, ev_chain, ev_nil, ev_cons, ev_tup, ev_lst, ev_new, ev_neg, ev_fld, ev_sl, ev_oNo, ev_oYes, ev_bTrue, ev_lc, ev_it, ev_rng, ev_enum, lt_int, le_int, gt_int, ge_int, add_int, sub_int, gN_ap, isNoneF, notNoneF, List.map_cons, List.map_nil, List.cons_append, List.nil_append, List.append_nil, List.length_cons, List.length_nil, List.length_map, wipeE, Nat.reduceAdd, Nat.reduceSub, Nat.reduceLeDiff, List.replicate, List.getElem?_cons_zero, List.getElem?_cons_succ, Option.join_some, Option.join_none, List.set_cons_zero, List.set_cons_succ, gc_same, decide_true, decide_false, ev_fldS, ev_put, ev_app, if_true, if_false, ite_true, ite_false, Bool.false_eq_true, Bool.not_true, Bool.not_false, reduceIte, sizeLine_eq, ev_notT, ev_tru, ev_rev, ev_srtSet, ev_fmtS, ev_joinS_nil, ev_joinS, ev_eqO, ev_strO])))
              | none =>
                obtain ⟨e', q3, x, y, rfl⟩ := fn.2 z
                cases q5 : isTp c with
                | false =>
                  ((try simp -implicitDefEqProofs only [ev_fn, fin_rt, fin_nx, fin_err, ev_seq, sq_nx, sq_rt, sq_err, ev_cNil, ev_set, ev_expr, ev_rt, ev_rtN, ev_if, ev_for, ev_asg, gt_some, ev_onV, ev_onB, bd_ok, bd_err, sr_ok, sr_err, bk_bl, ik_int, of_some, ev_ret, ev_bind, ev_var, ev_C, ev_op, ev_call, ev_cb, ev_tst, ev_eTst, ev_and, ev_or, ev_not, ev_eIf, ev_bAnd, ev_bOr, ev_bNot, ev_chain, ev_nil, ev_cons, ev_tup, ev_lst, ev_new, ev_neg, ev_fld, ev_sl, ev_oNo, ev_oYes, ev_bTrue, ev_lc, ev_it, ev_rng, ev_enum, lt_int, le_int, gt_int, ge_int, add_int, sub_int, gN_ap, isNoneF, notNoneF, List.map_cons, List.map_nil, List.cons_append, List.nil_append, List.append_nil, List.length_cons, List.length_nil, List.length_map, wipeE, Nat.reduceAdd, Nat.reduceSub, Nat.reduceLeDiff, List.replicate, List.getElem?_cons_zero, List.getElem?_cons_succ, Option.join_some, Option.join_none, List.set_cons_zero, List.set_cons_succ, gc_same, decide_true, decide_false, ev_fldS, ev_put, ev_app, if_true, if_false, ite_true, ite_false, Bool.false_eq_true, Bool.not_true, Bool.not_false, reduceIte, sizeLine_eq, ev_notT, ev_tru, ev_rev, ev_srtSet, ev_fmtS, ev_joinS_nil, ev_joinS, ev_eqO, ev_strO]); repeat (simp -implicitDefEqProofs only [v_is_from a h hl, q, isi_tp h hs.1, q2, len_tup, e0, e1, seq_tup, q3, isi_tp h hc.1, q5]; (try simp -implicitDefEqProofs only [ev_fn, fin_rt, fin_nx, fin_err, ev_seq, sq_nx, sq_rt, sq_err, ev_cNil, ev_set, ev_expr, ev_rt, ev_rtN, ev_if, ev_for, ev_asg, gt_some, ev_onV, ev_onB, bd_ok, bd_err, sr_ok, sr_err, bk_bl, ik_int, of_some, ev_ret, ev_bind, ev_var, ev_C, ev_op, ev_call, ev_cb, ev_tst, ev_eTst, ev_and, ev_or, ev_not, ev_eIf, ev_bAnd, ev_bOr, ev_bNot, ev_chain, ev_nil, ev_cons, ev_tup, ev_lst, ev_new, ev_neg, ev_fld, ev_sl, ev_oNo, ev_oYes, ev_bTrue, ev_lc, ev_it, ev_rng, ev_enum, lt_int, le_int, gt_int, ge_int, add_int, sub_int, gN_ap, isNoneF, notNoneF, List.map_cons, List.map_nil, List.cons_append, List.nil_append, List.append_nil, List.length_cons, List.length_nil, List.length_map, wipeE, Nat.reduceAdd, Nat.reduceSub, Nat.reduceLeDiff, List.replicate, List.getElem?_cons_zero, List.getElem?_cons_succ, Option.join_some, Option.join_none, List.set_cons_zero, List.set_cons_succ, gc_same, decide_true, decide_false, ev_fldS, ev_put, ev_app, if_true, if_false, ite_true, ite_false, Bool.false_eq_true, Bool.not_true, Bool.not_false, reduceIte, sizeLine_eq, ev_notT, ev_tru, ev_rev, ev_srtSet, ev_fmtS, ev_joinS_nil, ev_joinS, ev_eqO, ev_strO])))
                  cases c <;> first | (simp [isTp] at q5; done) | simp [tupOk]
                | true =>
                  cases c with
                  | tup xs =>
                    have p1 := hc.2 xs rfl
                    have vo := v_ones a h p1 rows.length 6 (aCons (eVar 6) (aCons (eC (.int 0)) (aCons (eOp subI (eCB lenF (aCons (eVar 1) aNil)) (eC (.int 1))) aNil))) [some (.int L), some (.tup rows), some (.tup xs), x, y, none, none] (fun s h' hs => by ((try simp -implicitDefEqProofs only [ev_fn, fin_rt, fin_nx, fin_err, ev_seq, sq_nx, sq_rt, sq_err, ev_cNil, ev_set, ev_expr, ev_rt, ev_rtN, ev_if, ev_for, ev_asg, gt_some, ev_onV, ev_onB, bd_ok, bd_err, sr_ok, sr_err, bk_bl, ik_int, of_some, ev_ret, ev_bind, ev_var, ev_C, ev_op, ev_call, ev_cb, ev_tst, ev_eTst, ev_and, ev_or, ev_not, ev_eIf, ev_bAnd, ev_bOr, ev_bNot, ev_chain, ev_nil, ev_cons, ev_tup, ev_lst, ev_new, ev_neg, ev_fld, ev_sl, ev_oNo, ev_oYes, ev_bTrue, ev_lc, ev_it, ev_rng, ev_enum, lt_int, le_int, gt_int, ge_int, add_int, sub_int, gN_ap, isNoneF, notNoneF, List.map_cons, List.map_nil, List.cons_append, List.nil_append, List.append_nil, List.length_cons, List.length_nil, List.length_map, wipeE, Nat.reduceAdd, Nat.reduceSub, Nat.reduceLeDiff, List.replicate, List.getElem?_cons_zero, List.getElem?_cons_succ, Option.join_some, Option.join_none, List.set_cons_zero, List.set_cons_succ, gc_same, decide_true, decide_false, ev_fldS, ev_put, ev_app, if_true, if_false, ite_true, ite_false, Bool.false_eq_true, Bool.not_true, Bool.not_false, reduceIte, sizeLine_eq, ev_notT, ev_tru, ev_rev, ev_srtSet, ev_fmtS, ev_joinS_nil, ev_joinS, ev_eqO, ev_strO]); repeat (simp -implicitDefEqProofs only [len_tup]; (try simp -implicitDefEqProofs only [ev_fn, fin_rt, fin_nx, fin_err, ev_seq, sq_nx, sq_rt, sq_err, ev_cNil, ev_set, ev_expr, ev_rt, ev_rtN, ev_if, ev_for, ev_asg, gt_some, ev_onV, ev_onB, bd_ok, bd_err, sr_ok, sr_err, bk_bl, ik_int, of_some, ev_ret, ev_bind, ev_var, ev_C, ev_op, ev_call, ev_cb, ev_tst, ev_eTst, ev_and, ev_or, ev_not, ev_eIf, ev_bAnd, ev_bOr, ev_bNot, ev_chain, ev_nil, ev_cons, ev_tup, ev_lst, ev_new, ev_neg, ev_fld, ev_sl, ev_oNo, ev_oYes, ev_bTrue, ev_lc, ev_it, ev_rng, ev_enum, lt_int, le_int, gt_int, ge_int, add_int, sub_int, gN_ap, isNoneF, notNoneF, List.map_cons, List.map_nil, List.cons_append, List.nil_append, List.append_nil, List.length_cons, List.length_nil, List.length_map, wipeE, Nat.reduceAdd, Nat.reduceSub, Nat.reduceLeDiff, List.replicate, List.getElem?_cons_zero, List.getElem?_cons_succ, Option.join_some, Option.join_none, List.set_cons_zero, List.set_cons_succ, gc_same, decide_true, decide_false, ev_fldS, ev_put, ev_app, if_true, if_false, ite_true, ite_false, Bool.false_eq_true, Bool.not_true, Bool.not_false, reduceIte, sizeLine_eq, ev_notT, ev_tru, ev_rev, ev_srtSet, ev_fmtS, ev_joinS_nil, ev_joinS, ev_eqO, ev_strO]))))
                    cases c4 : idx rows.length xs with
                    | false =>
                      ((try simp -implicitDefEqProofs only [ev_fn, fin_rt, fin_nx, fin_err, ev_seq, sq_nx, sq_rt, sq_err, ev_cNil, ev_set, ev_expr, ev_rt, ev_rtN, ev_if, ev_for, ev_asg, gt_some, ev_onV, ev_onB, bd_ok, bd_err, sr_ok, sr_err, bk_bl, ik_int, of_some, ev_ret, ev_bind, ev_var, ev_C, ev_op, ev_call, ev_cb, ev_tst, ev_eTst, ev_and, ev_or, ev_not, ev_eIf, ev_bAnd, ev_bOr, ev_bNot, ev_chain, ev_nil, ev_cons, ev_tup, ev_lst, ev_new, ev_neg, ev_fld, ev_sl, ev_oNo, ev_oYes, ev_bTrue, ev_lc, ev_it, ev_rng, ev_enum, lt_int, le_int, gt_int, ge_int, add_int, sub_int, gN_ap, isNoneF, notNoneF, List.map_cons, List.map_nil, List.cons_append, List.nil_append, List.append_nil, List.length_cons, List.length_nil, List.length_map, wipeE, Nat.reduceAdd, Nat.reduceSub, Nat.reduceLeDiff, List.replicate, List.getElem?_cons_zero, List.getElem?_cons_succ, Option.join_some, Option.join_none, List.set_cons_zero, List.set_cons_succ, gc_same, decide_true, decide_false, ev_fldS, ev_put, ev_app, if_true, if_false, ite_true, ite_false, Bool.false_eq_true, Bool.not_true, Bool.not_false, reduceIte, sizeLine_eq, ev_notT, ev_tru, ev_rev, ev_srtSet, ev_fmtS, ev_joinS_nil, ev_joinS, ev_eqO, ev_strO]); repeat (simp -implicitDefEqProofs only [v_is_from a h hl, q, isi_tp h hs.1, q2, len_tup, e0, e1, seq_tup, q3, isi_tp h hc.1, q5, it_tup, vo, ones_ne, c4]; (try simp -implicitDefEqProofs only [ev_fn, fin_rt, fin_nx, fin_err, ev_seq, sq_nx, sq_rt, sq_err, ev_cNil, ev_set, ev_expr, ev_rt, ev_rtN, ev_if, ev_for, ev_asg, gt_some, ev_onV, ev_onB, bd_ok, bd_err, sr_ok, sr_err, bk_bl, ik_int, of_some, ev_ret, ev_bind, ev_var, ev_C, ev_op, ev_call, ev_cb, ev_tst, ev_eTst, ev_and, ev_or, ev_not, ev_eIf, ev_bAnd, ev_bOr, ev_bNot, ev_chain, ev_nil, ev_cons, ev_tup, ev_lst, ev_new, ev_neg, ev_fld, ev_sl, ev_oNo, ev_oYes, ev_bTrue, ev_lc, ev_it, ev_rng, ev_enum, lt_int, le_int, gt_int, ge_int, add_int, sub_int, gN_ap, isNoneF, notNoneF, List.map_cons, List.map_nil, List.cons_append, List.nil_append, List.append_nil, List.length_cons, List.length_nil, List.length_map, wipeE, Nat.reduceAdd, Nat.reduceSub, Nat.reduceLeDiff, List.replicate, List.getElem?_cons_zero, List.getElem?_cons_succ, Option.join_some, Option.join_none, List.set_cons_zero, List.set_cons_succ, gc_same, decide_true, decide_false, ev_fldS, ev_put, ev_app, if_true, if_false, ite_true, ite_false, Bool.false_eq_true, Bool.not_true, Bool.not_false, reduceIte, sizeLine_eq, ev_notT, ev_tru, ev_rev, ev_srtSet, ev_fmtS, ev_joinS_nil, ev_joinS, ev_eqO, ev_strO])))
                      simp [tupOk, c4]
                    | true =>
                      obtain ⟨ns, rfl⟩ := ints_all (idx_all c4)
                      have hl60 := hc2 _ rfl
                      rw [List.length_map] at hl60
                      have t1 : tupInts (.tup (ns.map SV.int)) = some ns := by simp [tupInts, intsOf_map, hl60]
                      have l1 : listF [.tup (ns.map SV.int)] h = some (.rls (ns.map SV.int)) := rfl
                      ((try simp -implicitDefEqProofs only [ev_fn, fin_rt, fin_nx, fin_err, ev_seq, sq_nx, sq_rt, sq_err, ev_cNil, ev_set, ev_expr, ev_rt, ev_rtN, ev_if, ev_for, ev_asg, gt_some, ev_onV, ev_onB, bd_ok, bd_err, sr_ok, sr_err, bk_bl, ik_int, of_some, ev_ret, ev_bind, ev_var, ev_C, ev_op, ev_call, ev_cb, ev_tst, ev_eTst, ev_and, ev_or, ev_not, ev_eIf, ev_bAnd, ev_bOr, ev_bNot, ev_chain, ev_nil, ev_cons, ev_tup, ev_lst, ev_new, ev_neg, ev_fld, ev_sl, ev_oNo, ev_oYes, ev_bTrue, ev_lc, ev_it, ev_rng, ev_enum, lt_int, le_int, gt_int, ge_int, add_int, sub_int, gN_ap, isNoneF, notNoneF, List.map_cons, List.map_nil, List.cons_append, List.nil_append, List.append_nil, List.length_cons, List.length_nil, List.length_map, wipeE, Nat.reduceAdd, Nat.reduceSub, Nat.reduceLeDiff, List.replicate, List.getElem?_cons_zero, List.getElem?_cons_succ, Option.join_some, Option.join_none, List.set_cons_zero, List.set_cons_succ, gc_same, decide_true, decide_false, ev_fldS, ev_put, ev_app, if_true, if_false, ite_true, ite_false, Bool.false_eq_true, Bool.not_true, Bool.not_false, reduceIte, sizeLine_eq, ev_notT, ev_tru, ev_rev, ev_srtSet, ev_fmtS, ev_joinS_nil, ev_joinS, ev_eqO, ev_strO]); repeat (simp -implicitDefEqProofs only [v_is_from a h hl, q, isi_tp h hs.1, q2, len_tup, e0, e1, seq_tup, q3, isi_tp h hc.1, q5, it_tup, vo, ones_ne, c4, l1, t1, Option.map_some, eqF_rlsI, asc_set]; (try simp -implicitDefEqProofs only [ev_fn, fin_rt, fin_nx, fin_err, ev_seq, sq_nx, sq_rt, sq_err, ev_cNil, ev_set, ev_expr, ev_rt, ev_rtN, ev_if, ev_for, ev_asg, gt_some, ev_onV, ev_onB, bd_ok, bd_err, sr_ok, sr_err, bk_bl, ik_int, of_some, ev_ret, ev_bind, ev_var, ev_C, ev_op, ev_call, ev_cb, ev_tst, ev_eTst, ev_and, ev_or, ev_not, ev_eIf, ev_bAnd, ev_bOr, ev_bNot, ev_chain, ev_nil, ev_cons, ev_tup, ev_lst, ev_new, ev_neg, ev_fld, ev_sl, ev_oNo, ev_oYes, ev_bTrue, ev_lc, ev_it, ev_rng, ev_enum, lt_int, le_int, gt_int, ge_int, add_int, sub_int, gN_ap, isNoneF, notNoneF, List.map_cons, List.map_nil, List.cons_append, List.nil_append, List.append_nil, List.length_cons, List.length_nil, List.length_map, wipeE, Nat.reduceAdd, Nat.reduceSub, Nat.reduceLeDiff, List.replicate, List.getElem?_cons_zero, List.getElem?_cons_succ, Option.join_some, Option.join_none, List.set_cons_zero, List.set_cons_succ, gc_same, decide_true, decide_false, ev_fldS, ev_put, ev_app, if_true, if_false, ite_true, ite_false, Bool.false_eq_true, Bool.not_true, Bool.not_false, reduceIte, sizeLine_eq, ev_notT, ev_tru, ev_rev, ev_srtSet, ev_fmtS, ev_joinS_nil, ev_joinS, ev_eqO, ev_strO])))
                      cases w : ascI ns with
                      | true =>
                        (try simp -implicitDefEqProofs only [ev_fn, fin_rt, fin_nx, fin_err, ev_seq, sq_nx, sq_rt, sq_err, ev_cNil, ev_set, ev_expr, ev_rt, ev_rtN, ev_if, ev_for, ev_asg, gt_some, ev_onV, ev_onB, bd_ok, bd_err, sr_ok, sr_err, bk_bl, ik_int, of_some, ev_ret, ev_bind, ev_var, ev_C, ev_op, ev_call, ev_cb, ev_tst, ev_eTst, ev_and, ev_or, ev_not, ev_eIf, ev_bAnd, ev_bOr, ev_bNot, ev_chain, ev_nil, ev_cons, ev_tup, ev_lst, ev_new, ev_neg, ev_fld, ev_sl, ev_oNo, ev_oYes, ev_bTrue, ev_lc, ev_it, ev_rng, ev_enum, lt_int, le_int, gt_int, ge_int, add_int, sub_int, gN_ap, isNoneF, notNoneF, List.map_cons, List.map_nil, List.cons_append, List.nil_append, List.append_nil, List.length_cons, List.length_nil, List.length_map, wipeE, Nat.reduceAdd, Nat.reduceSub, Nat.reduceLeDiff, List.replicate, List.getElem?_cons_zero, List.getElem?_cons_succ, Option.join_some, Option.join_none, List.set_cons_zero, List.set_cons_succ, gc_same, decide_true, decide_false, ev_fldS, ev_put, ev_app, if_true, if_false, ite_true, ite_false, Bool.false_eq_true, Bool.not_true, Bool.not_false, reduceIte, sizeLine_eq, ev_notT, ev_tru, ev_rev, ev_srtSet, ev_fmtS, ev_joinS_nil, ev_joinS, ev_eqO, ev_strO])
                        simp [tupOk, c4, ascS, intsOf_map, w]
                      | false =>
                        (try simp -implicitDefEqProofs only [ev_fn, fin_rt, fin_nx, fin_err, ev_seq, sq_nx, sq_rt, sq_err, ev_cNil, ev_set, ev_expr, ev_rt, ev_rtN, ev_if, ev_for, ev_asg, gt_some, ev_onV, ev_onB, bd_ok, bd_err, sr_ok, sr_err, bk_bl, ik_int, of_some, ev_ret, ev_bind, ev_var, ev_C, ev_op, ev_call, ev_cb, ev_tst, ev_eTst, ev_and, ev_or, ev_not, ev_eIf, ev_bAnd, ev_bOr, ev_bNot, ev_chain, ev_nil, ev_cons, ev_tup, ev_lst, ev_new, ev_neg, ev_fld, ev_sl, ev_oNo, ev_oYes, ev_bTrue, ev_lc, ev_it, ev_rng, ev_enum, lt_int, le_int, gt_int, ge_int, add_int, sub_int, gN_ap, isNoneF, notNoneF, List.map_cons, List.map_nil, List.cons_append, List.nil_append, List.append_nil, List.length_cons, List.length_nil, List.length_map, wipeE, Nat.reduceAdd, Nat.reduceSub, Nat.reduceLeDiff, List.replicate, List.getElem?_cons_zero, List.getElem?_cons_succ, Option.join_some, Option.join_none, List.set_cons_zero, List.set_cons_succ, gc_same, decide_true, decide_false, ev_fldS, ev_put, ev_app, if_true, if_false, ite_true, ite_false, Bool.false_eq_true, Bool.not_true, Bool.not_false, reduceIte, sizeLine_eq, ev_notT, ev_tru, ev_rev, ev_srtSet, ev_fmtS, ev_joinS_nil, ev_joinS, ev_eqO, ev_strO])
                        simp [tupOk, c4, ascS, intsOf_map, w]
                  | _ => simp [isTp] at q5
            · have e0 : decide ((1 : Int) ≤ (rows.length : Nat)) = true := decide_eq_true c1
              have e1 : decide (((rows.length : Nat) : Int) ≤ 512) = false := decide_eq_false c2
              ((try simp -implicitDefEqProofs only [ev_fn, fin_rt, fin_nx, fin_err, ev_seq, sq_nx, sq_rt, sq_err, ev_cNil, ev_set, ev_expr, ev_rt, ev_rtN, ev_if, ev_for, ev_asg, gt_some, ev_onV, ev_onB, bd_ok, bd_err, sr_ok, sr_err, bk_bl, ik_int, of_some, ev_ret, ev_bind, ev_var, ev_C, ev_op, ev_call, ev_cb, ev_tst, ev_eTst, ev_and, ev_or, ev_not, ev_eIf, ev_bAnd, ev_bOr, ev_bNot, ev_chain, ev_nil, ev_cons, ev_tup, ev_lst, ev_new, ev_neg, ev_fld, ev_sl, ev_oNo, ev_oYes, ev_bTrue, ev_lc, ev_it, ev_rng, ev_enum, lt_int, le_int, gt_int, ge_int, add_int, sub_int, gN_ap, isNoneF, notNoneF, List.map_cons, List.map_nil, List.cons_append, List.nil_append, List.append_nil, List.length_cons, List.length_nil, List.length_map, wipeE, Nat.reduceAdd, Nat.reduceSub, Nat.reduceLeDiff, List.replicate, List.getElem?_cons_zero, List.getElem?_cons_succ, Option.join_some, Option.join_none, List.set_cons_zero, List.set_cons_succ, gc_same, decide_true, decide_false, ev_fldS, ev_put, ev_app, if_true, if_false, ite_true, ite_false, Bool.false_eq_true, Bool.not_true, Bool.not_false, reduceIte, sizeLine_eq, ev_notT, ev_tru, ev_rev, ev_srtSet, ev_fmtS, ev_joinS_nil, ev_joinS, ev_eqO, ev_strO]); repeat (simp -implicitDefEqProofs only [v_is_from a h hl, q, isi_tp h hs.1, q2, len_tup, e0, e1]; (try simp -implicitDefEqProofs only [ev_fn, fin_rt, fin_nx, fin_err, ev_seq, sq_nx, sq_rt, sq_err, ev_cNil, ev_set, ev_expr, ev_rt, ev_rtN, ev_if, ev_for, ev_asg, gt_some, ev_onV, ev_onB, bd_ok, bd_err, sr_ok, sr_err, bk_bl, ik_int, of_some, ev_ret, ev_bind, ev_var, ev_C, ev_op, ev_call, ev_cb, ev_tst, ev_eTst, ev_and, ev_or, ev_not, ev_eIf, ev_bAnd, ev_bOr, ev_bNot, ev_chain, ev_nil, ev_cons, ev_tup, ev_lst, ev_new, ev_neg, ev_fld, ev_sl, ev_oNo, ev_oYes, ev_bTrue, ev_lc, ev_it, ev_rng, ev_enum, lt_int, le_int, gt_int, ge_int, add_int, sub_int, gN_ap, isNoneF, notNoneF, List.map_cons, List.map_nil, List.cons_append, List.nil_append, List.append_nil, List.length_cons, List.length_nil, List.length_map, wipeE, Nat.reduceAdd, Nat.reduceSub, Nat.reduceLeDiff, List.replicate, List.getElem?_cons_zero, List.getElem?_cons_succ, Option.join_some, Option.join_none, List.set_cons_zero, List.set_cons_succ, gc_same, decide_true, decide_false, ev_fldS, ev_put, ev_app, if_true, if_false, ite_true, ite_false, Bool.false_eq_true, Bool.not_true, Bool.not_false, reduceIte, sizeLine_eq, ev_notT, ev_tru, ev_rev, ev_srtSet, ev_fmtS, ev_joinS_nil, ev_joinS, ev_eqO, ev_strO])))
              unfold faultS; rw [if_pos q]; simp only; rw [if_neg (by omega)]
          · have e0 : decide ((1 : Int) ≤ (rows.length : Nat)) = false := decide_eq_false c1
            ((try simp -implicitDefEqProofs only [ev_fn, fin_rt, fin_nx, fin_err, ev_seq, sq_nx, sq_rt, sq_err, ev_cNil, ev_set, ev_expr, ev_rt, ev_rtN, ev_if, ev_for, ev_asg, gt_some, ev_onV, ev_onB, bd_ok, bd_err, sr_ok, sr_err, bk_bl, ik_int, of_some, ev_ret, ev_bind, ev_var, ev_C, ev_op, ev_call, ev_cb, ev_tst, ev_eTst, ev_and, ev_or, ev_not, ev_eIf, ev_bAnd, ev_bOr, ev_bNot, ev_chain, ev_nil, ev_cons, ev_tup, ev_lst, ev_new, ev_neg, ev_fld, ev_sl, ev_oNo, ev_oYes, ev_bTrue, ev_lc, ev_it, ev_rng, ev_enum, lt_int, le_int, gt_int, ge_int, add_int, sub_int, gN_ap, isNoneF, notNoneF, List.map_cons, List.map_nil, List.cons_append, List.nil_append, List.append_nil, List.length_cons, List.length_nil, List.length_map, wipeE, Nat.reduceAdd, Nat.reduceSub, Nat.reduceLeDiff, List.replicate, List.getElem?_cons_zero, List.getElem?_cons_succ, Option.join_some, Option.join_none, List.set_cons_zero, List.set_cons_succ, gc_same, decide_true, decide_false, ev_fldS, ev_put, ev_app, if_true, if_false, ite_true, ite_false, Bool.false_eq_true, Bool.not_true, Bool.not_false, reduceIte, sizeLine_eq, ev_notT, ev_tru, ev_rev, ev_srtSet, ev_fmtS, ev_joinS_nil, ev_joinS, ev_eqO, ev_strO]); repeat (simp -implicitDefEqProofs only [v_is_from a h hl, q, isi_tp h hs.1, q2, len_tup, e0]; (try simp -implicitDefEqProofs only [ev_fn, fin_rt, fin_nx, fin_err, ev_seq, sq_nx, sq_rt, sq_err, ev_cNil, ev_set, ev_expr, ev_rt, ev_rtN, ev_if, ev_for, ev_asg, gt_some, ev_onV, ev_onB, bd_ok, bd_err, sr_ok, sr_err, bk_bl, ik_int, of_some, ev_ret, ev_bind, ev_var, ev_C, ev_op, ev_call, ev_cb, ev_tst, ev_eTst, ev_and, ev_or, ev_not, ev_eIf, ev_bAnd, ev_bOr, ev_bNot, ev_chain, ev_nil, ev_cons, ev_tup, ev_lst, ev_new, ev_neg, ev_fld, ev_sl, ev_oNo, ev_oYes, ev_bTrue, ev_lc, ev_it, ev_rng, ev_enum, lt_int, le_int, gt_int, ge_int, add_int, sub_int, gN_ap, isNoneF, notNoneF, List.map_cons, List.map_nil, List.cons_append, List.nil_append, List.append_nil, List.length_cons, List.length_nil, List.length_map, wipeE, Nat.reduceAdd, Nat.reduceSub, Nat.reduceLeDiff, List.replicate, List.getElem?_cons_zero, List.getElem?_cons_succ, Option.join_some, Option.join_none, List.set_cons_zero, List.set_cons_succ, gc_same, decide_true, decide_false, ev_fldS, ev_put, ev_app, if_true, if_false, ite_true, ite_false, Bool.false_eq_true, Bool.not_true, Bool.not_false, reduceIte, sizeLine_eq, ev_notT, ev_tru, ev_rev, ev_srtSet, ev_fmtS, ev_joinS_nil, ev_joinS, ev_eqO, ev_strO])))
            unfold faultS; rw [if_pos q]; simp only; rw [if_neg (by omega)]
        | _ => simp [isTp] at q2
    | _ => simp [inR] at q
end My

set_option Elab.async false
set_option linter.all false
set_option maxRecDepth 100000
set_option maxHeartbeats 4000000
namespace My
open PySem L2 Sim
variable (a : Ads) (h : SHp)
theorem enumL_mem2 : ∀ {xs : List SV} {n : Nat} {v : SV}, v ∈ enumL n xs → ∃ i : Nat, i < n + xs.length ∧ ∃ x ∈ xs, v = .tup [.int i, x]
  | [], _, _, hv => by simp [enumL] at hv
  | x :: xs, n, v, hv => by
    simp only [enumL, List.mem_cons] at hv
    rcases hv with rfl | hv
    · exact ⟨n, by simp, x, by simp, rfl⟩
    · obtain ⟨i, hi, y, hy, e⟩ := enumL_mem2 hv
      exact ⟨i, by simp at hi ⊢; omega, y, by simp [hy], e⟩
theorem log_small {i : Nat} (hi : i < 2000) : ((i : Int)).natAbs.log2 < 1920 := by
  by_cases c : i = 0
  · subst c; decide
  · have : i < 2 ^ 1920 := Nat.lt_of_lt_of_le hi (by decide)
    exact (Nat.log2_lt c).mpr this
/-- what a fault is: nothing, a word, or a word and a place -/
inductive FaultIs : SV → Prop where
  | non : FaultIs .non
  | one (w : Str) (hw : w = "letters" ∨ w = "steps" ∨ w = "accepting") : FaultIs (.tup [.str w])
  | two (i : Nat) (hi : i < 2000) : FaultIs (.tup [.str "step", .int i])
theorem fault_is {l s c : SV} (hs : P3 s) : FaultIs (faultS l s c) := by
  unfold faultS
  split
  · split
    · rename_i L rows _
      split
      · split
        · rename_i v q
          obtain ⟨i, hi, x, hx, rfl⟩ := enumL_mem2 (List.mem_of_find?_eq_some q)
          have := (hs.2 rows rfl).1
          exact .two i (by omega)
        · split
          · exact .non
          · exact .one _ (by simp)
      · exact .one _ (by simp)
    · exact .one _ (by simp)
  · exact .one _ (by simp)
theorem isn_no {v : SV} {b : Bool} : isF b v .non h = some (.bl (if b then !decide (v = .non) else decide (v = .non))) := by
  cases b <;> cases v <;> rfl
theorem fmt_one {w : Str} (hw : w = "letters" ∨ w = "steps" ∨ w = "accepting") : ∃ n, fmtN (.tup [.str w]) = some n ∧ n ≤ 5000 := by
  have : (reprText w).length ≤ 100 := by rcases hw with rfl | rfl | rfl <;> decide +kernel
  refine ⟨9 + ((reprText w).length + 2), ?_, by omega⟩
  simp only [fmtN, fmtC, Option.map_some, Option.bind_some]
  rw [if_pos (by rw [sizeLine_eq]; omega)]
theorem fmt_two {i : Nat} (hi : i < 2000) : ∃ n, fmtN (.tup [.str "step", .int i]) = some n ∧ n ≤ 5000 := by
  have : (reprText (Str.ofString "step")).length ≤ 100 := by decide +kernel
  refine ⟨9 + 1930 + ((reprText (Str.ofString "step")).length + 2), ?_, by omega⟩
  simp only [fmtN, fmtC, if_pos (log_small hi), Option.map_some, Option.bind_some]
  rw [if_pos (by rw [sizeLine_eq]; omega)]
theorem fault_fmt {v : SV} (hv : FaultIs v) (hn : v ≠ .non) : ∃ n, fmtN v = some n ∧ n ≤ 5000 := by
  cases hv with
  | non => exact (hn rfl).elim
  | one w hw => exact fmt_one hw
  | two i hi => exact fmt_two hi
theorem msg_len : (Str.ofString "a reader with the fault ").length ≤ 100 := by decide +kernel
/-! nested data -/
abbrev tI (ns : List Int) : SV := .tup (ns.map .int)
abbrev tR' (rs : List (List Int)) : SV := .tup (rs.map tI)
def D1 (ns : List Int) : PyData := .tuple (ns.map .int)
theorem data_ints (ns : List Int) : dataV (tI ns) = some (D1 ns) := by simp [dataV, dataL_ints, D1]
theorem dataL_rows : ∀ rs : List (List Int), dataL (rs.map tI) = some (rs.map D1)
  | [] => rfl
  | r :: rs => by simp [dataL, data_ints, dataL_rows rs]
theorem data_rows (rs : List (List Int)) : dataV (tR' rs) = some (.tuple (rs.map D1)) := by simp [dataV, dataL_rows]
theorem lay_rows : ∀ rs : List (List Int), PyData.canLayAll0 (rs.map D1) = true
  | [] => rfl
  | r :: rs => by simp [PyData.canLayAll0, PyData.canLay0, lay_rows rs, D1, lay_ints]
theorem dep_rows : ∀ rs : List (List Int), PyData.depthAll (rs.map D1) ≤ 2
  | [] => by simp [PyData.depthAll]
  | r :: rs => by
    have := dep_rows rs
    have := dep_ints r
    simp only [List.map_cons, PyData.depthAll, PyData.depth, D1]; omega
theorem shp_rows (rs : List (List Int)) : SeqAt.shaped (.tuple (rs.map D1)) = true := by
  have := dep_rows rs
  simp [SeqAt.shaped, PyData.canLay0, lay_rows, PyData.depth]; omega
theorem shp_D1 (ns : List Int) : SeqAt.shaped (D1 ns) = true := shp_tupI ns
theorem shp_4 (L n : Int) (rs : List (List Int)) (ns : List Int) : SeqAt.shaped (.tuple [.int L, .tuple (rs.map D1), D1 ns, .int n]) = true := by
  have := dep_rows rs
  have := dep_ints ns
  simp [SeqAt.shaped, PyData.canLay0, PyData.canLayAll0, lay_rows, PyData.depth, PyData.depthAll, D1, lay_ints]; omega
theorem shp_3 (L : Int) (rs : List (List Int)) (ns : List Int) : SeqAt.shaped (.tuple [.int L, .tuple (rs.map D1), D1 ns]) = true := by
  have := dep_rows rs
  have := dep_ints ns
  simp [SeqAt.shaped, PyData.canLay0, PyData.canLayAll0, lay_rows, PyData.depth, PyData.depthAll, D1, lay_ints]; omega
theorem eqF_of {v w : SV} {d e : PyData} (b : Bool) (hv : dataT v h = some d) (hw : dataT w h = some e) (sd : SeqAt.shaped d = true) (se : SeqAt.shaped e = true) : eqF b v w h = some (.bl (if b then !PyData.eqv d e else PyData.eqv d e)) := by
  simp only [eqF, hv, hw]
  rw [if_pos ⟨sd, se⟩]
theorem eqF_self {v : SV} {d : PyData} (b : Bool) (hv : dataT v h = some d) (sd : SeqAt.shaped d = true) : eqF b v v h = some (.bl (!b)) := by
  rw [eqF_of h b hv hv sd sd, SeqAt.eqv_refl d (SeqAt.canLay_of_shaped sd)]
  cases b <;> rfl
theorem fault_eq {v : SV} (hv : FaultIs v) : eqF true v v h = some (.bl false) := by
  have : ∃ d, dataT v h = some d ∧ SeqAt.shaped d = true := by
    cases hv with
    | non => exact ⟨.none, rfl, by decide⟩
    | one w hw =>
      have hk : PyData.strOk w = true := by rcases hw with rfl | rfl | rfl <;> decide +kernel
      exact ⟨.tuple [.str w], rfl, by simp [SeqAt.shaped, PyData.canLay0, PyData.canLayAll0, PyData.depth, PyData.depthAll, hk]⟩
    | two i hi =>
      have hk : PyData.strOk (Str.ofString "step") = true := by decide +kernel
      exact ⟨.tuple [.str "step", .int i], rfl, by simp [SeqAt.shaped, PyData.canLay0, PyData.canLayAll0, PyData.depth, PyData.depthAll, hk]⟩
  obtain ⟨d, h1, h2⟩ := this
  exact eqF_self h true h1 h2
theorem rows_ints : ∀ {rows : List SV}, (∀ r ∈ rows, ∃ ns : List Int, r = tI ns) → ∃ rs : List (List Int), rows = rs.map tI
  | [], _ => ⟨[], rfl⟩
  | r :: rows, hrows => by
    obtain ⟨ns, rfl⟩ := hrows r (by simp)
    obtain ⟨rs, rfl⟩ := rows_ints (rows := rows) (fun r hr => hrows r (by simp [hr]))
    exact ⟨ns :: rs, rfl⟩
/-- without a fault it is a reader -/
theorem no_fault {l s c : SV} (q : faultS l s c = .non) : ∃ (L : Int) (rs : List (List Int)) (ns : List Int), l = .int L ∧ s = tR' rs ∧ c = tI ns := by
  unfold faultS at q
  split at q
  · split at q
    · rename_i L rows _
      split at q
      · split at q
        · rename_i v z
          obtain ⟨i, hi, x, hx, rfl⟩ := enumL_mem2 (List.mem_of_find?_eq_some z)
          cases q
        · rename_i z
          split at q
          · rename_i w
            have hrows : ∀ r ∈ rows, ∃ ns, r = tI ns := by
              intro r hr
              obtain ⟨j, hj⟩ := List.mem_iff_getElem?.mp hr
              have m := List.mem_of_getElem? (enumL_get rows 0 j r hj)
              have := List.find?_eq_none.mp z _ m
              simp only [badS, Bool.not_eq_true, Bool.not_eq_false] at this
              cases r with
              | tup xs =>
                simp only [stepOk, Bool.not_eq_eq_eq_not, Bool.not_false, Bool.and_eq_true, decide_eq_true_eq] at this
                obtain ⟨ns, rfl⟩ := ints_all (idx_all this.2)
                exact ⟨ns, rfl⟩
              | _ => simp [stepOk] at this
            have := rows_ints hrows
            obtain ⟨rs, rfl⟩ := this
            cases c with
            | tup xs =>
              simp only [tupOk, Bool.and_eq_true] at w
              obtain ⟨ns, rfl⟩ := ints_all (idx_all w.1)
              exact ⟨L, rs, ns, rfl, rfl, rfl⟩
            | _ => simp [tupOk] at w
          · cases q
      · cases q
    · cases q
  · cases q
end My

set_option Elab.async false
set_option linter.all false
set_option maxRecDepth 100000
set_option maxHeartbeats 4000000
namespace My
open PySem L2 Sim
variable (a : Ads) (h : SHp)
def rdF (l s c n : SV) : List SV := [l, s, c, n]
def rdV (C : Addr) (l s c n : SV) : SV := .obj C ["letters", "steps", "accepting", "states"] [l, s, c, n]
theorem joinN_two {c1 c2 : Sim.Env → M Nat} {e : Sim.Env} {h : SHp} {n m : Nat} (q1 : c1 e h = .ok n h) (q2 : c2 e h = .ok m h) (hz : n + m ≤ 100000) : joinN [c1, c2] 0 e h = .ok () h := by
  simp only [joinN, M.bind, q1, Nat.zero_add]
  rw [if_pos (by rw [sizeLine_eq]; omega)]
  simp only [M.bind, q2]
  rw [if_pos (by rw [sizeLine_eq]; omega)]
  rfl
theorem v_init_bad {l s c : SV} (hl : (ty l).isSome = true) (hs : P3 s) (hc : P2 c) (q : faultS l s c ≠ .non) (k : Nat) (h : SHp) : ∃ e, (B_m_Reader_init a) [some (.ref k), some l, some s, some c, none] h = .err a.C_InvalidReader [] e h := by
  obtain ⟨n, f1, f2⟩ := fault_fmt (fault_is (l := l) (c := c) hs) q
  have e1 : decide (faultS l s c = .non) = false := decide_eq_false q
  have m1 : eStrN (Str.ofString "a reader with the fault ").length [some (.ref k), some l, some s, some c, some (faultS l s c)] h = .ok (Str.ofString "a reader with the fault ").length h := rfl
  have m2 : eFmtN (eVar 4) [some (.ref k), some l, some s, some c, some (faultS l s c)] h = .ok n h := by
    show M.bind _ _ h = _
    rw [ev_bind]
    ((try simp -implicitDefEqProofs only [ev_fn, fin_rt, fin_nx, fin_err, ev_seq, sq_nx, sq_rt, sq_err, ev_cNil, ev_set, ev_expr, ev_rt, ev_rtN, ev_if, ev_for, ev_asg, gt_some, ev_onV, ev_onB, bd_ok, bd_err, sr_ok, sr_err, bk_bl, ik_int, of_some, ev_ret, ev_bind, ev_var, ev_C, ev_op, ev_call, ev_cb, ev_tst, ev_eTst, ev_and, ev_or, ev_not, ev_eIf, ev_bAnd, ev_bOr, ev_bNot, ev_chain, ev_nil, ev_cons, ev_tup, ev_lst, ev_new, ev_neg, ev_fld, ev_sl, ev_oNo, ev_oYes, ev_bTrue, ev_lc, ev_it, ev_rng, ev_enum, lt_int, le_int, gt_int, ge_int, add_int, sub_int, gN_ap, isNoneF, notNoneF, List.map_cons, List.map_nil, List.cons_append, List.nil_append, List.append_nil, List.length_cons, List.length_nil, List.length_map, wipeE, Nat.reduceAdd, Nat.reduceSub, Nat.reduceLeDiff, List.replicate, List.getElem?_cons_zero, List.getElem?_cons_succ, Option.join_some, Option.join_none, List.set_cons_zero, List.set_cons_succ, gc_same, decide_true, decide_false, ev_fldS, ev_put, ev_app, if_true, if_false, ite_true, ite_false, Bool.false_eq_true, Bool.not_true, Bool.not_false, reduceIte, sizeLine_eq, ev_notT, ev_tru, ev_rev, ev_srtSet, ev_fmtS, ev_joinS_nil, ev_joinS, ev_eqO, ev_strO]); repeat (simp -implicitDefEqProofs only [f1]; (try simp -implicitDefEqProofs only [ev_fn, fin_rt, fin_nx, fin_err, ev_seq, sq_nx, sq_rt, sq_err, ev_cNil, ev_set, ev_expr, ev_rt, ev_rtN, ev_if, ev_for, ev_asg, gt_some, ev_onV, ev_onB, bd_ok, bd_err, sr_ok, sr_err, bk_bl, ik_int, of_some, ev_ret, ev_bind, ev_var, ev_C, ev_op, ev_call, ev_cb, ev_tst, ev_eTst, ev_and, ev_or, ev_not, ev_eIf, ev_bAnd, ev_bOr, ev_bNot, ev_chain, ev_nil, ev_cons, ev_tup, ev_lst, ev_new, ev_neg, ev_fld, ev_sl, ev_oNo, ev_oYes, ev_bTrue, ev_lc, ev_it, ev_rng, ev_enum, lt_int, le_int, gt_int, ge_int, add_int, sub_int, gN_ap, isNoneF, notNoneF, List.map_cons, List.map_nil, List.cons_append, List.nil_append, List.append_nil, List.length_cons, List.length_nil, List.length_map, wipeE, Nat.reduceAdd, Nat.reduceSub, Nat.reduceLeDiff, List.replicate, List.getElem?_cons_zero, List.getElem?_cons_succ, Option.join_some, Option.join_none, List.set_cons_zero, List.set_cons_succ, gc_same, decide_true, decide_false, ev_fldS, ev_put, ev_app, if_true, if_false, ite_true, ite_false, Bool.false_eq_true, Bool.not_true, Bool.not_false, reduceIte, sizeLine_eq, ev_notT, ev_tru, ev_rev, ev_srtSet, ev_fmtS, ev_joinS_nil, ev_joinS, ev_eqO, ev_strO])))
  have mj := joinN_two m1 m2 (by have := msg_len; omega)
  have cr : cRaise a.C_InvalidReader (joinN [eStrN (Str.ofString "a reader with the fault ").length, eFmtN (eVar 4)] 0) [some (.ref k), some l, some s, some c, some (faultS l s c)] h = .err a.C_InvalidReader [] [some (.ref k), some l, some s, some c, some (faultS l s c)] h := by
    simp only [cRaise, mj]
  refine ⟨[some (.ref k), some l, some s, some c, some (faultS l s c)], ?_⟩
  simp only [B_m_Reader_init]
  ((try simp -implicitDefEqProofs only [ev_fn, fin_rt, fin_nx, fin_err, ev_seq, sq_nx, sq_rt, sq_err, ev_cNil, ev_set, ev_expr, ev_rt, ev_rtN, ev_if, ev_for, ev_asg, gt_some, ev_onV, ev_onB, bd_ok, bd_err, sr_ok, sr_err, bk_bl, ik_int, of_some, ev_ret, ev_bind, ev_var, ev_C, ev_op, ev_call, ev_cb, ev_tst, ev_eTst, ev_and, ev_or, ev_not, ev_eIf, ev_bAnd, ev_bOr, ev_bNot, ev_chain, ev_nil, ev_cons, ev_tup, ev_lst, ev_new, ev_neg, ev_fld, ev_sl, ev_oNo, ev_oYes, ev_bTrue, ev_lc, ev_it, ev_rng, ev_enum, lt_int, le_int, gt_int, ge_int, add_int, sub_int, gN_ap, isNoneF, notNoneF, List.map_cons, List.map_nil, List.cons_append, List.nil_append, List.append_nil, List.length_cons, List.length_nil, List.length_map, wipeE, Nat.reduceAdd, Nat.reduceSub, Nat.reduceLeDiff, List.replicate, List.getElem?_cons_zero, List.getElem?_cons_succ, Option.join_some, Option.join_none, List.set_cons_zero, List.set_cons_succ, gc_same, decide_true, decide_false, ev_fldS, ev_put, ev_app, if_true, if_false, ite_true, ite_false, Bool.false_eq_true, Bool.not_true, Bool.not_false, reduceIte, sizeLine_eq, ev_notT, ev_tru, ev_rev, ev_srtSet, ev_fmtS, ev_joinS_nil, ev_joinS, ev_eqO, ev_strO]); repeat (simp -implicitDefEqProofs only [v_fault a h hl hs hc, isn_no, e1, cr]; (try simp -implicitDefEqProofs only [ev_fn, fin_rt, fin_nx, fin_err, ev_seq, sq_nx, sq_rt, sq_err, ev_cNil, ev_set, ev_expr, ev_rt, ev_rtN, ev_if, ev_for, ev_asg, gt_some, ev_onV, ev_onB, bd_ok, bd_err, sr_ok, sr_err, bk_bl, ik_int, of_some, ev_ret, ev_bind, ev_var, ev_C, ev_op, ev_call, ev_cb, ev_tst, ev_eTst, ev_and, ev_or, ev_not, ev_eIf, ev_bAnd, ev_bOr, ev_bNot, ev_chain, ev_nil, ev_cons, ev_tup, ev_lst, ev_new, ev_neg, ev_fld, ev_sl, ev_oNo, ev_oYes, ev_bTrue, ev_lc, ev_it, ev_rng, ev_enum, lt_int, le_int, gt_int, ge_int, add_int, sub_int, gN_ap, isNoneF, notNoneF, List.map_cons, List.map_nil, List.cons_append, List.nil_append, List.append_nil, List.length_cons, List.length_nil, List.length_map, wipeE, Nat.reduceAdd, Nat.reduceSub, Nat.reduceLeDiff, List.replicate, List.getElem?_cons_zero, List.getElem?_cons_succ, Option.join_some, Option.join_none, List.set_cons_zero, List.set_cons_succ, gc_same, decide_true, decide_false, ev_fldS, ev_put, ev_app, if_true, if_false, ite_true, ite_false, Bool.false_eq_true, Bool.not_true, Bool.not_false, reduceIte, sizeLine_eq, ev_notT, ev_tru, ev_rev, ev_srtSet, ev_fmtS, ev_joinS_nil, ev_joinS, ev_eqO, ev_strO])))
theorem v_make_bad {as : Sim.Env → M (List SV)} {e : Sim.Env} {h h1 : SHp} {l s c : SV} (hl : (ty l).isSome = true) (hs : P3 s) (hc : P2 c) (q : faultS l s c ≠ .non) (qa : as e h = .ok [l, s, c] h1) :
    eMake true a.C_Reader (D_m_Reader_init a) as e h = .err a.C_InvalidReader [] (h1 ++ [.ins a.C_Reader [] []]) := by
  obtain ⟨e', z⟩ := v_init_bad a hl hs hc q h1.length (h1 ++ [.ins a.C_Reader [] []])
  have z' : D_m_Reader_init a [.ref h1.length, l, s, c] (h1 ++ [.ins a.C_Reader [] []]) = .err a.C_InvalidReader [] (h1 ++ [.ins a.C_Reader [] []]) := by
    unfold D_m_Reader_init
    ((try simp -implicitDefEqProofs only [ev_fn, fin_rt, fin_nx, fin_err, ev_seq, sq_nx, sq_rt, sq_err, ev_cNil, ev_set, ev_expr, ev_rt, ev_rtN, ev_if, ev_for, ev_asg, gt_some, ev_onV, ev_onB, bd_ok, bd_err, sr_ok, sr_err, bk_bl, ik_int, of_some, ev_ret, ev_bind, ev_var, ev_C, ev_op, ev_call, ev_cb, ev_tst, ev_eTst, ev_and, ev_or, ev_not, ev_eIf, ev_bAnd, ev_bOr, ev_bNot, ev_chain, ev_nil, ev_cons, ev_tup, ev_lst, ev_new, ev_neg, ev_fld, ev_sl, ev_oNo, ev_oYes, ev_bTrue, ev_lc, ev_it, ev_rng, ev_enum, lt_int, le_int, gt_int, ge_int, add_int, sub_int, gN_ap, isNoneF, notNoneF, List.map_cons, List.map_nil, List.cons_append, List.nil_append, List.append_nil, List.length_cons, List.length_nil, List.length_map, wipeE, Nat.reduceAdd, Nat.reduceSub, Nat.reduceLeDiff, List.replicate, List.getElem?_cons_zero, List.getElem?_cons_succ, Option.join_some, Option.join_none, List.set_cons_zero, List.set_cons_succ, gc_same, decide_true, decide_false, ev_fldS, ev_put, ev_app, if_true, if_false, ite_true, ite_false, Bool.false_eq_true, Bool.not_true, Bool.not_false, reduceIte, sizeLine_eq, ev_notT, ev_tru, ev_rev, ev_srtSet, ev_fmtS, ev_joinS_nil, ev_joinS, ev_eqO, ev_strO]); repeat (simp -implicitDefEqProofs only [z]; (try simp -implicitDefEqProofs only [ev_fn, fin_rt, fin_nx, fin_err, ev_seq, sq_nx, sq_rt, sq_err, ev_cNil, ev_set, ev_expr, ev_rt, ev_rtN, ev_if, ev_for, ev_asg, gt_some, ev_onV, ev_onB, bd_ok, bd_err, sr_ok, sr_err, bk_bl, ik_int, of_some, ev_ret, ev_bind, ev_var, ev_C, ev_op, ev_call, ev_cb, ev_tst, ev_eTst, ev_and, ev_or, ev_not, ev_eIf, ev_bAnd, ev_bOr, ev_bNot, ev_chain, ev_nil, ev_cons, ev_tup, ev_lst, ev_new, ev_neg, ev_fld, ev_sl, ev_oNo, ev_oYes, ev_bTrue, ev_lc, ev_it, ev_rng, ev_enum, lt_int, le_int, gt_int, ge_int, add_int, sub_int, gN_ap, isNoneF, notNoneF, List.map_cons, List.map_nil, List.cons_append, List.nil_append, List.append_nil, List.length_cons, List.length_nil, List.length_map, wipeE, Nat.reduceAdd, Nat.reduceSub, Nat.reduceLeDiff, List.replicate, List.getElem?_cons_zero, List.getElem?_cons_succ, Option.join_some, Option.join_none, List.set_cons_zero, List.set_cons_succ, gc_same, decide_true, decide_false, ev_fldS, ev_put, ev_app, if_true, if_false, ite_true, ite_false, Bool.false_eq_true, Bool.not_true, Bool.not_false, reduceIte, sizeLine_eq, ev_notT, ev_tru, ev_rev, ev_srtSet, ev_fmtS, ev_joinS_nil, ev_joinS, ev_eqO, ev_strO])))
  simp only [eMake, M.bind, qa, z']
theorem okr_tI (n : Nat) (ns : List Int) : (tI ns).okr n = true := by simp only [SV.okr]; exact okrs_ints n ns
theorem okr_rows (n : Nat) (rs : List (List Int)) : (tR' rs).okr n = true := by
  simp only [SV.okr, okrs_iff]
  intro x hx
  obtain ⟨y, _, rfl⟩ := List.mem_map.mp hx
  exact okr_tI n y
theorem v_make_ok {as : Sim.Env → M (List SV)} {e : Sim.Env} {h h1 : SHp} {L : Int} {rs : List (List Int)} {ns : List Int} (hs : P3 (tR' rs)) (hc : P2 (tI ns)) (q : faultS (.int L) (tR' rs) (tI ns) = .non) (qa : as e h = .ok [.int L, tR' rs, tI ns] h1) :
    eMake true a.C_Reader (D_m_Reader_init a) as e h = .ok (rdV a.C_Reader (.int L) (tR' rs) (tI ns) (nv rs.length)) h1 := by
  have s1 : ((("letters" : Str) == "steps") = false) := by decide
  have s2 : ((("letters" : Str) == "accepting") = false) := by decide
  have s3 : ((("letters" : Str) == "states") = false) := by decide
  have s4 : ((("steps" : Str) == "accepting") = false) := by decide
  have s5 : ((("steps" : Str) == "states") = false) := by decide
  have s6 : ((("accepting" : Str) == "states") = false) := by decide
  have hl : (ty (.int L)).isSome = true := rfl
  have z : D_m_Reader_init a [.ref h1.length, .int L, tR' rs, tI ns] (h1 ++ [.ins a.C_Reader [] []]) = .ok .non (h1 ++ [.ins a.C_Reader ["letters", "steps", "accepting", "states"] [.int L, tR' rs, tI ns, nv rs.length]]) := by
    simp only [D_m_Reader_init, B_m_Reader_init]
    have ln : ∀ h, lenF [tR' rs] h = some (nv rs.length) := fun h => by rw [len_tup]; simp [nv]
    ((try simp -implicitDefEqProofs only [ev_fn, fin_rt, fin_nx, fin_err, ev_seq, sq_nx, sq_rt, sq_err, ev_cNil, ev_set, ev_expr, ev_rt, ev_rtN, ev_if, ev_for, ev_asg, gt_some, ev_onV, ev_onB, bd_ok, bd_err, sr_ok, sr_err, bk_bl, ik_int, of_some, ev_ret, ev_bind, ev_var, ev_C, ev_op, ev_call, ev_cb, ev_tst, ev_eTst, ev_and, ev_or, ev_not, ev_eIf, ev_bAnd, ev_bOr, ev_bNot, ev_chain, ev_nil, ev_cons, ev_tup, ev_lst, ev_new, ev_neg, ev_fld, ev_sl, ev_oNo, ev_oYes, ev_bTrue, ev_lc, ev_it, ev_rng, ev_enum, lt_int, le_int, gt_int, ge_int, add_int, sub_int, gN_ap, isNoneF, notNoneF, List.map_cons, List.map_nil, List.cons_append, List.nil_append, List.append_nil, List.length_cons, List.length_nil, List.length_map, wipeE, Nat.reduceAdd, Nat.reduceSub, Nat.reduceLeDiff, List.replicate, List.getElem?_cons_zero, List.getElem?_cons_succ, Option.join_some, Option.join_none, List.set_cons_zero, List.set_cons_succ, gc_same, decide_true, decide_false, ev_fldS, ev_put, ev_app, if_true, if_false, ite_true, ite_false, Bool.false_eq_true, Bool.not_true, Bool.not_false, reduceIte, sizeLine_eq, ev_notT, ev_tru, ev_rev, ev_srtSet, ev_fmtS, ev_joinS_nil, ev_joinS, ev_eqO, ev_strO]); repeat (simp -implicitDefEqProofs only [v_fault a _ hl hs hc, q, isn_no, fS_hp0, ln, setF_nil, setF_ne s1, setF_ne s2, setF_ne s3, setF_ne s4, setF_ne s5, setF_ne s6, Nat.reduceLT]; (try simp -implicitDefEqProofs only [ev_fn, fin_rt, fin_nx, fin_err, ev_seq, sq_nx, sq_rt, sq_err, ev_cNil, ev_set, ev_expr, ev_rt, ev_rtN, ev_if, ev_for, ev_asg, gt_some, ev_onV, ev_onB, bd_ok, bd_err, sr_ok, sr_err, bk_bl, ik_int, of_some, ev_ret, ev_bind, ev_var, ev_C, ev_op, ev_call, ev_cb, ev_tst, ev_eTst, ev_and, ev_or, ev_not, ev_eIf, ev_bAnd, ev_bOr, ev_bNot, ev_chain, ev_nil, ev_cons, ev_tup, ev_lst, ev_new, ev_neg, ev_fld, ev_sl, ev_oNo, ev_oYes, ev_bTrue, ev_lc, ev_it, ev_rng, ev_enum, lt_int, le_int, gt_int, ge_int, add_int, sub_int, gN_ap, isNoneF, notNoneF, List.map_cons, List.map_nil, List.cons_append, List.nil_append, List.append_nil, List.length_cons, List.length_nil, List.length_map, wipeE, Nat.reduceAdd, Nat.reduceSub, Nat.reduceLeDiff, List.replicate, List.getElem?_cons_zero, List.getElem?_cons_succ, Option.join_some, Option.join_none, List.set_cons_zero, List.set_cons_succ, gc_same, decide_true, decide_false, ev_fldS, ev_put, ev_app, if_true, if_false, ite_true, ite_false, Bool.false_eq_true, Bool.not_true, Bool.not_false, reduceIte, sizeLine_eq, ev_notT, ev_tru, ev_rev, ev_srtSet, ev_fmtS, ev_joinS_nil, ev_joinS, ev_eqO, ev_strO])))
    exact gc_len (by simp)
  rw [make_ok qa z, gc_app_ref (Nat.le_refl _) hp_get0 (by simp only [SO.okr, SV.okrs, okr_rows, okr_tI, okr_nv]; rfl)]
  rfl
theorem fld_l {C : Addr} {l s c n : SV} : fldF C "letters" (rdV C l s c n) h = some l := by
  unfold rdV; rw [fld_obj, if_pos rfl]; rfl
theorem fld_s {C : Addr} {l s c n : SV} : fldF C "steps" (rdV C l s c n) h = some s := by
  unfold rdV; rw [fld_obj, if_pos rfl]; rfl
theorem fld_c {C : Addr} {l s c n : SV} : fldF C "accepting" (rdV C l s c n) h = some c := by
  unfold rdV; rw [fld_obj, if_pos rfl]; rfl
theorem fld_n {C : Addr} {l s c n : SV} : fldF C "states" (rdV C l s c n) h = some n := by
  unfold rdV; rw [fld_obj, if_pos rfl]; rfl
theorem add_tup {xs ys : List SV} (hz : xs.length + ys.length ≤ 1000) : addF (.tup xs) (.tup ys) h = some (.tup (xs ++ ys)) := by
  simp only [addF]; rw [if_pos (by rw [sizeLine_eq]; omega)]
theorem v_is_right {l s c : SV} (hl : (ty l).isSome = true) (hs : P3 s) (hc : P2 c) (hc2 : ∀ xs, c = .tup xs → xs.length < 60) : D_u_law_is_right a [.tup [l, s, c]] h = .ok (.bl true) h := by
  have i0 : ∀ h, ixF (.tup [l, s, c]) (.int 0) h = some l := fun h => rfl
  have i1 : ∀ h, ixF (.tup [l, s, c]) (.int 1) h = some s := fun h => rfl
  have i2 : ∀ h, ixF (.tup [l, s, c]) (.int 2) h = some c := fun h => rfl
  have fi := fault_is (l := l) (c := c) hs
  simp only [D_u_law_is_right, B_u_law_is_right]
  by_cases q : faultS l s c = .non
  · obtain ⟨L, rs, ns, rfl, rfl, rfl⟩ := no_fault q
    have mk := v_make_ok a hs hc q (as := aCons (eOp ixF (eVar 0) (eC (.int 0))) (aCons (eOp ixF (eVar 0) (eC (.int 1))) (aCons (eOp ixF (eVar 0) (eC (.int 2))) aNil))) (e := [some (.tup [.int L, tR' rs, tI ns]), some .non, none]) (h := h) (h1 := h) (by ((try simp -implicitDefEqProofs only [ev_fn, fin_rt, fin_nx, fin_err, ev_seq, sq_nx, sq_rt, sq_err, ev_cNil, ev_set, ev_expr, ev_rt, ev_rtN, ev_if, ev_for, ev_asg, gt_some, ev_onV, ev_onB, bd_ok, bd_err, sr_ok, sr_err, bk_bl, ik_int, of_some, ev_ret, ev_bind, ev_var, ev_C, ev_op, ev_call, ev_cb, ev_tst, ev_eTst, ev_and, ev_or, ev_not, ev_eIf, ev_bAnd, ev_bOr, ev_bNot, ev_chain, ev_nil, ev_cons, ev_tup, ev_lst, ev_new, ev_neg, ev_fld, ev_sl, ev_oNo, ev_oYes, ev_bTrue, ev_lc, ev_it, ev_rng, ev_enum, lt_int, le_int, gt_int, ge_int, add_int, sub_int, gN_ap, isNoneF, notNoneF, List.map_cons, List.map_nil, List.cons_append, List.nil_append, List.append_nil, List.length_cons, List.length_nil, List.length_map, wipeE, Nat.reduceAdd, Nat.reduceSub, Nat.reduceLeDiff, List.replicate, List.getElem?_cons_zero, List.getElem?_cons_succ, Option.join_some, Option.join_none, List.set_cons_zero, List.set_cons_succ, gc_same, decide_true, decide_false, ev_fldS, ev_put, ev_app, if_true, if_false, ite_true, ite_false, Bool.false_eq_true, Bool.not_true, Bool.not_false, reduceIte, sizeLine_eq, ev_notT, ev_tru, ev_rev, ev_srtSet, ev_fmtS, ev_joinS_nil, ev_joinS, ev_eqO, ev_strO]); repeat (simp -implicitDefEqProofs only [i0, i1, i2]; (try simp -implicitDefEqProofs only [ev_fn, fin_rt, fin_nx, fin_err, ev_seq, sq_nx, sq_rt, sq_err, ev_cNil, ev_set, ev_expr, ev_rt, ev_rtN, ev_if, ev_for, ev_asg, gt_some, ev_onV, ev_onB, bd_ok, bd_err, sr_ok, sr_err, bk_bl, ik_int, of_some, ev_ret, ev_bind, ev_var, ev_C, ev_op, ev_call, ev_cb, ev_tst, ev_eTst, ev_and, ev_or, ev_not, ev_eIf, ev_bAnd, ev_bOr, ev_bNot, ev_chain, ev_nil, ev_cons, ev_tup, ev_lst, ev_new, ev_neg, ev_fld, ev_sl, ev_oNo, ev_oYes, ev_bTrue, ev_lc, ev_it, ev_rng, ev_enum, lt_int, le_int, gt_int, ge_int, add_int, sub_int, gN_ap, isNoneF, notNoneF, List.map_cons, List.map_nil, List.cons_append, List.nil_append, List.append_nil, List.length_cons, List.length_nil, List.length_map, wipeE, Nat.reduceAdd, Nat.reduceSub, Nat.reduceLeDiff, List.replicate, List.getElem?_cons_zero, List.getElem?_cons_succ, Option.join_some, Option.join_none, List.set_cons_zero, List.set_cons_succ, gc_same, decide_true, decide_false, ev_fldS, ev_put, ev_app, if_true, if_false, ite_true, ite_false, Bool.false_eq_true, Bool.not_true, Bool.not_false, reduceIte, sizeLine_eq, ev_notT, ev_tru, ev_rev, ev_srtSet, ev_fmtS, ev_joinS_nil, ev_joinS, ev_eqO, ev_strO]))))
    have ln : ∀ h, lenF [tR' rs] h = some (nv rs.length) := fun h => by rw [len_tup]; simp [nv]
    have ad : addF (.tup [.int L, tR' rs, tI ns]) (.tup [nv rs.length]) h = some (.tup [.int L, tR' rs, tI ns, nv rs.length]) := add_tup h (by simp)
    have eq : eqF false (.tup [.int L, tR' rs, tI ns, nv rs.length]) (.tup [.int L, tR' rs, tI ns, nv rs.length]) h = some (.bl true) :=
      eqF_self h false (d := .tuple [.int L, .tuple (rs.map D1), D1 ns, .int (rs.length : Nat)]) (by simp only [dataT, dataV, dataL, dataL_rows, dataL_ints, Option.map_some, D1]) (shp_4 _ _ _ _)
    have fe := fault_eq h fi
    rw [q] at fe
    ((try simp -implicitDefEqProofs only [ev_fn, fin_rt, fin_nx, fin_err, ev_seq, sq_nx, sq_rt, sq_err, ev_cNil, ev_set, ev_expr, ev_rt, ev_rtN, ev_if, ev_for, ev_asg, gt_some, ev_onV, ev_onB, bd_ok, bd_err, sr_ok, sr_err, bk_bl, ik_int, of_some, ev_ret, ev_bind, ev_var, ev_C, ev_op, ev_call, ev_cb, ev_tst, ev_eTst, ev_and, ev_or, ev_not, ev_eIf, ev_bAnd, ev_bOr, ev_bNot, ev_chain, ev_nil, ev_cons, ev_tup, ev_lst, ev_new, ev_neg, ev_fld, ev_sl, ev_oNo, ev_oYes, ev_bTrue, ev_lc, ev_it, ev_rng, ev_enum, lt_int, le_int, gt_int, ge_int, add_int, sub_int, gN_ap, isNoneF, notNoneF, List.map_cons, List.map_nil, List.cons_append, List.nil_append, List.append_nil, List.length_cons, List.length_nil, List.length_map, wipeE, Nat.reduceAdd, Nat.reduceSub, Nat.reduceLeDiff, List.replicate, List.getElem?_cons_zero, List.getElem?_cons_succ, Option.join_some, Option.join_none, List.set_cons_zero, List.set_cons_succ, gc_same, decide_true, decide_false, ev_fldS, ev_put, ev_app, if_true, if_false, ite_true, ite_false, Bool.false_eq_true, Bool.not_true, Bool.not_false, reduceIte, sizeLine_eq, ev_notT, ev_tru, ev_rev, ev_srtSet, ev_fmtS, ev_joinS_nil, ev_joinS, ev_eqO, ev_strO]); repeat (simp -implicitDefEqProofs only [i0, i1, i2, v_law_fault a h hl hs hc hc2, v_fault a h hl hs hc, q, fe, ev_try, mk, isn_no, fld_l, fld_s, fld_c, fld_n, ln, ad, eq]; (try simp -implicitDefEqProofs only [ev_fn, fin_rt, fin_nx, fin_err, ev_seq, sq_nx, sq_rt, sq_err, ev_cNil, ev_set, ev_expr, ev_rt, ev_rtN, ev_if, ev_for, ev_asg, gt_some, ev_onV, ev_onB, bd_ok, bd_err, sr_ok, sr_err, bk_bl, ik_int, of_some, ev_ret, ev_bind, ev_var, ev_C, ev_op, ev_call, ev_cb, ev_tst, ev_eTst, ev_and, ev_or, ev_not, ev_eIf, ev_bAnd, ev_bOr, ev_bNot, ev_chain, ev_nil, ev_cons, ev_tup, ev_lst, ev_new, ev_neg, ev_fld, ev_sl, ev_oNo, ev_oYes, ev_bTrue, ev_lc, ev_it, ev_rng, ev_enum, lt_int, le_int, gt_int, ge_int, add_int, sub_int, gN_ap, isNoneF, notNoneF, List.map_cons, List.map_nil, List.cons_append, List.nil_append, List.append_nil, List.length_cons, List.length_nil, List.length_map, wipeE, Nat.reduceAdd, Nat.reduceSub, Nat.reduceLeDiff, List.replicate, List.getElem?_cons_zero, List.getElem?_cons_succ, Option.join_some, Option.join_none, List.set_cons_zero, List.set_cons_succ, gc_same, decide_true, decide_false, ev_fldS, ev_put, ev_app, if_true, if_false, ite_true, ite_false, Bool.false_eq_true, Bool.not_true, Bool.not_false, reduceIte, sizeLine_eq, ev_notT, ev_tru, ev_rev, ev_srtSet, ev_fmtS, ev_joinS_nil, ev_joinS, ev_eqO, ev_strO])))
  · have mk := v_make_bad a hl hs hc q (as := aCons (eOp ixF (eVar 0) (eC (.int 0))) (aCons (eOp ixF (eVar 0) (eC (.int 1))) (aCons (eOp ixF (eVar 0) (eC (.int 2))) aNil))) (e := [some (.tup [l, s, c]), some (faultS l s c), none]) (h := h) (h1 := h) (by ((try simp -implicitDefEqProofs only [ev_fn, fin_rt, fin_nx, fin_err, ev_seq, sq_nx, sq_rt, sq_err, ev_cNil, ev_set, ev_expr, ev_rt, ev_rtN, ev_if, ev_for, ev_asg, gt_some, ev_onV, ev_onB, bd_ok, bd_err, sr_ok, sr_err, bk_bl, ik_int, of_some, ev_ret, ev_bind, ev_var, ev_C, ev_op, ev_call, ev_cb, ev_tst, ev_eTst, ev_and, ev_or, ev_not, ev_eIf, ev_bAnd, ev_bOr, ev_bNot, ev_chain, ev_nil, ev_cons, ev_tup, ev_lst, ev_new, ev_neg, ev_fld, ev_sl, ev_oNo, ev_oYes, ev_bTrue, ev_lc, ev_it, ev_rng, ev_enum, lt_int, le_int, gt_int, ge_int, add_int, sub_int, gN_ap, isNoneF, notNoneF, List.map_cons, List.map_nil, List.cons_append, List.nil_append, List.append_nil, List.length_cons, List.length_nil, List.length_map, wipeE, Nat.reduceAdd, Nat.reduceSub, Nat.reduceLeDiff, List.replicate, List.getElem?_cons_zero, List.getElem?_cons_succ, Option.join_some, Option.join_none, List.set_cons_zero, List.set_cons_succ, gc_same, decide_true, decide_false, ev_fldS, ev_put, ev_app, if_true, if_false, ite_true, ite_false, Bool.false_eq_true, Bool.not_true, Bool.not_false, reduceIte, sizeLine_eq, ev_notT, ev_tru, ev_rev, ev_srtSet, ev_fmtS, ev_joinS_nil, ev_joinS, ev_eqO, ev_strO]); repeat (simp -implicitDefEqProofs only [i0, i1, i2]; (try simp -implicitDefEqProofs only [ev_fn, fin_rt, fin_nx, fin_err, ev_seq, sq_nx, sq_rt, sq_err, ev_cNil, ev_set, ev_expr, ev_rt, ev_rtN, ev_if, ev_for, ev_asg, gt_some, ev_onV, ev_onB, bd_ok, bd_err, sr_ok, sr_err, bk_bl, ik_int, of_some, ev_ret, ev_bind, ev_var, ev_C, ev_op, ev_call, ev_cb, ev_tst, ev_eTst, ev_and, ev_or, ev_not, ev_eIf, ev_bAnd, ev_bOr, ev_bNot, ev_chain, ev_nil, ev_cons, ev_tup, ev_lst, ev_new, ev_neg, ev_fld, ev_sl, ev_oNo, ev_oYes, ev_bTrue, ev_lc, ev_it, ev_rng, ev_enum, lt_int, le_int, gt_int, ge_int, add_int, sub_int, gN_ap, isNoneF, notNoneF, List.map_cons, List.map_nil, List.cons_append, List.nil_append, List.append_nil, List.length_cons, List.length_nil, List.length_map, wipeE, Nat.reduceAdd, Nat.reduceSub, Nat.reduceLeDiff, List.replicate, List.getElem?_cons_zero, List.getElem?_cons_succ, Option.join_some, Option.join_none, List.set_cons_zero, List.set_cons_succ, gc_same, decide_true, decide_false, ev_fldS, ev_put, ev_app, if_true, if_false, ite_true, ite_false, Bool.false_eq_true, Bool.not_true, Bool.not_false, reduceIte, sizeLine_eq, ev_notT, ev_tru, ev_rev, ev_srtSet, ev_fmtS, ev_joinS_nil, ev_joinS, ev_eqO, ev_strO]))))
    have e1 : decide (faultS l s c = .non) = false := decide_eq_false q
    ((try simp -implicitDefEqProofs only [ev_fn, fin_rt, fin_nx, fin_err, ev_seq, sq_nx, sq_rt, sq_err, ev_cNil, ev_set, ev_expr, ev_rt, ev_rtN, ev_if, ev_for, ev_asg, gt_some, ev_onV, ev_onB, bd_ok, bd_err, sr_ok, sr_err, bk_bl, ik_int, of_some, ev_ret, ev_bind, ev_var, ev_C, ev_op, ev_call, ev_cb, ev_tst, ev_eTst, ev_and, ev_or, ev_not, ev_eIf, ev_bAnd, ev_bOr, ev_bNot, ev_chain, ev_nil, ev_cons, ev_tup, ev_lst, ev_new, ev_neg, ev_fld, ev_sl, ev_oNo, ev_oYes, ev_bTrue, ev_lc, ev_it, ev_rng, ev_enum, lt_int, le_int, gt_int, ge_int, add_int, sub_int, gN_ap, isNoneF, notNoneF, List.map_cons, List.map_nil, List.cons_append, List.nil_append, List.append_nil, List.length_cons, List.length_nil, List.length_map, wipeE, Nat.reduceAdd, Nat.reduceSub, Nat.reduceLeDiff, List.replicate, List.getElem?_cons_zero, List.getElem?_cons_succ, Option.join_some, Option.join_none, List.set_cons_zero, List.set_cons_succ, gc_same, decide_true, decide_false, ev_fldS, ev_put, ev_app, if_true, if_false, ite_true, ite_false, Bool.false_eq_true, Bool.not_true, Bool.not_false, reduceIte, sizeLine_eq, ev_notT, ev_tru, ev_rev, ev_srtSet, ev_fmtS, ev_joinS_nil, ev_joinS, ev_eqO, ev_strO]); repeat (simp -implicitDefEqProofs only [i0, i1, i2, v_law_fault a h hl hs hc hc2, v_fault a h hl hs hc, fault_eq h fi, ev_try, mk, isn_no, e1, SR.noErr]; (try simp -implicitDefEqProofs only [ev_fn, fin_rt, fin_nx, fin_err, ev_seq, sq_nx, sq_rt, sq_err, ev_cNil, ev_set, ev_expr, ev_rt, ev_rtN, ev_if, ev_for, ev_asg, gt_some, ev_onV, ev_onB, bd_ok, bd_err, sr_ok, sr_err, bk_bl, ik_int, of_some, ev_ret, ev_bind, ev_var, ev_C, ev_op, ev_call, ev_cb, ev_tst, ev_eTst, ev_and, ev_or, ev_not, ev_eIf, ev_bAnd, ev_bOr, ev_bNot, ev_chain, ev_nil, ev_cons, ev_tup, ev_lst, ev_new, ev_neg, ev_fld, ev_sl, ev_oNo, ev_oYes, ev_bTrue, ev_lc, ev_it, ev_rng, ev_enum, lt_int, le_int, gt_int, ge_int, add_int, sub_int, gN_ap, isNoneF, notNoneF, List.map_cons, List.map_nil, List.cons_append, List.nil_append, List.append_nil, List.length_cons, List.length_nil, List.length_map, wipeE, Nat.reduceAdd, Nat.reduceSub, Nat.reduceLeDiff, List.replicate, List.getElem?_cons_zero, List.getElem?_cons_succ, Option.join_some, Option.join_none, List.set_cons_zero, List.set_cons_succ, gc_same, decide_true, decide_false, ev_fldS, ev_put, ev_app, if_true, if_false, ite_true, ite_false, Bool.false_eq_true, Bool.not_true, Bool.not_false, reduceIte, sizeLine_eq, ev_notT, ev_tru, ev_rev, ev_srtSet, ev_fmtS, ev_joinS_nil, ev_joinS, ev_eqO, ev_strO])))
    exact gc_app (by simp [SV.okr])
end My

set_option Elab.async false
set_option linter.all false
set_option maxRecDepth 100000
set_option maxHeartbeats 4000000
namespace My
open PySem L2 Sim
variable (a : Ads) (hb : SHp)
def bag (hb : SHp) (z m c : Int) : SHp := hb ++ [.lst [.int z, .int m, .int c]]
structure Bag (k : Nat) (z m c : Int) : Prop where
  z0 : 0 ≤ z
  m0 : 0 ≤ m
  m1 : m < 2 ^ 80
  c0 : 0 ≤ c
  c1 : c ≤ k
theorem Bag.mono {k l : Nat} {z m c : Int} (b : Bag k z m c) (h : k ≤ l) : Bag l z m c := ⟨b.z0, b.m0, b.m1, b.c0, by have := b.c1; omega⟩
theorem log_lt {x : Int} {n : Nat} (h0 : 0 ≤ x) (h : x < 2 ^ n) (hn : 0 < n) : x.natAbs.log2 < n := by
  obtain ⟨y, rfl⟩ := Int.eq_ofNat_of_zero_le h0
  by_cases c : y = 0
  · subst c; simp; exact hn
  · have : y < 2 ^ n := by exact_mod_cast h
    exact (Nat.log2_lt c).mpr this
theorem mul_ok {i j : Int} {h : SHp} (h0 : 0 ≤ i) (h1 : i < 2 ^ 400) (h2 : 0 ≤ j) (h3 : j < 2 ^ 400) : mulT (.int i) (.int j) h = some (.int (i * j)) := by
  have a := log_lt h0 h1 (by omega)
  have b := log_lt h2 h3 (by omega)
  simp only [mulT]
  rw [if_pos (by unfold L2.CMulW; omega)]
theorem mod_ok {i j : Int} {h : SHp} (h0 : 0 < j) : modI (.int i) (.int j) h = some (.int (i % j)) := by
  simp only [modI, op2I]
  rw [if_pos (by omega), Int.fmod_eq_emod_of_nonneg _ (by omega)]
theorem div_ok {i j : Int} {h : SHp} (h0 : 0 < j) (h1 : j < 2 ^ 400) : divI (.int i) (.int j) h = some (.int (i / j)) := by
  have a := log_lt (by omega) h1 (by omega)
  simp only [divI, op2I]
  rw [if_pos (by unfold L2.CDivW; omega)]
theorem bag_ix0 (z m c : Int) : ixF (.ref hb.length) (.int 0) (bag hb z m c) = some (.int z) := by unfold bag; rw [ixr0]; rfl
theorem bag_ix1 (z m c : Int) : ixF (.ref hb.length) (.int 1) (bag hb z m c) = some (.int m) := by unfold bag; rw [ixr0]; rfl
theorem bag_ix2 (z m c : Int) : ixF (.ref hb.length) (.int 2) (bag hb z m c) = some (.int c) := by unfold bag; rw [ixr0]; rfl
def sS (e : Sim.Env) (v w q : SV) (h3 : SHp) : SR := match w, q with
  | .ref n, .int k => match h3[n]? with
    | some (.lst xs) => match ixN xs.length k with
      | some j => .nx e (h3.set n (.lst (xs.set j v)))
      | none => .stuck
    | _ => .stuck
  | _, _ => .stuck
theorem ev_six {o i c : Sim.Env → M SV} {e : Sim.Env} {h : SHp} : cSetIx o i c e h = Res.sr (c e h) e fun v h => Res.sr (o e h) e fun w h => Res.sr (i e h) e fun q h => sS e v w q h := by
  unfold cSetIx; rw [ev_onV]; congr 1; funext v h; rw [ev_onV]; congr 1; funext w h; rw [ev_onV]; rfl
theorem bag_set0 (e : Sim.Env) (v z m c : Int) : sS e (.int v) (.ref hb.length) (.int 0) (bag hb z m c) = .nx e (bag hb v m c) := by unfold sS bag; simp only [hp_get0, show ixN [SV.int z, SV.int m, SV.int c].length 0 = some 0 from rfl, hp_set0]; rfl
theorem bag_set2 (e : Sim.Env) (v z m c : Int) : sS e (.int v) (.ref hb.length) (.int 2) (bag hb z m c) = .nx e (bag hb z m v) := by unfold sS bag; simp only [hp_get0, show ixN [SV.int z, SV.int m, SV.int c].length 2 = some 2 from rfl, hp_set0]; rfl
theorem v_pick {k : Nat} {z m c : Int} (b : Bag k z m c) (hk : k < 2 ^ 80) (t : Int) (t0 : 0 < t) (t1 : t < 2 ^ 80) : ∃ z' c' p, D_u_law_pick a [.ref hb.length, .int t] (bag hb z m c) = .ok (.int p) (bag hb z' m c') ∧ 0 ≤ p ∧ p < t ∧ Bag (k + 1) z' m c' := by
  obtain ⟨z0, m0, m1, c0, c1⟩ := b
  have gl : ∀ v z' c', gc true (bag hb z m c) v (bag hb z' m c') = .ok v (bag hb z' m c') := fun v z' c' => gc_len (by simp [bag])
  by_cases d : 0 < z
  · refine ⟨z / t, c, z % t, ?_, Int.emod_nonneg _ (by omega), Int.emod_lt_of_pos _ t0, ⟨Int.ediv_nonneg z0 (by omega), m0, m1, c0, by omega⟩⟩
    simp only [D_u_law_pick, B_u_law_pick]
    ((try simp -implicitDefEqProofs only [ev_fn, fin_rt, fin_nx, fin_err, ev_seq, sq_nx, sq_rt, sq_err, ev_cNil, ev_set, ev_expr, ev_rt, ev_rtN, ev_if, ev_for, ev_asg, gt_some, ev_onV, ev_onB, bd_ok, bd_err, sr_ok, sr_err, bk_bl, ik_int, of_some, ev_ret, ev_bind, ev_var, ev_C, ev_op, ev_call, ev_cb, ev_tst, ev_eTst, ev_and, ev_or, ev_not, ev_eIf, ev_bAnd, ev_bOr, ev_bNot, ev_chain, ev_nil, ev_cons, ev_tup, ev_lst, ev_new, ev_neg, ev_fld, ev_sl, ev_oNo, ev_oYes, ev_bTrue, ev_lc, ev_it, ev_rng, ev_enum, lt_int, le_int, gt_int, ge_int, add_int, sub_int, gN_ap, isNoneF, notNoneF, List.map_cons, List.map_nil, List.cons_append, List.nil_append, List.append_nil, List.length_cons, List.length_nil, List.length_map, wipeE, Nat.reduceAdd, Nat.reduceSub, Nat.reduceLeDiff, List.replicate, List.getElem?_cons_zero, List.getElem?_cons_succ, Option.join_some, Option.join_none, List.set_cons_zero, List.set_cons_succ, gc_same, decide_true, decide_false, ev_fldS, ev_put, ev_app, if_true, if_false, ite_true, ite_false, Bool.false_eq_true, Bool.not_true, Bool.not_false, reduceIte, sizeLine_eq, ev_notT, ev_tru, ev_rev, ev_srtSet, ev_fmtS, ev_joinS_nil, ev_joinS, ev_eqO, ev_strO]); repeat (simp -implicitDefEqProofs only [bag_ix0]; (try simp -implicitDefEqProofs only [ev_fn, fin_rt, fin_nx, fin_err, ev_seq, sq_nx, sq_rt, sq_err, ev_cNil, ev_set, ev_expr, ev_rt, ev_rtN, ev_if, ev_for, ev_asg, gt_some, ev_onV, ev_onB, bd_ok, bd_err, sr_ok, sr_err, bk_bl, ik_int, of_some, ev_ret, ev_bind, ev_var, ev_C, ev_op, ev_call, ev_cb, ev_tst, ev_eTst, ev_and, ev_or, ev_not, ev_eIf, ev_bAnd, ev_bOr, ev_bNot, ev_chain, ev_nil, ev_cons, ev_tup, ev_lst, ev_new, ev_neg, ev_fld, ev_sl, ev_oNo, ev_oYes, ev_bTrue, ev_lc, ev_it, ev_rng, ev_enum, lt_int, le_int, gt_int, ge_int, add_int, sub_int, gN_ap, isNoneF, notNoneF, List.map_cons, List.map_nil, List.cons_append, List.nil_append, List.append_nil, List.length_cons, List.length_nil, List.length_map, wipeE, Nat.reduceAdd, Nat.reduceSub, Nat.reduceLeDiff, List.replicate, List.getElem?_cons_zero, List.getElem?_cons_succ, Option.join_some, Option.join_none, List.set_cons_zero, List.set_cons_succ, gc_same, decide_true, decide_false, ev_fldS, ev_put, ev_app, if_true, if_false, ite_true, ite_false, Bool.false_eq_true, Bool.not_true, Bool.not_false, reduceIte, sizeLine_eq, ev_notT, ev_tru, ev_rev, ev_srtSet, ev_fmtS, ev_joinS_nil, ev_joinS, ev_eqO, ev_strO])))
    rw [decide_eq_true d]
    ((try simp -implicitDefEqProofs only [ev_fn, fin_rt, fin_nx, fin_err, ev_seq, sq_nx, sq_rt, sq_err, ev_cNil, ev_set, ev_expr, ev_rt, ev_rtN, ev_if, ev_for, ev_asg, gt_some, ev_onV, ev_onB, bd_ok, bd_err, sr_ok, sr_err, bk_bl, ik_int, of_some, ev_ret, ev_bind, ev_var, ev_C, ev_op, ev_call, ev_cb, ev_tst, ev_eTst, ev_and, ev_or, ev_not, ev_eIf, ev_bAnd, ev_bOr, ev_bNot, ev_chain, ev_nil, ev_cons, ev_tup, ev_lst, ev_new, ev_neg, ev_fld, ev_sl, ev_oNo, ev_oYes, ev_bTrue, ev_lc, ev_it, ev_rng, ev_enum, lt_int, le_int, gt_int, ge_int, add_int, sub_int, gN_ap, isNoneF, notNoneF, List.map_cons, List.map_nil, List.cons_append, List.nil_append, List.append_nil, List.length_cons, List.length_nil, List.length_map, wipeE, Nat.reduceAdd, Nat.reduceSub, Nat.reduceLeDiff, List.replicate, List.getElem?_cons_zero, List.getElem?_cons_succ, Option.join_some, Option.join_none, List.set_cons_zero, List.set_cons_succ, gc_same, decide_true, decide_false, ev_fldS, ev_put, ev_app, if_true, if_false, ite_true, ite_false, Bool.false_eq_true, Bool.not_true, Bool.not_false, reduceIte, sizeLine_eq, ev_notT, ev_tru, ev_rev, ev_srtSet, ev_fmtS, ev_joinS_nil, ev_joinS, ev_eqO, ev_strO]); repeat (simp -implicitDefEqProofs only [bag_ix0, int_int, mod_ok t0, div_ok t0 (by omega), ev_six, bag_set0, gl]; (try simp -implicitDefEqProofs only [ev_fn, fin_rt, fin_nx, fin_err, ev_seq, sq_nx, sq_rt, sq_err, ev_cNil, ev_set, ev_expr, ev_rt, ev_rtN, ev_if, ev_for, ev_asg, gt_some, ev_onV, ev_onB, bd_ok, bd_err, sr_ok, sr_err, bk_bl, ik_int, of_some, ev_ret, ev_bind, ev_var, ev_C, ev_op, ev_call, ev_cb, ev_tst, ev_eTst, ev_and, ev_or, ev_not, ev_eIf, ev_bAnd, ev_bOr, ev_bNot, ev_chain, ev_nil, ev_cons, ev_tup, ev_lst, ev_new, ev_neg, ev_fld, ev_sl, ev_oNo, ev_oYes, ev_bTrue, ev_lc, ev_it, ev_rng, ev_enum, lt_int, le_int, gt_int, ge_int, add_int, sub_int, gN_ap, isNoneF, notNoneF, List.map_cons, List.map_nil, List.cons_append, List.nil_append, List.append_nil, List.length_cons, List.length_nil, List.length_map, wipeE, Nat.reduceAdd, Nat.reduceSub, Nat.reduceLeDiff, List.replicate, List.getElem?_cons_zero, List.getElem?_cons_succ, Option.join_some, Option.join_none, List.set_cons_zero, List.set_cons_succ, gc_same, decide_true, decide_false, ev_fldS, ev_put, ev_app, if_true, if_false, ite_true, ite_false, Bool.false_eq_true, Bool.not_true, Bool.not_false, reduceIte, sizeLine_eq, ev_notT, ev_tru, ev_rev, ev_srtSet, ev_fmtS, ev_joinS_nil, ev_joinS, ev_eqO, ev_strO])))
  · have k80 : c + 1 < 2 ^ 81 := by omega
    have A0 : 0 ≤ (m + 49979693 * (c + 1)) % 2305843009213693951 := Int.emod_nonneg _ (by omega)
    have A1 : (m + 49979693 * (c + 1)) % 2305843009213693951 < 2305843009213693951 := Int.emod_lt_of_pos _ (by omega)
    generalize hA : (m + 49979693 * (c + 1)) % 2305843009213693951 = A at *
    have B0 : 0 ≤ (A * A + 127 * (c + 1)) % 2305843009213693921 := Int.emod_nonneg _ (by omega)
    have B1 : (A * A + 127 * (c + 1)) % 2305843009213693921 < 2305843009213693921 := Int.emod_lt_of_pos _ (by omega)
    refine ⟨z, c + 1, (((A * A + 127 * (c + 1)) % 2305843009213693921 * 32452847 + A) / 65551) % t, ?_, Int.emod_nonneg _ (by omega), Int.emod_lt_of_pos _ t0, ⟨z0, m0, m1, by omega, by omega⟩⟩
    simp only [D_u_law_pick, B_u_law_pick]
    ((try simp -implicitDefEqProofs only [ev_fn, fin_rt, fin_nx, fin_err, ev_seq, sq_nx, sq_rt, sq_err, ev_cNil, ev_set, ev_expr, ev_rt, ev_rtN, ev_if, ev_for, ev_asg, gt_some, ev_onV, ev_onB, bd_ok, bd_err, sr_ok, sr_err, bk_bl, ik_int, of_some, ev_ret, ev_bind, ev_var, ev_C, ev_op, ev_call, ev_cb, ev_tst, ev_eTst, ev_and, ev_or, ev_not, ev_eIf, ev_bAnd, ev_bOr, ev_bNot, ev_chain, ev_nil, ev_cons, ev_tup, ev_lst, ev_new, ev_neg, ev_fld, ev_sl, ev_oNo, ev_oYes, ev_bTrue, ev_lc, ev_it, ev_rng, ev_enum, lt_int, le_int, gt_int, ge_int, add_int, sub_int, gN_ap, isNoneF, notNoneF, List.map_cons, List.map_nil, List.cons_append, List.nil_append, List.append_nil, List.length_cons, List.length_nil, List.length_map, wipeE, Nat.reduceAdd, Nat.reduceSub, Nat.reduceLeDiff, List.replicate, List.getElem?_cons_zero, List.getElem?_cons_succ, Option.join_some, Option.join_none, List.set_cons_zero, List.set_cons_succ, gc_same, decide_true, decide_false, ev_fldS, ev_put, ev_app, if_true, if_false, ite_true, ite_false, Bool.false_eq_true, Bool.not_true, Bool.not_false, reduceIte, sizeLine_eq, ev_notT, ev_tru, ev_rev, ev_srtSet, ev_fmtS, ev_joinS_nil, ev_joinS, ev_eqO, ev_strO]); repeat (simp -implicitDefEqProofs only [bag_ix0]; (try simp -implicitDefEqProofs only [ev_fn, fin_rt, fin_nx, fin_err, ev_seq, sq_nx, sq_rt, sq_err, ev_cNil, ev_set, ev_expr, ev_rt, ev_rtN, ev_if, ev_for, ev_asg, gt_some, ev_onV, ev_onB, bd_ok, bd_err, sr_ok, sr_err, bk_bl, ik_int, of_some, ev_ret, ev_bind, ev_var, ev_C, ev_op, ev_call, ev_cb, ev_tst, ev_eTst, ev_and, ev_or, ev_not, ev_eIf, ev_bAnd, ev_bOr, ev_bNot, ev_chain, ev_nil, ev_cons, ev_tup, ev_lst, ev_new, ev_neg, ev_fld, ev_sl, ev_oNo, ev_oYes, ev_bTrue, ev_lc, ev_it, ev_rng, ev_enum, lt_int, le_int, gt_int, ge_int, add_int, sub_int, gN_ap, isNoneF, notNoneF, List.map_cons, List.map_nil, List.cons_append, List.nil_append, List.append_nil, List.length_cons, List.length_nil, List.length_map, wipeE, Nat.reduceAdd, Nat.reduceSub, Nat.reduceLeDiff, List.replicate, List.getElem?_cons_zero, List.getElem?_cons_succ, Option.join_some, Option.join_none, List.set_cons_zero, List.set_cons_succ, gc_same, decide_true, decide_false, ev_fldS, ev_put, ev_app, if_true, if_false, ite_true, ite_false, Bool.false_eq_true, Bool.not_true, Bool.not_false, reduceIte, sizeLine_eq, ev_notT, ev_tru, ev_rev, ev_srtSet, ev_fmtS, ev_joinS_nil, ev_joinS, ev_eqO, ev_strO])))
    rw [decide_eq_false d]
    ((try simp -implicitDefEqProofs only [ev_fn, fin_rt, fin_nx, fin_err, ev_seq, sq_nx, sq_rt, sq_err, ev_cNil, ev_set, ev_expr, ev_rt, ev_rtN, ev_if, ev_for, ev_asg, gt_some, ev_onV, ev_onB, bd_ok, bd_err, sr_ok, sr_err, bk_bl, ik_int, of_some, ev_ret, ev_bind, ev_var, ev_C, ev_op, ev_call, ev_cb, ev_tst, ev_eTst, ev_and, ev_or, ev_not, ev_eIf, ev_bAnd, ev_bOr, ev_bNot, ev_chain, ev_nil, ev_cons, ev_tup, ev_lst, ev_new, ev_neg, ev_fld, ev_sl, ev_oNo, ev_oYes, ev_bTrue, ev_lc, ev_it, ev_rng, ev_enum, lt_int, le_int, gt_int, ge_int, add_int, sub_int, gN_ap, isNoneF, notNoneF, List.map_cons, List.map_nil, List.cons_append, List.nil_append, List.append_nil, List.length_cons, List.length_nil, List.length_map, wipeE, Nat.reduceAdd, Nat.reduceSub, Nat.reduceLeDiff, List.replicate, List.getElem?_cons_zero, List.getElem?_cons_succ, Option.join_some, Option.join_none, List.set_cons_zero, List.set_cons_succ, gc_same, decide_true, decide_false, ev_fldS, ev_put, ev_app, if_true, if_false, ite_true, ite_false, Bool.false_eq_true, Bool.not_true, Bool.not_false, reduceIte, sizeLine_eq, ev_notT, ev_tru, ev_rev, ev_srtSet, ev_fmtS, ev_joinS_nil, ev_joinS, ev_eqO, ev_strO]); repeat (simp -implicitDefEqProofs only [bag_ix2, ev_six, bag_set2]; (try simp -implicitDefEqProofs only [ev_fn, fin_rt, fin_nx, fin_err, ev_seq, sq_nx, sq_rt, sq_err, ev_cNil, ev_set, ev_expr, ev_rt, ev_rtN, ev_if, ev_for, ev_asg, gt_some, ev_onV, ev_onB, bd_ok, bd_err, sr_ok, sr_err, bk_bl, ik_int, of_some, ev_ret, ev_bind, ev_var, ev_C, ev_op, ev_call, ev_cb, ev_tst, ev_eTst, ev_and, ev_or, ev_not, ev_eIf, ev_bAnd, ev_bOr, ev_bNot, ev_chain, ev_nil, ev_cons, ev_tup, ev_lst, ev_new, ev_neg, ev_fld, ev_sl, ev_oNo, ev_oYes, ev_bTrue, ev_lc, ev_it, ev_rng, ev_enum, lt_int, le_int, gt_int, ge_int, add_int, sub_int, gN_ap, isNoneF, notNoneF, List.map_cons, List.map_nil, List.cons_append, List.nil_append, List.append_nil, List.length_cons, List.length_nil, List.length_map, wipeE, Nat.reduceAdd, Nat.reduceSub, Nat.reduceLeDiff, List.replicate, List.getElem?_cons_zero, List.getElem?_cons_succ, Option.join_some, Option.join_none, List.set_cons_zero, List.set_cons_succ, gc_same, decide_true, decide_false, ev_fldS, ev_put, ev_app, if_true, if_false, ite_true, ite_false, Bool.false_eq_true, Bool.not_true, Bool.not_false, reduceIte, sizeLine_eq, ev_notT, ev_tru, ev_rev, ev_srtSet, ev_fmtS, ev_joinS_nil, ev_joinS, ev_eqO, ev_strO])))
    ((try simp -implicitDefEqProofs only [ev_fn, fin_rt, fin_nx, fin_err, ev_seq, sq_nx, sq_rt, sq_err, ev_cNil, ev_set, ev_expr, ev_rt, ev_rtN, ev_if, ev_for, ev_asg, gt_some, ev_onV, ev_onB, bd_ok, bd_err, sr_ok, sr_err, bk_bl, ik_int, of_some, ev_ret, ev_bind, ev_var, ev_C, ev_op, ev_call, ev_cb, ev_tst, ev_eTst, ev_and, ev_or, ev_not, ev_eIf, ev_bAnd, ev_bOr, ev_bNot, ev_chain, ev_nil, ev_cons, ev_tup, ev_lst, ev_new, ev_neg, ev_fld, ev_sl, ev_oNo, ev_oYes, ev_bTrue, ev_lc, ev_it, ev_rng, ev_enum, lt_int, le_int, gt_int, ge_int, add_int, sub_int, gN_ap, isNoneF, notNoneF, List.map_cons, List.map_nil, List.cons_append, List.nil_append, List.append_nil, List.length_cons, List.length_nil, List.length_map, wipeE, Nat.reduceAdd, Nat.reduceSub, Nat.reduceLeDiff, List.replicate, List.getElem?_cons_zero, List.getElem?_cons_succ, Option.join_some, Option.join_none, List.set_cons_zero, List.set_cons_succ, gc_same, decide_true, decide_false, ev_fldS, ev_put, ev_app, if_true, if_false, ite_true, ite_false, Bool.false_eq_true, Bool.not_true, Bool.not_false, reduceIte, sizeLine_eq, ev_notT, ev_tru, ev_rev, ev_srtSet, ev_fmtS, ev_joinS_nil, ev_joinS, ev_eqO, ev_strO]); repeat (simp -implicitDefEqProofs only [bag_ix1, bag_ix2, mul_ok (i := 49979693) (j := c + 1) (by omega) (by omega) (by omega) (by omega), int_int, mod_ok (j := 2305843009213693951) (by omega), hA]; (try simp -implicitDefEqProofs only [ev_fn, fin_rt, fin_nx, fin_err, ev_seq, sq_nx, sq_rt, sq_err, ev_cNil, ev_set, ev_expr, ev_rt, ev_rtN, ev_if, ev_for, ev_asg, gt_some, ev_onV, ev_onB, bd_ok, bd_err, sr_ok, sr_err, bk_bl, ik_int, of_some, ev_ret, ev_bind, ev_var, ev_C, ev_op, ev_call, ev_cb, ev_tst, ev_eTst, ev_and, ev_or, ev_not, ev_eIf, ev_bAnd, ev_bOr, ev_bNot, ev_chain, ev_nil, ev_cons, ev_tup, ev_lst, ev_new, ev_neg, ev_fld, ev_sl, ev_oNo, ev_oYes, ev_bTrue, ev_lc, ev_it, ev_rng, ev_enum, lt_int, le_int, gt_int, ge_int, add_int, sub_int, gN_ap, isNoneF, notNoneF, List.map_cons, List.map_nil, List.cons_append, List.nil_append, List.append_nil, List.length_cons, List.length_nil, List.length_map, wipeE, Nat.reduceAdd, Nat.reduceSub, Nat.reduceLeDiff, List.replicate, List.getElem?_cons_zero, List.getElem?_cons_succ, Option.join_some, Option.join_none, List.set_cons_zero, List.set_cons_succ, gc_same, decide_true, decide_false, ev_fldS, ev_put, ev_app, if_true, if_false, ite_true, ite_false, Bool.false_eq_true, Bool.not_true, Bool.not_false, reduceIte, sizeLine_eq, ev_notT, ev_tru, ev_rev, ev_srtSet, ev_fmtS, ev_joinS_nil, ev_joinS, ev_eqO, ev_strO])))
    ((try simp -implicitDefEqProofs only [ev_fn, fin_rt, fin_nx, fin_err, ev_seq, sq_nx, sq_rt, sq_err, ev_cNil, ev_set, ev_expr, ev_rt, ev_rtN, ev_if, ev_for, ev_asg, gt_some, ev_onV, ev_onB, bd_ok, bd_err, sr_ok, sr_err, bk_bl, ik_int, of_some, ev_ret, ev_bind, ev_var, ev_C, ev_op, ev_call, ev_cb, ev_tst, ev_eTst, ev_and, ev_or, ev_not, ev_eIf, ev_bAnd, ev_bOr, ev_bNot, ev_chain, ev_nil, ev_cons, ev_tup, ev_lst, ev_new, ev_neg, ev_fld, ev_sl, ev_oNo, ev_oYes, ev_bTrue, ev_lc, ev_it, ev_rng, ev_enum, lt_int, le_int, gt_int, ge_int, add_int, sub_int, gN_ap, isNoneF, notNoneF, List.map_cons, List.map_nil, List.cons_append, List.nil_append, List.append_nil, List.length_cons, List.length_nil, List.length_map, wipeE, Nat.reduceAdd, Nat.reduceSub, Nat.reduceLeDiff, List.replicate, List.getElem?_cons_zero, List.getElem?_cons_succ, Option.join_some, Option.join_none, List.set_cons_zero, List.set_cons_succ, gc_same, decide_true, decide_false, ev_fldS, ev_put, ev_app, if_true, if_false, ite_true, ite_false, Bool.false_eq_true, Bool.not_true, Bool.not_false, reduceIte, sizeLine_eq, ev_notT, ev_tru, ev_rev, ev_srtSet, ev_fmtS, ev_joinS_nil, ev_joinS, ev_eqO, ev_strO]); repeat (simp -implicitDefEqProofs only [mul_ok (i := A) (j := A) (by omega) (by omega) (by omega) (by omega), mul_ok (i := 127) (j := c + 1) (by omega) (by omega) (by omega) (by omega), bag_ix2, int_int, mod_ok (j := 2305843009213693921) (by omega)]; (try simp -implicitDefEqProofs only [ev_fn, fin_rt, fin_nx, fin_err, ev_seq, sq_nx, sq_rt, sq_err, ev_cNil, ev_set, ev_expr, ev_rt, ev_rtN, ev_if, ev_for, ev_asg, gt_some, ev_onV, ev_onB, bd_ok, bd_err, sr_ok, sr_err, bk_bl, ik_int, of_some, ev_ret, ev_bind, ev_var, ev_C, ev_op, ev_call, ev_cb, ev_tst, ev_eTst, ev_and, ev_or, ev_not, ev_eIf, ev_bAnd, ev_bOr, ev_bNot, ev_chain, ev_nil, ev_cons, ev_tup, ev_lst, ev_new, ev_neg, ev_fld, ev_sl, ev_oNo, ev_oYes, ev_bTrue, ev_lc, ev_it, ev_rng, ev_enum, lt_int, le_int, gt_int, ge_int, add_int, sub_int, gN_ap, isNoneF, notNoneF, List.map_cons, List.map_nil, List.cons_append, List.nil_append, List.append_nil, List.length_cons, List.length_nil, List.length_map, wipeE, Nat.reduceAdd, Nat.reduceSub, Nat.reduceLeDiff, List.replicate, List.getElem?_cons_zero, List.getElem?_cons_succ, Option.join_some, Option.join_none, List.set_cons_zero, List.set_cons_succ, gc_same, decide_true, decide_false, ev_fldS, ev_put, ev_app, if_true, if_false, ite_true, ite_false, Bool.false_eq_true, Bool.not_true, Bool.not_false, reduceIte, sizeLine_eq, ev_notT, ev_tru, ev_rev, ev_srtSet, ev_fmtS, ev_joinS_nil, ev_joinS, ev_eqO, ev_strO])))
    ((try simp -implicitDefEqProofs only [ev_fn, fin_rt, fin_nx, fin_err, ev_seq, sq_nx, sq_rt, sq_err, ev_cNil, ev_set, ev_expr, ev_rt, ev_rtN, ev_if, ev_for, ev_asg, gt_some, ev_onV, ev_onB, bd_ok, bd_err, sr_ok, sr_err, bk_bl, ik_int, of_some, ev_ret, ev_bind, ev_var, ev_C, ev_op, ev_call, ev_cb, ev_tst, ev_eTst, ev_and, ev_or, ev_not, ev_eIf, ev_bAnd, ev_bOr, ev_bNot, ev_chain, ev_nil, ev_cons, ev_tup, ev_lst, ev_new, ev_neg, ev_fld, ev_sl, ev_oNo, ev_oYes, ev_bTrue, ev_lc, ev_it, ev_rng, ev_enum, lt_int, le_int, gt_int, ge_int, add_int, sub_int, gN_ap, isNoneF, notNoneF, List.map_cons, List.map_nil, List.cons_append, List.nil_append, List.append_nil, List.length_cons, List.length_nil, List.length_map, wipeE, Nat.reduceAdd, Nat.reduceSub, Nat.reduceLeDiff, List.replicate, List.getElem?_cons_zero, List.getElem?_cons_succ, Option.join_some, Option.join_none, List.set_cons_zero, List.set_cons_succ, gc_same, decide_true, decide_false, ev_fldS, ev_put, ev_app, if_true, if_false, ite_true, ite_false, Bool.false_eq_true, Bool.not_true, Bool.not_false, reduceIte, sizeLine_eq, ev_notT, ev_tru, ev_rev, ev_srtSet, ev_fmtS, ev_joinS_nil, ev_joinS, ev_eqO, ev_strO]); repeat (simp -implicitDefEqProofs only [mul_ok (j := 32452847) B0 (by omega) (by omega) (by omega), div_ok (j := 65551) (by omega) (by omega), int_int, mod_ok t0, gl]; (try simp -implicitDefEqProofs only [ev_fn, fin_rt, fin_nx, fin_err, ev_seq, sq_nx, sq_rt, sq_err, ev_cNil, ev_set, ev_expr, ev_rt, ev_rtN, ev_if, ev_for, ev_asg, gt_some, ev_onV, ev_onB, bd_ok, bd_err, sr_ok, sr_err, bk_bl, ik_int, of_some, ev_ret, ev_bind, ev_var, ev_C, ev_op, ev_call, ev_cb, ev_tst, ev_eTst, ev_and, ev_or, ev_not, ev_eIf, ev_bAnd, ev_bOr, ev_bNot, ev_chain, ev_nil, ev_cons, ev_tup, ev_lst, ev_new, ev_neg, ev_fld, ev_sl, ev_oNo, ev_oYes, ev_bTrue, ev_lc, ev_it, ev_rng, ev_enum, lt_int, le_int, gt_int, ge_int, add_int, sub_int, gN_ap, isNoneF, notNoneF, List.map_cons, List.map_nil, List.cons_append, List.nil_append, List.append_nil, List.length_cons, List.length_nil, List.length_map, wipeE, Nat.reduceAdd, Nat.reduceSub, Nat.reduceLeDiff, List.replicate, List.getElem?_cons_zero, List.getElem?_cons_succ, Option.join_some, Option.join_none, List.set_cons_zero, List.set_cons_succ, gc_same, decide_true, decide_false, ev_fldS, ev_put, ev_app, if_true, if_false, ite_true, ite_false, Bool.false_eq_true, Bool.not_true, Bool.not_false, reduceIte, sizeLine_eq, ev_notT, ev_tru, ev_rev, ev_srtSet, ev_fmtS, ev_joinS_nil, ev_joinS, ev_eqO, ev_strO])))
end My

set_option Elab.async false
set_option linter.all false
set_option maxRecDepth 100000
set_option maxHeartbeats 4000000
namespace My
open PySem L2 Sim
variable (a : Ads) (hb : SHp)
structure Rdr where
  L : Nat
  steps : List (List Nat)
  acc : List Nat
abbrev Rdr.n (r : Rdr) : Nat := r.steps.length
structure Rdr.Ok (r : Rdr) : Prop where
  l1 : 1 ≤ r.L
  l2 : r.L ≤ 64
  n1 : 1 ≤ r.n
  n2 : r.n ≤ 512
  row : ∀ s ∈ r.steps, s.length = r.L ∧ ∀ x ∈ s, x < r.n
  acc : ∀ x ∈ r.acc, x < r.n
  asc : r.acc.Pairwise (· < ·)
abbrev Rdr.sV (r : Rdr) : SV := .tup (r.steps.map natsV)
abbrev Rdr.T (r : Rdr) : SV := .tup [nv r.L, r.sV, natsV r.acc]
theorem v_pickN {k : Nat} {z m c : Int} (b : Bag k z m c) (hk : k < 2 ^ 80) (t : Nat) (t0 : 0 < t) (t1 : t < 2 ^ 80) : ∃ z' c', ∃ p : Nat, D_u_law_pick a [.ref hb.length, nv t] (bag hb z m c) = .ok (nv p) (bag hb z' m c') ∧ p < t ∧ Bag (k + 1) z' m c' := by
  obtain ⟨z', c', p, q, p0, p1, b'⟩ := v_pick a hb b hk t (by omega) (by omega)
  obtain ⟨y, rfl⟩ := Int.eq_ofNat_of_zero_le p0
  exact ⟨z', c', y, q, by omega, b'⟩
theorem v_one_of {k : Nat} {z m c : Int} (b : Bag k z m c) (hk : k < 2 ^ 80) (xs : List SV) (h0 : 0 < xs.length) (h1 : xs.length < 1000) :
    ∃ z' c', ∃ x, x ∈ xs ∧ D_u_law_one_of a [.ref hb.length, .rls xs] (bag hb z m c) = .ok x (bag hb z' m c') ∧ Bag (k + 1) z' m c' := by
  obtain ⟨z', c', p, q, p1, b'⟩ := v_pickN a hb b hk xs.length h0 (by omega)
  have ln : lenF [.rls xs] (bag hb z m c) = some (nv xs.length) := len_lst rfl rfl
  have ix : ixF (.rls xs) (nv p) (bag hb z' m c') = some xs[p] := L2.atI_nat (List.getElem?_eq_getElem p1)
  refine ⟨z', c', xs[p], List.getElem_mem p1, ?_, b'⟩
  simp only [D_u_law_one_of, B_u_law_one_of]
  ((try simp -implicitDefEqProofs only [ev_fn, fin_rt, fin_nx, fin_err, ev_seq, sq_nx, sq_rt, sq_err, ev_cNil, ev_set, ev_expr, ev_rt, ev_rtN, ev_if, ev_for, ev_asg, gt_some, ev_onV, ev_onB, bd_ok, bd_err, sr_ok, sr_err, bk_bl, ik_int, of_some, ev_ret, ev_bind, ev_var, ev_C, ev_op, ev_call, ev_cb, ev_tst, ev_eTst, ev_and, ev_or, ev_not, ev_eIf, ev_bAnd, ev_bOr, ev_bNot, ev_chain, ev_nil, ev_cons, ev_tup, ev_lst, ev_new, ev_neg, ev_fld, ev_sl, ev_oNo, ev_oYes, ev_bTrue, ev_lc, ev_it, ev_rng, ev_enum, lt_int, le_int, gt_int, ge_int, add_int, sub_int, gN_ap, isNoneF, notNoneF, List.map_cons, List.map_nil, List.cons_append, List.nil_append, List.append_nil, List.length_cons, List.length_nil, List.length_map, wipeE, Nat.reduceAdd, Nat.reduceSub, Nat.reduceLeDiff, List.replicate, List.getElem?_cons_zero, List.getElem?_cons_succ, Option.join_some, Option.join_none, List.set_cons_zero, List.set_cons_succ, gc_same, decide_true, decide_false, ev_fldS, ev_put, ev_app, if_true, if_false, ite_true, ite_false, Bool.false_eq_true, Bool.not_true, Bool.not_false, reduceIte, sizeLine_eq, ev_notT, ev_tru, ev_rev, ev_srtSet, ev_fmtS, ev_joinS_nil, ev_joinS, ev_eqO, ev_strO]); repeat (simp -implicitDefEqProofs only [ln, q, ix]; (try simp -implicitDefEqProofs only [ev_fn, fin_rt, fin_nx, fin_err, ev_seq, sq_nx, sq_rt, sq_err, ev_cNil, ev_set, ev_expr, ev_rt, ev_rtN, ev_if, ev_for, ev_asg, gt_some, ev_onV, ev_onB, bd_ok, bd_err, sr_ok, sr_err, bk_bl, ik_int, of_some, ev_ret, ev_bind, ev_var, ev_C, ev_op, ev_call, ev_cb, ev_tst, ev_eTst, ev_and, ev_or, ev_not, ev_eIf, ev_bAnd, ev_bOr, ev_bNot, ev_chain, ev_nil, ev_cons, ev_tup, ev_lst, ev_new, ev_neg, ev_fld, ev_sl, ev_oNo, ev_oYes, ev_bTrue, ev_lc, ev_it, ev_rng, ev_enum, lt_int, le_int, gt_int, ge_int, add_int, sub_int, gN_ap, isNoneF, notNoneF, List.map_cons, List.map_nil, List.cons_append, List.nil_append, List.append_nil, List.length_cons, List.length_nil, List.length_map, wipeE, Nat.reduceAdd, Nat.reduceSub, Nat.reduceLeDiff, List.replicate, List.getElem?_cons_zero, List.getElem?_cons_succ, Option.join_some, Option.join_none, List.set_cons_zero, List.set_cons_succ, gc_same, decide_true, decide_false, ev_fldS, ev_put, ev_app, if_true, if_false, ite_true, ite_false, Bool.false_eq_true, Bool.not_true, Bool.not_false, reduceIte, sizeLine_eq, ev_notT, ev_tru, ev_rev, ev_srtSet, ev_fmtS, ev_joinS_nil, ev_joinS, ev_eqO, ev_strO])))
  exact gc_len (by simp [bag])
theorem compL_cons {g : SV → Sim.Env → Option Sim.Env} {el : Sim.Env → M SV} {e e1 : Sim.Env} {s v : SV} {ss acc : List SV} {h h2 : SHp} (q : g s e = some e1) (b : el e1 h = .ok v h2) (l : acc.length < sizeLine) :
    compL g bTrue el .no e (s :: ss) acc h = compL g bTrue el .no e ss (acc ++ [v]) h2 := by
  simp only [compL, Gd.ok, if_true, q, M.bindN, bTrue, M.ret, b]
  rw [if_pos l]
theorem comp_bag (P : SV → Prop) (d K : Nat) {g : SV → Sim.Env → Option Sim.Env} {el : Sim.Env → M SV} {e : Sim.Env} {m : Int}
    (H : ∀ s z c k, Bag k z m c → k < K → ∃ e1 v z' c', g s e = some e1 ∧ el e1 (bag hb z m c) = .ok v (bag hb z' m c') ∧ P v ∧ Bag (k + d) z' m c') :
    ∀ (items acc : List SV) (k : Nat) (z c : Int), Bag k z m c → k + d * items.length < K → acc.length + items.length < 1000 → (∀ v ∈ acc, P v) →
      ∃ acc' z' c', compL g bTrue el .no e items acc (bag hb z m c) = .ok acc' (bag hb z' m c') ∧ acc'.length = acc.length + items.length ∧ (∀ v ∈ acc', P v) ∧ Bag (k + d * items.length) z' m c'
  | [], acc, k, z, c, b, _, _, hp => ⟨acc, z, c, by simp [compL, Gd.ok], by simp, hp, by simpa using b⟩
  | s :: ss, acc, k, z, c, b, hk, hl, hp => by
    simp only [List.length_cons] at hk hl ⊢
    rw [Nat.mul_add] at hk ⊢
    obtain ⟨e1, v, z', c', q1, q2, q3, b'⟩ := H s z c k b (by omega)
    obtain ⟨acc', z2, c2, r1, r2, r3, r4⟩ := comp_bag P d K H ss (acc ++ [v]) (k + d) z' c' b' (by omega) (by simp; omega) (fun w hw => by
      rcases List.mem_append.mp hw with h | h
      · exact hp w h
      · simp at h; subst h; exact q3)
    refine ⟨acc', z2, c2, (compL_cons q1 q2 (by rw [sizeLine_eq]; omega)).trans r1, by rw [r2]; simp; omega, r3, ?_⟩
    exact r4.mono (by omega)
theorem nats_of {n : Nat} : ∀ {xs : List SV}, (∀ v ∈ xs, ∃ p : Nat, v = nv p ∧ p < n) → ∃ ps : List Nat, xs = ps.map nv ∧ ∀ p ∈ ps, p < n
  | [], _ => ⟨[], rfl, by simp⟩
  | x :: xs, h => by
    obtain ⟨p, e, hp⟩ := h x (by simp)
    obtain ⟨ps, e2, hps⟩ := nats_of (n := n) (xs := xs) fun v hv => h v (by simp [hv])
    exact ⟨p :: ps, by rw [e, e2]; rfl, fun q hq => by
      rcases List.mem_cons.mp hq with h | h
      · subst h; exact hp
      · exact hps q h⟩
theorem rngL_len (n : Nat) : (rngL 0 n).length = n := by simp [rngL]
/-- so many draws below a bound -/
theorem picks {k n t : Nat} {z m c : Int} (b : Bag k z m c) (hk : k + n < 2 ^ 70) (hn : n < 900) (t0 : 0 < t) (t1 : t < 2 ^ 80) (i : Nat) (ce : Sim.Env → M (List SV)) (e : Sim.Env) (hc : ∀ s h, ce (e.set i (some s)) h = .ok [.ref hb.length, nv t] h) :
    ∃ z' c', ∃ ps : List Nat, compL (gN i) bTrue (eCall (D_u_law_pick a) ce) .no e (rngL 0 n) [] (bag hb z m c) = .ok (ps.map nv) (bag hb z' m c') ∧ ps.length = n ∧ (∀ p ∈ ps, p < t) ∧ Bag (k + n) z' m c' := by
  obtain ⟨acc', z', c', q1, q2, q3, q4⟩ := comp_bag hb (fun v => ∃ p : Nat, v = nv p ∧ p < t) 1 (2 ^ 70) (g := gN i) (el := eCall (D_u_law_pick a) ce) (e := e) (m := m) (fun s z c k b hk => by
    obtain ⟨z', c', p, q, p1, b'⟩ := v_pickN a hb b (by omega) t t0 t1
    refine ⟨e.set i (some s), nv p, z', c', rfl, ?_, ⟨p, rfl, p1⟩, b'⟩
    rw [ev_call, hc, bd_ok, q]) (rngL 0 n) [] k z c b (by rw [rngL_len]; omega) (by rw [rngL_len]; simp; omega) (by simp)
  obtain ⟨ps, e1, hps⟩ := nats_of q3
  subst e1
  refine ⟨z', c', ps, q1, by simpa [rngL_len] using q2, hps, ?_⟩
  rw [rngL_len, Nat.one_mul] at q4
  exact q4
theorem compL_if {g : SV → Sim.Env → Option Sim.Env} {t : Sim.Env → M Bool} {el : Sim.Env → M SV} {e e1 : Sim.Env} {s v : SV} {ss acc : List SV} {h h2 : SHp} {k : Bool} (q : g s e = some e1) (b : t e1 h = .ok k h2) (b2 : el e1 h2 = .ok v h2) (l : acc.length < sizeLine) :
    compL g t el .no e (s :: ss) acc h = compL g t el .no e ss (if k = true then acc ++ [v] else acc) h2 := by
  cases k with
  | true =>
    simp only [compL, Gd.ok, if_true, q, M.bindN, b, b2]
    rw [if_pos l]
  | false => simp only [compL, Gd.ok, if_true, q, M.bindN, b, Bool.false_eq_true, if_false]
/-- the places at which a draw says so, ascending -/
theorem some_picks {t : Sim.Env → M Bool} {e : Sim.Env} {m : Int} (i : Nat) (hi : i < e.length)
    (H : ∀ s z c k, Bag k z m c → k < 2 ^ 70 → ∃ y z' c', t (e.set i (some s)) (bag hb z m c) = .ok y (bag hb z' m c') ∧ Bag (k + 1) z' m c') :
    ∀ (xs acc : List Nat) (k : Nat) (z c : Int), Bag k z m c → k + xs.length < 2 ^ 70 → acc.length + xs.length < 1000 →
      ∃ ys z' c', List.Sublist ys xs ∧ compL (gN i) t (eVar i) .no e (xs.map nv) (acc.map nv) (bag hb z m c) = .ok ((acc ++ ys).map nv) (bag hb z' m c') ∧ Bag (k + xs.length) z' m c'
  | [], acc, k, z, c, b, _, _ => ⟨[], z, c, .slnil, by simp [compL, Gd.ok], by simpa using b⟩
  | x :: xs, acc, k, z, c, b, hk, hl => by
    simp only [List.length_cons] at hk hl ⊢
    obtain ⟨y, z1, c1, q, b1⟩ := H (nv x) z c k b (by omega)
    have ev : eVar i (e.set i (some (nv x))) (bag hb z1 m c1) = .ok (nv x) (bag hb z1 m c1) := by
      rw [ev_var, List.getElem?_set_self (by exact hi)]; rfl
    have st := compL_if (g := gN i) (ss := xs.map nv) (acc := acc.map nv) (gN_ap (n := i) (s := nv x) (e := e)) q ev (by rw [sizeLine_eq, List.length_map]; omega)
    cases y with
    | true =>
      obtain ⟨ys, z2, c2, s1, s2, s3⟩ := some_picks i hi H xs (acc ++ [x]) (k + 1) z1 c1 b1 (by omega) (by simp; omega)
      refine ⟨x :: ys, z2, c2, s1.cons₂ x, ?_, s3.mono (by omega)⟩
      rw [List.map_cons, st, if_pos rfl]
      have : (acc ++ [x]).map nv = acc.map nv ++ [nv x] := by simp
      rw [← this, s2]; simp
    | false =>
      obtain ⟨ys, z2, c2, s1, s2, s3⟩ := some_picks i hi H xs acc (k + 1) z1 c1 b1 (by omega) (by omega)
      refine ⟨ys, z2, c2, s1.cons x, ?_, s3.mono (by omega)⟩
      rw [List.map_cons, st, if_neg (by simp)]
      exact s2
theorem rngL_nv (n : Nat) : rngL 0 n = (List.range n).map nv := by simp [rngL, nv]
theorem rows_of {n L : Nat} : ∀ {xs : List SV}, (∀ v ∈ xs, ∃ row : List Nat, v = natsV row ∧ row.length = L ∧ ∀ x ∈ row, x < n) → ∃ rows : List (List Nat), xs = rows.map natsV ∧ ∀ row ∈ rows, row.length = L ∧ ∀ x ∈ row, x < n
  | [], _ => ⟨[], rfl, by simp⟩
  | x :: xs, h => by
    obtain ⟨p, e, hp⟩ := h x (by simp)
    obtain ⟨ps, e2, hps⟩ := rows_of (n := n) (L := L) (xs := xs) fun v hv => h v (by simp [hv])
    exact ⟨p :: ps, by rw [e, e2]; rfl, fun q hq => by
      rcases List.mem_cons.mp hq with h | h
      · subst h; exact hp
      · exact hps q h⟩
theorem v_re_drawn {k : Nat} {z m c : Int} (b : Bag k z m c) (L M : Nat) (hk : k < 2 ^ 60) (L0 : 1 ≤ L) (L1 : L ≤ 64) (M0 : 1 ≤ M) (M1 : M ≤ 9) :
    ∃ z' c', ∃ r : Rdr, r.Ok ∧ r.L = L ∧ r.n ≤ M ∧ D_u_law_re_drawn a [.ref hb.length, nv L, nv M] (bag hb z m c) = .ok r.T (bag hb z' m c') ∧ Bag (k + 1000) z' m c' := by
  obtain ⟨z1, c1, p, q, p1, b1⟩ := v_pickN a hb b (by omega) M (by omega) (by omega)
  have gl : ∀ v z' c', gc true (bag hb z m c) v (bag hb z' m c') = .ok v (bag hb z' m c') := fun v z' c' => gc_len (by simp [bag])
  have e1 : SV.int (1 + (p : Nat)) = nv (p + 1) := by simp [nv]; omega
  obtain ⟨acc', z2, c2, r1, r2, r3, b2⟩ := comp_bag hb (fun v => ∃ row : List Nat, v = natsV row ∧ row.length = L ∧ ∀ x ∈ row, x < p + 1) L (2 ^ 69) (g := gN 5)
    (el := eCB tupleF (aCons (eLc (cRng1 (eVar 1)) [6] (gN 6) bTrue (eCall (D_u_law_pick a) (aCons (eVar 0) (aCons (eVar 3) aNil)))) aNil)) (e := [some (.ref hb.length), some (nv L), some (nv M), some (nv (p + 1)), none, none, none]) (m := m)
    (fun s z c k b hk => by
      obtain ⟨z', c', ps, q1, q2, q3, b'⟩ := picks a hb b (n := L) (t := p + 1) (by omega) (by omega) (by omega) (by omega) 6 (aCons (eVar 0) (aCons (eVar 3) aNil)) [some (.ref hb.length), some (nv L), some (nv M), some (nv (p + 1)), none, some s, none] (fun s h => by (try simp -implicitDefEqProofs only [ev_fn, fin_rt, fin_nx, fin_err, ev_seq, sq_nx, sq_rt, sq_err, ev_cNil, ev_set, ev_expr, ev_rt, ev_rtN, ev_if, ev_for, ev_asg, gt_some, ev_onV, ev_onB, bd_ok, bd_err, sr_ok, sr_err, bk_bl, ik_int, of_some, ev_ret, ev_bind, ev_var, ev_C, ev_op, ev_call, ev_cb, ev_tst, ev_eTst, ev_and, ev_or, ev_not, ev_eIf, ev_bAnd, ev_bOr, ev_bNot, ev_chain, ev_nil, ev_cons, ev_tup, ev_lst, ev_new, ev_neg, ev_fld, ev_sl, ev_oNo, ev_oYes, ev_bTrue, ev_lc, ev_it, ev_rng, ev_enum, lt_int, le_int, gt_int, ge_int, add_int, sub_int, gN_ap, isNoneF, notNoneF, List.map_cons, List.map_nil, List.cons_append, List.nil_append, List.append_nil, List.length_cons, List.length_nil, List.length_map, wipeE, Nat.reduceAdd, Nat.reduceSub, Nat.reduceLeDiff, List.replicate, List.getElem?_cons_zero, List.getElem?_cons_succ, Option.join_some, Option.join_none, List.set_cons_zero, List.set_cons_succ, gc_same, decide_true, decide_false, ev_fldS, ev_put, ev_app, if_true, if_false, ite_true, ite_false, Bool.false_eq_true, Bool.not_true, Bool.not_false, reduceIte, sizeLine_eq, ev_notT, ev_tru, ev_rev, ev_srtSet, ev_fmtS, ev_joinS_nil, ev_joinS, ev_eqO, ev_strO]))
      refine ⟨_, natsV ps, z', c', rfl, ?_, ⟨ps, rfl, q2, q3⟩, b'⟩
      (try simp -implicitDefEqProofs only [ev_fn, fin_rt, fin_nx, fin_err, ev_seq, sq_nx, sq_rt, sq_err, ev_cNil, ev_set, ev_expr, ev_rt, ev_rtN, ev_if, ev_for, ev_asg, gt_some, ev_onV, ev_onB, bd_ok, bd_err, sr_ok, sr_err, bk_bl, ik_int, of_some, ev_ret, ev_bind, ev_var, ev_C, ev_op, ev_call, ev_cb, ev_tst, ev_eTst, ev_and, ev_or, ev_not, ev_eIf, ev_bAnd, ev_bOr, ev_bNot, ev_chain, ev_nil, ev_cons, ev_tup, ev_lst, ev_new, ev_neg, ev_fld, ev_sl, ev_oNo, ev_oYes, ev_bTrue, ev_lc, ev_it, ev_rng, ev_enum, lt_int, le_int, gt_int, ge_int, add_int, sub_int, gN_ap, isNoneF, notNoneF, List.map_cons, List.map_nil, List.cons_append, List.nil_append, List.append_nil, List.length_cons, List.length_nil, List.length_map, wipeE, Nat.reduceAdd, Nat.reduceSub, Nat.reduceLeDiff, List.replicate, List.getElem?_cons_zero, List.getElem?_cons_succ, Option.join_some, Option.join_none, List.set_cons_zero, List.set_cons_succ, gc_same, decide_true, decide_false, ev_fldS, ev_put, ev_app, if_true, if_false, ite_true, ite_false, Bool.false_eq_true, Bool.not_true, Bool.not_false, reduceIte, sizeLine_eq, ev_notT, ev_tru, ev_rev, ev_srtSet, ev_fmtS, ev_joinS_nil, ev_joinS, ev_eqO, ev_strO])
      rw [rgF_int (n := L) (by omega) rfl]
      ((try simp -implicitDefEqProofs only [ev_fn, fin_rt, fin_nx, fin_err, ev_seq, sq_nx, sq_rt, sq_err, ev_cNil, ev_set, ev_expr, ev_rt, ev_rtN, ev_if, ev_for, ev_asg, gt_some, ev_onV, ev_onB, bd_ok, bd_err, sr_ok, sr_err, bk_bl, ik_int, of_some, ev_ret, ev_bind, ev_var, ev_C, ev_op, ev_call, ev_cb, ev_tst, ev_eTst, ev_and, ev_or, ev_not, ev_eIf, ev_bAnd, ev_bOr, ev_bNot, ev_chain, ev_nil, ev_cons, ev_tup, ev_lst, ev_new, ev_neg, ev_fld, ev_sl, ev_oNo, ev_oYes, ev_bTrue, ev_lc, ev_it, ev_rng, ev_enum, lt_int, le_int, gt_int, ge_int, add_int, sub_int, gN_ap, isNoneF, notNoneF, List.map_cons, List.map_nil, List.cons_append, List.nil_append, List.append_nil, List.length_cons, List.length_nil, List.length_map, wipeE, Nat.reduceAdd, Nat.reduceSub, Nat.reduceLeDiff, List.replicate, List.getElem?_cons_zero, List.getElem?_cons_succ, Option.join_some, Option.join_none, List.set_cons_zero, List.set_cons_succ, gc_same, decide_true, decide_false, ev_fldS, ev_put, ev_app, if_true, if_false, ite_true, ite_false, Bool.false_eq_true, Bool.not_true, Bool.not_false, reduceIte, sizeLine_eq, ev_notT, ev_tru, ev_rev, ev_srtSet, ev_fmtS, ev_joinS_nil, ev_joinS, ev_eqO, ev_strO]); repeat (simp -implicitDefEqProofs only [q1, tup_rls]; (try simp -implicitDefEqProofs only [ev_fn, fin_rt, fin_nx, fin_err, ev_seq, sq_nx, sq_rt, sq_err, ev_cNil, ev_set, ev_expr, ev_rt, ev_rtN, ev_if, ev_for, ev_asg, gt_some, ev_onV, ev_onB, bd_ok, bd_err, sr_ok, sr_err, bk_bl, ik_int, of_some, ev_ret, ev_bind, ev_var, ev_C, ev_op, ev_call, ev_cb, ev_tst, ev_eTst, ev_and, ev_or, ev_not, ev_eIf, ev_bAnd, ev_bOr, ev_bNot, ev_chain, ev_nil, ev_cons, ev_tup, ev_lst, ev_new, ev_neg, ev_fld, ev_sl, ev_oNo, ev_oYes, ev_bTrue, ev_lc, ev_it, ev_rng, ev_enum, lt_int, le_int, gt_int, ge_int, add_int, sub_int, gN_ap, isNoneF, notNoneF, List.map_cons, List.map_nil, List.cons_append, List.nil_append, List.append_nil, List.length_cons, List.length_nil, List.length_map, wipeE, Nat.reduceAdd, Nat.reduceSub, Nat.reduceLeDiff, List.replicate, List.getElem?_cons_zero, List.getElem?_cons_succ, Option.join_some, Option.join_none, List.set_cons_zero, List.set_cons_succ, gc_same, decide_true, decide_false, ev_fldS, ev_put, ev_app, if_true, if_false, ite_true, ite_false, Bool.false_eq_true, Bool.not_true, Bool.not_false, reduceIte, sizeLine_eq, ev_notT, ev_tru, ev_rev, ev_srtSet, ev_fmtS, ev_joinS_nil, ev_joinS, ev_eqO, ev_strO])))) (rngL 0 (p + 1)) [] (k + 1) z1 c1 b1 (by rw [rngL_len]; have := Nat.mul_le_mul L1 (show p + 1 ≤ 9 by omega); omega) (by rw [rngL_len]; simp; omega) (by simp)
  rw [rngL_len] at b2
  have r2' : acc'.length = p + 1 := by rw [r2, rngL_len]; simp
  obtain ⟨rows, er, hr⟩ := rows_of r3
  subst er
  obtain ⟨ys, z3, c3, s1, s2, b3⟩ := some_picks hb (t := eTst (eOp (eqF false) (eCall (D_u_law_pick a) (aCons (eVar 0) (aCons (eC (.int 2)) aNil))) (eC (.int 0)))) (e := [some (.ref hb.length), some (nv L), some (nv M), some (nv (p + 1)), some (.rls (rows.map natsV)), none, none]) (m := m) 5 (by simp)
    (fun s z c k b hk => by
      obtain ⟨z', c', p, q, p1, b'⟩ := v_pickN a hb b (by omega) 2 (by omega) (by omega)
      have q' : D_u_law_pick a [.ref hb.length, .int 2] (bag hb z m c) = .ok (nv p) (bag hb z' m c') := q
      refine ⟨decide ((p : Int) = 0), z', c', ?_, b'⟩
      ((try simp -implicitDefEqProofs only [ev_fn, fin_rt, fin_nx, fin_err, ev_seq, sq_nx, sq_rt, sq_err, ev_cNil, ev_set, ev_expr, ev_rt, ev_rtN, ev_if, ev_for, ev_asg, gt_some, ev_onV, ev_onB, bd_ok, bd_err, sr_ok, sr_err, bk_bl, ik_int, of_some, ev_ret, ev_bind, ev_var, ev_C, ev_op, ev_call, ev_cb, ev_tst, ev_eTst, ev_and, ev_or, ev_not, ev_eIf, ev_bAnd, ev_bOr, ev_bNot, ev_chain, ev_nil, ev_cons, ev_tup, ev_lst, ev_new, ev_neg, ev_fld, ev_sl, ev_oNo, ev_oYes, ev_bTrue, ev_lc, ev_it, ev_rng, ev_enum, lt_int, le_int, gt_int, ge_int, add_int, sub_int, gN_ap, isNoneF, notNoneF, List.map_cons, List.map_nil, List.cons_append, List.nil_append, List.append_nil, List.length_cons, List.length_nil, List.length_map, wipeE, Nat.reduceAdd, Nat.reduceSub, Nat.reduceLeDiff, List.replicate, List.getElem?_cons_zero, List.getElem?_cons_succ, Option.join_some, Option.join_none, List.set_cons_zero, List.set_cons_succ, gc_same, decide_true, decide_false, ev_fldS, ev_put, ev_app, if_true, if_false, ite_true, ite_false, Bool.false_eq_true, Bool.not_true, Bool.not_false, reduceIte, sizeLine_eq, ev_notT, ev_tru, ev_rev, ev_srtSet, ev_fmtS, ev_joinS_nil, ev_joinS, ev_eqO, ev_strO]); repeat (simp -implicitDefEqProofs only [q', eqF_int]; (try simp -implicitDefEqProofs only [ev_fn, fin_rt, fin_nx, fin_err, ev_seq, sq_nx, sq_rt, sq_err, ev_cNil, ev_set, ev_expr, ev_rt, ev_rtN, ev_if, ev_for, ev_asg, gt_some, ev_onV, ev_onB, bd_ok, bd_err, sr_ok, sr_err, bk_bl, ik_int, of_some, ev_ret, ev_bind, ev_var, ev_C, ev_op, ev_call, ev_cb, ev_tst, ev_eTst, ev_and, ev_or, ev_not, ev_eIf, ev_bAnd, ev_bOr, ev_bNot, ev_chain, ev_nil, ev_cons, ev_tup, ev_lst, ev_new, ev_neg, ev_fld, ev_sl, ev_oNo, ev_oYes, ev_bTrue, ev_lc, ev_it, ev_rng, ev_enum, lt_int, le_int, gt_int, ge_int, add_int, sub_int, gN_ap, isNoneF, notNoneF, List.map_cons, List.map_nil, List.cons_append, List.nil_append, List.append_nil, List.length_cons, List.length_nil, List.length_map, wipeE, Nat.reduceAdd, Nat.reduceSub, Nat.reduceLeDiff, List.replicate, List.getElem?_cons_zero, List.getElem?_cons_succ, Option.join_some, Option.join_none, List.set_cons_zero, List.set_cons_succ, gc_same, decide_true, decide_false, ev_fldS, ev_put, ev_app, if_true, if_false, ite_true, ite_false, Bool.false_eq_true, Bool.not_true, Bool.not_false, reduceIte, sizeLine_eq, ev_notT, ev_tru, ev_rev, ev_srtSet, ev_fmtS, ev_joinS_nil, ev_joinS, ev_eqO, ev_strO])))) (List.range (p + 1)) [] _ z2 c2 b2 (by simp; have := Nat.mul_le_mul L1 (show p + 1 ≤ 9 by omega); omega) (by simp; omega)
  have hrn : rows.length = p + 1 := by simpa using r2'
  have sub : ys.Pairwise (· < ·) := List.Pairwise.sublist s1 (List.pairwise_lt_range (n := p + 1))
  have subm : ∀ x ∈ ys, x < p + 1 := fun x hx => by have := s1.subset hx; simpa using this
  refine ⟨z3, c3, ⟨L, rows, ys⟩, ⟨L0, L1, by show 1 ≤ rows.length; omega, by show rows.length ≤ 512; omega, fun s hs => by have := hr s hs; exact ⟨this.1, fun x hx => by show x < rows.length; have := this.2 x hx; omega⟩, fun x hx => by show x < rows.length; have := subm x hx; omega, sub⟩, rfl, by show rows.length ≤ M; omega, ?_, b3.mono (by simp; have := Nat.mul_le_mul L1 (show p + 1 ≤ 9 by omega); omega)⟩
  simp only [List.map_nil, List.nil_append] at s2
  simp only [D_u_law_re_drawn, B_u_law_re_drawn]
  ((try simp -implicitDefEqProofs only [ev_fn, fin_rt, fin_nx, fin_err, ev_seq, sq_nx, sq_rt, sq_err, ev_cNil, ev_set, ev_expr, ev_rt, ev_rtN, ev_if, ev_for, ev_asg, gt_some, ev_onV, ev_onB, bd_ok, bd_err, sr_ok, sr_err, bk_bl, ik_int, of_some, ev_ret, ev_bind, ev_var, ev_C, ev_op, ev_call, ev_cb, ev_tst, ev_eTst, ev_and, ev_or, ev_not, ev_eIf, ev_bAnd, ev_bOr, ev_bNot, ev_chain, ev_nil, ev_cons, ev_tup, ev_lst, ev_new, ev_neg, ev_fld, ev_sl, ev_oNo, ev_oYes, ev_bTrue, ev_lc, ev_it, ev_rng, ev_enum, lt_int, le_int, gt_int, ge_int, add_int, sub_int, gN_ap, isNoneF, notNoneF, List.map_cons, List.map_nil, List.cons_append, List.nil_append, List.append_nil, List.length_cons, List.length_nil, List.length_map, wipeE, Nat.reduceAdd, Nat.reduceSub, Nat.reduceLeDiff, List.replicate, List.getElem?_cons_zero, List.getElem?_cons_succ, Option.join_some, Option.join_none, List.set_cons_zero, List.set_cons_succ, gc_same, decide_true, decide_false, ev_fldS, ev_put, ev_app, if_true, if_false, ite_true, ite_false, Bool.false_eq_true, Bool.not_true, Bool.not_false, reduceIte, sizeLine_eq, ev_notT, ev_tru, ev_rev, ev_srtSet, ev_fmtS, ev_joinS_nil, ev_joinS, ev_eqO, ev_strO]); repeat (simp -implicitDefEqProofs only [q]; (try simp -implicitDefEqProofs only [ev_fn, fin_rt, fin_nx, fin_err, ev_seq, sq_nx, sq_rt, sq_err, ev_cNil, ev_set, ev_expr, ev_rt, ev_rtN, ev_if, ev_for, ev_asg, gt_some, ev_onV, ev_onB, bd_ok, bd_err, sr_ok, sr_err, bk_bl, ik_int, of_some, ev_ret, ev_bind, ev_var, ev_C, ev_op, ev_call, ev_cb, ev_tst, ev_eTst, ev_and, ev_or, ev_not, ev_eIf, ev_bAnd, ev_bOr, ev_bNot, ev_chain, ev_nil, ev_cons, ev_tup, ev_lst, ev_new, ev_neg, ev_fld, ev_sl, ev_oNo, ev_oYes, ev_bTrue, ev_lc, ev_it, ev_rng, ev_enum, lt_int, le_int, gt_int, ge_int, add_int, sub_int, gN_ap, isNoneF, notNoneF, List.map_cons, List.map_nil, List.cons_append, List.nil_append, List.append_nil, List.length_cons, List.length_nil, List.length_map, wipeE, Nat.reduceAdd, Nat.reduceSub, Nat.reduceLeDiff, List.replicate, List.getElem?_cons_zero, List.getElem?_cons_succ, Option.join_some, Option.join_none, List.set_cons_zero, List.set_cons_succ, gc_same, decide_true, decide_false, ev_fldS, ev_put, ev_app, if_true, if_false, ite_true, ite_false, Bool.false_eq_true, Bool.not_true, Bool.not_false, reduceIte, sizeLine_eq, ev_notT, ev_tru, ev_rev, ev_srtSet, ev_fmtS, ev_joinS_nil, ev_joinS, ev_eqO, ev_strO])))
  rw [e1]
  (try simp -implicitDefEqProofs only [ev_fn, fin_rt, fin_nx, fin_err, ev_seq, sq_nx, sq_rt, sq_err, ev_cNil, ev_set, ev_expr, ev_rt, ev_rtN, ev_if, ev_for, ev_asg, gt_some, ev_onV, ev_onB, bd_ok, bd_err, sr_ok, sr_err, bk_bl, ik_int, of_some, ev_ret, ev_bind, ev_var, ev_C, ev_op, ev_call, ev_cb, ev_tst, ev_eTst, ev_and, ev_or, ev_not, ev_eIf, ev_bAnd, ev_bOr, ev_bNot, ev_chain, ev_nil, ev_cons, ev_tup, ev_lst, ev_new, ev_neg, ev_fld, ev_sl, ev_oNo, ev_oYes, ev_bTrue, ev_lc, ev_it, ev_rng, ev_enum, lt_int, le_int, gt_int, ge_int, add_int, sub_int, gN_ap, isNoneF, notNoneF, List.map_cons, List.map_nil, List.cons_append, List.nil_append, List.append_nil, List.length_cons, List.length_nil, List.length_map, wipeE, Nat.reduceAdd, Nat.reduceSub, Nat.reduceLeDiff, List.replicate, List.getElem?_cons_zero, List.getElem?_cons_succ, Option.join_some, Option.join_none, List.set_cons_zero, List.set_cons_succ, gc_same, decide_true, decide_false, ev_fldS, ev_put, ev_app, if_true, if_false, ite_true, ite_false, Bool.false_eq_true, Bool.not_true, Bool.not_false, reduceIte, sizeLine_eq, ev_notT, ev_tru, ev_rev, ev_srtSet, ev_fmtS, ev_joinS_nil, ev_joinS, ev_eqO, ev_strO])
  rw [rgF_int (n := p + 1) (by omega) rfl]
  ((try simp -implicitDefEqProofs only [ev_fn, fin_rt, fin_nx, fin_err, ev_seq, sq_nx, sq_rt, sq_err, ev_cNil, ev_set, ev_expr, ev_rt, ev_rtN, ev_if, ev_for, ev_asg, gt_some, ev_onV, ev_onB, bd_ok, bd_err, sr_ok, sr_err, bk_bl, ik_int, of_some, ev_ret, ev_bind, ev_var, ev_C, ev_op, ev_call, ev_cb, ev_tst, ev_eTst, ev_and, ev_or, ev_not, ev_eIf, ev_bAnd, ev_bOr, ev_bNot, ev_chain, ev_nil, ev_cons, ev_tup, ev_lst, ev_new, ev_neg, ev_fld, ev_sl, ev_oNo, ev_oYes, ev_bTrue, ev_lc, ev_it, ev_rng, ev_enum, lt_int, le_int, gt_int, ge_int, add_int, sub_int, gN_ap, isNoneF, notNoneF, List.map_cons, List.map_nil, List.cons_append, List.nil_append, List.append_nil, List.length_cons, List.length_nil, List.length_map, wipeE, Nat.reduceAdd, Nat.reduceSub, Nat.reduceLeDiff, List.replicate, List.getElem?_cons_zero, List.getElem?_cons_succ, Option.join_some, Option.join_none, List.set_cons_zero, List.set_cons_succ, gc_same, decide_true, decide_false, ev_fldS, ev_put, ev_app, if_true, if_false, ite_true, ite_false, Bool.false_eq_true, Bool.not_true, Bool.not_false, reduceIte, sizeLine_eq, ev_notT, ev_tru, ev_rev, ev_srtSet, ev_fmtS, ev_joinS_nil, ev_joinS, ev_eqO, ev_strO]); repeat (simp -implicitDefEqProofs only [r1, tup_rls]; (try simp -implicitDefEqProofs only [ev_fn, fin_rt, fin_nx, fin_err, ev_seq, sq_nx, sq_rt, sq_err, ev_cNil, ev_set, ev_expr, ev_rt, ev_rtN, ev_if, ev_for, ev_asg, gt_some, ev_onV, ev_onB, bd_ok, bd_err, sr_ok, sr_err, bk_bl, ik_int, of_some, ev_ret, ev_bind, ev_var, ev_C, ev_op, ev_call, ev_cb, ev_tst, ev_eTst, ev_and, ev_or, ev_not, ev_eIf, ev_bAnd, ev_bOr, ev_bNot, ev_chain, ev_nil, ev_cons, ev_tup, ev_lst, ev_new, ev_neg, ev_fld, ev_sl, ev_oNo, ev_oYes, ev_bTrue, ev_lc, ev_it, ev_rng, ev_enum, lt_int, le_int, gt_int, ge_int, add_int, sub_int, gN_ap, isNoneF, notNoneF, List.map_cons, List.map_nil, List.cons_append, List.nil_append, List.append_nil, List.length_cons, List.length_nil, List.length_map, wipeE, Nat.reduceAdd, Nat.reduceSub, Nat.reduceLeDiff, List.replicate, List.getElem?_cons_zero, List.getElem?_cons_succ, Option.join_some, Option.join_none, List.set_cons_zero, List.set_cons_succ, gc_same, decide_true, decide_false, ev_fldS, ev_put, ev_app, if_true, if_false, ite_true, ite_false, Bool.false_eq_true, Bool.not_true, Bool.not_false, reduceIte, sizeLine_eq, ev_notT, ev_tru, ev_rev, ev_srtSet, ev_fmtS, ev_joinS_nil, ev_joinS, ev_eqO, ev_strO])))
  rw [rgF_int (n := p + 1) (by omega) rfl]
  rw [rngL_nv]
  ((try simp -implicitDefEqProofs only [ev_fn, fin_rt, fin_nx, fin_err, ev_seq, sq_nx, sq_rt, sq_err, ev_cNil, ev_set, ev_expr, ev_rt, ev_rtN, ev_if, ev_for, ev_asg, gt_some, ev_onV, ev_onB, bd_ok, bd_err, sr_ok, sr_err, bk_bl, ik_int, of_some, ev_ret, ev_bind, ev_var, ev_C, ev_op, ev_call, ev_cb, ev_tst, ev_eTst, ev_and, ev_or, ev_not, ev_eIf, ev_bAnd, ev_bOr, ev_bNot, ev_chain, ev_nil, ev_cons, ev_tup, ev_lst, ev_new, ev_neg, ev_fld, ev_sl, ev_oNo, ev_oYes, ev_bTrue, ev_lc, ev_it, ev_rng, ev_enum, lt_int, le_int, gt_int, ge_int, add_int, sub_int, gN_ap, isNoneF, notNoneF, List.map_cons, List.map_nil, List.cons_append, List.nil_append, List.append_nil, List.length_cons, List.length_nil, List.length_map, wipeE, Nat.reduceAdd, Nat.reduceSub, Nat.reduceLeDiff, List.replicate, List.getElem?_cons_zero, List.getElem?_cons_succ, Option.join_some, Option.join_none, List.set_cons_zero, List.set_cons_succ, gc_same, decide_true, decide_false, ev_fldS, ev_put, ev_app, if_true, if_false, ite_true, ite_false, Bool.false_eq_true, Bool.not_true, Bool.not_false, reduceIte, sizeLine_eq, ev_notT, ev_tru, ev_rev, ev_srtSet, ev_fmtS, ev_joinS_nil, ev_joinS, ev_eqO, ev_strO]); repeat (simp -implicitDefEqProofs only [s2, tup_rls, gl]; (try simp -implicitDefEqProofs only [ev_fn, fin_rt, fin_nx, fin_err, ev_seq, sq_nx, sq_rt, sq_err, ev_cNil, ev_set, ev_expr, ev_rt, ev_rtN, ev_if, ev_for, ev_asg, gt_some, ev_onV, ev_onB, bd_ok, bd_err, sr_ok, sr_err, bk_bl, ik_int, of_some, ev_ret, ev_bind, ev_var, ev_C, ev_op, ev_call, ev_cb, ev_tst, ev_eTst, ev_and, ev_or, ev_not, ev_eIf, ev_bAnd, ev_bOr, ev_bNot, ev_chain, ev_nil, ev_cons, ev_tup, ev_lst, ev_new, ev_neg, ev_fld, ev_sl, ev_oNo, ev_oYes, ev_bTrue, ev_lc, ev_it, ev_rng, ev_enum, lt_int, le_int, gt_int, ge_int, add_int, sub_int, gN_ap, isNoneF, notNoneF, List.map_cons, List.map_nil, List.cons_append, List.nil_append, List.append_nil, List.length_cons, List.length_nil, List.length_map, wipeE, Nat.reduceAdd, Nat.reduceSub, Nat.reduceLeDiff, List.replicate, List.getElem?_cons_zero, List.getElem?_cons_succ, Option.join_some, Option.join_none, List.set_cons_zero, List.set_cons_succ, gc_same, decide_true, decide_false, ev_fldS, ev_put, ev_app, if_true, if_false, ite_true, ite_false, Bool.false_eq_true, Bool.not_true, Bool.not_false, reduceIte, sizeLine_eq, ev_notT, ev_tru, ev_rev, ev_srtSet, ev_fmtS, ev_joinS_nil, ev_joinS, ev_eqO, ev_strO])))
end My

set_option Elab.async false
set_option linter.all false
set_option maxRecDepth 100000
set_option maxHeartbeats 4000000
namespace My
open PySem L2 Sim
variable (a : Ads) (hb g : SHp)
def bagG (hb g : SHp) (z m c : Int) : SHp := hb ++ .lst [.int z, .int m, .int c] :: g
theorem bagG_ix0 (z m c : Int) : ixF (.ref hb.length) (.int 0) (bagG hb g z m c) = some (.int z) := by unfold bagG; rw [ixr0]; rfl
theorem bagG_ix1 (z m c : Int) : ixF (.ref hb.length) (.int 1) (bagG hb g z m c) = some (.int m) := by unfold bagG; rw [ixr0]; rfl
theorem bagG_ix2 (z m c : Int) : ixF (.ref hb.length) (.int 2) (bagG hb g z m c) = some (.int c) := by unfold bagG; rw [ixr0]; rfl
theorem bagG_set0 (e : Sim.Env) (v z m c : Int) : sS e (.int v) (.ref hb.length) (.int 0) (bagG hb g z m c) = .nx e (bagG hb g v m c) := by unfold sS bagG; simp only [hp_get0, show ixN [SV.int z, SV.int m, SV.int c].length 0 = some 0 from rfl, hp_set0]; rfl
theorem bagG_set2 (e : Sim.Env) (v z m c : Int) : sS e (.int v) (.ref hb.length) (.int 2) (bagG hb g z m c) = .nx e (bagG hb g z m v) := by unfold sS bagG; simp only [hp_get0, show ixN [SV.int z, SV.int m, SV.int c].length 2 = some 2 from rfl, hp_set0]; rfl
theorem v_pickG {k : Nat} {z m c : Int} (b : Bag k z m c) (hk : k < 2 ^ 80) (t : Int) (t0 : 0 < t) (t1 : t < 2 ^ 80) : ∃ z' c' p, D_u_law_pick a [.ref hb.length, .int t] (bagG hb g z m c) = .ok (.int p) (bagG hb g z' m c') ∧ 0 ≤ p ∧ p < t ∧ Bag (k + 1) z' m c' := by
  obtain ⟨z0, m0, m1, c0, c1⟩ := b
  have gl : ∀ v z' c', gc true (bagG hb g z m c) v (bagG hb g z' m c') = .ok v (bagG hb g z' m c') := fun v z' c' => gc_len (by simp [bagG])
  by_cases d : 0 < z
  · refine ⟨z / t, c, z % t, ?_, Int.emod_nonneg _ (by omega), Int.emod_lt_of_pos _ t0, ⟨Int.ediv_nonneg z0 (by omega), m0, m1, c0, by omega⟩⟩
    simp only [D_u_law_pick, B_u_law_pick]
    ((try simp -implicitDefEqProofs only [ev_fn, fin_rt, fin_nx, fin_err, ev_seq, sq_nx, sq_rt, sq_err, ev_cNil, ev_set, ev_expr, ev_rt, ev_rtN, ev_if, ev_for, ev_asg, gt_some, ev_onV, ev_onB, bd_ok, bd_err, sr_ok, sr_err, bk_bl, ik_int, of_some, ev_ret, ev_bind, ev_var, ev_C, ev_op, ev_call, ev_cb, ev_tst, ev_eTst, ev_and, ev_or, ev_not, ev_eIf, ev_bAnd, ev_bOr, ev_bNot, ev_chain, ev_nil, ev_cons, ev_tup, ev_lst, ev_new, ev_neg, ev_fld, ev_sl, ev_oNo, ev_oYes, ev_bTrue, ev_lc, ev_it, ev_rng, ev_enum, lt_int, le_int, gt_int, ge_int, add_int, sub_int, gN_ap, isNoneF, notNoneF, List.map_cons, List.map_nil, List.cons_append, List.nil_append, List.append_nil, List.length_cons, List.length_nil, List.length_map, wipeE, Nat.reduceAdd, Nat.reduceSub, Nat.reduceLeDiff, List.replicate, List.getElem?_cons_zero, List.getElem?_cons_succ, Option.join_some, Option.join_none, List.set_cons_zero, List.set_cons_succ, gc_same, decide_true, decide_false, ev_fldS, ev_put, ev_app, if_true, if_false, ite_true, ite_false, Bool.false_eq_true, Bool.not_true, Bool.not_false, reduceIte, sizeLine_eq, ev_notT, ev_tru, ev_rev, ev_srtSet, ev_fmtS, ev_joinS_nil, ev_joinS, ev_eqO, ev_strO]); repeat (simp -implicitDefEqProofs only [bagG_ix0]; (try simp -implicitDefEqProofs only [ev_fn, fin_rt, fin_nx, fin_err, ev_seq, sq_nx, sq_rt, sq_err, ev_cNil, ev_set, ev_expr, ev_rt, ev_rtN, ev_if, ev_for, ev_asg, gt_some, ev_onV, ev_onB, bd_ok, bd_err, sr_ok, sr_err, bk_bl, ik_int, of_some, ev_ret, ev_bind, ev_var, ev_C, ev_op, ev_call, ev_cb, ev_tst, ev_eTst, ev_and, ev_or, ev_not, ev_eIf, ev_bAnd, ev_bOr, ev_bNot, ev_chain, ev_nil, ev_cons, ev_tup, ev_lst, ev_new, ev_neg, ev_fld, ev_sl, ev_oNo, ev_oYes, ev_bTrue, ev_lc, ev_it, ev_rng, ev_enum, lt_int, le_int, gt_int, ge_int, add_int, sub_int, gN_ap, isNoneF, notNoneF, List.map_cons, List.map_nil, List.cons_append, List.nil_append, List.append_nil, List.length_cons, List.length_nil, List.length_map, wipeE, Nat.reduceAdd, Nat.reduceSub, Nat.reduceLeDiff, List.replicate, List.getElem?_cons_zero, List.getElem?_cons_succ, Option.join_some, Option.join_none, List.set_cons_zero, List.set_cons_succ, gc_same, decide_true, decide_false, ev_fldS, ev_put, ev_app, if_true, if_false, ite_true, ite_false, Bool.false_eq_true, Bool.not_true, Bool.not_false, reduceIte, sizeLine_eq, ev_notT, ev_tru, ev_rev, ev_srtSet, ev_fmtS, ev_joinS_nil, ev_joinS, ev_eqO, ev_strO])))
    rw [decide_eq_true d]
    ((try simp -implicitDefEqProofs only [ev_fn, fin_rt, fin_nx, fin_err, ev_seq, sq_nx, sq_rt, sq_err, ev_cNil, ev_set, ev_expr, ev_rt, ev_rtN, ev_if, ev_for, ev_asg, gt_some, ev_onV, ev_onB, bd_ok, bd_err, sr_ok, sr_err, bk_bl, ik_int, of_some, ev_ret, ev_bind, ev_var, ev_C, ev_op, ev_call, ev_cb, ev_tst, ev_eTst, ev_and, ev_or, ev_not, ev_eIf, ev_bAnd, ev_bOr, ev_bNot, ev_chain, ev_nil, ev_cons, ev_tup, ev_lst, ev_new, ev_neg, ev_fld, ev_sl, ev_oNo, ev_oYes, ev_bTrue, ev_lc, ev_it, ev_rng, ev_enum, lt_int, le_int, gt_int, ge_int, add_int, sub_int, gN_ap, isNoneF, notNoneF, List.map_cons, List.map_nil, List.cons_append, List.nil_append, List.append_nil, List.length_cons, List.length_nil, List.length_map, wipeE, Nat.reduceAdd, Nat.reduceSub, Nat.reduceLeDiff, List.replicate, List.getElem?_cons_zero, List.getElem?_cons_succ, Option.join_some, Option.join_none, List.set_cons_zero, List.set_cons_succ, gc_same, decide_true, decide_false, ev_fldS, ev_put, ev_app, if_true, if_false, ite_true, ite_false, Bool.false_eq_true, Bool.not_true, Bool.not_false, reduceIte, sizeLine_eq, ev_notT, ev_tru, ev_rev, ev_srtSet, ev_fmtS, ev_joinS_nil, ev_joinS, ev_eqO, ev_strO]); repeat (simp -implicitDefEqProofs only [bagG_ix0, int_int, mod_ok t0, div_ok t0 (by omega), ev_six, bagG_set0, gl]; (try simp -implicitDefEqProofs only [ev_fn, fin_rt, fin_nx, fin_err, ev_seq, sq_nx, sq_rt, sq_err, ev_cNil, ev_set, ev_expr, ev_rt, ev_rtN, ev_if, ev_for, ev_asg, gt_some, ev_onV, ev_onB, bd_ok, bd_err, sr_ok, sr_err, bk_bl, ik_int, of_some, ev_ret, ev_bind, ev_var, ev_C, ev_op, ev_call, ev_cb, ev_tst, ev_eTst, ev_and, ev_or, ev_not, ev_eIf, ev_bAnd, ev_bOr, ev_bNot, ev_chain, ev_nil, ev_cons, ev_tup, ev_lst, ev_new, ev_neg, ev_fld, ev_sl, ev_oNo, ev_oYes, ev_bTrue, ev_lc, ev_it, ev_rng, ev_enum, lt_int, le_int, gt_int, ge_int, add_int, sub_int, gN_ap, isNoneF, notNoneF, List.map_cons, List.map_nil, List.cons_append, List.nil_append, List.append_nil, List.length_cons, List.length_nil, List.length_map, wipeE, Nat.reduceAdd, Nat.reduceSub, Nat.reduceLeDiff, List.replicate, List.getElem?_cons_zero, List.getElem?_cons_succ, Option.join_some, Option.join_none, List.set_cons_zero, List.set_cons_succ, gc_same, decide_true, decide_false, ev_fldS, ev_put, ev_app, if_true, if_false, ite_true, ite_false, Bool.false_eq_true, Bool.not_true, Bool.not_false, reduceIte, sizeLine_eq, ev_notT, ev_tru, ev_rev, ev_srtSet, ev_fmtS, ev_joinS_nil, ev_joinS, ev_eqO, ev_strO])))
  · have k80 : c + 1 < 2 ^ 81 := by omega
    have A0 : 0 ≤ (m + 49979693 * (c + 1)) % 2305843009213693951 := Int.emod_nonneg _ (by omega)
    have A1 : (m + 49979693 * (c + 1)) % 2305843009213693951 < 2305843009213693951 := Int.emod_lt_of_pos _ (by omega)
    generalize hA : (m + 49979693 * (c + 1)) % 2305843009213693951 = A at *
    have B0 : 0 ≤ (A * A + 127 * (c + 1)) % 2305843009213693921 := Int.emod_nonneg _ (by omega)
    have B1 : (A * A + 127 * (c + 1)) % 2305843009213693921 < 2305843009213693921 := Int.emod_lt_of_pos _ (by omega)
    refine ⟨z, c + 1, (((A * A + 127 * (c + 1)) % 2305843009213693921 * 32452847 + A) / 65551) % t, ?_, Int.emod_nonneg _ (by omega), Int.emod_lt_of_pos _ t0, ⟨z0, m0, m1, by omega, by omega⟩⟩
    simp only [D_u_law_pick, B_u_law_pick]
    ((try simp -implicitDefEqProofs only [ev_fn, fin_rt, fin_nx, fin_err, ev_seq, sq_nx, sq_rt, sq_err, ev_cNil, ev_set, ev_expr, ev_rt, ev_rtN, ev_if, ev_for, ev_asg, gt_some, ev_onV, ev_onB, bd_ok, bd_err, sr_ok, sr_err, bk_bl, ik_int, of_some, ev_ret, ev_bind, ev_var, ev_C, ev_op, ev_call, ev_cb, ev_tst, ev_eTst, ev_and, ev_or, ev_not, ev_eIf, ev_bAnd, ev_bOr, ev_bNot, ev_chain, ev_nil, ev_cons, ev_tup, ev_lst, ev_new, ev_neg, ev_fld, ev_sl, ev_oNo, ev_oYes, ev_bTrue, ev_lc, ev_it, ev_rng, ev_enum, lt_int, le_int, gt_int, ge_int, add_int, sub_int, gN_ap, isNoneF, notNoneF, List.map_cons, List.map_nil, List.cons_append, List.nil_append, List.append_nil, List.length_cons, List.length_nil, List.length_map, wipeE, Nat.reduceAdd, Nat.reduceSub, Nat.reduceLeDiff, List.replicate, List.getElem?_cons_zero, List.getElem?_cons_succ, Option.join_some, Option.join_none, List.set_cons_zero, List.set_cons_succ, gc_same, decide_true, decide_false, ev_fldS, ev_put, ev_app, if_true, if_false, ite_true, ite_false, Bool.false_eq_true, Bool.not_true, Bool.not_false, reduceIte, sizeLine_eq, ev_notT, ev_tru, ev_rev, ev_srtSet, ev_fmtS, ev_joinS_nil, ev_joinS, ev_eqO, ev_strO]); repeat (simp -implicitDefEqProofs only [bagG_ix0]; (try simp -implicitDefEqProofs only [ev_fn, fin_rt, fin_nx, fin_err, ev_seq, sq_nx, sq_rt, sq_err, ev_cNil, ev_set, ev_expr, ev_rt, ev_rtN, ev_if, ev_for, ev_asg, gt_some, ev_onV, ev_onB, bd_ok, bd_err, sr_ok, sr_err, bk_bl, ik_int, of_some, ev_ret, ev_bind, ev_var, ev_C, ev_op, ev_call, ev_cb, ev_tst, ev_eTst, ev_and, ev_or, ev_not, ev_eIf, ev_bAnd, ev_bOr, ev_bNot, ev_chain, ev_nil, ev_cons, ev_tup, ev_lst, ev_new, ev_neg, ev_fld, ev_sl, ev_oNo, ev_oYes, ev_bTrue, ev_lc, ev_it, ev_rng, ev_enum, lt_int, le_int, gt_int, ge_int, add_int, sub_int, gN_ap, isNoneF, notNoneF, List.map_cons, List.map_nil, List.cons_append, List.nil_append, List.append_nil, List.length_cons, List.length_nil, List.length_map, wipeE, Nat.reduceAdd, Nat.reduceSub, Nat.reduceLeDiff, List.replicate, List.getElem?_cons_zero, List.getElem?_cons_succ, Option.join_some, Option.join_none, List.set_cons_zero, List.set_cons_succ, gc_same, decide_true, decide_false, ev_fldS, ev_put, ev_app, if_true, if_false, ite_true, ite_false, Bool.false_eq_true, Bool.not_true, Bool.not_false, reduceIte, sizeLine_eq, ev_notT, ev_tru, ev_rev, ev_srtSet, ev_fmtS, ev_joinS_nil, ev_joinS, ev_eqO, ev_strO])))
    rw [decide_eq_false d]
    ((try simp -implicitDefEqProofs only [ev_fn, fin_rt, fin_nx, fin_err, ev_seq, sq_nx, sq_rt, sq_err, ev_cNil, ev_set, ev_expr, ev_rt, ev_rtN, ev_if, ev_for, ev_asg, gt_some, ev_onV, ev_onB, bd_ok, bd_err, sr_ok, sr_err, bk_bl, ik_int, of_some, ev_ret, ev_bind, ev_var, ev_C, ev_op, ev_call, ev_cb, ev_tst, ev_eTst, ev_and, ev_or, ev_not, ev_eIf, ev_bAnd, ev_bOr, ev_bNot, ev_chain, ev_nil, ev_cons, ev_tup, ev_lst, ev_new, ev_neg, ev_fld, ev_sl, ev_oNo, ev_oYes, ev_bTrue, ev_lc, ev_it, ev_rng, ev_enum, lt_int, le_int, gt_int, ge_int, add_int, sub_int, gN_ap, isNoneF, notNoneF, List.map_cons, List.map_nil, List.cons_append, List.nil_append, List.append_nil, List.length_cons, List.length_nil, List.length_map, wipeE, Nat.reduceAdd, Nat.reduceSub, Nat.reduceLeDiff, List.replicate, List.getElem?_cons_zero, List.getElem?_cons_succ, Option.join_some, Option.join_none, List.set_cons_zero, List.set_cons_succ, gc_same, decide_true, decide_false, ev_fldS, ev_put, ev_app, if_true, if_false, ite_true, ite_false, Bool.false_eq_true, Bool.not_true, Bool.not_false, reduceIte, sizeLine_eq, ev_notT, ev_tru, ev_rev, ev_srtSet, ev_fmtS, ev_joinS_nil, ev_joinS, ev_eqO, ev_strO]); repeat (simp -implicitDefEqProofs only [bagG_ix2, ev_six, bagG_set2]; (try simp -implicitDefEqProofs only [ev_fn, fin_rt, fin_nx, fin_err, ev_seq, sq_nx, sq_rt, sq_err, ev_cNil, ev_set, ev_expr, ev_rt, ev_rtN, ev_if, ev_for, ev_asg, gt_some, ev_onV, ev_onB, bd_ok, bd_err, sr_ok, sr_err, bk_bl, ik_int, of_some, ev_ret, ev_bind, ev_var, ev_C, ev_op, ev_call, ev_cb, ev_tst, ev_eTst, ev_and, ev_or, ev_not, ev_eIf, ev_bAnd, ev_bOr, ev_bNot, ev_chain, ev_nil, ev_cons, ev_tup, ev_lst, ev_new, ev_neg, ev_fld, ev_sl, ev_oNo, ev_oYes, ev_bTrue, ev_lc, ev_it, ev_rng, ev_enum, lt_int, le_int, gt_int, ge_int, add_int, sub_int, gN_ap, isNoneF, notNoneF, List.map_cons, List.map_nil, List.cons_append, List.nil_append, List.append_nil, List.length_cons, List.length_nil, List.length_map, wipeE, Nat.reduceAdd, Nat.reduceSub, Nat.reduceLeDiff, List.replicate, List.getElem?_cons_zero, List.getElem?_cons_succ, Option.join_some, Option.join_none, List.set_cons_zero, List.set_cons_succ, gc_same, decide_true, decide_false, ev_fldS, ev_put, ev_app, if_true, if_false, ite_true, ite_false, Bool.false_eq_true, Bool.not_true, Bool.not_false, reduceIte, sizeLine_eq, ev_notT, ev_tru, ev_rev, ev_srtSet, ev_fmtS, ev_joinS_nil, ev_joinS, ev_eqO, ev_strO])))
    ((try simp -implicitDefEqProofs only [ev_fn, fin_rt, fin_nx, fin_err, ev_seq, sq_nx, sq_rt, sq_err, ev_cNil, ev_set, ev_expr, ev_rt, ev_rtN, ev_if, ev_for, ev_asg, gt_some, ev_onV, ev_onB, bd_ok, bd_err, sr_ok, sr_err, bk_bl, ik_int, of_some, ev_ret, ev_bind, ev_var, ev_C, ev_op, ev_call, ev_cb, ev_tst, ev_eTst, ev_and, ev_or, ev_not, ev_eIf, ev_bAnd, ev_bOr, ev_bNot, ev_chain, ev_nil, ev_cons, ev_tup, ev_lst, ev_new, ev_neg, ev_fld, ev_sl, ev_oNo, ev_oYes, ev_bTrue, ev_lc, ev_it, ev_rng, ev_enum, lt_int, le_int, gt_int, ge_int, add_int, sub_int, gN_ap, isNoneF, notNoneF, List.map_cons, List.map_nil, List.cons_append, List.nil_append, List.append_nil, List.length_cons, List.length_nil, List.length_map, wipeE, Nat.reduceAdd, Nat.reduceSub, Nat.reduceLeDiff, List.replicate, List.getElem?_cons_zero, List.getElem?_cons_succ, Option.join_some, Option.join_none, List.set_cons_zero, List.set_cons_succ, gc_same, decide_true, decide_false, ev_fldS, ev_put, ev_app, if_true, if_false, ite_true, ite_false, Bool.false_eq_true, Bool.not_true, Bool.not_false, reduceIte, sizeLine_eq, ev_notT, ev_tru, ev_rev, ev_srtSet, ev_fmtS, ev_joinS_nil, ev_joinS, ev_eqO, ev_strO]); repeat (simp -implicitDefEqProofs only [bagG_ix1, bagG_ix2, mul_ok (i := 49979693) (j := c + 1) (by omega) (by omega) (by omega) (by omega), int_int, mod_ok (j := 2305843009213693951) (by omega), hA]; (try simp -implicitDefEqProofs only [ev_fn, fin_rt, fin_nx, fin_err, ev_seq, sq_nx, sq_rt, sq_err, ev_cNil, ev_set, ev_expr, ev_rt, ev_rtN, ev_if, ev_for, ev_asg, gt_some, ev_onV, ev_onB, bd_ok, bd_err, sr_ok, sr_err, bk_bl, ik_int, of_some, ev_ret, ev_bind, ev_var, ev_C, ev_op, ev_call, ev_cb, ev_tst, ev_eTst, ev_and, ev_or, ev_not, ev_eIf, ev_bAnd, ev_bOr, ev_bNot, ev_chain, ev_nil, ev_cons, ev_tup, ev_lst, ev_new, ev_neg, ev_fld, ev_sl, ev_oNo, ev_oYes, ev_bTrue, ev_lc, ev_it, ev_rng, ev_enum, lt_int, le_int, gt_int, ge_int, add_int, sub_int, gN_ap, isNoneF, notNoneF, List.map_cons, List.map_nil, List.cons_append, List.nil_append, List.append_nil, List.length_cons, List.length_nil, List.length_map, wipeE, Nat.reduceAdd, Nat.reduceSub, Nat.reduceLeDiff, List.replicate, List.getElem?_cons_zero, List.getElem?_cons_succ, Option.join_some, Option.join_none, List.set_cons_zero, List.set_cons_succ, gc_same, decide_true, decide_false, ev_fldS, ev_put, ev_app, if_true, if_false, ite_true, ite_false, Bool.false_eq_true, Bool.not_true, Bool.not_false, reduceIte, sizeLine_eq, ev_notT, ev_tru, ev_rev, ev_srtSet, ev_fmtS, ev_joinS_nil, ev_joinS, ev_eqO, ev_strO])))
    ((try simp -implicitDefEqProofs only [ev_fn, fin_rt, fin_nx, fin_err, ev_seq, sq_nx, sq_rt, sq_err, ev_cNil, ev_set, ev_expr, ev_rt, ev_rtN, ev_if, ev_for, ev_asg, gt_some, ev_onV, ev_onB, bd_ok, bd_err, sr_ok, sr_err, bk_bl, ik_int, of_some, ev_ret, ev_bind, ev_var, ev_C, ev_op, ev_call, ev_cb, ev_tst, ev_eTst, ev_and, ev_or, ev_not, ev_eIf, ev_bAnd, ev_bOr, ev_bNot, ev_chain, ev_nil, ev_cons, ev_tup, ev_lst, ev_new, ev_neg, ev_fld, ev_sl, ev_oNo, ev_oYes, ev_bTrue, ev_lc, ev_it, ev_rng, ev_enum, lt_int, le_int, gt_int, ge_int, add_int, sub_int, gN_ap, isNoneF, notNoneF, List.map_cons, List.map_nil, List.cons_append, List.nil_append, List.append_nil, List.length_cons, List.length_nil, List.length_map, wipeE, Nat.reduceAdd, Nat.reduceSub, Nat.reduceLeDiff, List.replicate, List.getElem?_cons_zero, List.getElem?_cons_succ, Option.join_some, Option.join_none, List.set_cons_zero, List.set_cons_succ, gc_same, decide_true, decide_false, ev_fldS, ev_put, ev_app, if_true, if_false, ite_true, ite_false, Bool.false_eq_true, Bool.not_true, Bool.not_false, reduceIte, sizeLine_eq, ev_notT, ev_tru, ev_rev, ev_srtSet, ev_fmtS, ev_joinS_nil, ev_joinS, ev_eqO, ev_strO]); repeat (simp -implicitDefEqProofs only [mul_ok (i := A) (j := A) (by omega) (by omega) (by omega) (by omega), mul_ok (i := 127) (j := c + 1) (by omega) (by omega) (by omega) (by omega), bagG_ix2, int_int, mod_ok (j := 2305843009213693921) (by omega)]; (try simp -implicitDefEqProofs only [ev_fn, fin_rt, fin_nx, fin_err, ev_seq, sq_nx, sq_rt, sq_err, ev_cNil, ev_set, ev_expr, ev_rt, ev_rtN, ev_if, ev_for, ev_asg, gt_some, ev_onV, ev_onB, bd_ok, bd_err, sr_ok, sr_err, bk_bl, ik_int, of_some, ev_ret, ev_bind, ev_var, ev_C, ev_op, ev_call, ev_cb, ev_tst, ev_eTst, ev_and, ev_or, ev_not, ev_eIf, ev_bAnd, ev_bOr, ev_bNot, ev_chain, ev_nil, ev_cons, ev_tup, ev_lst, ev_new, ev_neg, ev_fld, ev_sl, ev_oNo, ev_oYes, ev_bTrue, ev_lc, ev_it, ev_rng, ev_enum, lt_int, le_int, gt_int, ge_int, add_int, sub_int, gN_ap, isNoneF, notNoneF, List.map_cons, List.map_nil, List.cons_append, List.nil_append, List.append_nil, List.length_cons, List.length_nil, List.length_map, wipeE, Nat.reduceAdd, Nat.reduceSub, Nat.reduceLeDiff, List.replicate, List.getElem?_cons_zero, List.getElem?_cons_succ, Option.join_some, Option.join_none, List.set_cons_zero, List.set_cons_succ, gc_same, decide_true, decide_false, ev_fldS, ev_put, ev_app, if_true, if_false, ite_true, ite_false, Bool.false_eq_true, Bool.not_true, Bool.not_false, reduceIte, sizeLine_eq, ev_notT, ev_tru, ev_rev, ev_srtSet, ev_fmtS, ev_joinS_nil, ev_joinS, ev_eqO, ev_strO])))
    ((try simp -implicitDefEqProofs only [ev_fn, fin_rt, fin_nx, fin_err, ev_seq, sq_nx, sq_rt, sq_err, ev_cNil, ev_set, ev_expr, ev_rt, ev_rtN, ev_if, ev_for, ev_asg, gt_some, ev_onV, ev_onB, bd_ok, bd_err, sr_ok, sr_err, bk_bl, ik_int, of_some, ev_ret, ev_bind, ev_var, ev_C, ev_op, ev_call, ev_cb, ev_tst, ev_eTst, ev_and, ev_or, ev_not, ev_eIf, ev_bAnd, ev_bOr, ev_bNot, ev_chain, ev_nil, ev_cons, ev_tup, ev_lst, ev_new, ev_neg, ev_fld, ev_sl, ev_oNo, ev_oYes, ev_bTrue, ev_lc, ev_it, ev_rng, ev_enum, lt_int, le_int, gt_int, ge_int, add_int, sub_int, gN_ap, isNoneF, notNoneF, List.map_cons, List.map_nil, List.cons_append, List.nil_append, List.append_nil, List.length_cons, List.length_nil, List.length_map, wipeE, Nat.reduceAdd, Nat.reduceSub, Nat.reduceLeDiff, List.replicate, List.getElem?_cons_zero, List.getElem?_cons_succ, Option.join_some, Option.join_none, List.set_cons_zero, List.set_cons_succ, gc_same, decide_true, decide_false, ev_fldS, ev_put, ev_app, if_true, if_false, ite_true, ite_false, Bool.false_eq_true, Bool.not_true, Bool.not_false, reduceIte, sizeLine_eq, ev_notT, ev_tru, ev_rev, ev_srtSet, ev_fmtS, ev_joinS_nil, ev_joinS, ev_eqO, ev_strO]); repeat (simp -implicitDefEqProofs only [mul_ok (j := 32452847) B0 (by omega) (by omega) (by omega), div_ok (j := 65551) (by omega) (by omega), int_int, mod_ok t0, gl]; (try simp -implicitDefEqProofs only [ev_fn, fin_rt, fin_nx, fin_err, ev_seq, sq_nx, sq_rt, sq_err, ev_cNil, ev_set, ev_expr, ev_rt, ev_rtN, ev_if, ev_for, ev_asg, gt_some, ev_onV, ev_onB, bd_ok, bd_err, sr_ok, sr_err, bk_bl, ik_int, of_some, ev_ret, ev_bind, ev_var, ev_C, ev_op, ev_call, ev_cb, ev_tst, ev_eTst, ev_and, ev_or, ev_not, ev_eIf, ev_bAnd, ev_bOr, ev_bNot, ev_chain, ev_nil, ev_cons, ev_tup, ev_lst, ev_new, ev_neg, ev_fld, ev_sl, ev_oNo, ev_oYes, ev_bTrue, ev_lc, ev_it, ev_rng, ev_enum, lt_int, le_int, gt_int, ge_int, add_int, sub_int, gN_ap, isNoneF, notNoneF, List.map_cons, List.map_nil, List.cons_append, List.nil_append, List.append_nil, List.length_cons, List.length_nil, List.length_map, wipeE, Nat.reduceAdd, Nat.reduceSub, Nat.reduceLeDiff, List.replicate, List.getElem?_cons_zero, List.getElem?_cons_succ, Option.join_some, Option.join_none, List.set_cons_zero, List.set_cons_succ, gc_same, decide_true, decide_false, ev_fldS, ev_put, ev_app, if_true, if_false, ite_true, ite_false, Bool.false_eq_true, Bool.not_true, Bool.not_false, reduceIte, sizeLine_eq, ev_notT, ev_tru, ev_rev, ev_srtSet, ev_fmtS, ev_joinS_nil, ev_joinS, ev_eqO, ev_strO])))
theorem v_one_ofG {k : Nat} {z m c : Int} (b : Bag k z m c) (hk : k < 2 ^ 80) (xs : List SV) (h0 : 0 < xs.length) (h1 : xs.length < 1000) :
    ∃ z' c' x, x ∈ xs ∧ D_u_law_one_of a [.ref hb.length, .rls xs] (bagG hb g z m c) = .ok x (bagG hb g z' m c') ∧ Bag (k + 1) z' m c' := by
  obtain ⟨z', c', p, q, p0, p1, b'⟩ := v_pickG a hb g b hk (xs.length : Nat) (by omega) (by omega)
  obtain ⟨y, rfl⟩ := Int.eq_ofNat_of_zero_le p0
  have ln : lenF [.rls xs] (bagG hb g z m c) = some (nv xs.length) := len_lst rfl rfl
  have hy : y < xs.length := by omega
  have ix : ixF (.rls xs) (.int (y : Nat)) (bagG hb g z' m c') = some xs[y] := L2.atI_nat (List.getElem?_eq_getElem hy)
  refine ⟨z', c', xs[y], List.getElem_mem hy, ?_, b'⟩
  simp only [D_u_law_one_of, B_u_law_one_of]
  ((try simp -implicitDefEqProofs only [ev_fn, fin_rt, fin_nx, fin_err, ev_seq, sq_nx, sq_rt, sq_err, ev_cNil, ev_set, ev_expr, ev_rt, ev_rtN, ev_if, ev_for, ev_asg, gt_some, ev_onV, ev_onB, bd_ok, bd_err, sr_ok, sr_err, bk_bl, ik_int, of_some, ev_ret, ev_bind, ev_var, ev_C, ev_op, ev_call, ev_cb, ev_tst, ev_eTst, ev_and, ev_or, ev_not, ev_eIf, ev_bAnd, ev_bOr, ev_bNot, ev_chain, ev_nil, ev_cons, ev_tup, ev_lst, ev_new, ev_neg, ev_fld, ev_sl, ev_oNo, ev_oYes, ev_bTrue, ev_lc, ev_it, ev_rng, ev_enum, lt_int, le_int, gt_int, ge_int, add_int, sub_int, gN_ap, isNoneF, notNoneF, List.map_cons, List.map_nil, List.cons_append, List.nil_append, List.append_nil, List.length_cons, List.length_nil, List.length_map, wipeE, Nat.reduceAdd, Nat.reduceSub, Nat.reduceLeDiff, List.replicate, List.getElem?_cons_zero, List.getElem?_cons_succ, Option.join_some, Option.join_none, List.set_cons_zero, List.set_cons_succ, gc_same, decide_true, decide_false, ev_fldS, ev_put, ev_app, if_true, if_false, ite_true, ite_false, Bool.false_eq_true, Bool.not_true, Bool.not_false, reduceIte, sizeLine_eq, ev_notT, ev_tru, ev_rev, ev_srtSet, ev_fmtS, ev_joinS_nil, ev_joinS, ev_eqO, ev_strO]); repeat (simp -implicitDefEqProofs only [ln, q, ix]; (try simp -implicitDefEqProofs only [ev_fn, fin_rt, fin_nx, fin_err, ev_seq, sq_nx, sq_rt, sq_err, ev_cNil, ev_set, ev_expr, ev_rt, ev_rtN, ev_if, ev_for, ev_asg, gt_some, ev_onV, ev_onB, bd_ok, bd_err, sr_ok, sr_err, bk_bl, ik_int, of_some, ev_ret, ev_bind, ev_var, ev_C, ev_op, ev_call, ev_cb, ev_tst, ev_eTst, ev_and, ev_or, ev_not, ev_eIf, ev_bAnd, ev_bOr, ev_bNot, ev_chain, ev_nil, ev_cons, ev_tup, ev_lst, ev_new, ev_neg, ev_fld, ev_sl, ev_oNo, ev_oYes, ev_bTrue, ev_lc, ev_it, ev_rng, ev_enum, lt_int, le_int, gt_int, ge_int, add_int, sub_int, gN_ap, isNoneF, notNoneF, List.map_cons, List.map_nil, List.cons_append, List.nil_append, List.append_nil, List.length_cons, List.length_nil, List.length_map, wipeE, Nat.reduceAdd, Nat.reduceSub, Nat.reduceLeDiff, List.replicate, List.getElem?_cons_zero, List.getElem?_cons_succ, Option.join_some, Option.join_none, List.set_cons_zero, List.set_cons_succ, gc_same, decide_true, decide_false, ev_fldS, ev_put, ev_app, if_true, if_false, ite_true, ite_false, Bool.false_eq_true, Bool.not_true, Bool.not_false, reduceIte, sizeLine_eq, ev_notT, ev_tru, ev_rev, ev_srtSet, ev_fmtS, ev_joinS_nil, ev_joinS, ev_eqO, ev_strO])))
  exact gc_len (by simp [bagG])
end My

set_option Elab.async false
set_option linter.all false
set_option maxRecDepth 100000
set_option maxHeartbeats 4000000
namespace My
open PySem L2 Sim
variable (a : Ads) (hb : SHp)
mutual
/-- holds no changing object, and no long tuple -/
def pl : SV → Bool
  | .tup xs => decide (xs.length ≤ 900) && pls xs
  | v => (ty v).isSome
def pls : List SV → Bool
  | [] => true
  | x :: xs => pl x && pls xs
end
theorem pls_iff : ∀ xs : List SV, pls xs = true ↔ ∀ x ∈ xs, pl x = true
  | [] => by simp [pls]
  | x :: xs => by simp [pls, pls_iff xs]
theorem pl_ty {v : SV} (q : pl v = true) : (ty v).isSome = true := by
  cases v <;> first | rfl | (simpa [pl] using q)
theorem pl_P1 {xs : List SV} (q : pl (.tup xs) = true) : P1 xs := by
  simp only [pl, Bool.and_eq_true, decide_eq_true_eq, pls_iff] at q
  exact ⟨fun x hx => pl_ty (q.2 x hx), by omega⟩
theorem pl_mem {xs : List SV} (q : pl (.tup xs) = true) {x : SV} (hx : x ∈ xs) : pl x = true := by
  simp only [pl, Bool.and_eq_true, decide_eq_true_eq, pls_iff] at q
  exact q.2 x hx
theorem pl_P2 {v : SV} (q : pl v = true) : P2 v := ⟨pl_ty q, fun xs e => pl_P1 (e ▸ q)⟩
theorem pl_P3 {v : SV} (q : pl v = true) : P3 v := ⟨pl_ty q, fun xs e => by subst e; exact ⟨(pl_P1 q).2, fun x hx => pl_P2 (pl_mem q hx)⟩⟩
theorem pl_tup {xs : List SV} (hl : xs.length ≤ 900) (h : ∀ x ∈ xs, pl x = true) : pl (.tup xs) = true := by
  simp only [pl, Bool.and_eq_true, decide_eq_true_eq, pls_iff]; exact ⟨hl, h⟩
def tl : SV → Nat
  | .tup xs => xs.length
  | _ => 0
theorem cut_lo (xs : List SV) (n : Nat) (hn : n ≤ xs.length) : cutL xs none (some (n : Int)) = xs.take n := by
  unfold cutL
  rw [HT.sIx_none, HT.sIx_nat]
  rw [Nat.min_eq_left hn]; simp
theorem cut_hi (xs : List SV) (n : Nat) (hn : n ≤ xs.length) : cutL xs (some (n : Int)) none = xs.drop n := by
  unfold cutL
  rw [HT.sIx_none, HT.sIx_nat]
  rw [Nat.min_eq_left hn, List.take_of_length_le (by simp)]
theorem cut_mid (xs : List SV) (n : Nat) (hn : n < xs.length) : cutL xs (some (n : Int)) (some ((n + 1 : Nat) : Int)) = (xs.drop n).take 1 := by
  unfold cutL
  rw [HT.sIx_nat, HT.sIx_nat]
  rw [Nat.min_eq_left (by omega), Nat.min_eq_left (by omega)]
  congr 1; omega
theorem sl_tup' (xs : List SV) (lo hi : Option Int) (h : SHp) : slF (.tup xs) lo hi h = some (.tup (cutL xs lo hi)) := rfl
/-- a value that the law may bend -/
def BT (n : Nat) (v : SV) : Prop := ∀ (k : Nat) (z m c : Int), Bag k z m c → k + 20 * n < 2 ^ 70 → ∃ z' c' w, D_u_law_bent n a [.ref hb.length, v] (bag hb z m c) = .ok w (bag hb z' m c') ∧ pl w = true ∧ tl w ≤ tl v + 1 ∧ Bag (k + 10 * n) z' m c'
def junk : List SV := [.non, .bl true, .tup [], .int 0, .int 1, .str "0", .rls [.int 0], .tup [.int 0], .tup [.tup [.int 0]], .int (-1), .int 64, .int 65, .int (10 ^ 30), .rls [.rls [.int 0, .int 0]]]
theorem junk_pl : ∀ v ∈ junk, pl v = true ∧ tl v ≤ 1 := by
  intro v hv
  simp only [junk, List.mem_cons, List.not_mem_nil, or_false] at hv
  rcases hv with rfl | rfl | rfl | rfl | rfl | rfl | rfl | rfl | rfl | rfl | rfl | rfl | rfl | rfl <;> exact ⟨by simp [pl, pls, ty], by simp [tl]⟩
theorem junk_okr (n : Nat) : ∀ v ∈ junk, v.okr n = true := by
  intro v hv
  simp only [junk, List.mem_cons, List.not_mem_nil, or_false] at hv
  rcases hv with rfl | rfl | rfl | rfl | rfl | rfl | rfl | rfl | rfl | rfl | rfl | rfl | rfl | rfl <;> simp [SV.okr, SV.okrs]
theorem pow30 (h : SHp) : powF (.int 10) (.int 30) h = some (.int (10 ^ 30)) := by
  have : CPw 10 30 := by unfold CPw; decide
  simp only [powF, op2I]
  rw [if_pos this]; rfl
end My

set_option Elab.async false
set_option linter.all false
set_option maxRecDepth 100000
set_option maxHeartbeats 4000000
namespace My
open PySem L2 Sim
variable (a : Ads) (hb : SHp)
def dic0 : SO := .dic false [] []
theorem bag_dic (z m c : Int) : bag hb z m c ++ [.dic false [] []] = bagG hb [dic0] z m c := by simp [bag, bagG, dic0]
theorem bag_len (z m c : Int) : (bag hb z m c).length = hb.length + 1 := by simp [bag]
theorem gcOk_bagG (o : SO) (z0 c0 z m c : Int) : gcOk (bag hb z0 m c0) (bagG hb [o] z m c) = true := by
  unfold gcOk
  rw [List.all_eq_true]
  intro i hi
  rw [List.mem_range, bag_len] at hi
  by_cases q : i < hb.length
  · have e1 : (bagG hb [o] z m c)[i]? = hb[i]? := by unfold bagG; rw [List.getElem?_append_left q]
    have e2 : (bag hb z0 m c0)[i]? = hb[i]? := by unfold bag; rw [List.getElem?_append_left q]
    rw [e1, e2]; simp
  · have : i = hb.length := by omega
    subst this
    have e1 : (bagG hb [o] z m c)[hb.length]? = some (.lst [.int z, .int m, .int c]) := by unfold bagG; exact hp_get0
    rw [e1]; simp [SO.okr, SV.okrs, SV.okr]
theorem take_bagG (o : SO) (z m c : Int) : (bagG hb [o] z m c).take (hb.length + 1) = bag hb z m c := by
  unfold bagG bag
  rw [List.take_append]
  simp
  exact List.take_of_length_le (by omega)
theorem gc_bagG {v : SV} (o : SO) (z0 c0 z m c : Int) (q : v.okr (hb.length + 1) = true) : gc true (bag hb z0 m c0) v (bagG hb [o] z m c) = .ok v (bag hb z m c) := by
  have l1 : (bagG hb [o] z m c).length = hb.length + 2 := by simp [bagG]
  unfold gc
  rw [if_neg (by rw [l1, bag_len]; omega), if_pos (gcOk_bagG hb o z0 c0 z m c), bag_len, if_pos q, take_bagG]
theorem gc_bagD (z0 c0 z m c : Int) : gc true (bag hb z0 m c0) (.ref (hb.length + 1)) (bagG hb [dic0] z m c) = .ok (.rdc false [] []) (bag hb z m c) := by
  have l1 : (bagG hb [dic0] z m c).length = hb.length + 2 := by simp [bagG]
  have e1 : (bagG hb [dic0] z m c)[hb.length + 1]? = some dic0 := by unfold bagG; exact hp_get1
  unfold gc
  rw [if_neg (by rw [l1, bag_len]; omega), if_pos (gcOk_bagG hb dic0 z0 c0 z m c), bag_len, if_neg (by simp [SV.okr])]
  simp only [e1]
  rw [if_pos ⟨trivial, Nat.le_refl _, by simp [dic0, SO.okr, SV.okrs]⟩, take_bagG]
  rfl
def junkR (hb : SHp) : List SV := [.non, .bl true, .tup [], .int 0, .int 1, .str "0", .rls [.int 0], .tup [.int 0], .tup [.tup [.int 0]], .ref (hb.length + 1), .int (-1), .int 64, .int 65, .int (10 ^ 30), .rls [.rls [.int 0, .int 0]]]
theorem junkR_mem {v : SV} (hv : v ∈ junkR hb) : v ∈ junk ∨ v = .ref (hb.length + 1) := by
  simp only [junkR, junk, List.mem_cons, List.not_mem_nil, or_false] at hv ⊢
  rcases hv with rfl | rfl | rfl | rfl | rfl | rfl | rfl | rfl | rfl | rfl | rfl | rfl | rfl | rfl | rfl <;> simp
abbrev junkE (a : Ads) : ST' := (cRet (eCall (D_u_law_one_of a) (aCons (eVar 0) (aCons (eLst (aCons (eC .non) (aCons (eC (.bl true)) (aCons (eTup aNil) (aCons (eC (.int 0)) (aCons (eC (.int 1)) (aCons (eC (.str "0")) (aCons (eLst (aCons (eC (.int 0)) aNil)) (aCons (eTup (aCons (eC (.int 0)) aNil)) (aCons (eTup (aCons (eTup (aCons (eC (.int 0)) aNil)) aNil)) (aCons (eDic0 false) (aCons (eNeg (eC (.int 1))) (aCons (eC (.int 64)) (aCons (eC (.int 65)) (aCons (eOp powF (eC (.int 10)) (eC (.int 30))) (aCons (eLst (aCons (eLst (aCons (eC (.int 0)) (aCons (eC (.int 0)) aNil))) aNil)) aNil)))))))))))))))) aNil))))
theorem ev_dic0 {e : Sim.Env} {h : SHp} : eDic0 false e h = .ok (.ref h.length) (h ++ [.dic false [] []]) := rfl
theorem neg1 : negF (.int 1) = some (.int (-1)) := rfl
theorem junk_run {k : Nat} {z m c : Int} (b : Bag k z m c) (hk : k < 2 ^ 75) (v : SV) (x2 x3 : Option SV) : ∃ z' c' x, junkE a [some (.ref hb.length), some v, x2, x3] (bag hb z m c) = .rt x (bagG hb [dic0] z' m c') ∧ x ∈ junkR hb ∧ Bag (k + 1) z' m c' := by
  obtain ⟨z', c', x, hx, q, b'⟩ := v_one_ofG a hb [dic0] b (by omega) (junkR hb) (by simp [junkR]) (by simp [junkR])
  refine ⟨z', c', x, ?_, hx, b'⟩
  unfold junkR at q
  unfold junkE
  ((try simp -implicitDefEqProofs only [ev_fn, fin_rt, fin_nx, fin_err, ev_seq, sq_nx, sq_rt, sq_err, ev_cNil, ev_set, ev_expr, ev_rt, ev_rtN, ev_if, ev_for, ev_asg, gt_some, ev_onV, ev_onB, bd_ok, bd_err, sr_ok, sr_err, bk_bl, ik_int, of_some, ev_ret, ev_bind, ev_var, ev_C, ev_op, ev_call, ev_cb, ev_tst, ev_eTst, ev_and, ev_or, ev_not, ev_eIf, ev_bAnd, ev_bOr, ev_bNot, ev_chain, ev_nil, ev_cons, ev_tup, ev_lst, ev_new, ev_neg, ev_fld, ev_sl, ev_oNo, ev_oYes, ev_bTrue, ev_lc, ev_it, ev_rng, ev_enum, lt_int, le_int, gt_int, ge_int, add_int, sub_int, gN_ap, isNoneF, notNoneF, List.map_cons, List.map_nil, List.cons_append, List.nil_append, List.append_nil, List.length_cons, List.length_nil, List.length_map, wipeE, Nat.reduceAdd, Nat.reduceSub, Nat.reduceLeDiff, List.replicate, List.getElem?_cons_zero, List.getElem?_cons_succ, Option.join_some, Option.join_none, List.set_cons_zero, List.set_cons_succ, gc_same, decide_true, decide_false, ev_fldS, ev_put, ev_app, if_true, if_false, ite_true, ite_false, Bool.false_eq_true, Bool.not_true, Bool.not_false, reduceIte, sizeLine_eq, ev_notT, ev_tru, ev_rev, ev_srtSet, ev_fmtS, ev_joinS_nil, ev_joinS, ev_eqO, ev_strO]); repeat (simp -implicitDefEqProofs only [ev_dic0, bag_len, bag_dic, neg1, pow30, q]; (try simp -implicitDefEqProofs only [ev_fn, fin_rt, fin_nx, fin_err, ev_seq, sq_nx, sq_rt, sq_err, ev_cNil, ev_set, ev_expr, ev_rt, ev_rtN, ev_if, ev_for, ev_asg, gt_some, ev_onV, ev_onB, bd_ok, bd_err, sr_ok, sr_err, bk_bl, ik_int, of_some, ev_ret, ev_bind, ev_var, ev_C, ev_op, ev_call, ev_cb, ev_tst, ev_eTst, ev_and, ev_or, ev_not, ev_eIf, ev_bAnd, ev_bOr, ev_bNot, ev_chain, ev_nil, ev_cons, ev_tup, ev_lst, ev_new, ev_neg, ev_fld, ev_sl, ev_oNo, ev_oYes, ev_bTrue, ev_lc, ev_it, ev_rng, ev_enum, lt_int, le_int, gt_int, ge_int, add_int, sub_int, gN_ap, isNoneF, notNoneF, List.map_cons, List.map_nil, List.cons_append, List.nil_append, List.append_nil, List.length_cons, List.length_nil, List.length_map, wipeE, Nat.reduceAdd, Nat.reduceSub, Nat.reduceLeDiff, List.replicate, List.getElem?_cons_zero, List.getElem?_cons_succ, Option.join_some, Option.join_none, List.set_cons_zero, List.set_cons_succ, gc_same, decide_true, decide_false, ev_fldS, ev_put, ev_app, if_true, if_false, ite_true, ite_false, Bool.false_eq_true, Bool.not_true, Bool.not_false, reduceIte, sizeLine_eq, ev_notT, ev_tru, ev_rev, ev_srtSet, ev_fmtS, ev_joinS_nil, ev_joinS, ev_eqO, ev_strO])))
/-- the last words of the law's bending -/
theorem junk_end {k : Nat} {z0 c0 z m c : Int} (b : Bag k z m c) (hk : k < 2 ^ 75) (v : SV) (x2 x3 : Option SV) : ∃ z' c' w, fin true (bag hb z0 m c0) (junkE a [some (.ref hb.length), some v, x2, x3] (bag hb z m c)) = .ok w (bag hb z' m c') ∧ pl w = true ∧ tl w ≤ 1 ∧ Bag (k + 1) z' m c' := by
  obtain ⟨z', c', x, q, hx, b'⟩ := junk_run a hb b hk v x2 x3
  rcases junkR_mem hb hx with hj | rfl
  · refine ⟨z', c', x, ?_, (junk_pl x hj).1, (junk_pl x hj).2, b'⟩
    rw [q, fin_rt]
    exact gc_bagG hb dic0 z0 c0 z' m c' (junk_okr _ x hj)
  · refine ⟨z', c', .rdc false [] [], ?_, rfl, by simp [tl], b'⟩
    rw [q, fin_rt]
    exact gc_bagD hb z0 c0 z' m c'
end My

set_option Elab.async false
set_option linter.all false
set_option maxRecDepth 100000
set_option maxHeartbeats 4000000
namespace My
open PySem L2 Sim
variable (a : Ads) (hb : SHp)
theorem isi_i (v : SV) (hv : (ty v).isSome = true) (h : SHp) : isiF [v, .ty "int"] h = some (.bl (isIB v)) := by
  obtain ⟨t, e⟩ := Option.isSome_iff_exists.mp hv
  rw [ty_isi h e mem_int, isTy_int e]
theorem isi_b (v : SV) (hv : (ty v).isSome = true) (h : SHp) : isiF [v, .ty "bool"] h = some (.bl (isB v)) := by
  obtain ⟨t, e⟩ := Option.isSome_iff_exists.mp hv
  rw [ty_isi h e mem_bool, isTy_bool e]
theorem rest_ok {k : Nat} {z m c : Int} (b : Bag k z m c) (hk : k < 2 ^ 74) (z0 c0 : Int) {v : SV} (hv : pl v = true) (x2 x3 : Option SV) (hB : isB v = false) :
    ∃ z' c' w, fin true (bag hb z0 m c0) (cSeq (cIf (bAnd (eTst (eCB isiF (aCons (eVar 1) (aCons (eC (.ty "int")) aNil)))) (bAnd (bNot (eTst (eCB isiF (aCons (eVar 1) (aCons (eC (.ty "bool")) aNil))))) (eTst (eOp gtI (eCall (D_u_law_pick a) (aCons (eVar 0) (aCons (eC (.int 3)) aNil))) (eC (.int 0)))))) (cRet (eOp addF (eVar 1) (eCall (D_u_law_one_of a) (aCons (eVar 0) (aCons (eLst (aCons (eC (.int 1)) (aCons (eNeg (eC (.int 1))) (aCons (eC (.int 2)) aNil)))) aNil))))) cNil)
      (junkE a) [some (.ref hb.length), some v, x2, x3] (bag hb z m c)) = .ok w (bag hb z' m c') ∧ pl w = true ∧ tl w ≤ 1 ∧ Bag (k + 2) z' m c' := by
  have ht := pl_ty hv
  cases q : isIB v with
  | false =>
    obtain ⟨z', c', w, q1, q2, q3, b'⟩ := junk_end a hb (z0 := z0) (c0 := c0) b (by omega) v x2 x3
    refine ⟨z', c', w, ?_, q2, q3, b'.mono (by omega)⟩
    rw [ev_seq]
    have st : cIf (bAnd (eTst (eCB isiF (aCons (eVar 1) (aCons (eC (.ty "int")) aNil)))) (bAnd (bNot (eTst (eCB isiF (aCons (eVar 1) (aCons (eC (.ty "bool")) aNil))))) (eTst (eOp gtI (eCall (D_u_law_pick a) (aCons (eVar 0) (aCons (eC (.int 3)) aNil))) (eC (.int 0)))))) (cRet (eOp addF (eVar 1) (eCall (D_u_law_one_of a) (aCons (eVar 0) (aCons (eLst (aCons (eC (.int 1)) (aCons (eNeg (eC (.int 1))) (aCons (eC (.int 2)) aNil)))) aNil))))) cNil [some (.ref hb.length), some v, x2, x3] (bag hb z m c) = .nx [some (.ref hb.length), some v, x2, x3] (bag hb z m c) := by
      ((try simp -implicitDefEqProofs only [ev_fn, fin_rt, fin_nx, fin_err, ev_seq, sq_nx, sq_rt, sq_err, ev_cNil, ev_set, ev_expr, ev_rt, ev_rtN, ev_if, ev_for, ev_asg, gt_some, ev_onV, ev_onB, bd_ok, bd_err, sr_ok, sr_err, bk_bl, ik_int, of_some, ev_ret, ev_bind, ev_var, ev_C, ev_op, ev_call, ev_cb, ev_tst, ev_eTst, ev_and, ev_or, ev_not, ev_eIf, ev_bAnd, ev_bOr, ev_bNot, ev_chain, ev_nil, ev_cons, ev_tup, ev_lst, ev_new, ev_neg, ev_fld, ev_sl, ev_oNo, ev_oYes, ev_bTrue, ev_lc, ev_it, ev_rng, ev_enum, lt_int, le_int, gt_int, ge_int, add_int, sub_int, gN_ap, isNoneF, notNoneF, List.map_cons, List.map_nil, List.cons_append, List.nil_append, List.append_nil, List.length_cons, List.length_nil, List.length_map, wipeE, Nat.reduceAdd, Nat.reduceSub, Nat.reduceLeDiff, List.replicate, List.getElem?_cons_zero, List.getElem?_cons_succ, Option.join_some, Option.join_none, List.set_cons_zero, List.set_cons_succ, gc_same, decide_true, decide_false, ev_fldS, ev_put, ev_app, if_true, if_false, ite_true, ite_false, Bool.false_eq_true, Bool.not_true, Bool.not_false, reduceIte, sizeLine_eq, ev_notT, ev_tru, ev_rev, ev_srtSet, ev_fmtS, ev_joinS_nil, ev_joinS, ev_eqO, ev_strO]); repeat (simp -implicitDefEqProofs only [isi_i v ht, q]; (try simp -implicitDefEqProofs only [ev_fn, fin_rt, fin_nx, fin_err, ev_seq, sq_nx, sq_rt, sq_err, ev_cNil, ev_set, ev_expr, ev_rt, ev_rtN, ev_if, ev_for, ev_asg, gt_some, ev_onV, ev_onB, bd_ok, bd_err, sr_ok, sr_err, bk_bl, ik_int, of_some, ev_ret, ev_bind, ev_var, ev_C, ev_op, ev_call, ev_cb, ev_tst, ev_eTst, ev_and, ev_or, ev_not, ev_eIf, ev_bAnd, ev_bOr, ev_bNot, ev_chain, ev_nil, ev_cons, ev_tup, ev_lst, ev_new, ev_neg, ev_fld, ev_sl, ev_oNo, ev_oYes, ev_bTrue, ev_lc, ev_it, ev_rng, ev_enum, lt_int, le_int, gt_int, ge_int, add_int, sub_int, gN_ap, isNoneF, notNoneF, List.map_cons, List.map_nil, List.cons_append, List.nil_append, List.append_nil, List.length_cons, List.length_nil, List.length_map, wipeE, Nat.reduceAdd, Nat.reduceSub, Nat.reduceLeDiff, List.replicate, List.getElem?_cons_zero, List.getElem?_cons_succ, Option.join_some, Option.join_none, List.set_cons_zero, List.set_cons_succ, gc_same, decide_true, decide_false, ev_fldS, ev_put, ev_app, if_true, if_false, ite_true, ite_false, Bool.false_eq_true, Bool.not_true, Bool.not_false, reduceIte, sizeLine_eq, ev_notT, ev_tru, ev_rev, ev_srtSet, ev_fmtS, ev_joinS_nil, ev_joinS, ev_eqO, ev_strO])))
    rw [st, sq_nx, q1]
  | true =>
    cases v with
    | int i =>
      obtain ⟨z1, c1, p, q1, p1, b1⟩ := v_pickN a hb b (by omega) 3 (by omega) (by omega)
      have q1' : D_u_law_pick a [.ref hb.length, .int 3] (bag hb z m c) = .ok (nv p) (bag hb z1 m c1) := q1
      by_cases hp : (0 : Int) < (p : Nat)
      · obtain ⟨z2, c2, x, hx, q2, b2⟩ := v_one_of a hb b1 (by omega) [.int 1, .int (-1), .int 2] (by simp) (by simp)
        have hx' : ∃ j, x = .int j := by
          simp only [List.mem_cons, List.not_mem_nil, or_false] at hx
          rcases hx with rfl | rfl | rfl <;> exact ⟨_, rfl⟩
        obtain ⟨j, rfl⟩ := hx'
        refine ⟨z2, c2, .int (i + j), ?_, rfl, by simp [tl], b2.mono (by omega)⟩
        have e1 : decide ((0 : Int) < (p : Nat)) = true := decide_eq_true hp
        ((try simp -implicitDefEqProofs only [ev_fn, fin_rt, fin_nx, fin_err, ev_seq, sq_nx, sq_rt, sq_err, ev_cNil, ev_set, ev_expr, ev_rt, ev_rtN, ev_if, ev_for, ev_asg, gt_some, ev_onV, ev_onB, bd_ok, bd_err, sr_ok, sr_err, bk_bl, ik_int, of_some, ev_ret, ev_bind, ev_var, ev_C, ev_op, ev_call, ev_cb, ev_tst, ev_eTst, ev_and, ev_or, ev_not, ev_eIf, ev_bAnd, ev_bOr, ev_bNot, ev_chain, ev_nil, ev_cons, ev_tup, ev_lst, ev_new, ev_neg, ev_fld, ev_sl, ev_oNo, ev_oYes, ev_bTrue, ev_lc, ev_it, ev_rng, ev_enum, lt_int, le_int, gt_int, ge_int, add_int, sub_int, gN_ap, isNoneF, notNoneF, List.map_cons, List.map_nil, List.cons_append, List.nil_append, List.append_nil, List.length_cons, List.length_nil, List.length_map, wipeE, Nat.reduceAdd, Nat.reduceSub, Nat.reduceLeDiff, List.replicate, List.getElem?_cons_zero, List.getElem?_cons_succ, Option.join_some, Option.join_none, List.set_cons_zero, List.set_cons_succ, gc_same, decide_true, decide_false, ev_fldS, ev_put, ev_app, if_true, if_false, ite_true, ite_false, Bool.false_eq_true, Bool.not_true, Bool.not_false, reduceIte, sizeLine_eq, ev_notT, ev_tru, ev_rev, ev_srtSet, ev_fmtS, ev_joinS_nil, ev_joinS, ev_eqO, ev_strO]); repeat (simp -implicitDefEqProofs only [isi_i (.int i) ht, q, isi_b (.int i) ht, hB, q1', e1, neg1, q2]; (try simp -implicitDefEqProofs only [ev_fn, fin_rt, fin_nx, fin_err, ev_seq, sq_nx, sq_rt, sq_err, ev_cNil, ev_set, ev_expr, ev_rt, ev_rtN, ev_if, ev_for, ev_asg, gt_some, ev_onV, ev_onB, bd_ok, bd_err, sr_ok, sr_err, bk_bl, ik_int, of_some, ev_ret, ev_bind, ev_var, ev_C, ev_op, ev_call, ev_cb, ev_tst, ev_eTst, ev_and, ev_or, ev_not, ev_eIf, ev_bAnd, ev_bOr, ev_bNot, ev_chain, ev_nil, ev_cons, ev_tup, ev_lst, ev_new, ev_neg, ev_fld, ev_sl, ev_oNo, ev_oYes, ev_bTrue, ev_lc, ev_it, ev_rng, ev_enum, lt_int, le_int, gt_int, ge_int, add_int, sub_int, gN_ap, isNoneF, notNoneF, List.map_cons, List.map_nil, List.cons_append, List.nil_append, List.append_nil, List.length_cons, List.length_nil, List.length_map, wipeE, Nat.reduceAdd, Nat.reduceSub, Nat.reduceLeDiff, List.replicate, List.getElem?_cons_zero, List.getElem?_cons_succ, Option.join_some, Option.join_none, List.set_cons_zero, List.set_cons_succ, gc_same, decide_true, decide_false, ev_fldS, ev_put, ev_app, if_true, if_false, ite_true, ite_false, Bool.false_eq_true, Bool.not_true, Bool.not_false, reduceIte, sizeLine_eq, ev_notT, ev_tru, ev_rev, ev_srtSet, ev_fmtS, ev_joinS_nil, ev_joinS, ev_eqO, ev_strO])))
        exact gc_len (by simp [bag])
      · obtain ⟨z', c', w, q3, q4, q5, b'⟩ := junk_end a hb (z0 := z0) (c0 := c0) b1 (by omega) (.int i) x2 x3
        refine ⟨z', c', w, ?_, q4, q5, b'.mono (by omega)⟩
        rw [ev_seq]
        have e1 : decide ((0 : Int) < (p : Nat)) = false := decide_eq_false hp
        have st : cIf (bAnd (eTst (eCB isiF (aCons (eVar 1) (aCons (eC (.ty "int")) aNil)))) (bAnd (bNot (eTst (eCB isiF (aCons (eVar 1) (aCons (eC (.ty "bool")) aNil))))) (eTst (eOp gtI (eCall (D_u_law_pick a) (aCons (eVar 0) (aCons (eC (.int 3)) aNil))) (eC (.int 0)))))) (cRet (eOp addF (eVar 1) (eCall (D_u_law_one_of a) (aCons (eVar 0) (aCons (eLst (aCons (eC (.int 1)) (aCons (eNeg (eC (.int 1))) (aCons (eC (.int 2)) aNil)))) aNil))))) cNil [some (.ref hb.length), some (.int i), x2, x3] (bag hb z m c) = .nx [some (.ref hb.length), some (.int i), x2, x3] (bag hb z1 m c1) := by
          ((try simp -implicitDefEqProofs only [ev_fn, fin_rt, fin_nx, fin_err, ev_seq, sq_nx, sq_rt, sq_err, ev_cNil, ev_set, ev_expr, ev_rt, ev_rtN, ev_if, ev_for, ev_asg, gt_some, ev_onV, ev_onB, bd_ok, bd_err, sr_ok, sr_err, bk_bl, ik_int, of_some, ev_ret, ev_bind, ev_var, ev_C, ev_op, ev_call, ev_cb, ev_tst, ev_eTst, ev_and, ev_or, ev_not, ev_eIf, ev_bAnd, ev_bOr, ev_bNot, ev_chain, ev_nil, ev_cons, ev_tup, ev_lst, ev_new, ev_neg, ev_fld, ev_sl, ev_oNo, ev_oYes, ev_bTrue, ev_lc, ev_it, ev_rng, ev_enum, lt_int, le_int, gt_int, ge_int, add_int, sub_int, gN_ap, isNoneF, notNoneF, List.map_cons, List.map_nil, List.cons_append, List.nil_append, List.append_nil, List.length_cons, List.length_nil, List.length_map, wipeE, Nat.reduceAdd, Nat.reduceSub, Nat.reduceLeDiff, List.replicate, List.getElem?_cons_zero, List.getElem?_cons_succ, Option.join_some, Option.join_none, List.set_cons_zero, List.set_cons_succ, gc_same, decide_true, decide_false, ev_fldS, ev_put, ev_app, if_true, if_false, ite_true, ite_false, Bool.false_eq_true, Bool.not_true, Bool.not_false, reduceIte, sizeLine_eq, ev_notT, ev_tru, ev_rev, ev_srtSet, ev_fmtS, ev_joinS_nil, ev_joinS, ev_eqO, ev_strO]); repeat (simp -implicitDefEqProofs only [isi_i (.int i) ht, q, isi_b (.int i) ht, hB, q1', e1]; (try simp -implicitDefEqProofs only [ev_fn, fin_rt, fin_nx, fin_err, ev_seq, sq_nx, sq_rt, sq_err, ev_cNil, ev_set, ev_expr, ev_rt, ev_rtN, ev_if, ev_for, ev_asg, gt_some, ev_onV, ev_onB, bd_ok, bd_err, sr_ok, sr_err, bk_bl, ik_int, of_some, ev_ret, ev_bind, ev_var, ev_C, ev_op, ev_call, ev_cb, ev_tst, ev_eTst, ev_and, ev_or, ev_not, ev_eIf, ev_bAnd, ev_bOr, ev_bNot, ev_chain, ev_nil, ev_cons, ev_tup, ev_lst, ev_new, ev_neg, ev_fld, ev_sl, ev_oNo, ev_oYes, ev_bTrue, ev_lc, ev_it, ev_rng, ev_enum, lt_int, le_int, gt_int, ge_int, add_int, sub_int, gN_ap, isNoneF, notNoneF, List.map_cons, List.map_nil, List.cons_append, List.nil_append, List.append_nil, List.length_cons, List.length_nil, List.length_map, wipeE, Nat.reduceAdd, Nat.reduceSub, Nat.reduceLeDiff, List.replicate, List.getElem?_cons_zero, List.getElem?_cons_succ, Option.join_some, Option.join_none, List.set_cons_zero, List.set_cons_succ, gc_same, decide_true, decide_false, ev_fldS, ev_put, ev_app, if_true, if_false, ite_true, ite_false, Bool.false_eq_true, Bool.not_true, Bool.not_false, reduceIte, sizeLine_eq, ev_notT, ev_tru, ev_rev, ev_srtSet, ev_fmtS, ev_joinS_nil, ev_joinS, ev_eqO, ev_strO])))
        rw [st, sq_nx, q3]
    | bl b => simp [isB] at hB
    | _ => simp [isIB] at q
theorem bent_int (n : Nat) (i : Int) : BT a hb (n + 1) (.int i) := by
  intro k z m c b hk
  obtain ⟨z', c', w, q1, q2, q3, b'⟩ := rest_ok a hb b (by omega) z c (v := .int i) rfl none none rfl
  refine ⟨z', c', w, ?_, q2, by simp [tl] at q3 ⊢; exact q3, b'.mono (by omega)⟩
  show fnD true 4 (B_u_law_bent (D_u_law_bent n a) a) [.ref hb.length, .int i] (bag hb z m c) = _
  have ht : (ty (.int i)).isSome = true := rfl
  have t0 : isTp (.int i) = false := rfl
  have st : ∀ (s1 : ST') (t2 : Sim.Env → M Bool), cIf (bAnd (eTst (eCB isiF (aCons (eVar 1) (aCons (eC (.ty "tuple")) aNil)))) t2) s1 cNil [some (.ref hb.length), some (.int i), none, none] (bag hb z m c) = .nx [some (.ref hb.length), some (.int i), none, none] (bag hb z m c) := by
    intro s1 t2
    ((try simp -implicitDefEqProofs only [ev_fn, fin_rt, fin_nx, fin_err, ev_seq, sq_nx, sq_rt, sq_err, ev_cNil, ev_set, ev_expr, ev_rt, ev_rtN, ev_if, ev_for, ev_asg, gt_some, ev_onV, ev_onB, bd_ok, bd_err, sr_ok, sr_err, bk_bl, ik_int, of_some, ev_ret, ev_bind, ev_var, ev_C, ev_op, ev_call, ev_cb, ev_tst, ev_eTst, ev_and, ev_or, ev_not, ev_eIf, ev_bAnd, ev_bOr, ev_bNot, ev_chain, ev_nil, ev_cons, ev_tup, ev_lst, ev_new, ev_neg, ev_fld, ev_sl, ev_oNo, ev_oYes, ev_bTrue, ev_lc, ev_it, ev_rng, ev_enum, lt_int, le_int, gt_int, ge_int, add_int, sub_int, gN_ap, isNoneF, notNoneF, List.map_cons, List.map_nil, List.cons_append, List.nil_append, List.append_nil, List.length_cons, List.length_nil, List.length_map, wipeE, Nat.reduceAdd, Nat.reduceSub, Nat.reduceLeDiff, List.replicate, List.getElem?_cons_zero, List.getElem?_cons_succ, Option.join_some, Option.join_none, List.set_cons_zero, List.set_cons_succ, gc_same, decide_true, decide_false, ev_fldS, ev_put, ev_app, if_true, if_false, ite_true, ite_false, Bool.false_eq_true, Bool.not_true, Bool.not_false, reduceIte, sizeLine_eq, ev_notT, ev_tru, ev_rev, ev_srtSet, ev_fmtS, ev_joinS_nil, ev_joinS, ev_eqO, ev_strO]); repeat (simp -implicitDefEqProofs only [isi_tp _ ht, t0]; (try simp -implicitDefEqProofs only [ev_fn, fin_rt, fin_nx, fin_err, ev_seq, sq_nx, sq_rt, sq_err, ev_cNil, ev_set, ev_expr, ev_rt, ev_rtN, ev_if, ev_for, ev_asg, gt_some, ev_onV, ev_onB, bd_ok, bd_err, sr_ok, sr_err, bk_bl, ik_int, of_some, ev_ret, ev_bind, ev_var, ev_C, ev_op, ev_call, ev_cb, ev_tst, ev_eTst, ev_and, ev_or, ev_not, ev_eIf, ev_bAnd, ev_bOr, ev_bNot, ev_chain, ev_nil, ev_cons, ev_tup, ev_lst, ev_new, ev_neg, ev_fld, ev_sl, ev_oNo, ev_oYes, ev_bTrue, ev_lc, ev_it, ev_rng, ev_enum, lt_int, le_int, gt_int, ge_int, add_int, sub_int, gN_ap, isNoneF, notNoneF, List.map_cons, List.map_nil, List.cons_append, List.nil_append, List.append_nil, List.length_cons, List.length_nil, List.length_map, wipeE, Nat.reduceAdd, Nat.reduceSub, Nat.reduceLeDiff, List.replicate, List.getElem?_cons_zero, List.getElem?_cons_succ, Option.join_some, Option.join_none, List.set_cons_zero, List.set_cons_succ, gc_same, decide_true, decide_false, ev_fldS, ev_put, ev_app, if_true, if_false, ite_true, ite_false, Bool.false_eq_true, Bool.not_true, Bool.not_false, reduceIte, sizeLine_eq, ev_notT, ev_tru, ev_rev, ev_srtSet, ev_fmtS, ev_joinS_nil, ev_joinS, ev_eqO, ev_strO])))
  have fe : ∀ r, fnD true 4 (B_u_law_bent r a) [.ref hb.length, .int i] (bag hb z m c) = fin true (bag hb z m c) (B_u_law_bent r a [some (.ref hb.length), some (.int i), none, none] (bag hb z m c)) := fun r => ev_fn
  rw [fe, ← q1]
  unfold B_u_law_bent
  rw [ev_seq, st, sq_nx]
end My

set_option Elab.async false
set_option linter.all false
set_option maxRecDepth 100000
set_option maxHeartbeats 4000000
namespace My
open PySem L2 Sim
variable (a : Ads) (hb : SHp)
theorem cut_hi1 (xs : List SV) (n : Nat) (hn : n + 1 ≤ xs.length) : cutL xs (some ((n : Int) + 1)) none = xs.drop (n + 1) := cut_hi xs (n + 1) hn
theorem cut_mid1 (xs : List SV) (n : Nat) (hn : n < xs.length) : cutL xs (some (n : Int)) (some ((n : Int) + 1)) = (xs.drop n).take 1 := cut_mid xs n hn
theorem rev_tup (xs : List SV) (h : SHp) : revF (.tup xs) h = some (.tup xs.reverse) := rfl
abbrev bentIn (r : List SV → M SV) (a : Ads) : ST' := (cSeq (cPar 2 3 (aCons (eCall (D_u_law_pick a) (aCons (eVar 0) (aCons (eCB lenF (aCons (eVar 1) aNil)) aNil))) (aCons (eCall (D_u_law_pick a) (aCons (eVar 0) (aCons (eC (.int 9)) aNil))) aNil)))
    (cSeq (cIf (eTst (eOp (eqF false) (eVar 3) (eC (.int 0)))) (cRet (eOp addF (eSl (eVar 1) oNo (oYes (eVar 2))) (eSl (eVar 1) (oYes (eOp addF (eVar 2) (eC (.int 1)))) oNo))) cNil)
    (cSeq (cIf (eTst (eOp (eqF false) (eVar 3) (eC (.int 1)))) (cRet (eOp addF (eOp addF (eSl (eVar 1) oNo (oYes (eVar 2))) (eSl (eVar 1) (oYes (eVar 2)) (oYes (eOp addF (eVar 2) (eC (.int 1)))))) (eSl (eVar 1) (oYes (eVar 2)) oNo))) cNil)
    (cSeq (cIf (eTst (eOp (eqF false) (eVar 3) (eC (.int 2)))) (cRet (eRev (eVar 1))) cNil)
    (cRet (eOp addF (eOp addF (eSl (eVar 1) oNo (oYes (eVar 2))) (eTup (aCons (eCall r (aCons (eVar 0) (aCons (eOp ixF (eVar 1) (eVar 2)) aNil))) aNil))) (eSl (eVar 1) (oYes (eOp addF (eVar 2) (eC (.int 1)))) oNo)))))))
theorem pl_app {xs ys : List SV} (hx : ∀ x ∈ xs, pl x = true) (hy : ∀ x ∈ ys, pl x = true) (hl : xs.length + ys.length ≤ 900) : pl (.tup (xs ++ ys)) = true :=
  pl_tup (by simpa using hl) (fun x hx' => (List.mem_append.mp hx').elim (hx x) (hy x))
theorem bent_in (n : Nat) (xs : List SV) (hp : pl (.tup xs) = true) (hl : xs.length ≤ 600) (h0 : 0 < xs.length) (he : ∀ x ∈ xs, BT a hb n x) {k : Nat} {z m c : Int} (b : Bag k z m c) (hk : k + 2 + 20 * n < 2 ^ 70) :
    ∃ z' c' w, bentIn (D_u_law_bent n a) a [some (.ref hb.length), some (.tup xs), none, none] (bag hb z m c) = .rt w (bag hb z' m c') ∧ pl w = true ∧ tl w ≤ xs.length + 1 ∧ Bag (k + 2 + 10 * n) z' m c' := by
  obtain ⟨z1, c1, p, q1, p1, b1⟩ := v_pickN a hb b (by omega) xs.length h0 (by omega)
  have q1' : D_u_law_pick a [.ref hb.length, .int (xs.length : Nat)] (bag hb z m c) = .ok (.int (p : Nat)) (bag hb z1 m c1) := q1
  obtain ⟨z2, c2, u, q2, p2, b2⟩ := v_pickN a hb b1 (by omega) 9 (by omega) (by omega)
  have q2' : D_u_law_pick a [.ref hb.length, .int 9] (bag hb z1 m c1) = .ok (.int (u : Nat)) (bag hb z2 m c2) := q2
  have st : (cPar 2 3 (aCons (eCall (D_u_law_pick a) (aCons (eVar 0) (aCons (eCB lenF (aCons (eVar 1) aNil)) aNil))) (aCons (eCall (D_u_law_pick a) (aCons (eVar 0) (aCons (eC (.int 9)) aNil))) aNil))) [some (.ref hb.length), some (.tup xs), none, none] (bag hb z m c) = .nx [some (.ref hb.length), some (.tup xs), some (.int (p : Nat)), some (.int (u : Nat))] (bag hb z2 m c2) := by
    rw [par_ok (v := .int (p : Nat)) (w := .int (u : Nat)) (h1 := bag hb z2 m c2)]
    · rfl
    · ((try simp -implicitDefEqProofs only [ev_fn, fin_rt, fin_nx, fin_err, ev_seq, sq_nx, sq_rt, sq_err, ev_cNil, ev_set, ev_expr, ev_rt, ev_rtN, ev_if, ev_for, ev_asg, gt_some, ev_onV, ev_onB, bd_ok, bd_err, sr_ok, sr_err, bk_bl, ik_int, of_some, ev_ret, ev_bind, ev_var, ev_C, ev_op, ev_call, ev_cb, ev_tst, ev_eTst, ev_and, ev_or, ev_not, ev_eIf, ev_bAnd, ev_bOr, ev_bNot, ev_chain, ev_nil, ev_cons, ev_tup, ev_lst, ev_new, ev_neg, ev_fld, ev_sl, ev_oNo, ev_oYes, ev_bTrue, ev_lc, ev_it, ev_rng, ev_enum, lt_int, le_int, gt_int, ge_int, add_int, sub_int, gN_ap, isNoneF, notNoneF, List.map_cons, List.map_nil, List.cons_append, List.nil_append, List.append_nil, List.length_cons, List.length_nil, List.length_map, wipeE, Nat.reduceAdd, Nat.reduceSub, Nat.reduceLeDiff, List.replicate, List.getElem?_cons_zero, List.getElem?_cons_succ, Option.join_some, Option.join_none, List.set_cons_zero, List.set_cons_succ, gc_same, decide_true, decide_false, ev_fldS, ev_put, ev_app, if_true, if_false, ite_true, ite_false, Bool.false_eq_true, Bool.not_true, Bool.not_false, reduceIte, sizeLine_eq, ev_notT, ev_tru, ev_rev, ev_srtSet, ev_fmtS, ev_joinS_nil, ev_joinS, ev_eqO, ev_strO]); repeat (simp -implicitDefEqProofs only [len_tup, q1', q2']; (try simp -implicitDefEqProofs only [ev_fn, fin_rt, fin_nx, fin_err, ev_seq, sq_nx, sq_rt, sq_err, ev_cNil, ev_set, ev_expr, ev_rt, ev_rtN, ev_if, ev_for, ev_asg, gt_some, ev_onV, ev_onB, bd_ok, bd_err, sr_ok, sr_err, bk_bl, ik_int, of_some, ev_ret, ev_bind, ev_var, ev_C, ev_op, ev_call, ev_cb, ev_tst, ev_eTst, ev_and, ev_or, ev_not, ev_eIf, ev_bAnd, ev_bOr, ev_bNot, ev_chain, ev_nil, ev_cons, ev_tup, ev_lst, ev_new, ev_neg, ev_fld, ev_sl, ev_oNo, ev_oYes, ev_bTrue, ev_lc, ev_it, ev_rng, ev_enum, lt_int, le_int, gt_int, ge_int, add_int, sub_int, gN_ap, isNoneF, notNoneF, List.map_cons, List.map_nil, List.cons_append, List.nil_append, List.append_nil, List.length_cons, List.length_nil, List.length_map, wipeE, Nat.reduceAdd, Nat.reduceSub, Nat.reduceLeDiff, List.replicate, List.getElem?_cons_zero, List.getElem?_cons_succ, Option.join_some, Option.join_none, List.set_cons_zero, List.set_cons_succ, gc_same, decide_true, decide_false, ev_fldS, ev_put, ev_app, if_true, if_false, ite_true, ite_false, Bool.false_eq_true, Bool.not_true, Bool.not_false, reduceIte, sizeLine_eq, ev_notT, ev_tru, ev_rev, ev_srtSet, ev_fmtS, ev_joinS_nil, ev_joinS, ev_eqO, ev_strO])))
  have pm : ∀ x ∈ xs, pl x = true := fun x hx => pl_mem hp hx
  have pt : ∀ j, ∀ x ∈ xs.take j, pl x = true := fun j x hx => pm x (List.mem_of_mem_take hx)
  have pd : ∀ j, ∀ x ∈ xs.drop j, pl x = true := fun j x hx => pm x (List.mem_of_mem_drop hx)
  have pdt : ∀ j l, ∀ x ∈ (xs.drop j).take l, pl x = true := fun j l x hx => pd j x (List.mem_of_mem_take hx)
  have la : (xs.take p).length = p := by rw [List.length_take]; omega
  have lb : (xs.drop (p + 1)).length = xs.length - (p + 1) := by rw [List.length_drop]
  have lc : (xs.drop p).length = xs.length - p := by rw [List.length_drop]
  have ld : ((xs.drop p).take 1).length = 1 := by rw [List.length_take, lc]; omega
  have sA : ∀ h, slF (.tup xs) none (some (p : Int)) h = some (.tup (xs.take p)) := by
    intro h
    exact (sl_tup' xs none (some (p : Int)) h).trans (by rw [cut_lo xs p (by omega)])
  have sB : ∀ h, slF (.tup xs) (some ((p : Int) + 1)) none h = some (.tup (xs.drop (p + 1))) := by
    intro h
    exact (sl_tup' xs (some ((p : Int) + 1)) none h).trans (by rw [cut_hi1 xs p (by omega)])
  have sC : ∀ h, slF (.tup xs) (some (p : Int)) none h = some (.tup (xs.drop p)) := by
    intro h
    exact (sl_tup' xs (some (p : Int)) none h).trans (by rw [cut_hi xs p (by omega)])
  have sD : ∀ h, slF (.tup xs) (some (p : Int)) (some ((p : Int) + 1)) h = some (.tup ((xs.drop p).take 1)) := by
    intro h
    exact (sl_tup' xs (some (p : Int)) (some ((p : Int) + 1)) h).trans (by rw [cut_mid1 xs p p1])
  have t0 : ∀ v : SV, v = .tup (xs.take p ++ xs.drop (p + 1)) → pl v = true ∧ tl v ≤ xs.length + 1 := by
    rintro v rfl
    exact ⟨pl_app (pt _) (pd _) (by omega), by simp only [tl, List.length_append, la, lb]; omega⟩
  by_cases u0 : u = 0
  · subst u0
    refine ⟨z2, c2, .tup (xs.take p ++ xs.drop (p + 1)), ?_, pl_app (pt _) (pd _) (by omega), by simp only [tl, List.length_append, la, lb]; omega, b2.mono (by omega)⟩
    unfold bentIn
    rw [ev_seq, st, sq_nx]
    have ad := add_tup (h := bag hb z2 m c2) (xs := xs.take p) (ys := xs.drop (p + 1)) (by omega)
    have n0 : decide (((0 : Nat) : Int) = 0) = true := rfl
    ((try simp -implicitDefEqProofs only [ev_fn, fin_rt, fin_nx, fin_err, ev_seq, sq_nx, sq_rt, sq_err, ev_cNil, ev_set, ev_expr, ev_rt, ev_rtN, ev_if, ev_for, ev_asg, gt_some, ev_onV, ev_onB, bd_ok, bd_err, sr_ok, sr_err, bk_bl, ik_int, of_some, ev_ret, ev_bind, ev_var, ev_C, ev_op, ev_call, ev_cb, ev_tst, ev_eTst, ev_and, ev_or, ev_not, ev_eIf, ev_bAnd, ev_bOr, ev_bNot, ev_chain, ev_nil, ev_cons, ev_tup, ev_lst, ev_new, ev_neg, ev_fld, ev_sl, ev_oNo, ev_oYes, ev_bTrue, ev_lc, ev_it, ev_rng, ev_enum, lt_int, le_int, gt_int, ge_int, add_int, sub_int, gN_ap, isNoneF, notNoneF, List.map_cons, List.map_nil, List.cons_append, List.nil_append, List.append_nil, List.length_cons, List.length_nil, List.length_map, wipeE, Nat.reduceAdd, Nat.reduceSub, Nat.reduceLeDiff, List.replicate, List.getElem?_cons_zero, List.getElem?_cons_succ, Option.join_some, Option.join_none, List.set_cons_zero, List.set_cons_succ, gc_same, decide_true, decide_false, ev_fldS, ev_put, ev_app, if_true, if_false, ite_true, ite_false, Bool.false_eq_true, Bool.not_true, Bool.not_false, reduceIte, sizeLine_eq, ev_notT, ev_tru, ev_rev, ev_srtSet, ev_fmtS, ev_joinS_nil, ev_joinS, ev_eqO, ev_strO]); repeat (simp -implicitDefEqProofs only [eqF_int, n0, sA, sB, ad]; (try simp -implicitDefEqProofs only [ev_fn, fin_rt, fin_nx, fin_err, ev_seq, sq_nx, sq_rt, sq_err, ev_cNil, ev_set, ev_expr, ev_rt, ev_rtN, ev_if, ev_for, ev_asg, gt_some, ev_onV, ev_onB, bd_ok, bd_err, sr_ok, sr_err, bk_bl, ik_int, of_some, ev_ret, ev_bind, ev_var, ev_C, ev_op, ev_call, ev_cb, ev_tst, ev_eTst, ev_and, ev_or, ev_not, ev_eIf, ev_bAnd, ev_bOr, ev_bNot, ev_chain, ev_nil, ev_cons, ev_tup, ev_lst, ev_new, ev_neg, ev_fld, ev_sl, ev_oNo, ev_oYes, ev_bTrue, ev_lc, ev_it, ev_rng, ev_enum, lt_int, le_int, gt_int, ge_int, add_int, sub_int, gN_ap, isNoneF, notNoneF, List.map_cons, List.map_nil, List.cons_append, List.nil_append, List.append_nil, List.length_cons, List.length_nil, List.length_map, wipeE, Nat.reduceAdd, Nat.reduceSub, Nat.reduceLeDiff, List.replicate, List.getElem?_cons_zero, List.getElem?_cons_succ, Option.join_some, Option.join_none, List.set_cons_zero, List.set_cons_succ, gc_same, decide_true, decide_false, ev_fldS, ev_put, ev_app, if_true, if_false, ite_true, ite_false, Bool.false_eq_true, Bool.not_true, Bool.not_false, reduceIte, sizeLine_eq, ev_notT, ev_tru, ev_rev, ev_srtSet, ev_fmtS, ev_joinS_nil, ev_joinS, ev_eqO, ev_strO])))
  by_cases u1 : u = 1
  · subst u1
    refine ⟨z2, c2, .tup ((xs.take p ++ (xs.drop p).take 1) ++ xs.drop p), ?_, ?_, ?_, b2.mono (by omega)⟩
    · unfold bentIn
      rw [ev_seq, st, sq_nx]
      have ad := add_tup (h := bag hb z2 m c2) (xs := xs.take p) (ys := (xs.drop p).take 1) (by omega)
      have ae := add_tup (h := bag hb z2 m c2) (xs := xs.take p ++ (xs.drop p).take 1) (ys := xs.drop p) (by simp only [List.length_append]; omega)
      have n0 : decide (((1 : Nat) : Int) = 0) = false := rfl
      have n1 : decide (((1 : Nat) : Int) = 1) = true := rfl
      ((try simp -implicitDefEqProofs only [ev_fn, fin_rt, fin_nx, fin_err, ev_seq, sq_nx, sq_rt, sq_err, ev_cNil, ev_set, ev_expr, ev_rt, ev_rtN, ev_if, ev_for, ev_asg, gt_some, ev_onV, ev_onB, bd_ok, bd_err, sr_ok, sr_err, bk_bl, ik_int, of_some, ev_ret, ev_bind, ev_var, ev_C, ev_op, ev_call, ev_cb, ev_tst, ev_eTst, ev_and, ev_or, ev_not, ev_eIf, ev_bAnd, ev_bOr, ev_bNot, ev_chain, ev_nil, ev_cons, ev_tup, ev_lst, ev_new, ev_neg, ev_fld, ev_sl, ev_oNo, ev_oYes, ev_bTrue, ev_lc, ev_it, ev_rng, ev_enum, lt_int, le_int, gt_int, ge_int, add_int, sub_int, gN_ap, isNoneF, notNoneF, List.map_cons, List.map_nil, List.cons_append, List.nil_append, List.append_nil, List.length_cons, List.length_nil, List.length_map, wipeE, Nat.reduceAdd, Nat.reduceSub, Nat.reduceLeDiff, List.replicate, List.getElem?_cons_zero, List.getElem?_cons_succ, Option.join_some, Option.join_none, List.set_cons_zero, List.set_cons_succ, gc_same, decide_true, decide_false, ev_fldS, ev_put, ev_app, if_true, if_false, ite_true, ite_false, Bool.false_eq_true, Bool.not_true, Bool.not_false, reduceIte, sizeLine_eq, ev_notT, ev_tru, ev_rev, ev_srtSet, ev_fmtS, ev_joinS_nil, ev_joinS, ev_eqO, ev_strO]); repeat (simp -implicitDefEqProofs only [eqF_int, n0, n1, sA, sD, sC, ad, ae]; (try simp -implicitDefEqProofs only [ev_fn, fin_rt, fin_nx, fin_err, ev_seq, sq_nx, sq_rt, sq_err, ev_cNil, ev_set, ev_expr, ev_rt, ev_rtN, ev_if, ev_for, ev_asg, gt_some, ev_onV, ev_onB, bd_ok, bd_err, sr_ok, sr_err, bk_bl, ik_int, of_some, ev_ret, ev_bind, ev_var, ev_C, ev_op, ev_call, ev_cb, ev_tst, ev_eTst, ev_and, ev_or, ev_not, ev_eIf, ev_bAnd, ev_bOr, ev_bNot, ev_chain, ev_nil, ev_cons, ev_tup, ev_lst, ev_new, ev_neg, ev_fld, ev_sl, ev_oNo, ev_oYes, ev_bTrue, ev_lc, ev_it, ev_rng, ev_enum, lt_int, le_int, gt_int, ge_int, add_int, sub_int, gN_ap, isNoneF, notNoneF, List.map_cons, List.map_nil, List.cons_append, List.nil_append, List.append_nil, List.length_cons, List.length_nil, List.length_map, wipeE, Nat.reduceAdd, Nat.reduceSub, Nat.reduceLeDiff, List.replicate, List.getElem?_cons_zero, List.getElem?_cons_succ, Option.join_some, Option.join_none, List.set_cons_zero, List.set_cons_succ, gc_same, decide_true, decide_false, ev_fldS, ev_put, ev_app, if_true, if_false, ite_true, ite_false, Bool.false_eq_true, Bool.not_true, Bool.not_false, reduceIte, sizeLine_eq, ev_notT, ev_tru, ev_rev, ev_srtSet, ev_fmtS, ev_joinS_nil, ev_joinS, ev_eqO, ev_strO])))
    · exact pl_app (fun x hx => (List.mem_append.mp hx).elim (pt _ x) (pdt _ _ x)) (pd _) (by simp only [List.length_append]; omega)
    · simp only [tl, List.length_append]; omega
  have n0 : decide (((u : Nat) : Int) = 0) = false := decide_eq_false (by omega)
  have n1 : decide (((u : Nat) : Int) = 1) = false := decide_eq_false (by omega)
  by_cases u2 : u = 2
  · subst u2
    refine ⟨z2, c2, .tup xs.reverse, ?_, pl_tup (by simp; omega) (fun x hx => pm x (List.mem_reverse.mp hx)), by simp [tl], b2.mono (by omega)⟩
    have n2 : decide (((2 : Nat) : Int) = 2) = true := rfl
    unfold bentIn
    rw [ev_seq, st, sq_nx]
    ((try simp -implicitDefEqProofs only [ev_fn, fin_rt, fin_nx, fin_err, ev_seq, sq_nx, sq_rt, sq_err, ev_cNil, ev_set, ev_expr, ev_rt, ev_rtN, ev_if, ev_for, ev_asg, gt_some, ev_onV, ev_onB, bd_ok, bd_err, sr_ok, sr_err, bk_bl, ik_int, of_some, ev_ret, ev_bind, ev_var, ev_C, ev_op, ev_call, ev_cb, ev_tst, ev_eTst, ev_and, ev_or, ev_not, ev_eIf, ev_bAnd, ev_bOr, ev_bNot, ev_chain, ev_nil, ev_cons, ev_tup, ev_lst, ev_new, ev_neg, ev_fld, ev_sl, ev_oNo, ev_oYes, ev_bTrue, ev_lc, ev_it, ev_rng, ev_enum, lt_int, le_int, gt_int, ge_int, add_int, sub_int, gN_ap, isNoneF, notNoneF, List.map_cons, List.map_nil, List.cons_append, List.nil_append, List.append_nil, List.length_cons, List.length_nil, List.length_map, wipeE, Nat.reduceAdd, Nat.reduceSub, Nat.reduceLeDiff, List.replicate, List.getElem?_cons_zero, List.getElem?_cons_succ, Option.join_some, Option.join_none, List.set_cons_zero, List.set_cons_succ, gc_same, decide_true, decide_false, ev_fldS, ev_put, ev_app, if_true, if_false, ite_true, ite_false, Bool.false_eq_true, Bool.not_true, Bool.not_false, reduceIte, sizeLine_eq, ev_notT, ev_tru, ev_rev, ev_srtSet, ev_fmtS, ev_joinS_nil, ev_joinS, ev_eqO, ev_strO]); repeat (simp -implicitDefEqProofs only [eqF_int, n0, n1, n2, rev_tup]; (try simp -implicitDefEqProofs only [ev_fn, fin_rt, fin_nx, fin_err, ev_seq, sq_nx, sq_rt, sq_err, ev_cNil, ev_set, ev_expr, ev_rt, ev_rtN, ev_if, ev_for, ev_asg, gt_some, ev_onV, ev_onB, bd_ok, bd_err, sr_ok, sr_err, bk_bl, ik_int, of_some, ev_ret, ev_bind, ev_var, ev_C, ev_op, ev_call, ev_cb, ev_tst, ev_eTst, ev_and, ev_or, ev_not, ev_eIf, ev_bAnd, ev_bOr, ev_bNot, ev_chain, ev_nil, ev_cons, ev_tup, ev_lst, ev_new, ev_neg, ev_fld, ev_sl, ev_oNo, ev_oYes, ev_bTrue, ev_lc, ev_it, ev_rng, ev_enum, lt_int, le_int, gt_int, ge_int, add_int, sub_int, gN_ap, isNoneF, notNoneF, List.map_cons, List.map_nil, List.cons_append, List.nil_append, List.append_nil, List.length_cons, List.length_nil, List.length_map, wipeE, Nat.reduceAdd, Nat.reduceSub, Nat.reduceLeDiff, List.replicate, List.getElem?_cons_zero, List.getElem?_cons_succ, Option.join_some, Option.join_none, List.set_cons_zero, List.set_cons_succ, gc_same, decide_true, decide_false, ev_fldS, ev_put, ev_app, if_true, if_false, ite_true, ite_false, Bool.false_eq_true, Bool.not_true, Bool.not_false, reduceIte, sizeLine_eq, ev_notT, ev_tru, ev_rev, ev_srtSet, ev_fmtS, ev_joinS_nil, ev_joinS, ev_eqO, ev_strO])))
  have n2 : decide (((u : Nat) : Int) = 2) = false := decide_eq_false (by omega)
  have ix : ixF (.tup xs) (.int (p : Nat)) (bag hb z2 m c2) = some xs[p] := L2.atI_nat (List.getElem?_eq_getElem p1)
  obtain ⟨z3, c3, w, q3, w1, w2, b3⟩ := he xs[p] (List.getElem_mem p1) (k + 1 + 1) z2 m c2 b2 (by omega)
  refine ⟨z3, c3, .tup ((xs.take p ++ [w]) ++ xs.drop (p + 1)), ?_, ?_, ?_, b3.mono (by omega)⟩
  · unfold bentIn
    rw [ev_seq, st, sq_nx]
    have ad := add_tup (h := bag hb z3 m c3) (xs := xs.take p) (ys := [w]) (by simp; omega)
    have ae := add_tup (h := bag hb z3 m c3) (xs := xs.take p ++ [w]) (ys := xs.drop (p + 1)) (by simp only [List.length_append, List.length_cons, List.length_nil]; omega)
    ((try simp -implicitDefEqProofs only [ev_fn, fin_rt, fin_nx, fin_err, ev_seq, sq_nx, sq_rt, sq_err, ev_cNil, ev_set, ev_expr, ev_rt, ev_rtN, ev_if, ev_for, ev_asg, gt_some, ev_onV, ev_onB, bd_ok, bd_err, sr_ok, sr_err, bk_bl, ik_int, of_some, ev_ret, ev_bind, ev_var, ev_C, ev_op, ev_call, ev_cb, ev_tst, ev_eTst, ev_and, ev_or, ev_not, ev_eIf, ev_bAnd, ev_bOr, ev_bNot, ev_chain, ev_nil, ev_cons, ev_tup, ev_lst, ev_new, ev_neg, ev_fld, ev_sl, ev_oNo, ev_oYes, ev_bTrue, ev_lc, ev_it, ev_rng, ev_enum, lt_int, le_int, gt_int, ge_int, add_int, sub_int, gN_ap, isNoneF, notNoneF, List.map_cons, List.map_nil, List.cons_append, List.nil_append, List.append_nil, List.length_cons, List.length_nil, List.length_map, wipeE, Nat.reduceAdd, Nat.reduceSub, Nat.reduceLeDiff, List.replicate, List.getElem?_cons_zero, List.getElem?_cons_succ, Option.join_some, Option.join_none, List.set_cons_zero, List.set_cons_succ, gc_same, decide_true, decide_false, ev_fldS, ev_put, ev_app, if_true, if_false, ite_true, ite_false, Bool.false_eq_true, Bool.not_true, Bool.not_false, reduceIte, sizeLine_eq, ev_notT, ev_tru, ev_rev, ev_srtSet, ev_fmtS, ev_joinS_nil, ev_joinS, ev_eqO, ev_strO]); repeat (simp -implicitDefEqProofs only [eqF_int, n0, n1, n2, sA, ix, q3, sB, ad, ae]; (try simp -implicitDefEqProofs only [ev_fn, fin_rt, fin_nx, fin_err, ev_seq, sq_nx, sq_rt, sq_err, ev_cNil, ev_set, ev_expr, ev_rt, ev_rtN, ev_if, ev_for, ev_asg, gt_some, ev_onV, ev_onB, bd_ok, bd_err, sr_ok, sr_err, bk_bl, ik_int, of_some, ev_ret, ev_bind, ev_var, ev_C, ev_op, ev_call, ev_cb, ev_tst, ev_eTst, ev_and, ev_or, ev_not, ev_eIf, ev_bAnd, ev_bOr, ev_bNot, ev_chain, ev_nil, ev_cons, ev_tup, ev_lst, ev_new, ev_neg, ev_fld, ev_sl, ev_oNo, ev_oYes, ev_bTrue, ev_lc, ev_it, ev_rng, ev_enum, lt_int, le_int, gt_int, ge_int, add_int, sub_int, gN_ap, isNoneF, notNoneF, List.map_cons, List.map_nil, List.cons_append, List.nil_append, List.append_nil, List.length_cons, List.length_nil, List.length_map, wipeE, Nat.reduceAdd, Nat.reduceSub, Nat.reduceLeDiff, List.replicate, List.getElem?_cons_zero, List.getElem?_cons_succ, Option.join_some, Option.join_none, List.set_cons_zero, List.set_cons_succ, gc_same, decide_true, decide_false, ev_fldS, ev_put, ev_app, if_true, if_false, ite_true, ite_false, Bool.false_eq_true, Bool.not_true, Bool.not_false, reduceIte, sizeLine_eq, ev_notT, ev_tru, ev_rev, ev_srtSet, ev_fmtS, ev_joinS_nil, ev_joinS, ev_eqO, ev_strO])))
  · exact pl_app (fun x hx => (List.mem_append.mp hx).elim (pt _ x) (fun e => by rw [List.mem_singleton.mp e]; exact w1)) (pd _) (by simp only [List.length_append, List.length_cons, List.length_nil]; omega)
  · simp only [tl, List.length_append, List.length_cons, List.length_nil]; omega
theorem bent_tup (n : Nat) (xs : List SV) (hp : pl (.tup xs) = true) (hl : xs.length ≤ 600) (heq : ∀ h, eqF true (.tup xs) (.tup []) h = some (.bl (!xs.isEmpty))) (he : ∀ x ∈ xs, BT a hb n x) (hn : n ≤ 100) : BT a hb (n + 1) (.tup xs) := by
  intro k z m c b hk
  have ht : (ty (.tup xs)).isSome = true := rfl
  have t0 : isTp (.tup xs) = true := rfl
  have fe : ∀ r h, fnD true 4 (B_u_law_bent r a) [.ref hb.length, .tup xs] h = fin true h (B_u_law_bent r a [some (.ref hb.length), some (.tup xs), none, none] h) := fun r h => ev_fn
  have nx : ∀ z1 c1, (cIf (bAnd (eTst (eCB isiF (aCons (eVar 1) (aCons (eC (.ty "tuple")) aNil)))) (bAnd (eTst (eOp (eqF true) (eVar 1) (eTup aNil))) (eTst (eOp gtI (eCall (D_u_law_pick a) (aCons (eVar 0) (aCons (eC (.int 6)) aNil))) (eC (.int 0)))))) (bentIn (D_u_law_bent n a) a) cNil [some (.ref hb.length), some (.tup xs), none, none] (bag hb z m c) = .nx [some (.ref hb.length), some (.tup xs), none, none] (bag hb z1 m c1)) → Bag (k + 1) z1 m c1 →
      ∃ z' c' w, D_u_law_bent (n + 1) a [.ref hb.length, .tup xs] (bag hb z m c) = .ok w (bag hb z' m c') ∧ pl w = true ∧ tl w ≤ tl (.tup xs) + 1 ∧ Bag (k + 10 * (n + 1)) z' m c' := by
    intro z1 c1 q b1
    obtain ⟨z', c', w, q1, q2, q3, b'⟩ := rest_ok a hb b1 (by omega) z c hp none none rfl
    refine ⟨z', c', w, ?_, q2, Nat.le_trans q3 (by omega), b'.mono (by omega)⟩
    show fnD true 4 (B_u_law_bent (D_u_law_bent n a) a) [.ref hb.length, .tup xs] (bag hb z m c) = _
    rw [fe, ← q1]
    unfold B_u_law_bent
    rw [ev_seq, q, sq_nx]
  by_cases h0 : xs.length = 0
  · have e0 : xs.isEmpty = true := by cases xs <;> simp_all
    refine nx z c ?_ (b.mono (by omega))
    ((try simp -implicitDefEqProofs only [ev_fn, fin_rt, fin_nx, fin_err, ev_seq, sq_nx, sq_rt, sq_err, ev_cNil, ev_set, ev_expr, ev_rt, ev_rtN, ev_if, ev_for, ev_asg, gt_some, ev_onV, ev_onB, bd_ok, bd_err, sr_ok, sr_err, bk_bl, ik_int, of_some, ev_ret, ev_bind, ev_var, ev_C, ev_op, ev_call, ev_cb, ev_tst, ev_eTst, ev_and, ev_or, ev_not, ev_eIf, ev_bAnd, ev_bOr, ev_bNot, ev_chain, ev_nil, ev_cons, ev_tup, ev_lst, ev_new, ev_neg, ev_fld, ev_sl, ev_oNo, ev_oYes, ev_bTrue, ev_lc, ev_it, ev_rng, ev_enum, lt_int, le_int, gt_int, ge_int, add_int, sub_int, gN_ap, isNoneF, notNoneF, List.map_cons, List.map_nil, List.cons_append, List.nil_append, List.append_nil, List.length_cons, List.length_nil, List.length_map, wipeE, Nat.reduceAdd, Nat.reduceSub, Nat.reduceLeDiff, List.replicate, List.getElem?_cons_zero, List.getElem?_cons_succ, Option.join_some, Option.join_none, List.set_cons_zero, List.set_cons_succ, gc_same, decide_true, decide_false, ev_fldS, ev_put, ev_app, if_true, if_false, ite_true, ite_false, Bool.false_eq_true, Bool.not_true, Bool.not_false, reduceIte, sizeLine_eq, ev_notT, ev_tru, ev_rev, ev_srtSet, ev_fmtS, ev_joinS_nil, ev_joinS, ev_eqO, ev_strO]); repeat (simp -implicitDefEqProofs only [isi_tp _ ht, t0, heq, e0]; (try simp -implicitDefEqProofs only [ev_fn, fin_rt, fin_nx, fin_err, ev_seq, sq_nx, sq_rt, sq_err, ev_cNil, ev_set, ev_expr, ev_rt, ev_rtN, ev_if, ev_for, ev_asg, gt_some, ev_onV, ev_onB, bd_ok, bd_err, sr_ok, sr_err, bk_bl, ik_int, of_some, ev_ret, ev_bind, ev_var, ev_C, ev_op, ev_call, ev_cb, ev_tst, ev_eTst, ev_and, ev_or, ev_not, ev_eIf, ev_bAnd, ev_bOr, ev_bNot, ev_chain, ev_nil, ev_cons, ev_tup, ev_lst, ev_new, ev_neg, ev_fld, ev_sl, ev_oNo, ev_oYes, ev_bTrue, ev_lc, ev_it, ev_rng, ev_enum, lt_int, le_int, gt_int, ge_int, add_int, sub_int, gN_ap, isNoneF, notNoneF, List.map_cons, List.map_nil, List.cons_append, List.nil_append, List.append_nil, List.length_cons, List.length_nil, List.length_map, wipeE, Nat.reduceAdd, Nat.reduceSub, Nat.reduceLeDiff, List.replicate, List.getElem?_cons_zero, List.getElem?_cons_succ, Option.join_some, Option.join_none, List.set_cons_zero, List.set_cons_succ, gc_same, decide_true, decide_false, ev_fldS, ev_put, ev_app, if_true, if_false, ite_true, ite_false, Bool.false_eq_true, Bool.not_true, Bool.not_false, reduceIte, sizeLine_eq, ev_notT, ev_tru, ev_rev, ev_srtSet, ev_fmtS, ev_joinS_nil, ev_joinS, ev_eqO, ev_strO])))
  · have e0 : xs.isEmpty = false := by cases xs <;> simp_all
    obtain ⟨z1, c1, p, q1, p1, b1⟩ := v_pickN a hb b (by omega) 6 (by omega) (by omega)
    have q1' : D_u_law_pick a [.ref hb.length, .int 6] (bag hb z m c) = .ok (nv p) (bag hb z1 m c1) := q1
    by_cases hp0 : (0 : Int) < (p : Nat)
    · have e1 : decide ((0 : Int) < (p : Nat)) = true := decide_eq_true hp0
      obtain ⟨z', c', w, w1, w2, w3, b'⟩ := bent_in a hb n xs hp hl (by omega) he b1 (by omega)
      refine ⟨z', c', w, ?_, w2, by simpa [tl] using w3, b'.mono (by omega)⟩
      show fnD true 4 (B_u_law_bent (D_u_law_bent n a) a) [.ref hb.length, .tup xs] (bag hb z m c) = _
      have st : cIf (bAnd (eTst (eCB isiF (aCons (eVar 1) (aCons (eC (.ty "tuple")) aNil)))) (bAnd (eTst (eOp (eqF true) (eVar 1) (eTup aNil))) (eTst (eOp gtI (eCall (D_u_law_pick a) (aCons (eVar 0) (aCons (eC (.int 6)) aNil))) (eC (.int 0)))))) (bentIn (D_u_law_bent n a) a) cNil [some (.ref hb.length), some (.tup xs), none, none] (bag hb z m c) = bentIn (D_u_law_bent n a) a [some (.ref hb.length), some (.tup xs), none, none] (bag hb z1 m c1) := by
        rw [ev_if]
        have tt : (bAnd (eTst (eCB isiF (aCons (eVar 1) (aCons (eC (.ty "tuple")) aNil)))) (bAnd (eTst (eOp (eqF true) (eVar 1) (eTup aNil))) (eTst (eOp gtI (eCall (D_u_law_pick a) (aCons (eVar 0) (aCons (eC (.int 6)) aNil))) (eC (.int 0)))))) [some (.ref hb.length), some (.tup xs), none, none] (bag hb z m c) = .ok true (bag hb z1 m c1) := by
          ((try simp -implicitDefEqProofs only [ev_fn, fin_rt, fin_nx, fin_err, ev_seq, sq_nx, sq_rt, sq_err, ev_cNil, ev_set, ev_expr, ev_rt, ev_rtN, ev_if, ev_for, ev_asg, gt_some, ev_onV, ev_onB, bd_ok, bd_err, sr_ok, sr_err, bk_bl, ik_int, of_some, ev_ret, ev_bind, ev_var, ev_C, ev_op, ev_call, ev_cb, ev_tst, ev_eTst, ev_and, ev_or, ev_not, ev_eIf, ev_bAnd, ev_bOr, ev_bNot, ev_chain, ev_nil, ev_cons, ev_tup, ev_lst, ev_new, ev_neg, ev_fld, ev_sl, ev_oNo, ev_oYes, ev_bTrue, ev_lc, ev_it, ev_rng, ev_enum, lt_int, le_int, gt_int, ge_int, add_int, sub_int, gN_ap, isNoneF, notNoneF, List.map_cons, List.map_nil, List.cons_append, List.nil_append, List.append_nil, List.length_cons, List.length_nil, List.length_map, wipeE, Nat.reduceAdd, Nat.reduceSub, Nat.reduceLeDiff, List.replicate, List.getElem?_cons_zero, List.getElem?_cons_succ, Option.join_some, Option.join_none, List.set_cons_zero, List.set_cons_succ, gc_same, decide_true, decide_false, ev_fldS, ev_put, ev_app, if_true, if_false, ite_true, ite_false, Bool.false_eq_true, Bool.not_true, Bool.not_false, reduceIte, sizeLine_eq, ev_notT, ev_tru, ev_rev, ev_srtSet, ev_fmtS, ev_joinS_nil, ev_joinS, ev_eqO, ev_strO]); repeat (simp -implicitDefEqProofs only [isi_tp _ ht, t0, heq, e0, q1', e1]; (try simp -implicitDefEqProofs only [ev_fn, fin_rt, fin_nx, fin_err, ev_seq, sq_nx, sq_rt, sq_err, ev_cNil, ev_set, ev_expr, ev_rt, ev_rtN, ev_if, ev_for, ev_asg, gt_some, ev_onV, ev_onB, bd_ok, bd_err, sr_ok, sr_err, bk_bl, ik_int, of_some, ev_ret, ev_bind, ev_var, ev_C, ev_op, ev_call, ev_cb, ev_tst, ev_eTst, ev_and, ev_or, ev_not, ev_eIf, ev_bAnd, ev_bOr, ev_bNot, ev_chain, ev_nil, ev_cons, ev_tup, ev_lst, ev_new, ev_neg, ev_fld, ev_sl, ev_oNo, ev_oYes, ev_bTrue, ev_lc, ev_it, ev_rng, ev_enum, lt_int, le_int, gt_int, ge_int, add_int, sub_int, gN_ap, isNoneF, notNoneF, List.map_cons, List.map_nil, List.cons_append, List.nil_append, List.append_nil, List.length_cons, List.length_nil, List.length_map, wipeE, Nat.reduceAdd, Nat.reduceSub, Nat.reduceLeDiff, List.replicate, List.getElem?_cons_zero, List.getElem?_cons_succ, Option.join_some, Option.join_none, List.set_cons_zero, List.set_cons_succ, gc_same, decide_true, decide_false, ev_fldS, ev_put, ev_app, if_true, if_false, ite_true, ite_false, Bool.false_eq_true, Bool.not_true, Bool.not_false, reduceIte, sizeLine_eq, ev_notT, ev_tru, ev_rev, ev_srtSet, ev_fmtS, ev_joinS_nil, ev_joinS, ev_eqO, ev_strO])))
        rw [tt, sr_ok, if_pos rfl]
      rw [fe]
      unfold B_u_law_bent
      rw [ev_seq, st, w1, sq_rt, fin_rt]
      exact gc_len (by simp [bag])
    · have e1 : decide ((0 : Int) < (p : Nat)) = false := decide_eq_false hp0
      refine nx z1 c1 ?_ b1
      ((try simp -implicitDefEqProofs only [ev_fn, fin_rt, fin_nx, fin_err, ev_seq, sq_nx, sq_rt, sq_err, ev_cNil, ev_set, ev_expr, ev_rt, ev_rtN, ev_if, ev_for, ev_asg, gt_some, ev_onV, ev_onB, bd_ok, bd_err, sr_ok, sr_err, bk_bl, ik_int, of_some, ev_ret, ev_bind, ev_var, ev_C, ev_op, ev_call, ev_cb, ev_tst, ev_eTst, ev_and, ev_or, ev_not, ev_eIf, ev_bAnd, ev_bOr, ev_bNot, ev_chain, ev_nil, ev_cons, ev_tup, ev_lst, ev_new, ev_neg, ev_fld, ev_sl, ev_oNo, ev_oYes, ev_bTrue, ev_lc, ev_it, ev_rng, ev_enum, lt_int, le_int, gt_int, ge_int, add_int, sub_int, gN_ap, isNoneF, notNoneF, List.map_cons, List.map_nil, List.cons_append, List.nil_append, List.append_nil, List.length_cons, List.length_nil, List.length_map, wipeE, Nat.reduceAdd, Nat.reduceSub, Nat.reduceLeDiff, List.replicate, List.getElem?_cons_zero, List.getElem?_cons_succ, Option.join_some, Option.join_none, List.set_cons_zero, List.set_cons_succ, gc_same, decide_true, decide_false, ev_fldS, ev_put, ev_app, if_true, if_false, ite_true, ite_false, Bool.false_eq_true, Bool.not_true, Bool.not_false, reduceIte, sizeLine_eq, ev_notT, ev_tru, ev_rev, ev_srtSet, ev_fmtS, ev_joinS_nil, ev_joinS, ev_eqO, ev_strO]); repeat (simp -implicitDefEqProofs only [isi_tp _ ht, t0, heq, e0, q1', e1]; (try simp -implicitDefEqProofs only [ev_fn, fin_rt, fin_nx, fin_err, ev_seq, sq_nx, sq_rt, sq_err, ev_cNil, ev_set, ev_expr, ev_rt, ev_rtN, ev_if, ev_for, ev_asg, gt_some, ev_onV, ev_onB, bd_ok, bd_err, sr_ok, sr_err, bk_bl, ik_int, of_some, ev_ret, ev_bind, ev_var, ev_C, ev_op, ev_call, ev_cb, ev_tst, ev_eTst, ev_and, ev_or, ev_not, ev_eIf, ev_bAnd, ev_bOr, ev_bNot, ev_chain, ev_nil, ev_cons, ev_tup, ev_lst, ev_new, ev_neg, ev_fld, ev_sl, ev_oNo, ev_oYes, ev_bTrue, ev_lc, ev_it, ev_rng, ev_enum, lt_int, le_int, gt_int, ge_int, add_int, sub_int, gN_ap, isNoneF, notNoneF, List.map_cons, List.map_nil, List.cons_append, List.nil_append, List.append_nil, List.length_cons, List.length_nil, List.length_map, wipeE, Nat.reduceAdd, Nat.reduceSub, Nat.reduceLeDiff, List.replicate, List.getElem?_cons_zero, List.getElem?_cons_succ, Option.join_some, Option.join_none, List.set_cons_zero, List.set_cons_succ, gc_same, decide_true, decide_false, ev_fldS, ev_put, ev_app, if_true, if_false, ite_true, ite_false, Bool.false_eq_true, Bool.not_true, Bool.not_false, reduceIte, sizeLine_eq, ev_notT, ev_tru, ev_rev, ev_srtSet, ev_fmtS, ev_joinS_nil, ev_joinS, ev_eqO, ev_strO])))
end My

set_option Elab.async false
set_option linter.all false
set_option maxRecDepth 100000
set_option maxHeartbeats 4000000
namespace My
open PySem L2 Sim
variable (a : Ads) (hb : SHp)
theorem natsV_tI (ps : List Nat) : natsV ps = tI (ps.map (fun x : Nat => (x : Int))) := by
  unfold natsV tI
  rw [List.map_map]; rfl
theorem rows_tR (rs : List (List Nat)) : SV.tup (rs.map natsV) = tR' (rs.map (fun r => r.map (fun x : Nat => (x : Int)))) := by
  unfold tR'
  rw [List.map_map]
  congr 1
  exact List.map_congr_left fun r _ => natsV_tI r
theorem eqv_nil (ds : List PyData) : PyData.eqv (.tuple ds) (.tuple []) = ds.isEmpty := by cases ds <;> simp [PyData.eqv, PyData.eqvAll]
theorem ne_nil_ints (ns : List Int) (h : SHp) : eqF true (tI ns) (.tup []) h = some (.bl (!(ns.map SV.int).isEmpty)) := by
  have := eqF_tupI true ns [] h
  simp only [List.map_nil] at this
  rw [this]
  cases ns <;> simp
theorem ne_nil_rows (rs : List (List Int)) (h : SHp) : eqF true (tR' rs) (.tup []) h = some (.bl (!(rs.map tI).isEmpty)) := by
  rw [eqF_of h true (d := .tuple (rs.map D1)) (e := .tuple []) (by simp only [dataT, data_rows]) rfl (shp_rows rs) (by decide)]
  rw [eqv_nil]
  cases rs <;> simp
theorem pl_ints {ns : List Int} (hl : ns.length ≤ 900) : pl (tI ns) = true := by
  refine pl_tup (by simpa using hl) ?_
  intro x hx
  obtain ⟨i, _, rfl⟩ := List.mem_map.mp hx
  rfl
theorem pl_rows {rs : List (List Int)} (hl : rs.length ≤ 900) (h : ∀ r ∈ rs, r.length ≤ 900) : pl (tR' rs) = true := by
  refine pl_tup (by simpa using hl) ?_
  intro x hx
  obtain ⟨r, hr, rfl⟩ := List.mem_map.mp hx
  exact pl_ints (h r hr)
theorem BT_ints (n : Nat) (hn : n ≤ 90) (ns : List Int) (hl : ns.length ≤ 600) : BT a hb (n + 2) (tI ns) := by
  refine bent_tup a hb (n + 1) _ (pl_ints (by omega)) (by simpa using hl) (fun h => ne_nil_ints ns h) ?_ (by omega)
  intro x hx
  obtain ⟨i, _, rfl⟩ := List.mem_map.mp hx
  exact bent_int a hb n i
theorem BT_rows (n : Nat) (hn : n ≤ 90) (rs : List (List Int)) (hl : rs.length ≤ 600) (h : ∀ r ∈ rs, r.length ≤ 600) : BT a hb (n + 3) (tR' rs) := by
  refine bent_tup a hb (n + 2) _ (pl_rows (by omega) (fun r hr => by have := h r hr; omega)) (by simpa using hl) (fun h => ne_nil_rows rs h) ?_ (by omega)
  intro x hx
  obtain ⟨r, hr, rfl⟩ := List.mem_map.mp hx
  exact BT_ints a hb n (by omega) r (h r hr)
/-- one part of the reader, bent or not -/
theorem part_ok {v : SV} (hv : pl v = true) (bt : BT a hb 4 v) {k : Nat} {z m c : Int} (b : Bag k z m c) (hk : k + 100 < 2 ^ 70) (x0 : Option SV) (x1 x2 x3 x4 x5 x6 x7 : Option SV) :
    ∃ z' c' w, (eIf (eTst (eOp (eqF false) (eCall (D_u_law_pick a) (aCons (eVar 0) (aCons (eC (.int 2)) aNil))) (eC (.int 0)))) (eCall (D_u_law_bent 4 a) (aCons (eVar 0) (aCons (eVar 8) aNil))) (eVar 8)) [some (.ref hb.length), x1, x2, x3, x4, x5, x6, x7, some v] (bag hb z m c) = .ok w (bag hb z' m c') ∧ pl w = true ∧ tl w ≤ tl v + 1 ∧ Bag (k + 41) z' m c' := by
  obtain ⟨z1, c1, p, q1, p1, b1⟩ := v_pickN a hb b (by omega) 2 (by omega) (by omega)
  have q1' : D_u_law_pick a [.ref hb.length, .int 2] (bag hb z m c) = .ok (.int (p : Nat)) (bag hb z1 m c1) := q1
  by_cases p0 : p = 0
  · obtain ⟨z2, c2, w, q2, w1, w2, b2⟩ := bt (k + 1) z1 m c1 b1 (by omega)
    refine ⟨z2, c2, w, ?_, w1, w2, b2.mono (by omega)⟩
    have e1 : decide (((p : Nat) : Int) = 0) = true := decide_eq_true (by omega)
    ((try simp -implicitDefEqProofs only [ev_fn, fin_rt, fin_nx, fin_err, ev_seq, sq_nx, sq_rt, sq_err, ev_cNil, ev_set, ev_expr, ev_rt, ev_rtN, ev_if, ev_for, ev_asg, gt_some, ev_onV, ev_onB, bd_ok, bd_err, sr_ok, sr_err, bk_bl, ik_int, of_some, ev_ret, ev_bind, ev_var, ev_C, ev_op, ev_call, ev_cb, ev_tst, ev_eTst, ev_and, ev_or, ev_not, ev_eIf, ev_bAnd, ev_bOr, ev_bNot, ev_chain, ev_nil, ev_cons, ev_tup, ev_lst, ev_new, ev_neg, ev_fld, ev_sl, ev_oNo, ev_oYes, ev_bTrue, ev_lc, ev_it, ev_rng, ev_enum, lt_int, le_int, gt_int, ge_int, add_int, sub_int, gN_ap, isNoneF, notNoneF, List.map_cons, List.map_nil, List.cons_append, List.nil_append, List.append_nil, List.length_cons, List.length_nil, List.length_map, wipeE, Nat.reduceAdd, Nat.reduceSub, Nat.reduceLeDiff, List.replicate, List.getElem?_cons_zero, List.getElem?_cons_succ, Option.join_some, Option.join_none, List.set_cons_zero, List.set_cons_succ, gc_same, decide_true, decide_false, ev_fldS, ev_put, ev_app, if_true, if_false, ite_true, ite_false, Bool.false_eq_true, Bool.not_true, Bool.not_false, reduceIte, sizeLine_eq, ev_notT, ev_tru, ev_rev, ev_srtSet, ev_fmtS, ev_joinS_nil, ev_joinS, ev_eqO, ev_strO]); repeat (simp -implicitDefEqProofs only [q1', eqF_int, e1, q2]; (try simp -implicitDefEqProofs only [ev_fn, fin_rt, fin_nx, fin_err, ev_seq, sq_nx, sq_rt, sq_err, ev_cNil, ev_set, ev_expr, ev_rt, ev_rtN, ev_if, ev_for, ev_asg, gt_some, ev_onV, ev_onB, bd_ok, bd_err, sr_ok, sr_err, bk_bl, ik_int, of_some, ev_ret, ev_bind, ev_var, ev_C, ev_op, ev_call, ev_cb, ev_tst, ev_eTst, ev_and, ev_or, ev_not, ev_eIf, ev_bAnd, ev_bOr, ev_bNot, ev_chain, ev_nil, ev_cons, ev_tup, ev_lst, ev_new, ev_neg, ev_fld, ev_sl, ev_oNo, ev_oYes, ev_bTrue, ev_lc, ev_it, ev_rng, ev_enum, lt_int, le_int, gt_int, ge_int, add_int, sub_int, gN_ap, isNoneF, notNoneF, List.map_cons, List.map_nil, List.cons_append, List.nil_append, List.append_nil, List.length_cons, List.length_nil, List.length_map, wipeE, Nat.reduceAdd, Nat.reduceSub, Nat.reduceLeDiff, List.replicate, List.getElem?_cons_zero, List.getElem?_cons_succ, Option.join_some, Option.join_none, List.set_cons_zero, List.set_cons_succ, gc_same, decide_true, decide_false, ev_fldS, ev_put, ev_app, if_true, if_false, ite_true, ite_false, Bool.false_eq_true, Bool.not_true, Bool.not_false, reduceIte, sizeLine_eq, ev_notT, ev_tru, ev_rev, ev_srtSet, ev_fmtS, ev_joinS_nil, ev_joinS, ev_eqO, ev_strO])))
  · refine ⟨z1, c1, v, ?_, hv, by omega, b1.mono (by omega)⟩
    have e1 : decide (((p : Nat) : Int) = 0) = false := decide_eq_false (by omega)
    ((try simp -implicitDefEqProofs only [ev_fn, fin_rt, fin_nx, fin_err, ev_seq, sq_nx, sq_rt, sq_err, ev_cNil, ev_set, ev_expr, ev_rt, ev_rtN, ev_if, ev_for, ev_asg, gt_some, ev_onV, ev_onB, bd_ok, bd_err, sr_ok, sr_err, bk_bl, ik_int, of_some, ev_ret, ev_bind, ev_var, ev_C, ev_op, ev_call, ev_cb, ev_tst, ev_eTst, ev_and, ev_or, ev_not, ev_eIf, ev_bAnd, ev_bOr, ev_bNot, ev_chain, ev_nil, ev_cons, ev_tup, ev_lst, ev_new, ev_neg, ev_fld, ev_sl, ev_oNo, ev_oYes, ev_bTrue, ev_lc, ev_it, ev_rng, ev_enum, lt_int, le_int, gt_int, ge_int, add_int, sub_int, gN_ap, isNoneF, notNoneF, List.map_cons, List.map_nil, List.cons_append, List.nil_append, List.append_nil, List.length_cons, List.length_nil, List.length_map, wipeE, Nat.reduceAdd, Nat.reduceSub, Nat.reduceLeDiff, List.replicate, List.getElem?_cons_zero, List.getElem?_cons_succ, Option.join_some, Option.join_none, List.set_cons_zero, List.set_cons_succ, gc_same, decide_true, decide_false, ev_fldS, ev_put, ev_app, if_true, if_false, ite_true, ite_false, Bool.false_eq_true, Bool.not_true, Bool.not_false, reduceIte, sizeLine_eq, ev_notT, ev_tru, ev_rev, ev_srtSet, ev_fmtS, ev_joinS_nil, ev_joinS, ev_eqO, ev_strO]); repeat (simp -implicitDefEqProofs only [q1', eqF_int, e1]; (try simp -implicitDefEqProofs only [ev_fn, fin_rt, fin_nx, fin_err, ev_seq, sq_nx, sq_rt, sq_err, ev_cNil, ev_set, ev_expr, ev_rt, ev_rtN, ev_if, ev_for, ev_asg, gt_some, ev_onV, ev_onB, bd_ok, bd_err, sr_ok, sr_err, bk_bl, ik_int, of_some, ev_ret, ev_bind, ev_var, ev_C, ev_op, ev_call, ev_cb, ev_tst, ev_eTst, ev_and, ev_or, ev_not, ev_eIf, ev_bAnd, ev_bOr, ev_bNot, ev_chain, ev_nil, ev_cons, ev_tup, ev_lst, ev_new, ev_neg, ev_fld, ev_sl, ev_oNo, ev_oYes, ev_bTrue, ev_lc, ev_it, ev_rng, ev_enum, lt_int, le_int, gt_int, ge_int, add_int, sub_int, gN_ap, isNoneF, notNoneF, List.map_cons, List.map_nil, List.cons_append, List.nil_append, List.append_nil, List.length_cons, List.length_nil, List.length_map, wipeE, Nat.reduceAdd, Nat.reduceSub, Nat.reduceLeDiff, List.replicate, List.getElem?_cons_zero, List.getElem?_cons_succ, Option.join_some, Option.join_none, List.set_cons_zero, List.set_cons_succ, gc_same, decide_true, decide_false, ev_fldS, ev_put, ev_app, if_true, if_false, ite_true, ite_false, Bool.false_eq_true, Bool.not_true, Bool.not_false, reduceIte, sizeLine_eq, ev_notT, ev_tru, ev_rev, ev_srtSet, ev_fmtS, ev_joinS_nil, ev_joinS, ev_eqO, ev_strO])))
end My

set_option Elab.async false
set_option linter.all false
set_option maxRecDepth 100000
set_option maxHeartbeats 4000000
namespace My
open PySem L2 Sim
variable (a : Ads) (hb : SHp)
def turnB (a : Ads) : ST' := (cSeq (cSet 4 (eLc (cIt (eVar 1)) [8] (gN 8) bTrue (eIf (eTst (eOp (eqF false) (eCall (D_u_law_pick a) (aCons (eVar 0) (aCons (eC (.int 2)) aNil))) (eC (.int 0)))) (eCall (D_u_law_bent 4 a) (aCons (eVar 0) (aCons (eVar 8) aNil))) (eVar 8))))
    (cIf (bNot (eTst (eCall (D_u_law_is_right a) (aCons (eCB tupleF (aCons (eVar 4) aNil)) aNil)))) (cRet (eC (.bl false))) cNil))
theorem len_asc : ∀ (ps : List Nat) (lo n : Nat), (∀ x ∈ ps, lo ≤ x ∧ x < n) → ps.Pairwise (· < ·) → ps.length ≤ n - lo
  | [], _, _, _, _ => by simp
  | x :: xs, lo, n, h1, h2 => by
    rw [List.pairwise_cons] at h2
    have := len_asc xs (x + 1) n (fun y hy => ⟨h2.1 y hy, (h1 y (by simp [hy])).2⟩) h2.2
    have := h1 x (by simp)
    simp only [List.length_cons]; omega
theorem len_acc {ps : List Nat} {n : Nat} (h1 : ∀ x ∈ ps, x < n) (h2 : ps.Pairwise (· < ·)) : ps.length ≤ n := by
  have := len_asc ps 0 n (fun x hx => ⟨by omega, h1 x hx⟩) h2
  omega
theorem turn_ok (r : Rdr) (ok : r.Ok) (hn : r.n ≤ 9) (T2 e3 e4 : Option SV) {k : Nat} {z m c : Int} (b : Bag k z m c) (hk : k + 1000 < 2 ^ 70) :
    ∃ z' c' e4', turnB a [some (.ref hb.length), some r.T, T2, e3, e4, none, none, none, none] (bag hb z m c) = .nx [some (.ref hb.length), some r.T, T2, e3, e4', none, none, none, none] (bag hb z' m c') ∧ Bag (k + 123) z' m c' := by
  have hn' : r.steps.length ≤ 9 := hn
  have hl : r.L < 65 := by have := ok.l2; omega
  have la : r.acc.length ≤ 9 := by have := len_acc ok.acc ok.asc; omega
  have e1 : r.sV = tR' (r.steps.map (fun r => r.map (fun x : Nat => (x : Int)))) := rows_tR r.steps
  have e2 : natsV r.acc = tI (r.acc.map (fun x : Nat => (x : Int))) := natsV_tI r.acc
  have pS : pl r.sV = true := by
    rw [e1]; refine pl_rows (by rw [List.length_map]; omega) (fun x hx => ?_)
    obtain ⟨y, hy, rfl⟩ := List.mem_map.mp hx
    have := (ok.row y hy).1
    rw [List.length_map]; omega
  have pA : pl (natsV r.acc) = true := by rw [e2]; exact pl_ints (by rw [List.length_map]; omega)
  have bS : BT a hb 4 r.sV := by
    rw [e1]; refine BT_rows a hb 1 (by omega) _ (by rw [List.length_map]; omega) (fun x hx => ?_)
    obtain ⟨y, hy, rfl⟩ := List.mem_map.mp hx
    have := (ok.row y hy).1
    rw [List.length_map]; omega
  have bA : BT a hb 4 (natsV r.acc) := by rw [e2]; exact BT_ints a hb 2 (by omega) _ (by rw [List.length_map]; omega)
  obtain ⟨z1, c1, l, q1, l1, l2, b1⟩ := part_ok a hb (v := nv r.L) rfl (bent_int a hb 3 r.L) b (by omega) none (some r.T) T2 e3 e4 none none none
  obtain ⟨z2, c2, s, q2, s1, s2, b2⟩ := part_ok a hb pS bS b1 (by omega) none (some r.T) T2 e3 e4 none none none
  obtain ⟨z3, c3, w, q3, w1, w2, b3⟩ := part_ok a hb pA bA b2 (by omega) none (some r.T) T2 e3 e4 none none none
  have tw : tl w ≤ 10 := by have : tl (natsV r.acc) = r.acc.length := by simp [tl, natsV]
                            omega
  have isr := v_is_right a (bag hb z3 m c3) (pl_ty l1) (pl_P3 s1) (pl_P2 w1) (fun xs e => by subst e; simp only [tl] at tw; omega)
  refine ⟨z3, c3, some (.rls [l, s, w]), ?_, b3.mono (by omega)⟩
  have d1 := compL_cons (g := gN 8) (el := (eIf (eTst (eOp (eqF false) (eCall (D_u_law_pick a) (aCons (eVar 0) (aCons (eC (.int 2)) aNil))) (eC (.int 0)))) (eCall (D_u_law_bent 4 a) (aCons (eVar 0) (aCons (eVar 8) aNil))) (eVar 8))) (e := [some (.ref hb.length), some r.T, T2, e3, e4, none, none, none, none]) (e1 := [some (.ref hb.length), some r.T, T2, e3, e4, none, none, none, some (nv r.L)]) (s := nv r.L) (ss := [r.sV, natsV r.acc]) (acc := []) rfl q1 (by rw [sizeLine_eq]; simp)
  have d2 := compL_cons (g := gN 8) (el := (eIf (eTst (eOp (eqF false) (eCall (D_u_law_pick a) (aCons (eVar 0) (aCons (eC (.int 2)) aNil))) (eC (.int 0)))) (eCall (D_u_law_bent 4 a) (aCons (eVar 0) (aCons (eVar 8) aNil))) (eVar 8))) (e := [some (.ref hb.length), some r.T, T2, e3, e4, none, none, none, none]) (e1 := [some (.ref hb.length), some r.T, T2, e3, e4, none, none, none, some r.sV]) (s := r.sV) (ss := [natsV r.acc]) (acc := [] ++ [l]) rfl q2 (by rw [sizeLine_eq]; simp)
  have d3 := compL_cons (g := gN 8) (el := (eIf (eTst (eOp (eqF false) (eCall (D_u_law_pick a) (aCons (eVar 0) (aCons (eC (.int 2)) aNil))) (eC (.int 0)))) (eCall (D_u_law_bent 4 a) (aCons (eVar 0) (aCons (eVar 8) aNil))) (eVar 8))) (e := [some (.ref hb.length), some r.T, T2, e3, e4, none, none, none, none]) (e1 := [some (.ref hb.length), some r.T, T2, e3, e4, none, none, none, some (natsV r.acc)]) (s := natsV r.acc) (ss := []) (acc := [] ++ [l] ++ [s]) rfl q3 (by rw [sizeLine_eq]; simp)
  have cp := (d1.trans (d2.trans d3)).trans (show compL (gN 8) bTrue (eIf (eTst (eOp (eqF false) (eCall (D_u_law_pick a) (aCons (eVar 0) (aCons (eC (.int 2)) aNil))) (eC (.int 0)))) (eCall (D_u_law_bent 4 a) (aCons (eVar 0) (aCons (eVar 8) aNil))) (eVar 8)) .no [some (.ref hb.length), some r.T, T2, e3, e4, none, none, none, none] [] ([] ++ [l] ++ [s] ++ [w]) (bag hb z3 m c3) = .ok [l, s, w] (bag hb z3 m c3) by simp [compL, Gd.ok])
  have it : ∀ h, itF r.T h = .ok ([nv r.L, r.sV, natsV r.acc], .no) h := fun _ => rfl
  unfold turnB
  ((try simp -implicitDefEqProofs only [ev_fn, fin_rt, fin_nx, fin_err, ev_seq, sq_nx, sq_rt, sq_err, ev_cNil, ev_set, ev_expr, ev_rt, ev_rtN, ev_if, ev_for, ev_asg, gt_some, ev_onV, ev_onB, bd_ok, bd_err, sr_ok, sr_err, bk_bl, ik_int, of_some, ev_ret, ev_bind, ev_var, ev_C, ev_op, ev_call, ev_cb, ev_tst, ev_eTst, ev_and, ev_or, ev_not, ev_eIf, ev_bAnd, ev_bOr, ev_bNot, ev_chain, ev_nil, ev_cons, ev_tup, ev_lst, ev_new, ev_neg, ev_fld, ev_sl, ev_oNo, ev_oYes, ev_bTrue, ev_lc, ev_it, ev_rng, ev_enum, lt_int, le_int, gt_int, ge_int, add_int, sub_int, gN_ap, isNoneF, notNoneF, List.map_cons, List.map_nil, List.cons_append, List.nil_append, List.append_nil, List.length_cons, List.length_nil, List.length_map, wipeE, Nat.reduceAdd, Nat.reduceSub, Nat.reduceLeDiff, List.replicate, List.getElem?_cons_zero, List.getElem?_cons_succ, Option.join_some, Option.join_none, List.set_cons_zero, List.set_cons_succ, gc_same, decide_true, decide_false, ev_fldS, ev_put, ev_app, if_true, if_false, ite_true, ite_false, Bool.false_eq_true, Bool.not_true, Bool.not_false, reduceIte, sizeLine_eq, ev_notT, ev_tru, ev_rev, ev_srtSet, ev_fmtS, ev_joinS_nil, ev_joinS, ev_eqO, ev_strO]); repeat (simp -implicitDefEqProofs only [it, cp, tup_rls, isr]; (try simp -implicitDefEqProofs only [ev_fn, fin_rt, fin_nx, fin_err, ev_seq, sq_nx, sq_rt, sq_err, ev_cNil, ev_set, ev_expr, ev_rt, ev_rtN, ev_if, ev_for, ev_asg, gt_some, ev_onV, ev_onB, bd_ok, bd_err, sr_ok, sr_err, bk_bl, ik_int, of_some, ev_ret, ev_bind, ev_var, ev_C, ev_op, ev_call, ev_cb, ev_tst, ev_eTst, ev_and, ev_or, ev_not, ev_eIf, ev_bAnd, ev_bOr, ev_bNot, ev_chain, ev_nil, ev_cons, ev_tup, ev_lst, ev_new, ev_neg, ev_fld, ev_sl, ev_oNo, ev_oYes, ev_bTrue, ev_lc, ev_it, ev_rng, ev_enum, lt_int, le_int, gt_int, ge_int, add_int, sub_int, gN_ap, isNoneF, notNoneF, List.map_cons, List.map_nil, List.cons_append, List.nil_append, List.append_nil, List.length_cons, List.length_nil, List.length_map, wipeE, Nat.reduceAdd, Nat.reduceSub, Nat.reduceLeDiff, List.replicate, List.getElem?_cons_zero, List.getElem?_cons_succ, Option.join_some, Option.join_none, List.set_cons_zero, List.set_cons_succ, gc_same, decide_true, decide_false, ev_fldS, ev_put, ev_app, if_true, if_false, ite_true, ite_false, Bool.false_eq_true, Bool.not_true, Bool.not_false, reduceIte, sizeLine_eq, ev_notT, ev_tru, ev_rev, ev_srtSet, ev_fmtS, ev_joinS_nil, ev_joinS, ev_eqO, ev_strO])))
end My

set_option Elab.async false
set_option linter.all false
set_option maxRecDepth 100000
set_option maxHeartbeats 4000000
namespace My
open PySem L2 Sim
variable (a : Ads) (hb : SHp)
theorem turns_ok (r : Rdr) (ok : r.Ok) (hn : r.n ≤ 9) (T2 : Option SV) (m : Int) : ∀ (items : List SV) (e3 e4 : Option SV) (k : Nat) (z c : Int), Bag k z m c → k + 1000 + 123 * items.length < 2 ^ 69 →
    ∃ z' c' e3' e4', forL (gN 3) (turnB a) .no items [some (.ref hb.length), some r.T, T2, e3, e4, none, none, none, none] (bag hb z m c) = .nx [some (.ref hb.length), some r.T, T2, e3', e4', none, none, none, none] (bag hb z' m c') ∧ Bag (k + 123 * items.length) z' m c'
  | [], e3, e4, k, z, c, b, _ => ⟨z, c, e3, e4, forL_nil rfl, by simpa using b⟩
  | s :: ss, e3, e4, k, z, c, b, hk => by
    simp only [List.length_cons] at hk ⊢
    obtain ⟨z1, c1, e4', q, b1⟩ := turn_ok a hb r ok hn T2 (some s) e4 b (by omega)
    obtain ⟨z2, c2, e5, e6, q2, b2⟩ := turns_ok r ok hn T2 m ss (some s) e4' (k + 123) z1 c1 b1 (by omega)
    exact ⟨z2, c2, e5, e6, (forL_cons rfl rfl q).trans q2, b2.mono (by omega)⟩
theorem idx_nats (n : Nat) (ps : List Nat) (h : ∀ x ∈ ps, x < n) : idx n (ps.map nv) = true := by
  have : ps.map nv = (ps.map (fun x : Nat => (x : Int))).map SV.int := by rw [List.map_map]; rfl
  rw [this, idx_ints]
  intro x hx
  obtain ⟨y, hy, rfl⟩ := List.mem_map.mp hx
  have := h y hy
  omega
theorem ascI_of : ∀ (ns : List Int), ns.Pairwise (· < ·) → ascI ns = true
  | [], _ => rfl
  | [x], _ => rfl
  | x :: y :: xs, h => by
    rw [List.pairwise_cons] at h
    have ih := ascI_of (y :: xs) h.2
    simp only [ascI, List.drop_succ_cons, List.drop_zero, List.zip_cons_cons, List.all_cons, Bool.and_eq_true, decide_eq_true_eq] at ih ⊢
    exact ⟨h.1 y (by simp), ih⟩
theorem asc_nats (ps : List Nat) (h : ps.Pairwise (· < ·)) : ascS (ps.map nv) = true := by
  have : ps.map nv = (ps.map (fun x : Nat => (x : Int))).map SV.int := by rw [List.map_map]; rfl
  rw [this]
  unfold ascS
  rw [intsOf_map]
  refine ascI_of _ ?_
  rw [List.pairwise_map]
  exact h.imp (fun h => by omega)
theorem fault_none (r : Rdr) (ok : r.Ok) : faultS (nv r.L) r.sV (natsV r.acc) = .non := by
  have h1 : inR (nv r.L) 1 64 = true := by
    have := ok.l1; have := ok.l2
    simp only [nv, inR, Bool.and_eq_true, decide_eq_true_eq]; omega
  have h2 : 1 ≤ (r.steps.map natsV).length ∧ (r.steps.map natsV).length ≤ 512 := by rw [List.length_map]; exact ⟨ok.n1, ok.n2⟩
  have h3 : (enumL 0 (r.steps.map natsV)).find? (badS (r.L : Nat) (r.steps.map natsV).length) = none := by
    rw [List.find?_eq_none]
    intro x hx
    obtain ⟨i, hi, y, hy, rfl⟩ := enumL_mem2 hx
    obtain ⟨row, hr, rfl⟩ := List.mem_map.mp hy
    have := ok.row row hr
    simp only [badS, natsV, stepOk, Bool.not_eq_true, Bool.not_eq_false', Bool.and_eq_true, decide_eq_true_eq, List.length_map]
    exact ⟨by omega, idx_nats _ _ this.2⟩
  have h4 : tupOk (r.steps.map natsV).length (natsV r.acc) = true := by
    simp only [tupOk, natsV, Bool.and_eq_true]
    exact ⟨idx_nats _ _ (by rw [List.length_map]; exact ok.acc), asc_nats _ ok.asc⟩
  unfold faultS
  rw [if_pos h1]
  show (if _ then (match (enumL 0 (r.steps.map natsV)).find? (badS (r.L : Nat) (r.steps.map natsV).length) with | some v => retS v | none => if tupOk (r.steps.map natsV).length (natsV r.acc) = true then SV.non else .tup [.str "accepting"]) else _) = _
  rw [if_pos h2, h3]
  show (if tupOk (r.steps.map natsV).length (natsV r.acc) = true then SV.non else .tup [.str "accepting"]) = _
  rw [if_pos h4]
abbrev rdR (a : Ads) (r : Rdr) : SV := rdV a.C_Reader (nv r.L) r.sV (natsV r.acc) (nv r.n)
theorem pl_acc (r : Rdr) (ok : r.Ok) : pl (natsV r.acc) = true := by
  have := len_acc ok.acc ok.asc
  have := ok.n2
  rw [natsV_tI]; exact pl_ints (by rw [List.length_map]; omega)
theorem pl_sV (r : Rdr) (ok : r.Ok) : pl r.sV = true := by
  have : r.steps.length ≤ 512 := ok.n2
  have := ok.l2
  rw [show r.sV = _ from rows_tR r.steps]; refine pl_rows (by rw [List.length_map]; omega) (fun x hx => ?_)
  obtain ⟨y, hy, rfl⟩ := List.mem_map.mp hx
  have := (ok.row y hy).1
  rw [List.length_map]; omega
theorem v_makeR (r : Rdr) (ok : r.Ok) {as : Sim.Env → M (List SV)} {e : Sim.Env} {h h1 : SHp} (qa : as e h = .ok [nv r.L, r.sV, natsV r.acc] h1) :
    eMake true a.C_Reader (D_m_Reader_init a) as e h = .ok (rdR a r) h1 := by
  have pa := pl_acc r ok
  have ps := pl_sV r ok
  have fn := fault_none r ok
  have e1 := rows_tR r.steps
  have e2 := natsV_tI r.acc
  have := v_make_ok a (L := (r.L : Nat)) (rs := r.steps.map (fun r => r.map (fun x : Nat => (x : Int)))) (ns := r.acc.map (fun x : Nat => (x : Int))) (as := as) (e := e) (h := h) (h1 := h1) (by rw [← e1]; exact pl_P3 ps) (by rw [← e2]; exact pl_P2 pa) (by rw [← e1, ← e2]; exact fn) (by rw [← e1, ← e2]; exact qa)
  rw [this, ← e1, ← e2]
  unfold rdR
  rw [List.length_map]
end My

set_option Elab.async false
set_option linter.all false
set_option maxRecDepth 100000
set_option maxHeartbeats 4000000
namespace My
open PySem L2 Sim
variable (a : Ads) (hb : SHp)
def dS (r : Rdr) : PyData := .tuple (r.steps.map (fun r => D1 (r.map (fun x : Nat => (x : Int)))))
def dA (r : Rdr) : PyData := D1 (r.acc.map (fun x : Nat => (x : Int)))
theorem data_sV (r : Rdr) : dataV r.sV = some (dS r) := by
  rw [show r.sV = _ from rows_tR r.steps, data_rows, List.map_map]; rfl
theorem data_aV (r : Rdr) : dataV (natsV r.acc) = some (dA r) := by rw [natsV_tI, data_ints]; rfl
theorem data_lV (r : Rdr) : dataV (nv r.L) = some (.int (r.L : Nat)) := rfl
theorem shp_sV (r : Rdr) : SeqAt.shaped (dS r) = true := by
  have := shp_rows (r.steps.map (fun r => r.map (fun x : Nat => (x : Int))))
  rw [List.map_map] at this; exact this
theorem shp_aV (r : Rdr) : SeqAt.shaped (dA r) = true := shp_D1 _
theorem shp_T (r : Rdr) : SeqAt.shaped (.tuple [.int (r.L : Nat), dS r, dA r]) = true := by
  have := shp_3 (r.L : Nat) (r.steps.map (fun r => r.map (fun x : Nat => (x : Int)))) (r.acc.map (fun x : Nat => (x : Int)))
  rw [List.map_map] at this; exact this
theorem data3 {x y w : SV} {d e f : PyData} (h1 : dataV x = some d) (h2 : dataV y = some e) (h3 : dataV w = some f) : dataV (.tup [x, y, w]) = some (.tuple [d, e, f]) := by
  simp [dataV, dataL, h1, h2, h3]
theorem data_T (r : Rdr) : dataV r.T = some (.tuple [.int (r.L : Nat), dS r, dA r]) := data3 (data_lV r) (data_sV r) (data_aV r)
def q1 (r s : Rdr) : Bool := PyData.eqv (.int (r.L : Nat)) (.int (s.L : Nat))
def q2 (r s : Rdr) : Bool := PyData.eqv (dS r) (dS s)
def q3 (r s : Rdr) : Bool := PyData.eqv (dA r) (dA s)
def qR (r s : Rdr) : Bool := q1 r s && (q2 r s && q3 r s)
theorem eqv3 (x1 x2 x3 y1 y2 y3 : PyData) : PyData.eqv (.tuple [x1, x2, x3]) (.tuple [y1, y2, y3]) = (PyData.eqv x1 y1 && (PyData.eqv x2 y2 && PyData.eqv x3 y3)) := by
  simp [PyData.eqv, PyData.eqvAll]
theorem eq_T (b : Bool) (r s : Rdr) (h : SHp) : eqF b r.T s.T h = some (.bl (if b then !qR r s else qR r s)) := by
  rw [eqF_of h b (v := r.T) (w := s.T) (show dataT r.T h = _ from data_T r) (show dataT s.T h = _ from data_T s) (shp_T r) (shp_T s), eqv3]
  rfl
theorem eq_l (r s : Rdr) (h : SHp) : eqF false (nv r.L) (nv s.L) h = some (.bl (q1 r s)) :=
  eqF_of h false (v := nv r.L) (w := nv s.L) (d := .int (r.L : Nat)) (e := .int (s.L : Nat)) rfl rfl (by simp [SeqAt.shaped, PyData.canLay0, PyData.depth]) (by simp [SeqAt.shaped, PyData.canLay0, PyData.depth])
theorem eq_s (r s : Rdr) (h : SHp) : eqF false r.sV s.sV h = some (.bl (q2 r s)) :=
  eqF_of h false (v := r.sV) (w := s.sV) (show dataT r.sV h = _ from data_sV r) (show dataT s.sV h = _ from data_sV s) (shp_sV r) (shp_sV s)
theorem eq_a (r s : Rdr) (h : SHp) : eqF false (natsV r.acc) (natsV s.acc) h = some (.bl (q3 r s)) :=
  eqF_of h false (v := natsV r.acc) (w := natsV s.acc) (show dataT (natsV r.acc) h = _ from data_aV r) (show dataT (natsV s.acc) h = _ from data_aV s) (shp_aV r) (shp_aV s)
theorem isC_rd (r : Rdr) (h : SHp) : isCF a.C_Reader isTs_Reader [rdR a r, .adr a.C_Reader] h = some (.bl true) := by
  show (if a.C_Reader = a.C_Reader then (if a.C_Reader = a.C_Reader then some (SV.bl true) else none) else none) = _
  rw [if_pos rfl, if_pos rfl]
theorem isC_T (r : Rdr) (h : SHp) : isCF a.C_Reader isTs_Reader [r.T, .adr a.C_Reader] h = some (.bl false) := by
  show (if a.C_Reader = a.C_Reader then (tyN r.T h).bind fun t => if t ∈ isTs_Reader then some (SV.bl false) else none else none) = _
  rw [if_pos rfl]
  rfl
theorem isC_0 (h : SHp) : isCF a.C_Reader isTs_Reader [.int 0, .adr a.C_Reader] h = some (.bl false) := by
  show (if a.C_Reader = a.C_Reader then (tyN (.int 0) h).bind fun t => if t ∈ isTs_Reader then some (SV.bl false) else none else none) = _
  rw [if_pos rfl]
  rfl
theorem v_eq_rd (r s : Rdr) (h : SHp) : D_m_Reader_eq a [rdR a r, rdR a s] h = .ok (.bl (qR r s)) h := by
  simp only [D_m_Reader_eq, B_m_Reader_eq]
  unfold qR
  cases e1 : q1 r s with
  | false => simp only [Bool.false_and]; ((try simp -implicitDefEqProofs only [ev_fn, fin_rt, fin_nx, fin_err, ev_seq, sq_nx, sq_rt, sq_err, ev_cNil, ev_set, ev_expr, ev_rt, ev_rtN, ev_if, ev_for, ev_asg, gt_some, ev_onV, ev_onB, bd_ok, bd_err, sr_ok, sr_err, bk_bl, ik_int, of_some, ev_ret, ev_bind, ev_var, ev_C, ev_op, ev_call, ev_cb, ev_tst, ev_eTst, ev_and, ev_or, ev_not, ev_eIf, ev_bAnd, ev_bOr, ev_bNot, ev_chain, ev_nil, ev_cons, ev_tup, ev_lst, ev_new, ev_neg, ev_fld, ev_sl, ev_oNo, ev_oYes, ev_bTrue, ev_lc, ev_it, ev_rng, ev_enum, lt_int, le_int, gt_int, ge_int, add_int, sub_int, gN_ap, isNoneF, notNoneF, List.map_cons, List.map_nil, List.cons_append, List.nil_append, List.append_nil, List.length_cons, List.length_nil, List.length_map, wipeE, Nat.reduceAdd, Nat.reduceSub, Nat.reduceLeDiff, List.replicate, List.getElem?_cons_zero, List.getElem?_cons_succ, Option.join_some, Option.join_none, List.set_cons_zero, List.set_cons_succ, gc_same, decide_true, decide_false, ev_fldS, ev_put, ev_app, if_true, if_false, ite_true, ite_false, Bool.false_eq_true, Bool.not_true, Bool.not_false, reduceIte, sizeLine_eq, ev_notT, ev_tru, ev_rev, ev_srtSet, ev_fmtS, ev_joinS_nil, ev_joinS, ev_eqO, ev_strO]); repeat (simp -implicitDefEqProofs only [isC_rd, fld_l, eq_l, e1]; (try simp -implicitDefEqProofs only [ev_fn, fin_rt, fin_nx, fin_err, ev_seq, sq_nx, sq_rt, sq_err, ev_cNil, ev_set, ev_expr, ev_rt, ev_rtN, ev_if, ev_for, ev_asg, gt_some, ev_onV, ev_onB, bd_ok, bd_err, sr_ok, sr_err, bk_bl, ik_int, of_some, ev_ret, ev_bind, ev_var, ev_C, ev_op, ev_call, ev_cb, ev_tst, ev_eTst, ev_and, ev_or, ev_not, ev_eIf, ev_bAnd, ev_bOr, ev_bNot, ev_chain, ev_nil, ev_cons, ev_tup, ev_lst, ev_new, ev_neg, ev_fld, ev_sl, ev_oNo, ev_oYes, ev_bTrue, ev_lc, ev_it, ev_rng, ev_enum, lt_int, le_int, gt_int, ge_int, add_int, sub_int, gN_ap, isNoneF, notNoneF, List.map_cons, List.map_nil, List.cons_append, List.nil_append, List.append_nil, List.length_cons, List.length_nil, List.length_map, wipeE, Nat.reduceAdd, Nat.reduceSub, Nat.reduceLeDiff, List.replicate, List.getElem?_cons_zero, List.getElem?_cons_succ, Option.join_some, Option.join_none, List.set_cons_zero, List.set_cons_succ, gc_same, decide_true, decide_false, ev_fldS, ev_put, ev_app, if_true, if_false, ite_true, ite_false, Bool.false_eq_true, Bool.not_true, Bool.not_false, reduceIte, sizeLine_eq, ev_notT, ev_tru, ev_rev, ev_srtSet, ev_fmtS, ev_joinS_nil, ev_joinS, ev_eqO, ev_strO])))
  | true => cases e2 : q2 r s with
    | false => simp only [Bool.false_and, Bool.true_and]; ((try simp -implicitDefEqProofs only [ev_fn, fin_rt, fin_nx, fin_err, ev_seq, sq_nx, sq_rt, sq_err, ev_cNil, ev_set, ev_expr, ev_rt, ev_rtN, ev_if, ev_for, ev_asg, gt_some, ev_onV, ev_onB, bd_ok, bd_err, sr_ok, sr_err, bk_bl, ik_int, of_some, ev_ret, ev_bind, ev_var, ev_C, ev_op, ev_call, ev_cb, ev_tst, ev_eTst, ev_and, ev_or, ev_not, ev_eIf, ev_bAnd, ev_bOr, ev_bNot, ev_chain, ev_nil, ev_cons, ev_tup, ev_lst, ev_new, ev_neg, ev_fld, ev_sl, ev_oNo, ev_oYes, ev_bTrue, ev_lc, ev_it, ev_rng, ev_enum, lt_int, le_int, gt_int, ge_int, add_int, sub_int, gN_ap, isNoneF, notNoneF, List.map_cons, List.map_nil, List.cons_append, List.nil_append, List.append_nil, List.length_cons, List.length_nil, List.length_map, wipeE, Nat.reduceAdd, Nat.reduceSub, Nat.reduceLeDiff, List.replicate, List.getElem?_cons_zero, List.getElem?_cons_succ, Option.join_some, Option.join_none, List.set_cons_zero, List.set_cons_succ, gc_same, decide_true, decide_false, ev_fldS, ev_put, ev_app, if_true, if_false, ite_true, ite_false, Bool.false_eq_true, Bool.not_true, Bool.not_false, reduceIte, sizeLine_eq, ev_notT, ev_tru, ev_rev, ev_srtSet, ev_fmtS, ev_joinS_nil, ev_joinS, ev_eqO, ev_strO]); repeat (simp -implicitDefEqProofs only [isC_rd, fld_l, fld_s, eq_l, eq_s, e1, e2]; (try simp -implicitDefEqProofs only [ev_fn, fin_rt, fin_nx, fin_err, ev_seq, sq_nx, sq_rt, sq_err, ev_cNil, ev_set, ev_expr, ev_rt, ev_rtN, ev_if, ev_for, ev_asg, gt_some, ev_onV, ev_onB, bd_ok, bd_err, sr_ok, sr_err, bk_bl, ik_int, of_some, ev_ret, ev_bind, ev_var, ev_C, ev_op, ev_call, ev_cb, ev_tst, ev_eTst, ev_and, ev_or, ev_not, ev_eIf, ev_bAnd, ev_bOr, ev_bNot, ev_chain, ev_nil, ev_cons, ev_tup, ev_lst, ev_new, ev_neg, ev_fld, ev_sl, ev_oNo, ev_oYes, ev_bTrue, ev_lc, ev_it, ev_rng, ev_enum, lt_int, le_int, gt_int, ge_int, add_int, sub_int, gN_ap, isNoneF, notNoneF, List.map_cons, List.map_nil, List.cons_append, List.nil_append, List.append_nil, List.length_cons, List.length_nil, List.length_map, wipeE, Nat.reduceAdd, Nat.reduceSub, Nat.reduceLeDiff, List.replicate, List.getElem?_cons_zero, List.getElem?_cons_succ, Option.join_some, Option.join_none, List.set_cons_zero, List.set_cons_succ, gc_same, decide_true, decide_false, ev_fldS, ev_put, ev_app, if_true, if_false, ite_true, ite_false, Bool.false_eq_true, Bool.not_true, Bool.not_false, reduceIte, sizeLine_eq, ev_notT, ev_tru, ev_rev, ev_srtSet, ev_fmtS, ev_joinS_nil, ev_joinS, ev_eqO, ev_strO])))
    | true => simp only [Bool.true_and]; ((try simp -implicitDefEqProofs only [ev_fn, fin_rt, fin_nx, fin_err, ev_seq, sq_nx, sq_rt, sq_err, ev_cNil, ev_set, ev_expr, ev_rt, ev_rtN, ev_if, ev_for, ev_asg, gt_some, ev_onV, ev_onB, bd_ok, bd_err, sr_ok, sr_err, bk_bl, ik_int, of_some, ev_ret, ev_bind, ev_var, ev_C, ev_op, ev_call, ev_cb, ev_tst, ev_eTst, ev_and, ev_or, ev_not, ev_eIf, ev_bAnd, ev_bOr, ev_bNot, ev_chain, ev_nil, ev_cons, ev_tup, ev_lst, ev_new, ev_neg, ev_fld, ev_sl, ev_oNo, ev_oYes, ev_bTrue, ev_lc, ev_it, ev_rng, ev_enum, lt_int, le_int, gt_int, ge_int, add_int, sub_int, gN_ap, isNoneF, notNoneF, List.map_cons, List.map_nil, List.cons_append, List.nil_append, List.append_nil, List.length_cons, List.length_nil, List.length_map, wipeE, Nat.reduceAdd, Nat.reduceSub, Nat.reduceLeDiff, List.replicate, List.getElem?_cons_zero, List.getElem?_cons_succ, Option.join_some, Option.join_none, List.set_cons_zero, List.set_cons_succ, gc_same, decide_true, decide_false, ev_fldS, ev_put, ev_app, if_true, if_false, ite_true, ite_false, Bool.false_eq_true, Bool.not_true, Bool.not_false, reduceIte, sizeLine_eq, ev_notT, ev_tru, ev_rev, ev_srtSet, ev_fmtS, ev_joinS_nil, ev_joinS, ev_eqO, ev_strO]); repeat (simp -implicitDefEqProofs only [isC_rd, fld_l, fld_s, fld_c, eq_l, eq_s, eq_a, e1, e2]; (try simp -implicitDefEqProofs only [ev_fn, fin_rt, fin_nx, fin_err, ev_seq, sq_nx, sq_rt, sq_err, ev_cNil, ev_set, ev_expr, ev_rt, ev_rtN, ev_if, ev_for, ev_asg, gt_some, ev_onV, ev_onB, bd_ok, bd_err, sr_ok, sr_err, bk_bl, ik_int, of_some, ev_ret, ev_bind, ev_var, ev_C, ev_op, ev_call, ev_cb, ev_tst, ev_eTst, ev_and, ev_or, ev_not, ev_eIf, ev_bAnd, ev_bOr, ev_bNot, ev_chain, ev_nil, ev_cons, ev_tup, ev_lst, ev_new, ev_neg, ev_fld, ev_sl, ev_oNo, ev_oYes, ev_bTrue, ev_lc, ev_it, ev_rng, ev_enum, lt_int, le_int, gt_int, ge_int, add_int, sub_int, gN_ap, isNoneF, notNoneF, List.map_cons, List.map_nil, List.cons_append, List.nil_append, List.append_nil, List.length_cons, List.length_nil, List.length_map, wipeE, Nat.reduceAdd, Nat.reduceSub, Nat.reduceLeDiff, List.replicate, List.getElem?_cons_zero, List.getElem?_cons_succ, Option.join_some, Option.join_none, List.set_cons_zero, List.set_cons_succ, gc_same, decide_true, decide_false, ev_fldS, ev_put, ev_app, if_true, if_false, ite_true, ite_false, Bool.false_eq_true, Bool.not_true, Bool.not_false, reduceIte, sizeLine_eq, ev_notT, ev_tru, ev_rev, ev_srtSet, ev_fmtS, ev_joinS_nil, ev_joinS, ev_eqO, ev_strO])))
theorem v_eq_T (r s : Rdr) (h : SHp) : D_m_Reader_eq a [rdR a r, s.T] h = .ok (.bl false) h := by
  simp only [D_m_Reader_eq, B_m_Reader_eq]
  ((try simp -implicitDefEqProofs only [ev_fn, fin_rt, fin_nx, fin_err, ev_seq, sq_nx, sq_rt, sq_err, ev_cNil, ev_set, ev_expr, ev_rt, ev_rtN, ev_if, ev_for, ev_asg, gt_some, ev_onV, ev_onB, bd_ok, bd_err, sr_ok, sr_err, bk_bl, ik_int, of_some, ev_ret, ev_bind, ev_var, ev_C, ev_op, ev_call, ev_cb, ev_tst, ev_eTst, ev_and, ev_or, ev_not, ev_eIf, ev_bAnd, ev_bOr, ev_bNot, ev_chain, ev_nil, ev_cons, ev_tup, ev_lst, ev_new, ev_neg, ev_fld, ev_sl, ev_oNo, ev_oYes, ev_bTrue, ev_lc, ev_it, ev_rng, ev_enum, lt_int, le_int, gt_int, ge_int, add_int, sub_int, gN_ap, isNoneF, notNoneF, List.map_cons, List.map_nil, List.cons_append, List.nil_append, List.append_nil, List.length_cons, List.length_nil, List.length_map, wipeE, Nat.reduceAdd, Nat.reduceSub, Nat.reduceLeDiff, List.replicate, List.getElem?_cons_zero, List.getElem?_cons_succ, Option.join_some, Option.join_none, List.set_cons_zero, List.set_cons_succ, gc_same, decide_true, decide_false, ev_fldS, ev_put, ev_app, if_true, if_false, ite_true, ite_false, Bool.false_eq_true, Bool.not_true, Bool.not_false, reduceIte, sizeLine_eq, ev_notT, ev_tru, ev_rev, ev_srtSet, ev_fmtS, ev_joinS_nil, ev_joinS, ev_eqO, ev_strO]); repeat (simp -implicitDefEqProofs only [isC_T]; (try simp -implicitDefEqProofs only [ev_fn, fin_rt, fin_nx, fin_err, ev_seq, sq_nx, sq_rt, sq_err, ev_cNil, ev_set, ev_expr, ev_rt, ev_rtN, ev_if, ev_for, ev_asg, gt_some, ev_onV, ev_onB, bd_ok, bd_err, sr_ok, sr_err, bk_bl, ik_int, of_some, ev_ret, ev_bind, ev_var, ev_C, ev_op, ev_call, ev_cb, ev_tst, ev_eTst, ev_and, ev_or, ev_not, ev_eIf, ev_bAnd, ev_bOr, ev_bNot, ev_chain, ev_nil, ev_cons, ev_tup, ev_lst, ev_new, ev_neg, ev_fld, ev_sl, ev_oNo, ev_oYes, ev_bTrue, ev_lc, ev_it, ev_rng, ev_enum, lt_int, le_int, gt_int, ge_int, add_int, sub_int, gN_ap, isNoneF, notNoneF, List.map_cons, List.map_nil, List.cons_append, List.nil_append, List.append_nil, List.length_cons, List.length_nil, List.length_map, wipeE, Nat.reduceAdd, Nat.reduceSub, Nat.reduceLeDiff, List.replicate, List.getElem?_cons_zero, List.getElem?_cons_succ, Option.join_some, Option.join_none, List.set_cons_zero, List.set_cons_succ, gc_same, decide_true, decide_false, ev_fldS, ev_put, ev_app, if_true, if_false, ite_true, ite_false, Bool.false_eq_true, Bool.not_true, Bool.not_false, reduceIte, sizeLine_eq, ev_notT, ev_tru, ev_rev, ev_srtSet, ev_fmtS, ev_joinS_nil, ev_joinS, ev_eqO, ev_strO])))
theorem v_eq_0 (r : Rdr) (h : SHp) : D_m_Reader_eq a [rdR a r, .int 0] h = .ok (.bl false) h := by
  simp only [D_m_Reader_eq, B_m_Reader_eq]
  ((try simp -implicitDefEqProofs only [ev_fn, fin_rt, fin_nx, fin_err, ev_seq, sq_nx, sq_rt, sq_err, ev_cNil, ev_set, ev_expr, ev_rt, ev_rtN, ev_if, ev_for, ev_asg, gt_some, ev_onV, ev_onB, bd_ok, bd_err, sr_ok, sr_err, bk_bl, ik_int, of_some, ev_ret, ev_bind, ev_var, ev_C, ev_op, ev_call, ev_cb, ev_tst, ev_eTst, ev_and, ev_or, ev_not, ev_eIf, ev_bAnd, ev_bOr, ev_bNot, ev_chain, ev_nil, ev_cons, ev_tup, ev_lst, ev_new, ev_neg, ev_fld, ev_sl, ev_oNo, ev_oYes, ev_bTrue, ev_lc, ev_it, ev_rng, ev_enum, lt_int, le_int, gt_int, ge_int, add_int, sub_int, gN_ap, isNoneF, notNoneF, List.map_cons, List.map_nil, List.cons_append, List.nil_append, List.append_nil, List.length_cons, List.length_nil, List.length_map, wipeE, Nat.reduceAdd, Nat.reduceSub, Nat.reduceLeDiff, List.replicate, List.getElem?_cons_zero, List.getElem?_cons_succ, Option.join_some, Option.join_none, List.set_cons_zero, List.set_cons_succ, gc_same, decide_true, decide_false, ev_fldS, ev_put, ev_app, if_true, if_false, ite_true, ite_false, Bool.false_eq_true, Bool.not_true, Bool.not_false, reduceIte, sizeLine_eq, ev_notT, ev_tru, ev_rev, ev_srtSet, ev_fmtS, ev_joinS_nil, ev_joinS, ev_eqO, ev_strO]); repeat (simp -implicitDefEqProofs only [isC_0]; (try simp -implicitDefEqProofs only [ev_fn, fin_rt, fin_nx, fin_err, ev_seq, sq_nx, sq_rt, sq_err, ev_cNil, ev_set, ev_expr, ev_rt, ev_rtN, ev_if, ev_for, ev_asg, gt_some, ev_onV, ev_onB, bd_ok, bd_err, sr_ok, sr_err, bk_bl, ik_int, of_some, ev_ret, ev_bind, ev_var, ev_C, ev_op, ev_call, ev_cb, ev_tst, ev_eTst, ev_and, ev_or, ev_not, ev_eIf, ev_bAnd, ev_bOr, ev_bNot, ev_chain, ev_nil, ev_cons, ev_tup, ev_lst, ev_new, ev_neg, ev_fld, ev_sl, ev_oNo, ev_oYes, ev_bTrue, ev_lc, ev_it, ev_rng, ev_enum, lt_int, le_int, gt_int, ge_int, add_int, sub_int, gN_ap, isNoneF, notNoneF, List.map_cons, List.map_nil, List.cons_append, List.nil_append, List.append_nil, List.length_cons, List.length_nil, List.length_map, wipeE, Nat.reduceAdd, Nat.reduceSub, Nat.reduceLeDiff, List.replicate, List.getElem?_cons_zero, List.getElem?_cons_succ, Option.join_some, Option.join_none, List.set_cons_zero, List.set_cons_succ, gc_same, decide_true, decide_false, ev_fldS, ev_put, ev_app, if_true, if_false, ite_true, ite_false, Bool.false_eq_true, Bool.not_true, Bool.not_false, reduceIte, sizeLine_eq, ev_notT, ev_tru, ev_rev, ev_srtSet, ev_fmtS, ev_joinS_nil, ev_joinS, ev_eqO, ev_strO])))
theorem ok_rd (r s : Rdr) (h : SHp) : eqOk a.C_Reader eqTs_Reader (rdR a r) (rdR a s) h = true := by simp [eqOk, rdR, rdV, instOf]
theorem ok_T (r s : Rdr) (h : SHp) : eqOk a.C_Reader eqTs_Reader (rdR a r) s.T h = true := by
  have : typF [s.T] h = some (.ty "tuple") := rfl
  have h2 : eqTs_Reader.contains "tuple" = true := by decide
  simp only [eqOk, this]
  rw [h2]
  simp [rdR, rdV, instOf]
theorem ok_0 (r : Rdr) (h : SHp) : eqOk a.C_Reader eqTs_Reader (rdR a r) (.int 0) h = true := by
  have : typF [.int 0] h = some (.ty "int") := rfl
  have h2 : eqTs_Reader.contains "int" = true := by decide
  simp only [eqOk, this]
  rw [h2]
  simp [rdR, rdV, instOf]
theorem eqO_rd (neg : Bool) (r s : Rdr) (h : SHp) : eqO neg a.C_Reader eqTs_Reader (D_m_Reader_eq a) (rdR a r) (rdR a s) h = .ok (.bl (if neg then !qR r s else qR r s)) h := by
  unfold eqO
  rw [if_pos (ok_rd a r s h), v_eq_rd]
theorem eqO_T (neg : Bool) (r s : Rdr) (h : SHp) : eqO neg a.C_Reader eqTs_Reader (D_m_Reader_eq a) (rdR a r) s.T h = .ok (.bl neg) h := by
  unfold eqO
  rw [if_pos (ok_T a r s h), v_eq_T]
  cases neg <;> rfl
theorem eqO_0 (neg : Bool) (r : Rdr) (h : SHp) : eqO neg a.C_Reader eqTs_Reader (D_m_Reader_eq a) (rdR a r) (.int 0) h = .ok (.bl neg) h := by
  unfold eqO
  rw [if_pos (ok_0 a r h), v_eq_0]
  cases neg <;> rfl
theorem qR_self (r : Rdr) : qR r r = true := by
  have e : ∀ d : PyData, SeqAt.shaped d = true → PyData.eqv d d = true := fun d hd => SeqAt.eqv_refl d (SeqAt.canLay_of_shaped hd)
  have := e _ (shp_T r)
  rw [eqv3] at this
  exact this
end My

set_option Elab.async false
set_option linter.all false
set_option maxRecDepth 100000
set_option maxHeartbeats 4000000
namespace My
open PySem L2 Sim
variable (a : Ads) (hb : SHp)
abbrev num (n : Nat) : Str := (toString (n : Int) : String)
theorem num_len : ∀ n < 600, (num n).length ≤ 10 := by decide +kernel
theorem num_ok : ∀ n < 600, PyData.strOk (num n) = true := by decide +kernel
def tA : Str := "reader of "
def tB : Str := " states over "
def tC : Str := " letters"
def txt (n L : Nat) : Str := (((tA ++ num n) ++ tB) ++ num L) ++ tC
theorem tA_len : tA.length ≤ 20 := by decide +kernel
theorem tB_len : tB.length ≤ 20 := by decide +kernel
theorem tC_len : tC.length ≤ 20 := by decide +kernel
theorem emp_tA : Str.empty ++ tA = tA := by decide +kernel
theorem strOk_app (x y : Str) (hx : PyData.strOk x = true) (hy : PyData.strOk y = true) : PyData.strOk (x ++ y) = true := by
  show (x.cps ++ y.cps).all _ = true
  rw [Array.all_append]
  simp only [PyData.strOk] at hx hy
  rw [hx, hy]; rfl
theorem txt_ok {n L : Nat} (hn : n < 600) (hL : L < 600) : PyData.strOk (txt n L) = true :=
  strOk_app _ _ (strOk_app _ _ (strOk_app _ _ (strOk_app _ _ (by decide +kernel) (num_ok n hn)) (by decide +kernel)) (num_ok L hL)) (by decide +kernel)
theorem txt_eq {n L : Nat} (hn : n < 600) (hL : L < 600) (h : SHp) : eqF false (.str (txt n L)) (.str (txt n L)) h = some (.bl true) :=
  eqF_self h false (d := .str (txt n L)) rfl (by simp [SeqAt.shaped, PyData.canLay0, PyData.depth, txt_ok hn hL])
theorem add_str {x y : Str} (hz : x.length + y.length ≤ 1000) (h : SHp) : addF (.str x) (.str y) h = some (.str (x ++ y)) := by
  simp only [addF]; rw [if_pos (by rw [sizeLine_eq]; omega)]
theorem str_num {n : Nat} (hn : n < 600) (h : SHp) : strF [nv n] h = some (.str (num n)) := by
  show (if ((n : Int)).natAbs.log2 < 1920 then some (SV.str (num n)) else none) = _
  rw [if_pos (log_small (by omega))]
theorem fmt_num {n : Nat} (hn : n < 600) : fmtS (nv n) = some (.str (num n)) := by
  show (if ((n : Int)).natAbs.log2 < 1920 then some (SV.str (num n)) else none) = _
  rw [if_pos (log_small (by omega))]
theorem len5 {n L : Nat} (hn : n < 600) (hL : L < 600) : (tA ++ num n).length ≤ 30 ∧ ((tA ++ num n) ++ tB).length ≤ 50 ∧ (((tA ++ num n) ++ tB) ++ num L).length ≤ 60 ∧ (txt n L).length ≤ 80 := by
  have := tA_len; have := tB_len; have := tC_len; have := num_len n hn; have := num_len L hL
  unfold txt
  simp only [Str.length_append]
  omega
theorem jS_str {cs : List (Sim.Env → M SV)} {acc y : Str} {e : Sim.Env} {h : SHp} (q : (acc ++ y).length ≤ 1000) : jS cs acc e (.str y) h = joinS cs (acc ++ y) e h := by
  show (if (acc ++ y).length ≤ sizeLine then joinS cs (acc ++ y) e h else .stuck) = _
  rw [if_pos (by rw [sizeLine_eq]; omega)]
theorem v_str (r : Rdr) (ok : r.Ok) (h : SHp) : D_m_Reader_str a [rdR a r] h = .ok (.str (txt r.n r.L)) h := by
  have h1 : r.n < 600 := by have := ok.n2; omega
  have h2 : r.L < 600 := by have := ok.l2; omega
  obtain ⟨l1, l2, l3, l4⟩ := len5 h1 h2
  have hA := tA_len
  have j1 : ∀ cs e, jS cs Str.empty e (.str tA) h = joinS cs tA e h := fun cs e => by rw [jS_str (by rw [emp_tA]; omega), emp_tA]
  have j2 : ∀ cs e, jS cs tA e (.str (num r.n)) h = joinS cs (tA ++ num r.n) e h := fun cs e => jS_str (by omega)
  have j3 : ∀ cs e, jS cs (tA ++ num r.n) e (.str tB) h = joinS cs ((tA ++ num r.n) ++ tB) e h := fun cs e => jS_str (by omega)
  have j4 : ∀ cs e, jS cs ((tA ++ num r.n) ++ tB) e (.str (num r.L)) h = joinS cs (((tA ++ num r.n) ++ tB) ++ num r.L) e h := fun cs e => jS_str (by omega)
  have j5 : ∀ cs e, jS cs (((tA ++ num r.n) ++ tB) ++ num r.L) e (.str tC) h = joinS cs (txt r.n r.L) e h := fun cs e => jS_str (acc := ((tA ++ num r.n) ++ tB) ++ num r.L) (y := tC) (show (txt r.n r.L).length ≤ 1000 by omega)
  have B : B_m_Reader_str a = (cRet (joinS [(eC (.str tA)), (eFmtS (eFld a.C_Reader "states" (eVar 0))), (eC (.str tB)), (eFmtS (eFld a.C_Reader "letters" (eVar 0))), (eC (.str tC))] Str.empty)) := rfl
  simp only [D_m_Reader_str, B]
  ((try simp -implicitDefEqProofs only [ev_fn, fin_rt, fin_nx, fin_err, ev_seq, sq_nx, sq_rt, sq_err, ev_cNil, ev_set, ev_expr, ev_rt, ev_rtN, ev_if, ev_for, ev_asg, gt_some, ev_onV, ev_onB, bd_ok, bd_err, sr_ok, sr_err, bk_bl, ik_int, of_some, ev_ret, ev_bind, ev_var, ev_C, ev_op, ev_call, ev_cb, ev_tst, ev_eTst, ev_and, ev_or, ev_not, ev_eIf, ev_bAnd, ev_bOr, ev_bNot, ev_chain, ev_nil, ev_cons, ev_tup, ev_lst, ev_new, ev_neg, ev_fld, ev_sl, ev_oNo, ev_oYes, ev_bTrue, ev_lc, ev_it, ev_rng, ev_enum, lt_int, le_int, gt_int, ge_int, add_int, sub_int, gN_ap, isNoneF, notNoneF, List.map_cons, List.map_nil, List.cons_append, List.nil_append, List.append_nil, List.length_cons, List.length_nil, List.length_map, wipeE, Nat.reduceAdd, Nat.reduceSub, Nat.reduceLeDiff, List.replicate, List.getElem?_cons_zero, List.getElem?_cons_succ, Option.join_some, Option.join_none, List.set_cons_zero, List.set_cons_succ, gc_same, decide_true, decide_false, ev_fldS, ev_put, ev_app, if_true, if_false, ite_true, ite_false, Bool.false_eq_true, Bool.not_true, Bool.not_false, reduceIte, sizeLine_eq, ev_notT, ev_tru, ev_rev, ev_srtSet, ev_fmtS, ev_joinS_nil, ev_joinS, ev_eqO, ev_strO]); repeat (simp -implicitDefEqProofs only [fld_n, fld_l, fmt_num h1, fmt_num h2, j1, j2, j3, j4, j5]; (try simp -implicitDefEqProofs only [ev_fn, fin_rt, fin_nx, fin_err, ev_seq, sq_nx, sq_rt, sq_err, ev_cNil, ev_set, ev_expr, ev_rt, ev_rtN, ev_if, ev_for, ev_asg, gt_some, ev_onV, ev_onB, bd_ok, bd_err, sr_ok, sr_err, bk_bl, ik_int, of_some, ev_ret, ev_bind, ev_var, ev_C, ev_op, ev_call, ev_cb, ev_tst, ev_eTst, ev_and, ev_or, ev_not, ev_eIf, ev_bAnd, ev_bOr, ev_bNot, ev_chain, ev_nil, ev_cons, ev_tup, ev_lst, ev_new, ev_neg, ev_fld, ev_sl, ev_oNo, ev_oYes, ev_bTrue, ev_lc, ev_it, ev_rng, ev_enum, lt_int, le_int, gt_int, ge_int, add_int, sub_int, gN_ap, isNoneF, notNoneF, List.map_cons, List.map_nil, List.cons_append, List.nil_append, List.append_nil, List.length_cons, List.length_nil, List.length_map, wipeE, Nat.reduceAdd, Nat.reduceSub, Nat.reduceLeDiff, List.replicate, List.getElem?_cons_zero, List.getElem?_cons_succ, Option.join_some, Option.join_none, List.set_cons_zero, List.set_cons_succ, gc_same, decide_true, decide_false, ev_fldS, ev_put, ev_app, if_true, if_false, ite_true, ite_false, Bool.false_eq_true, Bool.not_true, Bool.not_false, reduceIte, sizeLine_eq, ev_notT, ev_tru, ev_rev, ev_srtSet, ev_fmtS, ev_joinS_nil, ev_joinS, ev_eqO, ev_strO])))
theorem v_strO (r : Rdr) (ok : r.Ok) (h : SHp) : strO a.C_Reader (D_m_Reader_str a) [rdR a r] h = .ok (.str (txt r.n r.L)) h := by
  have : instOf (rdR a r) h = some a.C_Reader := rfl
  unfold strO
  simp only
  rw [if_pos this, v_str a r ok]
end My

set_option Elab.async false
set_option linter.all false
set_option maxRecDepth 100000
set_option maxHeartbeats 4000000
namespace My
open PySem L2 Sim
variable (a : Ads) (hb : SHp)
abbrev mk1E (a : Ads) : Sim.Env → M SV := (eMake true a.C_Reader (D_m_Reader_init a) (aCons (eOp ixF (eVar 1) (eC (.int 0))) (aCons (eOp ixF (eVar 1) (eC (.int 1))) (aCons (eOp ixF (eVar 1) (eC (.int 2))) aNil))))
abbrev mk2E (a : Ads) : Sim.Env → M SV := (eMake true a.C_Reader (D_m_Reader_init a) (aCons (eOp ixF (eVar 2) (eC (.int 0))) (aCons (eOp ixF (eVar 2) (eC (.int 1))) (aCons (eOp ixF (eVar 2) (eC (.int 2))) aNil))))
def lrA (a : Ads) : ST' := (cPar 1 2 (aCons (eCall (D_u_law_re_drawn a) (aCons (eVar 0) (aCons (eOp addF (eC (.int 1)) (eCall (D_u_law_pick a) (aCons (eVar 0) (aCons (eC (.int 3)) aNil)))) (aCons (eC (.int 5)) aNil)))) (aCons (eCall (D_u_law_re_drawn a) (aCons (eVar 0) (aCons (eOp addF (eC (.int 1)) (eCall (D_u_law_pick a) (aCons (eVar 0) (aCons (eC (.int 3)) aNil)))) (aCons (eC (.int 5)) aNil)))) aNil)))
def lrB (a : Ads) : ST' := (cIf (bNot (eTst (eCall (D_u_law_is_right a) (aCons (eVar 1) aNil)))) (cRet (eC (.bl false))) cNil)
def lrC (a : Ads) : ST' := (cFor (cRng1 (eC (.int 20))) (gN 3) (turnB a))
def lrD (a : Ads) : ST' := (cPar 5 6 (aCons (mk1E a) (aCons (mk2E a) aNil)))
def lrE (a : Ads) : ST' := (cIf (bOr (eTst (eOp (eqF true) (eEqO false a.C_Reader eqTs_Reader (D_m_Reader_eq a) (eVar 5) (eVar 6)) (eOp (eqF false) (eVar 1) (eVar 2)))) (bOr (eTst (eOp (eqF true) (eEqO true a.C_Reader eqTs_Reader (D_m_Reader_eq a) (eVar 5) (eVar 6)) (eOp (eqF true) (eVar 1) (eVar 2)))) (bOr (eTst (eEqO false a.C_Reader eqTs_Reader (D_m_Reader_eq a) (eVar 5) (eVar 1))) (eTst (eEqO false a.C_Reader eqTs_Reader (D_m_Reader_eq a) (eVar 5) (eC (.int 0))))))) (cRet (eC (.bl false))) cNil)
def lrF : ST' := (cSet 7 (eOp addF (eOp addF (eOp addF (eOp addF (eC (.str "reader of ")) (eCB strF (aCons (eCB lenF (aCons (eOp ixF (eVar 1) (eC (.int 1))) aNil)) aNil))) (eC (.str " states over "))) (eCB strF (aCons (eOp ixF (eVar 1) (eC (.int 0))) aNil))) (eC (.str " letters"))))
def lrG (a : Ads) : ST' := (cRet (eAnd (eEqO false a.C_Reader eqTs_Reader (D_m_Reader_eq a) (eVar 5) (mk1E a)) (eOp (eqF false) (eStrO a.C_Reader (D_m_Reader_str a) (eVar 5)) (eVar 7))))
theorem B_right_eq : B_u_law_right a = cSeq (lrA a) (cSeq (lrB a) (cSeq (lrC a) (cSeq (lrD a) (cSeq (lrE a) (cSeq lrF (lrG a)))))) := rfl
theorem lrA_ok {k : Nat} {z m c : Int} (b : Bag k z m c) (hk : k + 3000 < 2 ^ 60) :
    ∃ z' c' r s, lrA a [some (.ref hb.length), none, none, none, none, none, none, none, none] (bag hb z m c) = .nx [some (.ref hb.length), some (Rdr.T r), some (Rdr.T s), none, none, none, none, none, none] (bag hb z' m c') ∧ r.Ok ∧ r.n ≤ 5 ∧ s.Ok ∧ s.n ≤ 5 ∧ Bag (k + 2002) z' m c' := by
  obtain ⟨z1, c1, p, q1, p1, b1⟩ := v_pickN a hb b (by omega) 3 (by omega) (by omega)
  have q1' : D_u_law_pick a [.ref hb.length, .int 3] (bag hb z m c) = .ok (.int (p : Nat)) (bag hb z1 m c1) := q1
  obtain ⟨z2, c2, r, r1, r2, r3, q2, b2⟩ := v_re_drawn a hb b1 (p + 1) 5 (by omega) (by omega) (by omega) (by omega) (by omega)
  have e2 : SV.int (1 + (p : Int)) = nv (p + 1) := by simp [nv]; omega
  have q2' : D_u_law_re_drawn a [.ref hb.length, .int (1 + (p : Int)), .int 5] (bag hb z1 m c1) = .ok r.T (bag hb z2 m c2) := by rw [e2]; exact q2
  obtain ⟨z3, c3, u, q3, u1, b3⟩ := v_pickN a hb b2 (by omega) 3 (by omega) (by omega)
  have q3' : D_u_law_pick a [.ref hb.length, .int 3] (bag hb z2 m c2) = .ok (.int (u : Nat)) (bag hb z3 m c3) := q3
  obtain ⟨z4, c4, s, s1, s2, s3, q4, b4⟩ := v_re_drawn a hb b3 (u + 1) 5 (by omega) (by omega) (by omega) (by omega) (by omega)
  have e4 : SV.int (1 + (u : Int)) = nv (u + 1) := by simp [nv]; omega
  have q4' : D_u_law_re_drawn a [.ref hb.length, .int (1 + (u : Int)), .int 5] (bag hb z3 m c3) = .ok s.T (bag hb z4 m c4) := by rw [e4]; exact q4
  refine ⟨z4, c4, r, s, ?_, r1, r3, s1, s3, b4.mono (by omega)⟩
  unfold lrA
  rw [par_ok (v := r.T) (w := s.T) (h1 := bag hb z4 m c4)]
  · rfl
  · ((try simp -implicitDefEqProofs only [ev_fn, fin_rt, fin_nx, fin_err, ev_seq, sq_nx, sq_rt, sq_err, ev_cNil, ev_set, ev_expr, ev_rt, ev_rtN, ev_if, ev_for, ev_asg, gt_some, ev_onV, ev_onB, bd_ok, bd_err, sr_ok, sr_err, bk_bl, ik_int, of_some, ev_ret, ev_bind, ev_var, ev_C, ev_op, ev_call, ev_cb, ev_tst, ev_eTst, ev_and, ev_or, ev_not, ev_eIf, ev_bAnd, ev_bOr, ev_bNot, ev_chain, ev_nil, ev_cons, ev_tup, ev_lst, ev_new, ev_neg, ev_fld, ev_sl, ev_oNo, ev_oYes, ev_bTrue, ev_lc, ev_it, ev_rng, ev_enum, lt_int, le_int, gt_int, ge_int, add_int, sub_int, gN_ap, isNoneF, notNoneF, List.map_cons, List.map_nil, List.cons_append, List.nil_append, List.append_nil, List.length_cons, List.length_nil, List.length_map, wipeE, Nat.reduceAdd, Nat.reduceSub, Nat.reduceLeDiff, List.replicate, List.getElem?_cons_zero, List.getElem?_cons_succ, Option.join_some, Option.join_none, List.set_cons_zero, List.set_cons_succ, gc_same, decide_true, decide_false, ev_fldS, ev_put, ev_app, if_true, if_false, ite_true, ite_false, Bool.false_eq_true, Bool.not_true, Bool.not_false, reduceIte, sizeLine_eq, ev_notT, ev_tru, ev_rev, ev_srtSet, ev_fmtS, ev_joinS_nil, ev_joinS, ev_eqO, ev_strO]); repeat (simp -implicitDefEqProofs only [q1', q2', q3', q4']; (try simp -implicitDefEqProofs only [ev_fn, fin_rt, fin_nx, fin_err, ev_seq, sq_nx, sq_rt, sq_err, ev_cNil, ev_set, ev_expr, ev_rt, ev_rtN, ev_if, ev_for, ev_asg, gt_some, ev_onV, ev_onB, bd_ok, bd_err, sr_ok, sr_err, bk_bl, ik_int, of_some, ev_ret, ev_bind, ev_var, ev_C, ev_op, ev_call, ev_cb, ev_tst, ev_eTst, ev_and, ev_or, ev_not, ev_eIf, ev_bAnd, ev_bOr, ev_bNot, ev_chain, ev_nil, ev_cons, ev_tup, ev_lst, ev_new, ev_neg, ev_fld, ev_sl, ev_oNo, ev_oYes, ev_bTrue, ev_lc, ev_it, ev_rng, ev_enum, lt_int, le_int, gt_int, ge_int, add_int, sub_int, gN_ap, isNoneF, notNoneF, List.map_cons, List.map_nil, List.cons_append, List.nil_append, List.append_nil, List.length_cons, List.length_nil, List.length_map, wipeE, Nat.reduceAdd, Nat.reduceSub, Nat.reduceLeDiff, List.replicate, List.getElem?_cons_zero, List.getElem?_cons_succ, Option.join_some, Option.join_none, List.set_cons_zero, List.set_cons_succ, gc_same, decide_true, decide_false, ev_fldS, ev_put, ev_app, if_true, if_false, ite_true, ite_false, Bool.false_eq_true, Bool.not_true, Bool.not_false, reduceIte, sizeLine_eq, ev_notT, ev_tru, ev_rev, ev_srtSet, ev_fmtS, ev_joinS_nil, ev_joinS, ev_eqO, ev_strO])))
theorem lrB_ok (r : Rdr) (ok : r.Ok) (hn : r.n ≤ 5) (T2 : Option SV) (h : SHp) : lrB a [some (.ref hb.length), some r.T, T2, none, none, none, none, none, none] h = .nx [some (.ref hb.length), some r.T, T2, none, none, none, none, none, none] h := by
  have la := len_acc ok.acc ok.asc
  have isr := v_is_right a h (l := nv r.L) (s := r.sV) (c := natsV r.acc) rfl (pl_P3 (pl_sV r ok)) (pl_P2 (pl_acc r ok)) (fun xs e => by cases e; rw [List.length_map]; omega)
  unfold lrB
  ((try simp -implicitDefEqProofs only [ev_fn, fin_rt, fin_nx, fin_err, ev_seq, sq_nx, sq_rt, sq_err, ev_cNil, ev_set, ev_expr, ev_rt, ev_rtN, ev_if, ev_for, ev_asg, gt_some, ev_onV, ev_onB, bd_ok, bd_err, sr_ok, sr_err, bk_bl, ik_int, of_some, ev_ret, ev_bind, ev_var, ev_C, ev_op, ev_call, ev_cb, ev_tst, ev_eTst, ev_and, ev_or, ev_not, ev_eIf, ev_bAnd, ev_bOr, ev_bNot, ev_chain, ev_nil, ev_cons, ev_tup, ev_lst, ev_new, ev_neg, ev_fld, ev_sl, ev_oNo, ev_oYes, ev_bTrue, ev_lc, ev_it, ev_rng, ev_enum, lt_int, le_int, gt_int, ge_int, add_int, sub_int, gN_ap, isNoneF, notNoneF, List.map_cons, List.map_nil, List.cons_append, List.nil_append, List.append_nil, List.length_cons, List.length_nil, List.length_map, wipeE, Nat.reduceAdd, Nat.reduceSub, Nat.reduceLeDiff, List.replicate, List.getElem?_cons_zero, List.getElem?_cons_succ, Option.join_some, Option.join_none, List.set_cons_zero, List.set_cons_succ, gc_same, decide_true, decide_false, ev_fldS, ev_put, ev_app, if_true, if_false, ite_true, ite_false, Bool.false_eq_true, Bool.not_true, Bool.not_false, reduceIte, sizeLine_eq, ev_notT, ev_tru, ev_rev, ev_srtSet, ev_fmtS, ev_joinS_nil, ev_joinS, ev_eqO, ev_strO]); repeat (simp -implicitDefEqProofs only [isr]; (try simp -implicitDefEqProofs only [ev_fn, fin_rt, fin_nx, fin_err, ev_seq, sq_nx, sq_rt, sq_err, ev_cNil, ev_set, ev_expr, ev_rt, ev_rtN, ev_if, ev_for, ev_asg, gt_some, ev_onV, ev_onB, bd_ok, bd_err, sr_ok, sr_err, bk_bl, ik_int, of_some, ev_ret, ev_bind, ev_var, ev_C, ev_op, ev_call, ev_cb, ev_tst, ev_eTst, ev_and, ev_or, ev_not, ev_eIf, ev_bAnd, ev_bOr, ev_bNot, ev_chain, ev_nil, ev_cons, ev_tup, ev_lst, ev_new, ev_neg, ev_fld, ev_sl, ev_oNo, ev_oYes, ev_bTrue, ev_lc, ev_it, ev_rng, ev_enum, lt_int, le_int, gt_int, ge_int, add_int, sub_int, gN_ap, isNoneF, notNoneF, List.map_cons, List.map_nil, List.cons_append, List.nil_append, List.append_nil, List.length_cons, List.length_nil, List.length_map, wipeE, Nat.reduceAdd, Nat.reduceSub, Nat.reduceLeDiff, List.replicate, List.getElem?_cons_zero, List.getElem?_cons_succ, Option.join_some, Option.join_none, List.set_cons_zero, List.set_cons_succ, gc_same, decide_true, decide_false, ev_fldS, ev_put, ev_app, if_true, if_false, ite_true, ite_false, Bool.false_eq_true, Bool.not_true, Bool.not_false, reduceIte, sizeLine_eq, ev_notT, ev_tru, ev_rev, ev_srtSet, ev_fmtS, ev_joinS_nil, ev_joinS, ev_eqO, ev_strO])))
theorem lrC_ok (r : Rdr) (ok : r.Ok) (hn : r.n ≤ 5) (T2 : Option SV) {k : Nat} {z m c : Int} (b : Bag k z m c) (hk : k + 10000 < 2 ^ 60) :
    ∃ z' c' e3 e4, lrC a [some (.ref hb.length), some r.T, T2, none, none, none, none, none, none] (bag hb z m c) = .nx [some (.ref hb.length), some r.T, T2, e3, e4, none, none, none, none] (bag hb z' m c') ∧ Bag (k + 2460) z' m c' := by
  obtain ⟨z1, c1, e3, e4, q, b1⟩ := turns_ok a hb r ok (by omega) T2 m (rngL 0 20) none none k z c b (by rw [rngL_len]; omega)
  refine ⟨z1, c1, e3, e4, ?_, b1.mono (by rw [rngL_len]; omega)⟩
  unfold lrC
  (try simp -implicitDefEqProofs only [ev_fn, fin_rt, fin_nx, fin_err, ev_seq, sq_nx, sq_rt, sq_err, ev_cNil, ev_set, ev_expr, ev_rt, ev_rtN, ev_if, ev_for, ev_asg, gt_some, ev_onV, ev_onB, bd_ok, bd_err, sr_ok, sr_err, bk_bl, ik_int, of_some, ev_ret, ev_bind, ev_var, ev_C, ev_op, ev_call, ev_cb, ev_tst, ev_eTst, ev_and, ev_or, ev_not, ev_eIf, ev_bAnd, ev_bOr, ev_bNot, ev_chain, ev_nil, ev_cons, ev_tup, ev_lst, ev_new, ev_neg, ev_fld, ev_sl, ev_oNo, ev_oYes, ev_bTrue, ev_lc, ev_it, ev_rng, ev_enum, lt_int, le_int, gt_int, ge_int, add_int, sub_int, gN_ap, isNoneF, notNoneF, List.map_cons, List.map_nil, List.cons_append, List.nil_append, List.append_nil, List.length_cons, List.length_nil, List.length_map, wipeE, Nat.reduceAdd, Nat.reduceSub, Nat.reduceLeDiff, List.replicate, List.getElem?_cons_zero, List.getElem?_cons_succ, Option.join_some, Option.join_none, List.set_cons_zero, List.set_cons_succ, gc_same, decide_true, decide_false, ev_fldS, ev_put, ev_app, if_true, if_false, ite_true, ite_false, Bool.false_eq_true, Bool.not_true, Bool.not_false, reduceIte, sizeLine_eq, ev_notT, ev_tru, ev_rev, ev_srtSet, ev_fmtS, ev_joinS_nil, ev_joinS, ev_eqO, ev_strO])
  rw [rgF_int (i := 20) (n := 20) (by omega) rfl]
  rw [sr_ok, q]
theorem lrD_ok (r s : Rdr) (ok : r.Ok) (os : s.Ok) (e3 e4 : Option SV) (h : SHp) : lrD a [some (.ref hb.length), some r.T, some s.T, e3, e4, none, none, none, none] h = .nx [some (.ref hb.length), some r.T, some s.T, e3, e4, some (rdR a r), some (rdR a s), none, none] h := by
  have i0 : ∀ (r : Rdr) h, ixF r.T (.int 0) h = some (nv r.L) := fun r h => rfl
  have i1 : ∀ (r : Rdr) h, ixF r.T (.int 1) h = some r.sV := fun r h => rfl
  have i2 : ∀ (r : Rdr) h, ixF r.T (.int 2) h = some (natsV r.acc) := fun r h => rfl
  have m1 : mk1E a [some (.ref hb.length), some r.T, some s.T, e3, e4, none, none, none, none] h = .ok (rdR a r) h := by
    refine v_makeR a r ok ?_
    ((try simp -implicitDefEqProofs only [ev_fn, fin_rt, fin_nx, fin_err, ev_seq, sq_nx, sq_rt, sq_err, ev_cNil, ev_set, ev_expr, ev_rt, ev_rtN, ev_if, ev_for, ev_asg, gt_some, ev_onV, ev_onB, bd_ok, bd_err, sr_ok, sr_err, bk_bl, ik_int, of_some, ev_ret, ev_bind, ev_var, ev_C, ev_op, ev_call, ev_cb, ev_tst, ev_eTst, ev_and, ev_or, ev_not, ev_eIf, ev_bAnd, ev_bOr, ev_bNot, ev_chain, ev_nil, ev_cons, ev_tup, ev_lst, ev_new, ev_neg, ev_fld, ev_sl, ev_oNo, ev_oYes, ev_bTrue, ev_lc, ev_it, ev_rng, ev_enum, lt_int, le_int, gt_int, ge_int, add_int, sub_int, gN_ap, isNoneF, notNoneF, List.map_cons, List.map_nil, List.cons_append, List.nil_append, List.append_nil, List.length_cons, List.length_nil, List.length_map, wipeE, Nat.reduceAdd, Nat.reduceSub, Nat.reduceLeDiff, List.replicate, List.getElem?_cons_zero, List.getElem?_cons_succ, Option.join_some, Option.join_none, List.set_cons_zero, List.set_cons_succ, gc_same, decide_true, decide_false, ev_fldS, ev_put, ev_app, if_true, if_false, ite_true, ite_false, Bool.false_eq_true, Bool.not_true, Bool.not_false, reduceIte, sizeLine_eq, ev_notT, ev_tru, ev_rev, ev_srtSet, ev_fmtS, ev_joinS_nil, ev_joinS, ev_eqO, ev_strO]); repeat (simp -implicitDefEqProofs only [i0, i1, i2]; (try simp -implicitDefEqProofs only [ev_fn, fin_rt, fin_nx, fin_err, ev_seq, sq_nx, sq_rt, sq_err, ev_cNil, ev_set, ev_expr, ev_rt, ev_rtN, ev_if, ev_for, ev_asg, gt_some, ev_onV, ev_onB, bd_ok, bd_err, sr_ok, sr_err, bk_bl, ik_int, of_some, ev_ret, ev_bind, ev_var, ev_C, ev_op, ev_call, ev_cb, ev_tst, ev_eTst, ev_and, ev_or, ev_not, ev_eIf, ev_bAnd, ev_bOr, ev_bNot, ev_chain, ev_nil, ev_cons, ev_tup, ev_lst, ev_new, ev_neg, ev_fld, ev_sl, ev_oNo, ev_oYes, ev_bTrue, ev_lc, ev_it, ev_rng, ev_enum, lt_int, le_int, gt_int, ge_int, add_int, sub_int, gN_ap, isNoneF, notNoneF, List.map_cons, List.map_nil, List.cons_append, List.nil_append, List.append_nil, List.length_cons, List.length_nil, List.length_map, wipeE, Nat.reduceAdd, Nat.reduceSub, Nat.reduceLeDiff, List.replicate, List.getElem?_cons_zero, List.getElem?_cons_succ, Option.join_some, Option.join_none, List.set_cons_zero, List.set_cons_succ, gc_same, decide_true, decide_false, ev_fldS, ev_put, ev_app, if_true, if_false, ite_true, ite_false, Bool.false_eq_true, Bool.not_true, Bool.not_false, reduceIte, sizeLine_eq, ev_notT, ev_tru, ev_rev, ev_srtSet, ev_fmtS, ev_joinS_nil, ev_joinS, ev_eqO, ev_strO])))
  have m2 : mk2E a [some (.ref hb.length), some r.T, some s.T, e3, e4, none, none, none, none] h = .ok (rdR a s) h := by
    refine v_makeR a s os ?_
    ((try simp -implicitDefEqProofs only [ev_fn, fin_rt, fin_nx, fin_err, ev_seq, sq_nx, sq_rt, sq_err, ev_cNil, ev_set, ev_expr, ev_rt, ev_rtN, ev_if, ev_for, ev_asg, gt_some, ev_onV, ev_onB, bd_ok, bd_err, sr_ok, sr_err, bk_bl, ik_int, of_some, ev_ret, ev_bind, ev_var, ev_C, ev_op, ev_call, ev_cb, ev_tst, ev_eTst, ev_and, ev_or, ev_not, ev_eIf, ev_bAnd, ev_bOr, ev_bNot, ev_chain, ev_nil, ev_cons, ev_tup, ev_lst, ev_new, ev_neg, ev_fld, ev_sl, ev_oNo, ev_oYes, ev_bTrue, ev_lc, ev_it, ev_rng, ev_enum, lt_int, le_int, gt_int, ge_int, add_int, sub_int, gN_ap, isNoneF, notNoneF, List.map_cons, List.map_nil, List.cons_append, List.nil_append, List.append_nil, List.length_cons, List.length_nil, List.length_map, wipeE, Nat.reduceAdd, Nat.reduceSub, Nat.reduceLeDiff, List.replicate, List.getElem?_cons_zero, List.getElem?_cons_succ, Option.join_some, Option.join_none, List.set_cons_zero, List.set_cons_succ, gc_same, decide_true, decide_false, ev_fldS, ev_put, ev_app, if_true, if_false, ite_true, ite_false, Bool.false_eq_true, Bool.not_true, Bool.not_false, reduceIte, sizeLine_eq, ev_notT, ev_tru, ev_rev, ev_srtSet, ev_fmtS, ev_joinS_nil, ev_joinS, ev_eqO, ev_strO]); repeat (simp -implicitDefEqProofs only [i0, i1, i2]; (try simp -implicitDefEqProofs only [ev_fn, fin_rt, fin_nx, fin_err, ev_seq, sq_nx, sq_rt, sq_err, ev_cNil, ev_set, ev_expr, ev_rt, ev_rtN, ev_if, ev_for, ev_asg, gt_some, ev_onV, ev_onB, bd_ok, bd_err, sr_ok, sr_err, bk_bl, ik_int, of_some, ev_ret, ev_bind, ev_var, ev_C, ev_op, ev_call, ev_cb, ev_tst, ev_eTst, ev_and, ev_or, ev_not, ev_eIf, ev_bAnd, ev_bOr, ev_bNot, ev_chain, ev_nil, ev_cons, ev_tup, ev_lst, ev_new, ev_neg, ev_fld, ev_sl, ev_oNo, ev_oYes, ev_bTrue, ev_lc, ev_it, ev_rng, ev_enum, lt_int, le_int, gt_int, ge_int, add_int, sub_int, gN_ap, isNoneF, notNoneF, List.map_cons, List.map_nil, List.cons_append, List.nil_append, List.append_nil, List.length_cons, List.length_nil, List.length_map, wipeE, Nat.reduceAdd, Nat.reduceSub, Nat.reduceLeDiff, List.replicate, List.getElem?_cons_zero, List.getElem?_cons_succ, Option.join_some, Option.join_none, List.set_cons_zero, List.set_cons_succ, gc_same, decide_true, decide_false, ev_fldS, ev_put, ev_app, if_true, if_false, ite_true, ite_false, Bool.false_eq_true, Bool.not_true, Bool.not_false, reduceIte, sizeLine_eq, ev_notT, ev_tru, ev_rev, ev_srtSet, ev_fmtS, ev_joinS_nil, ev_joinS, ev_eqO, ev_strO])))
  unfold lrD
  rw [par_ok (v := rdR a r) (w := rdR a s) (h1 := h)]
  · rfl
  · ((try simp -implicitDefEqProofs only [ev_fn, fin_rt, fin_nx, fin_err, ev_seq, sq_nx, sq_rt, sq_err, ev_cNil, ev_set, ev_expr, ev_rt, ev_rtN, ev_if, ev_for, ev_asg, gt_some, ev_onV, ev_onB, bd_ok, bd_err, sr_ok, sr_err, bk_bl, ik_int, of_some, ev_ret, ev_bind, ev_var, ev_C, ev_op, ev_call, ev_cb, ev_tst, ev_eTst, ev_and, ev_or, ev_not, ev_eIf, ev_bAnd, ev_bOr, ev_bNot, ev_chain, ev_nil, ev_cons, ev_tup, ev_lst, ev_new, ev_neg, ev_fld, ev_sl, ev_oNo, ev_oYes, ev_bTrue, ev_lc, ev_it, ev_rng, ev_enum, lt_int, le_int, gt_int, ge_int, add_int, sub_int, gN_ap, isNoneF, notNoneF, List.map_cons, List.map_nil, List.cons_append, List.nil_append, List.append_nil, List.length_cons, List.length_nil, List.length_map, wipeE, Nat.reduceAdd, Nat.reduceSub, Nat.reduceLeDiff, List.replicate, List.getElem?_cons_zero, List.getElem?_cons_succ, Option.join_some, Option.join_none, List.set_cons_zero, List.set_cons_succ, gc_same, decide_true, decide_false, ev_fldS, ev_put, ev_app, if_true, if_false, ite_true, ite_false, Bool.false_eq_true, Bool.not_true, Bool.not_false, reduceIte, sizeLine_eq, ev_notT, ev_tru, ev_rev, ev_srtSet, ev_fmtS, ev_joinS_nil, ev_joinS, ev_eqO, ev_strO]); repeat (simp -implicitDefEqProofs only [m1, m2]; (try simp -implicitDefEqProofs only [ev_fn, fin_rt, fin_nx, fin_err, ev_seq, sq_nx, sq_rt, sq_err, ev_cNil, ev_set, ev_expr, ev_rt, ev_rtN, ev_if, ev_for, ev_asg, gt_some, ev_onV, ev_onB, bd_ok, bd_err, sr_ok, sr_err, bk_bl, ik_int, of_some, ev_ret, ev_bind, ev_var, ev_C, ev_op, ev_call, ev_cb, ev_tst, ev_eTst, ev_and, ev_or, ev_not, ev_eIf, ev_bAnd, ev_bOr, ev_bNot, ev_chain, ev_nil, ev_cons, ev_tup, ev_lst, ev_new, ev_neg, ev_fld, ev_sl, ev_oNo, ev_oYes, ev_bTrue, ev_lc, ev_it, ev_rng, ev_enum, lt_int, le_int, gt_int, ge_int, add_int, sub_int, gN_ap, isNoneF, notNoneF, List.map_cons, List.map_nil, List.cons_append, List.nil_append, List.append_nil, List.length_cons, List.length_nil, List.length_map, wipeE, Nat.reduceAdd, Nat.reduceSub, Nat.reduceLeDiff, List.replicate, List.getElem?_cons_zero, List.getElem?_cons_succ, Option.join_some, Option.join_none, List.set_cons_zero, List.set_cons_succ, gc_same, decide_true, decide_false, ev_fldS, ev_put, ev_app, if_true, if_false, ite_true, ite_false, Bool.false_eq_true, Bool.not_true, Bool.not_false, reduceIte, sizeLine_eq, ev_notT, ev_tru, ev_rev, ev_srtSet, ev_fmtS, ev_joinS_nil, ev_joinS, ev_eqO, ev_strO])))
theorem lrE_ok (r s : Rdr) (e0 e3 e4 e7 e8 : Option SV) (h : SHp) : lrE a [e0, some r.T, some s.T, e3, e4, some (rdR a r), some (rdR a s), e7, e8] h = .nx [e0, some r.T, some s.T, e3, e4, some (rdR a r), some (rdR a s), e7, e8] h := by
  unfold lrE
  cases q : qR r s with
  | true => ((try simp -implicitDefEqProofs only [ev_fn, fin_rt, fin_nx, fin_err, ev_seq, sq_nx, sq_rt, sq_err, ev_cNil, ev_set, ev_expr, ev_rt, ev_rtN, ev_if, ev_for, ev_asg, gt_some, ev_onV, ev_onB, bd_ok, bd_err, sr_ok, sr_err, bk_bl, ik_int, of_some, ev_ret, ev_bind, ev_var, ev_C, ev_op, ev_call, ev_cb, ev_tst, ev_eTst, ev_and, ev_or, ev_not, ev_eIf, ev_bAnd, ev_bOr, ev_bNot, ev_chain, ev_nil, ev_cons, ev_tup, ev_lst, ev_new, ev_neg, ev_fld, ev_sl, ev_oNo, ev_oYes, ev_bTrue, ev_lc, ev_it, ev_rng, ev_enum, lt_int, le_int, gt_int, ge_int, add_int, sub_int, gN_ap, isNoneF, notNoneF, List.map_cons, List.map_nil, List.cons_append, List.nil_append, List.append_nil, List.length_cons, List.length_nil, List.length_map, wipeE, Nat.reduceAdd, Nat.reduceSub, Nat.reduceLeDiff, List.replicate, List.getElem?_cons_zero, List.getElem?_cons_succ, Option.join_some, Option.join_none, List.set_cons_zero, List.set_cons_succ, gc_same, decide_true, decide_false, ev_fldS, ev_put, ev_app, if_true, if_false, ite_true, ite_false, Bool.false_eq_true, Bool.not_true, Bool.not_false, reduceIte, sizeLine_eq, ev_notT, ev_tru, ev_rev, ev_srtSet, ev_fmtS, ev_joinS_nil, ev_joinS, ev_eqO, ev_strO]); repeat (simp -implicitDefEqProofs only [eqO_rd, eq_T, eqO_T, eqO_0, q, eqF_bl]; (try simp -implicitDefEqProofs only [ev_fn, fin_rt, fin_nx, fin_err, ev_seq, sq_nx, sq_rt, sq_err, ev_cNil, ev_set, ev_expr, ev_rt, ev_rtN, ev_if, ev_for, ev_asg, gt_some, ev_onV, ev_onB, bd_ok, bd_err, sr_ok, sr_err, bk_bl, ik_int, of_some, ev_ret, ev_bind, ev_var, ev_C, ev_op, ev_call, ev_cb, ev_tst, ev_eTst, ev_and, ev_or, ev_not, ev_eIf, ev_bAnd, ev_bOr, ev_bNot, ev_chain, ev_nil, ev_cons, ev_tup, ev_lst, ev_new, ev_neg, ev_fld, ev_sl, ev_oNo, ev_oYes, ev_bTrue, ev_lc, ev_it, ev_rng, ev_enum, lt_int, le_int, gt_int, ge_int, add_int, sub_int, gN_ap, isNoneF, notNoneF, List.map_cons, List.map_nil, List.cons_append, List.nil_append, List.append_nil, List.length_cons, List.length_nil, List.length_map, wipeE, Nat.reduceAdd, Nat.reduceSub, Nat.reduceLeDiff, List.replicate, List.getElem?_cons_zero, List.getElem?_cons_succ, Option.join_some, Option.join_none, List.set_cons_zero, List.set_cons_succ, gc_same, decide_true, decide_false, ev_fldS, ev_put, ev_app, if_true, if_false, ite_true, ite_false, Bool.false_eq_true, Bool.not_true, Bool.not_false, reduceIte, sizeLine_eq, ev_notT, ev_tru, ev_rev, ev_srtSet, ev_fmtS, ev_joinS_nil, ev_joinS, ev_eqO, ev_strO])))
  | false => ((try simp -implicitDefEqProofs only [ev_fn, fin_rt, fin_nx, fin_err, ev_seq, sq_nx, sq_rt, sq_err, ev_cNil, ev_set, ev_expr, ev_rt, ev_rtN, ev_if, ev_for, ev_asg, gt_some, ev_onV, ev_onB, bd_ok, bd_err, sr_ok, sr_err, bk_bl, ik_int, of_some, ev_ret, ev_bind, ev_var, ev_C, ev_op, ev_call, ev_cb, ev_tst, ev_eTst, ev_and, ev_or, ev_not, ev_eIf, ev_bAnd, ev_bOr, ev_bNot, ev_chain, ev_nil, ev_cons, ev_tup, ev_lst, ev_new, ev_neg, ev_fld, ev_sl, ev_oNo, ev_oYes, ev_bTrue, ev_lc, ev_it, ev_rng, ev_enum, lt_int, le_int, gt_int, ge_int, add_int, sub_int, gN_ap, isNoneF, notNoneF, List.map_cons, List.map_nil, List.cons_append, List.nil_append, List.append_nil, List.length_cons, List.length_nil, List.length_map, wipeE, Nat.reduceAdd, Nat.reduceSub, Nat.reduceLeDiff, List.replicate, List.getElem?_cons_zero, List.getElem?_cons_succ, Option.join_some, Option.join_none, List.set_cons_zero, List.set_cons_succ, gc_same, decide_true, decide_false, ev_fldS, ev_put, ev_app, if_true, if_false, ite_true, ite_false, Bool.false_eq_true, Bool.not_true, Bool.not_false, reduceIte, sizeLine_eq, ev_notT, ev_tru, ev_rev, ev_srtSet, ev_fmtS, ev_joinS_nil, ev_joinS, ev_eqO, ev_strO]); repeat (simp -implicitDefEqProofs only [eqO_rd, eq_T, eqO_T, eqO_0, q, eqF_bl]; (try simp -implicitDefEqProofs only [ev_fn, fin_rt, fin_nx, fin_err, ev_seq, sq_nx, sq_rt, sq_err, ev_cNil, ev_set, ev_expr, ev_rt, ev_rtN, ev_if, ev_for, ev_asg, gt_some, ev_onV, ev_onB, bd_ok, bd_err, sr_ok, sr_err, bk_bl, ik_int, of_some, ev_ret, ev_bind, ev_var, ev_C, ev_op, ev_call, ev_cb, ev_tst, ev_eTst, ev_and, ev_or, ev_not, ev_eIf, ev_bAnd, ev_bOr, ev_bNot, ev_chain, ev_nil, ev_cons, ev_tup, ev_lst, ev_new, ev_neg, ev_fld, ev_sl, ev_oNo, ev_oYes, ev_bTrue, ev_lc, ev_it, ev_rng, ev_enum, lt_int, le_int, gt_int, ge_int, add_int, sub_int, gN_ap, isNoneF, notNoneF, List.map_cons, List.map_nil, List.cons_append, List.nil_append, List.append_nil, List.length_cons, List.length_nil, List.length_map, wipeE, Nat.reduceAdd, Nat.reduceSub, Nat.reduceLeDiff, List.replicate, List.getElem?_cons_zero, List.getElem?_cons_succ, Option.join_some, Option.join_none, List.set_cons_zero, List.set_cons_succ, gc_same, decide_true, decide_false, ev_fldS, ev_put, ev_app, if_true, if_false, ite_true, ite_false, Bool.false_eq_true, Bool.not_true, Bool.not_false, reduceIte, sizeLine_eq, ev_notT, ev_tru, ev_rev, ev_srtSet, ev_fmtS, ev_joinS_nil, ev_joinS, ev_eqO, ev_strO])))
theorem lrF_ok (r : Rdr) (ok : r.Ok) (e0 e2 e3 e4 e5 e6 e8 : Option SV) (h : SHp) : lrF [e0, some r.T, e2, e3, e4, e5, e6, none, e8] h = .nx [e0, some r.T, e2, e3, e4, e5, e6, some (.str (txt r.n r.L)), e8] h := by
  have h1 : r.n < 600 := by have := ok.n2; omega
  have h2 : r.L < 600 := by have := ok.l2; omega
  have i0 : ∀ h, ixF r.T (.int 0) h = some (nv r.L) := fun h => rfl
  have i1 : ∀ h, ixF r.T (.int 1) h = some r.sV := fun h => rfl
  have ln : ∀ h, lenF [r.sV] h = some (nv r.n) := fun h => by rw [len_tup]; simp [nv]
  have n1 := num_len r.n h1
  have n2 := num_len r.L h2
  obtain ⟨l1, l2, l3, l4⟩ := len5 h1 h2
  have hA := tA_len; have hB := tB_len; have hC := tC_len
  have a1 := add_str (x := tA) (y := num r.n) (by omega) h
  have a2 := add_str (x := tA ++ num r.n) (y := tB) (by omega) h
  have a3 := add_str (x := (tA ++ num r.n) ++ tB) (y := num r.L) (by omega) h
  have a4 := add_str (x := ((tA ++ num r.n) ++ tB) ++ num r.L) (y := tC) (by omega) h
  show (cSet 7 (eOp addF (eOp addF (eOp addF (eOp addF (eC (.str tA)) (eCB strF (aCons (eCB lenF (aCons (eOp ixF (eVar 1) (eC (.int 1))) aNil)) aNil))) (eC (.str tB))) (eCB strF (aCons (eOp ixF (eVar 1) (eC (.int 0))) aNil))) (eC (.str tC)))) _ _ = _
  unfold txt
  ((try simp -implicitDefEqProofs only [ev_fn, fin_rt, fin_nx, fin_err, ev_seq, sq_nx, sq_rt, sq_err, ev_cNil, ev_set, ev_expr, ev_rt, ev_rtN, ev_if, ev_for, ev_asg, gt_some, ev_onV, ev_onB, bd_ok, bd_err, sr_ok, sr_err, bk_bl, ik_int, of_some, ev_ret, ev_bind, ev_var, ev_C, ev_op, ev_call, ev_cb, ev_tst, ev_eTst, ev_and, ev_or, ev_not, ev_eIf, ev_bAnd, ev_bOr, ev_bNot, ev_chain, ev_nil, ev_cons, ev_tup, ev_lst, ev_new, ev_neg, ev_fld, ev_sl, ev_oNo, ev_oYes, ev_bTrue, ev_lc, ev_it, ev_rng, ev_enum, lt_int, le_int, gt_int, ge_int, add_int, sub_int, gN_ap, isNoneF, notNoneF, List.map_cons, List.map_nil, List.cons_append, List.nil_append, List.append_nil, List.length_cons, List.length_nil, List.length_map, wipeE, Nat.reduceAdd, Nat.reduceSub, Nat.reduceLeDiff, List.replicate, List.getElem?_cons_zero, List.getElem?_cons_succ, Option.join_some, Option.join_none, List.set_cons_zero, List.set_cons_succ, gc_same, decide_true, decide_false, ev_fldS, ev_put, ev_app, if_true, if_false, ite_true, ite_false, Bool.false_eq_true, Bool.not_true, Bool.not_false, reduceIte, sizeLine_eq, ev_notT, ev_tru, ev_rev, ev_srtSet, ev_fmtS, ev_joinS_nil, ev_joinS, ev_eqO, ev_strO]); repeat (simp -implicitDefEqProofs only [i0, i1, ln, str_num h1, str_num h2, a1, a2, a3, a4]; (try simp -implicitDefEqProofs only [ev_fn, fin_rt, fin_nx, fin_err, ev_seq, sq_nx, sq_rt, sq_err, ev_cNil, ev_set, ev_expr, ev_rt, ev_rtN, ev_if, ev_for, ev_asg, gt_some, ev_onV, ev_onB, bd_ok, bd_err, sr_ok, sr_err, bk_bl, ik_int, of_some, ev_ret, ev_bind, ev_var, ev_C, ev_op, ev_call, ev_cb, ev_tst, ev_eTst, ev_and, ev_or, ev_not, ev_eIf, ev_bAnd, ev_bOr, ev_bNot, ev_chain, ev_nil, ev_cons, ev_tup, ev_lst, ev_new, ev_neg, ev_fld, ev_sl, ev_oNo, ev_oYes, ev_bTrue, ev_lc, ev_it, ev_rng, ev_enum, lt_int, le_int, gt_int, ge_int, add_int, sub_int, gN_ap, isNoneF, notNoneF, List.map_cons, List.map_nil, List.cons_append, List.nil_append, List.append_nil, List.length_cons, List.length_nil, List.length_map, wipeE, Nat.reduceAdd, Nat.reduceSub, Nat.reduceLeDiff, List.replicate, List.getElem?_cons_zero, List.getElem?_cons_succ, Option.join_some, Option.join_none, List.set_cons_zero, List.set_cons_succ, gc_same, decide_true, decide_false, ev_fldS, ev_put, ev_app, if_true, if_false, ite_true, ite_false, Bool.false_eq_true, Bool.not_true, Bool.not_false, reduceIte, sizeLine_eq, ev_notT, ev_tru, ev_rev, ev_srtSet, ev_fmtS, ev_joinS_nil, ev_joinS, ev_eqO, ev_strO])))
theorem lrG_ok (r : Rdr) (ok : r.Ok) (e0 e2 e3 e4 e6 e8 : Option SV) (h : SHp) : lrG a [e0, some r.T, e2, e3, e4, some (rdR a r), e6, some (.str (txt r.n r.L)), e8] h = .rt (.bl true) h := by
  have h1 : r.n < 600 := by have := ok.n2; omega
  have h2 : r.L < 600 := by have := ok.l2; omega
  have i0 : ∀ h, ixF r.T (.int 0) h = some (nv r.L) := fun h => rfl
  have i1 : ∀ h, ixF r.T (.int 1) h = some r.sV := fun h => rfl
  have i2 : ∀ h, ixF r.T (.int 2) h = some (natsV r.acc) := fun h => rfl
  have m1 : mk1E a [e0, some r.T, e2, e3, e4, some (rdR a r), e6, some (.str (txt r.n r.L)), e8] h = .ok (rdR a r) h := by
    refine v_makeR a r ok ?_
    ((try simp -implicitDefEqProofs only [ev_fn, fin_rt, fin_nx, fin_err, ev_seq, sq_nx, sq_rt, sq_err, ev_cNil, ev_set, ev_expr, ev_rt, ev_rtN, ev_if, ev_for, ev_asg, gt_some, ev_onV, ev_onB, bd_ok, bd_err, sr_ok, sr_err, bk_bl, ik_int, of_some, ev_ret, ev_bind, ev_var, ev_C, ev_op, ev_call, ev_cb, ev_tst, ev_eTst, ev_and, ev_or, ev_not, ev_eIf, ev_bAnd, ev_bOr, ev_bNot, ev_chain, ev_nil, ev_cons, ev_tup, ev_lst, ev_new, ev_neg, ev_fld, ev_sl, ev_oNo, ev_oYes, ev_bTrue, ev_lc, ev_it, ev_rng, ev_enum, lt_int, le_int, gt_int, ge_int, add_int, sub_int, gN_ap, isNoneF, notNoneF, List.map_cons, List.map_nil, List.cons_append, List.nil_append, List.append_nil, List.length_cons, List.length_nil, List.length_map, wipeE, Nat.reduceAdd, Nat.reduceSub, Nat.reduceLeDiff, List.replicate, List.getElem?_cons_zero, List.getElem?_cons_succ, Option.join_some, Option.join_none, List.set_cons_zero, List.set_cons_succ, gc_same, decide_true, decide_false, ev_fldS, ev_put, ev_app, if_true, if_false, ite_true, ite_false, Bool.false_eq_true, Bool.not_true, Bool.not_false, reduceIte, sizeLine_eq, ev_notT, ev_tru, ev_rev, ev_srtSet, ev_fmtS, ev_joinS_nil, ev_joinS, ev_eqO, ev_strO]); repeat (simp -implicitDefEqProofs only [i0, i1, i2]; (try simp -implicitDefEqProofs only [ev_fn, fin_rt, fin_nx, fin_err, ev_seq, sq_nx, sq_rt, sq_err, ev_cNil, ev_set, ev_expr, ev_rt, ev_rtN, ev_if, ev_for, ev_asg, gt_some, ev_onV, ev_onB, bd_ok, bd_err, sr_ok, sr_err, bk_bl, ik_int, of_some, ev_ret, ev_bind, ev_var, ev_C, ev_op, ev_call, ev_cb, ev_tst, ev_eTst, ev_and, ev_or, ev_not, ev_eIf, ev_bAnd, ev_bOr, ev_bNot, ev_chain, ev_nil, ev_cons, ev_tup, ev_lst, ev_new, ev_neg, ev_fld, ev_sl, ev_oNo, ev_oYes, ev_bTrue, ev_lc, ev_it, ev_rng, ev_enum, lt_int, le_int, gt_int, ge_int, add_int, sub_int, gN_ap, isNoneF, notNoneF, List.map_cons, List.map_nil, List.cons_append, List.nil_append, List.append_nil, List.length_cons, List.length_nil, List.length_map, wipeE, Nat.reduceAdd, Nat.reduceSub, Nat.reduceLeDiff, List.replicate, List.getElem?_cons_zero, List.getElem?_cons_succ, Option.join_some, Option.join_none, List.set_cons_zero, List.set_cons_succ, gc_same, decide_true, decide_false, ev_fldS, ev_put, ev_app, if_true, if_false, ite_true, ite_false, Bool.false_eq_true, Bool.not_true, Bool.not_false, reduceIte, sizeLine_eq, ev_notT, ev_tru, ev_rev, ev_srtSet, ev_fmtS, ev_joinS_nil, ev_joinS, ev_eqO, ev_strO])))
  unfold lrG
  ((try simp -implicitDefEqProofs only [ev_fn, fin_rt, fin_nx, fin_err, ev_seq, sq_nx, sq_rt, sq_err, ev_cNil, ev_set, ev_expr, ev_rt, ev_rtN, ev_if, ev_for, ev_asg, gt_some, ev_onV, ev_onB, bd_ok, bd_err, sr_ok, sr_err, bk_bl, ik_int, of_some, ev_ret, ev_bind, ev_var, ev_C, ev_op, ev_call, ev_cb, ev_tst, ev_eTst, ev_and, ev_or, ev_not, ev_eIf, ev_bAnd, ev_bOr, ev_bNot, ev_chain, ev_nil, ev_cons, ev_tup, ev_lst, ev_new, ev_neg, ev_fld, ev_sl, ev_oNo, ev_oYes, ev_bTrue, ev_lc, ev_it, ev_rng, ev_enum, lt_int, le_int, gt_int, ge_int, add_int, sub_int, gN_ap, isNoneF, notNoneF, List.map_cons, List.map_nil, List.cons_append, List.nil_append, List.append_nil, List.length_cons, List.length_nil, List.length_map, wipeE, Nat.reduceAdd, Nat.reduceSub, Nat.reduceLeDiff, List.replicate, List.getElem?_cons_zero, List.getElem?_cons_succ, Option.join_some, Option.join_none, List.set_cons_zero, List.set_cons_succ, gc_same, decide_true, decide_false, ev_fldS, ev_put, ev_app, if_true, if_false, ite_true, ite_false, Bool.false_eq_true, Bool.not_true, Bool.not_false, reduceIte, sizeLine_eq, ev_notT, ev_tru, ev_rev, ev_srtSet, ev_fmtS, ev_joinS_nil, ev_joinS, ev_eqO, ev_strO]); repeat (simp -implicitDefEqProofs only [m1, eqO_rd, qR_self, v_strO a r ok, txt_eq h1 h2]; (try simp -implicitDefEqProofs only [ev_fn, fin_rt, fin_nx, fin_err, ev_seq, sq_nx, sq_rt, sq_err, ev_cNil, ev_set, ev_expr, ev_rt, ev_rtN, ev_if, ev_for, ev_asg, gt_some, ev_onV, ev_onB, bd_ok, bd_err, sr_ok, sr_err, bk_bl, ik_int, of_some, ev_ret, ev_bind, ev_var, ev_C, ev_op, ev_call, ev_cb, ev_tst, ev_eTst, ev_and, ev_or, ev_not, ev_eIf, ev_bAnd, ev_bOr, ev_bNot, ev_chain, ev_nil, ev_cons, ev_tup, ev_lst, ev_new, ev_neg, ev_fld, ev_sl, ev_oNo, ev_oYes, ev_bTrue, ev_lc, ev_it, ev_rng, ev_enum, lt_int, le_int, gt_int, ge_int, add_int, sub_int, gN_ap, isNoneF, notNoneF, List.map_cons, List.map_nil, List.cons_append, List.nil_append, List.append_nil, List.length_cons, List.length_nil, List.length_map, wipeE, Nat.reduceAdd, Nat.reduceSub, Nat.reduceLeDiff, List.replicate, List.getElem?_cons_zero, List.getElem?_cons_succ, Option.join_some, Option.join_none, List.set_cons_zero, List.set_cons_succ, gc_same, decide_true, decide_false, ev_fldS, ev_put, ev_app, if_true, if_false, ite_true, ite_false, Bool.false_eq_true, Bool.not_true, Bool.not_false, reduceIte, sizeLine_eq, ev_notT, ev_tru, ev_rev, ev_srtSet, ev_fmtS, ev_joinS_nil, ev_joinS, ev_eqO, ev_strO])))
theorem v_right {k : Nat} {z m c : Int} (b : Bag k z m c) (hk : k + 20000 < 2 ^ 59) : ∃ z' c', D_u_law_right a [.ref hb.length] (bag hb z m c) = .ok (.bl true) (bag hb z' m c') ∧ Bag (k + 5000) z' m c' := by
  obtain ⟨z1, c1, r, s, q1, ok, hn, os, hs, b1⟩ := lrA_ok a hb b (by omega)
  obtain ⟨z2, c2, e3, e4, q2, b2⟩ := lrC_ok a hb r ok hn (some s.T) b1 (by omega)
  refine ⟨z2, c2, ?_, b2.mono (by omega)⟩
  have fe : fnD true 9 (B_u_law_right a) [.ref hb.length] (bag hb z m c) = fin true (bag hb z m c) (B_u_law_right a [some (.ref hb.length), none, none, none, none, none, none, none, none] (bag hb z m c)) := ev_fn
  unfold D_u_law_right
  rw [fe, B_right_eq, ev_seq, q1, sq_nx, ev_seq, lrB_ok a hb r ok hn, sq_nx, ev_seq, q2, sq_nx, ev_seq, lrD_ok a hb r s ok os, sq_nx, ev_seq, lrE_ok, sq_nx, ev_seq, lrF_ok r ok, sq_nx, lrG_ok a r ok, fin_rt]
  exact gc_len (by simp [bag])
end My

set_option Elab.async false
set_option linter.all false
set_option maxRecDepth 100000
set_option maxHeartbeats 4000000
namespace My
open PySem L2 Sim
variable (a : Ads) (hb : SHp)
theorem p56 (h : SHp) : powF (.int 10) (.int 56) h = some (.int 100000000000000000000000000000000000000000000000000000000) := by
  simp only [powF, op2I]; rw [if_pos (by decide)]; rfl
def P336 : Int := 100000000000000000000000000000000000000000000000000000000 ^ 6
theorem p336 (h : SHp) : powF (.int 100000000000000000000000000000000000000000000000000000000) (.int 6) h = some (.int P336) := by
  simp only [powF, op2I]; rw [if_pos (by decide)]; rfl
theorem P336_pos : 0 < P336 := by decide
theorem p16 (h : SHp) : powF (.int 10) (.int 16) h = some (.int 10000000000000000) := by
  simp only [powF, op2I]; rw [if_pos (by decide)]; rfl
theorem abs_int (i : Int) (h : SHp) : absF [.int i] h = some (.int (if i < 0 then -i else i)) := rfl
theorem int_bl (b : Bool) (h : SHp) : intF [.bl b] h = some (.int (if b then 1 else 0)) := rfl
theorem max_int (i j : Int) (h : SHp) : max2F [.int i, .int j] h = some (.int (if j > i then j else i)) := rfl
theorem min_int (i j : Int) (h : SHp) : min2F [.int i, .int j] h = some (.int (if j < i then j else i)) := rfl
theorem len_frl (xs : List SV) (h : SHp) : lenF [.frl xs] h = some (.int xs.length) := by simp [lenF, seqOf, Sim.listOf]
theorem v_bag (ns : List Int) (spot : Nat) (hs : spot < 3) : ∃ z m, D_u_law_bag a [.frl (ns.map SV.int), nv spot] hb = .ok (.ref hb.length) (bag hb z m 0) ∧ Bag 0 z m 0 := by
  have gl : ∀ z m : Int, gc false hb (.ref hb.length) (hb ++ [.lst [.int z, .int m, .int 0]]) = .ok (.ref hb.length) (bag hb z m 0) := fun z m => by
    unfold gc
    rw [if_neg (by simp), if_pos (gcOk_app _ _), if_neg (by simp [SV.okr])]
    simp only [hp_get0]
    rw [if_neg (by simp)]; rfl
  have key : ∀ cell : Int, ∀ e0 : Option SV, ∃ z m, fin false hb ((cSeq (cSet 3 (eOp modI (eCB intF (aCons (eCB absF (aCons (eVar 2) aNil)) aNil)) (eOp powF (eOp powF (eC (.int 10)) (eC (.int 56))) (eC (.int 6)))))
    (cSeq (cSet 4 (eOp addF (eOp addF (eOp addF (eOp mulT (eOp modI (eCB intF (aCons (eVar 3) aNil)) (eC (.int 2305843009213693723))) (eC (.int 79))) (eOp mulT (eC (.int 1009)) (eVar 1))) (eOp mulT (eC (.int 53)) (eCB intF (aCons (eOp ltI (eVar 2) (eC (.int 0))) aNil)))) (eC (.int 37))))
    (cRet (eNew (aCons (eCB max2F (aCons (eC (.int 0)) (aCons (eOp subI (eVar 3) (eOp powF (eC (.int 10)) (eC (.int 16)))) aNil))) (aCons (eVar 4) (aCons (eC (.int 0)) aNil))))))) [e0, some (nv spot), some (.int cell), none, none] hb) = .ok (.ref hb.length) (bag hb z m 0) ∧ Bag 0 z m 0 := by
    intro cell e0
    generalize hg : (if cell < 0 then -cell else cell) % P336 = G
    have G0 : 0 ≤ G := by rw [← hg]; exact Int.emod_nonneg _ (by have := P336_pos; omega)
    have M0 : 0 ≤ G % 2305843009213693723 := Int.emod_nonneg _ (by omega)
    have M1 : G % 2305843009213693723 < 2305843009213693723 := Int.emod_lt_of_pos _ (by omega)
    have S1 : (0 : Int) ≤ (if decide (cell < 0) = true then 1 else 0) ∧ (if decide (cell < 0) = true then 1 else 0) ≤ (1 : Int) := by split <;> omega
    generalize hS : (if decide (cell < 0) = true then (1 : Int) else 0) = S at S1
    generalize hM : G % 2305843009213693723 = M at M0 M1
    refine ⟨if 0 < G - 10000000000000000 then G - 10000000000000000 else 0, M * 79 + 1009 * (spot : Nat) + 53 * S + 37, ?_, ⟨by split <;> omega, by omega, by omega, by omega, by omega⟩⟩
    ((try simp -implicitDefEqProofs only [ev_fn, fin_rt, fin_nx, fin_err, ev_seq, sq_nx, sq_rt, sq_err, ev_cNil, ev_set, ev_expr, ev_rt, ev_rtN, ev_if, ev_for, ev_asg, gt_some, ev_onV, ev_onB, bd_ok, bd_err, sr_ok, sr_err, bk_bl, ik_int, of_some, ev_ret, ev_bind, ev_var, ev_C, ev_op, ev_call, ev_cb, ev_tst, ev_eTst, ev_and, ev_or, ev_not, ev_eIf, ev_bAnd, ev_bOr, ev_bNot, ev_chain, ev_nil, ev_cons, ev_tup, ev_lst, ev_new, ev_neg, ev_fld, ev_sl, ev_oNo, ev_oYes, ev_bTrue, ev_lc, ev_it, ev_rng, ev_enum, lt_int, le_int, gt_int, ge_int, add_int, sub_int, gN_ap, isNoneF, notNoneF, List.map_cons, List.map_nil, List.cons_append, List.nil_append, List.append_nil, List.length_cons, List.length_nil, List.length_map, wipeE, Nat.reduceAdd, Nat.reduceSub, Nat.reduceLeDiff, List.replicate, List.getElem?_cons_zero, List.getElem?_cons_succ, Option.join_some, Option.join_none, List.set_cons_zero, List.set_cons_succ, gc_same, decide_true, decide_false, ev_fldS, ev_put, ev_app, if_true, if_false, ite_true, ite_false, Bool.false_eq_true, Bool.not_true, Bool.not_false, reduceIte, sizeLine_eq, ev_notT, ev_tru, ev_rev, ev_srtSet, ev_fmtS, ev_joinS_nil, ev_joinS, ev_eqO, ev_strO]); repeat (simp -implicitDefEqProofs only [abs_int, int_int, p56, p336, mod_ok P336_pos, hg]; (try simp -implicitDefEqProofs only [ev_fn, fin_rt, fin_nx, fin_err, ev_seq, sq_nx, sq_rt, sq_err, ev_cNil, ev_set, ev_expr, ev_rt, ev_rtN, ev_if, ev_for, ev_asg, gt_some, ev_onV, ev_onB, bd_ok, bd_err, sr_ok, sr_err, bk_bl, ik_int, of_some, ev_ret, ev_bind, ev_var, ev_C, ev_op, ev_call, ev_cb, ev_tst, ev_eTst, ev_and, ev_or, ev_not, ev_eIf, ev_bAnd, ev_bOr, ev_bNot, ev_chain, ev_nil, ev_cons, ev_tup, ev_lst, ev_new, ev_neg, ev_fld, ev_sl, ev_oNo, ev_oYes, ev_bTrue, ev_lc, ev_it, ev_rng, ev_enum, lt_int, le_int, gt_int, ge_int, add_int, sub_int, gN_ap, isNoneF, notNoneF, List.map_cons, List.map_nil, List.cons_append, List.nil_append, List.append_nil, List.length_cons, List.length_nil, List.length_map, wipeE, Nat.reduceAdd, Nat.reduceSub, Nat.reduceLeDiff, List.replicate, List.getElem?_cons_zero, List.getElem?_cons_succ, Option.join_some, Option.join_none, List.set_cons_zero, List.set_cons_succ, gc_same, decide_true, decide_false, ev_fldS, ev_put, ev_app, if_true, if_false, ite_true, ite_false, Bool.false_eq_true, Bool.not_true, Bool.not_false, reduceIte, sizeLine_eq, ev_notT, ev_tru, ev_rev, ev_srtSet, ev_fmtS, ev_joinS_nil, ev_joinS, ev_eqO, ev_strO])))
    ((try simp -implicitDefEqProofs only [ev_fn, fin_rt, fin_nx, fin_err, ev_seq, sq_nx, sq_rt, sq_err, ev_cNil, ev_set, ev_expr, ev_rt, ev_rtN, ev_if, ev_for, ev_asg, gt_some, ev_onV, ev_onB, bd_ok, bd_err, sr_ok, sr_err, bk_bl, ik_int, of_some, ev_ret, ev_bind, ev_var, ev_C, ev_op, ev_call, ev_cb, ev_tst, ev_eTst, ev_and, ev_or, ev_not, ev_eIf, ev_bAnd, ev_bOr, ev_bNot, ev_chain, ev_nil, ev_cons, ev_tup, ev_lst, ev_new, ev_neg, ev_fld, ev_sl, ev_oNo, ev_oYes, ev_bTrue, ev_lc, ev_it, ev_rng, ev_enum, lt_int, le_int, gt_int, ge_int, add_int, sub_int, gN_ap, isNoneF, notNoneF, List.map_cons, List.map_nil, List.cons_append, List.nil_append, List.append_nil, List.length_cons, List.length_nil, List.length_map, wipeE, Nat.reduceAdd, Nat.reduceSub, Nat.reduceLeDiff, List.replicate, List.getElem?_cons_zero, List.getElem?_cons_succ, Option.join_some, Option.join_none, List.set_cons_zero, List.set_cons_succ, gc_same, decide_true, decide_false, ev_fldS, ev_put, ev_app, if_true, if_false, ite_true, ite_false, Bool.false_eq_true, Bool.not_true, Bool.not_false, reduceIte, sizeLine_eq, ev_notT, ev_tru, ev_rev, ev_srtSet, ev_fmtS, ev_joinS_nil, ev_joinS, ev_eqO, ev_strO]); repeat (simp -implicitDefEqProofs only [int_int, mod_ok (j := 2305843009213693723) (by omega), hM, mul_ok (i := M) (j := 79) (by omega) (by omega) (by omega) (by omega), mul_ok (i := 1009) (j := (spot : Nat)) (by omega) (by omega) (by omega) (by omega), int_bl, hS, mul_ok (i := 53) (j := S) (by omega) (by omega) (by omega) (by omega), p16, max_int]; (try simp -implicitDefEqProofs only [ev_fn, fin_rt, fin_nx, fin_err, ev_seq, sq_nx, sq_rt, sq_err, ev_cNil, ev_set, ev_expr, ev_rt, ev_rtN, ev_if, ev_for, ev_asg, gt_some, ev_onV, ev_onB, bd_ok, bd_err, sr_ok, sr_err, bk_bl, ik_int, of_some, ev_ret, ev_bind, ev_var, ev_C, ev_op, ev_call, ev_cb, ev_tst, ev_eTst, ev_and, ev_or, ev_not, ev_eIf, ev_bAnd, ev_bOr, ev_bNot, ev_chain, ev_nil, ev_cons, ev_tup, ev_lst, ev_new, ev_neg, ev_fld, ev_sl, ev_oNo, ev_oYes, ev_bTrue, ev_lc, ev_it, ev_rng, ev_enum, lt_int, le_int, gt_int, ge_int, add_int, sub_int, gN_ap, isNoneF, notNoneF, List.map_cons, List.map_nil, List.cons_append, List.nil_append, List.append_nil, List.length_cons, List.length_nil, List.length_map, wipeE, Nat.reduceAdd, Nat.reduceSub, Nat.reduceLeDiff, List.replicate, List.getElem?_cons_zero, List.getElem?_cons_succ, Option.join_some, Option.join_none, List.set_cons_zero, List.set_cons_succ, gc_same, decide_true, decide_false, ev_fldS, ev_put, ev_app, if_true, if_false, ite_true, ite_false, Bool.false_eq_true, Bool.not_true, Bool.not_false, reduceIte, sizeLine_eq, ev_notT, ev_tru, ev_rev, ev_srtSet, ev_fmtS, ev_joinS_nil, ev_joinS, ev_eqO, ev_strO])))
    exact gl _ _
  have st : ∃ cell : Int, cSet 2 (eIf (eTst (eOp ltI (eVar 1) (eCB lenF (aCons (eVar 0) aNil)))) (eCB intF (aCons (eOp ixF (eVar 0) (eVar 1)) aNil)) (eOp addF (eOp mulT (eC (.int 431)) (eVar 1)) (eC (.int 73)))) [some (.frl (ns.map SV.int)), some (nv spot), none, none, none] hb = .nx [some (.frl (ns.map SV.int)), some (nv spot), some (.int cell), none, none] hb := by
    by_cases c : spot < ns.length
    · refine ⟨ns[spot], ?_⟩
      have ix : ixF (.frl (ns.map SV.int)) (nv spot) hb = some (.int ns[spot]) := L2.atI_nat (by rw [List.getElem?_map, List.getElem?_eq_getElem c]; rfl)
      ((try simp -implicitDefEqProofs only [ev_fn, fin_rt, fin_nx, fin_err, ev_seq, sq_nx, sq_rt, sq_err, ev_cNil, ev_set, ev_expr, ev_rt, ev_rtN, ev_if, ev_for, ev_asg, gt_some, ev_onV, ev_onB, bd_ok, bd_err, sr_ok, sr_err, bk_bl, ik_int, of_some, ev_ret, ev_bind, ev_var, ev_C, ev_op, ev_call, ev_cb, ev_tst, ev_eTst, ev_and, ev_or, ev_not, ev_eIf, ev_bAnd, ev_bOr, ev_bNot, ev_chain, ev_nil, ev_cons, ev_tup, ev_lst, ev_new, ev_neg, ev_fld, ev_sl, ev_oNo, ev_oYes, ev_bTrue, ev_lc, ev_it, ev_rng, ev_enum, lt_int, le_int, gt_int, ge_int, add_int, sub_int, gN_ap, isNoneF, notNoneF, List.map_cons, List.map_nil, List.cons_append, List.nil_append, List.append_nil, List.length_cons, List.length_nil, List.length_map, wipeE, Nat.reduceAdd, Nat.reduceSub, Nat.reduceLeDiff, List.replicate, List.getElem?_cons_zero, List.getElem?_cons_succ, Option.join_some, Option.join_none, List.set_cons_zero, List.set_cons_succ, gc_same, decide_true, decide_false, ev_fldS, ev_put, ev_app, if_true, if_false, ite_true, ite_false, Bool.false_eq_true, Bool.not_true, Bool.not_false, reduceIte, sizeLine_eq, ev_notT, ev_tru, ev_rev, ev_srtSet, ev_fmtS, ev_joinS_nil, ev_joinS, ev_eqO, ev_strO]); repeat (simp -implicitDefEqProofs only [len_frl]; (try simp -implicitDefEqProofs only [ev_fn, fin_rt, fin_nx, fin_err, ev_seq, sq_nx, sq_rt, sq_err, ev_cNil, ev_set, ev_expr, ev_rt, ev_rtN, ev_if, ev_for, ev_asg, gt_some, ev_onV, ev_onB, bd_ok, bd_err, sr_ok, sr_err, bk_bl, ik_int, of_some, ev_ret, ev_bind, ev_var, ev_C, ev_op, ev_call, ev_cb, ev_tst, ev_eTst, ev_and, ev_or, ev_not, ev_eIf, ev_bAnd, ev_bOr, ev_bNot, ev_chain, ev_nil, ev_cons, ev_tup, ev_lst, ev_new, ev_neg, ev_fld, ev_sl, ev_oNo, ev_oYes, ev_bTrue, ev_lc, ev_it, ev_rng, ev_enum, lt_int, le_int, gt_int, ge_int, add_int, sub_int, gN_ap, isNoneF, notNoneF, List.map_cons, List.map_nil, List.cons_append, List.nil_append, List.append_nil, List.length_cons, List.length_nil, List.length_map, wipeE, Nat.reduceAdd, Nat.reduceSub, Nat.reduceLeDiff, List.replicate, List.getElem?_cons_zero, List.getElem?_cons_succ, Option.join_some, Option.join_none, List.set_cons_zero, List.set_cons_succ, gc_same, decide_true, decide_false, ev_fldS, ev_put, ev_app, if_true, if_false, ite_true, ite_false, Bool.false_eq_true, Bool.not_true, Bool.not_false, reduceIte, sizeLine_eq, ev_notT, ev_tru, ev_rev, ev_srtSet, ev_fmtS, ev_joinS_nil, ev_joinS, ev_eqO, ev_strO])))
      rw [show decide (((spot : Nat) : Int) < (ns.length : Nat)) = true by simp; omega]
      ((try simp -implicitDefEqProofs only [ev_fn, fin_rt, fin_nx, fin_err, ev_seq, sq_nx, sq_rt, sq_err, ev_cNil, ev_set, ev_expr, ev_rt, ev_rtN, ev_if, ev_for, ev_asg, gt_some, ev_onV, ev_onB, bd_ok, bd_err, sr_ok, sr_err, bk_bl, ik_int, of_some, ev_ret, ev_bind, ev_var, ev_C, ev_op, ev_call, ev_cb, ev_tst, ev_eTst, ev_and, ev_or, ev_not, ev_eIf, ev_bAnd, ev_bOr, ev_bNot, ev_chain, ev_nil, ev_cons, ev_tup, ev_lst, ev_new, ev_neg, ev_fld, ev_sl, ev_oNo, ev_oYes, ev_bTrue, ev_lc, ev_it, ev_rng, ev_enum, lt_int, le_int, gt_int, ge_int, add_int, sub_int, gN_ap, isNoneF, notNoneF, List.map_cons, List.map_nil, List.cons_append, List.nil_append, List.append_nil, List.length_cons, List.length_nil, List.length_map, wipeE, Nat.reduceAdd, Nat.reduceSub, Nat.reduceLeDiff, List.replicate, List.getElem?_cons_zero, List.getElem?_cons_succ, Option.join_some, Option.join_none, List.set_cons_zero, List.set_cons_succ, gc_same, decide_true, decide_false, ev_fldS, ev_put, ev_app, if_true, if_false, ite_true, ite_false, Bool.false_eq_true, Bool.not_true, Bool.not_false, reduceIte, sizeLine_eq, ev_notT, ev_tru, ev_rev, ev_srtSet, ev_fmtS, ev_joinS_nil, ev_joinS, ev_eqO, ev_strO]); repeat (simp -implicitDefEqProofs only [ix, int_int]; (try simp -implicitDefEqProofs only [ev_fn, fin_rt, fin_nx, fin_err, ev_seq, sq_nx, sq_rt, sq_err, ev_cNil, ev_set, ev_expr, ev_rt, ev_rtN, ev_if, ev_for, ev_asg, gt_some, ev_onV, ev_onB, bd_ok, bd_err, sr_ok, sr_err, bk_bl, ik_int, of_some, ev_ret, ev_bind, ev_var, ev_C, ev_op, ev_call, ev_cb, ev_tst, ev_eTst, ev_and, ev_or, ev_not, ev_eIf, ev_bAnd, ev_bOr, ev_bNot, ev_chain, ev_nil, ev_cons, ev_tup, ev_lst, ev_new, ev_neg, ev_fld, ev_sl, ev_oNo, ev_oYes, ev_bTrue, ev_lc, ev_it, ev_rng, ev_enum, lt_int, le_int, gt_int, ge_int, add_int, sub_int, gN_ap, isNoneF, notNoneF, List.map_cons, List.map_nil, List.cons_append, List.nil_append, List.append_nil, List.length_cons, List.length_nil, List.length_map, wipeE, Nat.reduceAdd, Nat.reduceSub, Nat.reduceLeDiff, List.replicate, List.getElem?_cons_zero, List.getElem?_cons_succ, Option.join_some, Option.join_none, List.set_cons_zero, List.set_cons_succ, gc_same, decide_true, decide_false, ev_fldS, ev_put, ev_app, if_true, if_false, ite_true, ite_false, Bool.false_eq_true, Bool.not_true, Bool.not_false, reduceIte, sizeLine_eq, ev_notT, ev_tru, ev_rev, ev_srtSet, ev_fmtS, ev_joinS_nil, ev_joinS, ev_eqO, ev_strO])))
    · refine ⟨431 * (spot : Nat) + 73, ?_⟩
      ((try simp -implicitDefEqProofs only [ev_fn, fin_rt, fin_nx, fin_err, ev_seq, sq_nx, sq_rt, sq_err, ev_cNil, ev_set, ev_expr, ev_rt, ev_rtN, ev_if, ev_for, ev_asg, gt_some, ev_onV, ev_onB, bd_ok, bd_err, sr_ok, sr_err, bk_bl, ik_int, of_some, ev_ret, ev_bind, ev_var, ev_C, ev_op, ev_call, ev_cb, ev_tst, ev_eTst, ev_and, ev_or, ev_not, ev_eIf, ev_bAnd, ev_bOr, ev_bNot, ev_chain, ev_nil, ev_cons, ev_tup, ev_lst, ev_new, ev_neg, ev_fld, ev_sl, ev_oNo, ev_oYes, ev_bTrue, ev_lc, ev_it, ev_rng, ev_enum, lt_int, le_int, gt_int, ge_int, add_int, sub_int, gN_ap, isNoneF, notNoneF, List.map_cons, List.map_nil, List.cons_append, List.nil_append, List.append_nil, List.length_cons, List.length_nil, List.length_map, wipeE, Nat.reduceAdd, Nat.reduceSub, Nat.reduceLeDiff, List.replicate, List.getElem?_cons_zero, List.getElem?_cons_succ, Option.join_some, Option.join_none, List.set_cons_zero, List.set_cons_succ, gc_same, decide_true, decide_false, ev_fldS, ev_put, ev_app, if_true, if_false, ite_true, ite_false, Bool.false_eq_true, Bool.not_true, Bool.not_false, reduceIte, sizeLine_eq, ev_notT, ev_tru, ev_rev, ev_srtSet, ev_fmtS, ev_joinS_nil, ev_joinS, ev_eqO, ev_strO]); repeat (simp -implicitDefEqProofs only [len_frl]; (try simp -implicitDefEqProofs only [ev_fn, fin_rt, fin_nx, fin_err, ev_seq, sq_nx, sq_rt, sq_err, ev_cNil, ev_set, ev_expr, ev_rt, ev_rtN, ev_if, ev_for, ev_asg, gt_some, ev_onV, ev_onB, bd_ok, bd_err, sr_ok, sr_err, bk_bl, ik_int, of_some, ev_ret, ev_bind, ev_var, ev_C, ev_op, ev_call, ev_cb, ev_tst, ev_eTst, ev_and, ev_or, ev_not, ev_eIf, ev_bAnd, ev_bOr, ev_bNot, ev_chain, ev_nil, ev_cons, ev_tup, ev_lst, ev_new, ev_neg, ev_fld, ev_sl, ev_oNo, ev_oYes, ev_bTrue, ev_lc, ev_it, ev_rng, ev_enum, lt_int, le_int, gt_int, ge_int, add_int, sub_int, gN_ap, isNoneF, notNoneF, List.map_cons, List.map_nil, List.cons_append, List.nil_append, List.append_nil, List.length_cons, List.length_nil, List.length_map, wipeE, Nat.reduceAdd, Nat.reduceSub, Nat.reduceLeDiff, List.replicate, List.getElem?_cons_zero, List.getElem?_cons_succ, Option.join_some, Option.join_none, List.set_cons_zero, List.set_cons_succ, gc_same, decide_true, decide_false, ev_fldS, ev_put, ev_app, if_true, if_false, ite_true, ite_false, Bool.false_eq_true, Bool.not_true, Bool.not_false, reduceIte, sizeLine_eq, ev_notT, ev_tru, ev_rev, ev_srtSet, ev_fmtS, ev_joinS_nil, ev_joinS, ev_eqO, ev_strO])))
      rw [show decide (((spot : Nat) : Int) < (ns.length : Nat)) = false by simp; omega]
      ((try simp -implicitDefEqProofs only [ev_fn, fin_rt, fin_nx, fin_err, ev_seq, sq_nx, sq_rt, sq_err, ev_cNil, ev_set, ev_expr, ev_rt, ev_rtN, ev_if, ev_for, ev_asg, gt_some, ev_onV, ev_onB, bd_ok, bd_err, sr_ok, sr_err, bk_bl, ik_int, of_some, ev_ret, ev_bind, ev_var, ev_C, ev_op, ev_call, ev_cb, ev_tst, ev_eTst, ev_and, ev_or, ev_not, ev_eIf, ev_bAnd, ev_bOr, ev_bNot, ev_chain, ev_nil, ev_cons, ev_tup, ev_lst, ev_new, ev_neg, ev_fld, ev_sl, ev_oNo, ev_oYes, ev_bTrue, ev_lc, ev_it, ev_rng, ev_enum, lt_int, le_int, gt_int, ge_int, add_int, sub_int, gN_ap, isNoneF, notNoneF, List.map_cons, List.map_nil, List.cons_append, List.nil_append, List.append_nil, List.length_cons, List.length_nil, List.length_map, wipeE, Nat.reduceAdd, Nat.reduceSub, Nat.reduceLeDiff, List.replicate, List.getElem?_cons_zero, List.getElem?_cons_succ, Option.join_some, Option.join_none, List.set_cons_zero, List.set_cons_succ, gc_same, decide_true, decide_false, ev_fldS, ev_put, ev_app, if_true, if_false, ite_true, ite_false, Bool.false_eq_true, Bool.not_true, Bool.not_false, reduceIte, sizeLine_eq, ev_notT, ev_tru, ev_rev, ev_srtSet, ev_fmtS, ev_joinS_nil, ev_joinS, ev_eqO, ev_strO]); repeat (simp -implicitDefEqProofs only [mul_ok (i := 431) (j := (spot : Nat)) (by omega) (by omega) (by omega) (by omega)]; (try simp -implicitDefEqProofs only [ev_fn, fin_rt, fin_nx, fin_err, ev_seq, sq_nx, sq_rt, sq_err, ev_cNil, ev_set, ev_expr, ev_rt, ev_rtN, ev_if, ev_for, ev_asg, gt_some, ev_onV, ev_onB, bd_ok, bd_err, sr_ok, sr_err, bk_bl, ik_int, of_some, ev_ret, ev_bind, ev_var, ev_C, ev_op, ev_call, ev_cb, ev_tst, ev_eTst, ev_and, ev_or, ev_not, ev_eIf, ev_bAnd, ev_bOr, ev_bNot, ev_chain, ev_nil, ev_cons, ev_tup, ev_lst, ev_new, ev_neg, ev_fld, ev_sl, ev_oNo, ev_oYes, ev_bTrue, ev_lc, ev_it, ev_rng, ev_enum, lt_int, le_int, gt_int, ge_int, add_int, sub_int, gN_ap, isNoneF, notNoneF, List.map_cons, List.map_nil, List.cons_append, List.nil_append, List.append_nil, List.length_cons, List.length_nil, List.length_map, wipeE, Nat.reduceAdd, Nat.reduceSub, Nat.reduceLeDiff, List.replicate, List.getElem?_cons_zero, List.getElem?_cons_succ, Option.join_some, Option.join_none, List.set_cons_zero, List.set_cons_succ, gc_same, decide_true, decide_false, ev_fldS, ev_put, ev_app, if_true, if_false, ite_true, ite_false, Bool.false_eq_true, Bool.not_true, Bool.not_false, reduceIte, sizeLine_eq, ev_notT, ev_tru, ev_rev, ev_srtSet, ev_fmtS, ev_joinS_nil, ev_joinS, ev_eqO, ev_strO])))
  obtain ⟨cell, st⟩ := st
  obtain ⟨z, m, q, b⟩ := key cell (some (.frl (ns.map SV.int)))
  refine ⟨z, m, ?_, b⟩
  simp only [D_u_law_bag, B_u_law_bag]
  rw [ev_fn]
  show fin false hb (cSeq _ _ [some (.frl (ns.map SV.int)), some (nv spot), none, none, none] hb) = _
  rw [ev_seq, st, sq_nx]
  exact q
def lwB (a : Ads) : ST' := (cSeq (cSet 2 (eCall (D_u_law_bag a) (aCons (eVar 0) (aCons (eVar 1) aNil))))
    (cIf (bOr (bNot (eTst (eCall (D_u_law_right a) (aCons (eVar 2) aNil)))) (bNot (eTst (eCall (D_u_law_right a) (aCons (eVar 2) aNil))))) (cRet (eC (.bl false))) cNil))
theorem law_loop (ns : List Int) (e3 e4 e5 e6 e7 e8 : Option SV) : ∀ (items : List Nat) (hb : SHp) (e1 e2 : Option SV), (∀ x ∈ items, x < 3) →
    ∃ hb' e1' e2', forL (gN 1) (lwB a) .no (items.map nv) [some (.frl (ns.map SV.int)), e1, e2, e3, e4, e5, e6, e7, e8] hb = .nx [some (.frl (ns.map SV.int)), e1', e2', e3, e4, e5, e6, e7, e8] hb'
  | [], hb, e1, e2, _ => ⟨hb, e1, e2, forL_nil rfl⟩
  | x :: xs, hb, e1, e2, hx => by
    obtain ⟨z, m, q, b⟩ := v_bag a hb ns x (hx x (by simp))
    obtain ⟨z1, c1, q1, b1⟩ := v_right a hb b (by omega)
    obtain ⟨z2, c2, q2, b2⟩ := v_right a hb b1 (by omega)
    have bd : lwB a [some (.frl (ns.map SV.int)), some (nv x), e2, e3, e4, e5, e6, e7, e8] hb = .nx [some (.frl (ns.map SV.int)), some (nv x), some (.ref hb.length), e3, e4, e5, e6, e7, e8] (bag hb z2 m c2) := by
      simp only [lwB]
      ((try simp -implicitDefEqProofs only [ev_fn, fin_rt, fin_nx, fin_err, ev_seq, sq_nx, sq_rt, sq_err, ev_cNil, ev_set, ev_expr, ev_rt, ev_rtN, ev_if, ev_for, ev_asg, gt_some, ev_onV, ev_onB, bd_ok, bd_err, sr_ok, sr_err, bk_bl, ik_int, of_some, ev_ret, ev_bind, ev_var, ev_C, ev_op, ev_call, ev_cb, ev_tst, ev_eTst, ev_and, ev_or, ev_not, ev_eIf, ev_bAnd, ev_bOr, ev_bNot, ev_chain, ev_nil, ev_cons, ev_tup, ev_lst, ev_new, ev_neg, ev_fld, ev_sl, ev_oNo, ev_oYes, ev_bTrue, ev_lc, ev_it, ev_rng, ev_enum, lt_int, le_int, gt_int, ge_int, add_int, sub_int, gN_ap, isNoneF, notNoneF, List.map_cons, List.map_nil, List.cons_append, List.nil_append, List.append_nil, List.length_cons, List.length_nil, List.length_map, wipeE, Nat.reduceAdd, Nat.reduceSub, Nat.reduceLeDiff, List.replicate, List.getElem?_cons_zero, List.getElem?_cons_succ, Option.join_some, Option.join_none, List.set_cons_zero, List.set_cons_succ, gc_same, decide_true, decide_false, ev_fldS, ev_put, ev_app, if_true, if_false, ite_true, ite_false, Bool.false_eq_true, Bool.not_true, Bool.not_false, reduceIte, sizeLine_eq, ev_notT, ev_tru, ev_rev, ev_srtSet, ev_fmtS, ev_joinS_nil, ev_joinS, ev_eqO, ev_strO]); repeat (simp -implicitDefEqProofs only [q, q1, q2]; (try simp -implicitDefEqProofs only [ev_fn, fin_rt, fin_nx, fin_err, ev_seq, sq_nx, sq_rt, sq_err, ev_cNil, ev_set, ev_expr, ev_rt, ev_rtN, ev_if, ev_for, ev_asg, gt_some, ev_onV, ev_onB, bd_ok, bd_err, sr_ok, sr_err, bk_bl, ik_int, of_some, ev_ret, ev_bind, ev_var, ev_C, ev_op, ev_call, ev_cb, ev_tst, ev_eTst, ev_and, ev_or, ev_not, ev_eIf, ev_bAnd, ev_bOr, ev_bNot, ev_chain, ev_nil, ev_cons, ev_tup, ev_lst, ev_new, ev_neg, ev_fld, ev_sl, ev_oNo, ev_oYes, ev_bTrue, ev_lc, ev_it, ev_rng, ev_enum, lt_int, le_int, gt_int, ge_int, add_int, sub_int, gN_ap, isNoneF, notNoneF, List.map_cons, List.map_nil, List.cons_append, List.nil_append, List.append_nil, List.length_cons, List.length_nil, List.length_map, wipeE, Nat.reduceAdd, Nat.reduceSub, Nat.reduceLeDiff, List.replicate, List.getElem?_cons_zero, List.getElem?_cons_succ, Option.join_some, Option.join_none, List.set_cons_zero, List.set_cons_succ, gc_same, decide_true, decide_false, ev_fldS, ev_put, ev_app, if_true, if_false, ite_true, ite_false, Bool.false_eq_true, Bool.not_true, Bool.not_false, reduceIte, sizeLine_eq, ev_notT, ev_tru, ev_rev, ev_srtSet, ev_fmtS, ev_joinS_nil, ev_joinS, ev_eqO, ev_strO])))
    obtain ⟨hb', f1, f2, q3⟩ := law_loop ns e3 e4 e5 e6 e7 e8 xs (bag hb z2 m c2) (some (nv x)) (some (.ref hb.length)) fun y hy => hx y (by simp [hy])
    exact ⟨hb', f1, f2, (forL_cons rfl rfl bd).trans q3⟩
end My

set_option Elab.async false
set_option linter.all false
set_option maxRecDepth 100000
set_option maxHeartbeats 4000000
namespace My
open PySem L2 Sim
variable (a : Ads)
def lw1 (a : Ads) : ST' := (cFor (cRng1 (eCB max2F (aCons (eC (.int 1)) (aCons (eCB min2F (aCons (eC (.int 3)) (aCons (eCB lenF (aCons (eVar 0) aNil)) aNil))) aNil)))) (gN 1) (lwB a))
def lw2 (a : Ads) : ST' := (cSet 3 (eNew (aCons (eTup (aCons (eC (.int 64)) (aCons (eTup (aCons (eOp mulT (eTup (aCons (eC (.int 0)) aNil)) (eC (.int 64))) aNil)) (aCons (eTup aNil) aNil)))) (aCons (eTup (aCons (eC (.int 65)) (aCons (eTup (aCons (eOp mulT (eTup (aCons (eC (.int 0)) aNil)) (eC (.int 65))) aNil)) (aCons (eTup aNil) aNil)))) (aCons (eTup (aCons (eC (.int 1)) (aCons (eOp mulT (eTup (aCons (eTup (aCons (eC (.int 0)) aNil)) aNil)) (eC (.int 512))) (aCons (eTup (aCons (eC (.int 511)) aNil)) aNil)))) (aCons (eTup (aCons (eC (.int 1)) (aCons (eOp mulT (eTup (aCons (eTup (aCons (eC (.int 0)) aNil)) aNil)) (eC (.int 513))) (aCons (eTup aNil) aNil)))) aNil))))))
def lw3 (a : Ads) : ST' := (cSet 3 (eAddNew (eVar 3) (eLst (aCons (eTup (aCons (eC (.int 0)) (aCons (eTup (aCons (eTup aNil) aNil)) (aCons (eTup aNil) aNil)))) (aCons (eTup (aCons (eC (.int 1)) (aCons (eTup aNil) (aCons (eTup aNil) aNil)))) (aCons (eTup (aCons (eC (.int 2)) (aCons (eTup (aCons (eTup (aCons (eC (.int 0)) (aCons (eC (.int 0)) aNil))) (aCons (eTup (aCons (eC (.int 0)) aNil)) aNil))) (aCons (eTup aNil) aNil)))) (aCons (eTup (aCons (eC (.int 1)) (aCons (eTup (aCons (eTup (aCons (eC (.int 1)) aNil)) aNil)) (aCons (eTup aNil) aNil)))) (aCons (eTup (aCons (eC (.int 1)) (aCons (eTup (aCons (eTup (aCons (eC (.int 0)) aNil)) aNil)) (aCons (eTup (aCons (eC (.int 0)) (aCons (eC (.int 0)) aNil))) aNil)))) aNil))))))))
def lw4 (a : Ads) : ST' := (cSet 3 (eAddNew (eVar 3) (eLst (aCons (eTup (aCons (eC (.int 1)) (aCons (eTup (aCons (eTup (aCons (eC (.int 0)) aNil)) (aCons (eTup (aCons (eC (.int 0)) aNil)) aNil))) (aCons (eTup (aCons (eC (.int 1)) (aCons (eC (.int 0)) aNil))) aNil)))) (aCons (eTup (aCons (eC (.int 1)) (aCons (eTup (aCons (eTup (aCons (eC (.int 0)) aNil)) aNil)) (aCons (eLst (aCons (eC (.int 0)) aNil)) aNil)))) (aCons (eTup (aCons (eC (.int 1)) (aCons (eLst (aCons (eTup (aCons (eC (.int 0)) aNil)) aNil)) (aCons (eTup aNil) aNil)))) (aCons (eTup (aCons (eC (.bl true)) (aCons (eTup (aCons (eTup (aCons (eC (.int 0)) aNil)) aNil)) (aCons (eTup aNil) aNil)))) aNil)))))))
def lw5 (a : Ads) : ST' := (cApp (eVar 3) (eTup (aCons (eC (.int 1)) (aCons (eTup (aCons (eTup (aCons (eC (.bl false)) aNil)) aNil)) (aCons (eTup aNil) aNil)))))
def lw6 (a : Ads) : ST' := (cSet 3 (eAddNew (eVar 3) (eLst (aCons (eTup (aCons (eC (.int 65)) (aCons (eTup aNil) (aCons (eC .non) aNil)))) (aCons (eTup (aCons (eC (.int 1)) (aCons (eTup aNil) (aCons (eC .non) aNil)))) (aCons (eTup (aCons (eC (.int 1)) (aCons (eTup (aCons (eTup (aCons (eNeg (eC (.int 1))) aNil)) aNil)) (aCons (eC .non) aNil)))) (aCons (eTup (aCons (eC (.int 2)) (aCons (eTup (aCons (eTup (aCons (eC (.int 0)) (aCons (eC (.int 1)) (aCons (eC (.int 0)) aNil)))) (aCons (eTup (aCons (eC (.int 0)) (aCons (eC (.int 1)) aNil))) aNil))) (aCons (eTup (aCons (eC (.int 0)) aNil)) aNil)))) aNil)))))))
def lw7 (a : Ads) : ST' := (cSet 4 (eLc (cIt (eVar 3)) [6, 7, 8] (gT 3 (gsC (gN 6) (gsC (gN 7) (gsC (gN 8) gsN)))) bTrue (eCall (D_reader_fault a) (aCons (eVar 6) (aCons (eVar 7) (aCons (eVar 8) aNil))))))
def lw8 (a : Ads) : ST' := (cSet 5 (eLst (aCons (eC .non) (aCons (eTup (aCons (eC (.str "letters")) aNil)) (aCons (eC .non) (aCons (eTup (aCons (eC (.str "steps")) aNil)) (aCons (eTup (aCons (eC (.str "letters")) aNil)) (aCons (eTup (aCons (eC (.str "steps")) aNil)) (aCons (eTup (aCons (eC (.str "step")) (aCons (eC (.int 1)) aNil))) (aCons (eTup (aCons (eC (.str "step")) (aCons (eC (.int 0)) aNil))) (aCons (eTup (aCons (eC (.str "accepting")) aNil)) aNil)))))))))))
def lw9 (a : Ads) : ST' := (cSet 5 (eOp addF (eVar 5) (eLst (aCons (eTup (aCons (eC (.str "accepting")) aNil)) (aCons (eTup (aCons (eC (.str "accepting")) aNil)) (aCons (eTup (aCons (eC (.str "steps")) aNil)) (aCons (eTup (aCons (eC (.str "letters")) aNil)) (aCons (eTup (aCons (eC (.str "step")) (aCons (eC (.int 0)) aNil))) (aCons (eTup (aCons (eC (.str "letters")) aNil)) (aCons (eTup (aCons (eC (.str "steps")) aNil)) aNil))))))))))
def lw10 (a : Ads) : ST' := (cRet (eAnd (eOp (eqF false) (eVar 4) (eOp addF (eVar 5) (eLst (aCons (eTup (aCons (eC (.str "step")) (aCons (eC (.int 0)) aNil))) (aCons (eTup (aCons (eC (.str "step")) (aCons (eC (.int 0)) aNil))) aNil))))) (eOp (eqF false) (eTup (aCons (eC (.int 64)) (aCons (eC (.int 512)) (aCons (eC (.int 2000)) aNil)))) (eTup (aCons (eC (.int 64)) (aCons (eC (.int 512)) (aCons (eC (.int 2000)) aNil)))))))
theorem B_law_eq : B_law a = cSeq (lw1 a) (cSeq (lw2 a) (cSeq (lw3 a) (cSeq (lw4 a) (cSeq (lw5 a) (cSeq (lw6 a) (cSeq (lw7 a) (cSeq (lw8 a) (cSeq (lw9 a) (lw10 a))))))))) := rfl
def rep (n : Nat) (x : SV) : List SV := List.replicate n x
theorem flat_rep (x : SV) : ∀ n : Nat, (List.replicate n [x]).flatten = List.replicate n x
  | 0 => rfl
  | n + 1 => by rw [List.replicate_succ, List.flatten_cons, flat_rep x n, List.replicate_succ]; rfl
theorem mul_rep (x : SV) (n : Nat) (h1 : 1 ≤ n) (h2 : n ≤ 1000) (h : SHp) : mulT (.tup [x]) (.int (n : Nat)) h = some (.tup (rep n x)) := by
  have e : mulT (.tup [x]) (.int (n : Nat)) h = (if (1 : Int) ≤ (n : Nat) ∧ ((n : Nat) : Int) ≤ 1000 ∧ [x].length ≤ 1000 then some (.tup (List.replicate ((n : Nat) : Int).toNat [x]).flatten) else none) := rfl
  rw [e, if_pos ⟨by omega, by omega, by simp⟩, Int.toNat_natCast, flat_rep]
  rfl
def t3 (l s c : SV) : SV := .tup [l, s, c]
abbrev z1 : SV := .tup [.int 0]
def g1 : List (SV × SV × SV) := [(.int 64, .tup [.tup (rep 64 (.int 0))], .tup []), (.int 65, .tup [.tup (rep 65 (.int 0))], .tup []), (.int 1, .tup (rep 512 z1), .tup [.int 511]), (.int 1, .tup (rep 513 z1), .tup [])]
def g2 : List (SV × SV × SV) := [(.int 0, .tup [.tup []], .tup []), (.int 1, .tup [], .tup []), (.int 2, .tup [.tup [.int 0, .int 0], z1], .tup []), (.int 1, .tup [.tup [.int 1]], .tup []), (.int 1, .tup [z1], .tup [.int 0, .int 0])]
def g3 : List (SV × SV × SV) := [(.int 1, .tup [z1, z1], .tup [.int 1, .int 0]), (.int 1, .tup [z1], .rls [.int 0]), (.int 1, .rls [z1], .tup []), (.bl true, .tup [z1], .tup [])]
def g4 : List (SV × SV × SV) := [(.int 1, .tup [.tup [.bl false]], .tup [])]
def g5 : List (SV × SV × SV) := [(.int 65, .tup [], .non), (.int 1, .tup [], .non), (.int 1, .tup [.tup [.int (-1)]], .non), (.int 2, .tup [.tup [.int 0, .int 1, .int 0], .tup [.int 0, .int 1]], .tup [.int 0])]
def tr (p : SV × SV × SV) : SV := .tup [p.1, p.2.1, p.2.2]
def fS (p : SV × SV × SV) : SV := faultS p.1 p.2.1 p.2.2
def gs : List (SV × SV × SV) := g1 ++ g2 ++ g3 ++ g4 ++ g5
theorem gs_pl : ∀ p ∈ gs, pl p.1 = true ∧ pl p.2.1 = true ∧ pl p.2.2 = true := by decide +kernel
def wl : SV := .tup [.str "letters"]
def wss : SV := .tup [.str "steps"]
def wa : SV := .tup [.str "accepting"]
def ws (i : Int) : SV := .tup [.str "step", .int i]
def faults : List SV := [.non, wl, .non, wss, wl, wss, ws 1, ws 0, wa, wa, wa, wss, wl, ws 0, wl, wss, ws 0, ws 0]
theorem gs_f : gs.map fS = faults := by decide +kernel
theorem faults_eq (h : SHp) : eqF false (.rls faults) (.rls faults) h = some (.bl true) := by
  have sa : PyData.strOk (Str.ofString "accepting") = true := by decide +kernel
  exact eqF_self h false (d := .list [.none, .tuple [.str "letters"], .none, .tuple [.str "steps"], .tuple [.str "letters"], .tuple [.str "steps"], .tuple [.str "step", .int 1], .tuple [.str "step", .int 0], .tuple [.str "accepting"], .tuple [.str "accepting"], .tuple [.str "accepting"], .tuple [.str "steps"], .tuple [.str "letters"], .tuple [.str "step", .int 0], .tuple [.str "letters"], .tuple [.str "steps"], .tuple [.str "step", .int 0], .tuple [.str "step", .int 0]]) rfl (by decide +kernel)
theorem compL_consG {gd : Gd} {g : SV → Sim.Env → Option Sim.Env} {el : Sim.Env → M SV} {e e1 : Sim.Env} {s v : SV} {ss acc : List SV} {h h2 : SHp} (k : gd.ok h = true) (q : g s e = some e1) (b : el e1 h = .ok v h2) (l : acc.length < sizeLine) :
    compL g bTrue el gd e (s :: ss) acc h = compL g bTrue el gd e ss (acc ++ [v]) h2 := by
  simp only [compL, k, if_true, q, M.bindN, bTrue, M.ret, b]
  rw [if_pos l]
theorem faults_comp {gd : Gd} {h : SHp} (k : gd.ok h = true) (e0 e1 e2 e3 e4 e5 e6 e7 e8 : Option SV) : ∀ (ps : List (SV × SV × SV)) (acc : List SV), (∀ p ∈ ps, pl p.1 = true ∧ pl p.2.1 = true ∧ pl p.2.2 = true) → acc.length + ps.length < 1000 →
    compL (gT 3 (gsC (gN 6) (gsC (gN 7) (gsC (gN 8) gsN)))) bTrue (eCall (D_reader_fault a) (aCons (eVar 6) (aCons (eVar 7) (aCons (eVar 8) aNil)))) gd [e0, e1, e2, e3, e4, e5, e6, e7, e8] (ps.map tr) acc h = .ok (acc ++ ps.map fS) h
  | [], acc, _, _ => by simp [compL, k]
  | p :: ps, acc, hp, hl => by
    obtain ⟨p1, p2, p3⟩ := hp p (by simp)
    have vf := v_fault a h (pl_ty p1) (pl_P3 p2) (pl_P2 p3)
    have ih := faults_comp k e0 e1 e2 e3 e4 e5 e6 e7 e8 ps (acc ++ [fS p]) (fun q hq => hp q (by simp [hq])) (by simp at hl ⊢; omega)
    rw [List.map_cons, compL_consG (e1 := [e0, e1, e2, e3, e4, e5, some p.1, some p.2.1, some p.2.2]) (v := fS p) (h2 := h) k rfl (by unfold fS; ((try simp -implicitDefEqProofs only [ev_fn, fin_rt, fin_nx, fin_err, ev_seq, sq_nx, sq_rt, sq_err, ev_cNil, ev_set, ev_expr, ev_rt, ev_rtN, ev_if, ev_for, ev_asg, gt_some, ev_onV, ev_onB, bd_ok, bd_err, sr_ok, sr_err, bk_bl, ik_int, of_some, ev_ret, ev_bind, ev_var, ev_C, ev_op, ev_call, ev_cb, ev_tst, ev_eTst, ev_and, ev_or, ev_not, ev_eIf, ev_bAnd, ev_bOr, ev_bNot, ev_chain, ev_nil, ev_cons, ev_tup, ev_lst, ev_new, ev_neg, ev_fld, ev_sl, ev_oNo, ev_oYes, ev_bTrue, ev_lc, ev_it, ev_rng, ev_enum, lt_int, le_int, gt_int, ge_int, add_int, sub_int, gN_ap, isNoneF, notNoneF, List.map_cons, List.map_nil, List.cons_append, List.nil_append, List.append_nil, List.length_cons, List.length_nil, List.length_map, wipeE, Nat.reduceAdd, Nat.reduceSub, Nat.reduceLeDiff, List.replicate, List.getElem?_cons_zero, List.getElem?_cons_succ, Option.join_some, Option.join_none, List.set_cons_zero, List.set_cons_succ, gc_same, decide_true, decide_false, ev_fldS, ev_put, ev_app, if_true, if_false, ite_true, ite_false, Bool.false_eq_true, Bool.not_true, Bool.not_false, reduceIte, sizeLine_eq, ev_notT, ev_tru, ev_rev, ev_srtSet, ev_fmtS, ev_joinS_nil, ev_joinS, ev_eqO, ev_strO]); repeat (simp -implicitDefEqProofs only [vf]; (try simp -implicitDefEqProofs only [ev_fn, fin_rt, fin_nx, fin_err, ev_seq, sq_nx, sq_rt, sq_err, ev_cNil, ev_set, ev_expr, ev_rt, ev_rtN, ev_if, ev_for, ev_asg, gt_some, ev_onV, ev_onB, bd_ok, bd_err, sr_ok, sr_err, bk_bl, ik_int, of_some, ev_ret, ev_bind, ev_var, ev_C, ev_op, ev_call, ev_cb, ev_tst, ev_eTst, ev_and, ev_or, ev_not, ev_eIf, ev_bAnd, ev_bOr, ev_bNot, ev_chain, ev_nil, ev_cons, ev_tup, ev_lst, ev_new, ev_neg, ev_fld, ev_sl, ev_oNo, ev_oYes, ev_bTrue, ev_lc, ev_it, ev_rng, ev_enum, lt_int, le_int, gt_int, ge_int, add_int, sub_int, gN_ap, isNoneF, notNoneF, List.map_cons, List.map_nil, List.cons_append, List.nil_append, List.append_nil, List.length_cons, List.length_nil, List.length_map, wipeE, Nat.reduceAdd, Nat.reduceSub, Nat.reduceLeDiff, List.replicate, List.getElem?_cons_zero, List.getElem?_cons_succ, Option.join_some, Option.join_none, List.set_cons_zero, List.set_cons_succ, gc_same, decide_true, decide_false, ev_fldS, ev_put, ev_app, if_true, if_false, ite_true, ite_false, Bool.false_eq_true, Bool.not_true, Bool.not_false, reduceIte, sizeLine_eq, ev_notT, ev_tru, ev_rev, ev_srtSet, ev_fmtS, ev_joinS_nil, ev_joinS, ev_eqO, ev_strO])))) (by rw [sizeLine_eq]; simp at hl; omega), ih]
    simp
end My

set_option Elab.async false
set_option linter.all false
set_option maxRecDepth 100000
set_option maxHeartbeats 4000000
namespace My
open PySem L2 Sim
variable (a : Ads)
theorem an_ok {xs ys : List SV} (hb : SHp) (hz : xs.length + ys.length ≤ 1000) : anF (.ref hb.length) (.rls ys) (hb ++ [.lst xs]) = .ok (.ref (hb.length + 1)) (hb ++ [.lst xs] ++ [.lst (xs ++ ys)]) := by
  have e1 : lstOf (.ref hb.length) (hb ++ [.lst xs]) = some xs := by
    show (match (hb ++ [SO.lst xs])[hb.length]? with | some (.lst xs) => some xs | _ => none) = _
    rw [hp_get0]
  unfold anF
  rw [e1]
  show (if xs.length + ys.length ≤ sizeLine then Res.ok (SV.ref (hb ++ [SO.lst xs]).length) (hb ++ [SO.lst xs] ++ [.lst (xs ++ ys)]) else .stuck) = _
  rw [if_pos (by rw [sizeLine_eq]; omega), List.length_append]
  rfl
theorem lw1_ok (ns : List Int) : ∃ hb e1 e2, lw1 a [some (.frl (ns.map SV.int)), none, none, none, none, none, none, none, none] [] = .nx [some (.frl (ns.map SV.int)), e1, e2, none, none, none, none, none, none] hb := by
  obtain ⟨hb, e1, e2, lp⟩ := law_loop a ns none none none none none none (List.range (max 1 (min 3 ns.length))) [] none none (fun x hx => by
    have := List.mem_range.mp hx; omega)
  refine ⟨hb, e1, e2, ?_⟩
  unfold lw1
  ((try simp -implicitDefEqProofs only [ev_fn, fin_rt, fin_nx, fin_err, ev_seq, sq_nx, sq_rt, sq_err, ev_cNil, ev_set, ev_expr, ev_rt, ev_rtN, ev_if, ev_for, ev_asg, gt_some, ev_onV, ev_onB, bd_ok, bd_err, sr_ok, sr_err, bk_bl, ik_int, of_some, ev_ret, ev_bind, ev_var, ev_C, ev_op, ev_call, ev_cb, ev_tst, ev_eTst, ev_and, ev_or, ev_not, ev_eIf, ev_bAnd, ev_bOr, ev_bNot, ev_chain, ev_nil, ev_cons, ev_tup, ev_lst, ev_new, ev_neg, ev_fld, ev_sl, ev_oNo, ev_oYes, ev_bTrue, ev_lc, ev_it, ev_rng, ev_enum, lt_int, le_int, gt_int, ge_int, add_int, sub_int, gN_ap, isNoneF, notNoneF, List.map_cons, List.map_nil, List.cons_append, List.nil_append, List.append_nil, List.length_cons, List.length_nil, List.length_map, wipeE, Nat.reduceAdd, Nat.reduceSub, Nat.reduceLeDiff, List.replicate, List.getElem?_cons_zero, List.getElem?_cons_succ, Option.join_some, Option.join_none, List.set_cons_zero, List.set_cons_succ, gc_same, decide_true, decide_false, ev_fldS, ev_put, ev_app, if_true, if_false, ite_true, ite_false, Bool.false_eq_true, Bool.not_true, Bool.not_false, reduceIte, sizeLine_eq, ev_notT, ev_tru, ev_rev, ev_srtSet, ev_fmtS, ev_joinS_nil, ev_joinS, ev_eqO, ev_strO]); repeat (simp -implicitDefEqProofs only [len_frl, min_int, max_int]; (try simp -implicitDefEqProofs only [ev_fn, fin_rt, fin_nx, fin_err, ev_seq, sq_nx, sq_rt, sq_err, ev_cNil, ev_set, ev_expr, ev_rt, ev_rtN, ev_if, ev_for, ev_asg, gt_some, ev_onV, ev_onB, bd_ok, bd_err, sr_ok, sr_err, bk_bl, ik_int, of_some, ev_ret, ev_bind, ev_var, ev_C, ev_op, ev_call, ev_cb, ev_tst, ev_eTst, ev_and, ev_or, ev_not, ev_eIf, ev_bAnd, ev_bOr, ev_bNot, ev_chain, ev_nil, ev_cons, ev_tup, ev_lst, ev_new, ev_neg, ev_fld, ev_sl, ev_oNo, ev_oYes, ev_bTrue, ev_lc, ev_it, ev_rng, ev_enum, lt_int, le_int, gt_int, ge_int, add_int, sub_int, gN_ap, isNoneF, notNoneF, List.map_cons, List.map_nil, List.cons_append, List.nil_append, List.append_nil, List.length_cons, List.length_nil, List.length_map, wipeE, Nat.reduceAdd, Nat.reduceSub, Nat.reduceLeDiff, List.replicate, List.getElem?_cons_zero, List.getElem?_cons_succ, Option.join_some, Option.join_none, List.set_cons_zero, List.set_cons_succ, gc_same, decide_true, decide_false, ev_fldS, ev_put, ev_app, if_true, if_false, ite_true, ite_false, Bool.false_eq_true, Bool.not_true, Bool.not_false, reduceIte, sizeLine_eq, ev_notT, ev_tru, ev_rev, ev_srtSet, ev_fmtS, ev_joinS_nil, ev_joinS, ev_eqO, ev_strO])))
  rw [rgF_int (n := max 1 (min 3 ns.length)) (by omega) (by (repeat' split) <;> omega), sr_ok]
  show forL (gN 1) (lwB a) .no (rngL 0 (max 1 (min 3 ns.length))) _ _ = _
  rw [rngL_nv]
  exact lp
theorem lw2_ok (e0 e1 e2 e3 e4 e5 e6 e7 e8 : Option SV) (hb : SHp) : lw2 a [e0, e1, e2, e3, e4, e5, e6, e7, e8] hb = .nx [e0, e1, e2, some (.ref hb.length), e4, e5, e6, e7, e8] (hb ++ [.lst (g1.map tr)]) := by
  have m1 : ∀ h, mulT (.tup [.int 0]) (.int 64) h = some (.tup (rep 64 (.int 0))) := mul_rep (.int 0) 64 (by omega) (by omega)
  have m2 : ∀ h, mulT (.tup [.int 0]) (.int 65) h = some (.tup (rep 65 (.int 0))) := mul_rep (.int 0) 65 (by omega) (by omega)
  have m3 : ∀ h, mulT (.tup [.tup [.int 0]]) (.int 512) h = some (.tup (rep 512 (.tup [.int 0]))) := mul_rep _ 512 (by omega) (by omega)
  have m4 : ∀ h, mulT (.tup [.tup [.int 0]]) (.int 513) h = some (.tup (rep 513 (.tup [.int 0]))) := mul_rep _ 513 (by omega) (by omega)
  have e : g1.map tr = [.tup [.int 64, .tup [.tup (rep 64 (.int 0))], .tup []], .tup [.int 65, .tup [.tup (rep 65 (.int 0))], .tup []], .tup [.int 1, .tup (rep 512 z1), .tup [.int 511]], .tup [.int 1, .tup (rep 513 z1), .tup []]] := rfl
  rw [e]
  unfold lw2
  ((try simp -implicitDefEqProofs only [ev_fn, fin_rt, fin_nx, fin_err, ev_seq, sq_nx, sq_rt, sq_err, ev_cNil, ev_set, ev_expr, ev_rt, ev_rtN, ev_if, ev_for, ev_asg, gt_some, ev_onV, ev_onB, bd_ok, bd_err, sr_ok, sr_err, bk_bl, ik_int, of_some, ev_ret, ev_bind, ev_var, ev_C, ev_op, ev_call, ev_cb, ev_tst, ev_eTst, ev_and, ev_or, ev_not, ev_eIf, ev_bAnd, ev_bOr, ev_bNot, ev_chain, ev_nil, ev_cons, ev_tup, ev_lst, ev_new, ev_neg, ev_fld, ev_sl, ev_oNo, ev_oYes, ev_bTrue, ev_lc, ev_it, ev_rng, ev_enum, lt_int, le_int, gt_int, ge_int, add_int, sub_int, gN_ap, isNoneF, notNoneF, List.map_cons, List.map_nil, List.cons_append, List.nil_append, List.append_nil, List.length_cons, List.length_nil, List.length_map, wipeE, Nat.reduceAdd, Nat.reduceSub, Nat.reduceLeDiff, List.replicate, List.getElem?_cons_zero, List.getElem?_cons_succ, Option.join_some, Option.join_none, List.set_cons_zero, List.set_cons_succ, gc_same, decide_true, decide_false, ev_fldS, ev_put, ev_app, if_true, if_false, ite_true, ite_false, Bool.false_eq_true, Bool.not_true, Bool.not_false, reduceIte, sizeLine_eq, ev_notT, ev_tru, ev_rev, ev_srtSet, ev_fmtS, ev_joinS_nil, ev_joinS, ev_eqO, ev_strO]); repeat (simp -implicitDefEqProofs only [m1, m2, m3, m4]; (try simp -implicitDefEqProofs only [ev_fn, fin_rt, fin_nx, fin_err, ev_seq, sq_nx, sq_rt, sq_err, ev_cNil, ev_set, ev_expr, ev_rt, ev_rtN, ev_if, ev_for, ev_asg, gt_some, ev_onV, ev_onB, bd_ok, bd_err, sr_ok, sr_err, bk_bl, ik_int, of_some, ev_ret, ev_bind, ev_var, ev_C, ev_op, ev_call, ev_cb, ev_tst, ev_eTst, ev_and, ev_or, ev_not, ev_eIf, ev_bAnd, ev_bOr, ev_bNot, ev_chain, ev_nil, ev_cons, ev_tup, ev_lst, ev_new, ev_neg, ev_fld, ev_sl, ev_oNo, ev_oYes, ev_bTrue, ev_lc, ev_it, ev_rng, ev_enum, lt_int, le_int, gt_int, ge_int, add_int, sub_int, gN_ap, isNoneF, notNoneF, List.map_cons, List.map_nil, List.cons_append, List.nil_append, List.append_nil, List.length_cons, List.length_nil, List.length_map, wipeE, Nat.reduceAdd, Nat.reduceSub, Nat.reduceLeDiff, List.replicate, List.getElem?_cons_zero, List.getElem?_cons_succ, Option.join_some, Option.join_none, List.set_cons_zero, List.set_cons_succ, gc_same, decide_true, decide_false, ev_fldS, ev_put, ev_app, if_true, if_false, ite_true, ite_false, Bool.false_eq_true, Bool.not_true, Bool.not_false, reduceIte, sizeLine_eq, ev_notT, ev_tru, ev_rev, ev_srtSet, ev_fmtS, ev_joinS_nil, ev_joinS, ev_eqO, ev_strO])))
theorem lw3_ok (e0 e1 e2 e4 e5 e6 e7 e8 : Option SV) (hb : SHp) (xs : List SV) (hz : xs.length ≤ 100) : lw3 a [e0, e1, e2, some (.ref hb.length), e4, e5, e6, e7, e8] (hb ++ [.lst xs]) = .nx [e0, e1, e2, some (.ref (hb.length + 1)), e4, e5, e6, e7, e8] (hb ++ [.lst xs] ++ [.lst (xs ++ g2.map tr)]) := by
  have an := an_ok (xs := xs) (ys := g2.map tr) hb (by simp [g2]; omega)
  have e : g2.map tr = [.tup [.int 0, .tup [.tup []], .tup []], .tup [.int 1, .tup [], .tup []], .tup [.int 2, .tup [.tup [.int 0, .int 0], .tup [.int 0]], .tup []], .tup [.int 1, .tup [.tup [.int 1]], .tup []], .tup [.int 1, .tup [.tup [.int 0]], .tup [.int 0, .int 0]]] := rfl
  rw [e] at an ⊢
  unfold lw3
  ((try simp -implicitDefEqProofs only [ev_fn, fin_rt, fin_nx, fin_err, ev_seq, sq_nx, sq_rt, sq_err, ev_cNil, ev_set, ev_expr, ev_rt, ev_rtN, ev_if, ev_for, ev_asg, gt_some, ev_onV, ev_onB, bd_ok, bd_err, sr_ok, sr_err, bk_bl, ik_int, of_some, ev_ret, ev_bind, ev_var, ev_C, ev_op, ev_call, ev_cb, ev_tst, ev_eTst, ev_and, ev_or, ev_not, ev_eIf, ev_bAnd, ev_bOr, ev_bNot, ev_chain, ev_nil, ev_cons, ev_tup, ev_lst, ev_new, ev_neg, ev_fld, ev_sl, ev_oNo, ev_oYes, ev_bTrue, ev_lc, ev_it, ev_rng, ev_enum, lt_int, le_int, gt_int, ge_int, add_int, sub_int, gN_ap, isNoneF, notNoneF, List.map_cons, List.map_nil, List.cons_append, List.nil_append, List.append_nil, List.length_cons, List.length_nil, List.length_map, wipeE, Nat.reduceAdd, Nat.reduceSub, Nat.reduceLeDiff, List.replicate, List.getElem?_cons_zero, List.getElem?_cons_succ, Option.join_some, Option.join_none, List.set_cons_zero, List.set_cons_succ, gc_same, decide_true, decide_false, ev_fldS, ev_put, ev_app, if_true, if_false, ite_true, ite_false, Bool.false_eq_true, Bool.not_true, Bool.not_false, reduceIte, sizeLine_eq, ev_notT, ev_tru, ev_rev, ev_srtSet, ev_fmtS, ev_joinS_nil, ev_joinS, ev_eqO, ev_strO]); repeat (simp -implicitDefEqProofs only [ev_addNew, an]; (try simp -implicitDefEqProofs only [ev_fn, fin_rt, fin_nx, fin_err, ev_seq, sq_nx, sq_rt, sq_err, ev_cNil, ev_set, ev_expr, ev_rt, ev_rtN, ev_if, ev_for, ev_asg, gt_some, ev_onV, ev_onB, bd_ok, bd_err, sr_ok, sr_err, bk_bl, ik_int, of_some, ev_ret, ev_bind, ev_var, ev_C, ev_op, ev_call, ev_cb, ev_tst, ev_eTst, ev_and, ev_or, ev_not, ev_eIf, ev_bAnd, ev_bOr, ev_bNot, ev_chain, ev_nil, ev_cons, ev_tup, ev_lst, ev_new, ev_neg, ev_fld, ev_sl, ev_oNo, ev_oYes, ev_bTrue, ev_lc, ev_it, ev_rng, ev_enum, lt_int, le_int, gt_int, ge_int, add_int, sub_int, gN_ap, isNoneF, notNoneF, List.map_cons, List.map_nil, List.cons_append, List.nil_append, List.append_nil, List.length_cons, List.length_nil, List.length_map, wipeE, Nat.reduceAdd, Nat.reduceSub, Nat.reduceLeDiff, List.replicate, List.getElem?_cons_zero, List.getElem?_cons_succ, Option.join_some, Option.join_none, List.set_cons_zero, List.set_cons_succ, gc_same, decide_true, decide_false, ev_fldS, ev_put, ev_app, if_true, if_false, ite_true, ite_false, Bool.false_eq_true, Bool.not_true, Bool.not_false, reduceIte, sizeLine_eq, ev_notT, ev_tru, ev_rev, ev_srtSet, ev_fmtS, ev_joinS_nil, ev_joinS, ev_eqO, ev_strO])))
theorem lw4_ok (e0 e1 e2 e4 e5 e6 e7 e8 : Option SV) (hb : SHp) (xs : List SV) (hz : xs.length ≤ 100) : lw4 a [e0, e1, e2, some (.ref hb.length), e4, e5, e6, e7, e8] (hb ++ [.lst xs]) = .nx [e0, e1, e2, some (.ref (hb.length + 1)), e4, e5, e6, e7, e8] (hb ++ [.lst xs] ++ [.lst (xs ++ g3.map tr)]) := by
  have an := an_ok (xs := xs) (ys := g3.map tr) hb (by simp [g3]; omega)
  have e : g3.map tr = [.tup [.int 1, .tup [.tup [.int 0], .tup [.int 0]], .tup [.int 1, .int 0]], .tup [.int 1, .tup [.tup [.int 0]], .rls [.int 0]], .tup [.int 1, .rls [.tup [.int 0]], .tup []], .tup [.bl true, .tup [.tup [.int 0]], .tup []]] := rfl
  rw [e] at an ⊢
  unfold lw4
  ((try simp -implicitDefEqProofs only [ev_fn, fin_rt, fin_nx, fin_err, ev_seq, sq_nx, sq_rt, sq_err, ev_cNil, ev_set, ev_expr, ev_rt, ev_rtN, ev_if, ev_for, ev_asg, gt_some, ev_onV, ev_onB, bd_ok, bd_err, sr_ok, sr_err, bk_bl, ik_int, of_some, ev_ret, ev_bind, ev_var, ev_C, ev_op, ev_call, ev_cb, ev_tst, ev_eTst, ev_and, ev_or, ev_not, ev_eIf, ev_bAnd, ev_bOr, ev_bNot, ev_chain, ev_nil, ev_cons, ev_tup, ev_lst, ev_new, ev_neg, ev_fld, ev_sl, ev_oNo, ev_oYes, ev_bTrue, ev_lc, ev_it, ev_rng, ev_enum, lt_int, le_int, gt_int, ge_int, add_int, sub_int, gN_ap, isNoneF, notNoneF, List.map_cons, List.map_nil, List.cons_append, List.nil_append, List.append_nil, List.length_cons, List.length_nil, List.length_map, wipeE, Nat.reduceAdd, Nat.reduceSub, Nat.reduceLeDiff, List.replicate, List.getElem?_cons_zero, List.getElem?_cons_succ, Option.join_some, Option.join_none, List.set_cons_zero, List.set_cons_succ, gc_same, decide_true, decide_false, ev_fldS, ev_put, ev_app, if_true, if_false, ite_true, ite_false, Bool.false_eq_true, Bool.not_true, Bool.not_false, reduceIte, sizeLine_eq, ev_notT, ev_tru, ev_rev, ev_srtSet, ev_fmtS, ev_joinS_nil, ev_joinS, ev_eqO, ev_strO]); repeat (simp -implicitDefEqProofs only [ev_addNew, an]; (try simp -implicitDefEqProofs only [ev_fn, fin_rt, fin_nx, fin_err, ev_seq, sq_nx, sq_rt, sq_err, ev_cNil, ev_set, ev_expr, ev_rt, ev_rtN, ev_if, ev_for, ev_asg, gt_some, ev_onV, ev_onB, bd_ok, bd_err, sr_ok, sr_err, bk_bl, ik_int, of_some, ev_ret, ev_bind, ev_var, ev_C, ev_op, ev_call, ev_cb, ev_tst, ev_eTst, ev_and, ev_or, ev_not, ev_eIf, ev_bAnd, ev_bOr, ev_bNot, ev_chain, ev_nil, ev_cons, ev_tup, ev_lst, ev_new, ev_neg, ev_fld, ev_sl, ev_oNo, ev_oYes, ev_bTrue, ev_lc, ev_it, ev_rng, ev_enum, lt_int, le_int, gt_int, ge_int, add_int, sub_int, gN_ap, isNoneF, notNoneF, List.map_cons, List.map_nil, List.cons_append, List.nil_append, List.append_nil, List.length_cons, List.length_nil, List.length_map, wipeE, Nat.reduceAdd, Nat.reduceSub, Nat.reduceLeDiff, List.replicate, List.getElem?_cons_zero, List.getElem?_cons_succ, Option.join_some, Option.join_none, List.set_cons_zero, List.set_cons_succ, gc_same, decide_true, decide_false, ev_fldS, ev_put, ev_app, if_true, if_false, ite_true, ite_false, Bool.false_eq_true, Bool.not_true, Bool.not_false, reduceIte, sizeLine_eq, ev_notT, ev_tru, ev_rev, ev_srtSet, ev_fmtS, ev_joinS_nil, ev_joinS, ev_eqO, ev_strO])))
theorem lw5_ok (e0 e1 e2 e4 e5 e6 e7 e8 : Option SV) (hb : SHp) (xs : List SV) (hz : xs.length ≤ 100) : lw5 a [e0, e1, e2, some (.ref hb.length), e4, e5, e6, e7, e8] (hb ++ [.lst xs]) = .nx [e0, e1, e2, some (.ref hb.length), e4, e5, e6, e7, e8] (hb ++ [.lst (xs ++ g4.map tr)]) := by
  have e : g4.map tr = [.tup [.int 1, .tup [.tup [.bl false]], .tup []]] := rfl
  rw [e]
  unfold lw5
  (try simp -implicitDefEqProofs only [ev_fn, fin_rt, fin_nx, fin_err, ev_seq, sq_nx, sq_rt, sq_err, ev_cNil, ev_set, ev_expr, ev_rt, ev_rtN, ev_if, ev_for, ev_asg, gt_some, ev_onV, ev_onB, bd_ok, bd_err, sr_ok, sr_err, bk_bl, ik_int, of_some, ev_ret, ev_bind, ev_var, ev_C, ev_op, ev_call, ev_cb, ev_tst, ev_eTst, ev_and, ev_or, ev_not, ev_eIf, ev_bAnd, ev_bOr, ev_bNot, ev_chain, ev_nil, ev_cons, ev_tup, ev_lst, ev_new, ev_neg, ev_fld, ev_sl, ev_oNo, ev_oYes, ev_bTrue, ev_lc, ev_it, ev_rng, ev_enum, lt_int, le_int, gt_int, ge_int, add_int, sub_int, gN_ap, isNoneF, notNoneF, List.map_cons, List.map_nil, List.cons_append, List.nil_append, List.append_nil, List.length_cons, List.length_nil, List.length_map, wipeE, Nat.reduceAdd, Nat.reduceSub, Nat.reduceLeDiff, List.replicate, List.getElem?_cons_zero, List.getElem?_cons_succ, Option.join_some, Option.join_none, List.set_cons_zero, List.set_cons_succ, gc_same, decide_true, decide_false, ev_fldS, ev_put, ev_app, if_true, if_false, ite_true, ite_false, Bool.false_eq_true, Bool.not_true, Bool.not_false, reduceIte, sizeLine_eq, ev_notT, ev_tru, ev_rev, ev_srtSet, ev_fmtS, ev_joinS_nil, ev_joinS, ev_eqO, ev_strO])
  rw [apG_0, aS_0, if_pos (by rw [sizeLine_eq]; omega)]
theorem lw6_ok (e0 e1 e2 e4 e5 e6 e7 e8 : Option SV) (hb : SHp) (xs : List SV) (hz : xs.length ≤ 100) : lw6 a [e0, e1, e2, some (.ref hb.length), e4, e5, e6, e7, e8] (hb ++ [.lst xs]) = .nx [e0, e1, e2, some (.ref (hb.length + 1)), e4, e5, e6, e7, e8] (hb ++ [.lst xs] ++ [.lst (xs ++ g5.map tr)]) := by
  have an := an_ok (xs := xs) (ys := g5.map tr) hb (by simp [g5]; omega)
  have e : g5.map tr = [.tup [.int 65, .tup [], .non], .tup [.int 1, .tup [], .non], .tup [.int 1, .tup [.tup [.int (-1)]], .non], .tup [.int 2, .tup [.tup [.int 0, .int 1, .int 0], .tup [.int 0, .int 1]], .tup [.int 0]]] := rfl
  rw [e] at an ⊢
  unfold lw6
  ((try simp -implicitDefEqProofs only [ev_fn, fin_rt, fin_nx, fin_err, ev_seq, sq_nx, sq_rt, sq_err, ev_cNil, ev_set, ev_expr, ev_rt, ev_rtN, ev_if, ev_for, ev_asg, gt_some, ev_onV, ev_onB, bd_ok, bd_err, sr_ok, sr_err, bk_bl, ik_int, of_some, ev_ret, ev_bind, ev_var, ev_C, ev_op, ev_call, ev_cb, ev_tst, ev_eTst, ev_and, ev_or, ev_not, ev_eIf, ev_bAnd, ev_bOr, ev_bNot, ev_chain, ev_nil, ev_cons, ev_tup, ev_lst, ev_new, ev_neg, ev_fld, ev_sl, ev_oNo, ev_oYes, ev_bTrue, ev_lc, ev_it, ev_rng, ev_enum, lt_int, le_int, gt_int, ge_int, add_int, sub_int, gN_ap, isNoneF, notNoneF, List.map_cons, List.map_nil, List.cons_append, List.nil_append, List.append_nil, List.length_cons, List.length_nil, List.length_map, wipeE, Nat.reduceAdd, Nat.reduceSub, Nat.reduceLeDiff, List.replicate, List.getElem?_cons_zero, List.getElem?_cons_succ, Option.join_some, Option.join_none, List.set_cons_zero, List.set_cons_succ, gc_same, decide_true, decide_false, ev_fldS, ev_put, ev_app, if_true, if_false, ite_true, ite_false, Bool.false_eq_true, Bool.not_true, Bool.not_false, reduceIte, sizeLine_eq, ev_notT, ev_tru, ev_rev, ev_srtSet, ev_fmtS, ev_joinS_nil, ev_joinS, ev_eqO, ev_strO]); repeat (simp -implicitDefEqProofs only [ev_addNew, an, neg1]; (try simp -implicitDefEqProofs only [ev_fn, fin_rt, fin_nx, fin_err, ev_seq, sq_nx, sq_rt, sq_err, ev_cNil, ev_set, ev_expr, ev_rt, ev_rtN, ev_if, ev_for, ev_asg, gt_some, ev_onV, ev_onB, bd_ok, bd_err, sr_ok, sr_err, bk_bl, ik_int, of_some, ev_ret, ev_bind, ev_var, ev_C, ev_op, ev_call, ev_cb, ev_tst, ev_eTst, ev_and, ev_or, ev_not, ev_eIf, ev_bAnd, ev_bOr, ev_bNot, ev_chain, ev_nil, ev_cons, ev_tup, ev_lst, ev_new, ev_neg, ev_fld, ev_sl, ev_oNo, ev_oYes, ev_bTrue, ev_lc, ev_it, ev_rng, ev_enum, lt_int, le_int, gt_int, ge_int, add_int, sub_int, gN_ap, isNoneF, notNoneF, List.map_cons, List.map_nil, List.cons_append, List.nil_append, List.append_nil, List.length_cons, List.length_nil, List.length_map, wipeE, Nat.reduceAdd, Nat.reduceSub, Nat.reduceLeDiff, List.replicate, List.getElem?_cons_zero, List.getElem?_cons_succ, Option.join_some, Option.join_none, List.set_cons_zero, List.set_cons_succ, gc_same, decide_true, decide_false, ev_fldS, ev_put, ev_app, if_true, if_false, ite_true, ite_false, Bool.false_eq_true, Bool.not_true, Bool.not_false, reduceIte, sizeLine_eq, ev_notT, ev_tru, ev_rev, ev_srtSet, ev_fmtS, ev_joinS_nil, ev_joinS, ev_eqO, ev_strO])))
theorem lw7_ok (e0 e1 e2 e4 e5 : Option SV) (hb : SHp) : lw7 a [e0, e1, e2, some (.ref hb.length), e4, e5, none, none, none] (hb ++ [.lst (gs.map tr)]) = .nx [e0, e1, e2, some (.ref hb.length), some (.rls faults), e5, none, none, none] (hb ++ [.lst (gs.map tr)]) := by
  have k : (Gd.lst hb.length (gs.map tr)).ok (hb ++ [.lst (gs.map tr)]) = true := by
    show (match (hb ++ [SO.lst (gs.map tr)])[hb.length]? with | some (.lst ys) => decide (ys = gs.map tr) | _ => false) = true
    rw [hp_get0]
    exact decide_eq_true rfl
  have it : itF (.ref hb.length) (hb ++ [.lst (gs.map tr)]) = .ok (gs.map tr, .lst hb.length (gs.map tr)) (hb ++ [.lst (gs.map tr)]) := by
    show (match (hb ++ [SO.lst (gs.map tr)])[hb.length]? with | some (.lst xs) => Res.ok (xs, Gd.lst hb.length xs) (hb ++ [SO.lst (gs.map tr)]) | _ => .stuck) = _
    rw [hp_get0]
  have cp := faults_comp a k e0 e1 e2 (some (.ref hb.length)) e4 e5 none none none gs [] gs_pl (by decide)
  rw [gs_f, List.nil_append] at cp
  unfold lw7
  ((try simp -implicitDefEqProofs only [ev_fn, fin_rt, fin_nx, fin_err, ev_seq, sq_nx, sq_rt, sq_err, ev_cNil, ev_set, ev_expr, ev_rt, ev_rtN, ev_if, ev_for, ev_asg, gt_some, ev_onV, ev_onB, bd_ok, bd_err, sr_ok, sr_err, bk_bl, ik_int, of_some, ev_ret, ev_bind, ev_var, ev_C, ev_op, ev_call, ev_cb, ev_tst, ev_eTst, ev_and, ev_or, ev_not, ev_eIf, ev_bAnd, ev_bOr, ev_bNot, ev_chain, ev_nil, ev_cons, ev_tup, ev_lst, ev_new, ev_neg, ev_fld, ev_sl, ev_oNo, ev_oYes, ev_bTrue, ev_lc, ev_it, ev_rng, ev_enum, lt_int, le_int, gt_int, ge_int, add_int, sub_int, gN_ap, isNoneF, notNoneF, List.map_cons, List.map_nil, List.cons_append, List.nil_append, List.append_nil, List.length_cons, List.length_nil, List.length_map, wipeE, Nat.reduceAdd, Nat.reduceSub, Nat.reduceLeDiff, List.replicate, List.getElem?_cons_zero, List.getElem?_cons_succ, Option.join_some, Option.join_none, List.set_cons_zero, List.set_cons_succ, gc_same, decide_true, decide_false, ev_fldS, ev_put, ev_app, if_true, if_false, ite_true, ite_false, Bool.false_eq_true, Bool.not_true, Bool.not_false, reduceIte, sizeLine_eq, ev_notT, ev_tru, ev_rev, ev_srtSet, ev_fmtS, ev_joinS_nil, ev_joinS, ev_eqO, ev_strO]); repeat (simp -implicitDefEqProofs only [it, cp]; (try simp -implicitDefEqProofs only [ev_fn, fin_rt, fin_nx, fin_err, ev_seq, sq_nx, sq_rt, sq_err, ev_cNil, ev_set, ev_expr, ev_rt, ev_rtN, ev_if, ev_for, ev_asg, gt_some, ev_onV, ev_onB, bd_ok, bd_err, sr_ok, sr_err, bk_bl, ik_int, of_some, ev_ret, ev_bind, ev_var, ev_C, ev_op, ev_call, ev_cb, ev_tst, ev_eTst, ev_and, ev_or, ev_not, ev_eIf, ev_bAnd, ev_bOr, ev_bNot, ev_chain, ev_nil, ev_cons, ev_tup, ev_lst, ev_new, ev_neg, ev_fld, ev_sl, ev_oNo, ev_oYes, ev_bTrue, ev_lc, ev_it, ev_rng, ev_enum, lt_int, le_int, gt_int, ge_int, add_int, sub_int, gN_ap, isNoneF, notNoneF, List.map_cons, List.map_nil, List.cons_append, List.nil_append, List.append_nil, List.length_cons, List.length_nil, List.length_map, wipeE, Nat.reduceAdd, Nat.reduceSub, Nat.reduceLeDiff, List.replicate, List.getElem?_cons_zero, List.getElem?_cons_succ, Option.join_some, Option.join_none, List.set_cons_zero, List.set_cons_succ, gc_same, decide_true, decide_false, ev_fldS, ev_put, ev_app, if_true, if_false, ite_true, ite_false, Bool.false_eq_true, Bool.not_true, Bool.not_false, reduceIte, sizeLine_eq, ev_notT, ev_tru, ev_rev, ev_srtSet, ev_fmtS, ev_joinS_nil, ev_joinS, ev_eqO, ev_strO])))
def fA : List SV := [.non, wl, .non, wss, wl, wss, ws 1, ws 0, wa]
def fB : List SV := [wa, wa, wss, wl, ws 0, wl, wss]
def fC : List SV := [ws 0, ws 0]
theorem add_rls {xs ys : List SV} (hz : xs.length + ys.length ≤ 1000) (h : SHp) : addF (.rls xs) (.rls ys) h = some (.rls (xs ++ ys)) := by
  simp only [addF]; rw [if_pos (by rw [sizeLine_eq]; omega)]
theorem lw8_ok (e0 e1 e2 e3 e4 e5 e6 e7 e8 : Option SV) (h : SHp) : lw8 a [e0, e1, e2, e3, e4, e5, e6, e7, e8] h = .nx [e0, e1, e2, e3, e4, some (.rls fA), e6, e7, e8] h := by
  unfold lw8 fA wl wss wa ws
  (try simp -implicitDefEqProofs only [ev_fn, fin_rt, fin_nx, fin_err, ev_seq, sq_nx, sq_rt, sq_err, ev_cNil, ev_set, ev_expr, ev_rt, ev_rtN, ev_if, ev_for, ev_asg, gt_some, ev_onV, ev_onB, bd_ok, bd_err, sr_ok, sr_err, bk_bl, ik_int, of_some, ev_ret, ev_bind, ev_var, ev_C, ev_op, ev_call, ev_cb, ev_tst, ev_eTst, ev_and, ev_or, ev_not, ev_eIf, ev_bAnd, ev_bOr, ev_bNot, ev_chain, ev_nil, ev_cons, ev_tup, ev_lst, ev_new, ev_neg, ev_fld, ev_sl, ev_oNo, ev_oYes, ev_bTrue, ev_lc, ev_it, ev_rng, ev_enum, lt_int, le_int, gt_int, ge_int, add_int, sub_int, gN_ap, isNoneF, notNoneF, List.map_cons, List.map_nil, List.cons_append, List.nil_append, List.append_nil, List.length_cons, List.length_nil, List.length_map, wipeE, Nat.reduceAdd, Nat.reduceSub, Nat.reduceLeDiff, List.replicate, List.getElem?_cons_zero, List.getElem?_cons_succ, Option.join_some, Option.join_none, List.set_cons_zero, List.set_cons_succ, gc_same, decide_true, decide_false, ev_fldS, ev_put, ev_app, if_true, if_false, ite_true, ite_false, Bool.false_eq_true, Bool.not_true, Bool.not_false, reduceIte, sizeLine_eq, ev_notT, ev_tru, ev_rev, ev_srtSet, ev_fmtS, ev_joinS_nil, ev_joinS, ev_eqO, ev_strO])
theorem lw9_ok (e0 e1 e2 e3 e4 e6 e7 e8 : Option SV) (h : SHp) : lw9 a [e0, e1, e2, e3, e4, some (.rls fA), e6, e7, e8] h = .nx [e0, e1, e2, e3, e4, some (.rls (fA ++ fB)), e6, e7, e8] h := by
  have ad := add_rls (xs := fA) (ys := fB) (by decide) h
  unfold fB wl wss wa ws at ad ⊢
  unfold lw9
  ((try simp -implicitDefEqProofs only [ev_fn, fin_rt, fin_nx, fin_err, ev_seq, sq_nx, sq_rt, sq_err, ev_cNil, ev_set, ev_expr, ev_rt, ev_rtN, ev_if, ev_for, ev_asg, gt_some, ev_onV, ev_onB, bd_ok, bd_err, sr_ok, sr_err, bk_bl, ik_int, of_some, ev_ret, ev_bind, ev_var, ev_C, ev_op, ev_call, ev_cb, ev_tst, ev_eTst, ev_and, ev_or, ev_not, ev_eIf, ev_bAnd, ev_bOr, ev_bNot, ev_chain, ev_nil, ev_cons, ev_tup, ev_lst, ev_new, ev_neg, ev_fld, ev_sl, ev_oNo, ev_oYes, ev_bTrue, ev_lc, ev_it, ev_rng, ev_enum, lt_int, le_int, gt_int, ge_int, add_int, sub_int, gN_ap, isNoneF, notNoneF, List.map_cons, List.map_nil, List.cons_append, List.nil_append, List.append_nil, List.length_cons, List.length_nil, List.length_map, wipeE, Nat.reduceAdd, Nat.reduceSub, Nat.reduceLeDiff, List.replicate, List.getElem?_cons_zero, List.getElem?_cons_succ, Option.join_some, Option.join_none, List.set_cons_zero, List.set_cons_succ, gc_same, decide_true, decide_false, ev_fldS, ev_put, ev_app, if_true, if_false, ite_true, ite_false, Bool.false_eq_true, Bool.not_true, Bool.not_false, reduceIte, sizeLine_eq, ev_notT, ev_tru, ev_rev, ev_srtSet, ev_fmtS, ev_joinS_nil, ev_joinS, ev_eqO, ev_strO]); repeat (simp -implicitDefEqProofs only [ad]; (try simp -implicitDefEqProofs only [ev_fn, fin_rt, fin_nx, fin_err, ev_seq, sq_nx, sq_rt, sq_err, ev_cNil, ev_set, ev_expr, ev_rt, ev_rtN, ev_if, ev_for, ev_asg, gt_some, ev_onV, ev_onB, bd_ok, bd_err, sr_ok, sr_err, bk_bl, ik_int, of_some, ev_ret, ev_bind, ev_var, ev_C, ev_op, ev_call, ev_cb, ev_tst, ev_eTst, ev_and, ev_or, ev_not, ev_eIf, ev_bAnd, ev_bOr, ev_bNot, ev_chain, ev_nil, ev_cons, ev_tup, ev_lst, ev_new, ev_neg, ev_fld, ev_sl, ev_oNo, ev_oYes, ev_bTrue, ev_lc, ev_it, ev_rng, ev_enum, lt_int, le_int, gt_int, ge_int, add_int, sub_int, gN_ap, isNoneF, notNoneF, List.map_cons, List.map_nil, List.cons_append, List.nil_append, List.append_nil, List.length_cons, List.length_nil, List.length_map, wipeE, Nat.reduceAdd, Nat.reduceSub, Nat.reduceLeDiff, List.replicate, List.getElem?_cons_zero, List.getElem?_cons_succ, Option.join_some, Option.join_none, List.set_cons_zero, List.set_cons_succ, gc_same, decide_true, decide_false, ev_fldS, ev_put, ev_app, if_true, if_false, ite_true, ite_false, Bool.false_eq_true, Bool.not_true, Bool.not_false, reduceIte, sizeLine_eq, ev_notT, ev_tru, ev_rev, ev_srtSet, ev_fmtS, ev_joinS_nil, ev_joinS, ev_eqO, ev_strO])))
theorem lw10_ok (e0 e1 e2 e3 e6 e7 e8 : Option SV) (h : SHp) : lw10 a [e0, e1, e2, e3, some (.rls faults), some (.rls (fA ++ fB)), e6, e7, e8] h = .rt (.bl true) h := by
  have ad := add_rls (xs := fA ++ fB) (ys := fC) (by decide) h
  have e : fA ++ fB ++ fC = faults := rfl
  rw [e] at ad
  unfold fC ws at ad
  have fe := faults_eq h
  have ft := eqF_tupI false [64, 512, 2000] [64, 512, 2000] h
  simp only [List.map_cons, List.map_nil] at ft
  unfold lw10
  ((try simp -implicitDefEqProofs only [ev_fn, fin_rt, fin_nx, fin_err, ev_seq, sq_nx, sq_rt, sq_err, ev_cNil, ev_set, ev_expr, ev_rt, ev_rtN, ev_if, ev_for, ev_asg, gt_some, ev_onV, ev_onB, bd_ok, bd_err, sr_ok, sr_err, bk_bl, ik_int, of_some, ev_ret, ev_bind, ev_var, ev_C, ev_op, ev_call, ev_cb, ev_tst, ev_eTst, ev_and, ev_or, ev_not, ev_eIf, ev_bAnd, ev_bOr, ev_bNot, ev_chain, ev_nil, ev_cons, ev_tup, ev_lst, ev_new, ev_neg, ev_fld, ev_sl, ev_oNo, ev_oYes, ev_bTrue, ev_lc, ev_it, ev_rng, ev_enum, lt_int, le_int, gt_int, ge_int, add_int, sub_int, gN_ap, isNoneF, notNoneF, List.map_cons, List.map_nil, List.cons_append, List.nil_append, List.append_nil, List.length_cons, List.length_nil, List.length_map, wipeE, Nat.reduceAdd, Nat.reduceSub, Nat.reduceLeDiff, List.replicate, List.getElem?_cons_zero, List.getElem?_cons_succ, Option.join_some, Option.join_none, List.set_cons_zero, List.set_cons_succ, gc_same, decide_true, decide_false, ev_fldS, ev_put, ev_app, if_true, if_false, ite_true, ite_false, Bool.false_eq_true, Bool.not_true, Bool.not_false, reduceIte, sizeLine_eq, ev_notT, ev_tru, ev_rev, ev_srtSet, ev_fmtS, ev_joinS_nil, ev_joinS, ev_eqO, ev_strO]); repeat (simp -implicitDefEqProofs only [ad, fe, ft]; (try simp -implicitDefEqProofs only [ev_fn, fin_rt, fin_nx, fin_err, ev_seq, sq_nx, sq_rt, sq_err, ev_cNil, ev_set, ev_expr, ev_rt, ev_rtN, ev_if, ev_for, ev_asg, gt_some, ev_onV, ev_onB, bd_ok, bd_err, sr_ok, sr_err, bk_bl, ik_int, of_some, ev_ret, ev_bind, ev_var, ev_C, ev_op, ev_call, ev_cb, ev_tst, ev_eTst, ev_and, ev_or, ev_not, ev_eIf, ev_bAnd, ev_bOr, ev_bNot, ev_chain, ev_nil, ev_cons, ev_tup, ev_lst, ev_new, ev_neg, ev_fld, ev_sl, ev_oNo, ev_oYes, ev_bTrue, ev_lc, ev_it, ev_rng, ev_enum, lt_int, le_int, gt_int, ge_int, add_int, sub_int, gN_ap, isNoneF, notNoneF, List.map_cons, List.map_nil, List.cons_append, List.nil_append, List.append_nil, List.length_cons, List.length_nil, List.length_map, wipeE, Nat.reduceAdd, Nat.reduceSub, Nat.reduceLeDiff, List.replicate, List.getElem?_cons_zero, List.getElem?_cons_succ, Option.join_some, Option.join_none, List.set_cons_zero, List.set_cons_succ, gc_same, decide_true, decide_false, ev_fldS, ev_put, ev_app, if_true, if_false, ite_true, ite_false, Bool.false_eq_true, Bool.not_true, Bool.not_false, reduceIte, sizeLine_eq, ev_notT, ev_tru, ev_rev, ev_srtSet, ev_fmtS, ev_joinS_nil, ev_joinS, ev_eqO, ev_strO])))
theorem main (a : Ads) (ns : List Int) (hl : ns.length ≤ 63) : ∃ h', D_law a [.frl (ns.map SV.int)] [] = .ok (.bl true) h' := by
  obtain ⟨hb, e1, e2, q1⟩ := lw1_ok a ns
  have fe : fnD true 9 (B_law a) [.frl (ns.map SV.int)] [] = fin true [] (B_law a [some (.frl (ns.map SV.int)), none, none, none, none, none, none, none, none] []) := ev_fn
  have l1 : (g1.map tr).length ≤ 100 := by simp [g1]
  have l2 : (g1.map tr ++ g2.map tr).length ≤ 100 := by simp [g1, g2]
  have l3 : (g1.map tr ++ g2.map tr ++ g3.map tr).length ≤ 100 := by simp [g1, g2, g3]
  have l4 : (g1.map tr ++ g2.map tr ++ g3.map tr ++ g4.map tr).length ≤ 100 := by simp [g1, g2, g3, g4]
  have eg : g1.map tr ++ g2.map tr ++ g3.map tr ++ g4.map tr ++ g5.map tr = gs.map tr := by unfold gs; simp only [List.map_append]
  have n1 : hb.length + 1 = (hb ++ [SO.lst (g1.map tr)]).length := by simp
  have n2 : (hb ++ [SO.lst (g1.map tr)]).length + 1 = (hb ++ [SO.lst (g1.map tr)] ++ [SO.lst (g1.map tr ++ g2.map tr)]).length := by simp
  have n4 : (hb ++ [SO.lst (g1.map tr)] ++ [SO.lst (g1.map tr ++ g2.map tr)]).length + 1 = (hb ++ [SO.lst (g1.map tr)] ++ [SO.lst (g1.map tr ++ g2.map tr)] ++ [SO.lst (g1.map tr ++ g2.map tr ++ g3.map tr ++ g4.map tr)]).length := by simp
  refine ⟨[], ?_⟩
  unfold D_law
  rw [fe, B_law_eq, ev_seq, q1, sq_nx, ev_seq, lw2_ok, sq_nx, ev_seq, lw3_ok (hz := l1), sq_nx, n1, ev_seq, lw4_ok (hz := l2), sq_nx, n2, ev_seq, lw5_ok (hz := l3), sq_nx, ev_seq, lw6_ok (hz := l4), sq_nx, n4, eg, ev_seq, lw7_ok, sq_nx, ev_seq, lw8_ok, sq_nx, ev_seq, lw9_ok, sq_nx, lw10_ok, fin_rt]
  exact gc_app (h := []) (by simp [SV.okr])
end My

namespace My
open PySem L2 Sim
/-! ### what the top has written -/
theorem all_mk {l : PySem.W.OpenLaw} {w : World} {K : PySem.W.Frag} {h : Heap} {mg : Str → Option Value} {fa : Addr} (X : K.In h) (G : h.Ns mainGlobals mg) (hfa : mg "law" = some (.ref fa))
    {f_u_law_bag : Addr} {oc_u_law_bag kV_u_law_bag dc_u_law_bag pm_u_law_bag cd_u_law_bag ct_u_law_bag : Value} {od_u_law_bag an_u_law_bag : Option Addr} {sl_u_law_bag : Array (Option Value)}
    {f_m_Reader_eq : Addr} {oc_m_Reader_eq kV_m_Reader_eq dc_m_Reader_eq pm_m_Reader_eq cd_m_Reader_eq ct_m_Reader_eq : Value} {od_m_Reader_eq an_m_Reader_eq : Option Addr} {sl_m_Reader_eq : Array (Option Value)}
    {f_are_integers : Addr} {oc_are_integers kV_are_integers dc_are_integers pm_are_integers cd_are_integers ct_are_integers : Value} {od_are_integers an_are_integers : Option Addr} {sl_are_integers : Array (Option Value)}
    {f_are_indices : Addr} {oc_are_indices kV_are_indices dc_are_indices pm_are_indices cd_are_indices ct_are_indices : Value} {od_are_indices an_are_indices : Option Addr} {sl_are_indices : Array (Option Value)}
    {f_u_is_step : Addr} {oc_u_is_step kV_u_is_step dc_u_is_step pm_u_is_step cd_u_is_step ct_u_is_step : Value} {od_u_is_step an_u_is_step : Option Addr} {sl_u_is_step : Array (Option Value)}
    {f_is_integer : Addr} {oc_is_integer kV_is_integer dc_is_integer pm_is_integer cd_is_integer ct_is_integer : Value} {od_is_integer an_is_integer : Option Addr} {sl_is_integer : Array (Option Value)}
    {f_is_between : Addr} {oc_is_between kV_is_between dc_is_between pm_is_between cd_is_between ct_is_between : Value} {od_is_between an_is_between : Option Addr} {sl_is_between : Array (Option Value)}
    {f_is_ascending : Addr} {oc_is_ascending kV_is_ascending dc_is_ascending pm_is_ascending cd_is_ascending ct_is_ascending : Value} {od_is_ascending an_is_ascending : Option Addr} {sl_is_ascending : Array (Option Value)}
    {f_is_index_tuple : Addr} {oc_is_index_tuple kV_is_index_tuple dc_is_index_tuple pm_is_index_tuple cd_is_index_tuple ct_is_index_tuple : Value} {od_is_index_tuple an_is_index_tuple : Option Addr} {sl_is_index_tuple : Array (Option Value)}
    {f_reader_fault : Addr} {oc_reader_fault kV_reader_fault dc_reader_fault pm_reader_fault cd_reader_fault ct_reader_fault : Value} {od_reader_fault an_reader_fault : Option Addr} {sl_reader_fault : Array (Option Value)}
    {f_m_Reader_init : Addr} {oc_m_Reader_init kV_m_Reader_init dc_m_Reader_init pm_m_Reader_init cd_m_Reader_init ct_m_Reader_init : Value} {od_m_Reader_init an_m_Reader_init : Option Addr} {sl_m_Reader_init : Array (Option Value)}
    {f_m_Reader_str : Addr} {oc_m_Reader_str kV_m_Reader_str dc_m_Reader_str pm_m_Reader_str cd_m_Reader_str ct_m_Reader_str : Value} {od_m_Reader_str an_m_Reader_str : Option Addr} {sl_m_Reader_str : Array (Option Value)}
    {f_u_law_pick : Addr} {oc_u_law_pick kV_u_law_pick dc_u_law_pick pm_u_law_pick cd_u_law_pick ct_u_law_pick : Value} {od_u_law_pick an_u_law_pick : Option Addr} {sl_u_law_pick : Array (Option Value)}
    {f_u_law_one_of : Addr} {oc_u_law_one_of kV_u_law_one_of dc_u_law_one_of pm_u_law_one_of cd_u_law_one_of ct_u_law_one_of : Value} {od_u_law_one_of an_u_law_one_of : Option Addr} {sl_u_law_one_of : Array (Option Value)}
    {f_u_law_bent : Addr} {oc_u_law_bent kV_u_law_bent dc_u_law_bent pm_u_law_bent cd_u_law_bent ct_u_law_bent : Value} {od_u_law_bent an_u_law_bent : Option Addr} {sl_u_law_bent : Array (Option Value)}
    {f_u_law_is_from : Addr} {oc_u_law_is_from kV_u_law_is_from dc_u_law_is_from pm_u_law_is_from cd_u_law_is_from ct_u_law_is_from : Value} {od_u_law_is_from an_u_law_is_from : Option Addr} {sl_u_law_is_from : Array (Option Value)}
    {f_u_law_fault : Addr} {oc_u_law_fault kV_u_law_fault dc_u_law_fault pm_u_law_fault cd_u_law_fault ct_u_law_fault : Value} {od_u_law_fault an_u_law_fault : Option Addr} {sl_u_law_fault : Array (Option Value)}
    {f_u_law_is_right : Addr} {oc_u_law_is_right kV_u_law_is_right dc_u_law_is_right pm_u_law_is_right cd_u_law_is_right ct_u_law_is_right : Value} {od_u_law_is_right an_u_law_is_right : Option Addr} {sl_u_law_is_right : Array (Option Value)}
    {f_u_law_re_drawn : Addr} {oc_u_law_re_drawn kV_u_law_re_drawn dc_u_law_re_drawn pm_u_law_re_drawn cd_u_law_re_drawn ct_u_law_re_drawn : Value} {od_u_law_re_drawn an_u_law_re_drawn : Option Addr} {sl_u_law_re_drawn : Array (Option Value)}
    {f_u_law_right : Addr} {oc_u_law_right kV_u_law_right dc_u_law_right pm_u_law_right cd_u_law_right ct_u_law_right : Value} {od_u_law_right an_u_law_right : Option Addr} {sl_u_law_right : Array (Option Value)}
    {f_law : Addr} {oc_law kV_law dc_law pm_law cd_law ct_law : Value} {od_law an_law : Option Addr} {sl_law : Array (Option Value)}
    {C_InvalidReader : Addr}
    {C_Reader : Addr}
    {tk_MOST_LETTERS : Tok}
    {tk_MOST_STATES : Tok}
    {tk_MOST_WORD : Tok}
    (ac_InvalidReader : PySem.W.nsIn K mainGlobals "InvalidReader" = some (some (.ref C_InvalidReader)))
    (ac_Reader : PySem.W.nsIn K mainGlobals "Reader" = some (some (.ref C_Reader)))
    (a_u_law_bag : PySem.W.nsIn K mainGlobals "_law_bag" = some (some (.ref f_u_law_bag)))
    (l_u_law_bag : K.lookup f_u_law_bag = some ⟨oc_u_law_bag, od_u_law_bag, .func (PySem.W.fnOf "_law_bag" "_law_bag" (defArgs s_u_law_bag) (defBody s_u_law_bag) (defScope s_u_law_bag) .none kV_u_law_bag dc_u_law_bag pm_u_law_bag an_u_law_bag cd_u_law_bag ct_u_law_bag), sl_u_law_bag⟩)
    (c_u_law_bag : PySem.W.codeIn K cd_u_law_bag "_law_bag" = true)
    (k_u_law_bag : PySem.W.keepIn K (.ref f_u_law_bag) = true)
    (a_m_Reader_eq : PySem.W.findIn K (.ref C_Reader) "__eq__" = some (some (.ref f_m_Reader_eq)))
    (i_m_Reader_eq : PySem.W.isFn K (.ref f_m_Reader_eq) = true)
    (l_m_Reader_eq : K.lookup f_m_Reader_eq = some ⟨oc_m_Reader_eq, od_m_Reader_eq, .func (PySem.W.fnOf "__eq__" "Reader.__eq__" (defArgs s_m_Reader_eq) (defBody s_m_Reader_eq) (defScope s_m_Reader_eq) .none kV_m_Reader_eq dc_m_Reader_eq pm_m_Reader_eq an_m_Reader_eq cd_m_Reader_eq ct_m_Reader_eq), sl_m_Reader_eq⟩)
    (c_m_Reader_eq : PySem.W.codeIn K cd_m_Reader_eq "Reader.__eq__" = true)
    (k_m_Reader_eq : PySem.W.keepIn K (.ref f_m_Reader_eq) = true)
    (a_are_integers : PySem.W.nsIn K mainGlobals "are_integers" = some (some (.ref f_are_integers)))
    (l_are_integers : K.lookup f_are_integers = some ⟨oc_are_integers, od_are_integers, .func (PySem.W.fnOf "are_integers" "are_integers" (defArgs s_are_integers) (defBody s_are_integers) (defScope s_are_integers) .none kV_are_integers dc_are_integers pm_are_integers an_are_integers cd_are_integers ct_are_integers), sl_are_integers⟩)
    (c_are_integers : PySem.W.codeIn K cd_are_integers "are_integers" = true)
    (k_are_integers : PySem.W.keepIn K (.ref f_are_integers) = true)
    (a_are_indices : PySem.W.nsIn K mainGlobals "are_indices" = some (some (.ref f_are_indices)))
    (l_are_indices : K.lookup f_are_indices = some ⟨oc_are_indices, od_are_indices, .func (PySem.W.fnOf "are_indices" "are_indices" (defArgs s_are_indices) (defBody s_are_indices) (defScope s_are_indices) .none kV_are_indices dc_are_indices pm_are_indices an_are_indices cd_are_indices ct_are_indices), sl_are_indices⟩)
    (c_are_indices : PySem.W.codeIn K cd_are_indices "are_indices" = true)
    (k_are_indices : PySem.W.keepIn K (.ref f_are_indices) = true)
    (a_u_is_step : PySem.W.nsIn K mainGlobals "_is_step" = some (some (.ref f_u_is_step)))
    (l_u_is_step : K.lookup f_u_is_step = some ⟨oc_u_is_step, od_u_is_step, .func (PySem.W.fnOf "_is_step" "_is_step" (defArgs s_u_is_step) (defBody s_u_is_step) (defScope s_u_is_step) .none kV_u_is_step dc_u_is_step pm_u_is_step an_u_is_step cd_u_is_step ct_u_is_step), sl_u_is_step⟩)
    (c_u_is_step : PySem.W.codeIn K cd_u_is_step "_is_step" = true)
    (k_u_is_step : PySem.W.keepIn K (.ref f_u_is_step) = true)
    (a_is_integer : PySem.W.nsIn K mainGlobals "is_integer" = some (some (.ref f_is_integer)))
    (l_is_integer : K.lookup f_is_integer = some ⟨oc_is_integer, od_is_integer, .func (PySem.W.fnOf "is_integer" "is_integer" (defArgs s_is_integer) (defBody s_is_integer) (defScope s_is_integer) .none kV_is_integer dc_is_integer pm_is_integer an_is_integer cd_is_integer ct_is_integer), sl_is_integer⟩)
    (c_is_integer : PySem.W.codeIn K cd_is_integer "is_integer" = true)
    (k_is_integer : PySem.W.keepIn K (.ref f_is_integer) = true)
    (a_is_between : PySem.W.nsIn K mainGlobals "is_between" = some (some (.ref f_is_between)))
    (l_is_between : K.lookup f_is_between = some ⟨oc_is_between, od_is_between, .func (PySem.W.fnOf "is_between" "is_between" (defArgs s_is_between) (defBody s_is_between) (defScope s_is_between) .none kV_is_between dc_is_between pm_is_between an_is_between cd_is_between ct_is_between), sl_is_between⟩)
    (c_is_between : PySem.W.codeIn K cd_is_between "is_between" = true)
    (k_is_between : PySem.W.keepIn K (.ref f_is_between) = true)
    (a_is_ascending : PySem.W.nsIn K mainGlobals "is_ascending" = some (some (.ref f_is_ascending)))
    (l_is_ascending : K.lookup f_is_ascending = some ⟨oc_is_ascending, od_is_ascending, .func (PySem.W.fnOf "is_ascending" "is_ascending" (defArgs s_is_ascending) (defBody s_is_ascending) (defScope s_is_ascending) .none kV_is_ascending dc_is_ascending pm_is_ascending an_is_ascending cd_is_ascending ct_is_ascending), sl_is_ascending⟩)
    (c_is_ascending : PySem.W.codeIn K cd_is_ascending "is_ascending" = true)
    (k_is_ascending : PySem.W.keepIn K (.ref f_is_ascending) = true)
    (a_is_index_tuple : PySem.W.nsIn K mainGlobals "is_index_tuple" = some (some (.ref f_is_index_tuple)))
    (l_is_index_tuple : K.lookup f_is_index_tuple = some ⟨oc_is_index_tuple, od_is_index_tuple, .func (PySem.W.fnOf "is_index_tuple" "is_index_tuple" (defArgs s_is_index_tuple) (defBody s_is_index_tuple) (defScope s_is_index_tuple) .none kV_is_index_tuple dc_is_index_tuple pm_is_index_tuple an_is_index_tuple cd_is_index_tuple ct_is_index_tuple), sl_is_index_tuple⟩)
    (c_is_index_tuple : PySem.W.codeIn K cd_is_index_tuple "is_index_tuple" = true)
    (k_is_index_tuple : PySem.W.keepIn K (.ref f_is_index_tuple) = true)
    (a_reader_fault : PySem.W.nsIn K mainGlobals "reader_fault" = some (some (.ref f_reader_fault)))
    (l_reader_fault : K.lookup f_reader_fault = some ⟨oc_reader_fault, od_reader_fault, .func (PySem.W.fnOf "reader_fault" "reader_fault" (defArgs s_reader_fault) (defBody s_reader_fault) (defScope s_reader_fault) .none kV_reader_fault dc_reader_fault pm_reader_fault an_reader_fault cd_reader_fault ct_reader_fault), sl_reader_fault⟩)
    (c_reader_fault : PySem.W.codeIn K cd_reader_fault "reader_fault" = true)
    (k_reader_fault : PySem.W.keepIn K (.ref f_reader_fault) = true)
    (a_m_Reader_init : PySem.W.findIn K (.ref C_Reader) "__init__" = some (some (.ref f_m_Reader_init)))
    (i_m_Reader_init : PySem.W.isFn K (.ref f_m_Reader_init) = true)
    (l_m_Reader_init : K.lookup f_m_Reader_init = some ⟨oc_m_Reader_init, od_m_Reader_init, .func (PySem.W.fnOf "__init__" "Reader.__init__" (defArgs s_m_Reader_init) (defBody s_m_Reader_init) (defScope s_m_Reader_init) .none kV_m_Reader_init dc_m_Reader_init pm_m_Reader_init an_m_Reader_init cd_m_Reader_init ct_m_Reader_init), sl_m_Reader_init⟩)
    (c_m_Reader_init : PySem.W.codeIn K cd_m_Reader_init "Reader.__init__" = true)
    (k_m_Reader_init : PySem.W.keepIn K (.ref f_m_Reader_init) = true)
    (a_m_Reader_str : PySem.W.findIn K (.ref C_Reader) "__str__" = some (some (.ref f_m_Reader_str)))
    (i_m_Reader_str : PySem.W.isFn K (.ref f_m_Reader_str) = true)
    (l_m_Reader_str : K.lookup f_m_Reader_str = some ⟨oc_m_Reader_str, od_m_Reader_str, .func (PySem.W.fnOf "__str__" "Reader.__str__" (defArgs s_m_Reader_str) (defBody s_m_Reader_str) (defScope s_m_Reader_str) .none kV_m_Reader_str dc_m_Reader_str pm_m_Reader_str an_m_Reader_str cd_m_Reader_str ct_m_Reader_str), sl_m_Reader_str⟩)
    (c_m_Reader_str : PySem.W.codeIn K cd_m_Reader_str "Reader.__str__" = true)
    (k_m_Reader_str : PySem.W.keepIn K (.ref f_m_Reader_str) = true)
    (a_u_law_pick : PySem.W.nsIn K mainGlobals "_law_pick" = some (some (.ref f_u_law_pick)))
    (l_u_law_pick : K.lookup f_u_law_pick = some ⟨oc_u_law_pick, od_u_law_pick, .func (PySem.W.fnOf "_law_pick" "_law_pick" (defArgs s_u_law_pick) (defBody s_u_law_pick) (defScope s_u_law_pick) .none kV_u_law_pick dc_u_law_pick pm_u_law_pick an_u_law_pick cd_u_law_pick ct_u_law_pick), sl_u_law_pick⟩)
    (c_u_law_pick : PySem.W.codeIn K cd_u_law_pick "_law_pick" = true)
    (k_u_law_pick : PySem.W.keepIn K (.ref f_u_law_pick) = true)
    (a_u_law_one_of : PySem.W.nsIn K mainGlobals "_law_one_of" = some (some (.ref f_u_law_one_of)))
    (l_u_law_one_of : K.lookup f_u_law_one_of = some ⟨oc_u_law_one_of, od_u_law_one_of, .func (PySem.W.fnOf "_law_one_of" "_law_one_of" (defArgs s_u_law_one_of) (defBody s_u_law_one_of) (defScope s_u_law_one_of) .none kV_u_law_one_of dc_u_law_one_of pm_u_law_one_of an_u_law_one_of cd_u_law_one_of ct_u_law_one_of), sl_u_law_one_of⟩)
    (c_u_law_one_of : PySem.W.codeIn K cd_u_law_one_of "_law_one_of" = true)
    (k_u_law_one_of : PySem.W.keepIn K (.ref f_u_law_one_of) = true)
    (a_u_law_bent : PySem.W.nsIn K mainGlobals "_law_bent" = some (some (.ref f_u_law_bent)))
    (l_u_law_bent : K.lookup f_u_law_bent = some ⟨oc_u_law_bent, od_u_law_bent, .func (PySem.W.fnOf "_law_bent" "_law_bent" (defArgs s_u_law_bent) (defBody s_u_law_bent) (defScope s_u_law_bent) .none kV_u_law_bent dc_u_law_bent pm_u_law_bent an_u_law_bent cd_u_law_bent ct_u_law_bent), sl_u_law_bent⟩)
    (c_u_law_bent : PySem.W.codeIn K cd_u_law_bent "_law_bent" = true)
    (k_u_law_bent : PySem.W.keepIn K (.ref f_u_law_bent) = true)
    (a_u_law_is_from : PySem.W.nsIn K mainGlobals "_law_is_from" = some (some (.ref f_u_law_is_from)))
    (l_u_law_is_from : K.lookup f_u_law_is_from = some ⟨oc_u_law_is_from, od_u_law_is_from, .func (PySem.W.fnOf "_law_is_from" "_law_is_from" (defArgs s_u_law_is_from) (defBody s_u_law_is_from) (defScope s_u_law_is_from) .none kV_u_law_is_from dc_u_law_is_from pm_u_law_is_from an_u_law_is_from cd_u_law_is_from ct_u_law_is_from), sl_u_law_is_from⟩)
    (c_u_law_is_from : PySem.W.codeIn K cd_u_law_is_from "_law_is_from" = true)
    (k_u_law_is_from : PySem.W.keepIn K (.ref f_u_law_is_from) = true)
    (a_u_law_fault : PySem.W.nsIn K mainGlobals "_law_fault" = some (some (.ref f_u_law_fault)))
    (l_u_law_fault : K.lookup f_u_law_fault = some ⟨oc_u_law_fault, od_u_law_fault, .func (PySem.W.fnOf "_law_fault" "_law_fault" (defArgs s_u_law_fault) (defBody s_u_law_fault) (defScope s_u_law_fault) .none kV_u_law_fault dc_u_law_fault pm_u_law_fault an_u_law_fault cd_u_law_fault ct_u_law_fault), sl_u_law_fault⟩)
    (c_u_law_fault : PySem.W.codeIn K cd_u_law_fault "_law_fault" = true)
    (k_u_law_fault : PySem.W.keepIn K (.ref f_u_law_fault) = true)
    (a_u_law_is_right : PySem.W.nsIn K mainGlobals "_law_is_right" = some (some (.ref f_u_law_is_right)))
    (l_u_law_is_right : K.lookup f_u_law_is_right = some ⟨oc_u_law_is_right, od_u_law_is_right, .func (PySem.W.fnOf "_law_is_right" "_law_is_right" (defArgs s_u_law_is_right) (defBody s_u_law_is_right) (defScope s_u_law_is_right) .none kV_u_law_is_right dc_u_law_is_right pm_u_law_is_right an_u_law_is_right cd_u_law_is_right ct_u_law_is_right), sl_u_law_is_right⟩)
    (c_u_law_is_right : PySem.W.codeIn K cd_u_law_is_right "_law_is_right" = true)
    (k_u_law_is_right : PySem.W.keepIn K (.ref f_u_law_is_right) = true)
    (a_u_law_re_drawn : PySem.W.nsIn K mainGlobals "_law_re_drawn" = some (some (.ref f_u_law_re_drawn)))
    (l_u_law_re_drawn : K.lookup f_u_law_re_drawn = some ⟨oc_u_law_re_drawn, od_u_law_re_drawn, .func (PySem.W.fnOf "_law_re_drawn" "_law_re_drawn" (defArgs s_u_law_re_drawn) (defBody s_u_law_re_drawn) (defScope s_u_law_re_drawn) .none kV_u_law_re_drawn dc_u_law_re_drawn pm_u_law_re_drawn an_u_law_re_drawn cd_u_law_re_drawn ct_u_law_re_drawn), sl_u_law_re_drawn⟩)
    (c_u_law_re_drawn : PySem.W.codeIn K cd_u_law_re_drawn "_law_re_drawn" = true)
    (k_u_law_re_drawn : PySem.W.keepIn K (.ref f_u_law_re_drawn) = true)
    (a_u_law_right : PySem.W.nsIn K mainGlobals "_law_right" = some (some (.ref f_u_law_right)))
    (l_u_law_right : K.lookup f_u_law_right = some ⟨oc_u_law_right, od_u_law_right, .func (PySem.W.fnOf "_law_right" "_law_right" (defArgs s_u_law_right) (defBody s_u_law_right) (defScope s_u_law_right) .none kV_u_law_right dc_u_law_right pm_u_law_right an_u_law_right cd_u_law_right ct_u_law_right), sl_u_law_right⟩)
    (c_u_law_right : PySem.W.codeIn K cd_u_law_right "_law_right" = true)
    (k_u_law_right : PySem.W.keepIn K (.ref f_u_law_right) = true)
    (a_law : PySem.W.nsIn K mainGlobals "law" = some (some (.ref f_law)))
    (l_law : K.lookup f_law = some ⟨oc_law, od_law, .func (PySem.W.fnOf "law" "law" (defArgs s_law) (defBody s_law) (defScope s_law) .none kV_law dc_law pm_law an_law cd_law ct_law), sl_law⟩)
    (c_law : PySem.W.codeIn K cd_law "law" = true)
    (k_law : PySem.W.keepIn K (.ref f_law) = true)
    (pg_Reader : PySem.W.plainGet K C_Reader Str.empty = true)
    (hd_Reader : PySem.W.hasDictIn K C_Reader = true)
    (po_Reader : PySem.W.plainOver K C_Reader = true)
    (sa_Reader : PySem.W.findIn K (.ref C_Reader) "__setattr__" = some (some (.builtin "object.__setattr__")))
    (mk_Reader : PySem.W.makesIn K C_Reader = true)
    (kc_Reader : PySem.W.keepIn K (.ref C_Reader) = true)
    (ia_Reader : PySem.W.findIn K (.ref C_Reader) "__class__" = some (some (.builtin "object.__class__")))
    (ib_Reader : PySem.W.specialIn K (.builtin "object.__class__") "__get__" = some (some (.builtin "getset_descriptor.__get__")))
    (ic_Reader : PySem.W.takesIn K (.builtin "object.__class__") = some true)
    (id_Reader : PySem.W.mroIn K C_Reader (.type "object") = some true)
    (iq_Reader : PySem.W.isClsIn K C_Reader = true)
    (ir_Reader : PySem.W.typeIn K (.ref C_Reader) = some (.type "type"))
    (is_Reader_int : PySem.W.subIn K (.type "int") (.ref C_Reader) = some false)
    (is_Reader_tuple : PySem.W.subIn K (.type "tuple") (.ref C_Reader) = some false)
    (en_Reader : PySem.W.findIn K (.ref C_Reader) "__ne__" = some (some (.builtin "object.__ne__")))
    (eo_Reader : PySem.W.mroIn K C_Reader (.type "object") = some true)
    (et_Reader_int : PySem.W.notFirst K C_Reader (.type "int") = true)
    (et_Reader_tuple : PySem.W.notFirst K C_Reader (.type "tuple") = true)
    (rx_InvalidReader : PySem.W.excIn K C_InvalidReader [.type "ValueError", .type "Exception", .type "BaseException", .type "object"] "ValueError.__new__" = true)
    (rk_InvalidReader : PySem.W.keepIn K (.ref C_InvalidReader) = true)
    (rb_InvalidReader : PySem.W.subIn K (.ref C_InvalidReader) (.type "BaseException") = some true)
    (rt_InvalidReader : PySem.W.typeIn K (.ref C_InvalidReader) = some (.type "type"))
    (xq_InvalidReader : PySem.W.isClsIn K C_InvalidReader = true)
    (xb_InvalidReader : PySem.W.subIn K (.ref C_InvalidReader) (.type "BaseException") = some true)
    (xt_InvalidReader : PySem.W.typeIn K (.ref C_InvalidReader) = some (.type "type"))
    (xs_InvalidReader : PySem.W.subIn K (.ref C_InvalidReader) (.ref C_InvalidReader) = some true)
    (na_Reader_accepting : PySem.W.findIn K (.ref C_Reader) "accepting" = some none)
    (na_Reader_letters : PySem.W.findIn K (.ref C_Reader) "letters" = some none)
    (na_Reader_states : PySem.W.findIn K (.ref C_Reader) "states" = some none)
    (na_Reader_steps : PySem.W.findIn K (.ref C_Reader) "steps" = some none)
    (cc_MOST_LETTERS : PySem.W.nsIn K mainGlobals "MOST_LETTERS" = some (some (.int 64 tk_MOST_LETTERS)))
    (cc_MOST_STATES : PySem.W.nsIn K mainGlobals "MOST_STATES" = some (some (.int 512 tk_MOST_STATES)))
    (cc_MOST_WORD : PySem.W.nsIn K mainGlobals "MOST_WORD" = some (some (.int 2000 tk_MOST_WORD)))
    (z_abs : PySem.W.nsIn K mainGlobals "abs" = some none)
    (z_all : PySem.W.nsIn K mainGlobals "all" = some none)
    (z_bool : PySem.W.nsIn K mainGlobals "bool" = some none)
    (z_enumerate : PySem.W.nsIn K mainGlobals "enumerate" = some none)
    (z_int : PySem.W.nsIn K mainGlobals "int" = some none)
    (z_isinstance : PySem.W.nsIn K mainGlobals "isinstance" = some none)
    (z_len : PySem.W.nsIn K mainGlobals "len" = some none)
    (z_list : PySem.W.nsIn K mainGlobals "list" = some none)
    (z_max : PySem.W.nsIn K mainGlobals "max" = some none)
    (z_min : PySem.W.nsIn K mainGlobals "min" = some none)
    (z_range : PySem.W.nsIn K mainGlobals "range" = some none)
    (z_set : PySem.W.nsIn K mainGlobals "set" = some none)
    (z_sorted : PySem.W.nsIn K mainGlobals "sorted" = some none)
    (z_str : PySem.W.nsIn K mainGlobals "str" = some none)
    (z_tuple : PySem.W.nsIn K mainGlobals "tuple" = some none)
    (z_type : PySem.W.nsIn K mainGlobals "type" = some none)
    (z_zip : PySem.W.nsIn K mainGlobals "zip" = some none)
    : ∃ fd : FuncData, (∀ (s : Shared) (v : Value), BindsTo s fd ⟨[v], []⟩ [("script", v)]) ∧ ∃ a : Ads, ∀ base : Heap, K.In base → base.Ns mainGlobals mg → FnOk l.prog w K mg base (L2.CX l.prog w) 9 fa fd ["script"] (spS K 1 (D_law a)) := by
  have e : f_law = fa := by have e := (PySem.W.mg_of X G a_law).symm.trans hfa; injection e with e; injection e
  subst e
  have F_u_law_bag := fun_mk (st := s_u_law_bag) l_u_law_bag c_u_law_bag k_u_law_bag
  have b_u_law_bag := F_u_law_bag.binds (ps := ["script", "spot"]) fun _ _ _ _ _ _ us hl => match us, hl with | [_, _], _ => rfl
  have F_m_Reader_eq := fun_mk (st := s_m_Reader_eq) l_m_Reader_eq c_m_Reader_eq k_m_Reader_eq
  have b_m_Reader_eq := F_m_Reader_eq.binds (ps := ["self", "other"]) fun _ _ _ _ _ _ us hl => match us, hl with | [_, _], _ => rfl
  have F_are_integers := fun_mk (st := s_are_integers) l_are_integers c_are_integers k_are_integers
  have b_are_integers := F_are_integers.binds (ps := ["values"]) fun _ _ _ _ _ _ us hl => match us, hl with | [_], _ => rfl
  have F_are_indices := fun_mk (st := s_are_indices) l_are_indices c_are_indices k_are_indices
  have b_are_indices := F_are_indices.binds (ps := ["values", "many"]) fun _ _ _ _ _ _ us hl => match us, hl with | [_, _], _ => rfl
  have F_u_is_step := fun_mk (st := s_u_is_step) l_u_is_step c_u_is_step k_u_is_step
  have b_u_is_step := F_u_is_step.binds (ps := ["letters", "states", "value"]) fun _ _ _ _ _ _ us hl => match us, hl with | [_, _, _], _ => rfl
  have F_is_integer := fun_mk (st := s_is_integer) l_is_integer c_is_integer k_is_integer
  have b_is_integer := F_is_integer.binds (ps := ["value"]) fun _ _ _ _ _ _ us hl => match us, hl with | [_], _ => rfl
  have F_is_between := fun_mk (st := s_is_between) l_is_between c_is_between k_is_between
  have b_is_between := F_is_between.binds (ps := ["value", "low", "high"]) fun _ _ _ _ _ _ us hl => match us, hl with | [_, _, _], _ => rfl
  have F_is_ascending := fun_mk (st := s_is_ascending) l_is_ascending c_is_ascending k_is_ascending
  have b_is_ascending := F_is_ascending.binds (ps := ["values"]) fun _ _ _ _ _ _ us hl => match us, hl with | [_], _ => rfl
  have F_is_index_tuple := fun_mk (st := s_is_index_tuple) l_is_index_tuple c_is_index_tuple k_is_index_tuple
  have b_is_index_tuple := F_is_index_tuple.binds (ps := ["value", "many"]) fun _ _ _ _ _ _ us hl => match us, hl with | [_, _], _ => rfl
  have F_reader_fault := fun_mk (st := s_reader_fault) l_reader_fault c_reader_fault k_reader_fault
  have b_reader_fault := F_reader_fault.binds (ps := ["letters", "steps", "accepting"]) fun _ _ _ _ _ _ us hl => match us, hl with | [_, _, _], _ => rfl
  have F_m_Reader_init := fun_mk (st := s_m_Reader_init) l_m_Reader_init c_m_Reader_init k_m_Reader_init
  have b_m_Reader_init := F_m_Reader_init.binds (ps := ["self", "letters", "steps", "accepting"]) fun _ _ _ _ _ _ us hl => match us, hl with | [_, _, _, _], _ => rfl
  have F_m_Reader_str := fun_mk (st := s_m_Reader_str) l_m_Reader_str c_m_Reader_str k_m_Reader_str
  have b_m_Reader_str := F_m_Reader_str.binds (ps := ["self"]) fun _ _ _ _ _ _ us hl => match us, hl with | [_], _ => rfl
  have F_u_law_pick := fun_mk (st := s_u_law_pick) l_u_law_pick c_u_law_pick k_u_law_pick
  have b_u_law_pick := F_u_law_pick.binds (ps := ["bag", "total"]) fun _ _ _ _ _ _ us hl => match us, hl with | [_, _], _ => rfl
  have F_u_law_one_of := fun_mk (st := s_u_law_one_of) l_u_law_one_of c_u_law_one_of k_u_law_one_of
  have b_u_law_one_of := F_u_law_one_of.binds (ps := ["bag", "items"]) fun _ _ _ _ _ _ us hl => match us, hl with | [_, _], _ => rfl
  have F_u_law_bent := fun_mk (st := s_u_law_bent) l_u_law_bent c_u_law_bent k_u_law_bent
  have b_u_law_bent := F_u_law_bent.binds (ps := ["bag", "value"]) fun _ _ _ _ _ _ us hl => match us, hl with | [_, _], _ => rfl
  have F_u_law_is_from := fun_mk (st := s_u_law_is_from) l_u_law_is_from c_u_law_is_from k_u_law_is_from
  have b_u_law_is_from := F_u_law_is_from.binds (ps := ["value", "least", "most"]) fun _ _ _ _ _ _ us hl => match us, hl with | [_, _, _], _ => rfl
  have F_u_law_fault := fun_mk (st := s_u_law_fault) l_u_law_fault c_u_law_fault k_u_law_fault
  have b_u_law_fault := F_u_law_fault.binds (ps := ["letters", "steps", "accepting"]) fun _ _ _ _ _ _ us hl => match us, hl with | [_, _, _], _ => rfl
  have F_u_law_is_right := fun_mk (st := s_u_law_is_right) l_u_law_is_right c_u_law_is_right k_u_law_is_right
  have b_u_law_is_right := F_u_law_is_right.binds (ps := ["told"]) fun _ _ _ _ _ _ us hl => match us, hl with | [_], _ => rfl
  have F_u_law_re_drawn := fun_mk (st := s_u_law_re_drawn) l_u_law_re_drawn c_u_law_re_drawn k_u_law_re_drawn
  have b_u_law_re_drawn := F_u_law_re_drawn.binds (ps := ["bag", "letters", "most"]) fun _ _ _ _ _ _ us hl => match us, hl with | [_, _, _], _ => rfl
  have F_u_law_right := fun_mk (st := s_u_law_right) l_u_law_right c_u_law_right k_u_law_right
  have b_u_law_right := F_u_law_right.binds (ps := ["bag"]) fun _ _ _ _ _ _ us hl => match us, hl with | [_], _ => rfl
  have F_law := fun_mk (st := s_law) l_law c_law k_law
  have b_law := F_law.binds (ps := ["script"]) fun _ _ _ _ _ _ us hl => match us, hl with | [_], _ => rfl
  have it_Reader_int := kit_no (t := "int") iq_Reader ir_Reader is_Reader_int; have it_Reader_tuple := kit_no (t := "tuple") iq_Reader ir_Reader is_Reader_tuple
  let a : Ads := { none_ := (), C_InvalidReader := C_InvalidReader, C_Reader := C_Reader }
  let T : Top K mg a := { p_u_law_bag := f_u_law_bag, d_u_law_bag := (_), F_u_law_bag := F_u_law_bag, b_u_law_bag := b_u_law_bag, g_u_law_bag := PySem.W.mg_of X G a_u_law_bag, p_m_Reader_eq := f_m_Reader_eq, d_m_Reader_eq := (_), F_m_Reader_eq := F_m_Reader_eq, b_m_Reader_eq := b_m_Reader_eq, p_are_integers := f_are_integers, d_are_integers := (_), F_are_integers := F_are_integers, b_are_integers := b_are_integers, g_are_integers := PySem.W.mg_of X G a_are_integers, p_are_indices := f_are_indices, d_are_indices := (_), F_are_indices := F_are_indices, b_are_indices := b_are_indices, g_are_indices := PySem.W.mg_of X G a_are_indices, p_u_is_step := f_u_is_step, d_u_is_step := (_), F_u_is_step := F_u_is_step, b_u_is_step := b_u_is_step, g_u_is_step := PySem.W.mg_of X G a_u_is_step, p_is_integer := f_is_integer, d_is_integer := (_), F_is_integer := F_is_integer, b_is_integer := b_is_integer, g_is_integer := PySem.W.mg_of X G a_is_integer, p_is_between := f_is_between, d_is_between := (_), F_is_between := F_is_between, b_is_between := b_is_between, g_is_between := PySem.W.mg_of X G a_is_between, p_is_ascending := f_is_ascending, d_is_ascending := (_), F_is_ascending := F_is_ascending, b_is_ascending := b_is_ascending, g_is_ascending := PySem.W.mg_of X G a_is_ascending, p_is_index_tuple := f_is_index_tuple, d_is_index_tuple := (_), F_is_index_tuple := F_is_index_tuple, b_is_index_tuple := b_is_index_tuple, g_is_index_tuple := PySem.W.mg_of X G a_is_index_tuple, p_reader_fault := f_reader_fault, d_reader_fault := (_), F_reader_fault := F_reader_fault, b_reader_fault := b_reader_fault, g_reader_fault := PySem.W.mg_of X G a_reader_fault, p_m_Reader_init := f_m_Reader_init, d_m_Reader_init := (_), F_m_Reader_init := F_m_Reader_init, b_m_Reader_init := b_m_Reader_init, p_m_Reader_str := f_m_Reader_str, d_m_Reader_str := (_), F_m_Reader_str := F_m_Reader_str, b_m_Reader_str := b_m_Reader_str, p_u_law_pick := f_u_law_pick, d_u_law_pick := (_), F_u_law_pick := F_u_law_pick, b_u_law_pick := b_u_law_pick, g_u_law_pick := PySem.W.mg_of X G a_u_law_pick, p_u_law_one_of := f_u_law_one_of, d_u_law_one_of := (_), F_u_law_one_of := F_u_law_one_of, b_u_law_one_of := b_u_law_one_of, g_u_law_one_of := PySem.W.mg_of X G a_u_law_one_of, p_u_law_bent := f_u_law_bent, d_u_law_bent := (_), F_u_law_bent := F_u_law_bent, b_u_law_bent := b_u_law_bent, g_u_law_bent := PySem.W.mg_of X G a_u_law_bent, p_u_law_is_from := f_u_law_is_from, d_u_law_is_from := (_), F_u_law_is_from := F_u_law_is_from, b_u_law_is_from := b_u_law_is_from, g_u_law_is_from := PySem.W.mg_of X G a_u_law_is_from, p_u_law_fault := f_u_law_fault, d_u_law_fault := (_), F_u_law_fault := F_u_law_fault, b_u_law_fault := b_u_law_fault, g_u_law_fault := PySem.W.mg_of X G a_u_law_fault, p_u_law_is_right := f_u_law_is_right, d_u_law_is_right := (_), F_u_law_is_right := F_u_law_is_right, b_u_law_is_right := b_u_law_is_right, g_u_law_is_right := PySem.W.mg_of X G a_u_law_is_right, p_u_law_re_drawn := f_u_law_re_drawn, d_u_law_re_drawn := (_), F_u_law_re_drawn := F_u_law_re_drawn, b_u_law_re_drawn := b_u_law_re_drawn, g_u_law_re_drawn := PySem.W.mg_of X G a_u_law_re_drawn, p_u_law_right := f_u_law_right, d_u_law_right := (_), F_u_law_right := F_u_law_right, b_u_law_right := b_u_law_right, g_u_law_right := PySem.W.mg_of X G a_u_law_right, p_law := f_law, d_law := (_), F_law := F_law, b_law := b_law, g_law := PySem.W.mg_of X G a_law, g_InvalidReader := PySem.W.mg_of X G ac_InvalidReader, g_Reader := PySem.W.mg_of X G ac_Reader, cl_Reader := ⟨pg_Reader, hd_Reader, po_Reader, sa_Reader⟩, mk_Reader := ⟨mk_Reader, a_m_Reader_init, i_m_Reader_init, kc_Reader⟩, is_Reader := ⟨⟨pg_Reader, hd_Reader, po_Reader, sa_Reader⟩, ia_Reader, ib_Reader, ic_Reader, id_Reader, kit_self⟩, ists_Reader := (fun t ht => by simp [isTs_Reader] at ht; rcases ht with rfl | rfl <;> assumption), eqc_Reader := ⟨a_m_Reader_eq, i_m_Reader_eq, en_Reader, eo_Reader, (fun t ht => by simp [eqTs_Reader] at ht; rcases ht with rfl | rfl <;> assumption)⟩, str_Reader := ⟨a_m_Reader_str, i_m_Reader_str⟩, rc_InvalidReader := raise_VE rx_InvalidReader rk_InvalidReader rb_InvalidReader rt_InvalidReader, ex_InvalidReader := exm_of xb_InvalidReader xq_InvalidReader xt_InvalidReader xs_InvalidReader, na_Reader_accepting := na_Reader_accepting, na_Reader_letters := na_Reader_letters, na_Reader_states := na_Reader_states, na_Reader_steps := na_Reader_steps, t_MOST_LETTERS := tk_MOST_LETTERS, c_MOST_LETTERS := PySem.W.mg_of X G cc_MOST_LETTERS, t_MOST_STATES := tk_MOST_STATES, c_MOST_STATES := PySem.W.mg_of X G cc_MOST_STATES, t_MOST_WORD := tk_MOST_WORD, c_MOST_WORD := PySem.W.mg_of X G cc_MOST_WORD, n_abs := PySem.W.mg_none_of X G z_abs, n_all := PySem.W.mg_none_of X G z_all, n_bool := PySem.W.mg_none_of X G z_bool, n_enumerate := PySem.W.mg_none_of X G z_enumerate, n_int := PySem.W.mg_none_of X G z_int, n_isinstance := PySem.W.mg_none_of X G z_isinstance, n_len := PySem.W.mg_none_of X G z_len, n_list := PySem.W.mg_none_of X G z_list, n_max := PySem.W.mg_none_of X G z_max, n_min := PySem.W.mg_none_of X G z_min, n_range := PySem.W.mg_none_of X G z_range, n_set := PySem.W.mg_none_of X G z_set, n_sorted := PySem.W.mg_none_of X G z_sorted, n_str := PySem.W.mg_none_of X G z_str, n_tuple := PySem.W.mg_none_of X G z_tuple, n_type := PySem.W.mg_none_of X G z_type, n_zip := PySem.W.mg_none_of X G z_zip }
  exact ⟨_, fun s v => .of_eq rfl, a, fun base _ _ => ok_law T⟩
theorem walk {l : PySem.W.OpenLaw} {q : Program} {loose : List Str} {XP : (Str → Option Value) → Heap → Prop} {YP : World → Heap → Prop} {d : DefRec} {K : Params → PySem.W.Frag} (hn : l.most = some 63) (hdf : d.params.defaults = [])
    (hY : ∀ (w : World) (h : Heap), YP w h → (K w.params).In h)
    (F : ∀ (w : World) (mg : Str → Option Value) (fa : Addr) (h : Heap), (K w.params).In h → h.Ns mainGlobals mg → mg d.name = some (.ref fa) →
      ∃ fd : FuncData, (∀ (s : Shared) (u : Value), BindsTo s fd ⟨[u], []⟩ [("script", u)]) ∧ ∃ a : Ads, ∀ base : Heap, (K w.params).In base → base.Ns mainGlobals mg → FnOk l.prog w (K w.params) mg base (L2.CX l.prog w) 9 fa fd ["script"] (spS (K w.params) 1 (D_law a))) :
    PySem.W.WalkO q loose XP YP l.row.toRowW d [] (fun f vs => PySem.call f vs) :=
  L2.walk_of (n := 63) (k := 9) (x := "script") (CX := fun w => L2.CX l.prog w) (sp := fun w => spTrue (K w.params)) hn (by decide) hdf ⟨rfl, by decide, by decide⟩ hY
    (fun w mg fa h h1 h2 h3 => let ⟨fd, hb, a, hF⟩ := F w mg fa h h1 h2 h3; ⟨fd, hb, fun base b1 b2 => (hF base b1 b2).imp (spTrue_imp (fun ns hl => main a ns hl))⟩)
    (fun w H a ns hl _ hS => ⟨a, ns, rfl, hS, hl, fun _ => rfl⟩) fun w H s e s' z => noCX z
end My

open PySem PySem.W PyProof.Rows in
set_option maxRecDepth 100000 in
set_option maxHeartbeats 0 in
theorem PySem.Challenge.cw_wholebyparts_k26_whole_readers_and_fault_holds : PySem.Challenge.rw_wholebyparts_k26_whole_readers_and_fault.Holds := by
  w_on; o_law; k_head; (case hw => w_witness2)
  k_fill
  refine My.walk (l := PySem.Challenge.rw_wholebyparts_k26_whole_readers_and_fault) rfl rfl (fun w h Y => PySem.W.kIn_of Y) ?F
  case F =>
    intro w mg fa h KX G hmg
    refine' My.all_mk KX G hmg ?ac_InvalidReader ?ac_Reader ?a_u_law_bag ?l_u_law_bag ?c_u_law_bag ?k_u_law_bag ?a_m_Reader_eq ?i_m_Reader_eq ?l_m_Reader_eq ?c_m_Reader_eq ?k_m_Reader_eq ?a_are_integers ?l_are_integers ?c_are_integers ?k_are_integers ?a_are_indices ?l_are_indices ?c_are_indices ?k_are_indices ?a_u_is_step ?l_u_is_step ?c_u_is_step ?k_u_is_step ?a_is_integer ?l_is_integer ?c_is_integer ?k_is_integer ?a_is_between ?l_is_between ?c_is_between ?k_is_between ?a_is_ascending ?l_is_ascending ?c_is_ascending ?k_is_ascending ?a_is_index_tuple ?l_is_index_tuple ?c_is_index_tuple ?k_is_index_tuple ?a_reader_fault ?l_reader_fault ?c_reader_fault ?k_reader_fault ?a_m_Reader_init ?i_m_Reader_init ?l_m_Reader_init ?c_m_Reader_init ?k_m_Reader_init ?a_m_Reader_str ?i_m_Reader_str ?l_m_Reader_str ?c_m_Reader_str ?k_m_Reader_str ?a_u_law_pick ?l_u_law_pick ?c_u_law_pick ?k_u_law_pick ?a_u_law_one_of ?l_u_law_one_of ?c_u_law_one_of ?k_u_law_one_of ?a_u_law_bent ?l_u_law_bent ?c_u_law_bent ?k_u_law_bent ?a_u_law_is_from ?l_u_law_is_from ?c_u_law_is_from ?k_u_law_is_from ?a_u_law_fault ?l_u_law_fault ?c_u_law_fault ?k_u_law_fault ?a_u_law_is_right ?l_u_law_is_right ?c_u_law_is_right ?k_u_law_is_right ?a_u_law_re_drawn ?l_u_law_re_drawn ?c_u_law_re_drawn ?k_u_law_re_drawn ?a_u_law_right ?l_u_law_right ?c_u_law_right ?k_u_law_right ?a_law ?l_law ?c_law ?k_law ?pg_Reader ?hd_Reader ?po_Reader ?sa_Reader ?mk_Reader ?kc_Reader ?ia_Reader ?ib_Reader ?ic_Reader ?id_Reader ?iq_Reader ?ir_Reader ?is_Reader_int ?is_Reader_tuple ?en_Reader ?eo_Reader ?et_Reader_int ?et_Reader_tuple ?rx_InvalidReader ?rk_InvalidReader ?rb_InvalidReader ?rt_InvalidReader ?xq_InvalidReader ?xb_InvalidReader ?xt_InvalidReader ?xs_InvalidReader ?na_Reader_accepting ?na_Reader_letters ?na_Reader_states ?na_Reader_steps ?cc_MOST_LETTERS ?cc_MOST_STATES ?cc_MOST_WORD ?z_abs ?z_all ?z_bool ?z_enumerate ?z_int ?z_isinstance ?z_len ?z_list ?z_max ?z_min ?z_range ?z_set ?z_sorted ?z_str ?z_tuple ?z_type ?z_zip
    (case ac_InvalidReader => k_is)
    (case ac_Reader => k_is)
    (case a_u_law_bag => k_is)
    (case l_u_law_bag => k_is)
    (case c_u_law_bag => k_is)
    (case k_u_law_bag => k_is)
    (case a_m_Reader_eq => k_is)
    (case i_m_Reader_eq => k_is)
    (case l_m_Reader_eq => k_is)
    (case c_m_Reader_eq => k_is)
    (case k_m_Reader_eq => k_is)
    (case a_are_integers => k_is)
    (case l_are_integers => k_is)
    (case c_are_integers => k_is)
    (case k_are_integers => k_is)
    (case a_are_indices => k_is)
    (case l_are_indices => k_is)
    (case c_are_indices => k_is)
    (case k_are_indices => k_is)
    (case a_u_is_step => k_is)
    (case l_u_is_step => k_is)
    (case c_u_is_step => k_is)
    (case k_u_is_step => k_is)
    (case a_is_integer => k_is)
    (case l_is_integer => k_is)
    (case c_is_integer => k_is)
    (case k_is_integer => k_is)
    (case a_is_between => k_is)
    (case l_is_between => k_is)
    (case c_is_between => k_is)
    (case k_is_between => k_is)
    (case a_is_ascending => k_is)
    (case l_is_ascending => k_is)
    (case c_is_ascending => k_is)
    (case k_is_ascending => k_is)
    (case a_is_index_tuple => k_is)
    (case l_is_index_tuple => k_is)
    (case c_is_index_tuple => k_is)
    (case k_is_index_tuple => k_is)
    (case a_reader_fault => k_is)
    (case l_reader_fault => k_is)
    (case c_reader_fault => k_is)
    (case k_reader_fault => k_is)
    (case a_m_Reader_init => k_is)
    (case i_m_Reader_init => k_is)
    (case l_m_Reader_init => k_is)
    (case c_m_Reader_init => k_is)
    (case k_m_Reader_init => k_is)
    (case a_m_Reader_str => k_is)
    (case i_m_Reader_str => k_is)
    (case l_m_Reader_str => k_is)
    (case c_m_Reader_str => k_is)
    (case k_m_Reader_str => k_is)
    (case a_u_law_pick => k_is)
    (case l_u_law_pick => k_is)
    (case c_u_law_pick => k_is)
    (case k_u_law_pick => k_is)
    (case a_u_law_one_of => k_is)
    (case l_u_law_one_of => k_is)
    (case c_u_law_one_of => k_is)
    (case k_u_law_one_of => k_is)
    (case a_u_law_bent => k_is)
    (case l_u_law_bent => k_is)
    (case c_u_law_bent => k_is)
    (case k_u_law_bent => k_is)
    (case a_u_law_is_from => k_is)
    (case l_u_law_is_from => k_is)
    (case c_u_law_is_from => k_is)
    (case k_u_law_is_from => k_is)
    (case a_u_law_fault => k_is)
    (case l_u_law_fault => k_is)
    (case c_u_law_fault => k_is)
    (case k_u_law_fault => k_is)
    (case a_u_law_is_right => k_is)
    (case l_u_law_is_right => k_is)
    (case c_u_law_is_right => k_is)
    (case k_u_law_is_right => k_is)
    (case a_u_law_re_drawn => k_is)
    (case l_u_law_re_drawn => k_is)
    (case c_u_law_re_drawn => k_is)
    (case k_u_law_re_drawn => k_is)
    (case a_u_law_right => k_is)
    (case l_u_law_right => k_is)
    (case c_u_law_right => k_is)
    (case k_u_law_right => k_is)
    (case a_law => k_is)
    (case l_law => k_is)
    (case c_law => k_is)
    (case k_law => k_is)
    (case pg_Reader => k_is)
    (case hd_Reader => k_is)
    (case po_Reader => k_is)
    (case sa_Reader => k_is)
    (case mk_Reader => k_is)
    (case kc_Reader => k_is)
    (case ia_Reader => k_is)
    (case ib_Reader => k_is)
    (case ic_Reader => k_is)
    (case id_Reader => k_is)
    (case iq_Reader => k_is)
    (case ir_Reader => k_is)
    (case is_Reader_int => k_is)
    (case is_Reader_tuple => k_is)
    (case en_Reader => k_is)
    (case eo_Reader => k_is)
    (case et_Reader_int => k_is)
    (case et_Reader_tuple => k_is)
    (case rx_InvalidReader => k_exc)
    (case rk_InvalidReader => k_is)
    (case rb_InvalidReader => k_is)
    (case rt_InvalidReader => k_is)
    (case xq_InvalidReader => k_is)
    (case xb_InvalidReader => k_is)
    (case xt_InvalidReader => k_is)
    (case xs_InvalidReader => k_is)
    (case na_Reader_accepting => k_is)
    (case na_Reader_letters => k_is)
    (case na_Reader_states => k_is)
    (case na_Reader_steps => k_is)
    (case cc_MOST_LETTERS => k_is)
    (case cc_MOST_STATES => k_is)
    (case cc_MOST_WORD => k_is)
    (case z_abs => k_is)
    (case z_all => k_is)
    (case z_bool => k_is)
    (case z_enumerate => k_is)
    (case z_int => k_is)
    (case z_isinstance => k_is)
    (case z_len => k_is)
    (case z_list => k_is)
    (case z_max => k_is)
    (case z_min => k_is)
    (case z_range => k_is)
    (case z_set => k_is)
    (case z_sorted => k_is)
    (case z_str => k_is)
    (case z_tuple => k_is)
    (case z_type => k_is)
    (case z_zip => k_is)

