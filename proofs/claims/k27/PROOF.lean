import PyProof.Rows.All
import Wide.All
import OpenK.AllK
import Wide.FinOn
import KE.KExcLine
import HandS.Call
import HandS.List
import HandS.Comp
import HandS.Exc
import HandS.CallSlots
import HandS.Nested
import HandS.Words
import HandS.TupAny
import HandS.TupMul
import HandS.Wide
import HandS.IsInst
import HandS.WordsExc
import HandS.Ends
import HandS.ExcOwn
import HandS.More
import HandS.SortInts
import HandS.Iter
import HandS.Zip
import HandS.Dict
import KE.GoesEnum
import HandS.Strs
import HandS.Text
import HandS.Style
import HandS.WideBits
import PyProof.WalkInts
import HandS.FStr
import HandS.FStrTup
import HandS.RaiseMore
import HandS.TryOnly
import PyProof.ExcBaseAll.ValueError
import HandS.OwnEq
import HandS.SetFor
import PyProof.Rows.Range3
import PyProof.CallStr
import PyProof.InstNe
import HandS.Flow
import HandS.ExcInit
import KE.KExcInit
import PyProof.ExcBaseAll.IndexError
import PyProof.ExcBaseAll.OverflowError
import HandS.TryMany
import HandS.ExcField
import HandS.DictComp
import HandS.NestedK
import HandS.EndTab
import PyProof.ReprRoads
import PyProof.CallFns
import HandS.CallLocal
import PySem.Challenge.RW_wholebyparts_k27_errors_of_readers
set_option Elab.async false
set_option linter.all false
set_option maxRecDepth 100000
set_option maxHeartbeats 4000000
namespace Sim
open PySem L2

/-- room, and no text of a container is being made -/
structure Room (k : Nat) (A : Around) : Prop extends L2.Room k A where
  gd : A.guards = some []
theorem Room.mono {j k : Nat} {A : Around} (r : Room k A) (h : j ≤ k) : Room j A := ⟨r.toRoom.mono h, r.gd⟩
theorem Room.deeper {k : Nat} {A : Around} (r : Room (k + 1) A) (env : PySem.Env) : Room k (A.deeper env) := ⟨r.toRoom.deeper env, r.gd⟩
theorem Room.in1 {k : Nat} {A : Around} (r : Room (k + 1) A) : Room k A.in1 := ⟨r.toRoom.in1, r.gd⟩
theorem Room.units {k : Nat} {A : Around} (r : Room k A) : A.units + 64 < cLine := r.toRoom.units
theorem hu_of {A : Around} {k : Nat} (hr : Room k A) : A.units + 1 < cLine := L2.hu_of hr.toRoom
/-- a def keeps its promise wherever there is such room -/
structure FnOk (P : Program) (w : World) (K : PySem.W.Frag) (mg : Str → Option Value) (base : Heap) (CX : CXT) (k : Nat) (f : Addr) (fd : FuncData) (ps : List Str) (sp : Sp) : Prop where
  len : ∀ vs H Q E, sp vs H Q E → vs.length = ps.length
  go : ∀ (A : Around) (outer : List PySem.Env) (s : Shared) (H : Hp) (args : Args) (us : List Value) (vs : List V) (Q : VK) (E : XK), Room k A → Env0 P w K mg base A outer s H →
    BindsTo s fd args (ps.zip us) → Vals vs us → sp vs H Q E → codeAny (model P w) A (.call (.ref f) args) (CR CX outer P w H s Q E) s
section
variable {P : Program} {w : World} {K : PySem.W.Frag} {mg : Str → Option Value} {base : Heap} {CX : CXT} {j k : Nat} {f : Addr} {fd : FuncData} {ps : List Str} {sp sp' : Sp}
theorem FnOk.of (F : L2.FnOk P w K mg base CX k f fd ps sp) : FnOk P w K mg base CX k f fd ps sp := ⟨F.len, fun A outer s H args us vs Q E hr => F.run A outer s H args us vs Q E hr.toRoom⟩
theorem FnOk.imp (F : FnOk P w K mg base CX k f fd ps sp) (h : ∀ vs H Q E, sp' vs H Q E → sp vs H Q E) : FnOk P w K mg base CX k f fd ps sp' :=
  ⟨fun vs H Q E q => F.len vs H Q E (h vs H Q E q), fun A outer s H args us vs Q E hr e0 hb r q => F.go A outer s H args us vs Q E hr e0 hb r (h vs H Q E q)⟩
theorem FnOk.mono (F : FnOk P w K mg base CX j f fd ps sp) (h : j ≤ k) : FnOk P w K mg base CX k f fd ps sp := ⟨F.len, fun A outer s H args us vs Q E hr => F.go A outer s H args us vs Q E (hr.mono h)⟩
/-- a call from a body -/
theorem FnOk.run_call {X : Cx} {pins : List (Addr × Obj)} {σ : St} {H : Hp} {s : Shared} {E : XK} {Q : VK} {us : List Value} {vs : List V} (F : FnOk X.prog X.w X.K X.mg X.base CX k f fd ps sp) (hr : Room k X.A) (hb : Binds X.K fd ps []) (hx : PassesAt CX X σ E)
    (I : Inv X pins σ H s) (r : Vals vs us) (h : sp vs H Q E) : wpAny (model X.prog X.w) X.A (call (.ref f) us) (EP X pins σ Q) X.xe s := by
  have hb' := hb s us I.kIn (by rw [List.append_nil, ← r.length]; exact F.len _ _ _ _ h)
  rw [List.append_nil] at hb'
  refine wpAny_call (codeAny_mono (F.go _ _ _ _ _ _ _ _ _ hr I.env0 hb' r h) ?_)
  rintro (e | fl) s' hq
  · exact hx _ _ _ _ _ I hq
  · cases fl <;> first | exact I.after hq | exact hq.elim
end
/-- the tables of code objects that a law's run may fill -/
class Tabl where
  T : List NdefX.NTab
/-- a value: what never changes is a value as a whole (tuples, lists, dicts and instances that nobody changes any more); ref: the n-th of the changing objects; adr: an object of the top -/
inductive SV where
  | non | bl (b : Bool) | int (i : Int) | str (s : Str) | tup (xs : List SV) | rls (xs : List SV) | frl (xs : List SV) | obj (C : Addr) (ns : List Str) (xs : List SV)
  | rdc (t : Bool) (ks : List SV) (xs : List SV) | ref (n : Nat) | ty (s : String) | adr (a : Addr) | xcp (a d : Addr) (ns : List Str) (xs : List SV)
inductive SO where
  | lst (xs : List SV)
  | dic (t : Bool) (ks : List SV) (xs : List SV)
  | ins (C : Addr) (ns : List Str) (xs : List SV)
abbrev SHp := List SO
abbrev Env := List (Option SV)

mutual
def SV.beq : SV → SV → Bool
  | .non, .non => true
  | .bl a, .bl b => a == b
  | .int a, .int b => decide (a = b)
  | .str a, .str b => decide (a = b)
  | .tup a, .tup b => SV.beqs a b
  | .rls a, .rls b => SV.beqs a b
  | .frl a, .frl b => SV.beqs a b
  | .obj C ns a, .obj D ms b => decide (C = D) && decide (ns = ms) && SV.beqs a b
  | .xcp C d ns a, .xcp D e ms b => decide (C = D) && decide (d = e) && decide (ns = ms) && SV.beqs a b
  | .rdc t k a, .rdc u l b => decide (t = u) && SV.beqs k l && SV.beqs a b
  | .ref a, .ref b => decide (a = b)
  | .ty a, .ty b => decide (a = b)
  | .adr a, .adr b => decide (a = b)
  | _, _ => false
def SV.beqs : List SV → List SV → Bool
  | [], [] => true
  | x :: xs, y :: ys => SV.beq x y && SV.beqs xs ys
  | _, _ => false
end
mutual
theorem SV.beq_eq : ∀ {a b : SV}, SV.beq a b = true → a = b
  | a, b, h => by
    cases a <;> cases b <;> simp [SV.beq, Bool.and_eq_true] at h <;> try (first | rfl | (subst h; rfl) | (cases h; rfl))
    case tup.tup x y => rw [SV.beqs_eq h]
    case rls.rls x y => rw [SV.beqs_eq h]
    case frl.frl x y => rw [SV.beqs_eq h]
    case obj.obj C n x D m y => obtain ⟨⟨rfl, rfl⟩, h⟩ := h; rw [SV.beqs_eq h]
    case xcp.xcp C d n x D e m y => obtain ⟨⟨⟨rfl, rfl⟩, rfl⟩, h⟩ := h; rw [SV.beqs_eq h]
    case rdc.rdc t k x u l y => obtain ⟨⟨rfl, h1⟩, h2⟩ := h; rw [SV.beqs_eq h1, SV.beqs_eq h2]
theorem SV.beqs_eq : ∀ {a b : List SV}, SV.beqs a b = true → a = b
  | [], [], _ => rfl
  | x :: xs, y :: ys, h => by
    simp [SV.beqs, Bool.and_eq_true] at h
    rw [SV.beq_eq h.1, SV.beqs_eq h.2]
  | [], _ :: _, h => by simp [SV.beqs] at h
  | _ :: _, [], h => by simp [SV.beqs] at h
end
mutual
theorem SV.beq_refl : ∀ (a : SV), SV.beq a a = true
  | .non => rfl
  | .bl a => by simp [SV.beq]
  | .int a => by simp [SV.beq]
  | .str a => by simp [SV.beq]
  | .tup a => by simp [SV.beq, SV.beqs_refl a]
  | .rls a => by simp [SV.beq, SV.beqs_refl a]
  | .frl a => by simp [SV.beq, SV.beqs_refl a]
  | .obj C ns a => by simp [SV.beq, SV.beqs_refl a]
  | .xcp C d ns a => by simp [SV.beq, SV.beqs_refl a]
  | .rdc t k a => by simp [SV.beq, SV.beqs_refl a, SV.beqs_refl k]
  | .ref a => by simp [SV.beq]
  | .ty a => by simp [SV.beq]
  | .adr a => by simp [SV.beq]
theorem SV.beqs_refl : ∀ (a : List SV), SV.beqs a a = true
  | [] => rfl
  | x :: xs => by simp [SV.beqs, SV.beq_refl x, SV.beqs_refl xs]
end
instance : DecidableEq SV := fun a b => if h : SV.beq a b = true then .isTrue (SV.beq_eq h) else .isFalse (fun e => h (e ▸ SV.beq_refl a))
instance : DecidableEq SO := fun a b => match a, b with
  | .lst xs, .lst ys => if h : xs = ys then .isTrue (by rw [h]) else .isFalse (by intro e; cases e; exact h rfl)
  | .dic t ks xs, .dic t' ks' xs' => if h : t = t' ∧ ks = ks' ∧ xs = xs' then .isTrue (by rw [h.1, h.2.1, h.2.2]) else .isFalse (by intro e; cases e; exact h ⟨rfl, rfl, rfl⟩)
  | .ins C ns xs, .ins C' ns' xs' => if h : C = C' ∧ ns = ns' ∧ xs = xs' then .isTrue (by rw [h.1, h.2.1, h.2.2]) else .isFalse (by intro e; cases e; exact h ⟨rfl, rfl, rfl⟩)
  | .lst _, .dic _ _ _ | .lst _, .ins _ _ _ | .dic _ _ _, .lst _ | .dic _ _ _, .ins _ _ _ | .ins _ _ _, .lst _ | .ins _ _ _, .dic _ _ _ => .isFalse (by intro e; cases e)

/-! ### results -/
inductive Res (α : Type) where
  | ok (v : α) (h : SHp)
  | err (c : Addr) (fs : List (Str × SV)) (h : SHp)
  | stuck
abbrev M (α : Type) := SHp → Res α
def M.ret {α : Type} (v : α) : M α := fun h => .ok v h
def M.bind {α β : Type} (m : M α) (k : α → M β) : M β := fun h => match m h with
  | .ok v h' => k v h'
  | .err c fs h' => .err c fs h'
  | .stuck => .stuck
def M.of {α : Type} (o : Option α) : M α := fun h => match o with
  | some v => .ok v h
  | none => .stuck
inductive SR where
  | nx (e : Env) (h : SHp) | rt (v : SV) (h : SHp) | bk (e : Env) (h : SHp) | ct (e : Env) (h : SHp) | err (c : Addr) (fs : List (Str × SV)) (e : Env) (h : SHp) | stuck

/-! ### the relation -/
def WrL (K : PySem.W.Frag) (a : Addr) (xs : List V) : Prop :=
  ∃ (o : Obj) (its : Array Value) (n : Nat), K.lookup a = some o ∧ o.cls = .type "list" ∧ o.dict = none ∧ o.data = .seq its n ∧ its.size ≤ sizeLine ∧ Vals xs its.toList
theorem WrL.seq {K : PySem.W.Frag} {H : Hp} {a : Addr} {xs : List V} (h : WrL K a xs) : SqL K H a xs := .inr h

def keyS : Key → SV
  | .inl i => .int i
  | .inr x => .str x
/-- where the changing objects stand, in their sequence; what is hidden: no value stands there -/
structure Rho where
  l : List Addr
  ex : List Addr
def Rho.out (ρ : Rho) (a : Addr) : Prop := a ∉ ρ.l ∧ a ∉ ρ.ex
inductive RelL (K : PySem.W.Frag) (H : Hp) (ρ : Rho) : List SV → List V → Prop
  | nil : RelL K H ρ [] []
  | non {xs vs} : RelL K H ρ xs vs → RelL K H ρ (.non :: xs) (.non :: vs)
  | bl {b xs vs} : RelL K H ρ xs vs → RelL K H ρ (.bl b :: xs) (.bl b :: vs)
  | int {i xs vs} : RelL K H ρ xs vs → RelL K H ρ (.int i :: xs) (.int i :: vs)
  | str {i xs vs} : RelL K H ρ xs vs → RelL K H ρ (.str i :: xs) (.str i :: vs)
  | ty {i xs vs} : RelL K H ρ xs vs → RelL K H ρ (.ty i :: xs) (.ty i :: vs)
  | adr {a xs vs} : RelL K H ρ xs vs → RelL K H ρ (.adr a :: xs) (.ref a :: vs)
  | ref {i a xs vs} : ρ.l[i]? = some a → RelL K H ρ xs vs → RelL K H ρ (.ref i :: xs) (.ref a :: vs)
  | tup {a ys us xs vs} : H a = some (.tup us) → RelL K H ρ ys us → RelL K H ρ xs vs → RelL K H ρ (.tup ys :: xs) (.ref a :: vs)
  | rls {a ys us xs vs} : H a = some (.lst us) → ρ.out a → RelL K H ρ ys us → RelL K H ρ xs vs → RelL K H ρ (.rls ys :: xs) (.ref a :: vs)
  | frl {a ys us xs vs} : ((Rd H a (.lst us) ∧ ρ.out a) ∨ WrL K a us) → RelL K H ρ ys us → RelL K H ρ xs vs → RelL K H ρ (.frl ys :: xs) (.ref a :: vs)
  | obj {a C dx ns ys fv xs vs} : H a = some (.ins C dx fv) → ρ.out a → fv.map (·.1) = ns → RelL K H ρ ys (fv.map (·.2)) → RelL K H ρ xs vs → RelL K H ρ (.obj C ns ys :: xs) (.ref a :: vs)
  | xcp {a d ns ys fv xs vs} : H d = some (.xd fv) → fv.map (·.1) = ns → RelL K H ρ ys (fv.map (·.2)) → RelL K H ρ xs vs → RelL K H ρ (.xcp a d ns ys :: xs) (.ref a :: vs)
  | rdK {a ks ys xs vs} {kvs : List (Key × V)} : Rd H a (.dK kvs) → ρ.out a → kvs.map (fun p => keyS p.1) = ks → RelL K H ρ ys (kvs.map (·.2)) → RelL K H ρ xs vs → RelL K H ρ (.rdc false ks ys :: xs) (.ref a :: vs)
  | rdT {a ks ys xs vs} {kvs : List (List Key × V)} : H a = some (.dT kvs) → ρ.out a → kvs.map (fun p => SV.tup (p.1.map keyS)) = ks → RelL K H ρ ys (kvs.map (·.2)) → RelL K H ρ xs vs → RelL K H ρ (.rdc true ks ys :: xs) (.ref a :: vs)
abbrev RelS (K : PySem.W.Frag) (H : Hp) (ρ : Rho) (x : SV) (v : V) : Prop := RelL K H ρ [x] [v]

def ObjRel (K : PySem.W.Frag) (H : Hp) (ρ : Rho) (a : Addr) : SO → Prop
  | .lst xs => ∃ vs, H a = some (.lst vs) ∧ RelL K H ρ xs vs
  | .dic t ks xs => (∃ kvs : List (Key × V), H a = some (.dK kvs) ∧ (t = false ∧ kvs.map (fun p => keyS p.1) = ks) ∧ RelL K H ρ xs (kvs.map (·.2))) ∨
      (∃ kvs : List (List Key × V), H a = some (.dT kvs) ∧ (t = true ∧ kvs.map (fun p => SV.tup (p.1.map keyS)) = ks) ∧ RelL K H ρ xs (kvs.map (·.2)))
  | .ins C ns xs => ∃ dx fv, H a = some (.ins C dx fv) ∧ fv.map (·.1) = ns ∧ RelL K H ρ xs (fv.map (·.2))
variable [Tabl]
structure RelH (K : PySem.W.Frag) (H : Hp) (ρ : Rho) (h : SHp) : Prop where
  len : ρ.l.length = h.length
  nd : ρ.l.Nodup
  ob : ∀ (i : Nat) (o : SO), h[i]? = some o → ∃ a, ρ.l[i]? = some a ∧ ObjRel K H ρ a o
  hx : ∀ d ∈ ρ.ex, ∃ o, H d = some o
  tb : NdefX.TabsN Tabl.T H
  dj : ∀ d ∈ ρ.l, d ∉ ρ.ex
omit [Tabl] in
def RelE (K : PySem.W.Frag) (H : Hp) (ρ : Rho) (e : Env) (σ : St) : Prop :=
  e.length = σ.length ∧ ∀ (i : Nat) (s : SV), e[i]? = some (some s) → ∃ v, σ[i]? = some (some v) ∧ RelS K H ρ s v

omit [Tabl] in
/-- what a step leaves: the changing objects stand on, in their sequence, new ones behind them; what was tracked and does not change is as it was -/
structure Ext (ρ : Rho) (H : Hp) (ρ' : Rho) (H' : Hp) : Prop where
  pre : ρ.l <+: ρ'.l
  new : ∀ a ∈ ρ'.l, a ∈ ρ.l ∨ H a = none
  kp : ∀ b o, H b = some o → b ∉ ρ.l → (∀ ps, o ≠ .tbl ps) → (∀ k, o ≠ .dK k) → H' b = some o
  dk : ∀ b k, H b = some (.dK k) → b ∉ ρ.l → H' b = some (.dK k) ∨ (b ∉ ρ.ex ∧ ∃ od, H' b = some (.frz od (.dK k)))
  tbl : ∀ b ps, H b = some (.tbl ps) → b ∉ ρ.l → ∃ qs, H' b = some (.tbl qs)
  hid : ∀ a ∈ ρ'.ex, a ∈ ρ.ex ∨ (H a = none ∧ a ∉ ρ.l)
  sub : ∀ a ∈ ρ.ex, a ∈ ρ'.ex

section
variable {K : PySem.W.Frag} {H H' H'' : Hp} {ρ ρ' ρ'' : Rho} {xs ys : List SV} {vs us : List V} {x : SV} {v : V}
theorem Ext.kept (E : Ext ρ H ρ' H') (b : Addr) (o : HO) (h : H b = some o) (n : b ∉ ρ.l) (nt : ∀ ps, o ≠ .tbl ps := by intro ps z; cases z) (nd : ∀ k, o ≠ .dK k := by intro ps z; cases z) : H' b = some o := E.kp b o h n nt nd
theorem Ext.keptD (E : Ext ρ H ρ' H') {b : Addr} {k : List (Key × V)} (h : H b = some (.dK k)) (n : b ∉ ρ.l) (x : b ∈ ρ.ex) : H' b = some (.dK k) := (E.dk b k h n).elim id fun z => absurd x z.1
theorem Ext.keptR (E : Ext ρ H ρ' H') {b : Addr} {k : List (Key × V)} (h : Rd H b (.dK k)) (n : b ∉ ρ.l) : Rd H' b (.dK k) := by
  rcases h with h | ⟨o, h⟩
  · exact (E.dk b k h n).imp id And.right
  · exact .inr ⟨o, E.kept b _ h n⟩
theorem Ext.all (pre : ρ.l <+: ρ'.l) (new : ∀ a ∈ ρ'.l, a ∈ ρ.l ∨ H a = none) (kept : ∀ b o, H b = some o → b ∉ ρ.l → H' b = some o) (hid : ∀ a ∈ ρ'.ex, a ∈ ρ.ex ∨ (H a = none ∧ a ∉ ρ.l)) (sub : ∀ a ∈ ρ.ex, a ∈ ρ'.ex) : Ext ρ H ρ' H' :=
  ⟨pre, new, fun b o h n _ _ => kept b o h n, fun b k h n => .inl (kept b _ h n), fun b ps h n => ⟨ps, kept b _ h n⟩, hid, sub⟩
theorem Ext.refl : Ext ρ H ρ H := .all (List.prefix_refl _) (fun _ h => .inl h) (fun _ _ h _ => h) (fun _ h => .inl h) (fun _ h => h)
theorem Ext.there (E : Ext ρ H ρ' H') {b : Addr} {o : HO} (h : H b = some o) (n : b ∉ ρ.l) : ∃ o', H' b = some o' := by
  by_cases z : ∃ ps, o = .tbl ps
  · obtain ⟨ps, rfl⟩ := z
    obtain ⟨qs, q⟩ := E.tbl b ps h n
    exact ⟨_, q⟩
  · by_cases y : ∃ k, o = .dK k
    · obtain ⟨k, rfl⟩ := y
      rcases E.dk b k h n with q | ⟨_, od, q⟩ <;> exact ⟨_, q⟩
    · exact ⟨o, E.kp b o h n (fun ps e => z ⟨ps, e⟩) fun k e => y ⟨k, e⟩⟩
/-! tables of code objects -/
omit [Tabl] in
def Codish : HO → Prop
  | .tbl _ => True
  | .ext _ => True
  | _ => False
theorem tabs_upd {T : List NdefX.NTab} {p : Addr} {o : HO} (t : NdefX.TabsN T H) (hp : ∀ u, H p = some u → ¬ Codish u) : NdefX.TabsN T (upd H p o) := fun q hq => by
  obtain ⟨ps, h1, h2, h3⟩ := t q hq
  have ne : ∀ b u, H b = some u → Codish u → b ≠ p := fun b u e c z => hp u (z ▸ e) c
  refine ⟨ps, by rw [upd_ne (ne _ _ h1 trivial)]; exact h1, h2, fun pos cv hc => ?_⟩
  obtain ⟨c, e1, e2⟩ := h3 pos cv hc
  exact ⟨c, e1, by rw [upd_ne (ne _ _ e2 trivial)]; exact e2⟩
theorem tabs_fresh {T : List NdefX.NTab} {p : Addr} {o : HO} (t : NdefX.TabsN T H) (hp : H p = none) : NdefX.TabsN T (upd H p o) := tabs_upd t fun u q => by rw [hp] at q; cases q
theorem Ext.outl (E : Ext ρ H ρ' H') {b : Addr} {o : HO} (h : H b = some o) (n : b ∉ ρ.l) : b ∉ ρ'.l := fun hb => by
  rcases E.new b hb with q | q
  · exact n q
  · rw [h] at q; cases q
theorem Ext.out (E : Ext ρ H ρ' H') {b : Addr} {o : HO} (h : H b = some o) (n : ρ.out b) : ρ'.out b := ⟨E.outl h n.1, fun hb => by
  rcases E.hid b hb with q | q
  · exact n.2 q
  · rw [h] at q; cases q.1⟩
theorem Ext.none_of (E : Ext ρ H ρ' H') {a : Addr} (q : H' a = none) (m : a ∉ ρ.l) : H a = none := by
  cases e : H a with
  | none => rfl
  | some o => obtain ⟨o', z⟩ := E.there e m; rw [z] at q; cases q
theorem Ext.tr (E : Ext ρ H ρ' H') (F : Ext ρ' H' ρ'' H'') : Ext ρ H ρ'' H'' := by
  refine ⟨E.pre.trans F.pre, fun a ha => ?_, fun b o hb n nt nd => F.kp b o (E.kp b o hb n nt nd) (E.outl hb n) nt nd, fun b k hb n => ?_, fun b ps hb n => ?_, fun a ha => ?_, fun a ha => F.sub a (E.sub a ha)⟩
  · rcases F.new a ha with q | q
    · exact E.new a q
    · by_cases m : a ∈ ρ.l
      · exact .inl m
      · exact .inr (E.none_of q m)
  · rcases E.dk b k hb n with q | ⟨x, od, q⟩
    · rcases F.dk b k q (E.outl hb n) with r | ⟨y, r⟩
      · exact .inl r
      · exact .inr ⟨fun m => y (E.sub b m), r⟩
    · exact .inr ⟨x, od, F.kept b _ q (E.outl hb n)⟩
  · obtain ⟨qs, q⟩ := E.tbl b ps hb n
    exact F.tbl b qs q (E.outl hb n)
  · rcases F.hid a ha with q | ⟨q, m⟩
    · exact E.hid a q
    · have m' : a ∉ ρ.l := fun z => m (E.pre.subset z)
      exact .inr ⟨E.none_of q m', m'⟩
theorem prefix_get {l l' : List α} (p : l <+: l') {i : Nat} {a : α} (h : l[i]? = some a) : l'[i]? = some a := by
  obtain ⟨t, rfl⟩ := p
  rw [List.getElem?_append_left (List.getElem?_eq_some_iff.mp h).1]; exact h

theorem nodup_at {l : List Addr} (h : l.Nodup) {i j : Nat} {x : Addr} (a : l[i]? = some x) (b : l[j]? = some x) : i = j := by
  obtain ⟨h1, e1⟩ := List.getElem?_eq_some_iff.mp a
  obtain ⟨h2, e2⟩ := List.getElem?_eq_some_iff.mp b
  have hp := List.pairwise_iff_getElem.mp h
  rcases Nat.lt_trichotomy i j with q | q | q
  · exact (hp i j h1 h2 q (e1.trans e2.symm)).elim
  · exact q
  · exact (hp j i h2 h1 q (e2.trans e1.symm)).elim
theorem SqT_keep (hT : ∀ a us, H a = some (.tup us) → H' a = some (.tup us)) (hF : ∀ a o u, H a = some (.frz o u) → H' a = some (.frz o u)) {a : Addr} (h : SqT K H a us) : SqT K H' a us := by
  rcases h with (h | ⟨o, h⟩) | h
  · exact .inl (.inl (hT _ _ h))
  · exact .inl (.inr ⟨o, hF _ _ _ h⟩)
  · exact .inr h
omit [Tabl] in
/-- what keeps values: the changing objects hold no tuple and nothing locked -/
structure Holds (H : Hp) (ρ : Rho) : Prop where
  ch : ∀ a ∈ ρ.l, (∃ xs, H a = some (.lst xs)) ∨ (∃ k, H a = some (.dK k)) ∨ (∃ k, H a = some (.dT k)) ∨ ∃ C dx fv, H a = some (.ins C dx fv)
theorem RelH.holds {h : SHp} (R : RelH K H ρ h) : Holds H ρ := by
  refine ⟨fun a ha => ?_⟩
  obtain ⟨i, hi⟩ := List.mem_iff_getElem?.mp ha
  have hl : i < h.length := by rw [← R.len]; exact (List.getElem?_eq_some_iff.mp hi).1
  obtain ⟨b, hb, q⟩ := R.ob i h[i] (by simp [hl])
  rw [hi] at hb; cases hb
  cases e : h[i] with
  | lst xs => rw [e] at q; obtain ⟨vs, q, _⟩ := q; exact .inl ⟨_, q⟩
  | dic t ks xs => rw [e] at q; rcases q with ⟨kvs, q, _⟩ | ⟨kvs, q, _⟩; exact .inr (.inl ⟨_, q⟩); exact .inr (.inr (.inl ⟨_, q⟩))
  | ins C ns xs => rw [e] at q; obtain ⟨dx, fv, q, _⟩ := q; exact .inr (.inr (.inr ⟨_, _, _, q⟩))
theorem Holds.nocode (L : Holds H ρ) {p : Addr} (m : p ∈ ρ.l) : ∀ u, H p = some u → ¬ Codish u := fun u q c => by
  rcases L.ch p m with ⟨_, z⟩ | ⟨_, z⟩ | ⟨_, z⟩ | ⟨_, _, _, z⟩ <;> (rw [z] at q; cases q; exact c)
theorem Holds.notup (L : Holds H ρ) {a : Addr} (h : H a = some (.tup us)) : a ∉ ρ.l := fun m => by
  rcases L.ch a m with ⟨_, q⟩ | ⟨_, q⟩ | ⟨_, q⟩ | ⟨_, _, _, q⟩ <;> (rw [h] at q; cases q)
theorem Holds.nofrz (L : Holds H ρ) {a : Addr} {o : Obj} {u : HO} (h : H a = some (.frz o u)) : a ∉ ρ.l := fun m => by
  rcases L.ch a m with ⟨_, q⟩ | ⟨_, q⟩ | ⟨_, q⟩ | ⟨_, _, _, q⟩ <;> (rw [h] at q; cases q)
theorem Holds.noxd (L : Holds H ρ) {a : Addr} {fs : List (Str × V)} (h : H a = some (.xd fs)) : a ∉ ρ.l := fun m => by
  rcases L.ch a m with ⟨_, q⟩ | ⟨_, q⟩ | ⟨_, q⟩ | ⟨_, _, _, q⟩ <;> (rw [h] at q; cases q)
theorem RelL.mono (r : RelL K H ρ xs vs) (L : Holds H ρ) (E : Ext ρ H ρ' H') : RelL K H' ρ' xs vs := by
  induction r with
  | nil => exact .nil
  | non _ ih => exact .non ih
  | bl _ ih => exact .bl ih
  | int _ ih => exact .int ih
  | str _ ih => exact .str ih
  | ty _ ih => exact .ty ih
  | adr _ ih => exact .adr ih
  | ref h _ ih => exact .ref (prefix_get E.pre h) ih
  | tup h _ _ i1 i2 => exact .tup (E.kept _ _ h (L.notup h)) i1 i2
  | rls h n _ _ i1 i2 => exact .rls (E.kept _ _ h n.1) (E.out h n) i1 i2
  | frl h _ _ i1 i2 =>
    refine .frl ?_ i1 i2
    rcases h with ⟨h | ⟨o, h⟩, n⟩ | h
    · exact .inl ⟨.inl (E.kept _ _ h n.1), E.out h n⟩
    · exact .inl ⟨.inr ⟨o, E.kept _ _ h n.1⟩, E.out h n⟩
    · exact .inr h
  | obj h n e _ _ i1 i2 => exact .obj (E.kept _ _ h n.1) (E.out h n) e i1 i2
  | xcp h e _ _ i1 i2 => exact .xcp (E.kept _ _ h (L.noxd h)) e i1 i2
  | rdK h n e _ _ i1 i2 =>
    have q := E.keptR h n.1
    rcases h with h | ⟨o, h⟩
    · exact .rdK q (E.out h n) e i1 i2
    · exact .rdK q (E.out h n) e i1 i2
  | rdT h n e _ _ i1 i2 => exact .rdT (E.kept _ _ h n.1) (E.out h n) e i1 i2
theorem RelL.cons (r : RelS K H ρ x v) (q : RelL K H ρ xs vs) : RelL K H ρ (x :: xs) (v :: vs) := by
  cases r with
  | non _ => exact .non q
  | bl _ => exact .bl q
  | int _ => exact .int q
  | str _ => exact .str q
  | ty _ => exact .ty q
  | adr _ => exact .adr q
  | ref h _ => exact .ref h q
  | tup h a _ => exact .tup h a q
  | rls h n a _ => exact .rls h n a q
  | frl h a _ => exact .frl h a q
  | obj h n e a _ => exact .obj h n e a q
  | xcp h e a _ => exact .xcp h e a q
  | rdK h n e a _ => exact .rdK h n e a q
  | rdT h n e a _ => exact .rdT h n e a q
theorem RelL.inv (r : RelL K H ρ (x :: xs) vs) : ∃ v us, vs = v :: us ∧ RelS K H ρ x v ∧ RelL K H ρ xs us := by
  cases r with
  | non q => exact ⟨_, _, rfl, .non .nil, q⟩
  | bl q => exact ⟨_, _, rfl, .bl .nil, q⟩
  | int q => exact ⟨_, _, rfl, .int .nil, q⟩
  | str q => exact ⟨_, _, rfl, .str .nil, q⟩
  | ty q => exact ⟨_, _, rfl, .ty .nil, q⟩
  | adr q => exact ⟨_, _, rfl, .adr .nil, q⟩
  | ref h q => exact ⟨_, _, rfl, .ref h .nil, q⟩
  | tup h a q => exact ⟨_, _, rfl, .tup h a .nil, q⟩
  | rls h n a q => exact ⟨_, _, rfl, .rls h n a .nil, q⟩
  | frl h a q => exact ⟨_, _, rfl, .frl h a .nil, q⟩
  | obj h n e a q => exact ⟨_, _, rfl, .obj h n e a .nil, q⟩
  | xcp h e a q => exact ⟨_, _, rfl, .xcp h e a .nil, q⟩
  | rdK h n e a q => exact ⟨_, _, rfl, .rdK h n e a .nil, q⟩
  | rdT h n e a q => exact ⟨_, _, rfl, .rdT h n e a .nil, q⟩
theorem RelL.nil_inv (r : RelL K H ρ [] vs) : vs = [] := by cases r; rfl
theorem RelL.length : ∀ {xs : List SV} {vs : List V}, RelL K H ρ xs vs → xs.length = vs.length
  | [], _, r => by rw [r.nil_inv]; rfl
  | x :: xs, _, r => by
    obtain ⟨v, us, rfl, _, q⟩ := r.inv
    simp [RelL.length q]
theorem RelL.get : ∀ {xs : List SV} {vs : List V} {i : Nat} {x : SV}, RelL K H ρ xs vs → xs[i]? = some x → ∃ v, vs[i]? = some v ∧ RelS K H ρ x v
  | [], _, _, _, _, e => by simp at e
  | y :: xs, _, i, x, r, e => by
    obtain ⟨v, us, rfl, a, q⟩ := r.inv
    cases i with
    | zero => simp at e; subst e; exact ⟨_, rfl, a⟩
    | succ i => obtain ⟨w, h1, h2⟩ := RelL.get (i := i) q (by simpa using e); exact ⟨w, by simpa using h1, h2⟩
theorem RelL.app : ∀ {xs ys : List SV} {vs us : List V}, RelL K H ρ xs vs → RelL K H ρ ys us → RelL K H ρ (xs ++ ys) (vs ++ us)
  | [], _, _, _, r, q => by rw [r.nil_inv]; exact q
  | x :: xs, _, _, _, r, q => by
    obtain ⟨v, us, rfl, a, b⟩ := r.inv
    exact .cons a (RelL.app b q)
theorem RelL.snoc (r : RelL K H ρ xs vs) (q : RelS K H ρ x v) : RelL K H ρ (xs ++ [x]) (vs ++ [v]) := r.app q
theorem RelL.one (r : RelS K H ρ x v) : RelL K H ρ [x] [v] := r
theorem RelL.split : ∀ {xs ys : List SV} {vs : List V}, RelL K H ρ (xs ++ ys) vs → ∃ u w, vs = u ++ w ∧ RelL K H ρ xs u ∧ RelL K H ρ ys w
  | [], _, vs, r => ⟨[], vs, rfl, .nil, r⟩
  | x :: xs, _, _, r => by
    obtain ⟨v, us, rfl, a, q⟩ := r.inv
    obtain ⟨u, w, rfl, b, c⟩ := RelL.split (xs := xs) q
    exact ⟨v :: u, w, rfl, .cons a b, c⟩
theorem RelE.mono {e : Env} {σ : St} (r : RelE K H ρ e σ) (L : Holds H ρ) (E : Ext ρ H ρ' H') : RelE K H' ρ' e σ :=
  ⟨r.1, fun i s h => let ⟨v, a, b⟩ := r.2 i s h; ⟨v, a, b.mono L E⟩⟩
theorem ObjRel.mono {a : Addr} {o : SO} (r : ObjRel K H ρ a o) (L : Holds H ρ) (E : Ext ρ H ρ' H') (same : H' a = H a) : ObjRel K H' ρ' a o := by
  cases o with
  | lst xs => obtain ⟨vs, h, q⟩ := r; exact ⟨vs, by rw [same]; exact h, q.mono L E⟩
  | dic t ks xs =>
    rcases r with ⟨kvs, h, e, q⟩ | ⟨kvs, h, e, q⟩
    · exact .inl ⟨kvs, by rw [same]; exact h, e, q.mono L E⟩
    · exact .inr ⟨kvs, by rw [same]; exact h, e, q.mono L E⟩
  | ins C ns xs => obtain ⟨dx, fv, h, e, q⟩ := r; exact ⟨dx, fv, by rw [same]; exact h, e, q.mono L E⟩
theorem RelH.mono {h : SHp} (R : RelH K H ρ h) (E : Ext ρ H ρ H') (same : ∀ a ∈ ρ.l, H' a = H a) (tb : NdefX.TabsN Tabl.T H') : RelH K H' ρ h :=
  ⟨R.len, R.nd, fun i o q => let ⟨a, b, c⟩ := R.ob i o q; ⟨a, b, c.mono R.holds E (same a (List.mem_of_getElem? b))⟩, fun d hd => by
    obtain ⟨o, q⟩ := R.hx d hd
    by_cases m : d ∈ ρ.l
    · exact ⟨o, by rw [same d m]; exact q⟩
    · exact E.there q m, tb, R.dj⟩
theorem RelH.outf {h : SHp} (R : RelH K H ρ h) {p : Addr} (hp : H p = none) : ρ.out p := ⟨fun m => by
  rcases R.holds.ch p m with ⟨_, q⟩ | ⟨_, q⟩ | ⟨_, q⟩ | ⟨_, _, _, q⟩ <;> (rw [hp] at q; cases q), fun m => by
  obtain ⟨o, q⟩ := R.hx p m
  rw [hp] at q; cases q⟩
/-- something new that nobody changes -/
theorem Ext.fresh {p : Addr} {o : HO} (hp : H p = none) : Ext ρ H ρ (upd H p o) := .all (List.prefix_refl _) (fun _ h => .inl h) (fun b u q _ => by rw [upd_ne (ne_of_none q hp)]; exact q) (fun _ h => .inl h) (fun _ h => h)
theorem Holds.free (L : Holds H ρ) {p : Addr} (hp : H p = none) : p ∉ ρ.l := fun m => by
  rcases L.ch p m with ⟨_, q⟩ | ⟨_, q⟩ | ⟨_, q⟩ | ⟨_, _, _, q⟩ <;> (rw [hp] at q; cases q)
theorem RelH.fresh {h : SHp} {p : Addr} {o : HO} (R : RelH K H ρ h) (hp : H p = none) : RelH K (upd H p o) ρ h :=
  R.mono (.fresh hp) (fun a m => upd_ne fun e => R.holds.free hp (e ▸ m)) (tabs_fresh R.tb hp)
/-- at what the ground does not know -/
theorem Ext.at0 {d : Addr} {o : HO} (E : Ext ρ H ρ' H') (hd : H d = none) : Ext ρ H ρ' (upd H' d o) :=
  ⟨E.pre, E.new, fun b u q n nt nd => by rw [upd_ne (ne_of_none q hd)]; exact E.kp b u q n nt nd, fun b k q n => by rw [upd_ne (ne_of_none q hd)]; exact E.dk b k q n, fun b ps q n => by rw [upd_ne (ne_of_none q hd)]; exact E.tbl b ps q n, E.hid, E.sub⟩
omit [Tabl] in
/-- a new changing object -/
def Rho.add (ρ : Rho) (p : Addr) : Rho := ⟨ρ.l ++ [p], ρ.ex⟩
theorem Ext.alloc {p : Addr} {o : HO} (hp : H p = none) : Ext ρ H (ρ.add p) (upd H p o) :=
  .all (List.prefix_append _ _) (fun a h => by
    rcases List.mem_append.mp h with q | q
    · exact .inl q
    · rw [List.mem_singleton.mp q]; exact .inr hp) (fun b u q _ => by rw [upd_ne (ne_of_none q hp)]; exact q) (fun _ h => .inl h) (fun _ h => h)
theorem RelH.alloc {h : SHp} {p : Addr} {o : HO} {so : SO} (R : RelH K H ρ h) (hp : H p = none) (q : ObjRel K (upd H p o) (ρ.add p) p so) : RelH K (upd H p o) (ρ.add p) (h ++ [so]) := by
  have np : p ∉ ρ.l := R.holds.free hp
  refine ⟨by simp [Rho.add, R.len], List.nodup_append.mpr ⟨R.nd, by simp, fun a ha b hb e => ?_⟩, fun i u hi => ?_, fun d hd => ?_, tabs_fresh R.tb hp, fun d hd hx => ?_⟩
  · rw [List.mem_singleton.mp hb] at e; exact np (e ▸ ha)
  · by_cases hl : i < h.length
    · rw [List.getElem?_append_left hl] at hi
      obtain ⟨a, b, c⟩ := R.ob i u hi
      refine ⟨a, prefix_get (List.prefix_append _ _) b, c.mono R.holds (.alloc hp) (upd_ne fun e => np (e ▸ List.mem_of_getElem? b))⟩
    · have hi' : i = h.length := by
        have := (List.getElem?_eq_some_iff.mp hi).1
        simp at this; omega
      subst hi'
      simp at hi; subst hi
      exact ⟨p, by rw [← R.len]; simp [Rho.add], q⟩
  · obtain ⟨u, z⟩ := R.hx d hd
    exact ⟨u, by rw [upd_ne (ne_of_none z hp)]; exact z⟩
  · rcases List.mem_append.mp hd with q | q
    · exact R.dj d q hx
    · rw [List.mem_singleton.mp q] at hx
      obtain ⟨u, z⟩ := R.hx p hx
      rw [hp] at z; cases z
/-- an object is changed -/
theorem Ext.write {p : Addr} {o : HO} (hp : p ∈ ρ.l) : Ext ρ H ρ (upd H p o) := .all (List.prefix_refl _) (fun _ h => .inl h) (fun b u q n => by rw [upd_ne (fun e => n (by rw [e]; exact hp))]; exact q) (fun _ h => .inl h) (fun _ h => h)
theorem RelH.write {h : SHp} {i : Nat} {p : Addr} {o : HO} {so : SO} (R : RelH K H ρ h) (hi : ρ.l[i]? = some p) (q : ObjRel K (upd H p o) ρ p so) : RelH K (upd H p o) ρ (h.set i so) := by
  refine ⟨by simp [R.len], R.nd, fun j u hj => ?_, fun d hd => ?_, tabs_upd R.tb (R.holds.nocode (List.mem_of_getElem? hi)), R.dj⟩
  by_cases e : i = j
  · subst e
    have hl : i < h.length := by rw [← R.len]; exact (List.getElem?_eq_some_iff.mp hi).1
    rw [List.getElem?_set_self hl] at hj
    cases hj
    exact ⟨p, hi, q⟩
  · rw [List.getElem?_set_ne e] at hj
    obtain ⟨a, b, c⟩ := R.ob j u hj
    refine ⟨a, b, c.mono R.holds (.write (List.mem_of_getElem? hi)) (upd_ne fun z => e ?_)⟩
    subst z
    exact nodup_at R.nd hi b
  · by_cases z : d = p
    · exact ⟨o, by rw [z]; exact upd_same⟩
    · rw [upd_ne z]; exact R.hx d hd

/-! ### what is hidden -/
omit [Tabl] in
def Rho.hide (ρ : Rho) (d : Addr) : Rho := ⟨ρ.l, d :: ρ.ex⟩
theorem RelL.re (r : RelL K H ρ xs vs) (hl : ρ.l <+: ρ'.l) (out : ∀ a, ρ.out a → ρ'.out a) : RelL K H ρ' xs vs := by
  induction r with
  | nil => exact .nil
  | non _ ih => exact .non ih
  | bl _ ih => exact .bl ih
  | int _ ih => exact .int ih
  | str _ ih => exact .str ih
  | ty _ ih => exact .ty ih
  | adr _ ih => exact .adr ih
  | ref h _ ih => exact .ref (prefix_get hl h) ih
  | tup h _ _ i1 i2 => exact .tup h i1 i2
  | rls h n _ _ i1 i2 => exact .rls h (out _ n) i1 i2
  | frl h _ _ i1 i2 => exact .frl (h.imp (fun z => ⟨z.1, out _ z.2⟩) id) i1 i2
  | obj h n e _ _ i1 i2 => exact .obj h (out _ n) e i1 i2
  | xcp h e _ _ i1 i2 => exact .xcp h e i1 i2
  | rdK h n e _ _ i1 i2 => exact .rdK h (out _ n) e i1 i2
  | rdT h n e _ _ i1 i2 => exact .rdT h (out _ n) e i1 i2
theorem ObjRel.re {a : Addr} {o : SO} (r : ObjRel K H ρ a o) (hl : ρ.l <+: ρ'.l) (out : ∀ a, ρ.out a → ρ'.out a) : ObjRel K H ρ' a o := by
  cases o with
  | lst xs => obtain ⟨vs, h, q⟩ := r; exact ⟨vs, h, q.re hl out⟩
  | dic t ks xs =>
    rcases r with ⟨kvs, h, e, q⟩ | ⟨kvs, h, e, q⟩
    · exact .inl ⟨kvs, h, e, q.re hl out⟩
    · exact .inr ⟨kvs, h, e, q.re hl out⟩
  | ins C ns xs => obtain ⟨dx, fv, h, e, q⟩ := r; exact ⟨dx, fv, h, e, q.re hl out⟩
/-- fewer hidden -/
theorem RelL.show (r : RelL K H ρ xs vs) (hl : ρ'.l = ρ.l) (hs : ∀ a ∈ ρ'.ex, a ∈ ρ.ex) : RelL K H ρ' xs vs := by
  have out : ∀ a, ρ.out a → ρ'.out a := fun a n => ⟨by rw [hl]; exact n.1, fun m => n.2 (hs a m)⟩
  induction r with
  | nil => exact .nil
  | non _ ih => exact .non ih
  | bl _ ih => exact .bl ih
  | int _ ih => exact .int ih
  | str _ ih => exact .str ih
  | ty _ ih => exact .ty ih
  | adr _ ih => exact .adr ih
  | ref h _ ih => exact .ref (by rw [hl]; exact h) ih
  | tup h _ _ i1 i2 => exact .tup h i1 i2
  | rls h n _ _ i1 i2 => exact .rls h (out _ n) i1 i2
  | frl h _ _ i1 i2 => exact .frl (h.imp (fun z => ⟨z.1, out _ z.2⟩) id) i1 i2
  | obj h n e _ _ i1 i2 => exact .obj h (out _ n) e i1 i2
  | xcp h e _ _ i1 i2 => exact .xcp h e i1 i2
  | rdK h n e _ _ i1 i2 => exact .rdK h (out _ n) e i1 i2
  | rdT h n e _ _ i1 i2 => exact .rdT h (out _ n) e i1 i2
theorem ObjRel.show {a : Addr} {o : SO} (r : ObjRel K H ρ a o) (hl : ρ'.l = ρ.l) (hs : ∀ a ∈ ρ'.ex, a ∈ ρ.ex) : ObjRel K H ρ' a o := by
  cases o with
  | lst xs => obtain ⟨vs, h, q⟩ := r; exact ⟨vs, h, q.show hl hs⟩
  | dic t ks xs =>
    rcases r with ⟨kvs, h, e, q⟩ | ⟨kvs, h, e, q⟩
    · exact .inl ⟨kvs, h, e, q.show hl hs⟩
    · exact .inr ⟨kvs, h, e, q.show hl hs⟩
  | ins C ns xs => obtain ⟨dx, fv, h, e, q⟩ := r; exact ⟨dx, fv, h, e, q.show hl hs⟩
theorem RelH.show {h : SHp} (R : RelH K H ρ h) (hl : ρ'.l = ρ.l) (hs : ∀ a ∈ ρ'.ex, a ∈ ρ.ex) : RelH K H ρ' h :=
  ⟨by rw [hl]; exact R.len, by rw [hl]; exact R.nd, fun i o q => let ⟨a, b, c⟩ := R.ob i o q; ⟨a, by rw [hl]; exact b, c.show hl hs⟩, fun d hd => R.hx d (hs d hd), R.tb, fun d hd hx => R.dj d (by rw [hl] at hd; exact hd) (hs d hx)⟩
theorem RelE.show {e : Env} {σ : St} (r : RelE K H ρ e σ) (hl : ρ'.l = ρ.l) (hs : ∀ a ∈ ρ'.ex, a ∈ ρ.ex) : RelE K H ρ' e σ :=
  ⟨r.1, fun i s h => let ⟨v, a, b⟩ := r.2 i s h; ⟨v, a, b.show hl hs⟩⟩
/-- a new hidden object -/
theorem Ext.hidden {p : Addr} {o : HO} (hp : H p = none) (L : Holds H ρ) : Ext ρ H (ρ.hide p) (upd H p o) :=
  .all (List.prefix_refl _) (fun _ h => .inl h) (fun b u q _ => by rw [upd_ne (ne_of_none q hp)]; exact q) (fun a h => by
    rcases List.mem_cons.mp h with q | q
    · subst q; exact .inr ⟨hp, L.free hp⟩
    · exact .inl q) (fun _ h => List.mem_cons_of_mem _ h)
theorem RelH.hidden {h : SHp} {p : Addr} {o : HO} (R : RelH K H ρ h) (hp : H p = none) : RelH K (upd H p o) (ρ.hide p) h :=
  ⟨R.len, R.nd, fun i u q => let ⟨a, b, c⟩ := R.ob i u q; ⟨a, b, c.mono R.holds (.hidden hp R.holds) (upd_ne fun e => R.holds.free hp (e ▸ List.mem_of_getElem? b))⟩, fun d hd => by
    rcases List.mem_cons.mp hd with q | q
    · exact ⟨o, by rw [q]; exact upd_same⟩
    · obtain ⟨u, z⟩ := R.hx d q
      exact ⟨u, by rw [upd_ne (ne_of_none z hp)]; exact z⟩, tabs_fresh R.tb hp, fun d hd hx => by
    rcases List.mem_cons.mp hx with q | q
    · subst q; exact R.holds.free hp hd
    · exact R.dj d hd q⟩
omit [Tabl] in
def Plain (H : Hp) (d : Addr) : Prop := (∀ us, H d ≠ some (.tup us)) ∧ (∀ o u, H d ≠ some (.frz o u)) ∧ (∀ fs, H d ≠ some (.xd fs)) ∧ ∀ u, H d = some u → ¬ Codish u
theorem Plain.lst {d : Addr} {us : List V} (h : H d = some (.lst us)) : Plain H d := by
  refine ⟨fun us q => ?_, fun o u q => ?_, fun fs q => ?_, fun u q c => ?_⟩ <;> (rw [h] at q; cases q) <;> exact c
theorem Plain.dK {d : Addr} {k : List (Key × V)} (h : H d = some (.dK k)) : Plain H d := by
  refine ⟨fun us q => ?_, fun o u q => ?_, fun fs q => ?_, fun u q c => ?_⟩ <;> (rw [h] at q; cases q) <;> exact c
theorem Plain.dT {d : Addr} {k : List (List Key × V)} (h : H d = some (.dT k)) : Plain H d := by
  refine ⟨fun us q => ?_, fun o u q => ?_, fun fs q => ?_, fun u q c => ?_⟩ <;> (rw [h] at q; cases q) <;> exact c
/-- a hidden list is changed -/
theorem RelL.scribble {d : Addr} {o : HO} (r : RelL K H ρ xs vs) (hd : d ∈ ρ.ex) (hH : Plain H d) : RelL K (upd H d o) ρ xs vs := by
  have ne : ∀ a, ρ.out a → a ≠ d := fun a n z => n.2 (z ▸ hd)
  have nt : ∀ a us, H a = some (.tup us) → a ≠ d := fun a us q z => by subst z; exact hH.1 _ q
  have nf : ∀ a o u, H a = some (.frz o u) → a ≠ d := fun a o u q z => by subst z; exact hH.2.1 _ _ q
  have nx : ∀ a fs, H a = some (.xd fs) → a ≠ d := fun a fs q z => by subst z; exact hH.2.2.1 _ q
  induction r with
  | nil => exact .nil
  | non _ ih => exact .non ih
  | bl _ ih => exact .bl ih
  | int _ ih => exact .int ih
  | str _ ih => exact .str ih
  | ty _ ih => exact .ty ih
  | adr _ ih => exact .adr ih
  | ref h _ ih => exact .ref h ih
  | tup h _ _ i1 i2 => exact .tup (by rw [upd_ne (nt _ _ h)]; exact h) i1 i2
  | rls h n _ _ i1 i2 => exact .rls (by rw [upd_ne (ne _ n)]; exact h) n i1 i2
  | frl h _ _ i1 i2 =>
    refine .frl ?_ i1 i2
    rcases h with ⟨h | ⟨o, h⟩, n⟩ | h
    · exact .inl ⟨.inl (by rw [upd_ne (ne _ n)]; exact h), n⟩
    · exact .inl ⟨.inr ⟨o, by rw [upd_ne (ne _ n)]; exact h⟩, n⟩
    · exact .inr h
  | obj h n e _ _ i1 i2 => exact .obj (by rw [upd_ne (ne _ n)]; exact h) n e i1 i2
  | xcp h e _ _ i1 i2 => exact .xcp (by rw [upd_ne (nx _ _ h)]; exact h) e i1 i2
  | rdK h n e _ _ i1 i2 => exact .rdK (by unfold L2.Rd; rw [upd_ne (ne _ n)]; exact h) n e i1 i2
  | rdT h n e _ _ i1 i2 => exact .rdT (by rw [upd_ne (ne _ n)]; exact h) n e i1 i2
theorem RelH.scribble {h : SHp} {d : Addr} {o : HO} (R : RelH K H ρ h) (hd : d ∈ ρ.ex) (hH : Plain H d) (hn : d ∉ ρ.l) : RelH K (upd H d o) ρ h := by
  refine ⟨R.len, R.nd, fun i u q => ?_, fun e he => by
    by_cases z : e = d
    · exact ⟨o, by rw [z]; exact upd_same⟩
    · rw [upd_ne z]; exact R.hx e he, tabs_upd R.tb hH.2.2.2, R.dj⟩
  obtain ⟨a, b, c⟩ := R.ob i u q
  have ne : a ≠ d := fun z => hn (z ▸ List.mem_of_getElem? b)
  refine ⟨a, b, ?_⟩
  cases u with
  | lst xs => obtain ⟨vs, h, q⟩ := c; exact ⟨vs, by rw [upd_ne ne]; exact h, q.scribble hd hH⟩
  | dic t ks xs =>
    rcases c with ⟨kvs, h, e, q⟩ | ⟨kvs, h, e, q⟩
    · exact .inl ⟨kvs, by rw [upd_ne ne]; exact h, e, q.scribble hd hH⟩
    · exact .inr ⟨kvs, by rw [upd_ne ne]; exact h, e, q.scribble hd hH⟩
  | ins C ns xs => obtain ⟨dx, fv, h, e, q⟩ := c; exact ⟨dx, fv, by rw [upd_ne ne]; exact h, e, q.scribble hd hH⟩
theorem RelE.scribble {e : Env} {σ : St} {d : Addr} {o : HO} (r : RelE K H ρ e σ) (hd : d ∈ ρ.ex) (hH : Plain H d) : RelE K (upd H d o) ρ e σ :=
  ⟨r.1, fun i s h => let ⟨v, a, b⟩ := r.2 i s h; ⟨v, a, b.scribble hd hH⟩⟩
/-- a hidden object becomes one of the changing ones -/
theorem RelH.promote {h : SHp} {d : Addr} {ex : List Addr} {so : SO} (R : RelH K H ρ h) (hd : d ∈ ρ.ex) (hs : ∀ a ∈ ex, a ∈ ρ.ex) (hn : d ∉ ex) (q : ObjRel K H ⟨ρ.l ++ [d], ex⟩ d so) : RelH K H ⟨ρ.l ++ [d], ex⟩ (h ++ [so]) := by
  have nl : d ∉ ρ.l := fun m => R.dj d m hd
  have out : ∀ a, ρ.out a → Rho.out ⟨ρ.l ++ [d], ex⟩ a := fun a o => ⟨fun m => by
    rcases List.mem_append.mp m with z | z
    · exact o.1 z
    · rw [List.mem_singleton.mp z] at o; exact o.2 hd, fun m => o.2 (hs a m)⟩
  refine ⟨by simp [R.len], List.nodup_append.mpr ⟨R.nd, by simp, fun a ha b hb e => ?_⟩, fun i u hi => ?_, fun e he => R.hx e (hs e he), R.tb, fun e he hx => ?_⟩
  · rw [List.mem_singleton.mp hb] at e; exact nl (e ▸ ha)
  · by_cases hl : i < h.length
    · rw [List.getElem?_append_left hl] at hi
      obtain ⟨a, b, c⟩ := R.ob i u hi
      exact ⟨a, prefix_get (List.prefix_append _ _) b, c.re (List.prefix_append _ _) out⟩
    · have hi' : i = h.length := by
        have := (List.getElem?_eq_some_iff.mp hi).1
        simp at this; omega
      subst hi'
      simp at hi; subst hi
      exact ⟨d, by show (ρ.l ++ [d])[h.length]? = some d; rw [← R.len]; simp, q⟩
  · rcases List.mem_append.mp he with z | z
    · exact R.dj e z (hs e hx)
    · rw [List.mem_singleton.mp z] at hx; exact hn hx
end
end Sim

set_option Elab.async false
set_option linter.all false
set_option maxRecDepth 100000
set_option maxHeartbeats 4000000
namespace Sim
open PySem L2
variable [Tabl]

omit [Tabl] in
def ExcRel (K : PySem.W.Frag) (H : Hp) (ρ : Rho) (c : Addr) (fs : List (Str × SV)) (cv : Value) (d : Option Addr) : Prop :=
  cv = .ref c ∧ ((fs = [] ∧ d = none) ∨ ∃ a fv, d = some a ∧ H a = some (.xd fv) ∧ fv.map (·.1) = fs.map (·.1) ∧ RelL K H ρ (fs.map (·.2)) (fv.map (·.2)))
def Post {α β : Type} (K : PySem.W.Frag) (W : WX) (rel : Hp → Rho → α → β → Prop) (σ : St) (ρ : Rho) (H : Hp) (r : Res α) (Q : β → Hp → Prop) : Prop := match r with
  | .ok v h' => ∀ ρ' H' x, Ext ρ H ρ' H' → RelH K H' ρ' h' → rel H' ρ' v x → Q x H'
  | .err c fs h' => ∀ ρ' H' cv d, Ext ρ H ρ' H' → RelH K H' ρ' h' → ExcRel K H' ρ' c fs cv d → W cv d σ H'
  | .stuck => False
omit [Tabl] in
abbrev relS (K : PySem.W.Frag) : Hp → Rho → SV → V → Prop := fun H ρ v x => RelS K H ρ v x
omit [Tabl] in
abbrev relL (K : PySem.W.Frag) : Hp → Rho → List SV → List V → Prop := fun H ρ v x => RelL K H ρ v x
omit [Tabl] in
abbrev relT : Hp → Rho → Bool → Bool → Prop := fun _ _ v x => v = x
/-- a reading that does what the plain function does -/
def tG {α β : Type} (K : PySem.W.Frag) (W : WX) (rel : Hp → Rho → α → β → Prop) (c : Env → M α) : St → Hp → (β → Hp → Prop) → Prop := fun σ H Q =>
  ∃ ρ h env, RelH K H ρ h ∧ RelE K H ρ env σ ∧ Post K W rel σ ρ H (c env h) Q
abbrev tS (K : PySem.W.Frag) (W : WX) (c : Env → M SV) : TE := tG K W (relS K) c
abbrev tA (K : PySem.W.Frag) (W : WX) (c : Env → M (List SV)) : TA := tG K W (relL K) c
abbrev tB (K : PySem.W.Frag) (W : WX) (c : Env → M Bool) : TT := tG K W relT c
structure SE (X : Cx) (W : WX) (e : Expr) (c : Env → M SV) : Prop where
  pe : PE X e (tS X.K W c)
structure SA (X : Cx) (W : WX) (es : List Expr) (c : Env → M (List SV)) : Prop where
  pa : PA X es (tA X.K W c)
structure ST (X : Cx) (W : WX) (e : Expr) (c : Env → M Bool) : Prop where
  pt : PT X e (tB X.K W c)
structure SW (X : Cx) (W : WX) (e : Expr) (c : Env → M Bool) : Prop where
  pw : PW X e (tB X.K W c)

section
variable {X : Cx} {e : Expr} {es : List Expr}
theorem imp_pe {t t' : TE} (h : PE X e t) (i : ∀ σ H Q, t' σ H Q → t σ H Q) : PE X e t' := ⟨fun pins s σ H Q I q => h.run pins s σ H Q I (i σ H Q q)⟩
theorem imp_pt {t t' : TT} (h : PT X e t) (i : ∀ σ H Q, t' σ H Q → t σ H Q) : PT X e t' := ⟨fun pins s σ H Q I q => h.run pins s σ H Q I (i σ H Q q)⟩
theorem imp_pw {t t' : TT} (h : PW X e t) (i : ∀ σ H Q, t' σ H Q → t σ H Q) : PW X e t' := ⟨fun w pins s σ H Q I q => h.run w pins s σ H Q I (i σ H Q q)⟩
theorem imp_pa {t t' : TA} (h : PA X es t) (i : ∀ σ H Q, t' σ H Q → t σ H Q) : PA X es t' := ⟨fun p pins s σ H Q I q => h.run p pins s σ H Q I (i σ H Q q)⟩
end
section
variable {α β γ δ : Type} {K : PySem.W.Frag} {W : WX} {rel : Hp → Rho → α → β → Prop} {rel' : Hp → Rho → γ → δ → Prop} {σ : St} {ρ ρ' : Rho} {H H' : Hp} {h h' : SHp} {r : Res α} {Q : β → Hp → Prop}
theorem Post.shift (P : Post K W rel σ ρ H r Q) (E : Ext ρ H ρ' H') : Post K W rel σ ρ' H' r Q := by
  cases r with
  | ok v h' => exact fun ρ2 H2 x F R q => P ρ2 H2 x (E.tr F) R q
  | err c fs h' => exact fun ρ2 H2 cv d F R q => P ρ2 H2 cv d (E.tr F) R q
  | stuck => exact P
theorem Post.bind {m : M α} {k : α → M γ} {Q : δ → Hp → Prop} (P : Post K W rel' σ ρ H (M.bind m k h) Q) :
    Post K W rel σ ρ H (m h) (fun x H1 => ∃ ρ1 v h1, Ext ρ H ρ1 H1 ∧ RelH K H1 ρ1 h1 ∧ rel H1 ρ1 v x ∧ Post K W rel' σ ρ1 H1 (k v h1) Q) := by
  unfold M.bind at P
  cases e : m h with
  | ok v h1 => rw [e] at P; exact fun ρ1 H1 x E R q => ⟨ρ1, v, h1, E, R, q, P.shift E⟩
  | err c fs h1 => rw [e] at P; exact P
  | stuck => rw [e] at P; exact P
theorem Post.mono {Q' : β → Hp → Prop} (P : Post K W rel σ ρ H r Q) (h : ∀ x H', Q x H' → Q' x H') : Post K W rel σ ρ H r Q' := by
  cases r with
  | ok v h' => exact fun ρ1 H1 x E R q => h _ _ (P ρ1 H1 x E R q)
  | err c fs h' => exact P
  | stuck => exact P
end

/-! ### names, constants -/
omit [Tabl] in
def eVar (i : Nat) : Env → M SV := fun e => M.of (e[i]?.join)
omit [Tabl] in
def eC (v : SV) : Env → M SV := fun _ => M.ret v
section
variable {X : Cx} {W : WX} {pos : Pos}
theorem e_var (i : Nat) {x : Str} (hN : X.N[i]? = some x := by rfl) (hv : Vis X.env.scope x := by first | exact Or.inl rfl | exact Or.inr (Or.inl rfl) | exact Or.inr (Or.inr rfl)) (hd : (x == ("__debug__" : Str)) = false := by decide)
    (hcd : (x == ("__classdict__" : Str)) = false := by decide) : SE X W (.Name x pos) (eVar i) := ⟨imp_pe (pe_var hN hv hd hcd) fun σ H Q ⟨ρ, h, env, R, RE, P⟩ => by
  unfold eVar M.of at P
  cases e : env[i]?.join with
  | none => rw [e] at P; exact P.elim
  | some v =>
    rw [e] at P
    have e' : env[i]? = some (some v) := by
      cases q : env[i]? with
      | none => rw [q] at e; cases e
      | some o => rw [q] at e; simp at e; rw [e]
    obtain ⟨x, h1, h2⟩ := RE.2 i v e'
    exact ⟨x, h1, P ρ H x .refl R h2⟩⟩
theorem imp_c {v : V} {s : SV} {e : Expr} (h : PE X e (tC v)) (r : ∀ H ρ, RelS X.K H ρ s v) : SE X W e (eC s) := ⟨imp_pe h fun σ H Q ⟨ρ, h, env, R, RE, P⟩ => P ρ H v .refl R (r H ρ)⟩
theorem e_int {i j} : SE X W (.Constant (.int i) j pos) (eC (.int i)) := imp_c pe_int fun _ _ => .int .nil
theorem e_bl {b j} : SE X W (.Constant (.bool b) j pos) (eC (.bl b)) := imp_c pe_bl fun _ _ => .bl .nil
theorem e_non {j} : SE X W (.Constant .none j pos) (eC .non) := imp_c pe_non fun _ _ => .non .nil
theorem e_str {x j} : SE X W (.Constant (.str x) j pos) (eC (.str x)) := imp_c pe_str fun _ _ => .str .nil
/-- a def or class of the top as a value -/
theorem e_adr {x : Str} {a : Addr} (hm : X.mg x = some (.ref a)) (hg : Gl X x := by rfl) (hd : (x == ("__debug__" : Str)) = false := by decide) : SE X W (.Name x pos) (eC (.adr a)) := imp_c (pe_glob (v := .ref a) hg hm rfl hd) fun _ _ => .adr .nil
theorem e_gint {x : Str} {i : Int} {t : Tok} (hm : X.mg x = some (.int i t)) (hg : Gl X x := by rfl) (hd : (x == ("__debug__" : Str)) = false := by decide) : SE X W (.Name x pos) (eC (.int i)) := imp_c (pe_glob (v := .int i) hg hm ⟨t, rfl⟩ hd) fun _ _ => .int .nil
end

/-! ### two-place operations -/
/-- an operation on values, by a plain function that reads the heap -/
def OpS (X : Cx) (f : Value → Value → Sem Value) (g : SV → SV → SHp → Option SV) : Prop :=
  OpR X f fun x y H Q => ∃ ρ h v w z, RelH X.K H ρ h ∧ RelS X.K H ρ v x ∧ RelS X.K H ρ w y ∧ g v w h = some z ∧ ∀ H' r, Ext ρ H ρ H' → RelH X.K H' ρ h → RelS X.K H' ρ z r → Q r H'
omit [Tabl] in
def eOp (g : SV → SV → SHp → Option SV) (a b : Env → M SV) : Env → M SV := fun e => M.bind (a e) fun v => M.bind (b e) fun w => fun h => M.of (g v w h) h
section
variable {X : Cx} {W : WX} {pos : Pos} {a b c : Expr} {ca cb cc : Env → M SV}
theorem post_op {g : SV → SV → SHp → Option SV} {f : Value → Value → Sem Value} {σ : St} {H : Hp} {Q : VK} (h : tS X.K W (eOp g ca cb) σ H Q) :
    tOp (fun x y H Q => ∃ ρ h v w z, RelH X.K H ρ h ∧ RelS X.K H ρ v x ∧ RelS X.K H ρ w y ∧ g v w h = some z ∧ ∀ H' r, Ext ρ H ρ H' → RelH X.K H' ρ h → RelS X.K H' ρ z r → Q r H') (tS X.K W ca) (tS X.K W cb) σ H Q := by
  obtain ⟨ρ, h, env, R, RE, P⟩ := h
  refine ⟨ρ, h, env, R, RE, (Post.bind (rel := relS X.K) P).mono fun x H1 q => ?_⟩
  obtain ⟨ρ1, v, h1, E1, R1, r1, P1⟩ := q
  refine ⟨ρ1, h1, env, R1, RE.mono R.holds E1, (Post.bind (rel := relS X.K) P1).mono fun y H2 q => ?_⟩
  obtain ⟨ρ2, w, h2, E2, R2, r2, P2⟩ := q
  unfold M.of at P2
  cases e : g v w h2 with
  | none => rw [e] at P2; exact P2.elim
  | some z => rw [e] at P2; exact ⟨ρ2, h2, v, w, z, R2, r1.mono R1.holds E2, r2, e, fun H' r E' R' q => P2 ρ2 H' r E' R' q⟩
theorem e_op {op : Operator} {g : SV → SV → SHp → Option SV} (ho : OpS X (binaryOp op) g) (ha : SE X W a ca) (hb : SE X W b cb) : SE X W (.BinOp a op b pos) (eOp g ca cb) :=
  ⟨imp_pe (pe_op ho ha.pe hb.pe) fun σ H Q h => post_op (f := binaryOp op) h⟩
theorem e_cmp {op : CmpOp} {g : SV → SV → SHp → Option SV} (ho : OpS X (compareOp op) g) (ha : SE X W a ca) (hb : SE X W b cb) (hm : behindInMarks op b = false := by first | exact nomark _ (by decide) (by decide) | rfl) : SE X W (.Compare a [op] [b] pos) (eOp g ca cb) :=
  ⟨imp_pe (pe_cmpR ho ha.pe hb.pe hm) fun σ H Q h => post_op (f := compareOp op) h⟩
omit [Tabl] in
/-- a bool's value as a test -/
def tst (m : M SV) : M Bool := M.bind m fun v => match v with
  | .bl b => M.ret b
  | _ => fun _ => .stuck
omit [Tabl] in
def eTst (c : Env → M SV) : Env → M Bool := fun e => tst (c e)
theorem post_tst {c : Env → M SV} {σ : St} {H : Hp} {Q : Bool → Hp → Prop} (h : tB X.K W (eTst c) σ H Q) : tS X.K W c σ H fun x H1 => ∃ k, x = .bl k ∧ Q k H1 := by
  obtain ⟨ρ, h, env, R, RE, P⟩ := h
  refine ⟨ρ, h, env, R, RE, (Post.bind (rel := relS X.K) P).mono fun x H1 q => ?_⟩
  obtain ⟨ρ1, v, h1, E1, R1, r1, P1⟩ := q
  cases v with
  | bl b => cases r1; exact ⟨b, rfl, P1 ρ1 H1 b .refl R1 rfl⟩
  | _ => exact P1.elim
theorem t_cmp {op : CmpOp} {g : SV → SV → SHp → Option SV} (ho : OpS X (compareOp op) g) (ha : SE X W a ca) (hb : SE X W b cb) (hm : behindInMarks op b = false := by first | exact nomark _ (by decide) (by decide) | rfl) : ST X W (.Compare a [op] [b] pos) (eTst (eOp g ca cb)) :=
  ⟨imp_pt (pt_cmpR ho ha.pe hb.pe hm) fun σ H Q h => by
    obtain ⟨ρ, h, env, R, RE, P⟩ := post_tst h
    exact post_op (f := compareOp op) ⟨ρ, h, env, R, RE, P⟩⟩
theorem t_val (h : SE X W a ca) (he : ∀ whole, isTrue a X.env whole = (do let v ← whole; standAt a.pos; holding [v] (truthy v)) := by intro _; rfl) : ST X W a (eTst ca) :=
  ⟨imp_pt (pt_val h.pe he) fun σ H Q h => post_tst h⟩
omit [Tabl] in
/-- a < b < c: b is asked once -/
def eChain (g g' : SV → SV → SHp → Option SV) (a b c : Env → M SV) : Env → M SV := fun e => M.bind (a e) fun v => M.bind (b e) fun w => M.bind (fun h => M.of (g v w h) h) fun z => match z with
  | .bl true => M.bind (c e) fun u => fun h => M.of (g' w u h) h
  | .bl false => M.ret (.bl false)
  | _ => fun _ => .stuck
theorem post_chain {op op' : CmpOp} {g g' : SV → SV → SHp → Option SV} {σ : St} {H : Hp} {Q : VK} (h : tS X.K W (eChain g g' ca cb cc) σ H Q) :
    tChain (fun x y H Q => ∃ ρ h v w z, RelH X.K H ρ h ∧ RelS X.K H ρ v x ∧ RelS X.K H ρ w y ∧ g v w h = some z ∧ ∀ H' r, Ext ρ H ρ H' → RelH X.K H' ρ h → RelS X.K H' ρ z r → Q r H')
      (fun x y H Q => ∃ ρ h v w z, RelH X.K H ρ h ∧ RelS X.K H ρ v x ∧ RelS X.K H ρ w y ∧ g' v w h = some z ∧ ∀ H' r, Ext ρ H ρ H' → RelH X.K H' ρ h → RelS X.K H' ρ z r → Q r H')
      (tS X.K W ca) (tS X.K W cb) (tS X.K W cc) σ H Q := by
  obtain ⟨ρ, h, env, R, RE, P⟩ := h
  refine ⟨ρ, h, env, R, RE, (Post.bind (rel := relS X.K) P).mono fun x H1 q => ?_⟩
  obtain ⟨ρ1, v, h1, E1, R1, r1, P1⟩ := q
  have RE1 := RE.mono R.holds E1
  refine ⟨ρ1, h1, env, R1, RE1, (Post.bind (rel := relS X.K) P1).mono fun y H2 q => ?_⟩
  obtain ⟨ρ2, w, h2, E2, R2, r2, P2⟩ := q
  have RE2 := RE1.mono R1.holds E2
  cases e : g v w h2 with
  | none => simp only [M.bind, M.of, e] at P2; exact P2.elim
  | some z =>
    simp only [M.bind, M.of, e] at P2
    refine ⟨ρ2, h2, v, w, z, R2, r1.mono R1.holds E2, r2, e, fun H3 r E3 R3 q => ?_⟩
    cases z with
    | bl k =>
      cases q
      refine ⟨k, rfl, ?_⟩
      cases k with
      | false => exact iteF (P2 ρ2 H3 _ E3 R3 (.bl .nil))
      | true =>
        refine iteT ⟨ρ2, h2, env, R3, RE2.mono R2.holds E3, ?_⟩
        have P3 : Post X.K W (relS X.K) σ ρ2 H3 (M.bind (cc env) (fun u => fun h => M.of (g' w u h) h) h2) Q := Post.shift P2 E3
        refine (Post.bind (rel := relS X.K) P3).mono fun y' H4 q => ?_
        obtain ⟨ρ4, u, h4, E4, R4, r4, P4⟩ := q
        unfold M.of at P4
        cases e4 : g' w u h4 with
        | none => rw [e4] at P4; exact P4.elim
        | some z' => rw [e4] at P4; exact ⟨ρ4, h4, w, u, z', R4, (r2.mono R2.holds E3).mono R3.holds E4, r4, e4, fun H' r E' R' q => P4 ρ4 H' r E' R' q⟩
    | _ => exact P2.elim
theorem e_chain {op op' : CmpOp} {g g' : SV → SV → SHp → Option SV} (ho : OpS X (compareOp op) g) (ho' : OpS X (compareOp op') g') (ha : SE X W a ca) (hb : SE X W b cb) (hc : SE X W c cc)
    (hm : lastMarks [op, op'] [b, c] = false := by with_unfolding_all rfl) : SE X W (.Compare a [op, op'] [b, c] pos) (eChain g g' ca cb cc) :=
  ⟨imp_pe (pe_chain ho ho' ha.pe hb.pe hc.pe hm) fun σ H Q h => post_chain (op := op) (op' := op') h⟩
theorem t_chain {op op' : CmpOp} {g g' : SV → SV → SHp → Option SV} (ho : OpS X (compareOp op) g) (ho' : OpS X (compareOp op') g') (ha : SE X W a ca) (hb : SE X W b cb) (hc : SE X W c cc)
    (hm : lastMarks [op, op'] [b, c] = false := by with_unfolding_all rfl) : ST X W (.Compare a [op, op'] [b, c] pos) (eTst (eChain g g' ca cb cc)) :=
  ⟨imp_pt (pt_chain ho ho' ha.pe hb.pe hc.pe hm) fun σ H Q h => by
    obtain ⟨ρ, h, env, R, RE, P⟩ := post_tst h
    exact post_chain (op := op) (op' := op') ⟨ρ, h, env, R, RE, P⟩⟩
end

/-! ### and, or, not, if -/
omit [Tabl] in
def bAnd (a b : Env → M Bool) : Env → M Bool := fun e => M.bind (a e) fun v => if v = true then b e else M.ret false
omit [Tabl] in
def bOr (a b : Env → M Bool) : Env → M Bool := fun e => M.bind (a e) fun v => if v = true then M.ret true else b e
omit [Tabl] in
def bNot (a : Env → M Bool) : Env → M Bool := fun e => M.bind (a e) fun v => M.ret (!v)
omit [Tabl] in
def eAnd (a b : Env → M SV) : Env → M SV := fun e => M.bind (tst (a e)) fun v => if v = true then b e else M.ret (.bl false)
omit [Tabl] in
def eOr (a b : Env → M SV) : Env → M SV := fun e => M.bind (tst (a e)) fun v => if v = true then M.ret (.bl true) else b e
omit [Tabl] in
def eNot (a : Env → M SV) : Env → M SV := fun e => M.bind (tst (a e)) fun v => M.ret (.bl (!v))
omit [Tabl] in
def eIf (t : Env → M Bool) (a b : Env → M SV) : Env → M SV := fun e => M.bind (t e) fun v => if v = true then a e else b e
section
variable {X : Cx} {W : WX} {pos : Pos} {a b c : Expr} {rest : List Expr} {ca cb cc : Env → M SV} {ta tb : Env → M Bool}
theorem w_and1 (ha : ST X W a ta) : SW X W (.BoolOp .And [a] pos) ta := ⟨pw_and1 ha.pt⟩
theorem w_or1 (ha : ST X W a ta) : SW X W (.BoolOp .Or [a] pos) ta := ⟨pw_or1 ha.pt⟩
theorem w_and (ha : ST X W a ta) (hb : SW X W (.BoolOp .And (b :: rest) pos) tb) : SW X W (.BoolOp .And (a :: b :: rest) pos) (bAnd ta tb) :=
  ⟨imp_pw (pw_and ha.pt hb.pw) fun σ H Q ⟨ρ, h, env, R, RE, P⟩ => ⟨ρ, h, env, R, RE, (Post.bind (rel := relT) P).mono fun x H1 ⟨ρ1, v, h1, E1, R1, r1, P1⟩ => by
    cases r1
    cases x with
    | false => exact iteF (P1 ρ1 H1 _ .refl R1 rfl)
    | true => exact iteT ⟨ρ1, h1, env, R1, RE.mono R.holds E1, P1⟩⟩⟩
theorem w_or (ha : ST X W a ta) (hb : SW X W (.BoolOp .Or (b :: rest) pos) tb) : SW X W (.BoolOp .Or (a :: b :: rest) pos) (bOr ta tb) :=
  ⟨imp_pw (pw_or ha.pt hb.pw) fun σ H Q ⟨ρ, h, env, R, RE, P⟩ => ⟨ρ, h, env, R, RE, (Post.bind (rel := relT) P).mono fun x H1 ⟨ρ1, v, h1, E1, R1, r1, P1⟩ => by
    cases r1
    cases x with
    | true => exact iteT (P1 ρ1 H1 _ .refl R1 rfl)
    | false => exact iteF ⟨ρ1, h1, env, R1, RE.mono R.holds E1, P1⟩⟩⟩
theorem SW.st (h : SW X W a ta) : ST X W a ta := ⟨h.pw.pt⟩
theorem t_not (ha : ST X W a ta) : ST X W (.UnaryOp .Not a pos) (bNot ta) :=
  ⟨imp_pt (pt_not ha.pt) fun σ H Q ⟨ρ, h, env, R, RE, P⟩ => ⟨ρ, h, env, R, RE, (Post.bind (rel := relT) P).mono fun x H1 ⟨ρ1, v, h1, E1, R1, r1, P1⟩ => by
    cases r1
    exact P1 ρ1 H1 _ .refl R1 rfl⟩⟩
theorem e_one {op} (ha : SE X W a ca) : SE X W (.BoolOp op [a] pos) ca := ⟨pe_one ha.pe⟩
theorem post_tstV {c : Env → M SV} {k : Bool → M SV} {σ : St} {H : Hp} {ρ : Rho} {h : SHp} {env : Env} {Q : VK} (P : Post X.K W (relS X.K) σ ρ H (M.bind (tst (c env)) k h) Q) :
    Post X.K W (relS X.K) σ ρ H (c env h) fun x H1 => ∃ b, x = .bl b ∧ ∃ ρ1 h1, Ext ρ H ρ1 H1 ∧ RelH X.K H1 ρ1 h1 ∧ Post X.K W (relS X.K) σ ρ1 H1 (k b h1) Q := by
  have P' : Post X.K W (relS X.K) σ ρ H (M.bind (c env) (fun v => M.bind (match v with | .bl b => M.ret b | _ => fun _ => .stuck) k) h) Q := by
    unfold tst M.bind at P
    unfold M.bind
    cases e : c env h with
    | ok v h1 => rw [e] at P; exact P
    | err c fs h1 => rw [e] at P; exact P
    | stuck => rw [e] at P; exact P
  refine (Post.bind (rel := relS X.K) P').mono fun x H1 ⟨ρ1, v, h1, E1, R1, r1, P1⟩ => ?_
  cases v with
  | bl b => cases r1; exact ⟨b, rfl, ρ1, h1, E1, R1, P1⟩
  | _ => exact P1.elim
theorem e_and (ha : SE X W a ca) (hb : SE X W (.BoolOp .And (b :: rest) pos) cb) : SE X W (.BoolOp .And (a :: b :: rest) pos) (eAnd ca cb) :=
  ⟨imp_pe (pe_and ha.pe hb.pe) fun σ H Q ⟨ρ, h, env, R, RE, P⟩ => ⟨ρ, h, env, R, RE, (post_tstV P).mono fun x H1 ⟨k, e, ρ1, h1, E1, R1, P1⟩ => by
    refine ⟨k, e, ?_⟩
    cases k with
    | false => exact iteF (P1 ρ1 H1 _ .refl R1 (.bl .nil))
    | true => exact iteT ⟨ρ1, h1, env, R1, RE.mono R.holds E1, P1⟩⟩⟩
theorem e_or (ha : SE X W a ca) (hb : SE X W (.BoolOp .Or (b :: rest) pos) cb) : SE X W (.BoolOp .Or (a :: b :: rest) pos) (eOr ca cb) :=
  ⟨imp_pe (pe_or ha.pe hb.pe) fun σ H Q ⟨ρ, h, env, R, RE, P⟩ => ⟨ρ, h, env, R, RE, (post_tstV P).mono fun x H1 ⟨k, e, ρ1, h1, E1, R1, P1⟩ => by
    refine ⟨k, e, ?_⟩
    cases k with
    | true => exact iteT (P1 ρ1 H1 _ .refl R1 (.bl .nil))
    | false => exact iteF ⟨ρ1, h1, env, R1, RE.mono R.holds E1, P1⟩⟩⟩
theorem e_not (ha : SE X W a ca) : SE X W (.UnaryOp .Not a pos) (eNot ca) :=
  ⟨imp_pe (pe_not ha.pe) fun σ H Q ⟨ρ, h, env, R, RE, P⟩ => ⟨ρ, h, env, R, RE, (post_tstV P).mono fun x H1 ⟨k, e, ρ1, h1, E1, R1, P1⟩ => ⟨k, e, P1 ρ1 H1 _ .refl R1 (.bl .nil)⟩⟩⟩
theorem e_if (hc : ST X W c ta) (ha : SE X W a ca) (hb : SE X W b cb) : SE X W (.IfExp c a b pos) (eIf ta ca cb) :=
  ⟨imp_pe (pe_ifExp hc.pt ha.pe hb.pe) fun σ H Q ⟨ρ, h, env, R, RE, P⟩ => ⟨ρ, h, env, R, RE, (Post.bind (rel := relT) P).mono fun x H1 ⟨ρ1, v, h1, E1, R1, r1, P1⟩ => by
    cases r1
    cases x with
    | true => exact iteT ⟨ρ1, h1, env, R1, RE.mono R.holds E1, P1⟩
    | false => exact iteF ⟨ρ1, h1, env, R1, RE.mono R.holds E1, P1⟩⟩⟩
end

/-! ### argument lists, displays -/
omit [Tabl] in
def aNil : Env → M (List SV) := fun _ => M.ret []
omit [Tabl] in
def aCons (a : Env → M SV) (r : Env → M (List SV)) : Env → M (List SV) := fun e => M.bind (a e) fun v => M.bind (r e) fun vs => M.ret (v :: vs)
omit [Tabl] in
def eTup (a : Env → M (List SV)) : Env → M SV := fun e => M.bind (a e) fun vs => fun h => if vs.length ≤ sizeLine then .ok (.tup vs) h else .stuck
omit [Tabl] in
/-- a list that nobody changes -/
def eLst (a : Env → M (List SV)) : Env → M SV := fun e => M.bind (a e) fun vs => fun h => if vs.length ≤ sizeLine then .ok (.rls vs) h else .stuck
omit [Tabl] in
/-- a list that may be changed -/
def eNew (a : Env → M (List SV)) : Env → M SV := fun e => M.bind (a e) fun vs => fun h => if vs.length ≤ sizeLine then .ok (.ref h.length) (h ++ [.lst vs]) else .stuck
section
variable {X : Cx} {W : WX} {pos : Pos} {a : Expr} {es : List Expr} {ca : Env → M SV} {cr : Env → M (List SV)}
theorem a_nil : SA X W [] aNil := ⟨imp_pa pa_nil fun σ H Q ⟨ρ, h, env, R, RE, P⟩ => P ρ H _ .refl R .nil⟩
theorem a_cons (ha : SE X W a ca) (hr : SA X W es cr) (hs : starEach (a :: es) X.env = (false, eval a X.env) :: starEach es X.env := by rfl) : SA X W (a :: es) (aCons ca cr) :=
  ⟨imp_pa (pa_cons ha.pe hr.pa hs) fun σ H Q ⟨ρ, h, env, R, RE, P⟩ => ⟨ρ, h, env, R, RE, (Post.bind (rel := relS X.K) P).mono fun x H1 ⟨ρ1, v, h1, E1, R1, r1, P1⟩ =>
    ⟨ρ1, h1, env, R1, RE.mono R.holds E1, (Post.bind (rel := relL X.K) P1).mono fun xs H2 ⟨ρ2, vs, h2, E2, R2, r2, P2⟩ => P2 ρ2 H2 _ .refl R2 (.cons (r1.mono R1.holds E2) r2)⟩⟩⟩
theorem Holds.mem_free {K : PySem.W.Frag} {H : Hp} {ρ : Rho} {h : SHp} {p : Addr} (R : RelH K H ρ h) (hp : H p = none) : p ∉ ρ.l := R.holds.free hp
theorem rel_tup {K : PySem.W.Frag} {H : Hp} {ρ : Rho} {h : SHp} {p : Addr} {vs : List SV} {xs : List V} (R : RelH K H ρ h) (hp : H p = none) (r : RelL K H ρ vs xs) : RelS K (upd H p (.tup xs)) ρ (.tup vs) (.ref p) :=
  .tup upd_same (r.mono R.holds (.fresh hp)) .nil
theorem rel_rls {K : PySem.W.Frag} {H : Hp} {ρ : Rho} {h : SHp} {p : Addr} {vs : List SV} {xs : List V} (R : RelH K H ρ h) (hp : H p = none) (r : RelL K H ρ vs xs) : RelS K (upd H p (.lst xs)) ρ (.rls vs) (.ref p) :=
  .rls upd_same (R.outf hp) (r.mono R.holds (.fresh hp)) .nil
theorem e_tup {x1} (hr : SA X W es cr) : SE X W (.Tuple es x1 pos) (eTup cr) :=
  ⟨imp_pe (pe_tup hr.pa) fun σ H Q ⟨ρ, h, env, R, RE, P⟩ => ⟨ρ, h, env, R, RE, (Post.bind (rel := relL X.K) P).mono fun xs H1 ⟨ρ1, vs, h1, E1, R1, r1, P1⟩ => by
    have P1' : Post X.K W (relS X.K) σ ρ1 H1 (if vs.length ≤ sizeLine then .ok (.tup vs) h1 else .stuck) Q := P1
    by_cases c : vs.length ≤ sizeLine
    · rw [if_pos c] at P1'
      exact ⟨by rw [← r1.length]; exact c, fun p hp => P1' ρ1 _ _ (.fresh hp) (R1.fresh hp) (rel_tup R1 hp r1)⟩
    · rw [if_neg c] at P1'; exact P1'.elim⟩⟩
theorem e_lst (hr : SA X W es cr) : SE X W (.List es pos) (eLst cr) :=
  ⟨imp_pe (pe_lst hr.pa) fun σ H Q ⟨ρ, h, env, R, RE, P⟩ => ⟨ρ, h, env, R, RE, (Post.bind (rel := relL X.K) P).mono fun xs H1 ⟨ρ1, vs, h1, E1, R1, r1, P1⟩ => by
    have P1' : Post X.K W (relS X.K) σ ρ1 H1 (if vs.length ≤ sizeLine then .ok (.rls vs) h1 else .stuck) Q := P1
    by_cases c : vs.length ≤ sizeLine
    · rw [if_pos c] at P1'
      exact ⟨by rw [← r1.length]; exact c, fun p hp => P1' ρ1 _ _ (.fresh hp) (R1.fresh hp) (rel_rls R1 hp r1)⟩
    · rw [if_neg c] at P1'; exact P1'.elim⟩⟩
theorem e_new (hr : SA X W es cr) : SE X W (.List es pos) (eNew cr) :=
  ⟨imp_pe (pe_lst hr.pa) fun σ H Q ⟨ρ, h, env, R, RE, P⟩ => ⟨ρ, h, env, R, RE, (Post.bind (rel := relL X.K) P).mono fun xs H1 ⟨ρ1, vs, h1, E1, R1, r1, P1⟩ => by
    have P1' : Post X.K W (relS X.K) σ ρ1 H1 (if vs.length ≤ sizeLine then .ok (.ref h1.length) (h1 ++ [.lst vs]) else .stuck) Q := P1
    by_cases c : vs.length ≤ sizeLine
    · rw [if_pos c] at P1'
      exact ⟨by rw [← r1.length]; exact c, fun p hp => P1' _ _ _ (.alloc hp) (R1.alloc hp ⟨xs, upd_same, r1.mono R1.holds (.alloc hp)⟩) (.ref (by rw [← R1.len]; simp [Rho.add]) .nil)⟩
    · rw [if_neg c] at P1'; exact P1'.elim⟩⟩
end
end Sim

set_option Elab.async false
set_option linter.all false
set_option maxRecDepth 100000
set_option maxHeartbeats 4000000
namespace Sim
open PySem L2
variable [Tabl]

/-! ### statements -/
def PostR (K : PySem.W.Frag) (W : WX) (D : Ends) (ρ : Rho) (H : Hp) : SR → Prop
  | .nx e h' => ∀ ρ' H' σ', Ext ρ H ρ' H' → RelH K H' ρ' h' → RelE K H' ρ' e σ' → D.nx σ' H'
  | .bk e h' => ∀ ρ' H' σ', Ext ρ H ρ' H' → RelH K H' ρ' h' → RelE K H' ρ' e σ' → D.bk σ' H'
  | .ct e h' => ∀ ρ' H' σ', Ext ρ H ρ' H' → RelH K H' ρ' h' → RelE K H' ρ' e σ' → D.ct σ' H'
  | .rt v h' => ∀ ρ' H' x, Ext ρ H ρ' H' → RelH K H' ρ' h' → RelS K H' ρ' v x → D.rt x H'
  | .err c fs e h' => ∀ ρ' H' σ' cv d, Ext ρ H ρ' H' → RelH K H' ρ' h' → RelE K H' ρ' e σ' → ExcRel K H' ρ' c fs cv d → W cv d σ' H'
  | .stuck => False
omit [Tabl] in
abbrev ST' := Env → SHp → SR
def tR (K : PySem.W.Frag) (W : WX) (c : ST') : TS := fun D σ H => ∃ ρ h env, RelH K H ρ h ∧ RelE K H ρ env σ ∧ PostR K W D ρ H (c env h)
structure SS (X : Cx) (W : WX) (st : Stmt) (c : ST') : Prop where
  ps : PS X st (tR X.K W c)
structure SSs (X : Cx) (W : WX) (sts : List Stmt) (c : ST') : Prop where
  pss : PSs X sts (tR X.K W c)
theorem PostR.shift {K : PySem.W.Frag} {W : WX} {D : Ends} {ρ ρ' : Rho} {H H' : Hp} {r : SR} (P : PostR K W D ρ H r) (E : Ext ρ H ρ' H') : PostR K W D ρ' H' r := by
  cases r with
  | nx e h' => exact fun ρ2 H2 σ F => P ρ2 H2 σ (E.tr F)
  | bk e h' => exact fun ρ2 H2 σ F => P ρ2 H2 σ (E.tr F)
  | ct e h' => exact fun ρ2 H2 σ F => P ρ2 H2 σ (E.tr F)
  | rt v h' => exact fun ρ2 H2 x F => P ρ2 H2 x (E.tr F)
  | err c fs e h' => exact fun ρ2 H2 σ cv d F => P ρ2 H2 σ cv d (E.tr F)
  | stuck => exact P
/-- the ends may be weakened -/
theorem PostR.mono {K : PySem.W.Frag} {W : WX} {D D' : Ends} {ρ : Rho} {H : Hp} {r : SR} (P : PostR K W D ρ H r) (h1 : ∀ σ H, D.nx σ H → D'.nx σ H) (h2 : ∀ σ H, D.bk σ H → D'.bk σ H) (h3 : ∀ σ H, D.ct σ H → D'.ct σ H) (h4 : ∀ x H, D.rt x H → D'.rt x H) : PostR K W D' ρ H r := by
  cases r with
  | nx e h' => exact fun ρ2 H2 σ F R RE => h1 _ _ (P ρ2 H2 σ F R RE)
  | bk e h' => exact fun ρ2 H2 σ F R RE => h2 _ _ (P ρ2 H2 σ F R RE)
  | ct e h' => exact fun ρ2 H2 σ F R RE => h3 _ _ (P ρ2 H2 σ F R RE)
  | rt v h' => exact fun ρ2 H2 x F R RE => h4 _ _ (P ρ2 H2 x F R RE)
  | err c fs e h' => exact P
  | stuck => exact P
section
variable {X : Cx} {st : Stmt} {sts : List Stmt}
theorem imp_ps {t t' : TS} (h : PS X st t) (i : ∀ D σ H, t' D σ H → t D σ H) : PS X st t' := ⟨fun pins s σ H D I q => h.run pins s σ H D I (i D σ H q)⟩
theorem imp_pss {t t' : TS} (h : PSs X sts t) (i : ∀ D σ H, t' D σ H → t D σ H) : PSs X sts t' := ⟨fun pins s σ H D I q => h.run pins s σ H D I (i D σ H q)⟩
end
omit [Tabl] in
def cNil : ST' := fun e h => .nx e h
omit [Tabl] in
def cSeq (a b : ST') : ST' := fun e h => match a e h with
  | .nx e' h' => b e' h'
  | .rt v h' => .rt v h'
  | .bk e' h' => .bk e' h'
  | .ct e' h' => .ct e' h'
  | .err c fs e' h' => .err c fs e' h'
  | .stuck => .stuck
omit [Tabl] in
/-- an expression's value, and what follows with it -/
def onV (m : M SV) (e : Env) (h : SHp) (k : SV → SHp → SR) : SR := match m h with
  | .ok v h' => k v h'
  | .err c fs h' => .err c fs e h'
  | .stuck => .stuck
omit [Tabl] in
def onB (m : M Bool) (e : Env) (h : SHp) (k : Bool → SHp → SR) : SR := match m h with
  | .ok v h' => k v h'
  | .err c fs h' => .err c fs e h'
  | .stuck => .stuck
omit [Tabl] in
def cSet (i : Nat) (c : Env → M SV) : ST' := fun e h => onV (c e) e h fun v h' => .nx (e.set i (some v)) h'
omit [Tabl] in
def cExpr (c : Env → M SV) : ST' := fun e h => onV (c e) e h fun _ h' => .nx e h'
omit [Tabl] in
def cRet (c : Env → M SV) : ST' := fun e h => onV (c e) e h fun v h' => .rt v h'
omit [Tabl] in
def cRetN : ST' := fun _ h => .rt .non h
omit [Tabl] in
def cIf (t : Env → M Bool) (a b : ST') : ST' := fun e h => onB (t e) e h fun v h' => if v = true then a e h' else b e h'
omit [Tabl] in
def cNever : ST' := fun _ _ => .stuck
section
variable {X : Cx} {W : WX} {pos : Pos} {st : Stmt} {rest : List Stmt} {e : Expr} {c : Env → M SV} {t : Env → M Bool} {a b : ST'}
theorem post_onV {D : Ends} {σ : St} {ρ : Rho} {H : Hp} {m : M SV} {env : Env} {h : SHp} {k : SV → SHp → SR} (R : RelH X.K H ρ h) (RE : RelE X.K H ρ env σ) (P : PostR X.K W D ρ H (onV m env h k)) :
    Post X.K W (relS X.K) σ ρ H (m h) fun x H1 => ∃ ρ1 v h1, Ext ρ H ρ1 H1 ∧ RelH X.K H1 ρ1 h1 ∧ RelE X.K H1 ρ1 env σ ∧ RelS X.K H1 ρ1 v x ∧ PostR X.K W D ρ1 H1 (k v h1) := by
  unfold onV at P
  cases e : m h with
  | ok v h1 => rw [e] at P; exact fun ρ1 H1 x E R1 q => ⟨ρ1, v, h1, E, R1, RE.mono R.holds E, q, P.shift E⟩
  | err c fs h1 => rw [e] at P; exact fun ρ1 H1 cv d E R1 q => P ρ1 H1 σ cv d E R1 (RE.mono R.holds E) q
  | stuck => rw [e] at P; exact P
theorem post_onB {D : Ends} {σ : St} {ρ : Rho} {H : Hp} {m : M Bool} {env : Env} {h : SHp} {k : Bool → SHp → SR} (R : RelH X.K H ρ h) (RE : RelE X.K H ρ env σ) (P : PostR X.K W D ρ H (onB m env h k)) :
    Post X.K W relT σ ρ H (m h) fun x H1 => ∃ ρ1 h1, Ext ρ H ρ1 H1 ∧ RelH X.K H1 ρ1 h1 ∧ RelE X.K H1 ρ1 env σ ∧ PostR X.K W D ρ1 H1 (k x h1) := by
  unfold onB at P
  cases e : m h with
  | ok v h1 => rw [e] at P; exact fun ρ1 H1 x E R1 q => by cases q; exact ⟨ρ1, h1, E, R1, RE.mono R.holds E, P.shift E⟩
  | err c fs h1 => rw [e] at P; exact fun ρ1 H1 cv d E R1 q => P ρ1 H1 σ cv d E R1 (RE.mono R.holds E) q
  | stuck => rw [e] at P; exact P
theorem ss_nil : SSs X W [] cNil := ⟨imp_pss pss_nil fun D σ H ⟨ρ, h, env, R, RE, P⟩ => P ρ H σ .refl R RE⟩
theorem ss_one (h : SS X W st a) : SSs X W [st] a := ⟨pss_one h.ps⟩
theorem ss_cons (h1 : SS X W st a) (h2 : SSs X W rest b) : SSs X W (st :: rest) (cSeq a b) :=
  ⟨imp_pss (pss_cons h1.ps h2.pss) fun D σ H ⟨ρ, h, env, R, RE, P⟩ => by
    refine ⟨ρ, h, env, R, RE, ?_⟩
    unfold cSeq at P
    cases e : a env h with
    | nx e' h' => rw [e] at P; exact fun ρ' H' σ' E R' RE' => ⟨ρ', h', e', R', RE', P.shift E⟩
    | bk e' h' => rw [e] at P; exact P
    | ct e' h' => rw [e] at P; exact P
    | rt v h' => rw [e] at P; exact P
    | err c fs e' h' => rw [e] at P; exact P
    | stuck => rw [e] at P; exact P⟩
theorem RelE.set {K : PySem.W.Frag} {H : Hp} {ρ : Rho} {env : Env} {σ : St} {i : Nat} {v : SV} {x : V} (RE : RelE K H ρ env σ) (r : RelS K H ρ v x) : RelE K H ρ (env.set i (some v)) (σ.set i (some x)) := by
  refine ⟨by simp [RE.1], fun j s e => ?_⟩
  by_cases hj : i = j
  · subst hj
    have hl : i < env.length := by
      have := (List.getElem?_eq_some_iff.mp e).1
      simpa using this
    rw [List.getElem?_set_self hl] at e
    cases e
    exact ⟨x, List.getElem?_set_self (by rw [← RE.1]; exact hl), r⟩
  · rw [List.getElem?_set_ne hj] at e
    obtain ⟨y, h1, h2⟩ := RE.2 j s e
    exact ⟨y, by rw [List.getElem?_set_ne hj]; exact h1, h2⟩
theorem RelE.set_none {K : PySem.W.Frag} {H : Hp} {ρ : Rho} {env : Env} {σ : St} {i : Nat} {o : Option V} (RE : RelE K H ρ env σ) : RelE K H ρ (env.set i none) (σ.set i o) := by
  refine ⟨by simp [RE.1], fun j s e => ?_⟩
  by_cases hj : i = j
  · subst hj
    have hl : i < env.length := by
      have := (List.getElem?_eq_some_iff.mp e).1
      simpa using this
    rw [List.getElem?_set_self hl] at e
    cases e
  · rw [List.getElem?_set_ne hj] at e
    obtain ⟨y, h1, h2⟩ := RE.2 j s e
    exact ⟨y, by rw [List.getElem?_set_ne hj]; exact h1, h2⟩
theorem s_set (i : Nat) {x : Str} {pos' : Pos} (hN : X.N.Nodup) (he : SE X W e c) (hi : X.N[i]? = some x := by rfl) (hx : Loc X.env.scope x := by first | exact Or.inl rfl | exact Or.inr rfl) (hs : swapsWith e (some (.Name x pos')) pos.line X.env = pure false := by rfl)
    (hf : X.fn x = true ∨ X.env.scope.names.lookup x = some .local := by first | exact .inl rfl | exact .inr rfl | assumption) : SS X W (.Assign [.Name x pos'] e pos) (cSet i c) :=
  ⟨imp_ps (ps_set hN hi hx he.pe hs hf) fun D σ H ⟨ρ, h, env, R, RE, P⟩ => ⟨ρ, h, env, R, RE, (post_onV R RE P).mono fun x H1 ⟨ρ1, v, h1, E1, R1, RE1, r1, P1⟩ => P1 ρ1 H1 _ .refl R1 (RE1.set r1)⟩⟩
theorem s_expr (he : SE X W e c) (hs : swapsWith e none pos.line X.env = pure false := by rfl) : SS X W (.Expr e pos) (cExpr c) :=
  ⟨imp_ps (ps_expr he.pe hs) fun D σ H ⟨ρ, h, env, R, RE, P⟩ => ⟨ρ, h, env, R, RE, (post_onV R RE P).mono fun x H1 ⟨ρ1, v, h1, E1, R1, RE1, r1, P1⟩ => P1 ρ1 H1 _ .refl R1 RE1⟩⟩
theorem s_ret (he : SE X W e c) : SS X W (.Return (some e) pos) (cRet c) :=
  ⟨imp_ps (ps_ret he.pe) fun D σ H ⟨ρ, h, env, R, RE, P⟩ => ⟨ρ, h, env, R, RE, (post_onV R RE P).mono fun x H1 ⟨ρ1, v, h1, E1, R1, RE1, r1, P1⟩ => P1 ρ1 H1 _ .refl R1 r1⟩⟩
theorem s_retN : SS X W (.Return none pos) cRetN := ⟨imp_ps ps_retN fun D σ H ⟨ρ, h, env, R, RE, P⟩ => P ρ H _ .refl R (RelL.non RelL.nil)⟩
theorem s_if {t : Expr} {tc : Env → M Bool} {sa sb : List Stmt} (ht : ST X W t tc) (ha : SSs X W sa a) (hb : SSs X W sb b) : SS X W (.If t sa sb pos) (cIf tc a b) :=
  ⟨imp_ps (ps_if ht.pt ha.pss hb.pss) fun D σ H ⟨ρ, h, env, R, RE, P⟩ => ⟨ρ, h, env, R, RE, (post_onB R RE P).mono fun x H1 ⟨ρ1, h1, E1, R1, RE1, P1⟩ => by
    cases x with
    | true => exact iteT ⟨ρ1, h1, env, R1, RE1, P1⟩
    | false => exact iteF ⟨ρ1, h1, env, R1, RE1, P1⟩⟩⟩
theorem s_never : SS X W st cNever := ⟨imp_ps ps_never fun D σ H ⟨ρ, h, env, R, RE, P⟩ => P⟩
theorem ss_never : SSs X W rest cNever := ⟨imp_pss pss_never fun D σ H ⟨ρ, h, env, R, RE, P⟩ => P⟩
theorem s_pass : SS X W (.Pass pos) cNil := ⟨imp_ps ps_pass fun D σ H ⟨ρ, h, env, R, RE, P⟩ => P ρ H σ .refl R RE⟩
theorem s_doc {x j pos'} : SS X W (.Expr (.Constant (.str x) j pos) pos') cNil := ⟨imp_ps ps_doc fun D σ H ⟨ρ, h, env, R, RE, P⟩ => P ρ H σ .refl R RE⟩
omit [Tabl] in
def cBrk : ST' := fun e h => .bk e h
omit [Tabl] in
def cCont : ST' := fun e h => .ct e h
theorem s_break : SS X W (.Break pos) cBrk := ⟨imp_ps ps_break fun D σ H ⟨ρ, h, env, R, RE, P⟩ => P ρ H σ .refl R RE⟩
theorem s_cont : SS X W (.Continue pos) cCont := ⟨imp_ps ps_continue fun D σ H ⟨ρ, h, env, R, RE, P⟩ => P ρ H σ .refl R RE⟩
end

/-! ### targets: names and tuples of such -/
def tTg (K : PySem.W.Frag) (g : SV → Env → Option Env) (vs : List Nat) : TG := fun v σ H Q => ∃ ρ h env s env', RelH K H ρ h ∧ RelE K H ρ env σ ∧ RelS K H ρ s v ∧ g s env = some env' ∧ ∀ σ', RelE K H ρ env' σ' → (∀ j : Nat, j ∉ vs → σ'[j]? = σ[j]?) → σ'.length = σ.length → Q σ' H
def tTgs (K : PySem.W.Frag) (g : List SV → Env → Option Env) (vs : List Nat) : TGs := fun us σ H Q => ∃ ρ h env ss env', RelH K H ρ h ∧ RelE K H ρ env σ ∧ RelL K H ρ ss us ∧ g ss env = some env' ∧ ∀ σ', RelE K H ρ env' σ' → (∀ j : Nat, j ∉ vs → σ'[j]? = σ[j]?) → σ'.length = σ.length → Q σ' H
structure SG (X : Cx) (tg : Expr) (g : SV → Env → Option Env) (vs : List Nat) : Prop where
  pg : PG X tg (tTg X.K g vs)
structure SGs (X : Cx) (tgs : List Expr) (g : List SV → Env → Option Env) (vs : List Nat) : Prop where
  pg : PGs X tgs (tTgs X.K g vs)
theorem imp_pg {X : Cx} {tg : Expr} {t t' : TG} (h : PG X tg t) (i : ∀ v σ H Q, t' v σ H Q → t v σ H Q) : PG X tg t' := ⟨fun pins s σ H v u Q I r q => h.run pins s σ H v u Q I r (i v σ H Q q)⟩
theorem imp_pgs {X : Cx} {tg : List Expr} {t t' : TGs} (h : PGs X tg t) (i : ∀ v σ H Q, t' v σ H Q → t v σ H Q) : PGs X tg t' := ⟨fun pins s σ H v u Q I r q => h.run pins s σ H v u Q I r (i v σ H Q q)⟩
omit [Tabl] in
def gN (i : Nat) : SV → Env → Option Env := fun s e => some (e.set i (some s))
omit [Tabl] in
def gsN : List SV → Env → Option Env := fun ss e => match ss with
  | [] => some e
  | _ => none
omit [Tabl] in
def gsC (g : SV → Env → Option Env) (gs : List SV → Env → Option Env) : List SV → Env → Option Env := fun ss e => match ss with
  | s :: r => match g s e with
    | some e' => gs r e'
    | none => none
  | [] => none
omit [Tabl] in
def gT (n : Nat) (gs : List SV → Env → Option Env) : SV → Env → Option Env := fun s e => match s with
  | .tup xs => if xs.length = n then gs xs e else none
  | _ => none
section
variable {X : Cx} {pos : Pos} {e : Expr} {es : List Expr} {g : SV → Env → Option Env} {gs : List SV → Env → Option Env} {vs ws : List Nat}
theorem g_name (i : Nat) {x : Str} (hN : X.N.Nodup) (hi : X.N[i]? = some x := by rfl) (hx : Loc X.env.scope x := by first | exact Or.inl rfl | exact Or.inr rfl) (hf : X.fn x = true ∨ X.env.scope.names.lookup x = some .local := by first | exact .inl rfl | exact .inr rfl | assumption) :
    SG X (.Name x pos) (gN i) [i] := ⟨imp_pg (pg_name hN hi hx hf) fun v σ H Q ⟨ρ, h, env, s, env', R, RE, r, e, k⟩ => by
  cases e
  exact k _ (RE.set r) (fun j hj => List.getElem?_set_ne (fun z => hj (by simp [z]))) (by simp)⟩
theorem g_nil : SGs X [] gsN [] := ⟨imp_pgs pgs_nil fun us σ H Q ⟨ρ, h, env, ss, env', R, RE, r, e, k⟩ => by
  cases ss with
  | nil => cases e; exact ⟨r.nil_inv, k σ RE (fun _ _ => rfl) rfl⟩
  | cons s t => cases e⟩
theorem g_cons (h1 : SG X e g vs) (h2 : SGs X es gs ws) (hs : (assignEach (e :: es) X.env).map (·.2) = assign e X.env :: (assignEach es X.env).map (·.2) := by rfl) : SGs X (e :: es) (gsC g gs) (vs ++ ws) := by
  refine ⟨imp_pgs (pgs_cons h1.pg h2.pg hs) fun us σ H Q ⟨ρ, h, env, ss, env', R, RE, r, e, k⟩ => ?_⟩
  cases ss with
  | nil => cases e
  | cons s ss =>
    obtain ⟨v, ur, rfl, r1, r2⟩ := r.inv
    have e' : (match g s env with | some e' => gs ss e' | none => none) = some env' := e
    cases eg : g s env with
    | none => rw [eg] at e'; cases e'
    | some env1 =>
      rw [eg] at e'
      refine ⟨v, ur, rfl, ρ, h, env, s, env1, R, RE, r1, eg, fun σ1 RE1 a1 l1 => ?_⟩
      exact ⟨ρ, h, env1, ss, env', R, RE1, r2, e', fun σ2 RE2 a2 l2 => k σ2 RE2 (fun j hj => by
        rw [a2 j (fun z => hj (List.mem_append_right _ z)), a1 j (fun z => hj (List.mem_append_left _ z))]) (l2.trans l1)⟩
theorem g_tup {k n : Nat} (hc : X.calm = true) (h : SGs X es gs vs) (hn : (assignEach es X.env).length = n := by rfl) (hst : (assignEach es X.env).findIdx? (·.1) = none := by rfl) : SG X (.Tuple es k pos) (gT n gs) vs := by
  refine ⟨imp_pg (pg_tup hc h.pg hn hst) fun v σ H Q ⟨ρ, h, env, s, env', R, RE, r, e, k⟩ => ?_⟩
  cases s with
  | tup xs =>
    have e' : (if xs.length = n then gs xs env else none) = some env' := e
    by_cases hl : xs.length = n
    · rw [if_pos hl] at e'
      cases r with
      | tup hq ra _ => exact ⟨_, _, rfl, .of hq, by rw [← ra.length]; exact hl, ⟨ρ, h, env, xs, env', R, RE, ra, e', k⟩⟩
    · rw [if_neg hl] at e'; cases e'
  | _ => cases e
omit [Tabl] in
def cAsg (g : SV → Env → Option Env) (c : Env → M SV) : ST' := fun e h => onV (c e) e h fun v h' => match g v e with
  | some e' => .nx e' h'
  | none => .stuck
theorem s_asg {tg e : Expr} {c : Env → M SV} {W : WX} (hg : SG X tg g vs) (he : SE X W e c) (hs : swapsWithSole [tg] e pos.line X.env = pure false := by rfl) (hw : swappedStores [tg] e X.env = pure none := by rfl)
    (h1 : (assignEach [tg] X.env).map (·.2) = [assign tg X.env] := by rfl) : SS X W (.Assign [tg] e pos) (cAsg g c) := by
  refine ⟨imp_ps (ps_asg he.pe hg.pg hs hw h1) fun D σ H ⟨ρ, h, env, R, RE, P⟩ => ⟨ρ, h, env, R, RE, (post_onV R RE P).mono fun x H1 ⟨ρ1, v, h1, E1, R1, RE1, r1, P1⟩ => ?_⟩⟩
  cases eg : g v env with
  | none => rw [eg] at P1; exact P1.elim
  | some env' => rw [eg] at P1; exact ⟨ρ1, h1, env, v, env', R1, RE1, r1, eg, fun σ' RE' _ _ => P1 ρ1 H1 σ' .refl R1 RE'⟩
omit [Tabl] in
/-- a, b = x, y: both reckoned first -/
def cPar (i j : Nat) (c : Env → M (List SV)) : ST' := fun e h => match c e h with
  | .ok [v, w] h' => .nx ((e.set i (some v)).set j (some w)) h'
  | .ok _ _ => .stuck
  | .err c fs h' => .err c fs e h'
  | .stuck => .stuck
theorem s_par (i j : Nat) {x y : Str} {a b : Expr} {c : Env → M (List SV)} {W : WX} {px py pt : Pos} {kt k2 pt2} (hc : X.calm = true) (hN : X.N.Nodup) (ha : SA X W [a, b] c) (hi : X.N[i]? = some x := by rfl) (hj : X.N[j]? = some y := by rfl) (hij : i ≠ j := by decide)
    (hx : X.env.scope.names.lookup x = some .local := by rfl) (hy : X.env.scope.names.lookup y = some .local := by rfl)
    (hw : swappedStores [.Tuple [.Name x px, .Name y py] kt pt] (.Tuple [a, b] k2 pt2) X.env = pure (some [x, y]) := by rfl)
    (hs : swapsWithSole [.Tuple [.Name x px, .Name y py] kt pt] (.Tuple [a, b] k2 pt2) pos.line X.env = pure false := by rfl) : SS X W (.Assign [.Tuple [.Name x px, .Name y py] kt pt] (.Tuple [a, b] k2 pt2) pos) (cPar i j c) :=
  ⟨imp_ps (ps_par hc hN hi hj hij hx hy ha.pa hw hs) fun D σ H ⟨ρ, h, env, R, RE, P⟩ => ⟨ρ, h, env, R, RE, by
    unfold cPar at P
    cases e : c env h with
    | err cc fs h1 => rw [e] at P; exact fun ρ1 H1 cv d E R1 q => P ρ1 H1 σ cv d E R1 (RE.mono R.holds E) q
    | stuck => rw [e] at P; exact P
    | ok vs h1 =>
      rw [e] at P
      match vs, P with
      | [v, w], P =>
        intro ρ1 H1 x E R1 r
        obtain ⟨xv, us, rfl, r1, r2⟩ := RelL.inv r
        obtain ⟨xw, us, rfl, r2, r3⟩ := RelL.inv r2
        cases r3
        exact ⟨xv, xw, rfl, P ρ1 H1 _ E R1 (((RE.mono R.holds E).set r1).set r2)⟩⟩⟩
end

/-! ### what is walked -/
omit [Tabl] in
inductive Gd where
  | no | lst (n : Nat) (xs : List SV)
omit [Tabl] in
def Gd.ok : Gd → SHp → Bool
  | .no, _ => true
  | .lst n xs, h => match h[n]? with
    | some (.lst ys) => decide (ys = xs)
    | _ => false
omit [Tabl] in
/-- a list or a dict: what a comprehension still makes, hidden -/
def Scr (o : HO) : Prop := (∃ us, o = .lst us) ∨ (∃ k, o = .dK k) ∨ ∃ k, o = .dT k
theorem Scr.tup {us : List V} : ¬ Scr (.tup us) := fun z => by rcases z with ⟨_, q⟩ | ⟨_, q⟩ | ⟨_, q⟩ <;> cases q
theorem Scr.frz {o : Obj} {u : HO} : ¬ Scr (.frz o u) := fun z => by rcases z with ⟨_, q⟩ | ⟨_, q⟩ | ⟨_, q⟩ <;> cases q
theorem Scr.xd {fs : List (Str × V)} : ¬ Scr (.xd fs) := fun z => by rcases z with ⟨_, q⟩ | ⟨_, q⟩ | ⟨_, q⟩ <;> cases q
omit [Tabl] in
/-- as Ext, but hidden lists and dicts may go on changing -/
structure ExtV (ρ : Rho) (H : Hp) (ρ' : Rho) (H' : Hp) : Prop where
  pre : ρ.l <+: ρ'.l
  new : ∀ a ∈ ρ'.l, a ∈ ρ.l ∨ H a = none
  kp : ∀ b o, H b = some o → b ∉ ρ.l → (b ∉ ρ.ex ∨ ¬ Scr o) → (∀ ps, o ≠ .tbl ps) → (∀ k, o ≠ .dK k) → H' b = some o
  dk : ∀ b k, H b = some (.dK k) → b ∉ ρ.l → b ∉ ρ.ex → H' b = some (.dK k) ∨ ∃ od, H' b = some (.frz od (.dK k))
  tbl : ∀ b ps, H b = some (.tbl ps) → b ∉ ρ.l → ∃ qs, H' b = some (.tbl qs)
  hid : ∀ a ∈ ρ'.ex, a ∈ ρ.ex ∨ (H a = none ∧ a ∉ ρ.l)
  sub : ∀ a ∈ ρ.ex, a ∈ ρ'.ex
section
variable {K : PySem.W.Frag} {H H' H'' : Hp} {ρ ρ' ρ'' : Rho} {xs : List SV} {vs : List V}
theorem ExtV.kept (E : ExtV ρ H ρ' H') (b : Addr) (o : HO) (h : H b = some o) (n : b ∉ ρ.l) (z : b ∉ ρ.ex ∨ ¬ Scr o) (nt : ∀ ps, o ≠ .tbl ps := by intro ps z; cases z) (nd : ∀ k, o ≠ .dK k := by intro ps z; cases z) : H' b = some o := E.kp b o h n z nt nd
theorem ExtV.keptR (E : ExtV ρ H ρ' H') {b : Addr} {k : List (Key × V)} (h : Rd H b (.dK k)) (n : ρ.out b) : Rd H' b (.dK k) := by
  rcases h with h | ⟨o, h⟩
  · exact E.dk b k h n.1 n.2
  · exact .inr ⟨o, E.kept b _ h n.1 (.inl n.2)⟩
theorem ExtV.there (E : ExtV ρ H ρ' H') {b : Addr} {o : HO} (h : H b = some o) (n : b ∉ ρ.l) (x : b ∉ ρ.ex) : ∃ o', H' b = some o' := by
  by_cases z : ∃ ps, o = .tbl ps
  · obtain ⟨ps, rfl⟩ := z
    obtain ⟨qs, q⟩ := E.tbl b ps h n
    exact ⟨_, q⟩
  · by_cases y : ∃ k, o = .dK k
    · obtain ⟨k, rfl⟩ := y
      rcases E.dk b k h n x with q | ⟨od, q⟩ <;> exact ⟨_, q⟩
    · exact ⟨o, E.kp b o h n (.inl x) (fun ps e => z ⟨ps, e⟩) fun k e => y ⟨k, e⟩⟩
theorem Ext.v (E : Ext ρ H ρ' H') : ExtV ρ H ρ' H' := ⟨E.pre, E.new, fun b o h n _ nt nd => E.kp b o h n nt nd, fun b k h n _ => (E.dk b k h n).imp id And.right, E.tbl, E.hid, E.sub⟩
theorem ExtV.refl : ExtV ρ H ρ H := Ext.refl.v
theorem ExtV.outl (E : ExtV ρ H ρ' H') {b : Addr} {o : HO} (h : H b = some o) (n : b ∉ ρ.l) : b ∉ ρ'.l := fun hb => by
  rcases E.new b hb with q | q
  · exact n q
  · rw [h] at q; cases q
theorem ExtV.out (E : ExtV ρ H ρ' H') {b : Addr} {o : HO} (h : H b = some o) (n : ρ.out b) : ρ'.out b := ⟨E.outl h n.1, fun hb => by
  rcases E.hid b hb with q | q
  · exact n.2 q
  · rw [h] at q; cases q.1⟩
theorem RelL.monoV (r : RelL K H ρ xs vs) (L : Holds H ρ) (E : ExtV ρ H ρ' H') : RelL K H' ρ' xs vs := by
  induction r with
  | nil => exact .nil
  | non _ ih => exact .non ih
  | bl _ ih => exact .bl ih
  | int _ ih => exact .int ih
  | str _ ih => exact .str ih
  | ty _ ih => exact .ty ih
  | adr _ ih => exact .adr ih
  | ref h _ ih => exact .ref (prefix_get E.pre h) ih
  | tup h _ _ i1 i2 => exact .tup (E.kept _ _ h (L.notup h) (.inr Scr.tup)) i1 i2
  | rls h n _ _ i1 i2 => exact .rls (E.kept _ _ h n.1 (.inl n.2)) (E.out h n) i1 i2
  | frl h _ _ i1 i2 =>
    refine .frl ?_ i1 i2
    rcases h with ⟨h | ⟨o, h⟩, n⟩ | h
    · exact .inl ⟨.inl (E.kept _ _ h n.1 (.inl n.2)), E.out h n⟩
    · exact .inl ⟨.inr ⟨o, E.kept _ _ h n.1 (.inl n.2)⟩, E.out h n⟩
    · exact .inr h
  | obj h n e _ _ i1 i2 => exact .obj (E.kept _ _ h n.1 (.inl n.2)) (E.out h n) e i1 i2
  | xcp h e _ _ i1 i2 => exact .xcp (E.kept _ _ h (L.noxd h) (.inr Scr.xd)) e i1 i2
  | rdK h n e _ _ i1 i2 =>
    have q := E.keptR h n
    rcases h with h | ⟨o, h⟩
    · exact .rdK q (E.out h n) e i1 i2
    · exact .rdK q (E.out h n) e i1 i2
  | rdT h n e _ _ i1 i2 => exact .rdT (E.kept _ _ h n.1 (.inl n.2)) (E.out h n) e i1 i2
theorem ExtV.over {h : SHp} (E : ExtV ρ H ρ' H') (R : RelH K H' ρ' h) (F : Ext ρ' H' ρ'' H'') : ExtV ρ H ρ'' H'' := by
  have none_of : ∀ a, H' a = none → a ∉ ρ.l → H a = none := fun a q m => by
    cases e : H a with
    | none => rfl
    | some o =>
      by_cases x : a ∈ ρ.ex
      · obtain ⟨u, z⟩ := R.hx a (E.sub a x)
        rw [z] at q; cases q
      · obtain ⟨o', z⟩ := E.there e m x; rw [z] at q; cases q
  refine ⟨E.pre.trans F.pre, fun a ha => ?_, fun b o hb n z nt nd => F.kp b o (E.kp b o hb n z nt nd) (E.outl hb n) nt nd, fun b k hb n x => ?_, fun b ps hb n => ?_, fun a ha => ?_, fun a ha => F.sub a (E.sub a ha)⟩
  · rcases F.new a ha with q | q
    · exact E.new a q
    · by_cases m : a ∈ ρ.l
      · exact .inl m
      · exact .inr (none_of a q m)
  · rcases E.dk b k hb n x with q | ⟨od, q⟩
    · exact (F.dk b k q (E.outl hb n)).imp id And.right
    · exact .inr ⟨od, F.kept b _ q (E.outl hb n)⟩
  · obtain ⟨qs, q⟩ := E.tbl b ps hb n
    exact F.tbl b qs q (E.outl hb n)
  · rcases F.hid a ha with q | ⟨q, m⟩
    · exact E.hid a q
    · by_cases ml : a ∈ ρ.l
      · exact absurd (E.pre.subset ml) m
      · exact .inr ⟨none_of a q ml, ml⟩
theorem ExtV.scratch {d : Addr} {o u : HO} (E : ExtV ρ H ρ' H') (hd : d ∈ ρ.ex) (h : H d = some u) (hs : Scr u) : ExtV ρ H ρ' (upd H' d o) :=
  ⟨E.pre, E.new, fun b p hb n z nt nd => by
    by_cases e : b = d
    · subst e
      rw [h] at hb; cases hb
      rcases z with z | z
      · exact (z hd).elim
      · exact (z hs).elim
    · rw [upd_ne e]; exact E.kp b p hb n z nt nd, fun b k hb n x => by
    rw [upd_ne (fun e : b = d => x (by rw [e]; exact hd))]; exact E.dk b k hb n x, fun b ps hb n => by
    have e : b ≠ d := fun e => by
      subst e; rw [h] at hb; cases hb
      rcases hs with ⟨_, q⟩ | ⟨_, q⟩ | ⟨_, q⟩ <;> cases q
    rw [upd_ne e]; exact E.tbl b ps hb n, E.hid, E.sub⟩
end
def ItOk (K : PySem.W.Frag) (J : It) (items : List SV) (gd : Gd) (ρ1 : Rho) (H1 : Hp) : Prop :=
  ∀ ρ H h, ExtV ρ1 H1 ρ H → RelH K H ρ h → gd.ok h = true → (∀ i, i < items.length → J.go i H) ∧ J.stop items.length H ∧
    ∀ i x H', i < items.length → J.yld i H x H' → Ext ρ H ρ H' ∧ RelH K H' ρ h ∧ ∃ s, items[i]? = some s ∧ RelS K H' ρ s x
def tI (K : PySem.W.Frag) (W : WX) (c : Env → M (List SV × Gd)) : TI := fun σ H Rr => ∃ ρ h env, RelH K H ρ h ∧ RelE K H ρ env σ ∧ Post K W (fun H1 ρ1 v J => ItOk K J v.1 v.2 ρ1 H1) σ ρ H (c env h) Rr
structure SI (X : Cx) (W : WX) (tg iter : Expr) (c : Env → M (List SV × Gd)) : Prop where
  pi : PI X tg iter (tI X.K W c)
theorem imp_pi {X : Cx} {tg iter : Expr} {t t' : TI} (h : PI X tg iter t) (i : ∀ σ H Q, t' σ H Q → t σ H Q) : PI X tg iter t' := ⟨fun pins s σ H R I q => h.run pins s σ H R I (i σ H R q)⟩
omit [Tabl] in
def forL (g : SV → Env → Option Env) (body : ST') (gd : Gd) : List SV → ST'
  | [], e, h => if gd.ok h = true then .nx e h else .stuck
  | s :: ss, e, h => if gd.ok h = true then match g s e with
    | none => .stuck
    | some e1 => match body e1 h with
      | .nx e2 h2 => forL g body gd ss e2 h2
      | .ct e2 h2 => forL g body gd ss e2 h2
      | .bk e2 h2 => .nx e2 h2
      | .rt v h2 => .rt v h2
      | .err c fs e2 h2 => .err c fs e2 h2
      | .stuck => .stuck
    else .stuck
omit [Tabl] in
def cFor (c : Env → M (List SV × Gd)) (g : SV → Env → Option Env) (body : ST') : ST' := fun e h => match c e h with
  | .ok v h' => forL g body v.2 v.1 e h'
  | .err c fs h' => .err c fs e h'
  | .stuck => .stuck
section
variable {X : Cx} {W : WX} {pos : Pos} {tg iter : Expr} {body : List Stmt} {c : Env → M (List SV × Gd)} {g : SV → Env → Option Env} {vs : List Nat} {b : ST'}
theorem s_for (hp : PassesOwn (model X.prog X.w) X.A X.env X.xe) (hc : X.calm = true) (hi : SI X W tg iter c) (hg : SG X tg g vs) (hb : SSs X W body b) (hs : ∀ x, foldedSetIterable iter X.env x = pure x := by intro _; rfl) : SS X W (.For tg iter body [] pos) (cFor c g b) := by
  refine ⟨imp_ps (ps_for hp hc hi.pi hg.pg hb.pss hs) fun D σ H ⟨ρ, h, env, R, RE, P⟩ => ⟨ρ, h, env, R, RE, ?_⟩⟩
  unfold cFor at P
  cases e : c env h with
  | err cc fs h1 => rw [e] at P; exact fun ρ1 H1 cv d E R1 q => P ρ1 H1 σ cv d E R1 (RE.mono R.holds E) q
  | stuck => rw [e] at P; exact P
  | ok v h1 =>
    rw [e] at P
    obtain ⟨items, gd⟩ := v
    intro ρ1 H1 J E1 R1 hJ
    have RE1 := RE.mono R.holds E1
    refine ⟨fun i m σ H => m = items.length - i ∧ i ≤ items.length ∧ ∃ ρ h env, Ext ρ1 H1 ρ H ∧ RelH X.K H ρ h ∧ RelE X.K H ρ env σ ∧ PostR X.K W D ρ H (forL g b gd (items.drop i) env h), ⟨items.length, by simp, Nat.zero_le _, ρ1, h1, env, .refl, R1, RE1, (P.shift E1 : PostR X.K W D ρ1 H1 (forL g b gd items env h1))⟩, ?_⟩
    rintro i m σ H ⟨rfl, hi, ρ, h, env, E, R, RE, P⟩
    by_cases hlt : i < items.length
    · rw [List.drop_eq_getElem_cons hlt] at P
      unfold forL at P
      by_cases hg : gd.ok h = true
      · rw [if_pos hg] at P
        obtain ⟨go, st, yl⟩ := hJ ρ H h E.v R hg
        refine .inr ⟨go i hlt, fun σ' H' => ∃ ρ h env, Ext ρ1 H1 ρ H' ∧ RelH X.K H' ρ h ∧ RelE X.K H' ρ env σ' ∧ PostR X.K W D ρ H' (forL g b gd (items.drop (i + 1)) env h), fun σ' H' q => ⟨items.length - (i + 1), by omega, rfl, hlt, q⟩, fun x H' y => ?_⟩
        obtain ⟨E2, R2, s, hs, r2⟩ := yl i x H' hlt y
        have hs' : items[i] = s := by rw [List.getElem?_eq_getElem hlt] at hs; exact Option.some.inj hs
        rw [hs'] at P
        cases eg : g s env with
        | none => rw [eg] at P; exact P.elim
        | some env1 =>
          rw [eg] at P
          refine ⟨ρ, h, env, s, env1, R2, RE.mono R.holds E2, r2, eg, fun σ2 RE2 _ _ => ⟨ρ, h, env1, R2, RE2, ?_⟩⟩
          have P2 := P.shift E2
          have E12 := E.tr E2
          cases eb : b env1 h with
          | nx e2 h2 => simp only [eb] at P2; exact fun ρ' H' σ' E' R' RE' => ⟨ρ', h2, e2, E12.tr E', R', RE', P2.shift E'⟩
          | ct e2 h2 => simp only [eb] at P2; exact fun ρ' H' σ' E' R' RE' => ⟨ρ', h2, e2, E12.tr E', R', RE', P2.shift E'⟩
          | bk e2 h2 => simp only [eb] at P2; exact fun ρ' H' σ' E' R' RE' => P2 ρ' H' σ' E' R' RE'
          | rt v h2 => simp only [eb] at P2; exact P2
          | err cc fs e2 h2 => simp only [eb] at P2; exact P2
          | stuck => simp only [eb] at P2; exact P2.elim
      · rw [if_neg hg] at P; exact P.elim
    · have hi' : i = items.length := by omega
      subst hi'
      rw [List.drop_length] at P
      unfold forL at P
      by_cases hg : gd.ok h = true
      · rw [if_pos hg] at P
        obtain ⟨go, st, yl⟩ := hJ ρ H h E.v R hg
        exact .inl ⟨st, P ρ H σ .refl R RE⟩
      · rw [if_neg hg] at P; exact P.elim
end

/-! ### list comprehensions -/
omit [Tabl] in
def wipeE (e : Env) : List Nat → Env
  | [] => e
  | v :: vs => (wipeE e vs).set v none
theorem RelE.wipe {K : PySem.W.Frag} {H : Hp} {ρ : Rho} {env : Env} {σ : St} (RE : RelE K H ρ env σ) : ∀ vs, RelE K H ρ (wipeE env vs) (L2.wipe σ vs)
  | [] => RE
  | v :: vs => (RelE.wipe RE vs).set_none
theorem wipe_get : ∀ (ws : List Nat) (τ : St) (j : Nat), (L2.wipe τ ws)[j]? = if j ∈ ws ∧ j < τ.length then some none else τ[j]? := by
  intro ws
  induction ws with
  | nil => intro τ j; simp [L2.wipe]
  | cons w ws ih =>
    intro τ j
    unfold L2.wipe
    have hlen : (L2.wipe τ ws).length = τ.length := L2.wipe_length τ ws
    by_cases hj : w = j
    · subst hj
      by_cases hl : w < τ.length
      · rw [List.getElem?_set_self (by rw [hlen]; exact hl), if_pos ⟨by simp, hl⟩]
      · rw [List.getElem?_eq_none (by rw [List.length_set, hlen]; omega), if_neg (fun z => hl z.2), List.getElem?_eq_none (by omega)]
    · rw [List.getElem?_set_ne hj, ih τ j]
      by_cases hm : j ∈ ws ∧ j < τ.length
      · rw [if_pos hm, if_pos ⟨List.mem_cons_of_mem _ hm.1, hm.2⟩]
      · rw [if_neg hm, if_neg]
        rintro ⟨z, hz⟩
        rcases List.mem_cons.mp z with q | q
        · exact hj q.symm
        · exact hm ⟨q, hz⟩
theorem wipe_same {σ σ' : St} {vs : List Nat} (ws : List Nat) (h : ∀ j, j ∉ vs → σ'[j]? = (L2.wipe σ ws)[j]?) (hl : σ'.length = (L2.wipe σ ws).length) (hw : ∀ v ∈ vs, v ∈ ws) : L2.wipe σ' ws = L2.wipe σ ws := by
  have hl' : σ'.length = σ.length := by rw [hl, L2.wipe_length]
  refine List.ext_getElem? fun j => ?_
  rw [wipe_get, wipe_get, hl']
  by_cases hm : j ∈ ws ∧ j < σ.length
  · rw [if_pos hm, if_pos hm]
  · rw [if_neg hm, if_neg hm]
    by_cases hv : j ∈ vs
    · have : ¬ j < σ.length := fun z => hm ⟨hw j hv, z⟩
      rw [List.getElem?_eq_none (by omega), List.getElem?_eq_none (by omega)]
    · rw [h j hv, wipe_get, if_neg hm]
omit [Tabl] in
/-- an error within is not served -/
def M.bindN {α β : Type} (m : M α) (k : α → M β) : M β := fun h => match m h with
  | .ok v h' => k v h'
  | _ => .stuck
theorem Post.bindN {α β γ δ : Type} {K : PySem.W.Frag} {W : WX} {rel : Hp → Rho → α → β → Prop} {rel' : Hp → Rho → γ → δ → Prop} {σ σ' : St} {ρ1 ρ : Rho} {H1 H : Hp} {h : SHp} {m : M α} {k : α → M γ} {Q : δ → Hp → Prop} (P : Post K W rel' σ ρ1 H1 (M.bindN m k h) Q) :
    Post K (fun _ _ _ _ => False) rel σ' ρ H (m h) (fun x H' => ∃ ρ' v h', Ext ρ H ρ' H' ∧ RelH K H' ρ' h' ∧ rel H' ρ' v x ∧ Post K W rel' σ ρ1 H1 (k v h') Q) := by
  unfold M.bindN at P
  cases e : m h with
  | ok v h1 => rw [e] at P; exact fun ρ1 H1 x E R q => ⟨ρ1, v, h1, E, R, q, P⟩
  | err c fs h1 => rw [e] at P; exact P.elim
  | stuck => rw [e] at P; exact P.elim
omit [Tabl] in
def compL (g : SV → Env → Option Env) (t : Env → M Bool) (el : Env → M SV) (gd : Gd) (e : Env) : List SV → List SV → M (List SV)
  | [], acc => fun h => if gd.ok h = true then .ok acc h else .stuck
  | s :: ss, acc => fun h => if gd.ok h = true then match g s e with
    | none => .stuck
    | some e1 => M.bindN (t e1) (fun k => if k = true then M.bindN (el e1) (fun v => if acc.length < sizeLine then compL g t el gd e ss (acc ++ [v]) else fun _ => .stuck) else compL g t el gd e ss acc) h
    else .stuck
omit [Tabl] in
/-- the same, what is made not carried along: n of them are made -/
def compK (g : SV → Env → Option Env) (t : Env → M Bool) (el : Env → M SV) (gd : Gd) (e : Env) : List SV → Nat → M (List SV)
  | [], _ => fun h => if gd.ok h = true then .ok [] h else .stuck
  | s :: ss, n => fun h => if gd.ok h = true then match g s e with
    | none => .stuck
    | some e1 => M.bindN (t e1) (fun k => if k = true then M.bindN (el e1) (fun v => if n < sizeLine then M.bindN (compK g t el gd e ss (n + 1)) (fun vs => M.ret (v :: vs)) else fun _ => .stuck) else compK g t el gd e ss n) h
    else .stuck
omit [Tabl] in
theorem compL_eq {g : SV → Env → Option Env} {t : Env → M Bool} {el : Env → M SV} {gd : Gd} {e : Env} : ∀ (ss acc : List SV) (h : SHp), compL g t el gd e ss acc h = M.bindN (compK g t el gd e ss acc.length) (fun vs => M.ret (acc ++ vs)) h
  | [], acc, h => by
    simp only [compL, compK, M.bindN]
    by_cases z : gd.ok h = true
    · simp [z, M.ret]
    · simp [z]
  | s :: ss, acc, h => by
    simp only [compL, compK, M.bindN]
    by_cases z : gd.ok h = true
    · simp only [if_pos z]
      cases g s e with
      | none => rfl
      | some e1 =>
        simp only [M.bindN]
        cases t e1 h with
        | err _ _ _ => rfl
        | stuck => rfl
        | ok k h1 =>
          cases k with
          | false => simp only [Bool.false_eq_true, if_false]; rw [compL_eq ss acc h1]; rfl
          | true =>
            simp only [if_true, M.bindN]
            cases el e1 h1 with
            | err _ _ _ => rfl
            | stuck => rfl
            | ok v h2 =>
              simp only
              by_cases y : acc.length < sizeLine
              · simp only [if_pos y]
                rw [compL_eq ss (acc ++ [v]) h2]
                simp only [M.bindN, List.length_append, List.length_cons, List.length_nil, Nat.zero_add]
                cases compK g t el gd e ss (acc.length + 1) h2 with
                | ok vs h3 => simp [M.ret]
                | err _ _ _ => rfl
                | stuck => rfl
              · simp only [if_neg y]
    · simp only [if_neg z]
def eLc (c : Env → M (List SV × Gd)) (own : List Nat) (g : SV → Env → Option Env) (t : Env → M Bool) (el : Env → M SV) : Env → M SV := fun e =>
  M.bind (c e) fun v => M.bind (compK g t el v.2 (wipeE e own) v.1 0) fun xs => M.ret (.rls xs)
omit [Tabl] in
theorem compK_not {g : SV → Env → Option Env} {t : Env → M Bool} {el : Env → M SV} {gd : Gd} {e : Env} : ∀ (ss : List SV) (n : Nat) (h h' : SHp) (c : Addr) (fs : List (Str × SV)), compK g t el gd e ss n h ≠ .err c fs h'
  | [], n, h, h', c, fs, q => by
    unfold compK at q
    split at q <;> cases q
  | s :: ss, n, h, h', c, fs, q => by
    unfold compK at q
    split at q
    · split at q
      · cases q
      · unfold M.bindN at q
        split at q
        · rename_i k h1 _
          cases k with
          | false => simp only [Bool.false_eq_true, if_false] at q; exact compK_not ss _ _ _ _ _ q
          | true =>
            simp only [if_true, M.bindN] at q
            split at q
            · split at q
              · simp only at q
                split at q
                · simp [M.ret] at q
                · cases q
              · cases q
            · cases q
        · cases q
    · cases q
omit [Tabl] in
theorem eLc_old {c : Env → M (List SV × Gd)} {own : List Nat} {g : SV → Env → Option Env} {t : Env → M Bool} {el : Env → M SV} : eLc c own g t el = fun e => M.bind (c e) fun v => M.bind (compL g t el v.2 (wipeE e own) v.1 []) fun xs => M.ret (.rls xs) := by
  funext e
  unfold eLc
  congr 1
  funext v h
  unfold M.bind
  rw [compL_eq]
  unfold M.bindN
  cases q : compK g t el v.2 (wipeE e own) v.1 0 h with
  | ok vs h' => simp [q, M.ret]
  | err c fs h' => exact (compK_not _ _ _ _ _ _ q).elim
  | stuck => simp [q]
structure STs (X : Cx) (ts : List Expr) (c : Env → M Bool) : Prop where
  pt : PTs X ts (tB X.K (fun _ _ _ _ => False) c)
omit [Tabl] in
def bTrue : Env → M Bool := fun _ => M.ret true
theorem t_nil {X : Cx} : STs X [] bTrue := ⟨⟨fun pins s σ H Q I h => pts_nil.run pins s σ H Q I (by
  obtain ⟨ρ, h, env, R, RE, P⟩ := h
  exact P ρ H true .refl R rfl)⟩⟩
theorem t_one {X : Cx} {t : Expr} {c : Env → M Bool} (h : ST X (fun _ _ _ _ => False) t c) : STs X [t] c := ⟨⟨fun pins s σ H Q I q => (pts_one h.pt).run pins s σ H Q I q⟩⟩

omit [Tabl] in
abbrev W0 : WX := fun _ _ _ _ => False
section
variable {X : Cx} {W : WX} {elt tg iter : Expr} {ifs : List Expr} {scope : Scope} {pos : Pos} {c : Env → M (List SV × Gd)} {g : SV → Env → Option Env} {t : Env → M Bool} {el : Env → M SV} {vs : List Nat}
/-- from the ground (ρ1, H1) with the hidden list at D -/
theorem Ext.over {ρ1 ρ ρ' : Rho} {H1 H H' : Hp} {ex : List Addr} (E : Ext ρ1 H1 ⟨ρ.l, ex⟩ H) (F : Ext ρ H ρ' H') (exs : ∀ b ∈ ρ1.ex, b ∈ ρ.ex) : Ext ρ1 H1 ⟨ρ'.l, ex⟩ H' := by
  refine ⟨E.pre.trans F.pre, fun a ha => ?_, fun b o hb n nt nd => F.kp b o (E.kp b o hb n nt nd) (E.outl hb n) nt nd, fun b k hb n => by
    rcases E.dk b k hb n with q | ⟨x, od, q⟩
    · rcases F.dk b k q (E.outl hb n) with r | ⟨y, r⟩
      · exact .inl r
      · exact .inr ⟨fun m => y (exs b m), r⟩
    · exact .inr ⟨x, od, F.kept b _ q (E.outl hb n)⟩, fun b ps hb n => by
    obtain ⟨qs, q⟩ := E.tbl b ps hb n
    exact F.tbl b qs q (E.outl hb n), E.hid, E.sub⟩
  rcases F.new a ha with q | q
  · exact E.new a q
  · by_cases m : a ∈ ρ1.l
    · exact .inl m
    · exact .inr (E.none_of q m)
theorem lc_post {own : List (Str × Nat)} {σ : St} {H : Hp} {Q : VK} (hv : ∀ v ∈ vs, v ∈ own.map (·.2)) (h : tS X.K W (eLc c (own.map (·.2)) g t el) σ H Q) :
    tLc (tI X.K W c) (tTg X.K g vs) (tB X.K W0 t) (tS X.K W0 el) (own.map (·.2)) σ H Q := by
  rw [eLc_old] at h
  obtain ⟨ρ, h, env, R, RE, P⟩ := h
  refine ⟨ρ, h, env, R, RE, (Post.bind (rel := fun H1 ρ1 v J => ItOk X.K J v.1 v.2 ρ1 H1) P).mono fun J H1 ⟨ρ1, v, h1, E1, R1, hJ, P1⟩ D hD => ?_⟩
  obtain ⟨items, gd⟩ := v
  have RE1 := RE.mono R.holds E1
  have oD := R1.outf hD
  -- the list at D, what is made so far
  let Inv' : Nat → Hp → Prop := fun i H => ∃ ρ h acc us, Ext ρ1 H1 ⟨ρ.l, ρ1.ex⟩ H ∧ RelH X.K H ρ h ∧ RelE X.K H ρ env σ ∧ D ∈ ρ.ex ∧ D ∉ ρ.l ∧ (∀ d ∈ ρ.ex, d ∈ ρ1.ex ∨ (H1 d = none ∧ d ∉ ρ1.l)) ∧ (∀ d ∈ ρ1.ex, d ∈ ρ.ex) ∧ H D = some (.lst us) ∧ RelL X.K H ρ acc us ∧
    Post X.K W (relS X.K) σ ρ1 H1 (M.bind (compL g t el gd (wipeE env (own.map (·.2))) (items.drop i) acc) (fun xs => M.ret (.rls xs)) h) Q
  refine ⟨fun i m H => m = items.length - i ∧ i ≤ items.length ∧ Inv' i H, ⟨items.length, by simp, Nat.zero_le _, ρ1.hide D, h1, [], [], ?_, R1.hidden hD, RE1.mono R1.holds (.hidden hD R1.holds), List.mem_cons_self, oD.1, ?_, fun d hd => List.mem_cons_of_mem _ hd, upd_same, .nil, P1⟩, ?_⟩
  · exact .fresh hD
  · intro d hd
    rcases List.mem_cons.mp hd with q | q
    · subst q; exact .inr ⟨hD, oD.1⟩
    · exact .inl q
  rintro i m H ⟨rfl, hi, ρ, h, acc, us, E, R, RE2, mD, nD, hid, sub, hH, ra, P⟩
  have E' : Ext ρ1 H1 ρ H := ⟨E.pre, E.new, E.kp, E.dk, E.tbl, hid, sub⟩
  by_cases hlt : i < items.length
  · rw [List.drop_eq_getElem_cons hlt] at P
    unfold compL at P
    by_cases hg : gd.ok h = true
    · obtain ⟨go, st, yl⟩ := hJ ρ H h E'.v R hg
      refine .inr ⟨go i hlt, Inv' (i + 1), fun H' q => ⟨items.length - (i + 1), by omega, rfl, hlt, q⟩, fun x H' y => ?_⟩
      obtain ⟨E2, R2, s, hs, r2⟩ := yl i x H' hlt y
      have hs' : items[i] = s := by rw [List.getElem?_eq_getElem hlt] at hs; exact Option.some.inj hs
      rw [hs'] at P
      have hH2 : H' D = some (.lst us) := E2.kept D _ hH nD
      have ra2 := ra.mono R.holds E2
      have RE3 := RE2.mono R.holds E2
      have E12 := E.over E2 sub
      cases eg : g s (wipeE env (own.map (·.2))) with
      | none => simp only [M.bind, if_pos hg, eg] at P; exact P.elim
      | some env1 =>
        have P0 : Post X.K W (relS X.K) σ ρ1 H1 (M.bindN (t env1) (fun k => M.bind (if k = true then M.bindN (el env1) (fun v => if acc.length < sizeLine then compL g t el gd (wipeE env (own.map (·.2))) (items.drop (i + 1)) (acc ++ [v]) else fun _ => .stuck) else compL g t el gd (wipeE env (own.map (·.2))) (items.drop (i + 1)) acc) (fun xs => M.ret (.rls xs))) h) Q := by
          simp only [M.bind, if_pos hg, eg] at P
          simp only [M.bindN] at P ⊢
          cases et : t env1 h with
          | ok k h' => simp only [et] at P ⊢; exact P
          | err c fs h' => simp only [et] at P; exact P.elim
          | stuck => simp only [et] at P; exact P.elim
        refine ⟨ρ, h, _, s, env1, R2, RE3.wipe _, r2, eg, fun σ2 RE4 a2 l2 => ⟨wipe_same _ a2 l2 hv, ?_⟩⟩
        refine ⟨ρ, h, env1, R2, RE4, (Post.bindN (rel := relT) (σ' := σ2) (ρ := ρ) (H := H') P0).mono fun k H3 ⟨ρ3, k', h3, E3, R3, r3, P3⟩ => ?_⟩
        cases r3
        have E13 := E12.over E3 sub
        have mD3 : D ∈ ρ3.ex := E3.sub D mD
        have nD3 : D ∉ ρ3.l := E3.outl hH2 nD
        have hH3 : H3 D = some (.lst us) := E3.kept D _ hH2 nD
        have ra3 := ra2.mono R2.holds E3
        have RE5 := RE3.mono R2.holds E3
        have EE : Ext ρ1 H1 ρ3 H3 := (E'.tr E2).tr E3
        cases k with
        | false => exact iteF ⟨ρ3, h3, acc, us, E13, R3, RE5, mD3, nD3, EE.hid, EE.sub, hH3, ra3, P3⟩
        | true =>
          refine iteT ⟨ρ3, h3, env1, R3, RE4.mono R2.holds E3, ?_⟩
          have P4 : Post X.K W (relS X.K) σ ρ1 H1 (M.bindN (el env1) (fun v => M.bind (if acc.length < sizeLine then compL g t el gd (wipeE env (own.map (·.2))) (items.drop (i + 1)) (acc ++ [v]) else fun _ => .stuck) (fun xs => M.ret (.rls xs))) h3) Q := by
            simp only [M.bind, M.bindN, if_true] at P3 ⊢
            cases et : el env1 h3 with
            | ok k h' => simp only [et] at P3 ⊢; exact P3
            | err c fs h' => simp only [et] at P3; exact P3.elim
            | stuck => simp only [et] at P3; exact P3.elim
          refine (Post.bindN (rel := relS X.K) (σ' := σ2) (ρ := ρ3) (H := H3) P4).mono fun y H4 ⟨ρ4, v, h4, E4, R4, r4, P5⟩ => ?_
          have mD4 : D ∈ ρ4.ex := E4.sub D mD3
          have nD4 : D ∉ ρ4.l := E4.outl hH3 nD3
          have hH4 : H4 D = some (.lst us) := E4.kept D _ hH3 nD3
          have ra4 := ra3.mono R3.holds E4
          have RE6 := RE5.mono R3.holds E4
          have EE4 : Ext ρ1 H1 ρ4 H4 := EE.tr E4
          have E14 := E13.over E4 EE.sub
          by_cases hs : acc.length < sizeLine
          · simp only [if_pos hs] at P5
            refine ⟨us, hH4, by rw [← ra4.length]; exact hs, ρ4, h4, acc ++ [v], us ++ [y], E14.at0 hD, R4.scribble mD4 (.lst hH4) nD4, RE6.scribble mD4 (.lst hH4), mD4, nD4, EE4.hid, EE4.sub, upd_same, (ra4.snoc r4).scribble mD4 (.lst hH4), P5⟩
          · simp only [M.bind, if_neg hs] at P5; exact P5.elim
    · simp only [M.bind, if_neg hg] at P; exact P.elim
  · have hi' : i = items.length := by omega
    subst hi'
    rw [List.drop_length] at P
    unfold compL at P
    by_cases hg : gd.ok h = true
    · obtain ⟨go, st, yl⟩ := hJ ρ H h E'.v R hg
      simp only [M.bind, if_pos hg] at P
      have ro : Rho.out ⟨ρ.l, ρ1.ex⟩ D := ⟨nD, oD.2⟩
      exact .inl ⟨st, P ⟨ρ.l, ρ1.ex⟩ H _ E (R.show rfl sub) (.rls hH ro (ra.show rfl sub) .nil)⟩
    · simp only [M.bind, if_neg hg] at P; exact P.elim
theorem e_lc (own : List (Str × Nat)) (hc : X.calm = true) (hN : X.N.Nodup) (hi : SI X W tg iter c) (ok : BlkOk X.N X.env.scope scope own)
    (hg : ∀ (s : Shared) (H : Hp) (C : Addr) (cl : List (Str × Addr)) (fp : List Addr), SG (X.blk s H scope (compEnvC scope cl C X.env) fp) tg g vs) (ht : ∀ (s : Shared) (H : Hp) (C : Addr) (cl : List (Str × Addr)) (fp : List Addr), STs (X.blk s H scope (compEnvC scope cl C X.env) fp) ifs t)
    (he : ∀ (s : Shared) (H : Hp) (C : Addr) (cl : List (Str × Addr)) (fp : List Addr), SE (X.blk s H scope (compEnvC scope cl C X.env) fp) W0 elt el) (hv : ∀ v ∈ vs, v ∈ own.map (·.2) := by decide) (hs : ∀ x, foldedSetIterable iter X.env x = pure x := by intro _; rfl) :
    SE X W (.ListComp elt [⟨tg, iter, ifs, 0⟩] scope pos) (eLc c (own.map (·.2)) g t el) :=
  ⟨imp_pe (pe_lc (own := own) (wi := tI X.K W c) (g := tTg X.K g vs) (tt := tB X.K W0 t) (te := tS X.K W0 el) hc hN hi.pi ok (fun s H C cl fp => (hg s H C cl fp).pg) (fun s H C cl fp => (ht s H C cl fp).pt) (fun s H C cl fp => (he s H C cl fp).pe) hs) fun σ H Q h => lc_post hv h⟩
theorem s_setLc (i : Nat) {y : Str} {py spos : Pos} (own : List (Str × Nat)) (hc : X.calm = true) (hN : X.N.Nodup) (hi : SI X W tg iter c) (ok : BlkOk X.N X.env.scope scope own)
    (hg : ∀ (s : Shared) (H : Hp) (C : Addr) (cl : List (Str × Addr)) (fp : List Addr), SG (X.blk s H scope (compEnvC scope cl C X.env) fp) tg g vs) (ht : ∀ (s : Shared) (H : Hp) (C : Addr) (cl : List (Str × Addr)) (fp : List Addr), STs (X.blk s H scope (compEnvC scope cl C X.env) fp) ifs t)
    (he : ∀ (s : Shared) (H : Hp) (C : Addr) (cl : List (Str × Addr)) (fp : List Addr), SE (X.blk s H scope (compEnvC scope cl C X.env) fp) W0 elt el)
    (hsw : swapsWith (.ListComp elt [⟨tg, iter, ifs, 0⟩] scope pos) (some (.Name y py)) spos.line X.env = pure true)
    (hy : X.N[i]? = some y := by rfl) (hyl : X.env.scope.names.lookup y = some .local := by rfl)
    (hv : ∀ v ∈ vs, v ∈ own.map (·.2) := by decide) (hs : ∀ x, foldedSetIterable iter X.env x = pure x := by intro _; rfl) :
    SS X W (.Assign [.Name y py] (.ListComp elt [⟨tg, iter, ifs, 0⟩] scope pos) spos) (cSet i (eLc c (own.map (·.2)) g t el)) :=
  ⟨imp_ps (ps_setLc (own := own) (wi := tI X.K W c) (g := tTg X.K g vs) (tt := tB X.K W0 t) (te := tS X.K W0 el) hc hN hy hyl hsw hi.pi ok (fun s H C cl fp => (hg s H C cl fp).pg) (fun s H C cl fp => (ht s H C cl fp).pt) (fun s H C cl fp => (he s H C cl fp).pe) hs) fun D σ H ⟨ρ, h, env, R, RE, P⟩ =>
    lc_post (Q := fun x H1 => gName i x σ H1 D.nx) hv ⟨ρ, h, env, R, RE, (post_onV R RE P).mono fun x H1 ⟨ρ1, v, h1, E1, R1, RE1, r1, P1⟩ => P1 ρ1 H1 _ .refl R1 (RE1.set r1)⟩⟩
end
end Sim

set_option Elab.async false
set_option linter.all false
set_option maxRecDepth 100000
set_option maxHeartbeats 4000000
namespace Sim
open PySem L2
variable [Tabl]

/-! ### lists and tuples behind a value -/
omit [Tabl] in
def listOf (v : SV) (h : SHp) : Option (List SV) := match v with
  | .rls xs => some xs
  | .frl xs => some xs
  | .ref n => match h[n]? with
    | some (.lst xs) => some xs
    | _ => none
  | _ => none
omit [Tabl] in
def tupOf (v : SV) : Option (List SV) := match v with
  | .tup xs => some xs
  | _ => none
omit [Tabl] in
def seqOf (v : SV) (h : SHp) : Option (List SV) := match v with
  | .tup xs => some xs
  | v => listOf v h
section
variable {K : PySem.W.Frag} {H : Hp} {ρ : Rho} {h : SHp} {v : SV} {x : V} {xs : List SV}
theorem tup_rel1 (r : RelS K H ρ (.tup xs) x) : ∃ a us, x = .ref a ∧ H a = some (.tup us) ∧ RelL K H ρ xs us := by
  cases r with
  | tup h a _ => exact ⟨_, _, rfl, h, a⟩
theorem tup_rel (r : RelS K H ρ (.tup xs) x) : ∃ a us, x = .ref a ∧ SqT K H a us ∧ RelL K H ρ xs us := by
  cases r with
  | tup h a _ => exact ⟨_, _, rfl, .of h, a⟩
theorem list_rel (R : RelH K H ρ h) (e : listOf v h = some xs) (r : RelS K H ρ v x) : ∃ a us, x = .ref a ∧ SqL K H a us ∧ RelL K H ρ xs us := by
  cases v with
  | rls ys => cases e; cases r with
    | rls h n a _ => exact ⟨_, _, rfl, .of h, a⟩
  | frl ys => cases e; cases r with
    | frl h a _ =>
      refine ⟨_, _, rfl, ?_, a⟩
      rcases h with ⟨h, _⟩ | h
      · exact .inl h
      · exact h.seq
  | ref i =>
    have e' : (match h[i]? with | some (.lst xs) => some xs | _ => none) = some xs := e
    cases r with
    | ref hi _ =>
      cases q : h[i]? with
      | none => simp [q] at e'
      | some o =>
        obtain ⟨a, ha, ob⟩ := R.ob i o q
        rw [hi] at ha; cases ha
        cases o with
        | lst ys =>
          simp [q] at e'; subst e'
          obtain ⟨us, h1, h2⟩ := ob
          exact ⟨_, us, rfl, .of h1, h2⟩
        | dic _ _ _ => simp [q] at e'
        | ins _ _ _ => simp [q] at e'
  | _ => cases e
theorem seq_rel (R : RelH K H ρ h) (e : seqOf v h = some xs) (r : RelS K H ρ v x) : ∃ a us, x = .ref a ∧ (SqL K H a us ∨ SqT K H a us) ∧ RelL K H ρ xs us := by
  by_cases ht : ∃ ys, v = .tup ys
  · obtain ⟨ys, rfl⟩ := ht
    cases e
    obtain ⟨a, us, h1, h2, h3⟩ := tup_rel r
    exact ⟨a, us, h1, .inr h2, h3⟩
  · have e' : listOf v h = some xs := by
      cases v <;> first | exact e | exact (ht ⟨_, rfl⟩).elim
    obtain ⟨a, us, h1, h2, h3⟩ := list_rel R e' r
    exact ⟨a, us, h1, .inl h2, h3⟩
end

/-! ### ints -/
omit [Tabl] in
def op2I (f : Int → Int → Option SV) : SV → SV → SHp → Option SV := fun v w _ => match v, w with
  | .int i, .int j => f i j
  | _, _ => none
theorem op2I_some {f : Int → Int → Option SV} {v w : SV} {h : SHp} {z : SV} (e : op2I f v w h = some z) : ∃ i j, v = .int i ∧ w = .int j ∧ f i j = some z := by
  unfold op2I at e
  split at e
  · exact ⟨_, _, rfl, rfl, e⟩
  · cases e
theorem OpS.of {X : Cx} {f : Value → Value → Sem Value} {g : SV → SV → SHp → Option SV} {r : R2} (ho : OpR X f r)
    (i : ∀ x y H Q ρ h v w z, RelH X.K H ρ h → RelS X.K H ρ v x → RelS X.K H ρ w y → g v w h = some z → (∀ H' r, Ext ρ H ρ H' → RelH X.K H' ρ h → RelS X.K H' ρ z r → Q r H') → r x y H Q) : OpS X f g :=
  fun pins s σ H x y v u Q I rx ry ⟨ρ, h, a, b, z, R, ra, rb, e, k⟩ => ho pins s σ H x y v u Q I rx ry (i x y H Q ρ h a b z R ra rb e k)
theorem OpS.or {X : Cx} {f : Value → Value → Sem Value} {g g' : SV → SV → SHp → Option SV} (a : OpS X f g) (b : OpS X f g') : OpS X f (fun v w h => (g v w h).or (g' v w h)) :=
  fun pins s σ H x y v u Q I rx ry ⟨ρ, h, p, q, z, R, ra, rb, e, k⟩ => by
    cases e1 : g p q h with
    | some z' =>
      have e' : (g p q h).or (g' p q h) = some z := e
      rw [e1] at e'; cases e'
      exact a pins s σ H x y v u Q I rx ry ⟨ρ, h, p, q, _, R, ra, rb, e1, k⟩
    | none =>
      have e' : (g p q h).or (g' p q h) = some z := e
      rw [e1] at e'
      exact b pins s σ H x y v u Q I rx ry ⟨ρ, h, p, q, _, R, ra, rb, e', k⟩
section
variable {X : Cx}
theorem opI_of {f : Value → Value → Sem Value} {C : Int → Int → Prop} [∀ i j, Decidable (C i j)] {g : Int → Int → Int} (ho : OpR X f (rI C fun i j => .int (g i j))) : OpS X f (op2I fun i j => if C i j then some (.int (g i j)) else none) :=
  .of ho fun x y H Q ρ h v w z R rv rw' e k => by
    obtain ⟨i, j, rfl, rfl, e2⟩ := op2I_some e
    by_cases c : C i j
    · rw [if_pos c] at e2; cases e2
      cases rv; cases rw'
      exact ⟨i, j, rfl, rfl, c, k H _ .refl R (.int .nil)⟩
    · rw [if_neg c] at e2; cases e2
theorem opI0_of {f : Value → Value → Sem Value} {g : Int → Int → Int} (ho : OpR X f (rI0 fun i j => .int (g i j))) : OpS X f (op2I fun i j => some (.int (g i j))) :=
  .of ho fun x y H Q ρ h v w z R rv rw' e k => by
    obtain ⟨i, j, rfl, rfl, e2⟩ := op2I_some e
    cases e2
    cases rv; cases rw'
    exact ⟨i, j, rfl, rfl, k H _ .refl R (.int .nil)⟩
theorem opB0_of {f : Value → Value → Sem Value} {g : Int → Int → Bool} (ho : OpR X f (rI0 fun i j => .bl (g i j))) : OpS X f (op2I fun i j => some (.bl (g i j))) :=
  .of ho fun x y H Q ρ h v w z R rv rw' e k => by
    obtain ⟨i, j, rfl, rfl, e2⟩ := op2I_some e
    cases e2
    cases rv; cases rw'
    exact ⟨i, j, rfl, rfl, k H _ .refl R (.bl .nil)⟩
omit [Tabl] in
def addI : SV → SV → SHp → Option SV := op2I fun i j => some (.int (i + j))
omit [Tabl] in
def subI : SV → SV → SHp → Option SV := op2I fun i j => some (.int (i - j))
omit [Tabl] in
instance (i j : Int) : Decidable (L2.CMulW i j) := inferInstanceAs (Decidable (_ < _))
omit [Tabl] in
instance (i j : Int) : Decidable (L2.CDivW i j) := inferInstanceAs (Decidable (_ ∧ _))
omit [Tabl] in
instance (i j : Int) : Decidable (L2.CPow i j) := inferInstanceAs (Decidable (_ ∧ _ ∧ _))
omit [Tabl] in
def mulI : SV → SV → SHp → Option SV := op2I fun i j => if L2.CMulW i j then some (.int (i * j)) else none
omit [Tabl] in
def divI : SV → SV → SHp → Option SV := op2I fun i j => if L2.CDivW i j then some (.int (i / j)) else none
omit [Tabl] in
def modI : SV → SV → SHp → Option SV := op2I fun i j => if j ≠ 0 then some (.int (i.fmod j)) else none
omit [Tabl] in
def powI : SV → SV → SHp → Option SV := op2I fun i j => if L2.CPow i j then some (.int (i ^ j.toNat)) else none
omit [Tabl] in
def ltI : SV → SV → SHp → Option SV := op2I fun i j => some (.bl (decide (i < j)))
omit [Tabl] in
def leI : SV → SV → SHp → Option SV := op2I fun i j => some (.bl (decide (i ≤ j)))
omit [Tabl] in
def gtI : SV → SV → SHp → Option SV := op2I fun i j => some (.bl (decide (j < i)))
omit [Tabl] in
def geI : SV → SV → SHp → Option SV := op2I fun i j => some (.bl (decide (j ≤ i)))
theorem o_addI : OpS X (binaryOp .Add) addI := opI0_of op_add
theorem o_subI : OpS X (binaryOp .Sub) subI := opI0_of op_sub
theorem o_mulI : OpS X (binaryOp .Mult) mulI := opI_of op_mulW
theorem o_divI : OpS X (binaryOp .FloorDiv) divI := opI_of op_fdivW
theorem o_modI : OpS X (binaryOp .Mod) modI := opI_of op_modN
theorem o_powI : OpS X (binaryOp .Pow) powI := opI_of op_pow
theorem o_ltI : OpS X (compareOp .Lt) ltI := opB0_of op_lt
theorem o_leI : OpS X (compareOp .LtE) leI := opB0_of op_le
theorem o_gtI : OpS X (compareOp .Gt) gtI := opB0_of op_gt
theorem o_geI : OpS X (compareOp .GtE) geI := opB0_of op_ge
omit [Tabl] in
def addStr : SV → SV → SHp → Option SV := fun v w _ => match v, w with
  | .str a, .str b => if a.length + b.length ≤ sizeLine then some (.str (a ++ b)) else none
  | _, _ => none
omit [Tabl] in
def addTup : SV → SV → SHp → Option SV := fun v w _ => match v, w with
  | .tup a, .tup b => if a.length + b.length ≤ sizeLine then some (.tup (a ++ b)) else none
  | _, _ => none
omit [Tabl] in
def addLst : SV → SV → SHp → Option SV := fun v w _ => match v, w with
  | .rls a, .rls b => if a.length + b.length ≤ sizeLine then some (.rls (a ++ b)) else none
  | _, _ => none
theorem o_addStr : OpS X (binaryOp .Add) addStr := .of op_add_str fun x y H Q ρ h v w z R rv rw' e k => by
  unfold addStr at e
  split at e
  · rename_i a b
    by_cases c : a.length + b.length ≤ sizeLine
    · rw [if_pos c] at e; cases e
      cases rv; cases rw'
      exact ⟨a, b, rfl, rfl, c, k H _ .refl R (.str .nil)⟩
    · rw [if_neg c] at e; cases e
  · cases e
theorem o_addTup : OpS X (binaryOp .Add) addTup := .of op_catA fun x y H Q ρ h v w z R rv rw' e k => by
  unfold addTup at e
  split at e
  · rename_i a b
    by_cases c : a.length + b.length ≤ sizeLine
    · rw [if_pos c] at e; cases e
      obtain ⟨p, us, rfl, h1, r1⟩ := tup_rel1 rv
      obtain ⟨q, ws, rfl, h2, r2⟩ := tup_rel1 rw'
      refine ⟨p, q, us, ws, rfl, rfl, .of h1, .of h2, by rw [← r1.length, ← r2.length]; exact c, fun e => ?_, fun _ e => ?_, fun _ _ t ht => ?_⟩
      · subst e
        have ea : a = [] := List.length_eq_zero_iff.mp (by rw [r1.length]; rfl)
        subst ea
        exact k H _ .refl R (.tup h2 r2 .nil)
      · subst e
        have eb : b = [] := List.length_eq_zero_iff.mp (by rw [r2.length]; rfl)
        subst eb
        exact k H _ .refl R (by rw [List.append_nil]; exact .tup h1 r1 .nil)
      · exact k _ _ (.fresh ht) (R.fresh ht) (rel_tup R ht (r1.app r2))
    · rw [if_neg c] at e; cases e
  · cases e
theorem o_addLst : OpS X (binaryOp .Add) addLst := .of op_cat fun x y H Q ρ h v w z R rv rw' e k => by
  unfold addLst at e
  split at e
  · rename_i a b
    by_cases c : a.length + b.length ≤ sizeLine
    · rw [if_pos c] at e; cases e
      cases rv with
      | rls h1 n1 r1 _ =>
        cases rw' with
        | rls h2 n2 r2 _ => exact ⟨_, _, _, _, rfl, rfl, h1, h2, by rw [← r1.length, ← r2.length]; exact c, fun t ht => k _ _ (.fresh ht) (R.fresh ht) (rel_rls R ht (r1.app r2))⟩
    · rw [if_neg c] at e; cases e
  · cases e
omit [Tabl] in
/-- tuple * n -/
def mulTup : SV → SV → SHp → Option SV := fun v w _ => match v, w with
  | .tup a, .int k => if a ≠ [] ∧ 2 ≤ k ∧ k ≤ 1000 ∧ a.length ≤ 1000 then some (.tup (List.replicate k.toNat a).flatten) else none
  | _, _ => none
theorem rel_rep {K : PySem.W.Frag} {H : Hp} {ρ : Rho} {xs : List SV} {us : List V} (r : RelL K H ρ xs us) : ∀ n : Nat, RelL K H ρ (List.replicate n xs).flatten (List.replicate n us).flatten
  | 0 => .nil
  | n + 1 => by rw [List.replicate_succ, List.replicate_succ, List.flatten_cons, List.flatten_cons]; exact r.app (rel_rep r n)
theorem o_mulTup : OpS X (binaryOp .Mult) mulTup := .of op_repT fun x y H Q ρ h v w z R rv rw' e k => by
  unfold mulTup at e
  split at e
  · rename_i a n
    by_cases c : a ≠ [] ∧ 2 ≤ n ∧ n ≤ 1000 ∧ a.length ≤ 1000
    · rw [if_pos c] at e; cases e
      obtain ⟨p, us, rfl, h1, r1⟩ := tup_rel rv
      cases rw'
      refine ⟨p, n, us, rfl, rfl, h1, fun z => c.1 (List.length_eq_zero_iff.mp (by rw [r1.length, z]; rfl)), c.2.1, c.2.2.1, by rw [← r1.length]; exact c.2.2.2, fun t ht => k _ _ (.fresh ht) (R.fresh ht) (rel_tup R ht (rel_rep r1 _))⟩
    · rw [if_neg c] at e; cases e
  · cases e
omit [Tabl] in
def isNoneF : SV → SV → SHp → Option SV := fun v w _ => match w with
  | .non => some (.bl (decide (v = .non)))
  | _ => none
omit [Tabl] in
def notNoneF : SV → SV → SHp → Option SV := fun v w _ => match w with
  | .non => some (.bl (!decide (v = .non)))
  | _ => none
theorem none_rel {K : PySem.W.Frag} {H : Hp} {ρ : Rho} {v : SV} {x : V} (r : RelS K H ρ v x) : decide (v = .non) = decide (x = .non) := by
  cases r <;> simp
theorem o_isN : OpS X (compareOp .Is) isNoneF := .of op_isN fun x y H Q ρ h v w z R rv rw' e k => by
  unfold isNoneF at e
  split at e
  · cases e; cases rw'
    exact ⟨rfl, by rw [← none_rel rv]; exact k H _ .refl R (.bl .nil)⟩
  · cases e
theorem o_notN : OpS X (compareOp .IsNot) notNoneF := .of op_notN fun x y H Q ρ h v w z R rv rw' e k => by
  unfold notNoneF at e
  split at e
  · cases e; cases rw'
    exact ⟨rfl, by rw [← none_rel rv]; exact k H _ .refl R (.bl .nil)⟩
  · cases e
end

/-! ### == over data -/
omit [Tabl] in
mutual
def dataV : SV → Option PyData
  | .non => some .none
  | .bl b => some (.bool b)
  | .int i => some (.int i)
  | .str x => some (.str x)
  | .tup xs => (dataL xs).map .tuple
  | .rls xs => (dataL xs).map .list
  | .frl xs => (dataL xs).map .list
  | _ => none
def dataL : List SV → Option (List PyData)
  | [] => some []
  | x :: xs => match dataV x, dataL xs with
    | some d, some ds => some (d :: ds)
    | _, _ => none
end
omit [Tabl] in
def dataT (v : SV) (h : SHp) : Option PyData := match v with
  | .ref n => match h[n]? with
    | some (.lst xs) => (dataL xs).map .list
    | _ => none
  | v => dataV v
section
variable {K : PySem.W.Frag} {H : Hp} {ρ : Rho}
theorem data_rel {xs : List SV} {us : List V} (r : RelL K H ρ xs us) : ∀ {ds}, dataL xs = some ds → DpAll K H us ds := by
  induction r with
  | nil => intro ds e; simp [dataL] at e; subst e; exact .nil
  | @non xs vs _ ih | @ty i xs vs _ ih | @bl b xs vs _ ih | @int i xs vs _ ih | @str i xs vs _ ih | @adr a xs vs _ ih | @ref i a xs vs _ _ ih => 
    intro ds e
    simp only [dataL, dataV] at e
    cases q : dataL xs with
    | none => simp [q] at e
    | some es => simp [q] at e <;> (subst e; exact .cons (by constructor) (ih q))
  | @tup a ys us xs vs h _ _ i1 i2 =>
    intro ds e
    simp only [dataL, dataV] at e
    cases q : dataL ys with
    | none => simp [q] at e
    | some es =>
      cases q2 : dataL xs with
      | none => simp [q, q2] at e
      | some fs => simp [q, q2] at e; subst e; exact .cons (.tup (.of h) (i1 q)) (i2 q2)
  | @rls a ys us xs vs h _ _ _ i1 i2 =>
    intro ds e
    simp only [dataL, dataV] at e
    cases q : dataL ys with
    | none => simp [q] at e
    | some es =>
      cases q2 : dataL xs with
      | none => simp [q, q2] at e
      | some fs => simp [q, q2] at e; subst e; exact .cons (.lst (.of h) (i1 q)) (i2 q2)
  | @frl a ys us xs vs h _ _ i1 i2 =>
    intro ds e
    simp only [dataL, dataV] at e
    cases q : dataL ys with
    | none => simp [q] at e
    | some es =>
      cases q2 : dataL xs with
      | none => simp [q, q2] at e
      | some fs =>
        simp [q, q2] at e; subst e
        refine .cons (.lst ?_ (i1 q)) (i2 q2)
        rcases h with ⟨h, _⟩ | h
        · exact .inl h
        · exact h.seq
  | obj _ _ _ _ _ _ _ => intro ds e; simp [dataL, dataV] at e
  | xcp _ _ _ _ _ _ => intro ds e; simp [dataL, dataV] at e
  | rdK _ _ _ _ _ _ _ => intro ds e; simp [dataL, dataV] at e
  | rdT _ _ _ _ _ _ _ => intro ds e; simp [dataL, dataV] at e
theorem data_one {v : SV} {x : V} {d : PyData} (r : RelS K H ρ v x) (e : dataV v = some d) : Dp K H x d := by
  have q : dataL [v] = some [d] := by simp [dataL, e]
  have z := data_rel r q
  cases z with
  | cons a _ => exact a
theorem data_top {h : SHp} {v : SV} {x : V} {d : PyData} (R : RelH K H ρ h) (r : RelS K H ρ v x) (e : dataT v h = some d) : Dp K H x d := by
  cases v with
  | ref n =>
    have e' : (match h[n]? with | some (.lst xs) => (dataL xs).map PyData.list | _ => none) = some d := e
    cases q : h[n]? with
    | none => simp [q] at e'
    | some o =>
      cases r with
      | ref hi _ =>
        obtain ⟨a, ha, ob⟩ := R.ob n o q
        rw [hi] at ha; cases ha
        cases o with
        | lst ys =>
          obtain ⟨us, h1, h2⟩ := ob
          simp only [q] at e'
          cases q2 : dataL ys with
          | none => simp [q2] at e'
          | some ds => simp [q2] at e'; subst e'; exact .lst (.of h1) (data_rel h2 q2)
        | dic _ _ _ => simp [q] at e'
        | ins _ _ _ => simp [q] at e'
  | _ => exact data_one r e
end
omit [Tabl] in
def eqF (n : Bool) : SV → SV → SHp → Option SV := fun v w h => match dataT v h, dataT w h with
  | some d, some e => if SeqAt.shaped d = true ∧ SeqAt.shaped e = true then some (.bl (if n then !PyData.eqv d e else PyData.eqv d e)) else none
  | _, _ => none
theorem eqF_some {n : Bool} {v w : SV} {h : SHp} {z : SV} (q : eqF n v w h = some z) : ∃ d e, dataT v h = some d ∧ dataT w h = some e ∧ SeqAt.shaped d = true ∧ SeqAt.shaped e = true ∧ z = .bl (if n then !PyData.eqv d e else PyData.eqv d e) := by
  unfold eqF at q
  split at q
  · rename_i d e h1 h2
    by_cases c : SeqAt.shaped d = true ∧ SeqAt.shaped e = true
    · rw [if_pos c] at q; cases q; exact ⟨d, e, h1, h2, c.1, c.2, rfl⟩
    · rw [if_neg c] at q; cases q
  · cases q
section
variable {X : Cx}
theorem o_eq (hu : X.A.units + 64 < cLine) : OpS X (compareOp .Eq) (eqF false) := .of (op_eqD hu) fun x y H Q ρ h v w z R rv rw' e k => by
  obtain ⟨d, d', h1, h2, s1, s2, rfl⟩ := eqF_some e
  exact ⟨d, d', data_top R rv h1, data_top R rw' h2, s1, s2, k H _ .refl R (.bl .nil)⟩
theorem o_ne (hu : X.A.units + 64 < cLine) : OpS X (compareOp .NotEq) (eqF true) := .of (op_neD hu) fun x y H Q ρ h v w z R rv rw' e k => by
  obtain ⟨d, d', h1, h2, s1, s2, rfl⟩ := eqF_some e
  exact ⟨d, d', data_top R rv h1, data_top R rw' h2, s1, s2, k H _ .refl R (.bl .nil)⟩
end
end Sim

set_option Elab.async false
set_option linter.all false
set_option maxRecDepth 100000
set_option maxHeartbeats 4000000

/-! ### enumerate(tuple) -/
namespace L2
open PySem PySem.Spec PyProof.Rows
def IteT (K : PySem.W.Frag) (a : Addr) : It :=
  ⟨fun i H => ∃ (xs : List V) (x : V), SqT K H a xs ∧ xs[i]? = some x, fun i H v H' => ∃ T x, v = .ref T ∧ H T = none ∧ H' = upd H T (.tup [.int (i : Nat), x]) ∧ ∀ xs, SqT K H a xs → xs[i]? = some x, fun i H => ∃ xs : List V, SqT K H a xs ∧ xs.length = i⟩
theorem turn_enumT {P : Program} {w : World} {K : PySem.W.Frag} {elts : List Expr} {kk : Nat} {tpos : Pos} (a e it : Addr) :
    Turn P w K (.Tuple elts kk tpos) (IteT K a) [e, it] e (fun i h => (∃ old, IsEnum h e it ((i : Nat) : Int) old) ∧ h.IsTupleIter it a i ∧ e ≠ it) where
  mem := by simp
  obj := fun i h st b hb => by
    obtain ⟨⟨old, he⟩, ⟨o, ho, hc, hd⟩, _⟩ := st
    have e' : b = e ∨ b = it := by simpa using hb
    rcases e' with z | z
    · rw [z]; exact ⟨_, he, fun v q => nomatch q⟩
    · rw [z]; exact ⟨o, ho, fun v q => by rw [hd] at q; cases q⟩
  keep := fun i h h' st k => let ⟨⟨old, he⟩, hi, hne⟩ := st; ⟨⟨old, k e (by simp) _ he⟩, hi.at fun o q => k it (by simp) o q, hne⟩
  item := by
    intro X hP hw hK hc i pins s σ H E I hf st hg
    subst hP hw hK
    obtain ⟨⟨old, he⟩, hit, hne⟩ := st
    obtain ⟨xs, x, hq, hx⟩ := hg
    obtain ⟨its, rv, p, hz⟩ := I.tuple hq
    obtain ⟨u, hu, ru⟩ := rv.get hx
    have hel : e < s.heap.objs.size := Heap.lt_size he
    have hil : it < s.heap.objs.size := by obtain ⟨_, q, _⟩ := hit; exact Heap.lt_size q
    have hae : a ≠ e := fun z => by
      obtain ⟨o, ho, hcl, _⟩ := id p
      rw [z] at ho
      have he2 : s.heap.get? e = some _ := he
      rw [he2] at ho; cases ho; injection hcl with q; exact absurd q (by decide)
    have hai : a ≠ it := fun z => by
      obtain ⟨o, ho, hcl, _⟩ := id p
      obtain ⟨o2, ho2, hc2, _⟩ := id hit
      rw [z, ho2] at ho; cases ho; rw [hc2] at hcl; injection hcl with q; exact absurd q (by decide)
    have hlen : i < its.toArray.size := by
      have q := (List.getElem?_eq_some_iff.mp hu).1
      simpa using q
    have D := PySem.Draws.tuple (prog := X.prog) (w := X.w) (A := X.A.in1) (I.ok.hd hc) it a hai its.toArray
    refine wpAny_pyNext_enum_itemD D he ⟨hit, p⟩ hlen hne (by simp [hne, Ne.symm hae]) fun x' h' tk hPx ho hit' hT hsz hk => ?_
    have ex : x' = u := by
      have q : its.toArray[i]? = some u := by simpa using hu
      rw [q] at hPx; exact (Option.some.inj hPx).symm
    subst ex
    refine ⟨_, rfl, wpAny_letOwnedTupleGo_enum (s := { s with heap := h', toks := tk + 1 }) ho fun h'' he' sb => ?_⟩
    have hT2 : h''.get? s.heap.objs.size = some { cls := .type "tuple", data := .seq #[.int i tk, x'] } := (sb.2 _ (Nat.ne_of_gt hel)).trans hT
    have new : ObjOk X.prog X.w (upd H s.heap.objs.size (.tup [.int (i : Nat), x])) h'' s.heap.objs.size (.tup [.int (i : Nat), x]) :=
      ⟨by show 2 ≤ sizeLine; decide, [.int i tk, x'], .cons ⟨_, rfl⟩ (.cons ru .nil), ⟨_, hT2, rfl, _, rfl⟩⟩
    have I1 : Inv X pins σ (upd H s.heap.objs.size (.tup [.int (i : Nat), x])) { s with heap := h'', toks := tk + 1 } :=
      I.turnedNew (ch := [e, it]) (fun b ob hb q => (sb.2 b (fun z => hb (by simp [z]))).trans (hk b ob (fun z => hb (by simp [z])) (fun z => hb (by simp [z])) q)) hf (Nat.le_refl _) new
    refine ⟨.ref s.heap.objs.size, _, I1, rfl, ⟨_, x, rfl, I.hok.fresh (Nat.le_refl _), rfl, fun ys hy => by rw [I.tuple_inj hy hq]; exact hx⟩, ⟨⟨x', ?_⟩, hit'.1.at fun o q => (sb.2 it (Ne.symm hne)).trans q, hne⟩, fun b hb => ?_⟩
    · have e1 : ((i + 1 : Nat) : Int) = (i : Int) + 1 := by omega
      rw [e1]; exact he'
    · have hb' : b < s.heap.objs.size := by
        have e' : b = e ∨ b = it := by simpa using hb
        rcases e' with z | z
        · rw [z]; exact hel
        · rw [z]; exact hil
      rw [upd_ne (Nat.ne_of_lt hb')]
      exact (hf b hb).1
  done := by
    intro X hP hw hK hc i pins s σ H E I hf st hg
    subst hP hw hK
    obtain ⟨⟨old, he⟩, hit, hne⟩ := st
    obtain ⟨xs, hq, hx⟩ := hg
    obtain ⟨its, rv, p, hz⟩ := I.tuple hq
    obtain ⟨f0, f1, f2, f3, f4, f5⟩ := hf it (by simp)
    have hl := rv.length
    have hai : a ≠ it := fun z => by
      obtain ⟨o, ho, hcl, _⟩ := id p
      obtain ⟨o2, ho2, hc2, _⟩ := id hit
      rw [z, ho2] at ho; cases ho; rw [hc2] at hcl; injection hcl with q; exact absurd q (by decide)
    have D := PySem.Draws.tuple (prog := X.prog) (w := X.w) (A := X.A.in1) (I.ok.hd hc) it a hai its.toArray
    have hi : i = its.toArray.size := by simp; omega
    exact wpAny_pyNext_enum_endD D he (by rw [← hi]; exact ⟨hit, p⟩) fun h' eb => ⟨rfl, I.turned (t' := s.toks) (fun b o hb q => eb b o hb q) f0 f1 f3 f4 f5⟩
  self := fun A i s Q E st h => let ⟨⟨_, he⟩, _⟩ := st; wpAny_pyIter_enum he h
theorem meets_enumerate_newT (l : Addr) (items : Array Value) (n : Nat) (dct : Option Addr) (sl : Array (Option Value)) :
    Meets (Builtin.«enumerate.__new__» ⟨[.type "enumerate", .ref l], []⟩) (fun _ R s => s.heap.get? l = some { cls := .type "tuple", dict := dct, data := .seq items n, slots := sl } ∧
      R (.ok (.ret (.ref (s.heap.push { cls := .type "tuple_iterator", data := .fields #[.ref l, .int 0 0] }).objs.size)))
        { s with heap := (s.heap.push { cls := .type "tuple_iterator", data := .fields #[.ref l, .int 0 0] }).push { cls := .type "enumerate", data := .fields #[.none, .bool false, .ref s.heap.objs.size, rawInt 0, .none, .none] } }) :=
  .of_wp fun prog w A R s h => by
    obtain ⟨hp, g, d, tk, os⟩ := s; obtain ⟨hl, h⟩ := h
    have hsub := sub_enumerate
    have hL : Heap.IsTuple (Shared.heap ⟨hp, g, d, tk, os⟩) l items := ⟨_, hl, rfl, n, rfl⟩
    wp_walk using AutoSeq1.wpAny_loadPart' hl
    refine wpAny_stack_any fun st => wpAny_pure ?_
    split
    · rename_i c _ _ _ _ _
      cases (c == Value.type "enumerate")
      · wp_walk using AutoSeq1.wpAny_loadPart' hl, wpAny_pyIter_tuple hL
        exact ⟨_, rfl, h⟩
      · wp_walk using AutoSeq1.wpAny_loadPart' hl, wpAny_pyIter_tuple hL
        exact ⟨_, rfl, h⟩
    · wp_walk using AutoSeq1.wpAny_loadPart' hl, wpAny_pyIter_tuple hL
      exact ⟨_, rfl, h⟩
theorem call_enumerate_tuple {prog : Program} {w : World} {A : Around} {E : Value → Shared → Prop} {s : Shared} {l : Addr} {items : Array Value} {Q : Value → Shared → Prop} (hL : s.heap.IsTuple l items)
    (h : ∀ h', IsEnum h' (s.heap.objs.size + 1) s.heap.objs.size 0 .none → h'.IsTupleIter s.heap.objs.size l 0 → h'.objs.size = s.heap.objs.size + 2 →
      (∀ b o, s.heap.get? b = some o → h'.get? b = some o) → Q (.ref (s.heap.objs.size + 1)) { s with heap := h' }) :
    wpAny (model prog w) A (call (.type "enumerate") [.ref l]) Q E s := by
  obtain ⟨⟨c, dct, dt, sl⟩, hl, hc, n, hd⟩ := hL
  replace hc : c = .type "tuple" := hc
  replace hd : dt = .seq items n := hd
  subst hc hd
  refine callType_new F.called_enumerate (by decide) (F.typeCall_enumerate_1 _) (F.newCall_enumerate_1 _) (fun obj => F.args_object_init_2 obj _) F.entry_enumerate_new
    (meets_enumerate_newT l items n dct sl) ⟨hl, ?_⟩
  have hz : (s.heap.push { cls := .type "tuple_iterator", data := .fields #[.ref l, .int 0 0] }).objs.size = s.heap.objs.size + 1 := Heap.size_push ..
  show _ ∧ _
  rw [hz]
  have he : IsEnum ((s.heap.push { cls := .type "tuple_iterator", data := .fields #[.ref l, .int 0 0] }).push
      { cls := .type "enumerate", data := .fields #[.none, .bool false, .ref s.heap.objs.size, rawInt 0, .none, .none] }) (s.heap.objs.size + 1) s.heap.objs.size 0 .none := by
    have := Heap.get?_push_size (s.heap.push { cls := .type "tuple_iterator", data := .fields #[.ref l, .int 0 0] })
      (o := { cls := .type "enumerate", data := .fields #[.none, .bool false, .ref s.heap.objs.size, rawInt 0, .none, .none] }) rfl
    rw [hz] at this; exact this
  refine ⟨⟨_, he, rfl⟩, h _ he ⟨_, Heap.get?_push_of_some _ (Heap.get?_push_size _ rfl), rfl, rfl⟩ (by rw [Heap.size_push, hz]) fun b o x => Heap.get?_push_of_some _ (Heap.get?_push_of_some _ x)⟩
/-- enumerate of a list or of a tuple -/
def iEnumA (K : PySem.W.Frag) (ta : TA) : TI := fun σ H R => ta σ H fun vs H1 => ∃ a xs, vs = [.ref a] ∧ ((SqL K H1 a xs ∧ R (Ite K a) H1) ∨ (SqT K H1 a xs ∧ R (IteT K a) H1))
theorem pi_enumA {X : Cx} {e : Expr} {ta : TA} {p pos tpos : Pos} {elts : List Expr} {kk : Nat} (hg : Gl X "enumerate") (hm : X.mg "enumerate" = none) (ha : PA X [e] ta) (hs : starEach [e] X.env = [(false, eval e X.env)] := by rfl) :
    PI X (.Tuple elts kk tpos) (.Call (.Name "enumerate" p) [e] [] pos) (iEnumA X.K ta) := by
  refine ⟨fun pins s σ H R I h => ?_⟩
  refine Call_ (ld_blt I hg hm boot_enumerate (PyProof.Rows.callWith_type1 (thn (ha.run pos pins s σ H _ I h) fun us s1 ⟨vs, H1, I1, r1, q1⟩ => ?_) hs rfl))
  obtain ⟨a, xs, ex, q⟩ := q1
  subst ex
  cases r1 with
  | cons r rr =>
    cases rr
    cases r
    have fresh2 : ∀ b ∈ [s1.heap.objs.size + 1, s1.heap.objs.size], FpOk X pins H1 b := fun b hb => by
      have e' : b = s1.heap.objs.size + 1 ∨ b = s1.heap.objs.size := by simpa using hb
      have hle : s1.heap.objs.size ≤ b := by
        rcases e' with z | z
        · rw [z]; exact Nat.le_add_right _ _
        · rw [z]; exact Nat.le_refl _
      exact I1.fpOk hle (I1.hok.fresh hle)
    rcases q with ⟨hq, q⟩ | ⟨hq, q⟩
    · obtain ⟨its, rv, p', hz⟩ := I1.list hq
      refine call_enumerate_list p'.isList fun h' he hit hsz hk => wpAny_pyIter_enum he ?_
      have I2 : Inv X pins σ H1 { s1 with heap := h' } := I1.kept (t' := s1.toks) hk
      exact ⟨s1.heap.objs.size + 1, [s1.heap.objs.size + 1, s1.heap.objs.size], _, _, H1, rfl, I2, turn_enum a (s1.heap.objs.size + 1) s1.heap.objs.size, ⟨⟨.none, he⟩, hit, Nat.succ_ne_self _⟩, fresh2, q⟩
    · obtain ⟨its, rv, p', hz⟩ := I1.tuple hq
      refine call_enumerate_tuple (show s1.heap.IsTuple a its.toArray from p') fun h' he hit hsz hk => wpAny_pyIter_enum he ?_
      have I2 : Inv X pins σ H1 { s1 with heap := h' } := I1.kept (t' := s1.toks) hk
      exact ⟨s1.heap.objs.size + 1, [s1.heap.objs.size + 1, s1.heap.objs.size], _, _, H1, rfl, I2, turn_enumT a (s1.heap.objs.size + 1) s1.heap.objs.size, ⟨⟨.none, he⟩, hit, Nat.succ_ne_self _⟩, fresh2, q⟩
end L2

set_option Elab.async false
set_option linter.all false
set_option maxRecDepth 100000
set_option maxHeartbeats 4000000
namespace Sim
open PySem L2
variable [Tabl]

/-! ### iterables -/
omit [Tabl] in
/-- what a for walks over: a tuple, a list -/
def itF (v : SV) : M (List SV × Gd) := fun h => match v with
  | .tup xs => .ok (xs, .no) h
  | .rls xs => .ok (xs, .no) h
  | .frl xs => .ok (xs, .no) h
  | .ref n => match h[n]? with
    | some (.lst xs) => .ok (xs, .lst n xs) h
    | _ => .stuck
  | _ => .stuck
omit [Tabl] in
def cIt (c : Env → M SV) : Env → M (List SV × Gd) := fun e => M.bind (c e) itF
section
variable {K : PySem.W.Frag}
theorem itok_tup {H : Hp} {ρ : Rho} {h : SHp} {a : Addr} {us : List V} {xs : List SV} (R : RelH K H ρ h) (hq : SqT K H a us) (r : RelL K H ρ xs us) : ItOk K (Itt K a) xs .no ρ H := by
  intro ρ2 H2 h2 E R2 _
  have hq2 : SqT K H2 a us := SqT_keep (h := hq) (fun a us q => E.kept _ _ q (R.holds.notup q) (.inr Scr.tup)) (fun a o u q => E.kept _ _ q (R.holds.nofrz q) (.inr Scr.frz))
  have r2 := r.monoV R.holds E
  have hl := r2.length
  refine ⟨fun i hi => ⟨us, us[i]'(by omega), hq2, by simp [show i < us.length by omega]⟩, ⟨us, hq2, by omega⟩, fun i x H' hi y => ?_⟩
  obtain ⟨rfl, y⟩ := y
  obtain ⟨v, h1, h2⟩ := r2.get (i := i) (x := xs[i]) (by simp [hi])
  have := y us hq2
  rw [h1] at this; cases this
  exact ⟨.refl, R2, xs[i], by simp [hi], h2⟩
theorem itok_list {H : Hp} {ρ : Rho} {h : SHp} {a : Addr} {xs : List SV} {gd : Gd} (R : RelH K H ρ h)
    (st : ∀ ρ2 H2 h2, ExtV ρ H ρ2 H2 → RelH K H2 ρ2 h2 → gd.ok h2 = true → ∃ us, SqL K H2 a us ∧ RelL K H2 ρ2 xs us) : ItOk K (Itl K a) xs gd ρ H := by
  intro ρ2 H2 h2 E R2 hg
  obtain ⟨us, hq2, r2⟩ := st ρ2 H2 h2 E R2 hg
  have hl := r2.length
  refine ⟨fun i hi => ⟨us, us[i]'(by omega), hq2, by simp [show i < us.length by omega]⟩, ⟨us, hq2, by omega⟩, fun i x H' hi y => ?_⟩
  obtain ⟨rfl, y⟩ := y
  obtain ⟨v, h1, h2⟩ := r2.get (i := i) (x := xs[i]) (by simp [hi])
  have := y us hq2
  rw [h1] at this; cases this
  exact ⟨.refl, R2, xs[i], by simp [hi], h2⟩
/-- a list that nobody changes, or one of the changing ones under guard, stands -/
theorem list_stands {H : Hp} {ρ : Rho} {h : SHp} {v : SV} {a : Addr} {xs : List SV} {gd : Gd} (R : RelH K H ρ h) (r : RelS K H ρ v (.ref a)) (e : itF v h = .ok (xs, gd) h) (nt : ∀ ys, v ≠ .tup ys) :
    ∀ ρ2 H2 h2, ExtV ρ H ρ2 H2 → RelH K H2 ρ2 h2 → gd.ok h2 = true → ∃ us, SqL K H2 a us ∧ RelL K H2 ρ2 xs us := by
  intro ρ2 H2 h2 E R2 hg
  have r2 := r.monoV R.holds E
  cases v with
  | rls ys => cases e; cases r2 with
    | rls h n q _ => exact ⟨_, .of h, q⟩
  | frl ys => cases e; cases r2 with
    | frl h q _ =>
      rcases h with ⟨h, _⟩ | h
      · exact ⟨_, .inl h, q⟩
      · exact ⟨_, h.seq, q⟩
  | ref n =>
    have e' : (match h[n]? with | some (.lst xs) => .ok (xs, Gd.lst n xs) h | _ => Res.stuck) = Res.ok (xs, gd) h := e
    cases q : h[n]? with
    | none => simp [q] at e'
    | some o =>
      cases o with
      | lst zs =>
        simp only [q] at e'
        cases e'
        unfold Gd.ok at hg
        cases q2 : h2[n]? with
        | none => simp [q2] at hg
        | some o2 =>
          obtain ⟨a2, ha2, ob2⟩ := R2.ob n o2 q2
          cases r2 with
          | ref hi _ =>
            rw [hi] at ha2; cases ha2
            cases o2 with
            | lst ys =>
              simp [q2] at hg; subst hg
              obtain ⟨us, h1, h3⟩ := ob2
              exact ⟨us, .of h1, h3⟩
            | dic _ _ _ => simp [q2] at hg
            | ins _ _ _ => simp [q2] at hg
      | dic _ _ _ => simp [q] at e'
      | ins _ _ _ => simp [q] at e'
  | tup ys => exact (nt ys rfl).elim
  | _ => cases e
theorem itF_ok {v : SV} {h h' : SHp} {p : List SV × Gd} (e : itF v h = .ok p h') : h' = h := by
  unfold itF at e
  split at e <;> try cases e
  all_goals first | rfl | (split at e <;> first | (cases e; rfl) | cases e)
end
section
variable {X : Cx} {W : WX} {tg iter e : Expr} {c : Env → M SV}
theorem PI.or {t t' : TI} (h : PI X tg iter t) (h' : PI X tg iter t') : PI X tg iter (fun σ H R => t σ H R ∨ t' σ H R) :=
  ⟨fun pins s σ H R I q => q.elim (fun q => h.run pins s σ H R I q) fun q => h'.run pins s σ H R I q⟩
theorem i_it (he : SE X W e c) : SI X W tg e (cIt c) :=
  ⟨imp_pi (PI.or (pi_list he.pe) (pi_tup he.pe)) fun σ H Rr ⟨ρ, h, env, R, RE, P⟩ => by
    unfold cIt at P
    cases ec : c env h with
    | err cc fs h1 => exact .inl ⟨ρ, h, env, R, RE, by rw [ec]; unfold M.bind at P; rw [ec] at P; exact P⟩
    | stuck => unfold M.bind at P; rw [ec] at P; exact P.elim
    | ok v h1 =>
      unfold M.bind at P; rw [ec] at P
      cases ei : itF v h1 with
      | err cc fs h2 => unfold itF at ei; split at ei <;> try cases ei
                        all_goals (split at ei <;> cases ei)
      | stuck => simp only [ei] at P; exact P.elim
      | ok p h2 =>
        have eh := itF_ok ei
        subst eh
        obtain ⟨xs, gd⟩ := p
        simp only [ei] at P
        by_cases ht : ∃ ys, v = .tup ys
        · obtain ⟨ys, rfl⟩ := ht
          refine .inr ⟨ρ, h, env, R, RE, ?_⟩
          rw [ec]
          intro ρ1 H1 x E1 R1 r1
          cases ei
          obtain ⟨a, us, rfl, hq, rr⟩ := tup_rel r1
          exact ⟨a, rfl, ⟨us, hq⟩, P ρ1 H1 _ E1 R1 (itok_tup R1 hq rr)⟩
        · refine .inl ⟨ρ, h, env, R, RE, ?_⟩
          rw [ec]
          intro ρ1 H1 x E1 R1 r1
          have nt : ∀ ys, v ≠ .tup ys := fun ys z => ht ⟨ys, z⟩
          have hx : ∃ a, x = .ref a := by
            cases v <;> first | (cases ei) | skip
            all_goals first | (exact (nt _ rfl).elim) | (cases r1 <;> exact ⟨_, rfl⟩)
          obtain ⟨a, rfl⟩ := hx
          have st := list_stands R1 r1 ei nt
          have g0 : gd.ok h2 = true := by
            cases v with
            | ref n =>
              have e' : (match h2[n]? with | some (.lst xs) => .ok (xs, Gd.lst n xs) h2 | _ => Res.stuck) = Res.ok (xs, gd) h2 := ei
              cases q : h2[n]? with
              | none => simp [q] at e'
              | some o => cases o with
                | lst zs => simp only [q] at e'; cases e'; simp [Gd.ok, q]
                | dic _ _ _ => simp [q] at e'
                | ins _ _ _ => simp [q] at e'
            | rls _ => cases ei; rfl
            | frl _ => cases ei; rfl
            | _ => first | exact (nt _ rfl).elim | cases ei
          obtain ⟨us, hq, rr⟩ := st ρ1 H1 h2 .refl R1 g0
          exact ⟨a, rfl, ⟨us, hq⟩, P ρ1 H1 _ E1 R1 (itok_list R1 st)⟩⟩
omit [Tabl] in
def rngL (lo : Int) (n : Nat) : List SV := (List.range n).map fun i => .int (lo + (i : Nat))
theorem rngL_length (lo : Int) (n : Nat) : (rngL lo n).length = n := by simp [rngL]
theorem rngL_get {lo : Int} {n i : Nat} (h : i < n) : (rngL lo n)[i]? = some (.int (lo + (i : Nat))) := by simp [rngL, h]
theorem itok_rng {K : PySem.W.Frag} {H : Hp} {ρ : Rho} {lo : Int} {n : Nat} : ItOk K (Itr lo n) (rngL lo n) .no ρ H := by
  intro ρ2 H2 h2 E R2 _
  refine ⟨fun i hi => by rw [rngL_length] at hi; exact hi, by show n ≤ _; rw [rngL_length]; exact Nat.le_refl _, fun i x H' hi y => ?_⟩
  obtain ⟨rfl, rfl⟩ := y
  rw [rngL_length] at hi
  exact ⟨.refl, R2, _, rngL_get hi, .int .nil⟩
omit [Tabl] in
def cRng1 (c : Env → M SV) : Env → M (List SV × Gd) := fun e => M.bind (c e) fun v h => match v with
  | .int j => if -(2 ^ 62) ≤ j ∧ j < 2 ^ 62 then .ok (rngL 0 j.toNat, .no) h else .stuck
  | _ => .stuck
omit [Tabl] in
def cRng2 (c d : Env → M SV) : Env → M (List SV × Gd) := fun e => M.bind (c e) fun v => M.bind (d e) fun w h => match v, w with
  | .int i, .int j => if -(2 ^ 62) ≤ i ∧ i < 2 ^ 62 ∧ -(2 ^ 62) ≤ j ∧ j < 2 ^ 62 then .ok (rngL i (j - i).toNat, .no) h else .stuck
  | _, _ => .stuck
omit [Tabl] in
def rngD (lo : Int) (n : Nat) : List SV := (List.range n).map fun i => .int (lo - (i : Nat))
omit [Tabl] in
/-- downward by ones -/
def cRngD (c d f : Env → M SV) : Env → M (List SV × Gd) := fun e => M.bind (c e) fun v => M.bind (d e) fun w => M.bind (f e) fun u h => match v, w, u with
  | .int i, .int j, .int k => if k = -1 ∧ -(2 ^ 62) ≤ i ∧ i < 2 ^ 62 ∧ -(2 ^ 62) ≤ j ∧ j < 2 ^ 62 then .ok (rngD i (i - j).toNat, .no) h else .stuck
  | _, _, _ => .stuck
theorem i_rng1 {a : Expr} {ca : Env → M SV} {p pos : Pos} (hm : X.mg "range" = none) (ha : SE X W a ca) (hg : Gl X "range" := by rfl) (hs : starEach [a] X.env = [(false, eval a X.env)] := by rfl)
    (hs1 : starEach (a :: []) X.env = (false, eval a X.env) :: starEach [] X.env := by rfl) : SI X W tg (.Call (.Name "range" p) [a] [] pos) (cRng1 ca) :=
  ⟨imp_pi (pi_range1 hg hm (L2.pa_cons ha.pe L2.pa_nil hs1) hs) fun σ H Rr ⟨ρ, h, env, R, RE, P⟩ => ⟨ρ, h, env, R, RE, (Post.bind (rel := relS X.K) P).mono fun x H1 ⟨ρ1, v, h1, E1, R1, r1, P1⟩ => by
    cases v with
    | int j =>
      cases r1
      have P1' : Post X.K W (fun H1 ρ1 (v : List SV × Gd) J => ItOk X.K J v.1 v.2 ρ1 H1) σ ρ1 H1 (if -(2 ^ 62) ≤ j ∧ j < 2 ^ 62 then .ok (rngL 0 j.toNat, Gd.no) h1 else .stuck) Rr := P1
      by_cases c : -(2 ^ 62) ≤ j ∧ j < 2 ^ 62
      · rw [if_pos c] at P1'
        exact ⟨j, rfl, c.1, c.2, P1' ρ1 H1 _ .refl R1 itok_rng⟩
      · rw [if_neg c] at P1'; exact P1'.elim
    | _ => exact P1.elim⟩⟩
theorem i_rng2 {a b : Expr} {ca cb : Env → M SV} {p pos : Pos} (hm : X.mg "range" = none) (ha : SE X W a ca) (hb : SE X W b cb) (hg : Gl X "range" := by rfl) (hs : starEach [a, b] X.env = [(false, eval a X.env), (false, eval b X.env)] := by rfl)
    (hs2 : starEach [b] X.env = [(false, eval b X.env)] := by rfl) (hs1 : starEach (a :: [b]) X.env = (false, eval a X.env) :: starEach [b] X.env := by rfl) (hs3 : starEach (b :: []) X.env = (false, eval b X.env) :: starEach [] X.env := by rfl) : SI X W tg (.Call (.Name "range" p) [a, b] [] pos) (cRng2 ca cb) :=
  ⟨imp_pi (pi_range2 hg hm (L2.pa_cons ha.pe (L2.pa_cons hb.pe L2.pa_nil hs3) hs1) hs hs2) fun σ H Rr ⟨ρ, h, env, R, RE, P⟩ => ⟨ρ, h, env, R, RE, (Post.bind (rel := relS X.K) P).mono fun x H1 ⟨ρ1, v, h1, E1, R1, r1, P1⟩ => ⟨ρ1, h1, env, R1, RE.mono R.holds E1, (Post.bind (rel := relS X.K) P1).mono fun y H2 ⟨ρ2, w, h2, E2, R2, r2, P2⟩ => by
    cases v with
    | int i =>
      cases w with
      | int j =>
        cases r1; cases r2
        have P1' : Post X.K W (fun H1 ρ1 (v : List SV × Gd) J => ItOk X.K J v.1 v.2 ρ1 H1) σ ρ2 H2 (if -(2 ^ 62) ≤ i ∧ i < 2 ^ 62 ∧ -(2 ^ 62) ≤ j ∧ j < 2 ^ 62 then .ok (rngL i (j - i).toNat, Gd.no) h2 else .stuck) Rr := P2
        by_cases c : -(2 ^ 62) ≤ i ∧ i < 2 ^ 62 ∧ -(2 ^ 62) ≤ j ∧ j < 2 ^ 62
        · rw [if_pos c] at P1'
          exact ⟨i, j, rfl, c, P1' ρ2 H2 _ .refl R2 itok_rng⟩
        · rw [if_neg c] at P1'; exact P1'.elim
      | _ => exact P2.elim
    | _ => exact P2.elim⟩⟩⟩
theorem itok_rngD {K : PySem.W.Frag} {H : Hp} {ρ : Rho} {lo : Int} {n : Nat} : ItOk K (L2.Itc lo (-1) n) (rngD lo n) .no ρ H := by
  intro ρ2 H2 h2 E R2 _
  have hl : (rngD lo n).length = n := by simp [rngD]
  refine ⟨fun i hi => by rw [hl] at hi; exact hi, by show n ≤ _; rw [hl]; exact Nat.le_refl _, fun i x H' hi y => ?_⟩
  obtain ⟨rfl, rfl⟩ := y
  rw [hl] at hi
  refine ⟨.refl, R2, .int (lo - (i : Nat)), by simp [rngD, hi], ?_⟩
  have e : lo + (i : Int) * -1 = lo - (i : Nat) := by omega
  rw [e]; exact .int .nil
theorem i_rngD {a b c : Expr} {ca cb cc : Env → M SV} {p pos : Pos} (hm : X.mg "range" = none) (ha : SE X W a ca) (hb : SE X W b cb) (hc : SE X W c cc) (hg : Gl X "range" := by rfl) (hs : starEach [a, b, c] X.env = (false, eval a X.env) :: starEach [b, c] X.env := by rfl) (hpl : (backTo pos (starEach [b, c] X.env)).any (·.1) = false := by rfl)
    (hs1 : starEach (b :: [c]) X.env = (false, eval b X.env) :: starEach [c] X.env := by rfl) (hs3 : starEach (c :: []) X.env = (false, eval c X.env) :: starEach [] X.env := by rfl) : SI X W tg (.Call (.Name "range" p) [a, b, c] [] pos) (cRngD ca cb cc) :=
  ⟨imp_pi (L2.pi_range3 hg hm (L2.pa_cons ha.pe (L2.pa_cons hb.pe (L2.pa_cons hc.pe L2.pa_nil hs3) hs1) hs) hs hpl) fun σ H Rr ⟨ρ, h, env, R, RE, P⟩ => ⟨ρ, h, env, R, RE, (Post.bind (rel := relS X.K) P).mono fun x H1 ⟨ρ1, v, h1, E1, R1, r1, P1⟩ => ⟨ρ1, h1, env, R1, RE.mono R.holds E1, (Post.bind (rel := relS X.K) P1).mono fun y H2 ⟨ρ2, w, h2, E2, R2, r2, P2⟩ => ⟨ρ2, h2, env, R2, (RE.mono R.holds E1).mono R1.holds E2, (Post.bind (rel := relS X.K) P2).mono fun z H3 ⟨ρ3, u, h3, E3, R3, r3, P3⟩ => by
    cases v with
    | int i =>
      cases w with
      | int j =>
        cases u with
        | int k =>
          cases r1; cases r2; cases r3
          have P1' : Post X.K W (fun H1 ρ1 (v : List SV × Gd) J => ItOk X.K J v.1 v.2 ρ1 H1) σ ρ3 H3 (if k = -1 ∧ -(2 ^ 62) ≤ i ∧ i < 2 ^ 62 ∧ -(2 ^ 62) ≤ j ∧ j < 2 ^ 62 then .ok (rngD i (i - j).toNat, Gd.no) h3 else .stuck) Rr := P3
          by_cases c : k = -1 ∧ -(2 ^ 62) ≤ i ∧ i < 2 ^ 62 ∧ -(2 ^ 62) ≤ j ∧ j < 2 ^ 62
          · rw [if_pos c] at P1'
            obtain ⟨rfl, c1, c2, c3, c4⟩ := c
            exact ⟨i, j, -1, (i - j).toNat, rfl, L2.RgC.neg c1 c2 c3 c4, P1' ρ3 H3 _ .refl R3 itok_rngD⟩
          · rw [if_neg c] at P1'; exact P1'.elim
        | _ => exact P3.elim
      | _ => exact P3.elim
    | _ => exact P3.elim⟩⟩⟩⟩
/-! enumerate, zip: new pairs -/
omit [Tabl] in
def enumL (n : Nat) : List SV → List SV
  | [] => []
  | x :: xs => .tup [.int (n : Nat), x] :: enumL (n + 1) xs
theorem enumL_length : ∀ (xs : List SV) (n : Nat), (enumL n xs).length = xs.length
  | [], _ => rfl
  | _ :: xs, n => by simp [enumL, enumL_length xs]
theorem enumL_get : ∀ (xs : List SV) (n i : Nat) (x : SV), xs[i]? = some x → (enumL n xs)[i]? = some (.tup [.int ((n + i : Nat) : Int), x])
  | [], _, _, _, h => by simp at h
  | y :: xs, n, 0, x, h => by simp at h; subst h; simp [enumL]
  | y :: xs, n, i + 1, x, h => by
    have q := enumL_get xs (n + 1) i x (by simpa using h)
    have e : n + 1 + i = n + (i + 1) := by omega
    rw [e] at q
    simpa [enumL] using q
omit [Tabl] in
def seqF (v : SV) : M (List SV) := fun h => match v with
  | .tup xs => .ok xs h
  | .rls xs => .ok xs h
  | .frl xs => .ok xs h
  | _ => .stuck
omit [Tabl] in
/-- enumerate of what nobody changes -/
def cEnum (c : Env → M SV) : Env → M (List SV × Gd) := fun e => M.bind (c e) fun v => M.bind (seqF v) fun xs => M.ret (enumL 0 xs, .no)
theorem pair_rel {K : PySem.W.Frag} {H : Hp} {ρ : Rho} {h : SHp} {T : Addr} {s t : SV} {x y : V} (R : RelH K H ρ h) (hT : H T = none) (rs : RelS K H ρ s x) (rt : RelS K H ρ t y) :
    Ext ρ H ρ (upd H T (.tup [x, y])) ∧ RelH K (upd H T (.tup [x, y])) ρ h ∧ RelS K (upd H T (.tup [x, y])) ρ (.tup [s, t]) (.ref T) :=
  ⟨.fresh hT, R.fresh hT, rel_tup R hT (.cons rs rt)⟩
theorem itok_enumT {K : PySem.W.Frag} {H : Hp} {ρ : Rho} {h : SHp} {a : Addr} {us : List V} {xs : List SV} (R : RelH K H ρ h) (hq : SqT K H a us) (r : RelL K H ρ xs us) : ItOk K (L2.IteT K a) (enumL 0 xs) .no ρ H := by
  intro ρ2 H2 h2 E R2 _
  have hq2 : SqT K H2 a us := SqT_keep (h := hq) (fun a us q => E.kept _ _ q (R.holds.notup q) (.inr Scr.tup)) (fun a o u q => E.kept _ _ q (R.holds.nofrz q) (.inr Scr.frz))
  have r2 := r.monoV R.holds E
  have hl := r2.length
  rw [enumL_length]
  refine ⟨fun i hi => ⟨us, us[i]'(by omega), hq2, by simp [show i < us.length by omega]⟩, ⟨us, hq2, by omega⟩, fun i x H' hi y => ?_⟩
  obtain ⟨T, z, rfl, hT, rfl, hz⟩ := y
  obtain ⟨v, h1, h3⟩ := r2.get (i := i) (x := xs[i]) (by simp [hi])
  have := hz us hq2
  rw [h1] at this; cases this
  obtain ⟨e1, e2, e3⟩ := pair_rel R2 hT (RelL.int (i := ((0 + i : Nat) : Int)) (K := K) (H := H2) (ρ := ρ2) .nil) h3
  rw [Nat.zero_add] at e1 e2 e3
  exact ⟨e1, e2, _, enumL_get xs 0 i xs[i] (by simp [hi]), by rw [Nat.zero_add]; exact e3⟩
theorem itok_enumL {K : PySem.W.Frag} {H : Hp} {ρ : Rho} {a : Addr} {xs : List SV}
    (st : ∀ ρ2 H2 h2, ExtV ρ H ρ2 H2 → RelH K H2 ρ2 h2 → ∃ us, SqL K H2 a us ∧ RelL K H2 ρ2 xs us) : ItOk K (L2.Ite K a) (enumL 0 xs) .no ρ H := by
  intro ρ2 H2 h2 E R2 _
  obtain ⟨us, hq2, r2⟩ := st ρ2 H2 h2 E R2
  have hl := r2.length
  rw [enumL_length]
  refine ⟨fun i hi => ⟨us, us[i]'(by omega), hq2, by simp [show i < us.length by omega]⟩, ⟨us, hq2, by omega⟩, fun i x H' hi y => ?_⟩
  obtain ⟨T, z, rfl, hT, rfl, hz⟩ := y
  obtain ⟨v, h1, h3⟩ := r2.get (i := i) (x := xs[i]) (by simp [hi])
  have := hz us hq2
  rw [h1] at this; cases this
  obtain ⟨e1, e2, e3⟩ := pair_rel R2 hT (RelL.int (i := ((0 + i : Nat) : Int)) (K := K) (H := H2) (ρ := ρ2) .nil) h3
  rw [Nat.zero_add] at e1 e2 e3
  exact ⟨e1, e2, _, enumL_get xs 0 i xs[i] (by simp [hi]), by rw [Nat.zero_add]; exact e3⟩
theorem seqF_ok {v : SV} {h h' : SHp} {xs : List SV} (e : seqF v h = .ok xs h') : h' = h ∧ itF v h = .ok (xs, .no) h := by
  unfold seqF at e
  split at e <;> first | (cases e; exact ⟨rfl, rfl⟩) | cases e
theorem i_enum {a : Expr} {ca : Env → M SV} {p pos tpos : Pos} {elts : List Expr} {kk : Nat} (hm : X.mg "enumerate" = none) (ha : SE X W a ca) (hg : Gl X "enumerate" := by rfl) (hs : starEach [a] X.env = [(false, eval a X.env)] := by rfl)
    (hs1 : starEach (a :: []) X.env = (false, eval a X.env) :: starEach [] X.env := by rfl) : SI X W (.Tuple elts kk tpos) (.Call (.Name "enumerate" p) [a] [] pos) (cEnum ca) :=
  ⟨imp_pi (L2.pi_enumA hg hm (L2.pa_cons ha.pe L2.pa_nil hs1) hs) fun σ H Rr ⟨ρ, h, env, R, RE, P⟩ => ⟨ρ, h, env, R, RE, (Post.bind (rel := relS X.K) P).mono fun x H1 ⟨ρ1, v, h1, E1, R1, r1, P1⟩ => by
    cases es : seqF v h1 with
    | err cc fs h2 => unfold seqF at es; split at es <;> cases es
    | stuck => unfold M.bind at P1; rw [es] at P1; exact P1.elim
    | ok xs h2 =>
      unfold M.bind at P1; rw [es] at P1
      obtain ⟨rfl, ei⟩ := seqF_ok es
      by_cases ht : ∃ ys, v = .tup ys
      · obtain ⟨ys, rfl⟩ := ht
        cases es
        obtain ⟨a, us, rfl, hq, rr⟩ := tup_rel r1
        exact ⟨a, us, rfl, .inr ⟨hq, P1 ρ1 H1 _ .refl R1 (itok_enumT R1 hq rr)⟩⟩
      · have nt : ∀ ys, v ≠ .tup ys := fun ys z => ht ⟨ys, z⟩
        have hx : ∃ a, x = .ref a := by
          cases v with
          | rls _ => cases r1; exact ⟨_, rfl⟩
          | frl _ => cases r1; exact ⟨_, rfl⟩
          | tup ys => exact (nt _ rfl).elim
          | _ => cases es
        obtain ⟨a, rfl⟩ := hx
        have st := list_stands R1 r1 ei nt
        obtain ⟨us, hq, rr⟩ := st ρ1 H1 h2 .refl R1 rfl
        exact ⟨a, us, rfl, .inl ⟨hq, P1 ρ1 H1 _ .refl R1 (itok_enumL fun ρ2 H2 h2 E R2 => st ρ2 H2 h2 E R2 rfl)⟩⟩⟩⟩
omit [Tabl] in
def zipL : List SV → List SV → List SV
  | x :: xs, y :: ys => .tup [x, y] :: zipL xs ys
  | _, _ => []
theorem zipL_length : ∀ xs ys : List SV, (zipL xs ys).length = min xs.length ys.length
  | [], _ => by simp [zipL]
  | _ :: _, [] => by simp [zipL]
  | _ :: xs, _ :: ys => by simp [zipL, zipL_length xs ys]
theorem zipL_get : ∀ (xs ys : List SV) (i : Nat) (x y : SV), xs[i]? = some x → ys[i]? = some y → (zipL xs ys)[i]? = some (.tup [x, y])
  | [], _, _, _, _, h, _ => by simp at h
  | _ :: _, [], _, _, _, _, h => by simp at h
  | _ :: xs, _ :: ys, 0, _, _, h, k => by simp at h k; subst h k; simp [zipL]
  | _ :: xs, _ :: ys, i + 1, x, y, h, k => by simpa [zipL] using zipL_get xs ys i x y (by simpa using h) (by simpa using k)
omit [Tabl] in
/-- zip of two tuples -/
def cZipT (c d : Env → M SV) : Env → M (List SV × Gd) := fun e => M.bind (c e) fun v => M.bind (d e) fun w h => match v, w with
  | .tup xs, .tup ys => .ok (zipL xs ys, .no) h
  | _, _ => .stuck
theorem itok_zipT {K : PySem.W.Frag} {H : Hp} {ρ : Rho} {h : SHp} {a b : Addr} {us ws : List V} {xs ys : List SV} (R : RelH K H ρ h) (hq : SqT K H a us) (r : RelL K H ρ xs us) (hq' : SqT K H b ws) (r' : RelL K H ρ ys ws) : ItOk K (RZ.ItzT K a b) (zipL xs ys) .no ρ H := by
  intro ρ2 H2 h2 E R2 _
  have keep : ∀ {a us}, SqT K H a us → SqT K H2 a us := fun {a us} hq => SqT_keep (h := hq) (fun a us q => E.kept _ _ q (R.holds.notup q) (.inr Scr.tup)) (fun a o u q => E.kept _ _ q (R.holds.nofrz q) (.inr Scr.frz))
  have r2 := r.monoV R.holds E
  have r3 := r'.monoV R.holds E
  have hl := r2.length
  have hl' := r3.length
  rw [zipL_length]
  refine ⟨fun i hi => ⟨us, ws, us[i]'(by omega), ws[i]'(by omega), keep hq, keep hq', by simp [show i < us.length by omega], by simp [show i < ws.length by omega]⟩, ⟨us, ws, keep hq, keep hq', by omega⟩, fun i x H' hi y => ?_⟩
  obtain ⟨T, z, z', rfl, hT, rfl, hz, hz'⟩ := y
  have h1x : i < xs.length := by omega
  have h1y : i < ys.length := by omega
  obtain ⟨v, h1, h3⟩ := r2.get (i := i) (x := xs[i]) (by simp [h1x])
  obtain ⟨v', h1', h3'⟩ := r3.get (i := i) (x := ys[i]) (by simp [h1y])
  have e1 := hz us (keep hq)
  rw [h1] at e1; cases e1
  have e2 := hz' ws (keep hq')
  rw [h1'] at e2; cases e2
  obtain ⟨e1, e2, e3⟩ := pair_rel R2 hT h3 h3'
  exact ⟨e1, e2, _, zipL_get xs ys i xs[i] ys[i] (by simp [h1x]) (by simp [h1y]), e3⟩
theorem i_zipT {a b : Expr} {ca cb : Env → M SV} {p pos tpos : Pos} {elts : List Expr} {kk : Nat} (hm : X.mg "zip" = none) (ha : SE X W a ca) (hb : SE X W b cb) (hg : Gl X "zip" := by rfl) (hs : starEach [a, b] X.env = (false, eval a X.env) :: starEach [b] X.env := by rfl) (hpl : (backTo pos (starEach [b] X.env)).any (·.1) = false := by rfl)
    (hs3 : starEach (b :: []) X.env = (false, eval b X.env) :: starEach [] X.env := by rfl) : SI X W (.Tuple elts kk tpos) (.Call (.Name "zip" p) [a, b] [] pos) (cZipT ca cb) :=
  ⟨imp_pi (RZ.pi_zipA hg hm (L2.pa_cons ha.pe (L2.pa_cons hb.pe L2.pa_nil hs3) hs) hs hpl) fun σ H Rr ⟨ρ, h, env, R, RE, P⟩ => ⟨ρ, h, env, R, RE, (Post.bind (rel := relS X.K) P).mono fun x H1 ⟨ρ1, v, h1, E1, R1, r1, P1⟩ => ⟨ρ1, h1, env, R1, RE.mono R.holds E1, (Post.bind (rel := relS X.K) P1).mono fun y H2 ⟨ρ2, w, h2, E2, R2, r2, P2⟩ => by
    cases v with
    | tup xs =>
      cases w with
      | tup ys =>
        obtain ⟨a, us, rfl, hq, rr⟩ := tup_rel (r1.mono R1.holds E2)
        obtain ⟨b, ws, rfl, hq', rr'⟩ := tup_rel r2
        exact ⟨a, b, us, ws, rfl, .inr ⟨hq, hq', P2 ρ2 H2 _ .refl R2 (itok_zipT R2 hq rr hq' rr')⟩⟩
      | _ => exact P2.elim
    | _ => exact P2.elim⟩⟩⟩
end
end Sim

set_option Elab.async false
set_option linter.all false
set_option maxRecDepth 100000
set_option maxHeartbeats 4000000
namespace Sim
open PySem L2
variable [Tabl]

/-! ### built-ins by name -/
def CallS (X : Cx) (f : Value) (g : List SV → SHp → Option SV) : Prop :=
  CallR X f fun xs H Q => ∃ ρ h vs z, RelH X.K H ρ h ∧ RelL X.K H ρ vs xs ∧ g vs h = some z ∧ ∀ H' r, Ext ρ H ρ H' → RelH X.K H' ρ h → RelS X.K H' ρ z r → Q r H'
omit [Tabl] in
def eCB (g : List SV → SHp → Option SV) (c : Env → M (List SV)) : Env → M SV := fun e => M.bind (c e) fun vs => fun h => M.of (g vs h) h
theorem CallS.of {X : Cx} {f : Value} {g : List SV → SHp → Option SV} {r : List V → Hp → VK → Prop} (hc : CallR X f r)
    (i : ∀ xs H Q ρ h vs z, RelH X.K H ρ h → RelL X.K H ρ vs xs → g vs h = some z → (∀ H' r, Ext ρ H ρ H' → RelH X.K H' ρ h → RelS X.K H' ρ z r → Q r H') → r xs H Q) : CallS X f g :=
  fun pins s σ H xs us Q I r ⟨ρ, h, vs, z, R, rl, e, k⟩ => hc pins s σ H xs us Q I r (i xs H Q ρ h vs z R rl e k)
theorem CallS.or {X : Cx} {f : Value} {g g' : List SV → SHp → Option SV} (a : CallS X f g) (b : CallS X f g') : CallS X f (fun vs h => (g vs h).or (g' vs h)) :=
  fun pins s σ H xs us Q I r ⟨ρ, h, vs, z, R, rl, e, k⟩ => by
    have e' : (g vs h).or (g' vs h) = some z := e
    cases e1 : g vs h with
    | some z' => rw [e1] at e'; cases e'; exact a pins s σ H xs us Q I r ⟨ρ, h, vs, _, R, rl, e1, k⟩
    | none => rw [e1] at e'; exact b pins s σ H xs us Q I r ⟨ρ, h, vs, _, R, rl, e', k⟩
section
variable {X : Cx} {W : WX} {x : Str} {p pos : Pos} {e : Expr} {es : List Expr} {c : Env → M (List SV)} {id : String} {g : List SV → SHp → Option SV}
theorem post_cb {σ : St} {H : Hp} {Q : VK} (h : tS X.K W (eCB g c) σ H Q) :
    L2.tCB (fun xs H Q => ∃ ρ h vs z, RelH X.K H ρ h ∧ RelL X.K H ρ vs xs ∧ g vs h = some z ∧ ∀ H' r, Ext ρ H ρ H' → RelH X.K H' ρ h → RelS X.K H' ρ z r → Q r H') (tA X.K W c) σ H Q := by
  obtain ⟨ρ, h, env, R, RE, P⟩ := h
  refine ⟨ρ, h, env, R, RE, (Post.bind (rel := relL X.K) P).mono fun xs H1 ⟨ρ1, vs, h1, E1, R1, r1, P1⟩ => ?_⟩
  unfold M.of at P1
  cases e : g vs h1 with
  | none => rw [e] at P1; exact P1.elim
  | some z => rw [e] at P1; exact ⟨ρ1, h1, vs, z, R1, r1, e, fun H' r E' R' q => P1 ρ1 H' r E' R' q⟩
theorem e_callB (hc : CallS X (.builtin id) g) (hm : X.mg x = none) (ha : SA X W (e :: es) c) (hg : Gl X x := by rfl) (hv : bootBuiltins x = some (.builtin id) := by decide +kernel) (hn : x ≠ "__name__" := by decide) (hdb : (x == ("__debug__" : Str)) = false := by decide)
    (he : starEach (e :: es) X.env = (false, eval e X.env) :: starEach es X.env := by rfl) (hpl : (backTo pos (starEach es X.env)).any (·.1) = false := by rfl) : SE X W (.Call (.Name x p) (e :: es) [] pos) (eCB g c) :=
  ⟨imp_pe (pe_callB hc hg hm hv ha.pa hn hdb he hpl) fun σ H Q h => post_cb h⟩
theorem e_callTy {T : String} (hc : CallS X (.type T) g) (hm : X.mg x = none) (ha : SA X W (e :: es) c) (hg : Gl X x := by rfl) (hv : bootBuiltins x = some (.type T) := by decide +kernel) (hn : x ≠ "__name__" := by decide) (hdb : (x == ("__debug__" : Str)) = false := by decide)
    (he : starEach (e :: es) X.env = (false, eval e X.env) :: starEach es X.env := by rfl) (hpl : (backTo pos (starEach es X.env)).any (·.1) = false := by rfl) : SE X W (.Call (.Name x p) (e :: es) [] pos) (eCB g c) :=
  ⟨imp_pe (pe_callTy hc hg hm hv ha.pa hn hdb he hpl) fun σ H Q h => post_cb h⟩
/-- a built-in type or function as a value (an argument of isinstance) -/
theorem e_ty {T : String} (hm : X.mg x = none) (hg : Gl X x := by rfl) (hv : bootBuiltins x = some (.type T) := by decide +kernel) (hn : x ≠ "__name__" := by decide) (hd : (x == ("__debug__" : Str)) = false := by decide) : SE X W (.Name x pos) (eC (.ty T)) :=
  imp_c (pe_bltn (v := .ty T) hg hm hv rfl hn hd) fun _ _ => .ty .nil
end
omit [Tabl] in
def absF : List SV → SHp → Option SV := fun vs _ => match vs with
  | [.int i] => some (.int (if i < 0 then -i else i))
  | _ => none
omit [Tabl] in
def intF : List SV → SHp → Option SV := fun vs _ => match vs with
  | [.int i] => some (.int i)
  | [.bl b] => some (.int (if b then 1 else 0))
  | _ => none
omit [Tabl] in
def max2F : List SV → SHp → Option SV := fun vs _ => match vs with
  | [.int i, .int j] => some (.int (if j > i then j else i))
  | _ => none
omit [Tabl] in
def min2F : List SV → SHp → Option SV := fun vs _ => match vs with
  | [.int i, .int j] => some (.int (if j < i then j else i))
  | _ => none
omit [Tabl] in
def lenF : List SV → SHp → Option SV := fun vs h => match vs with
  | [v] => match seqOf v h with
    | some xs => some (.int xs.length)
    | none => match v with
      | .str s => if s.length ≤ sizeLine then some (.int s.length) else none
      | _ => none
  | _ => none
section
variable {X : Cx}
theorem b_abs : CallS X (.builtin "abs") absF := .of call_abs fun xs H Q ρ h vs z R r e k => by
  unfold absF at e
  split at e
  · cases e; obtain ⟨x, us, rfl, rx, r⟩ := RelL.inv r; cases r; cases rx
    exact ⟨_, rfl, k H _ .refl R (.int .nil)⟩
  · cases e
theorem b_int : CallS X (.type "int") intF := .of call_int1 fun xs H Q ρ h vs z R r e k => by
  unfold intF at e
  split at e
  · cases e; obtain ⟨x, us, rfl, rx, r⟩ := RelL.inv r; cases r; cases rx
    exact .inl ⟨_, rfl, k H _ .refl R (.int .nil)⟩
  · cases e; obtain ⟨x, us, rfl, rx, r⟩ := RelL.inv r; cases r; cases rx
    exact .inr ⟨_, rfl, k H _ .refl R (.int .nil)⟩
  · cases e
theorem b_max2 (hc : X.calm = true) : CallS X (.builtin "max") max2F := .of (call_max2 hc) fun xs H Q ρ h vs z R r e k => by
  unfold max2F at e
  split at e
  · cases e; obtain ⟨x, us, rfl, rx, r⟩ := RelL.inv r; obtain ⟨y, us, rfl, ry, r⟩ := RelL.inv r; cases r; cases rx; cases ry
    exact ⟨_, _, rfl, k H _ .refl R (.int .nil)⟩
  · cases e
theorem b_min2 (hc : X.calm = true) : CallS X (.builtin "min") min2F := .of (call_min2 hc) fun xs H Q ρ h vs z R r e k => by
  unfold min2F at e
  split at e
  · cases e; obtain ⟨x, us, rfl, rx, r⟩ := RelL.inv r; obtain ⟨y, us, rfl, ry, r⟩ := RelL.inv r; cases r; cases rx; cases ry
    exact ⟨_, _, rfl, k H _ .refl R (.int .nil)⟩
  · cases e
theorem b_len : CallS X (.builtin "len") lenF := .of call_len fun xs H Q ρ h vs z R r e k => by
  unfold lenF at e
  split at e
  · rename_i v
    obtain ⟨x, us, rfl, rx, r⟩ := RelL.inv r; cases r
    cases q : seqOf v h with
    | some ys =>
      simp only [q] at e; cases e
      obtain ⟨a, us, rfl, hq, rr⟩ := seq_rel R q rx
      rw [rr.length] at k
      refine ⟨_, us.length, rfl, ?_, k H _ .refl R (.int .nil)⟩
      rcases hq with hq | hq
      · exact .inl ⟨us, hq, rfl⟩
      · exact .inr ⟨us, hq, rfl⟩
    | none =>
      simp only [q] at e
      split at e
      · rename_i s
        by_cases c : s.length ≤ sizeLine
        · rw [if_pos c] at e; cases e
          cases rx
          exact ⟨_, _, rfl, ⟨c, rfl⟩, k H _ .refl R (.int .nil)⟩
        · rw [if_neg c] at e; cases e
      · cases e
  · cases e
end
/-! lists of bools, of ints -/
omit [Tabl] in
def blsOf : List SV → Option (List Bool)
  | [] => some []
  | .bl b :: xs => (blsOf xs).map (b :: ·)
  | _ => none
omit [Tabl] in
def intsOf : List SV → Option (List Int)
  | [] => some []
  | .int b :: xs => (intsOf xs).map (b :: ·)
  | _ => none
theorem bls_rel {K : PySem.W.Frag} {H : Hp} {ρ : Rho} : ∀ {xs : List SV} {us : List V} {bs : List Bool}, RelL K H ρ xs us → blsOf xs = some bs → us = bs.map V.bl
  | [], _, _, r, e => by simp [blsOf] at e; subst e; rw [r.nil_inv]; rfl
  | x :: xs, _, _, r, e => by
    obtain ⟨v, us, rfl, a, q⟩ := r.inv
    cases x <;> simp [blsOf] at e
    obtain ⟨bs, e, rfl⟩ := e
    cases a
    rw [bls_rel q e]; rfl
theorem ints_rel {K : PySem.W.Frag} {H : Hp} {ρ : Rho} : ∀ {xs : List SV} {us : List V} {bs : List Int}, RelL K H ρ xs us → intsOf xs = some bs → us = bs.map V.int
  | [], _, _, r, e => by simp [intsOf] at e; subst e; rw [r.nil_inv]; rfl
  | x :: xs, _, _, r, e => by
    obtain ⟨v, us, rfl, a, q⟩ := r.inv
    cases x <;> simp [intsOf] at e
    obtain ⟨bs, e, rfl⟩ := e
    cases a
    rw [ints_rel q e]; rfl
theorem rel_ints {K : PySem.W.Frag} {H : Hp} {ρ : Rho} : ∀ (ns : List Int), RelL K H ρ (ns.map SV.int) (ns.map V.int)
  | [] => .nil
  | _ :: ns => .int (rel_ints ns)
omit [Tabl] in
def allF : List SV → SHp → Option SV := fun vs h => match vs with
  | [v] => match listOf v h with
    | some xs => (blsOf xs).map fun bs => .bl (bs.all id)
    | none => none
  | _ => none
omit [Tabl] in
def anyF : List SV → SHp → Option SV := fun vs h => match vs with
  | [v] => match listOf v h with
    | some xs => (blsOf xs).map fun bs => .bl (bs.any id)
    | none => none
  | _ => none
omit [Tabl] in
def sumF : List SV → SHp → Option SV := fun vs h => match vs with
  | [v] => match listOf v h with
    | some xs => (intsOf xs).map fun bs => .int bs.sum
    | none => none
  | _ => none
omit [Tabl] in
def tupleF : List SV → SHp → Option SV := fun vs h => match vs with
  | [v] => match v with
    | .tup xs => some (.tup xs)
    | v => match listOf v h with
      | some xs => some (.tup xs)
      | none => none
  | _ => none
omit [Tabl] in
def listF : List SV → SHp → Option SV := fun vs h => match vs with
  | [v] => match seqOf v h with
    | some xs => some (.rls xs)
    | none => none
  | _ => none
omit [Tabl] in
def srt (ns : List Int) : List Int := ns.mergeSort (fun a b => decide (a ≤ b))
omit [Tabl] in
def sortedF : List SV → SHp → Option SV := fun vs h => match vs with
  | [v] => match listOf v h with
    | some xs => (intsOf xs).map fun ns => .rls ((srt ns).map SV.int)
    | none => none
  | _ => none
theorem srt_of {ns ns' : List Int} (p : ns'.Perm ns) (s : ns'.Pairwise (· ≤ ·)) : ns' = srt ns := by
  have h1 : (srt ns).Perm ns := List.mergeSort_perm ns _
  have h2 : (srt ns).Pairwise (fun a b => decide (a ≤ b) = true) := List.pairwise_mergeSort (fun a b c h1 h2 => by simp at *; omega) (fun a b => by simp; omega) ns
  have h2' : (srt ns).Pairwise (· ≤ ·) := h2.imp (by intro a b h; simpa using h)
  exact List.Perm.eq_of_pairwise (fun a b _ _ h1 h2 => by omega) s h2' (p.trans h1.symm)
section
variable {X : Cx}
theorem b_all (hc : X.calm = true) : CallS X (.builtin "all") allF := .of (cr_all hc) fun xs H Q ρ h vs z R r e k => by
  unfold allF at e
  split at e
  · rename_i v
    obtain ⟨x, us, rfl, rx, r⟩ := RelL.inv r; cases r
    split at e
    · rename_i ys q
      cases q2 : blsOf ys with
      | none => simp [q2] at e
      | some bs =>
        simp [q2] at e; subst e
        obtain ⟨a, us, rfl, hq, rr⟩ := list_rel R q rx
        rw [bls_rel rr q2] at hq
        exact ⟨a, bs, rfl, hq, k H _ .refl R (.bl .nil)⟩
    · cases e
  · cases e
theorem b_any (hc : X.calm = true) : CallS X (.builtin "any") anyF := .of (cr_any hc) fun xs H Q ρ h vs z R r e k => by
  unfold anyF at e
  split at e
  · rename_i v
    obtain ⟨x, us, rfl, rx, r⟩ := RelL.inv r; cases r
    split at e
    · rename_i ys q
      cases q2 : blsOf ys with
      | none => simp [q2] at e
      | some bs =>
        simp [q2] at e; subst e
        obtain ⟨a, us, rfl, hq, rr⟩ := list_rel R q rx
        rw [bls_rel rr q2] at hq
        exact ⟨a, bs, rfl, hq, k H _ .refl R (.bl .nil)⟩
    · cases e
  · cases e
theorem b_sum (hc : X.calm = true) : CallS X (.builtin "sum") sumF := .of (cr_sum hc) fun xs H Q ρ h vs z R r e k => by
  unfold sumF at e
  split at e
  · rename_i v
    obtain ⟨x, us, rfl, rx, r⟩ := RelL.inv r; cases r
    split at e
    · rename_i ys q
      cases q2 : intsOf ys with
      | none => simp [q2] at e
      | some bs =>
        simp [q2] at e; subst e
        obtain ⟨a, us, rfl, hq, rr⟩ := list_rel R q rx
        rw [ints_rel rr q2] at hq
        exact ⟨a, bs, rfl, hq, k H _ .refl R (.int .nil)⟩
    · cases e
  · cases e
theorem b_tuple : CallS X (.type "tuple") tupleF := .of call_tuple_of fun xs H Q ρ h vs z R r e k => by
  unfold tupleF at e
  split at e
  · rename_i v
    obtain ⟨x, us, rfl, rx, r⟩ := RelL.inv r; cases r
    split at e
    · cases e
      obtain ⟨a, us, rfl, hq, rr⟩ := tup_rel1 rx
      exact ⟨a, us, rfl, .inr ⟨.of hq, k H _ .refl R (.tup hq rr .nil)⟩⟩
    · split at e
      · rename_i ys q
        cases e
        obtain ⟨a, us, rfl, hq, rr⟩ := list_rel R q rx
        exact ⟨a, us, rfl, .inl ⟨hq, fun t ht => k _ _ (.fresh ht) (R.fresh ht) (rel_tup R ht rr)⟩⟩
      · cases e
  · cases e
theorem b_list : CallS X (.type "list") listF := .of call_list_of fun xs H Q ρ h vs z R r e k => by
  unfold listF at e
  split at e
  · rename_i v
    obtain ⟨x, us, rfl, rx, r⟩ := RelL.inv r; cases r
    split at e
    · rename_i ys q
      cases e
      obtain ⟨a, us, rfl, hq, rr⟩ := seq_rel R q rx
      exact ⟨a, us, rfl, hq, fun t ht => k _ _ (.fresh ht) (R.fresh ht) (rel_rls R ht rr)⟩
    · cases e
  · cases e
theorem b_sorted : CallS X (.builtin "sorted") sortedF := .of L2.cr_sortedI fun xs H Q ρ h vs z R r e k => by
  unfold sortedF at e
  split at e
  · rename_i v
    obtain ⟨x, us, rfl, rx, r⟩ := RelL.inv r; cases r
    split at e
    · rename_i ys q
      cases q2 : intsOf ys with
      | none => simp [q2] at e
      | some ns =>
        simp [q2] at e; subst e
        obtain ⟨a, us, rfl, hq, rr⟩ := list_rel R q rx
        rw [ints_rel rr q2] at hq
        refine ⟨a, ns, rfl, hq, fun ns' t p s ht => ?_⟩
        rw [srt_of p s]
        exact k _ _ (.fresh ht) (R.fresh ht) (rel_rls R ht (rel_ints _))
    · cases e
  · cases e
end

/-! ### isinstance by a built-in type -/
omit [Tabl] in
def tyN (v : SV) (h : SHp) : Option String := match v with
  | .non => some "NoneType"
  | .bl _ => some "bool"
  | .int _ => some "int"
  | .str _ => some "str"
  | .tup _ => some "tuple"
  | .rls _ => some "list"
  | .frl _ => some "list"
  | .rdc _ _ _ => some "dict"
  | .ref n => match h[n]? with
    | some (.lst _) => some "list"
    | some (.dic _ _ _) => some "dict"
    | _ => none
  | _ => none
omit [Tabl] in
def isTy (a b : String) : Bool := a == b || (a == "bool" && b == "int")
omit [Tabl] in
def tyNames : List String := ["NoneType", "bool", "int", "str", "tuple", "list", "dict"]
theorem kit_tab : ∀ a ∈ tyNames, ∀ b ∈ tyNames, b ≠ "NoneType" → L2.kitB a b = some (isTy a b) := by decide +kernel
theorem tyN_mem {v : SV} {h : SHp} {t : String} (e : tyN v h = some t) : t ∈ tyNames := by
  unfold tyN at e
  split at e <;> first | (cases e; decide) | (split at e <;> first | (cases e; decide) | cases e) | cases e
theorem tyN_rel {K : PySem.W.Frag} {H : Hp} {ρ : Rho} {h : SHp} {v : SV} {x : V} {t : String} (R : RelH K H ρ h) (e : tyN v h = some t) (r : RelS K H ρ v x) : L2.TyX K H x (.type t) := by
  cases v with
  | non => cases e; cases r; exact .base .non
  | bl b => cases e; cases r; exact .base (.bl _)
  | int b => cases e; cases r; exact .base (.int _)
  | str b => cases e; cases r; exact .base (.str _)
  | tup xs =>
    cases e
    obtain ⟨a, us, rfl, hq, _⟩ := tup_rel1 r
    exact .base (.tup hq)
  | rls xs => cases e; cases r with
    | rls h n a _ => exact .base (.lst h)
  | frl xs => cases e; cases r with
    | frl h a _ =>
      rcases h with ⟨q | ⟨o, q⟩, _⟩ | ⟨o, its, n, q, c, _⟩
      · exact .base (.lst q)
      · exact .base (.frz q)
      · exact .kList q c
  | rdc t ks xs => cases e; cases r with
    | rdK h _ _ _ _ =>
      rcases h with h | ⟨o, h⟩
      · exact .base (.dK h)
      · exact .fDict h
    | rdT h _ _ _ _ => exact .base (.dT h)
  | ref n =>
    have e' : (match h[n]? with | some (SO.lst _) => some "list" | some (SO.dic _ _ _) => some "dict" | _ => none) = some t := e
    cases q : h[n]? with
    | none => simp [q] at e'
    | some o =>
      obtain ⟨a, ha, ob⟩ := R.ob n o q
      cases r with
      | ref hi _ =>
        rw [hi] at ha; cases ha
        cases o with
        | lst xs => simp [q] at e'; subst e'; obtain ⟨us, h1, _⟩ := ob; exact .base (.lst h1)
        | dic t ks xs =>
          simp [q] at e'; subst e'
          rcases ob with ⟨kvs, h1, _⟩ | ⟨kvs, h1, _⟩
          · exact .base (.dK h1)
          · exact .base (.dT h1)
        | ins _ _ _ => simp [q] at e'
  | _ => cases e
omit [Tabl] in
def isiF : List SV → SHp → Option SV := fun vs h => match vs with
  | [v, .ty T] => if T ∈ tyNames ∧ T ≠ "NoneType" then (tyN v h).map fun t => .bl (isTy t T) else none
  | _ => none
theorem b_isi {X : Cx} : CallS X (.builtin "isinstance") isiF := .of L2.call_isi fun xs H Q ρ h vs z R r e k => by
  unfold isiF at e
  split at e
  · rename_i v T
    obtain ⟨x, us, rfl, rx, r⟩ := RelL.inv r; obtain ⟨y, us, rfl, ry, r⟩ := RelL.inv r; cases r
    by_cases c : T ∈ tyNames ∧ T ≠ "NoneType"
    · rw [if_pos c] at e
      cases q : tyN v h with
      | none => simp [q] at e
      | some t =>
        simp [q] at e; subst e
        cases ry
        exact ⟨x, _, _, _, _, rfl, .ty T, tyN_rel R q rx, L2.kit_ty (kit_tab t (tyN_mem q) T c.1 c.2), k H _ .refl R (.bl .nil)⟩
    · rw [if_neg c] at e; cases e
  · cases e
end Sim

set_option Elab.async false
set_option linter.all false
set_option maxRecDepth 100000
set_option maxHeartbeats 4000000
namespace Sim
open PySem L2
variable [Tabl]

/-! ### what is thrown away at a def's end -/
omit [Tabl] in
mutual
def SV.okr (n : Nat) : SV → Bool
  | .ref i => decide (i < n)
  | .tup xs => SV.okrs n xs
  | .rls xs => SV.okrs n xs
  | .frl xs => SV.okrs n xs
  | .obj _ _ xs => SV.okrs n xs
  | .xcp _ _ _ xs => SV.okrs n xs
  | .rdc _ _ xs => SV.okrs n xs
  | _ => true
def SV.okrs (n : Nat) : List SV → Bool
  | [] => true
  | x :: xs => SV.okr n x && SV.okrs n xs
end
omit [Tabl] in
def SO.okr (n : Nat) : SO → Bool
  | .lst xs => SV.okrs n xs
  | .dic _ _ xs => SV.okrs n xs
  | .ins _ _ xs => SV.okrs n xs
omit [Tabl] in
def gcOk (h h' : SHp) : Bool := (List.range h.length).all fun i => (match h'[i]? with
  | some o => o.okr h.length
  | none => false) || decide (h'[i]? = h[i]?)
omit [Tabl] in
def froz : SO → SV
  | .lst xs => .rls xs
  | .dic t ks xs => .rdc t ks xs
  | .ins C ns xs => .obj C ns xs
omit [Tabl] in
/-- at a def's end: what it made for itself goes, if nothing holds it; what it gives out becomes a value, if nothing else holds it -/
def gc (fz : Bool) (h : SHp) (v : SV) (h' : SHp) : Res SV :=
  if h'.length ≤ h.length then .ok v h' else if gcOk h h' = true then
    if v.okr h.length = true then .ok v (h'.take h.length) else match v with
    | .ref k => match h'[k]? with
      | some o => if fz = true ∧ h.length ≤ k ∧ o.okr h.length = true then .ok (froz o) (h'.take h.length) else .ok v h'
      | none => .ok v h'
    | _ => .ok v h'
  else .ok v h'
section
variable {K : PySem.W.Frag} {H H' : Hp} {ρ ρ' : Rho} {h h' : SHp} {xs : List SV} {us : List V} {n : Nat}
theorem RelL.okr (r : RelL K H ρ xs us) : SV.okrs ρ.l.length xs = true := by
  induction r with
  | nil => simp [SV.okrs]
  | non _ ih => simp [SV.okrs, SV.okr, ih]
  | bl _ ih => simp [SV.okrs, SV.okr, ih]
  | int _ ih => simp [SV.okrs, SV.okr, ih]
  | str _ ih => simp [SV.okrs, SV.okr, ih]
  | ty _ ih => simp [SV.okrs, SV.okr, ih]
  | adr _ ih => simp [SV.okrs, SV.okr, ih]
  | ref h _ ih => simp [SV.okrs, SV.okr, ih]; exact (List.getElem?_eq_some_iff.mp h).1
  | tup _ _ _ i1 i2 => simp [SV.okrs, SV.okr, i1, i2]
  | rls _ _ _ _ i1 i2 => simp [SV.okrs, SV.okr, i1, i2]
  | frl _ _ _ i1 i2 => simp [SV.okrs, SV.okr, i1, i2]
  | obj _ _ _ _ _ i1 i2 => simp [SV.okrs, SV.okr, i1, i2]
  | xcp _ _ _ _ i1 i2 => simp [SV.okrs, SV.okr, i1, i2]
  | rdK _ _ _ _ _ i1 i2 => simp [SV.okrs, SV.okr, i1, i2]
  | rdT _ _ _ _ _ i1 i2 => simp [SV.okrs, SV.okr, i1, i2]
omit [Tabl] in
def Rho.cut (ρ : Rho) (n : Nat) : Rho := ⟨ρ.l.take n, ρ.ex⟩
theorem Rho.cut_out {a : Addr} (o : ρ.out a) : (ρ.cut n).out a := ⟨fun m => o.1 (List.mem_of_mem_take m), o.2⟩
theorem RelL.cut (r : RelL K H ρ xs us) (ok : SV.okrs n xs = true) : RelL K H (ρ.cut n) xs us := by
  induction r with
  | nil => exact .nil
  | non _ ih => exact .non (ih (by simpa [SV.okrs, SV.okr] using ok))
  | bl _ ih => exact .bl (ih (by simpa [SV.okrs, SV.okr] using ok))
  | int _ ih => exact .int (ih (by simpa [SV.okrs, SV.okr] using ok))
  | str _ ih => exact .str (ih (by simpa [SV.okrs, SV.okr] using ok))
  | ty _ ih => exact .ty (ih (by simpa [SV.okrs, SV.okr] using ok))
  | adr _ ih => exact .adr (ih (by simpa [SV.okrs, SV.okr] using ok))
  | ref h _ ih =>
    simp [SV.okrs, SV.okr] at ok
    exact .ref (by show (List.take n ρ.l)[_]? = _; rw [List.getElem?_take_of_lt ok.1]; exact h) (ih ok.2)
  | tup h _ _ i1 i2 => simp [SV.okrs, SV.okr] at ok; exact .tup h (i1 ok.1) (i2 ok.2)
  | rls h o _ _ i1 i2 => simp [SV.okrs, SV.okr] at ok; exact .rls h (Rho.cut_out o) (i1 ok.1) (i2 ok.2)
  | frl h _ _ i1 i2 => simp [SV.okrs, SV.okr] at ok; exact .frl (h.imp (fun z => ⟨z.1, Rho.cut_out z.2⟩) id) (i1 ok.1) (i2 ok.2)
  | obj h o e _ _ i1 i2 => simp [SV.okrs, SV.okr] at ok; exact .obj h (Rho.cut_out o) e (i1 ok.1) (i2 ok.2)
  | xcp h e _ _ i1 i2 => simp [SV.okrs, SV.okr] at ok; exact .xcp h e (i1 ok.1) (i2 ok.2)
  | rdK h o e _ _ i1 i2 => simp [SV.okrs, SV.okr] at ok; exact .rdK h (Rho.cut_out o) e (i1 ok.1) (i2 ok.2)
  | rdT h o e _ _ i1 i2 => simp [SV.okrs, SV.okr] at ok; exact .rdT h (Rho.cut_out o) e (i1 ok.1) (i2 ok.2)
theorem ObjRel.cut {a : Addr} {o : SO} (r : ObjRel K H ρ a o) (ok : o.okr n = true) : ObjRel K H (ρ.cut n) a o := by
  cases o with
  | lst xs => obtain ⟨vs, h, q⟩ := r; exact ⟨vs, h, q.cut ok⟩
  | dic t ks xs =>
    rcases r with ⟨kvs, h, e, q⟩ | ⟨kvs, h, e, q⟩
    · exact .inl ⟨kvs, h, e, q.cut ok⟩
    · exact .inr ⟨kvs, h, e, q.cut ok⟩
  | ins C ns xs => obtain ⟨dx, fv, h, e, q⟩ := r; exact ⟨dx, fv, h, e, q.cut ok⟩
theorem ObjRel.okr {a : Addr} {o : SO} (r : ObjRel K H ρ a o) : o.okr ρ.l.length = true := by
  cases o with
  | lst xs => obtain ⟨vs, h, q⟩ := r; exact q.okr
  | dic t ks xs => rcases r with ⟨kvs, h, e, q⟩ | ⟨kvs, h, e, q⟩ <;> exact q.okr
  | ins C ns xs => obtain ⟨dx, fv, h, e, q⟩ := r; exact q.okr
theorem RelH.cut (R : RelH K H ρ h) (R' : RelH K H' ρ' h') (g : gcOk h h' = true) (hl : h.length ≤ h'.length) : RelH K H' (ρ'.cut h.length) (h'.take h.length) := by
  refine ⟨?_, R'.nd.sublist (List.take_sublist _ _), fun i o q => ?_, R'.hx, R'.tb, fun d hd => R'.dj d (List.mem_of_mem_take hd)⟩
  · show (List.take h.length ρ'.l).length = _
    rw [List.length_take, List.length_take, R'.len]
  · have hi : i < h.length := by
      have := (List.getElem?_eq_some_iff.mp q).1
      rw [List.length_take] at this; omega
    have q' : h'[i]? = some o := by rw [List.getElem?_take_of_lt hi] at q; exact q
    obtain ⟨a, ha, ob⟩ := R'.ob i o q'
    refine ⟨a, by show (List.take h.length ρ'.l)[i]? = _; rw [List.getElem?_take_of_lt hi]; exact ha, ob.cut ?_⟩
    unfold gcOk at g
    have gi := List.all_eq_true.mp g i (List.mem_range.mpr hi)
    rw [q'] at gi
    simp only [Bool.or_eq_true, decide_eq_true_eq] at gi
    rcases gi with e | e
    · exact e
    · obtain ⟨b, hb, ob2⟩ := R.ob i o e.symm
      rw [← R.len]; exact ob2.okr
theorem Ext.cut (E : Ext ρ H ρ' H') (R : RelH K H ρ h) : Ext ρ H (ρ'.cut h.length) H' :=
  ⟨by
    show ρ.l <+: List.take h.length ρ'.l
    obtain ⟨t, e⟩ := E.pre
    rw [← e, ← R.len, List.take_left]
    exact List.prefix_refl _, fun a m => E.new a (List.mem_of_mem_take m), E.kp, E.dk, E.tbl, E.hid, E.sub⟩
theorem gc_post {fz : Bool} {v : SV} {W : WX} {σ : St} {Q : VK} (R : RelH K H ρ h) (P : Post K W (relS K) σ ρ H (gc fz h v h') Q) : Post K W (relS K) σ ρ H (.ok v h') Q := by
  intro ρ' H' x E R' r
  unfold gc at P
  by_cases c : h'.length ≤ h.length
  · rw [if_pos c] at P; exact P ρ' H' x E R' r
  · rw [if_neg c] at P
    by_cases g : gcOk h h' = true
    · rw [if_pos g] at P
      by_cases o : v.okr h.length = true
      · rw [if_pos o] at P
        exact P (ρ'.cut h.length) H' x (E.cut R) (R.cut R' g (by omega)) (RelL.cut r (by simp [SV.okrs, o]))
      · rw [if_neg o] at P
        cases v with
        | ref k =>
          simp only at P
          cases q : h'[k]? with
          | none => rw [q] at P; exact P ρ' H' x E R' r
          | some ob =>
            rw [q] at P
            simp only at P
            by_cases z : fz = true ∧ h.length ≤ k ∧ ob.okr h.length = true
            · rw [if_pos z] at P
              obtain ⟨_, zk, zo⟩ := z
              refine P (ρ'.cut h.length) H' x (E.cut R) (R.cut R' g (by omega)) ?_
              obtain ⟨a, ha, orl⟩ := R'.ob k ob q
              cases r with
              | ref hi _ =>
                rw [ha] at hi; cases hi
                have out : (ρ'.cut h.length).out a := by
                  refine ⟨fun m => ?_, R'.dj a (List.mem_of_getElem? ha)⟩
                  obtain ⟨j, hj⟩ := List.mem_iff_getElem?.mp m
                  have hjl : j < h.length := by
                    have q1 := (List.getElem?_eq_some_iff.mp hj).1
                    have q2 : (List.take h.length ρ'.l).length = (ρ'.cut h.length).l.length := rfl
                    rw [List.length_take] at q2; omega
                  have hj' : ρ'.l[j]? = some a := by
                    have q3 : (List.take h.length ρ'.l)[j]? = some a := hj
                    rw [List.getElem?_take_of_lt hjl] at q3; exact q3
                  have := nodup_at R'.nd hj' ha
                  omega
                have oc := orl.cut zo
                cases ob with
                | lst xs => obtain ⟨vs, h1, q1⟩ := oc; exact .rls h1 out q1 .nil
                | dic t ks xs =>
                  rcases oc with ⟨kvs, h1, e, q1⟩ | ⟨kvs, h1, e, q1⟩
                  · obtain ⟨rfl, e⟩ := e; exact .rdK (.inl h1) out e q1 .nil
                  · obtain ⟨rfl, e⟩ := e; exact .rdT h1 out e q1 .nil
                | ins C ns xs => obtain ⟨dx, fv, h1, e, q1⟩ := oc; exact .obj h1 out e q1 .nil
            · rw [if_neg z] at P; exact P ρ' H' x E R' r
        | _ => exact P ρ' H' x E R' r
    · rw [if_neg g] at P; exact P ρ' H' x E R' r
end

/-! ### defs -/
omit [Tabl] in
def fin (fz : Bool) (h : SHp) : SR → Res SV
  | .nx _ h' => gc fz h .non h'
  | .rt v h' => gc fz h v h'
  | .err c fs _ h' => .err c fs h'
  | _ => .stuck
omit [Tabl] in
def fnD (fz : Bool) (n : Nat) (body : ST') : List SV → M SV := fun args h => fin fz h (body (args.map some ++ List.replicate (n - args.length) none) h)
def spS (K : PySem.W.Frag) (n : Nat) (D : List SV → M SV) : Sp := fun vs H Q E => vs.length = n ∧ ∃ ρ h args, RelH K H ρ h ∧ RelL K H ρ args vs ∧ Post K (fun c d _ H => E c d H) (relS K) [] ρ H (D args h) Q
theorem start_rel {K : PySem.W.Frag} {H : Hp} {ρ : Rho} {N : List Str} {args : List SV} {vs : List V} (r : RelL K H ρ args vs) : RelE K H ρ (args.map some ++ List.replicate (N.length - args.length) none) (L2.start N vs) := by
  refine ⟨by simp [L2.start, r.length], fun i s e => ?_⟩
  unfold L2.start
  by_cases hi : i < args.length
  · rw [List.getElem?_append_left (by simp [hi])] at e
    rw [List.getElem?_map] at e
    cases q : args[i]? with
    | none => rw [q] at e; cases e
    | some a =>
      rw [q] at e
      cases e
      obtain ⟨v, h1, h2⟩ := r.get q
      exact ⟨v, by rw [List.getElem?_append_left (by simp [← r.length, hi]), List.getElem?_map, h1]; rfl, h2⟩
  · rw [List.getElem?_append_right (by simp; omega)] at e
    rw [List.getElem?_replicate] at e
    split at e <;> cases e
section
variable {P : Program} {w : World} {K : PySem.W.Frag} {mg : Str → Option Value} {base : Heap}
omit [Tabl] in
abbrev WF (E : XK) : WX := fun c d _ H => E c d H
theorem sim_fn {x qual : Str} {st : Stmt} {f : Addr} {fd : FuncData} {N ps : List Str} {k : Nat} {body : ST'} (fz : Bool) (F : Fun K x qual st f fd) (S : FnScope N ps (defScope st))
    (hb : ∀ (cdv : Value) (A : Around) (outer : List PySem.Env) (s : Shared) (H : Hp) (E : XK), fd.code = cdv → Room k (A.deeper (PyProof.Rows.envOfC qual (defScope st) s.heap.objs.size f cdv)) →
      Takes (cxOf (L2.CX P w) P w K mg base N qual (defScope st) f cdv A outer s H E) (WF E) →
      PassesOwn (model P w) (A.deeper (PyProof.Rows.envOfC qual (defScope st) s.heap.objs.size f cdv)) (PyProof.Rows.envOfC qual (defScope st) s.heap.objs.size f cdv) (cxOf (L2.CX P w) P w K mg base N qual (defScope st) f cdv A outer s H E).xe →
      SSs (cxOf (L2.CX P w) P w K mg base N qual (defScope st) f cdv A outer s H E) (WF E) (defBody st) body) :
    FnOk P w K mg base (L2.CX P w) (k + 1) f fd ps (spS K ps.length (fnD fz N.length body)) := by
  obtain ⟨oc, od, kV, doc, pm, an, cdv, ct, osl, rfl, lk, hcd⟩ := F.ex
  refine ⟨fun vs H Q E h => h.1, fun A outer s H args us vs Q E hr e0 hbi r hsp => ?_⟩
  refine LamX.run_ofS lk hcd S hr.toRoom e0 hbi r hsp.1 fun _ => ⟨_, (hb cdv A outer s H E rfl (hr.deeper _) (takes_of rfl rfl rfl rfl) (passes_of rfl)).pss, ?_⟩
  obtain ⟨hn, ρ, h, args, R, ra, P0⟩ := hsp
  refine ⟨ρ, h, _, R, start_rel ra, ?_⟩
  unfold fnD at P0
  cases e : body (args.map some ++ List.replicate (N.length - args.length) none) h with
  | nx e' h' => rw [e] at P0; exact fun ρ' H' σ' E' R' RE' => gc_post (fz := fz) R P0 ρ' H' _ E' R' (.non .nil)
  | rt v h' => rw [e] at P0; exact fun ρ' H' x E' R' r' => gc_post (fz := fz) R P0 ρ' H' x E' R' r'
  | err c fs e' h' => rw [e] at P0; exact fun ρ' H' σ' cv d E' R' RE' q => P0 ρ' H' cv d E' R' q
  | bk e' h' => rw [e] at P0; exact P0.elim
  | ct e' h' => rw [e] at P0; exact P0.elim
  | stuck => rw [e] at P0; exact P0.elim
end
/-! ### calls -/
omit [Tabl] in
def eCall (D : List SV → M SV) (c : Env → M (List SV)) : Env → M SV := fun e => M.bind (c e) D
section
variable {X : Cx} {W : WX} {k : Nat} {f : Addr} {fd : FuncData} {ps : List Str} {D : List SV → M SV} {x : Str} {p pos : Pos} {e : Expr} {es : List Expr} {c : Env → M (List SV)}
theorem sp_of {K : PySem.W.Frag} {n : Nat} {σ : St} {ρ : Rho} {H : Hp} {h : SHp} {args : List SV} {vs : List V} {Q : VK} (R : RelH K H ρ h) (r : RelL K H ρ args vs) (hn : vs.length = n) (P : Post K W (relS K) σ ρ H (D args h) Q) : spS K n D vs H Q (WE W σ) := by
  refine ⟨hn, ρ, h, args, R, r, ?_⟩
  cases e : D args h with
  | ok v h' => rw [e] at P; exact P
  | err cc fs h' => rw [e] at P; exact P
  | stuck => rw [e] at P; exact P
/-- how many arguments a list of trees gives -/
structure SAn (X : Cx) (W : WX) (es : List Expr) (n : Nat) (c : Env → M (List SV)) : Prop where
  sa : SA X W es c
  len : ∀ e h vs h', c e h = .ok vs h' → vs.length = n
theorem an_nil : SAn X W [] 0 aNil := ⟨a_nil, fun e h vs h' q => by cases q; rfl⟩
theorem an_cons {n : Nat} {ca : Env → M SV} {cr : Env → M (List SV)} (ha : SE X W e ca) (hr : SAn X W es n cr) (hs : starEach (e :: es) X.env = (false, eval e X.env) :: starEach es X.env := by rfl) : SAn X W (e :: es) (n + 1) (aCons ca cr) :=
  ⟨a_cons ha hr.sa hs, fun env h vs h' q => by
    unfold aCons M.bind at q
    cases q1 : ca env h with
    | ok v h1 =>
      simp only [q1] at q
      cases q2 : cr env h1 with
      | ok ws h2 => simp only [q2] at q; cases q; simp [hr.len _ _ _ _ q2]
      | err _ _ _ => simp only [q2] at q; cases q
      | stuck => simp only [q2] at q; cases q
    | err _ _ _ => simp only [q1] at q; cases q
    | stuck => simp only [q1] at q; cases q⟩
theorem call_post {n : Nat} {σ : St} {H : Hp} {Q : VK} (len : ∀ e h vs h', c e h = .ok vs h' → vs.length = n) (h : tS X.K W (eCall D c) σ H Q) : L2.tCallSD (spS X.K n D) [] (WE W) (tA X.K W c) σ H Q := by
  obtain ⟨ρ, h, env, R, RE, P⟩ := h
  refine ⟨ρ, h, env, R, RE, ?_⟩
  have P2 := Post.bind (rel := relL X.K) P
  cases q : c env h with
  | ok vs h1 =>
    rw [q] at P2
    intro ρ' H' x E' R' r'
    obtain ⟨ρ1, v, h1', E1, R1, r1, P1⟩ := P2 ρ' H' x E' R' r'
    rw [List.append_nil]
    have P0 : Post X.K W (relS X.K) σ ρ H (D vs h1) Q := by
      unfold eCall M.bind at P; rw [q] at P; exact P
    exact sp_of R' r' (by rw [← r'.length]; exact len _ _ _ _ q) (P0.shift E')
  | err cc fs h1 => rw [q] at P2; exact P2
  | stuck => rw [q] at P2; exact P2
theorem e_call (tk : Takes X W) (F : FnOk X.prog X.w X.K X.mg X.base (L2.CX X.prog X.w) k f fd ps (spS X.K ps.length D)) (hr : Room k X.A) (hm : X.mg x = some (.ref f)) (hk : PySem.W.keepIn X.K (.ref f) = true) (hb : Binds X.K fd ps [])
    (ha : SAn X W (e :: es) ps.length c) (hg : Gl X x := by rfl) (hdb : (x == ("__debug__" : Str)) = false := by decide) (he : starEach (e :: es) X.env = (false, eval e X.env) :: starEach es X.env := by rfl) (hpl : (backTo pos (starEach es X.env)).any (·.1) = false := by rfl) :
    SE X W (.Call (.Name x p) (e :: es) [] pos) (eCall D c) :=
  ⟨imp_pe (t := L2.tCallSD (spS X.K ps.length D) [] (WE W) (tA X.K W c)) ⟨fun pins s σ H Q I h => by
    refine wpAny_Call_Name_kw (ld_glob I hg hm ?_ hdb)
    refine PySem.W.callWith_K (h₀ := X.base) I.ok.mod.kin hk (thn (ha.sa.pa.run pos pins s σ H _ I h) fun us s1 ⟨vs, H1, I1, r, q⟩ => ⟨I1.kIn, ?_⟩) he hpl
    have q' : spS X.K ps.length D (vs ++ []) H1 Q (WE W σ) := q
    rw [List.append_nil] at q'
    exact F.run_call hr hb (passAt tk σ) I1 r q'⟩ fun σ H Q h => call_post ha.len h⟩
end
end Sim

set_option Elab.async false
set_option linter.all false
set_option maxRecDepth 100000
set_option maxHeartbeats 4000000
namespace Sim
open PySem L2
variable [Tabl]

/-! ### subscripts, slices -/
omit [Tabl] in
def ixF : SV → SV → SHp → Option SV := fun v w h => match w with
  | .int i => match seqOf v h with
    | some xs => L2.atI xs i
    | none => match v with
      | .str s => if s.length ≤ sizeLine then (L2.atI s.cps.toList i).map fun c => .str ⟨#[c]⟩ else none
      | _ => none
  | _ => none
theorem atI_rel {K : PySem.W.Frag} {H : Hp} {ρ : Rho} {xs : List SV} {us : List V} {i : Int} {s : SV} (r : RelL K H ρ xs us) (e : L2.atI xs i = some s) : ∃ v, L2.atI us i = some v ∧ RelS K H ρ s v := by
  unfold L2.atI at e ⊢
  rw [← r.length]
  cases q : ixN xs.length i with
  | none => rw [q] at e; cases e
  | some j => rw [q] at e; exact r.get e
section
variable {X : Cx} {W : WX} {pos p2 : Pos} {a b : Expr} {ca cb : Env → M SV}
theorem e_ix (ha : SE X W a ca) (hb : SE X W b cb) (hs : PlainIx b := by intro _ _; rfl) : SE X W (.Subscript a b pos) (eOp ixF ca cb) :=
  ⟨imp_pe (pe_ix ix_seq ha.pe hb.pe hs) fun σ H Q ⟨ρ, h, env, R, RE, P⟩ => ⟨ρ, h, env, R, RE, (Post.bind (rel := relS X.K) P).mono fun x H1 ⟨ρ1, v, h1, E1, R1, r1, P1⟩ => ⟨ρ1, h1, env, R1, RE.mono R.holds E1, (Post.bind (rel := relS X.K) P1).mono fun y H2 ⟨ρ2, w, h2, E2, R2, r2, P2⟩ => by
    have r1' := r1.mono R1.holds E2
    unfold M.of ixF at P2
    cases w with
    | int i =>
      cases r2
      simp only at P2
      cases q : seqOf v h2 with
      | some xs =>
        rw [q] at P2
        simp only at P2
        cases q2 : L2.atI xs i with
        | none => rw [q2] at P2; exact P2.elim
        | some s =>
          rw [q2] at P2
          obtain ⟨p, us, rfl, hq, rr⟩ := seq_rel R2 q r1'
          obtain ⟨z, hz, rz⟩ := atI_rel rr q2
          rcases hq with hq | hq
          · exact .inl ⟨p, us, i, z, rfl, rfl, hq, hz, P2 ρ2 H2 z .refl R2 rz⟩
          · exact .inr (.inl ⟨p, us, i, z, rfl, rfl, hq, hz, P2 ρ2 H2 z .refl R2 rz⟩)
      | none =>
        rw [q] at P2
        cases v with
        | str s =>
          cases r1'
          simp only at P2
          by_cases c : s.length ≤ sizeLine
          · rw [if_pos c] at P2
            cases q2 : L2.atI s.cps.toList i with
            | none => rw [q2] at P2; exact P2.elim
            | some cc => rw [q2] at P2; exact .inr (.inr ⟨s, i, cc, rfl, rfl, c, q2, P2 ρ2 H2 _ .refl R2 (.str .nil)⟩)
          · rw [if_neg c] at P2; exact P2.elim
        | _ => exact P2.elim
    | _ => exact P2.elim⟩⟩⟩
structure SO' (X : Cx) (W : WX) (e : Option Expr) (c : Env → M (Option Int)) : Prop where
  po : PO X e (tG X.K W (fun _ _ a b => a = b) c)
theorem imp_po {X : Cx} {e : Option Expr} {t t' : TO} (h : PO X e t) (i : ∀ σ H Q, t' σ H Q → t σ H Q) : PO X e t' := ⟨fun pins s σ H Q I q => h.run pins s σ H Q I (i σ H Q q)⟩
omit [Tabl] in
def oNo : Env → M (Option Int) := fun _ => M.ret none
omit [Tabl] in
def oYes (c : Env → M SV) : Env → M (Option Int) := fun e => M.bind (c e) fun v => match v with
  | .int i => M.ret (some i)
  | _ => fun _ => .stuck
theorem o_no : SO' X W none oNo := ⟨imp_po po_none fun σ H Q ⟨ρ, h, env, R, RE, P⟩ => P ρ H none .refl R rfl⟩
theorem o_yes (ha : SE X W a ca) : SO' X W (some a) (oYes ca) := ⟨imp_po (po_some ha.pe) fun σ H Q ⟨ρ, h, env, R, RE, P⟩ => ⟨ρ, h, env, R, RE, (Post.bind (rel := relS X.K) P).mono fun x H1 ⟨ρ1, v, h1, E1, R1, r1, P1⟩ => by
  cases v with
  | int i => cases r1; exact ⟨i, rfl, P1 ρ1 H1 _ .refl R1 rfl⟩
  | _ => exact P1.elim⟩⟩
omit [Tabl] in
def cutL (xs : List SV) (lo hi : Option Int) : List SV := (xs.drop (HT.sIx xs.length 0 lo)).take (HT.sIx xs.length xs.length hi - HT.sIx xs.length 0 lo)
theorem RelL.drop {K : PySem.W.Frag} {H : Hp} {ρ : Rho} : ∀ {xs : List SV} {us : List V} (n : Nat), RelL K H ρ xs us → RelL K H ρ (xs.drop n) (us.drop n)
  | _, _, 0, r => r
  | [], _, n + 1, r => by rw [r.nil_inv]; exact .nil
  | x :: xs, _, n + 1, r => by obtain ⟨v, us, rfl, _, q⟩ := r.inv; exact RelL.drop n q
theorem RelL.take {K : PySem.W.Frag} {H : Hp} {ρ : Rho} : ∀ {xs : List SV} {us : List V} (n : Nat), RelL K H ρ xs us → RelL K H ρ (xs.take n) (us.take n)
  | _, _, 0, r => by rw [List.take_zero, List.take_zero]; exact .nil
  | [], _, n + 1, r => by rw [r.nil_inv]; exact .nil
  | x :: xs, _, n + 1, r => by obtain ⟨v, us, rfl, a, q⟩ := r.inv; exact .cons a (RelL.take n q)
theorem cut_rel {K : PySem.W.Frag} {H : Hp} {ρ : Rho} {xs : List SV} {us : List V} (lo hi : Option Int) (r : RelL K H ρ xs us) : RelL K H ρ (cutL xs lo hi) (cutV us lo hi) := by
  unfold cutL cutV
  rw [← r.length]
  exact (r.drop _).take _
theorem cut_whole {xs : List SV} {lo hi : Option Int} (h : HT.sIx xs.length 0 lo = 0 ∧ HT.sIx xs.length xs.length hi = xs.length) : cutL xs lo hi = xs := by
  unfold cutL; rw [h.1, h.2]; simp
omit [Tabl] in
def slF (v : SV) (lo hi : Option Int) (h : SHp) : Option SV := match v with
  | .tup xs => some (.tup (cutL xs lo hi))
  | .str s => if s.length ≤ sizeLine then some (.str (L2.cutS s lo hi)) else none
  | v => (listOf v h).map fun xs => .rls (cutL xs lo hi)
omit [Tabl] in
def eSl (c : Env → M SV) (lo hi : Env → M (Option Int)) : Env → M SV := fun e => M.bind (c e) fun v => M.bind (lo e) fun l => M.bind (hi e) fun u => fun h => M.of (slF v l u h) h
theorem e_sl {lo hi : Option Expr} {cl ch : Env → M (Option Int)} (ha : SE X W a ca) (hl : SO' X W lo cl) (hh : SO' X W hi ch) : SE X W (.Subscript a (.Slice lo hi none p2) pos) (eSl ca cl ch) :=
  ⟨imp_pe (pe_slice (SlR.or sl_tupA (SlR.or sl_list sl_str)) ha.pe hl.po hh.po) fun σ H Q ⟨ρ, h, env, R, RE, P⟩ => ⟨ρ, h, env, R, RE, (Post.bind (rel := relS X.K) P).mono fun x H1 ⟨ρ1, v, h1, E1, R1, r1, P1⟩ =>
    ⟨ρ1, h1, env, R1, RE.mono R.holds E1, (Post.bind (rel := fun _ _ a b => a = b) P1).mono fun l H2 ⟨ρ2, l', h2, E2, R2, r2, P2⟩ => ⟨ρ2, h2, env, R2, (RE.mono R.holds E1).mono R1.holds E2, (Post.bind (rel := fun _ _ a b => a = b) P2).mono fun u H3 ⟨ρ3, u', h3, E3, R3, r3, P3⟩ => by
      cases r2; cases r3
      have r1' := (r1.mono R1.holds E2).mono R2.holds E3
      unfold M.of at P3
      cases q : slF v l u h3 with
      | none => rw [q] at P3; exact P3.elim
      | some z =>
        rw [q] at P3
        by_cases ht : ∃ xs, v = .tup xs
        · obtain ⟨xs, rfl⟩ := ht
          cases q
          obtain ⟨p, us, rfl, hq, rr⟩ := tup_rel1 r1'
          have hl := rr.length
          refine .inl ⟨p, us, rfl, .of hq, fun w => ?_, fun w t ht => P3 _ _ _ (.fresh ht) (R3.fresh ht) (rel_tup R3 ht (cut_rel l u rr))⟩
          refine P3 ρ3 H3 _ .refl R3 ?_
          rw [cut_whole (by rw [hl]; exact w)]
          exact .tup hq rr .nil
        · by_cases hs : ∃ s, v = .str s
          · obtain ⟨s, rfl⟩ := hs
            have q' : (if s.length ≤ sizeLine then some (SV.str (L2.cutS s l u)) else none) = some z := q
            by_cases c : s.length ≤ sizeLine
            · rw [if_pos c] at q'; cases q'
              cases r1'
              exact .inr (.inr ⟨s, rfl, c, P3 ρ3 H3 _ .refl R3 (.str .nil)⟩)
            · rw [if_neg c] at q'; cases q'
          · have q' : (listOf v h3).map (fun xs => SV.rls (cutL xs l u)) = some z := by
              cases v <;> first | exact q | exact (ht ⟨_, rfl⟩).elim | exact (hs ⟨_, rfl⟩).elim
            cases q2 : listOf v h3 with
            | none => rw [q2] at q'; cases q'
            | some xs =>
              rw [q2] at q'; cases q'
              obtain ⟨p, us, rfl, hq, rr⟩ := list_rel R3 q2 r1'
              exact .inr (.inl ⟨p, us, rfl, hq, fun t ht => P3 _ _ _ (.fresh ht) (R3.fresh ht) (rel_rls R3 ht (cut_rel l u rr))⟩)⟩⟩⟩⟩
end

/-! ### fields -/
omit [Tabl] in
def getF (f : Str) : List Str → List SV → Option SV
  | n :: ns, x :: xs => if f = n then some x else getF f ns xs
  | _, _ => none
omit [Tabl] in
def fldF (C : Addr) (f : Str) (v : SV) (h : SHp) : Option SV := match v with
  | .obj D ns xs => if D = C then getF f ns xs else none
  | .ref n => match h[n]? with
    | some (.ins D ns xs) => if D = C then getF f ns xs else none
    | _ => none
  | _ => none
omit [Tabl] in
def eFld (C : Addr) (f : Str) (c : Env → M SV) : Env → M SV := fun e => M.bind (c e) fun v => fun h => M.of (fldF C f v h) h
theorem getF_rel {K : PySem.W.Frag} {H : Hp} {ρ : Rho} {f : Str} : ∀ {fv : List (Str × V)} {xs : List SV} {s : SV}, RelL K H ρ xs (fv.map (·.2)) → getF f (fv.map (·.1)) xs = some s → ∃ v, fv.lookup f = some v ∧ RelS K H ρ s v
  | [], _, _, _, e => by simp [getF] at e
  | (n, v) :: fv, xs, s, r, e => by
    cases xs with
    | nil => simp [getF] at e
    | cons x xs =>
      obtain ⟨v', us, e2, a, q⟩ := RelL.inv r
      cases e2
      simp only [List.map_cons, getF] at e
      by_cases c : f = n
      · rw [if_pos c] at e; cases e
        subst c
        exact ⟨v, by simp [List.lookup], a⟩
      · rw [if_neg c] at e
        obtain ⟨w, h1, h2⟩ := getF_rel q e
        exact ⟨w, by rw [List.lookup_cons, (beq_eq_false_iff_ne (a := f) (b := n)).mpr c]; exact h1, h2⟩
theorem ins_rel {K : PySem.W.Frag} {H : Hp} {ρ : Rho} {h : SHp} {v : SV} {x : V} {C : Addr} {ns : List Str} {xs : List SV} (R : RelH K H ρ h) (r : RelS K H ρ v x)
    (e : v = .obj C ns xs ∨ ∃ n, v = .ref n ∧ h[n]? = some (.ins C ns xs)) : ∃ a dx fv, x = .ref a ∧ H a = some (.ins C dx fv) ∧ fv.map (·.1) = ns ∧ RelL K H ρ xs (fv.map (·.2)) := by
  rcases e with rfl | ⟨n, rfl, q⟩
  · cases r with
    | obj h o e rr _ => exact ⟨_, _, _, rfl, h, e, rr⟩
  · cases r with
    | ref hi _ =>
      obtain ⟨a, ha, ob⟩ := R.ob n _ q
      rw [hi] at ha; cases ha
      obtain ⟨dx, fv, h1, h2, h3⟩ := ob
      exact ⟨_, dx, fv, rfl, h1, h2, h3⟩
theorem fldF_some {C : Addr} {f : Str} {v z : SV} {h : SHp} (e : fldF C f v h = some z) : ∃ ns xs, (v = .obj C ns xs ∨ ∃ n, v = .ref n ∧ h[n]? = some (.ins C ns xs)) ∧ getF f ns xs = some z := by
  cases v with
  | obj D ns xs =>
    have e' : (if D = C then getF f ns xs else none) = some z := e
    by_cases c : D = C
    · subst c; rw [if_pos rfl] at e'; exact ⟨ns, xs, .inl rfl, e'⟩
    · rw [if_neg c] at e'; cases e'
  | ref n =>
    have e' : (match h[n]? with | some (.ins D ns xs) => if D = C then getF f ns xs else none | _ => none) = some z := e
    cases q : h[n]? with
    | none => simp [q] at e'
    | some o =>
      cases o with
      | ins D ns xs =>
        simp only [q] at e'
        by_cases c : D = C
        · subst c; rw [if_pos rfl] at e'; exact ⟨ns, xs, .inr ⟨n, rfl, q⟩, e'⟩
        · rw [if_neg c] at e'; cases e'
      | lst _ => simp [q] at e'
      | dic _ _ _ => simp [q] at e'
  | _ => cases e
section
variable {X : Cx} {W : WX} {pos : Pos} {a : Expr} {ca : Env → M SV} {C : Addr} {f : Str}
theorem e_fld (hC : Cls X.K C) (hf : NoAttr X.K C f) (ha : SE X W a ca) (hb : attributeBase a f X.env (eval a X.env) = eval a X.env := by rfl) : SE X W (.Attribute a f pos) (eFld C f ca) :=
  ⟨imp_pe (pe_fld ha.pe hb) fun σ H Q ⟨ρ, h, env, R, RE, P⟩ => ⟨ρ, h, env, R, RE, (Post.bind (rel := relS X.K) P).mono fun x H1 ⟨ρ1, v, h1, E1, R1, r1, P1⟩ => by
    unfold M.of at P1
    cases q : fldF C f v h1 with
    | none => rw [q] at P1; exact P1.elim
    | some z =>
      rw [q] at P1
      obtain ⟨ns, xs, hv, hg⟩ := fldF_some q
      obtain ⟨a, dx, fv, rfl, hH, en, rr⟩ := ins_rel R1 r1 hv
      subst en
      obtain ⟨w, hw, rw'⟩ := getF_rel rr hg
      exact ⟨a, C, dx, fv, w, rfl, hH, hC, hf, hw, P1 ρ1 H1 w .refl R1 rw'⟩⟩⟩
omit [Tabl] in
def setF (f : Str) (v : SV) : List Str → List SV → List Str × List SV
  | n :: ns, x :: xs => if n = f then (n :: ns, v :: xs) else let p := setF f v ns xs; (n :: p.1, x :: p.2)
  | [], [] => ([f], [v])
  | ns, xs => (ns, xs)
omit [Tabl] in
/-- o.f = e for a changing object -/
def cFld (C : Addr) (f : Str) (o c : Env → M SV) : ST' := fun e h => onV (c e) e h fun v h1 => onV (o e) e h1 fun w h2 => match w with
  | .ref n => match h2[n]? with
    | some (.ins D ns xs) => if D = C ∧ ns.length < 1000 then .nx e (h2.set n (.ins D (setF f v ns xs).1 (setF f v ns xs).2)) else .stuck
    | _ => .stuck
  | _ => .stuck
theorem setF_rel {K : PySem.W.Frag} {H : Hp} {ρ : Rho} {f : Str} {v : SV} {y : V} (rv : RelS K H ρ v y) : ∀ {fv : List (Str × V)} {xs : List SV}, RelL K H ρ xs (fv.map (·.2)) →
    (putF f y fv).map (·.1) = (setF f v (fv.map (·.1)) xs).1 ∧ RelL K H ρ (setF f v (fv.map (·.1)) xs).2 ((putF f y fv).map (·.2))
  | [], xs, r => by
    cases xs with
    | nil => exact ⟨rfl, .cons rv .nil⟩
    | cons x xs => cases r.length
  | (n, w) :: fv, xs, r => by
    cases xs with
    | nil => cases r.length
    | cons x xs =>
      obtain ⟨v', us, e2, a, q⟩ := RelL.inv r
      cases e2
      obtain ⟨i1, i2⟩ := setF_rel (f := f) rv q
      simp only [List.map_cons, setF, putF]
      by_cases c : n = f
      · rw [if_pos c, if_pos c]; exact ⟨rfl, .cons rv q⟩
      · rw [if_neg c, if_neg c]; exact ⟨by simp [i1], .cons a i2⟩
theorem s_fld {o e : Expr} {co ce : Env → M SV} {pos' : Pos} (hC : Cls X.K C) (hf : NoAttr X.K C f) (ho : SE X W o co) (he : SE X W e ce) (hs : swapsWith e (some (.Attribute o f pos')) pos.line X.env = pure false := by rfl) :
    SS X W (.Assign [.Attribute o f pos'] e pos) (cFld C f co ce) :=
  ⟨imp_ps (ps_fld ho.pe he.pe hs) fun D σ H ⟨ρ, h, env, R, RE, P⟩ => ⟨ρ, h, env, R, RE, (post_onV R RE P).mono fun y H1 ⟨ρ1, v, h1, E1, R1, RE1, r1, P1⟩ => ⟨ρ1, h1, env, R1, RE1, (post_onV R1 RE1 P1).mono fun x H2 ⟨ρ2, w, h2, E2, R2, RE2, r2, P2⟩ => by
    cases w with
    | ref n =>
      simp only at P2
      cases q : h2[n]? with
      | none => rw [q] at P2; exact P2.elim
      | some ob =>
        rw [q] at P2
        cases ob with
        | ins D' ns xs =>
          simp only at P2
          by_cases c : D' = C ∧ ns.length < 1000
          · rw [if_pos c] at P2
            obtain ⟨rfl, cl⟩ := c
            obtain ⟨a, ha, dx, fv, hH, en, rr⟩ := R2.ob n _ q
            cases r2 with
            | ref hi _ =>
              rw [hi] at ha; cases ha
              subst en
              have Ew : Ext ρ2 H2 ρ2 (upd H2 a (.ins D' dx (putF f y fv))) := .write (List.mem_of_getElem? hi)
              obtain ⟨s1, s2⟩ := setF_rel (f := f) (r1.mono R1.holds E2) rr
              refine ⟨a, D', dx, fv, rfl, hH, hC, hf, by simpa using cl, P2 ρ2 _ _ Ew (R2.write hi ⟨dx, _, upd_same, s1, s2.mono R2.holds Ew⟩) (RE2.mono R2.holds Ew)⟩
          · rw [if_neg c] at P2; exact P2.elim
        | lst _ => exact P2.elim
        | dic _ _ _ => exact P2.elim
    | _ => exact P2.elim⟩⟩⟩
end

/-! ### new instances -/
omit [Tabl] in
def eMake (fz : Bool) (C : Addr) (D : List SV → M SV) (c : Env → M (List SV)) : Env → M SV := fun e => M.bind (c e) fun vs => fun h => match D (.ref h.length :: vs) (h ++ [.ins C [] []]) with
  | .ok .non h' => gc fz h (.ref h.length) h'
  | .ok _ _ => .stuck
  | .err c fs h' => .err c fs h'
  | .stuck => .stuck
theorem upd_comm {H : Hp} {a b : Addr} {o u : HO} (h : a ≠ b) : upd (upd H a o) b u = upd (upd H b u) a o := by
  funext c
  by_cases h1 : c = a
  · subst h1; rw [upd_ne h, upd_same, upd_same]
  · by_cases h2 : c = b
    · subst h2; rw [upd_same, upd_ne h1, upd_same]
    · rw [upd_ne h2, upd_ne h1, upd_ne h1, upd_ne h2]
end Sim
namespace L2
open PySem PySem.Spec PyProof.Rows
section
variable {X : Cx} {CX : CXT} {k : Nat} {f C : Addr} {fd : FuncData} {ps : List Str} {sp : Sp} {dvs : List V} {ds : List Value} {E : St → XK} {x : Str} {p pos : Pos} {e : Expr} {es : List Expr} {t : TA}
def tMakeSD (C : Addr) (sp : Sp) (dvs : List V) (E : St → XK) (t : TA) : TE := fun σ H Q => t σ H fun vs H1 => ∀ x dx, H1 x = none → H1 dx = none → dx ≠ x →
  sp (.ref x :: (vs ++ dvs)) (upd (upd H1 dx (.own x)) x (.ins C dx [])) (fun v H2 => v = .non ∧ Q (.ref x) H2) (E σ)
theorem run_makeSD {pins : List (Addr × Obj)} {σ : St} {H : Hp} {s : Shared} {Q : VK} {us : List Value} {vs : List V} (M : Mk X.K C f) (F : Sim.FnOk X.prog X.w X.K X.mg X.base CX k f fd ps sp) (hr : Sim.Room (k + 1) X.A) (hb : Binds X.K fd ps ds) (hd : Vals dvs ds)
    (hx : PassesAt CX X σ (E σ)) (I : Inv X pins σ H s) (r : Vals vs us)
    (h : ∀ x dx, H x = none → H dx = none → dx ≠ x → sp (.ref x :: (vs ++ dvs)) (upd (upd H dx (.own x)) x (.ins C dx [])) (fun v H2 => v = .non ∧ Q (.ref x) H2) (E σ)) :
    wpAny (model X.prog X.w) X.A (call (.ref C) us) (EP X pins σ Q) X.xe s := by
  have hq := h (s.heap.objs.size + 1) s.heap.objs.size (I.hok.fresh (Nat.le_succ _)) (I.hok.fresh (Nat.le_refl _)) (Nat.ne_of_lt (Nat.lt_succ_self _))
  have I2 := Inv.made (C := C) I
  have r2 : Vals (V.ref (s.heap.objs.size + 1) :: (vs ++ dvs)) (Value.ref (s.heap.objs.size + 1) :: (us ++ ds)) := .cons rfl (r.append hd)
  have hl : (Value.ref (s.heap.objs.size + 1) :: us ++ ds).length = ps.length := by
    have e := r2.length
    rw [F.len _ _ _ _ hq] at e
    exact e.symm
  refine wpAny_call (make_map (f := f) I.kIn M.makes M.init (beq_iff_eq.mp M.fn) (codeAny_mono (F.go _ X.stack _ _ ⟨Value.ref (s.heap.objs.size + 1) :: us, []⟩ (Value.ref (s.heap.objs.size + 1) :: (us ++ ds)) _ _ (E σ) ⟨hr.toRoom.make C us [], hr.gd⟩
    (I2.env0.make C us []) (hb _ (Value.ref (s.heap.objs.size + 1) :: us) I2.kIn hl) r2 hq) fun r s' hq' => ?_))
  cases r with
  | error e => exact hx pins _ _ e s' I2 hq'
  | ok fl =>
    cases fl with
    | ret u =>
      obtain ⟨v, H', I3, rv, ev, q3⟩ := I2.after hq'
      subst ev
      exact ⟨rv, ⟨V.ref (s.heap.objs.size + 1), H', I3, rfl, q3⟩⟩
    | next => exact False.elim hq'
    | brk => exact False.elim hq'
    | cont => exact False.elim hq'
theorem pe_makeSD (M : Mk X.K C f) (F : Sim.FnOk X.prog X.w X.K X.mg X.base CX k f fd ps sp) (hr : Sim.Room (k + 1) X.A) (hg : Gl X x) (hm : X.mg x = some (.ref C)) (hb : Binds X.K fd ps ds) (hd : Vals dvs ds) (hx : ∀ σ, PassesAt CX X σ (E σ))
    (ha : PA X (e :: es) t) (hdb : (x == ("__debug__" : Str)) = false := by decide) (he : starEach (e :: es) X.env = (false, eval e X.env) :: starEach es X.env := by rfl) (hpl : (backTo pos (starEach es X.env)).any (·.1) = false := by rfl) :
    PE X (.Call (.Name x p) (e :: es) [] pos) (tMakeSD C sp dvs E t) := by
  refine ⟨fun pins s σ H Q I h => ?_⟩
  refine wpAny_Call_Name_kw (ld_glob I hg hm ?_ hdb)
  refine PySem.W.callWith_K (h₀ := X.base) I.ok.mod.kin M.kp (thn (ha.run pos pins s σ H _ I h) fun us s1 ⟨vs, H1, I1, r, q⟩ => ⟨I1.kIn, ?_⟩) he hpl
  exact run_makeSD M F hr hb hd (hx σ) I1 r q
end
end L2
namespace Sim
open PySem L2
variable [Tabl]
section
variable {X : Cx} {W : WX} {k : Nat} {f C : Addr} {fd : FuncData} {ps : List Str} {D : List SV → M SV} {x : Str} {p pos : Pos} {e : Expr} {es : List Expr} {c : Env → M (List SV)}
theorem e_make (fz : Bool) (tk : Takes X W) (Mk' : Mk X.K C f) (F : FnOk X.prog X.w X.K X.mg X.base (L2.CX X.prog X.w) k f fd ps (spS X.K ps.length D)) (hr : Room (k + 1) X.A) (hm : X.mg x = some (.ref C)) (hb : Binds X.K fd ps [])
    {n : Nat} (hn : ps.length = n + 1) (ha : SAn X W (e :: es) n c) (hg : Gl X x := by rfl) (hdb : (x == ("__debug__" : Str)) = false := by decide) (he : starEach (e :: es) X.env = (false, eval e X.env) :: starEach es X.env := by rfl) (hpl : (backTo pos (starEach es X.env)).any (·.1) = false := by rfl) :
    SE X W (.Call (.Name x p) (e :: es) [] pos) (eMake fz C D c) :=
  ⟨imp_pe (L2.pe_makeSD (E := WE W) Mk' F hr hg hm hb .nil (fun σ => passAt tk σ) ha.sa.pa hdb he hpl) fun σ H Q ⟨ρ, h, env, R, RE, P⟩ => by
    refine ⟨ρ, h, env, R, RE, ?_⟩
    have P2 := Post.bind (rel := relL X.K) P
    cases q : c env h with
    | err cc fs h1 => rw [q] at P2; exact P2
    | stuck => rw [q] at P2; exact P2
    | ok vs h1 =>
      intro ρ1 H1 xs E1 R1 r1
      intro y dy hy hdy hne
      rw [List.append_nil]
      have P0 : Post X.K W (relS X.K) σ ρ1 H1 (match D (.ref h1.length :: vs) (h1 ++ [.ins C [] []]) with
        | .ok .non h' => gc fz h1 (.ref h1.length) h'
        | .ok _ _ => .stuck
        | .err c fs h' => .err c fs h'
        | .stuck => .stuck) Q := by
        unfold eMake M.bind at P; rw [q] at P; exact Post.shift P E1
      -- the new dict, then the new instance
      have R2 : RelH X.K (upd H1 dy (.own y)) ρ1 h1 := R1.fresh hdy
      have E2 : Ext ρ1 H1 ρ1 (upd H1 dy (.own y)) := .fresh hdy
      have hy2 : upd H1 dy (.own y) y = none := by rw [upd_ne hne.symm]; exact hy
      have R3 : RelH X.K (upd (upd H1 dy (.own y)) y (.ins C dy [])) (ρ1.add y) (h1 ++ [.ins C [] []]) := R2.alloc hy2 ⟨dy, [], upd_same, rfl, .nil⟩
      have E3 : Ext ρ1 H1 (ρ1.add y) (upd (upd H1 dy (.own y)) y (.ins C dy [])) := E2.tr (.alloc hy2)
      have rr : RelL X.K (upd (upd H1 dy (.own y)) y (.ins C dy [])) (ρ1.add y) (.ref h1.length :: vs) (.ref y :: xs) :=
        .ref (by rw [← R1.len]; simp [Rho.add]) (r1.mono R1.holds E3)
      refine sp_of (D := D) (n := ps.length) R3 rr (by simp [hn, ← r1.length, ha.len _ _ _ _ q]) ?_
      cases qd : D (.ref h1.length :: vs) (h1 ++ [.ins C [] []]) with
      | err cc fs h2 => rw [qd] at P0; exact fun ρ' H' cv d E' R' z => P0 ρ' H' cv d (E3.tr E') R' z
      | stuck => rw [qd] at P0; exact P0
      | ok v h2 =>
        rw [qd] at P0
        intro ρ' H' z E' R' rz
        cases v with
        | non =>
          cases rz
          refine ⟨rfl, ?_⟩
          have hre : RelS X.K H' ρ' (.ref h1.length) (.ref y) := .ref (prefix_get E'.pre (by show (ρ1.l ++ [y])[h1.length]? = some y; rw [← R1.len]; simp)) .nil
          exact gc_post R1 P0 ρ' H' (.ref y) (E3.tr E') R' hre
        | _ => exact P0.elim⟩
end

/-! ### methods of lists -/
omit [Tabl] in
def cApp (o c : Env → M SV) : ST' := fun e h => onV (o e) e h fun w h1 => match w with
  | .ref n => match h1[n]? with
    | some (.lst _) => onV (c e) e h1 fun v h2 => match h2[n]? with
      | some (.lst xs) => if xs.length < sizeLine then .nx e (h2.set n (.lst (xs ++ [v]))) else .stuck
      | _ => .stuck
    | _ => .stuck
  | _ => .stuck
section
variable {X : Cx} {W : WX} {pos : Pos} {o e : Expr} {co ce : Env → M SV} {apos cpos : Pos}
theorem s_app (ho : SE X W o co) (he : SE X W e ce) (hbase : attributeBase o "append" X.env (eval o X.env) = eval o X.env := by rfl)
    (hfew : ((backTo cpos (starEach [e] X.env)).all (fun x => !x.1) && (backToKw cpos (keywordEach [] X.env)).all (fun x => x.1.isSome)
      && decide ([e].length + ([] : List Keyword).length + (if ([] : List Keyword).isEmpty then 0 else 1) < 30)) = true := by rfl)
    (hline : (apos.endLine == cpos.line) = true := by rfl) (hs : starEach [e] X.env = (false, eval e X.env) :: starEach [] X.env := by rfl) (hplain : (backTo cpos (starEach [] X.env)).any (·.1) = false := by rfl)
    (hsw : swapsWith (.Call (.Attribute o "append" apos) [e] [] cpos) none pos.line X.env = pure false := by rfl) : SS X W (.Expr (.Call (.Attribute o "append" apos) [e] [] cpos) pos) (cApp co ce) :=
  ⟨imp_ps (ps_expr (pe_bm PySem.F.plainAttrs_list PySem.F.slot_list_append PySem.F.type_list_append mt_append ho.pe (pa_cons he.pe pa_nil hs) hbase hfew hline hs hplain) hsw) fun D σ H ⟨ρ, h, env, R, RE, P⟩ =>
    ⟨ρ, h, env, R, RE, (post_onV R RE P).mono fun x H1 ⟨ρ1, w, h1, E1, R1, RE1, r1, P1⟩ => by
      cases w with
      | ref n =>
        simp only at P1
        cases q1 : h1[n]? with
        | none => rw [q1] at P1; exact P1.elim
        | some ob1 =>
          rw [q1] at P1
          cases ob1 with
          | lst ys =>
            have P1' := post_onV R1 RE1 P1
            obtain ⟨a, hi, us0, hu0, _⟩ := R1.ob n _ q1
            cases r1 with
            | ref hi' _ =>
              rw [hi] at hi'; cases hi'
              refine ⟨.inl ⟨rfl, us0, .of hu0⟩, ρ1, h1, env, R1, RE1, P1'.mono fun y H2 ⟨ρ2, v, h2, E2, R2, RE2, r2, P2⟩ => ?_⟩
              cases q2 : h2[n]? with
              | none => simp only [q2] at P2; exact P2.elim
              | some ob =>
                cases ob with
                | lst xs =>
                  simp only [q2] at P2
                  obtain ⟨a2, ha2, us, hu, ru⟩ := R2.ob n _ q2
                  have hi2 := prefix_get E2.pre hi
                  rw [hi2] at ha2; cases ha2
                  by_cases c : xs.length < sizeLine
                  · rw [if_pos c] at P2
                    have Ew : Ext ρ2 H2 ρ2 (upd H2 a (.lst (us ++ [y]))) := .write (List.mem_of_getElem? hi2)
                    exact ⟨a, us, y, rfl, rfl, hu, by rw [← ru.length]; exact c, P2 ρ2 _ _ Ew (R2.write hi2 ⟨_, upd_same, (ru.snoc r2).mono R2.holds Ew⟩) (RE2.mono R2.holds Ew)⟩
                  · rw [if_neg c] at P2; exact P2.elim
                | dic _ _ _ => simp only [q2] at P2; exact P2.elim
                | ins _ _ _ => simp only [q2] at P2; exact P2.elim
          | dic _ _ _ => exact P1.elim
          | ins _ _ _ => exact P1.elim
      | _ => exact P1.elim⟩⟩
end
end Sim

set_option Elab.async false
set_option linter.all false
set_option maxRecDepth 100000
set_option maxHeartbeats 4000000
namespace Sim
open PySem L2
variable [Tabl]

/-! ### while: at most so many turns -/
omit [Tabl] in
def whL (t : Env → M Bool) (b : ST') : Nat → ST'
  | 0, _, _ => .stuck
  | n + 1, e, h => onB (t e) e h fun k h1 => if k = true then match b e h1 with
    | .nx e2 h2 => whL t b n e2 h2
    | .ct e2 h2 => whL t b n e2 h2
    | .bk e2 h2 => .nx e2 h2
    | .rt v h2 => .rt v h2
    | .err c fs e2 h2 => .err c fs e2 h2
    | .stuck => .stuck
    else .nx e h1
omit [Tabl] in
def cWh (n : Nat) (t : Env → M Bool) (b : ST') : ST' := whL t b n
section
variable {X : Cx} {W : WX} {pos : Pos} {t : Expr} {body : List Stmt} {tc : Env → M Bool} {b : ST'}
theorem s_while (n : Nat) (hp : PassesOwn (model X.prog X.w) X.A X.env X.xe) (ht : ST X W t tc) (hb : SSs X W body b) : SS X W (.While t body [] pos) (cWh n tc b) := by
  refine ⟨imp_ps (ps_while hp ht.pt hb.pss) fun D σ H ⟨ρ, h, env, R, RE, P⟩ => ?_⟩
  refine ⟨fun m σ H => ∃ ρ h env, RelH X.K H ρ h ∧ RelE X.K H ρ env σ ∧ PostR X.K W D ρ H (whL tc b m env h), ⟨n, ρ, h, env, R, RE, P⟩, ?_⟩
  rintro m σ H ⟨ρ, h, env, R, RE, P⟩
  cases m with
  | zero => exact P.elim
  | succ m =>
    unfold whL at P
    refine ⟨ρ, h, env, R, RE, (post_onB R RE P).mono fun k H1 ⟨ρ1, h1, E1, R1, RE1, P1⟩ => ?_⟩
    cases k with
    | false => exact iteF (P1 ρ1 H1 σ .refl R1 RE1)
    | true =>
      refine iteT ⟨fun σ H => ∃ ρ h env, RelH X.K H ρ h ∧ RelE X.K H ρ env σ ∧ PostR X.K W D ρ H (whL tc b m env h), fun σ' H' q => ⟨m, Nat.lt_succ_self _, q⟩, ρ1, h1, env, R1, RE1, ?_⟩
      cases eb : b env h1 with
      | nx e2 h2 => simp only [eb, if_true] at P1; exact fun ρ' H' σ' E' R' RE' => ⟨ρ', h2, e2, R', RE', P1.shift E'⟩
      | ct e2 h2 => simp only [eb, if_true] at P1; exact fun ρ' H' σ' E' R' RE' => ⟨ρ', h2, e2, R', RE', P1.shift E'⟩
      | bk e2 h2 => simp only [eb, if_true] at P1; exact P1
      | rt v h2 => simp only [eb, if_true] at P1; exact P1
      | err cc fs e2 h2 => simp only [eb, if_true] at P1; exact P1
      | stuck => simp only [eb, if_true] at P1; exact P1.elim
end

/-! ### dicts: keys are ints and texts, or tuples of such -/
omit [Tabl] in
def isK : SV → Bool
  | .int _ => true
  | .str _ => true
  | _ => false
omit [Tabl] in
def isKT : SV → Bool
  | .tup xs => xs.all isK
  | _ => false
omit [Tabl] in
def findD : List SV → List SV → SV → Option SV
  | k :: ks, x :: xs, q => if k = q then some x else findD ks xs q
  | _, _, _ => none
omit [Tabl] in
def putX : List SV → List SV → SV → SV → List SV
  | k :: ks, x :: xs, q, v => (if k = q then v else x) :: putX ks xs q v
  | _, _, _, _ => []
omit [Tabl] in
def putD (ks xs : List SV) (q v : SV) : List SV × List SV := if ks.any (fun k => decide (k = q)) = true then (ks, putX ks xs q v) else (ks ++ [q], xs ++ [v])
omit [Tabl] in
def dicOf (v : SV) (h : SHp) : Option (Bool × List SV × List SV) := match v with
  | .rdc t ks xs => some (t, ks, xs)
  | .ref n => match h[n]? with
    | some (.dic t ks xs) => some (t, ks, xs)
    | _ => none
  | _ => none
omit [Tabl] in
/-- a key that fits -/
def keyOk (t : Bool) (q : SV) : Bool := if t then isKT q else isK q
theorem keyS_inj {a b : Key} (h : keyS a = keyS b) : a = b := by
  cases a <;> cases b <;> simp [keyS] at h <;> (subst h; rfl)
theorem keysS_inj : ∀ {a b : List Key}, a.map keyS = b.map keyS → a = b
  | [], [], _ => rfl
  | _ :: _, [], h => by simp at h
  | [], _ :: _, h => by simp at h
  | x :: a, y :: b, h => by
    simp only [List.map_cons, List.cons.injEq] at h
    rw [keyS_inj h.1, keysS_inj h.2]
section
variable {K : PySem.W.Frag} {H : Hp} {ρ : Rho}
theorem isK_rel {q : SV} {y : V} (e : isK q = true) (r : RelS K H ρ q y) : ∃ k : Key, y = kV k ∧ q = keyS k := by
  cases r <;> simp [isK] at e
  · exact ⟨.inl _, rfl, rfl⟩
  · exact ⟨.inr _, rfl, rfl⟩
theorem isKs_rel : ∀ {qs : List SV} {ys : List V}, qs.all isK = true → RelL K H ρ qs ys → ∃ ks : List Key, ys = ks.map kV ∧ qs = ks.map keyS
  | [], _, _, r => by rw [r.nil_inv]; exact ⟨[], rfl, rfl⟩
  | q :: qs, _, e, r => by
    obtain ⟨y, ys, rfl, a, b⟩ := r.inv
    simp at e
    obtain ⟨k, rfl, rfl⟩ := isK_rel e.1 a
    obtain ⟨ks, rfl, rfl⟩ := isKs_rel (by simpa using e.2) b
    exact ⟨k :: ks, rfl, rfl⟩
theorem isKT_rel {q : SV} {y : V} (e : isKT q = true) (r : RelS K H ρ q y) : ∃ (ks : List Key) (b : Addr), y = .ref b ∧ H b = some (.tup (ks.map kV)) ∧ q = .tup (ks.map keyS) := by
  cases q with
  | tup xs =>
    obtain ⟨a, us, rfl, hq, rr⟩ := tup_rel1 r
    obtain ⟨ks, rfl, rfl⟩ := isKs_rel (by simpa [isKT] using e) rr
    exact ⟨ks, a, rfl, hq, rfl⟩
  | _ => simp [isKT] at e
theorem findD_rel {κ : Type} [DecidableEq κ] {f : κ → SV} (inj : ∀ a b, f a = f b → a = b) : ∀ {kvs : List (κ × V)} {xs : List SV} {k : κ}, RelL K H ρ xs (kvs.map (·.2)) →
    match findD (kvs.map (fun p => f p.1)) xs (f k) with
    | some s => ∃ v, valV kvs k = some v ∧ RelS K H ρ s v
    | none => valV kvs k = none
  | [], xs, k, r => by simp [findD, valV_nil]
  | (j, w) :: kvs, [], k, r => by cases r.length
  | (j, w) :: kvs, x :: xs, k, r => by
    obtain ⟨v', us, e2, a, q⟩ := RelL.inv r
    cases e2
    simp only [List.map_cons, findD]
    by_cases c : j = k
    · subst c; rw [if_pos rfl]; exact ⟨w, valV_pos rfl, a⟩
    · rw [if_neg (fun z => c (inj _ _ z))]
      have ih := findD_rel inj (k := k) q
      have e3 : valV ((j, w) :: kvs) k = valV kvs k := by simp [valV, List.find?_cons, c]
      rw [e3]; exact ih
theorem putX_rel {κ : Type} [DecidableEq κ] {f : κ → SV} (inj : ∀ a b, f a = f b → a = b) {s : SV} {y : V} {k : κ} (rv : RelS K H ρ s y) : ∀ {kvs : List (κ × V)} {xs : List SV}, RelL K H ρ xs (kvs.map (·.2)) →
    RelL K H ρ (putX (kvs.map (fun p => f p.1)) xs (f k) s) ((kvs.map (fun kv => if kv.1 = k then (kv.1, y) else kv)).map (·.2))
  | [], xs, r => by cases xs with
    | nil => exact .nil
    | cons _ _ => cases r.length
  | (j, w) :: kvs, [], r => by cases r.length
  | (j, w) :: kvs, x :: xs, r => by
    obtain ⟨v', us, e2, a, q⟩ := RelL.inv r
    cases e2
    simp only [List.map_cons, putX]
    have ih := putX_rel inj (k := k) rv q
    by_cases c : j = k
    · subst c; rw [if_pos rfl, if_pos rfl]; exact .cons rv ih
    · rw [if_neg (fun z => c (inj _ _ z)), if_neg c]; exact .cons a ih
theorem any_rel {κ : Type} [DecidableEq κ] {f : κ → SV} (inj : ∀ a b, f a = f b → a = b) {k : κ} : ∀ (kvs : List (κ × V)), (kvs.map (fun p => f p.1)).any (fun j => decide (j = f k)) = kvs.any (fun kv => decide (kv.1 = k))
  | [] => rfl
  | (j, w) :: kvs => by
    simp only [List.map_cons, List.any_cons]
    rw [any_rel inj kvs]
    congr 1
    by_cases c : j = k
    · subst c; simp
    · simp [c]; exact fun z => c (inj _ _ z)
theorem putD_rel {κ : Type} [DecidableEq κ] {f : κ → SV} (inj : ∀ a b, f a = f b → a = b) {s : SV} {y : V} {k : κ} (rv : RelS K H ρ s y) {kvs : List (κ × V)} {xs : List SV} (r : RelL K H ρ xs (kvs.map (·.2))) :
    (putK kvs k y).map (fun p => f p.1) = (putD (kvs.map (fun p => f p.1)) xs (f k) s).1 ∧ RelL K H ρ (putD (kvs.map (fun p => f p.1)) xs (f k) s).2 ((putK kvs k y).map (·.2)) := by
  unfold putD putK
  rw [any_rel inj]
  by_cases c : (kvs.any fun kv => decide (kv.1 = k)) = true
  · rw [if_pos c, if_pos c]
    refine ⟨?_, putX_rel inj rv r⟩
    rw [List.map_map]
    refine List.map_congr_left fun p _ => ?_
    simp only [Function.comp]
    split <;> rfl
  · rw [if_neg c, if_neg c]
    refine ⟨by simp, ?_⟩
    rw [List.map_append]
    exact r.snoc rv
theorem keys_all (kvs : List (Key × V)) : (kvs.map (fun p => keyS p.1)).all isK = true := by
  simp only [List.all_map, List.all_eq_true]
  intro p _
  show isK (keyS p.1) = true
  cases p.1 <;> rfl
theorem kt_nK (ks : List Key) : isK (SV.tup (ks.map keyS)) = false := rfl
theorem isKT_of (ks : List Key) : isKT (SV.tup (ks.map keyS)) = true := by
  simp only [isKT, List.all_map, List.all_eq_true]
  intro p _
  show isK (keyS p) = true
  cases p <;> rfl
/-- what stands behind a dict's value -/
theorem dic_rel {h : SHp} {v : SV} {x : V} {t : Bool} {ks xs : List SV} (R : RelH K H ρ h) (e : dicOf v h = some (t, ks, xs)) (r : RelS K H ρ v x) :
    ∃ a, x = .ref a ∧ ((∃ kvs : List (Key × V), Rd H a (.dK kvs) ∧ (t = false ∧ kvs.map (fun p => keyS p.1) = ks) ∧ RelL K H ρ xs (kvs.map (·.2))) ∨
      (∃ kvs : List (List Key × V), H a = some (.dT kvs) ∧ (t = true ∧ kvs.map (fun p => SV.tup (p.1.map keyS)) = ks) ∧ RelL K H ρ xs (kvs.map (·.2)))) := by
  cases v with
  | rdc t' ks' xs' =>
    cases e
    cases r with
    | rdK h o e rr _ => exact ⟨_, rfl, .inl ⟨_, h, ⟨rfl, e⟩, rr⟩⟩
    | rdT h o e rr _ => exact ⟨_, rfl, .inr ⟨_, h, ⟨rfl, e⟩, rr⟩⟩
  | ref n =>
    have e' : (match h[n]? with | some (SO.dic t ks xs) => some (t, ks, xs) | _ => none) = some (t, ks, xs) := e
    cases q : h[n]? with
    | none => simp [q] at e'
    | some o =>
      obtain ⟨a, ha, ob⟩ := R.ob n o q
      cases r with
      | ref hi _ =>
        rw [hi] at ha; cases ha
        cases o with
        | dic t' ks' xs' => simp [q] at e'; obtain ⟨rfl, rfl, rfl⟩ := e'; exact ⟨_, rfl, ob.imp (fun ⟨kvs, h, r⟩ => ⟨kvs, .inl h, r⟩) id⟩
        | lst _ => simp [q] at e'
        | ins _ _ _ => simp [q] at e'
  | _ => cases e
theorem tupk_inj : ∀ a b : List Key, SV.tup (a.map keyS) = SV.tup (b.map keyS) → a = b := fun a b h => keysS_inj (by injection h)
omit [Tabl] in
def FindR (K : PySem.W.Frag) (H : Hp) (ρ : Rho) (o : Option V) : Option SV → Prop
  | some s => ∃ w, o = some w ∧ RelS K H ρ s w
  | none => o = none
/-- a look-up -/
theorem dget_rel {h : SHp} {v q : SV} {x y : V} {t : Bool} {ks xs : List SV} (R : RelH K H ρ h) (e : dicOf v h = some (t, ks, xs)) (r : RelS K H ρ v x) (rq : RelS K H ρ q y) (ok : keyOk t q = true) :
    ∃ a o, x = .ref a ∧ DGet H a y o ∧ FindR K H ρ o (findD ks xs q) := by
  obtain ⟨a, rfl, hd⟩ := dic_rel R e r
  rcases hd with ⟨kvs, hH, ⟨rfl, rfl⟩, rr⟩ | ⟨kvs, hH, ⟨rfl, rfl⟩, rr⟩
  · obtain ⟨k, rfl, rfl⟩ := isK_rel ok rq
    have z := findD_rel (fun a b => keyS_inj) (k := k) rr
    refine ⟨a, _, rfl, .inl ⟨kvs, k, hH, rfl, rfl⟩, ?_⟩
    split at z
    · rename_i s qs; rw [qs]; exact z
    · rename_i qs; rw [qs]; exact z
  · obtain ⟨k, b, rfl, hb, rfl⟩ := isKT_rel ok rq
    have z := findD_rel (f := fun k : List Key => SV.tup (k.map keyS)) tupk_inj (k := k) rr
    refine ⟨a, _, rfl, DGet.t (k := k) hH hb, ?_⟩
    split at z
    · rename_i s qs; rw [qs]; exact z
    · rename_i qs; rw [qs]; exact z
end
omit [Tabl] in
def inF (neg : Bool) (q v : SV) (h : SHp) : Option SV := match dicOf v h with
  | some (t, ks, xs) => if keyOk t q = true then some (.bl (if neg then !(findD ks xs q).isSome else (findD ks xs q).isSome)) else none
  | none => none
omit [Tabl] in
def dgF (v q : SV) (h : SHp) : Option SV := match dicOf v h with
  | some (t, ks, xs) => if keyOk t q = true then findD ks xs q else none
  | none => none
theorem findR_some {K : PySem.W.Frag} {H : Hp} {ρ : Rho} {o : Option V} {r : Option SV} (h : FindR K H ρ o r) : o.isSome = r.isSome := by
  cases r with
  | none => rw [show o = none from h]; rfl
  | some s => obtain ⟨w, rfl, _⟩ := h; rfl
section
variable {X : Cx} {W : WX} {pos : Pos} {i o : Expr} {ci co : Env → M SV}
theorem post_din (neg : Bool) {σ : St} {H : Hp} {Q : VK} (h : tS X.K W (eOp (inF neg) ci co) σ H Q) :
    (tS X.K W ci) σ H fun y H1 => (tS X.K W co) σ H1 fun x H2 => ∃ a ov, x = .ref a ∧ DGet H2 a y ov ∧ Q (.bl (if neg then !ov.isSome else ov.isSome)) H2 := by
  obtain ⟨ρ, h, env, R, RE, P⟩ := h
  refine ⟨ρ, h, env, R, RE, (Post.bind (rel := relS X.K) P).mono fun y H1 ⟨ρ1, q, h1, E1, R1, r1, P1⟩ => ⟨ρ1, h1, env, R1, RE.mono R.holds E1, (Post.bind (rel := relS X.K) P1).mono fun x H2 ⟨ρ2, v, h2, E2, R2, r2, P2⟩ => ?_⟩⟩
  unfold M.of inF at P2
  cases e : dicOf v h2 with
  | none => rw [e] at P2; exact P2.elim
  | some p =>
    obtain ⟨t, ks, xs⟩ := p
    rw [e] at P2
    simp only at P2
    by_cases c : keyOk t q = true
    · rw [if_pos c] at P2
      obtain ⟨a, ov, rfl, g, fr⟩ := dget_rel R2 e r2 (r1.mono R1.holds E2) c
      refine ⟨a, ov, rfl, g, ?_⟩
      rw [findR_some fr]
      exact P2 ρ2 H2 _ .refl R2 (.bl .nil)
    · rw [if_neg c] at P2; exact P2.elim
theorem e_din (hu : X.A.units + 1 < cLine) (hi : SE X W i ci) (ho : SE X W o co) (hm : behindInMarks .In o = false := by rfl) : SE X W (.Compare i [.In] [o] pos) (eOp (inF false) ci co) :=
  ⟨imp_pe (pe_cmp (pc_din hu hi.pe ho.pe) hm) fun σ H Q h => post_din false h⟩
theorem e_dnotin (hu : X.A.units + 1 < cLine) (hi : SE X W i ci) (ho : SE X W o co) (hm : behindInMarks .NotIn o = false := by rfl) : SE X W (.Compare i [.NotIn] [o] pos) (eOp (inF true) ci co) :=
  ⟨imp_pe (pe_cmp (pc_dnotin hu hi.pe ho.pe) hm) fun σ H Q h => post_din true h⟩
theorem t_din (hu : X.A.units + 1 < cLine) (hi : SE X W i ci) (ho : SE X W o co) (hm : behindInMarks .In o = false := by rfl) : ST X W (.Compare i [.In] [o] pos) (eTst (eOp (inF false) ci co)) :=
  ⟨imp_pt (pt_cmp (pc_din hu hi.pe ho.pe) hm) fun σ H Q h => by obtain ⟨ρ, h, env, R, RE, P⟩ := post_tst h; exact post_din false ⟨ρ, h, env, R, RE, P⟩⟩
theorem t_dnotin (hu : X.A.units + 1 < cLine) (hi : SE X W i ci) (ho : SE X W o co) (hm : behindInMarks .NotIn o = false := by rfl) : ST X W (.Compare i [.NotIn] [o] pos) (eTst (eOp (inF true) ci co)) :=
  ⟨imp_pt (pt_cmp (pc_dnotin hu hi.pe ho.pe) hm) fun σ H Q h => by obtain ⟨ρ, h, env, R, RE, P⟩ := post_tst h; exact post_din true ⟨ρ, h, env, R, RE, P⟩⟩
theorem e_dget (hu : X.A.units + 1 < cLine) (ho : SE X W o co) (hi : SE X W i ci) (hs : NoSl i := by intro _ _; rfl) : SE X W (.Subscript o i pos) (eOp dgF co ci) :=
  ⟨imp_pe (pe_dget hu ho.pe hi.pe hs) fun σ H Q ⟨ρ, h, env, R, RE, P⟩ => ⟨ρ, h, env, R, RE, (Post.bind (rel := relS X.K) P).mono fun x H1 ⟨ρ1, v, h1, E1, R1, r1, P1⟩ => ⟨ρ1, h1, env, R1, RE.mono R.holds E1, (Post.bind (rel := relS X.K) P1).mono fun y H2 ⟨ρ2, q, h2, E2, R2, r2, P2⟩ => by
    unfold M.of dgF at P2
    cases e : dicOf v h2 with
    | none => rw [e] at P2; exact P2.elim
    | some p =>
      obtain ⟨t, ks, xs⟩ := p
      rw [e] at P2
      simp only at P2
      by_cases c : keyOk t q = true
      · rw [if_pos c] at P2
        obtain ⟨a, ov, rfl, g, fr⟩ := dget_rel R2 e (r1.mono R1.holds E2) r2 c
        cases qf : findD ks xs q with
        | none => rw [qf] at P2; exact P2.elim
        | some s =>
          rw [qf] at P2 fr
          obtain ⟨w, rfl, rw'⟩ := fr
          exact ⟨a, w, rfl, g, P2 ρ2 H2 w .refl R2 rw'⟩
      · rw [if_neg c] at P2; exact P2.elim⟩⟩⟩
omit [Tabl] in
/-- d[k] = v -/
def cPut (o i c : Env → M SV) : ST' := fun e h => onV (c e) e h fun v h1 => onV (o e) e h1 fun w h2 => onV (i e) e h2 fun q h3 => match w with
  | .ref n => match h3[n]? with
    | some (.dic t ks xs) => if keyOk t q = true ∧ ks.length < sizeLine then .nx e (h3.set n (.dic t (putD ks xs q v).1 (putD ks xs q v).2)) else .stuck
    | _ => .stuck
  | _ => .stuck
theorem s_put {val : Expr} {cv : Env → M SV} {pos' : Pos} (hu : X.A.units + 1 < cLine) (ho : SE X W o co) (hi : SE X W i ci) (hv : SE X W val cv) (hs : swapsWith val (some (.Subscript o i pos')) pos.line X.env = pure false := by rfl) :
    SS X W (.Assign [.Subscript o i pos'] val pos) (cPut co ci cv) :=
  ⟨imp_ps (ps_dput hu ho.pe hi.pe hv.pe hs) fun D σ H ⟨ρ, h, env, R, RE, P⟩ => ⟨ρ, h, env, R, RE, (post_onV R RE P).mono fun v H1 ⟨ρ1, s, h1, E1, R1, RE1, r1, P1⟩ => ⟨ρ1, h1, env, R1, RE1, (post_onV R1 RE1 P1).mono fun x H2 ⟨ρ2, w, h2, E2, R2, RE2, r2, P2⟩ =>
    ⟨ρ2, h2, env, R2, RE2, (post_onV R2 RE2 P2).mono fun y H3 ⟨ρ3, q, h3, E3, R3, RE3, r3, P3⟩ => by
      have rs := (r1.mono R1.holds E2).mono R2.holds E3
      have rw' := r2.mono R2.holds E3
      cases w with
      | ref n =>
        simp only at P3
        cases q3 : h3[n]? with
        | none => rw [q3] at P3; exact P3.elim
        | some ob =>
          rw [q3] at P3
          cases ob with
          | dic t ks xs =>
            simp only at P3
            by_cases c : keyOk t q = true ∧ ks.length < sizeLine
            · rw [if_pos c] at P3
              obtain ⟨ck, cl⟩ := c
              obtain ⟨a, ha, ob⟩ := R3.ob n _ q3
              cases rw' with
              | ref hi' _ =>
                rw [hi'] at ha; cases ha
                rcases ob with ⟨kvs, hH, ⟨rfl, rfl⟩, rr⟩ | ⟨kvs, hH, ⟨rfl, rfl⟩, rr⟩
                · obtain ⟨k, rfl, rfl⟩ := isK_rel ck r3
                  have Ew : Ext ρ3 H3 ρ3 (upd H3 a (.dK (putK kvs k v))) := .write (List.mem_of_getElem? hi')
                  obtain ⟨p1, p2⟩ := putD_rel (fun a b => keyS_inj) (k := k) rs rr
                  exact ⟨a, _, rfl, DPut.k hH (by simpa using cl), P3 ρ3 _ _ Ew (R3.write hi' (.inl ⟨_, upd_same, ⟨rfl, p1⟩, p2.mono R3.holds Ew⟩)) (RE3.mono R3.holds Ew)⟩
                · obtain ⟨k, b, rfl, hb, rfl⟩ := isKT_rel ck r3
                  have Ew : Ext ρ3 H3 ρ3 (upd H3 a (.dT (putK kvs k v))) := .write (List.mem_of_getElem? hi')
                  obtain ⟨p1, p2⟩ := putD_rel (f := fun k : List Key => SV.tup (k.map keyS)) tupk_inj (k := k) rs rr
                  exact ⟨a, _, rfl, DPut.t hH hb (by simpa using cl), P3 ρ3 _ _ Ew (R3.write hi' (.inr ⟨_, upd_same, ⟨rfl, p1⟩, p2.mono R3.holds Ew⟩)) (RE3.mono R3.holds Ew)⟩
            · rw [if_neg c] at P3; exact P3.elim
          | lst _ => exact P3.elim
          | ins _ _ _ => exact P3.elim
      | _ => exact P3.elim⟩⟩⟩⟩
/-! dicts written out: {} and {k: v}, keys ints and texts -/
omit [Tabl] in
def eDic0 (t : Bool) : Env → M SV := fun _ h => .ok (.ref h.length) (h ++ [.dic t [] []])
theorem e_dic0 : SE X W (.Dict [] [] pos) (eDic0 false) := ⟨imp_pe pe_dnewK fun σ H Q ⟨ρ, h, env, R, RE, P⟩ => fun p hp =>
  P _ _ _ (.alloc hp) (R.alloc hp (.inl ⟨[], upd_same, ⟨rfl, rfl⟩, .nil⟩)) (.ref (by rw [← R.len]; simp [Rho.add]) .nil)⟩
theorem e_dic0T : SE X W (.Dict [] [] pos) (eDic0 true) := ⟨imp_pe pe_dnewT fun σ H Q ⟨ρ, h, env, R, RE, P⟩ => fun p hp =>
  P _ _ _ (.alloc hp) (R.alloc hp (.inr ⟨[], upd_same, ⟨rfl, rfl⟩, .nil⟩)) (.ref (by rw [← R.len]; simp [Rho.add]) .nil)⟩
end
omit [Tabl] in
/-- {k: v} -/
def eDic1 (k c : Env → M SV) : Env → M SV := fun e => M.bind (k e) fun q => M.bind (c e) fun v => fun h => if isK q = true then .ok (.ref h.length) (h ++ [.dic false [q] [v]]) else .stuck
section
variable {X : Cx} {W : WX} {pos : Pos} {a b : Expr} {ca cb : Env → M SV}
theorem e_dic1 (ha : SE X W a ca) (hb : SE X W b cb) : SE X W (.Dict [some a] [b] pos) (eDic1 ca cb) :=
  ⟨imp_pe (L2.pe_disp (L2.pps_cons ha.pe hb.pe L2.pps_nil) rfl rfl (fun z => by cases z) (by show 1 ≤ 15; decide)) fun σ H Q ⟨ρ, h, env, R, RE, P⟩ => fun D hD => by
    have oD := R.outf hD
    have P' : Post X.K W (relS X.K) σ ρ H (M.bind (ca env) (fun q => M.bind (cb env) fun v => fun h => if isK q = true then .ok (.ref h.length) (h ++ [.dic false [q] [v]]) else .stuck) h) Q := P
    have Eh : Ext ρ H (ρ.hide D) (upd H D (.dK [])) := .hidden hD R.holds
    have Rh : RelH X.K (upd H D (.dK [])) (ρ.hide D) h := R.hidden hD
    refine ⟨ρ.hide D, h, env, Rh, RE.mono R.holds Eh, ?_⟩
    cases e1 : ca env h with
    | err cc fs h1 => simp only [M.bind, e1] at P'; exact Post.shift (r := Res.err cc fs h1) (rel := relS X.K) (Q := Q) P' Eh
    | stuck => simp only [M.bind, e1] at P'; exact P'
    | ok q h1 =>
      intro ρ1 H1 x E1 R1 r1
      refine ⟨ρ1, h1, env, R1, (RE.mono R.holds Eh).mono Rh.holds E1, ?_⟩
      cases e2 : cb env h1 with
      | err cc fs h2 => simp only [M.bind, e1, e2] at P'; exact Post.shift (r := Res.err cc fs h2) (rel := relS X.K) (Q := Q) P' (Eh.tr E1)
      | stuck => simp only [M.bind, e1, e2] at P'; exact P'
      | ok v h2 =>
        intro ρ2 H2 y E2 R2 r2
        simp only [M.bind, e1, e2] at P'
        have EE := (Eh.tr E1).tr E2
        have mD : D ∈ ρ2.ex := E2.sub D (E1.sub D List.mem_cons_self)
        have nD : D ∉ ρ2.l := fun m => R2.dj D m mD
        have nD1 : D ∉ ρ1.l := fun m => R1.dj D m (E1.sub D List.mem_cons_self)
        have hH : H2 D = some (.dK []) := E2.keptD (E1.keptD upd_same oD.1 List.mem_cons_self) nD1 (E1.sub D List.mem_cons_self)
        refine ⟨hH, ?_⟩
        by_cases c : isK q = true
        · rw [if_pos c] at P'
          obtain ⟨k, rfl, rfl⟩ := isK_rel c r1
          refine ⟨[(k, y)], rfl, by show 1 ≤ 15; decide, ?_⟩
          have hm : mergeK [] [(k, y)] = [(k, y)] := by simp [mergeK, putK]
          rw [hm]
          have sub : ∀ a ∈ ρ.ex, a ∈ ρ2.ex := fun a m => E2.sub a (E1.sub a (List.mem_cons_of_mem _ m))
          have R3 : RelH X.K (upd H2 D (.dK [(k, y)])) ρ2 h2 := R2.scribble mD (.dK hH) nD
          have r3 : RelS X.K (upd H2 D (.dK [(k, y)])) ρ2 v y := r2.scribble mD (.dK hH)
          have out : ∀ a, ρ2.out a → Rho.out ⟨ρ2.l ++ [D], ρ.ex⟩ a := fun a o => ⟨fun m => by
            rcases List.mem_append.mp m with z | z
            · exact o.1 z
            · rw [List.mem_singleton.mp z] at o; exact o.2 mD, fun m => o.2 (sub a m)⟩
          have RF := R3.promote (ex := ρ.ex) (so := .dic false [keyS k] [v]) mD sub oD.2 (.inl ⟨[(k, y)], upd_same, ⟨rfl, rfl⟩, r3.re (List.prefix_append _ _) out⟩)
          refine P' ⟨ρ2.l ++ [D], ρ.ex⟩ _ _ (Ext.at0 ⟨EE.pre.trans (List.prefix_append _ _), fun a m => ?_, EE.kp, fun b k h n => (EE.dk b k h n).imp id fun z => ⟨fun m => z.1 m, z.2⟩, EE.tbl, fun a m => .inl m, fun a m => m⟩ hD) RF (.ref (by show (ρ2.l ++ [D])[h2.length]? = some D; rw [← R2.len]; simp) .nil)
          rcases List.mem_append.mp m with z | z
          · exact EE.new a z
          · rw [List.mem_singleton.mp z]; exact .inr hD
        · rw [if_neg c] at P'; exact P'.elim⟩
end
omit [Tabl] in
/-- sorted of a dict with int keys -/
def sortedDF : List SV → SHp → Option SV := fun vs h => match vs with
  | [v] => match dicOf v h with
    | some (false, ks, _) => (intsOf ks).bind fun ns => if ns.length < 64 then some (.rls ((srt ns).map SV.int)) else none
    | _ => none
  | _ => none
theorem intsOf_keys : ∀ {kvs : List (Key × V)} {ns : List Int}, intsOf (kvs.map (fun p => keyS p.1)) = some ns → kvs.map (·.1) = ns.map Sum.inl
  | [], ns, e => by simp [intsOf] at e; subst e; rfl
  | (.inl i, w) :: kvs, ns, e => by
    simp [intsOf, keyS] at e
    obtain ⟨ms, e, rfl⟩ := e
    simp [intsOf_keys e]
  | (.inr i, w) :: kvs, ns, e => by simp [intsOf, keyS] at e
theorem b_sortedD {X : Cx} (hc : X.calm = true) : CallS X (.builtin "sorted") sortedDF := .of (L2.call_sortedDI hc) fun xs H Q ρ h vs z R r e k => by
  unfold sortedDF at e
  split at e
  · rename_i v
    obtain ⟨x, us, rfl, rx, r⟩ := RelL.inv r; cases r
    split at e
    · rename_i ks xs' q
      cases q2 : intsOf ks with
      | none => simp [q2] at e
      | some ns =>
        simp only [q2, Option.bind_some] at e
        by_cases c : ns.length < 64
        · rw [if_pos c] at e; cases e
          obtain ⟨a, rfl, hd⟩ := dic_rel R q rx
          rcases hd with ⟨kvs, hH, ⟨_, rfl⟩, rr⟩ | ⟨kvs, hH, ⟨z, _⟩, rr⟩
          · refine ⟨a, kvs, ns, rfl, hH, intsOf_keys q2, c, ?_⟩
            exact fun ns' t p s ht => by rw [srt_of p s]; exact k _ _ (.fresh ht) (R.fresh ht) (rel_rls R ht (rel_ints _))
          · cases z
        · rw [if_neg c] at e; cases e
    · cases e
  · cases e
end Sim

set_option Elab.async false
set_option linter.all false
set_option maxRecDepth 100000
set_option maxHeartbeats 4000000
namespace Sim
open PySem L2
variable [Tabl]
section
variable {X : Cx}
omit [Tabl] in
/-- powers -/
def CPw (i j : Int) : Prop := 0 ≤ j ∧ (Builtin.Int.intBits i : Int) * j ≤ 2 ^ 27
omit [Tabl] in
instance (i j : Int) : Decidable (CPw i j) := inferInstanceAs (Decidable (_ ∧ _))
omit [Tabl] in
def powF : SV → SV → SHp → Option SV := op2I fun i j => if CPw i j then some (.int (i ^ j.toNat)) else none
theorem o_pow : OpS X (binaryOp .Pow) powF := opI_of (g := fun i j => i ^ j.toNat) (opI fun _ _ _ _ _ _ _ hc q => PyProof.Rows.pow_int hc.1 hc.2 q)
omit [Tabl] in
def addF : SV → SV → SHp → Option SV := fun v w h => match v, w with
  | .int i, .int j => some (.int (i + j))
  | .tup a, .tup b => if a.length + b.length ≤ sizeLine then some (.tup (a ++ b)) else none
  | .str a, .str b => if a.length + b.length ≤ sizeLine then some (.str (a ++ b)) else none
  | .rls a, .rls b => if a.length + b.length ≤ sizeLine then some (.rls (a ++ b)) else none
  | _, _ => none
theorem OpS.imp {f : Value → Value → Sem Value} {g g' : SV → SV → SHp → Option SV} (h : OpS X f g) (i : ∀ v w h z, g' v w h = some z → g v w h = some z) : OpS X f g' :=
  fun pins s σ H x y v u Q I rx ry ⟨ρ, hh, a, b, z, R, ra, rb, e, k⟩ => h pins s σ H x y v u Q I rx ry ⟨ρ, hh, a, b, z, R, ra, rb, i _ _ _ _ e, k⟩
theorem o_add : OpS X (binaryOp .Add) addF := OpS.imp (.or o_addI (.or o_addTup (.or o_addStr o_addLst))) fun v w h z e => by
  unfold addF at e
  split at e
  · exact e
  · split at e
    · rename_i c; cases e; simp [addI, op2I, addTup, c]
    · cases e
  · split at e
    · rename_i c; cases e; simp [addI, op2I, addTup, addStr, c]
    · cases e
  · split at e
    · rename_i c; cases e; simp [addI, op2I, addTup, addStr, addLst, c]
    · cases e
  · cases e
omit [Tabl] in
def mulF : SV → SV → SHp → Option SV := fun v w h => match v, w with
  | .int i, .int j => if L2.CMulW i j then some (.int (i * j)) else none
  | .tup a, .int k => if a ≠ [] ∧ 2 ≤ k ∧ k ≤ 1000 ∧ a.length ≤ 1000 then some (.tup (List.replicate k.toNat a).flatten) else none
  | _, _ => none
theorem o_mul : OpS X (binaryOp .Mult) mulF := OpS.imp (.or o_mulI o_mulTup) fun v w h z e => by
  unfold mulF at e
  split at e
  · rename_i i j
    by_cases c : L2.CMulW i j
    · rw [if_pos c] at e; show (mulI (.int i) (.int j) h).or _ = _; unfold mulI op2I; simp only [if_pos c]; exact e
    · rw [if_neg c] at e; cases e
  · exact e
  · cases e
omit [Tabl] in
/-- -x -/
def negF : SV → Option SV := fun v => match v with
  | .int i => some (.int (-i))
  | _ => none
omit [Tabl] in
def eNeg (c : Env → M SV) : Env → M SV := fun e => M.bind (c e) fun v => M.of (negF v)
theorem e_neg {W : WX} {pos : Pos} {a : Expr} {ca : Env → M SV} (ha : SE X W a ca) : SE X W (.UnaryOp .USub a pos) (eNeg ca) :=
  ⟨imp_pe (pe_un un_neg ha.pe) fun σ H Q ⟨ρ, h, env, R, RE, P⟩ => ⟨ρ, h, env, R, RE, (Post.bind (rel := relS X.K) P).mono fun x H1 ⟨ρ1, v, h1, E1, R1, r1, P1⟩ => by
    cases v with
    | int i => cases r1; exact ⟨i, rfl, P1 ρ1 H1 _ .refl R1 (.int .nil)⟩
    | _ => exact P1.elim⟩⟩
omit [Tabl] in
/-- x in a list or a tuple of plain things -/
def flatS : SV → Bool
  | .non => true
  | .bl _ => true
  | .int _ => true
  | .str _ => true
  | _ => false
omit [Tabl] in
def eqS : SV → SV → Bool
  | .non, .non => true
  | .bl a, .bl b => a == b
  | .bl a, .int j => (if a then 1 else 0) == j
  | .int i, .bl b => i == (if b then 1 else 0)
  | .int i, .int j => i == j
  | .str a, .str b => a == b
  | _, _ => false
omit [Tabl] in
def inL (x : SV) (xs : List SV) : Bool := xs.any fun y => eqS y x
omit [Tabl] in
def inSeqF (neg : Bool) : SV → SV → SHp → Option SV := fun v w h => match seqOf w h with
  | some xs => if flatS v = true ∧ xs.all flatS = true then some (.bl (if neg then !inL v xs else inL v xs)) else none
  | none => none
theorem flat_rel {K : PySem.W.Frag} {H : Hp} {ρ : Rho} {v : SV} {x : V} (e : flatS v = true) (r : RelS K H ρ v x) : flatV x = true := by
  cases r <;> simp [flatS] at e <;> rfl
theorem eqS_rel {K : PySem.W.Frag} {H : Hp} {ρ : Rho} {v w : SV} {x y : V} (e : flatS v = true) (e' : flatS w = true) (r : RelS K H ρ v x) (r' : RelS K H ρ w y) : eqV x y = eqS v w := by
  cases r <;> simp [flatS] at e <;> cases r' <;> simp [flatS] at e' <;> rfl
theorem flats_rel {K : PySem.W.Frag} {H : Hp} {ρ : Rho} {v : SV} {x : V} (e : flatS v = true) (r : RelS K H ρ v x) : ∀ {xs : List SV} {us : List V}, xs.all flatS = true → RelL K H ρ xs us → us.all flatV = true ∧ inV x us = inL v xs
  | [], _, _, q => by rw [q.nil_inv]; exact ⟨rfl, rfl⟩
  | y :: xs, _, h, q => by
    obtain ⟨z, us, rfl, a, b⟩ := q.inv
    simp only [List.all_cons, Bool.and_eq_true] at h
    obtain ⟨h1, h2⟩ := flats_rel e r h.2 b
    refine ⟨by simp [flat_rel h.1 a, h1], ?_⟩
    unfold inV inL at h2 ⊢
    simp only [List.any_cons]
    rw [h2, eqS_rel h.1 e a r]
theorem in_seq_gen (neg : Bool) {op : CmpOp} (ho : OpR X (compareOp op) (rIn X.K neg)) : OpS X (compareOp op) (inSeqF neg) := .of ho fun x y H Q ρ h v w z R rv rw' e k => by
  unfold inSeqF at e
  split at e
  · rename_i xs q
    by_cases c : flatS v = true ∧ xs.all flatS = true
    · rw [if_pos c] at e; cases e
      obtain ⟨a, us, rfl, hq, rr⟩ := seq_rel R q rw'
      obtain ⟨h1, h2⟩ := flats_rel c.1 rv c.2 rr
      exact ⟨a, us, rfl, hq, flat_rel c.1 rv, h1, by rw [h2]; exact k H _ .refl R (.bl .nil)⟩
    · rw [if_neg c] at e; cases e
  · cases e
theorem o_inS : OpS X (compareOp .In) (inSeqF false) := in_seq_gen false op_in_seq
theorem o_notinS : OpS X (compareOp .NotIn) (inSeqF true) := in_seq_gen true op_notIn_seq
omit [Tabl] in
/-- isinstance by an own class -/
structure IsC (K : PySem.W.Frag) (C : Addr) : Prop where
  cl : Cls K C
  ha : PySem.W.findIn K (.ref C) "__class__" = some (some (.builtin "object.__class__"))
  hn : PySem.W.specialIn K (.builtin "object.__class__") "__get__" = some (some (.builtin "getset_descriptor.__get__"))
  ht : PySem.W.takesIn K (.builtin "object.__class__") = some true
  hm : PySem.W.mroIn K C (.type "object") = some true
  own : PySem.W.kitOne K (.ref C) (.ref C) = some true
omit [Tabl] in
def isCF (C : Addr) (ts : List String) : List SV → SHp → Option SV := fun vs h => match vs with
  | [v, .adr D] => if D = C then match v with
    | .obj E _ _ => if E = C then some (.bl true) else none
    | .ref n => match h[n]? with
      | some (.ins E _ _) => if E = C then some (.bl true) else none
      | _ => (tyN v h).bind fun t => if t ∈ ts then some (.bl false) else none
    | v => (tyN v h).bind fun t => if t ∈ ts then some (.bl false) else none
    else none
  | _ => none
theorem isC_ty {K : PySem.W.Frag} {H : Hp} {a C dx : Addr} {fs : List (Str × V)} (I : IsC K C) (e : H a = some (.ins C dx fs)) : L2.TyX K H (.ref a) (.ref C) := .base (.ins e I.cl I.ha I.hn I.ht I.hm)
theorem b_isC {C : Addr} {ts : List String} (I : IsC X.K C) (hts : ∀ t ∈ ts, PySem.W.kitOne X.K (.type t) (.ref C) = some false) : CallS X (.builtin "isinstance") (isCF C ts) := .of L2.call_isi fun xs H Q ρ h vs z R r e k => by
  unfold isCF at e
  split at e
  · rename_i v D
    obtain ⟨x, us, rfl, rx, r⟩ := RelL.inv r; obtain ⟨y, us, rfl, ry, r⟩ := RelL.inv r; cases r
    by_cases c : D = C
    · subst c
      rw [if_pos rfl] at e
      cases ry
      have other : ∀ {t : String}, tyN v h = some t → t ∈ ts → z = .bl false → L2.rIsi X.K [x, .ref D] H Q := fun {t} e1 e2 e3 => by
        subst e3
        exact ⟨x, _, _, _, false, rfl, .own D, tyN_rel R e1 rx, hts t e2, k H _ .refl R (.bl .nil)⟩
      have oth2 : (tyN v h).bind (fun t => if t ∈ ts then some (SV.bl false) else none) = some z → L2.rIsi X.K [x, .ref D] H Q := fun q => by
        cases e1 : tyN v h with
        | none => rw [e1] at q; cases q
        | some t =>
          rw [e1] at q
          have q' : (if t ∈ ts then some (SV.bl false) else none) = some z := q
          by_cases c2 : t ∈ ts
          · rw [if_pos c2] at q'; cases q'; exact other e1 c2 rfl
          · rw [if_neg c2] at q'; cases q'
      cases v with
      | obj E ns ys =>
        simp only at e
        by_cases c : E = D
        · subst c
          rw [if_pos rfl] at e; cases e
          obtain ⟨a, dx, fv, rfl, hH, _⟩ := ins_rel R rx (.inl rfl)
          exact ⟨_, _, _, _, true, rfl, .own E, isC_ty I hH, I.own, k H _ .refl R (.bl .nil)⟩
        · rw [if_neg c] at e; cases e
      | ref n =>
        simp only at e
        split at e
        · rename_i E ns ys q
          by_cases c : E = D
          · subst c
            rw [if_pos rfl] at e; cases e
            obtain ⟨a, dx, fv, rfl, hH, _⟩ := ins_rel R rx (.inr ⟨n, rfl, q⟩)
            exact ⟨_, _, _, _, true, rfl, .own E, isC_ty I hH, I.own, k H _ .refl R (.bl .nil)⟩
          · rw [if_neg c] at e; cases e
        · exact oth2 e
      | _ => exact oth2 e
    · rw [if_neg c] at e; cases e
  · cases e
omit [Tabl] in
/-- a, b, c = x, y, z -/
def cPar3 (i j l : Nat) (c : Env → M (List SV)) : ST' := fun e h => match c e h with
  | .ok [u, v, w] h' => .nx (((e.set i (some u)).set j (some v)).set l (some w)) h'
  | .ok _ _ => .stuck
  | .err c fs h' => .err c fs e h'
  | .stuck => .stuck
theorem s_par3 (i j l : Nat) {x y z : Str} {a b c : Expr} {cc : Env → M (List SV)} {W : WX} {px py pz pt pos : Pos} {kt k2 pt2} (hc : X.calm = true) (hN : X.N.Nodup) (ha : SA X W [a, b, c] cc) (hi : X.N[i]? = some x := by rfl) (hj : X.N[j]? = some y := by rfl) (hl : X.N[l]? = some z := by rfl) (hij : i ≠ j := by decide) (hil : i ≠ l := by decide) (hjl : j ≠ l := by decide)
    (hx : X.env.scope.names.lookup x = some .local := by rfl) (hy : X.env.scope.names.lookup y = some .local := by rfl) (hz : X.env.scope.names.lookup z = some .local := by rfl)
    (hw : swappedStores [.Tuple [.Name x px, .Name y py, .Name z pz] kt pt] (.Tuple [a, b, c] k2 pt2) X.env = pure (some [x, y, z]) := by rfl)
    (hs : swapsWithSole [.Tuple [.Name x px, .Name y py, .Name z pz] kt pt] (.Tuple [a, b, c] k2 pt2) pos.line X.env = pure false := by rfl) :
    SS X W (.Assign [.Tuple [.Name x px, .Name y py, .Name z pz] kt pt] (.Tuple [a, b, c] k2 pt2) pos) (cPar3 i j l cc) :=
  ⟨imp_ps (ps_par3 hc hN hi hj hl hij hil hjl hx hy hz ha.pa hw hs) fun D σ H ⟨ρ, h, env, R, RE, P⟩ => ⟨ρ, h, env, R, RE, by
    unfold cPar3 at P
    cases e : cc env h with
    | err cc fs h1 => rw [e] at P; exact fun ρ1 H1 cv d E R1 q => P ρ1 H1 σ cv d E R1 (RE.mono R.holds E) q
    | stuck => rw [e] at P; exact P
    | ok vs h1 =>
      rw [e] at P
      match vs, P with
      | [u, v, w], P =>
        intro ρ1 H1 x E R1 r
        obtain ⟨xu, us, rfl, r0, r⟩ := RelL.inv r
        obtain ⟨xv, us, rfl, r1, r2⟩ := RelL.inv r
        obtain ⟨xw, us, rfl, r2, r3⟩ := RelL.inv r2
        cases r3
        exact ⟨xu, xv, xw, rfl, P ρ1 H1 _ E R1 ((((RE.mono R.holds E).set r0).set r1).set r2)⟩⟩⟩
end
end Sim

set_option Elab.async false
set_option linter.all false
set_option maxRecDepth 100000
set_option maxHeartbeats 4000000
namespace Sim
open PySem L2
variable [Tabl]
omit [Tabl] in
/-- xs[i] = v -/
def cSetIx (o i c : Env → M SV) : ST' := fun e h => onV (c e) e h fun v h1 => onV (o e) e h1 fun w h2 => onV (i e) e h2 fun q h3 => match w, q with
  | .ref n, .int k => match h3[n]? with
    | some (.lst xs) => match ixN xs.length k with
      | some j => .nx e (h3.set n (.lst (xs.set j v)))
      | none => .stuck
    | _ => .stuck
  | _, _ => .stuck
theorem RelL.set {K : PySem.W.Frag} {H : Hp} {ρ : Rho} {s : SV} {y : V} (rs : RelS K H ρ s y) : ∀ {xs : List SV} {us : List V} (j : Nat), RelL K H ρ xs us → RelL K H ρ (xs.set j s) (us.set j y)
  | [], _, _, r => by rw [r.nil_inv]; exact .nil
  | x :: xs, _, 0, r => by obtain ⟨v, us, rfl, a, q⟩ := r.inv; exact .cons rs q
  | x :: xs, _, j + 1, r => by obtain ⟨v, us, rfl, a, q⟩ := r.inv; exact .cons a (RelL.set rs j q)
section
variable {X : Cx} {W : WX} {pos : Pos} {o i val : Expr} {co ci cv : Env → M SV}
theorem s_setIx {pos' : Pos} (ho : SE X W o co) (hi : SE X W i ci) (hv : SE X W val cv)
    (hs : swapsWithSole [.Subscript o i pos'] val pos.line X.env = pure false := by rfl) (hw : swappedStores [.Subscript o i pos'] val X.env = pure none := by rfl)
    (h1 : (assignEach [.Subscript o i pos'] X.env).map (·.2) = [assign (.Subscript o i pos') X.env] := by rfl) (hg : ∀ {to ti : TE} {t : TSet}, PE X o to → PE X i ti → PSet X t → PG X (.Subscript o i pos') (gSub to ti t) := by exact fun ho hi hs => pg_sub ho hi hs) :
    SS X W (.Assign [.Subscript o i pos'] val pos) (cSetIx co ci cv) :=
  ⟨imp_ps (ps_asg hv.pe (hg ho.pe hi.pe set_list) hs hw h1) fun D σ H ⟨ρ, h, env, R, RE, P⟩ => ⟨ρ, h, env, R, RE, (post_onV R RE P).mono fun v H1 ⟨ρ1, s, h1, E1, R1, RE1, r1, P1⟩ => ⟨ρ1, h1, env, R1, RE1, (post_onV R1 RE1 P1).mono fun x H2 ⟨ρ2, w, h2, E2, R2, RE2, r2, P2⟩ =>
    ⟨ρ2, h2, env, R2, RE2, (post_onV R2 RE2 P2).mono fun y H3 ⟨ρ3, q, h3, E3, R3, RE3, r3, P3⟩ => by
      have rs := (r1.mono R1.holds E2).mono R2.holds E3
      have rw' := r2.mono R2.holds E3
      cases w with
      | ref n =>
        cases q with
        | int k =>
          cases r3
          simp only at P3
          cases q3 : h3[n]? with
          | none => rw [q3] at P3; exact P3.elim
          | some ob =>
            rw [q3] at P3
            cases ob with
            | lst xs =>
              simp only at P3
              cases qj : ixN xs.length k with
              | none => rw [qj] at P3; exact P3.elim
              | some j =>
                rw [qj] at P3
                obtain ⟨a, ha, us, hu, ru⟩ := R3.ob n _ q3
                cases rw' with
                | ref hi' _ =>
                  rw [hi'] at ha; cases ha
                  have Ew : Ext ρ3 H3 ρ3 (upd H3 a (.lst (us.set j v))) := .write (List.mem_of_getElem? hi')
                  exact ⟨a, us, k, j, rfl, rfl, hu, by rw [← ru.length]; exact qj, P3 ρ3 _ _ Ew (R3.write hi' ⟨_, upd_same, (RelL.set rs j ru).mono R3.holds Ew⟩) (RE3.mono R3.holds Ew)⟩
            | dic _ _ _ => exact P3.elim
            | ins _ _ _ => exact P3.elim
        | _ => exact P3.elim
      | _ => exact P3.elim⟩⟩⟩⟩
end
end Sim

set_option Elab.async false
set_option linter.all false
set_option maxRecDepth 100000
set_option maxHeartbeats 4000000
namespace L2
open PySem PySem.Spec PyProof.Rows
/-- () * n, t * 1: the tuple itself -/
theorem tuple_mul1 (l : Addr) (items : Array Value) (n : Nat) (dd : Option Addr) (sl : Array (Option Value)) (x : Int) (u : Tok) (c0 : (decide (x < -(2 ^ 63)) || decide (x ≥ 2 ^ 63)) = false) (c1 : (items.isEmpty || x == 1) = true) :
    Meets (Builtin.«tuple.__mul__» ⟨[.ref l, .int x u], []⟩) (fun _ R s => s.heap.get? l = some { cls := .type "tuple", dict := dd, data := .seq items n, slots := sl } ∧
      R (.ok (.ret (Value.ref l))) s) :=
  .of_wp fun prog w A R s h => by
    obtain ⟨hp, g, d, tk, os⟩ := s
    obtain ⟨hl, h⟩ := h
    have f1 := AutoSeq1.idx_int
    wp_walk using wpAny_loadPart' hl
    repeat (first
      | (refine wpAny_ite_false (decide_eq_false (by rw [c0]; exact Bool.false_ne_true)) ?_; wp_walk using wpAny_loadPart' hl)
      | (refine wpAny_ite_true (decide_eq_true c1) ?_; wp_walk using wpAny_loadPart' hl))
    exact ⟨_, rfl, h⟩
def rRepT1 (K : PySem.W.Frag) : R2 := fun x y H Q => ∃ l k xs, x = .ref l ∧ y = .int k ∧ SqT K H l xs ∧ (xs = [] ∨ k = 1) ∧ -(2 ^ 63) ≤ k ∧ k < 2 ^ 63 ∧ Q (.ref l) H
theorem op_repT1 {X : Cx} : OpR X (binaryOp .Mult) (rRepT1 X.K) := by
  intro pins s σ H x y v u Q I rx ry h
  obtain ⟨l, k, xs, rfl, rfl, hT, he, h1, h2, q⟩ := h
  cases rx
  obtain ⟨t, rfl⟩ := ry
  obtain ⟨its, r, ⟨⟨cls, dd, data, sl⟩, ho, hc, n, hd⟩, hs⟩ := I.tuple hT
  simp only at hc hd
  subst hc hd
  have c0 : (decide (k < -(2 ^ 63)) || decide (k ≥ 2 ^ 63)) = false := by
    rw [decide_eq_false (by omega), decide_eq_false (by omega)] <;> rfl
  have c1 : (its.toArray.isEmpty || k == 1) = true := by
    rcases he with e | e
    · subst e
      cases r
      rfl
    · subst e; simp
  refine wpAny_binaryOp_repeat_ref (T := "tuple") (U := "int") (by decide) ⟨_, ho, rfl⟩ (fun s' => typeIs_int s' k t) noFill_tuple_mul F.fills_int_mul F.slot_int_rmul repeat_tuple F.slot_int_index.lookup
    (call_meets F.slot_int_rmul (typeIs_int s k t) F.entry_int_rmul (F.args_int_rmul_2 _ _) (int_rmul_tuple k t l its.toArray n dd sl)
      ⟨ho, rfl, ⟨_, ho, rfl⟩, call_meets F.slot_tuple_mul ⟨_, ho, rfl⟩ F.entry_tuple_mul (F.args_tuple_mul_2 _ _) (tuple_mul1 l its.toArray n dd sl k t c0 c1) ⟨ho, ?_⟩⟩)
  exact ⟨.ref l, H, I, rfl, q⟩
end L2
namespace Sim
open PySem L2
variable [Tabl]
omit [Tabl] in
def mulT : SV → SV → SHp → Option SV := fun v w h => match v, w with
  | .int i, .int j => if L2.CMulW i j then some (.int (i * j)) else none
  | .tup a, .int k => if 1 ≤ k ∧ k ≤ 1000 ∧ a.length ≤ 1000 then some (.tup (List.replicate k.toNat a).flatten) else none
  | _, _ => none
omit [Tabl] in
def mulTup1 : SV → SV → SHp → Option SV := fun v w _ => match v, w with
  | .tup a, .int k => if (a = [] ∨ k = 1) ∧ 1 ≤ k ∧ k ≤ 1000 then some (.tup a) else none
  | _, _ => none
section
variable {X : Cx}
theorem o_mulTup1 : OpS X (binaryOp .Mult) mulTup1 := .of op_repT1 fun x y H Q ρ h v w z R rv rw' e k => by
  unfold mulTup1 at e
  split at e
  · rename_i a n
    by_cases c : (a = [] ∨ n = 1) ∧ 1 ≤ n ∧ n ≤ 1000
    · rw [if_pos c] at e; cases e
      obtain ⟨p, us, rfl, h1, r1⟩ := tup_rel1 rv
      cases rw'
      refine ⟨p, n, us, rfl, rfl, .of h1, ?_, by omega, by omega, k H _ .refl R (.tup h1 r1 .nil)⟩
      rcases c.1 with e | e
      · subst e; exact .inl r1.nil_inv
      · exact .inr e
    · rw [if_neg c] at e; cases e
  · cases e
theorem rep_nil (n : Nat) : (List.replicate n ([] : List SV)).flatten = [] := by induction n with
  | zero => rfl
  | succ n ih => simp [List.replicate_succ, ih]
theorem o_mulT : OpS X (binaryOp .Mult) mulT := OpS.imp (.or o_mulI (.or o_mulTup o_mulTup1)) fun v w h z e => by
  unfold mulT at e
  split at e
  · rename_i i j
    by_cases c : L2.CMulW i j
    · rw [if_pos c] at e; cases e; simp [mulI, op2I, c]
    · rw [if_neg c] at e; cases e
  · rename_i a k
    by_cases c : 1 ≤ k ∧ k ≤ 1000 ∧ a.length ≤ 1000
    · rw [if_pos c] at e; cases e
      by_cases ha : a = []
      · subst ha
        simp [mulI, op2I, mulTup, mulTup1, c.1, c.2.1, rep_nil]
      · by_cases hk : k = 1
        · subst hk; simp [mulI, op2I, mulTup, mulTup1, List.replicate]
        · simp [mulI, op2I, mulTup, ha, show 2 ≤ k by omega, c.2.1, c.2.2]
    · rw [if_neg c] at e; cases e
  · cases e
end

/-! ### the end of a law -/
theorem kit_self {K : PySem.W.Frag} {c : Value} : PySem.W.kitOne K c c = some true := by
  unfold PySem.W.kitOne
  rw [if_pos (by simp)]
def spTrue (K : PySem.W.Frag) : Sp := fun vs H Q _ => ∃ (b : Addr) (ns : List Int), vs = [.ref b] ∧ SqL K H b (ns.map V.int) ∧ ns.length ≤ 63 ∧ NdefX.TabsN Tabl.T H ∧ ∀ H', Q (.bl true) H'
theorem spTrue_imp {K : PySem.W.Frag} {D : List SV → M SV} (h : ∀ ns : List Int, ns.length ≤ 63 → ∃ h', D [.frl (ns.map SV.int)] [] = .ok (.bl true) h') : ∀ vs H Q E, spTrue K vs H Q E → spS K 1 D vs H Q E := by
  rintro vs H Q E ⟨b, ns, rfl, hS, hl, hT, k⟩
  obtain ⟨h', e⟩ := h ns hl
  refine ⟨rfl, ⟨[], []⟩, [], [.frl (ns.map SV.int)], ⟨rfl, List.nodup_nil, fun i o q => (by simp at q), fun d hd => (by cases hd), hT, fun d hd => (by cases hd)⟩, .frl ?_ (rel_ints ns) .nil, ?_⟩
  · rcases hS with hS | hS
    · exact .inl ⟨hS, fun m => (by cases m), fun m => (by cases m)⟩
    · exact .inr hS
  · rw [e]
    intro ρ' H' x E' R' r
    cases r
    exact k H'
theorem noCX {P : Program} {w : World} {H : Hp} {s : Shared} {e : Value} {s' : Shared} (h : L2.CX P w [] H s (fun _ _ _ => False) e s') : False := by
  obtain ⟨_, _, _, _, _, _, _, _, _, _, _, _, z⟩ := h
  exact z.elim
end Sim

set_option Elab.async false
set_option linter.all false
set_option maxRecDepth 100000
set_option maxHeartbeats 4000000
namespace Sim
open PySem L2

/-! ### reckoning with mirrors -/
theorem gc_len {fz : Bool} {h h' : SHp} {v : SV} (c : h'.length ≤ h.length) : gc fz h v h' = .ok v h' := by unfold gc; rw [if_pos c]
theorem gc_same {fz : Bool} {h : SHp} {v : SV} : gc fz h v h = .ok v h := gc_len (Nat.le_refl _)
theorem gc_set {fz : Bool} {h : SHp} {v : SV} {i : Nat} {o : SO} : gc fz h v (h.set i o) = .ok v (h.set i o) := gc_len (by simp)
theorem gcOk_app (h g : SHp) : gcOk h (h ++ g) = true := by
  unfold gcOk
  refine List.all_eq_true.mpr fun i hi => ?_
  rw [List.getElem?_append_left (List.mem_range.mp hi)]
  simp
theorem gc_app {fz : Bool} {h g : SHp} {v : SV} (o : v.okr h.length = true) : gc fz h v (h ++ g) = .ok v h := by
  unfold gc
  by_cases c : (h ++ g).length ≤ h.length
  · have : g = [] := by
      rw [List.length_append] at c
      exact List.eq_nil_of_length_eq_zero (by omega)
    subst this
    rw [if_pos c, List.append_nil]
  · rw [if_neg c, if_pos (gcOk_app h g), if_pos o, List.take_left]
theorem gc_app_ref {h g : SHp} {k : Nat} {ob : SO} (hk : h.length ≤ k) (e : (h ++ g)[k]? = some ob) (o : ob.okr h.length = true) : gc true h (.ref k) (h ++ g) = .ok (froz ob) h := by
  have hl := (List.getElem?_eq_some_iff.mp e).1
  unfold gc
  rw [if_neg (by omega), if_pos (gcOk_app h g), if_neg (by simp [SV.okr]; omega)]
  simp only [e]
  rw [if_pos ⟨trivial, hk, o⟩, List.take_left]
/-- plain data holds no changing object -/
theorem okr_data (n : Nat) : ∀ (xs : List SV) {ds}, dataL xs = some ds → SV.okrs n xs = true
  | [], _, _ => by simp [SV.okrs]
  | x :: xs, _, e => by
    simp only [dataL] at e
    cases q : dataV x with
    | none => simp [q] at e
    | some d =>
      cases q2 : dataL xs with
      | none => simp [q, q2] at e
      | some ds =>
        have h2 := okr_data n xs q2
        have h1 : SV.okr n x = true := by
          cases x with
          | tup ys =>
            simp only [dataV] at q
            cases q3 : dataL ys with
            | none => simp [q3] at q
            | some _ => simp only [SV.okr]; exact okr_data n ys q3
          | rls ys =>
            simp only [dataV] at q
            cases q3 : dataL ys with
            | none => simp [q3] at q
            | some _ => simp only [SV.okr]; exact okr_data n ys q3
          | frl ys =>
            simp only [dataV] at q
            cases q3 : dataL ys with
            | none => simp [q3] at q
            | some _ => simp only [SV.okr]; exact okr_data n ys q3
          | non => rfl
          | bl _ => rfl
          | int _ => rfl
          | str _ => rfl
          | _ => simp [dataV] at q
        simp [SV.okrs, h1, h2]
theorem okrs_ints (n : Nat) : ∀ ns : List Int, SV.okrs n (ns.map SV.int) = true
  | [] => by simp [SV.okrs]
  | _ :: ns => by simp [SV.okrs, SV.okr, okrs_ints n ns]
theorem okrs_app (n : Nat) : ∀ xs ys : List SV, SV.okrs n (xs ++ ys) = (SV.okrs n xs && SV.okrs n ys)
  | [], ys => by simp [SV.okrs]
  | x :: xs, ys => by simp [SV.okrs, okrs_app n xs ys, Bool.and_assoc]
theorem okrs_iff (n : Nat) : ∀ xs : List SV, SV.okrs n xs = true ↔ ∀ x ∈ xs, x.okr n = true
  | [] => by simp [SV.okrs]
  | x :: xs => by simp [SV.okrs, okrs_iff n xs]

/-- a comprehension whose parts change nothing -/
theorem compL_pure {g : SV → Env → Option Env} {t : Env → M Bool} {el : Env → M SV} {e : Env} {h : SHp} (p : SV → Bool) (f : SV → SV) :
    ∀ (items acc : List SV), (∀ s ∈ items, ∃ e1, g s e = some e1 ∧ t e1 h = .ok (p s) h ∧ (p s = true → el e1 h = .ok (f s) h)) → acc.length + items.length ≤ sizeLine →
      compL g t el .no e items acc h = .ok (acc ++ (items.filter p).map f) h
  | [], acc, _, _ => by simp [compL, Gd.ok]
  | s :: ss, acc, H, hl => by
    obtain ⟨e1, h1, h2, h3⟩ := H s (by simp)
    have hl' : acc.length + (ss.length + 1) ≤ sizeLine := by simpa using hl
    unfold compL
    rw [if_pos (by rfl)]
    simp only [h1, M.bindN, h2]
    cases q : p s with
    | true =>
      simp only [if_true, M.bindN, h3 q]
      rw [if_pos (by omega), compL_pure p f ss (acc ++ [f s]) (fun s hs => H s (List.mem_cons_of_mem _ hs)) (by simp; omega)]
      simp [q]
    | false =>
      simp only [Bool.false_eq_true, if_false]
      rw [compL_pure p f ss acc (fun s hs => H s (List.mem_cons_of_mem _ hs)) (by omega)]
      simp [q]
theorem compL_map {g : SV → Env → Option Env} {el : Env → M SV} {e : Env} {h : SHp} (f : SV → SV) {items : List SV} (H : ∀ s ∈ items, ∃ e1, g s e = some e1 ∧ el e1 h = .ok (f s) h) (hl : items.length ≤ sizeLine) :
    compL g bTrue el .no e items [] h = .ok (items.map f) h := by
  have := compL_pure (t := bTrue) (fun _ => true) f items [] (fun s hs => let ⟨e1, a, b⟩ := H s hs; ⟨e1, a, rfl, fun _ => b⟩) (by simpa using hl)
  rw [this, List.nil_append]
  congr 2
  exact List.filter_eq_self.mpr fun _ _ => rfl
/-- a comprehension that changes the heap: Iv by what is made so far -/
theorem compL_inv {g : SV → Env → Option Env} {t : Env → M Bool} {el : Env → M SV} {gd : Gd} {e : Env} (Iv : Nat → List SV → SHp → Prop) (hg : ∀ i acc h, Iv i acc h → gd.ok h = true) :
    ∀ (items : List SV) (i : Nat) (acc : List SV) (h : SHp), Iv i acc h → acc.length + items.length ≤ sizeLine →
      (∀ j s acc h, items[j]? = some s → Iv (i + j) acc h → ∃ e1 k h1, g s e = some e1 ∧ t e1 h = .ok k h1 ∧ (k = false → Iv (i + j + 1) acc h1) ∧ (k = true → ∃ v h2, el e1 h1 = .ok v h2 ∧ Iv (i + j + 1) (acc ++ [v]) h2)) →
      ∃ acc' h', compL g t el gd e items acc h = .ok acc' h' ∧ Iv (i + items.length) acc' h'
  | [], i, acc, h, hI, _, _ => ⟨acc, h, by simp [compL, hg _ _ _ hI], hI⟩
  | s :: ss, i, acc, h, hI, hl, H => by
    have hl' : acc.length + (ss.length + 1) ≤ sizeLine := by simpa using hl
    obtain ⟨e1, k, h1, q1, q2, q3, q4⟩ := H 0 s acc h rfl hI
    have H' : ∀ j s acc h, ss[j]? = some s → Iv (i + 1 + j) acc h → ∃ e1 k h1, g s e = some e1 ∧ t e1 h = .ok k h1 ∧ (k = false → Iv (i + 1 + j + 1) acc h1) ∧ (k = true → ∃ v h2, el e1 h1 = .ok v h2 ∧ Iv (i + 1 + j + 1) (acc ++ [v]) h2) := fun j s acc h e hI => by
      have := H (j + 1) s acc h (by simpa using e) (by rw [show i + (j + 1) = i + 1 + j by omega]; exact hI)
      rw [show i + (j + 1) + 1 = i + 1 + j + 1 by omega] at this
      exact this
    unfold compL
    rw [if_pos (hg _ _ _ hI)]
    simp only [q1, M.bindN, q2]
    cases k with
    | true =>
      obtain ⟨v, h2, q5, q6⟩ := q4 rfl
      simp only [if_true, M.bindN, q5]
      rw [if_pos (by omega)]
      obtain ⟨acc', h', z1, z2⟩ := compL_inv Iv hg ss (i + 1) (acc ++ [v]) h2 q6 (by simp; omega) H'
      exact ⟨acc', h', z1, by rw [List.length_cons, show i + (ss.length + 1) = i + 1 + ss.length by omega]; exact z2⟩
    | false =>
      simp only [Bool.false_eq_true, if_false]
      obtain ⟨acc', h', z1, z2⟩ := compL_inv Iv hg ss (i + 1) acc h1 (q3 rfl) (by omega) H'
      exact ⟨acc', h', z1, by rw [List.length_cons, show i + (ss.length + 1) = i + 1 + ss.length by omega]; exact z2⟩
/-- a loop: Iv by the turn; a turn goes on, or leaves as Rv says -/
theorem forL_inv {g : SV → Env → Option Env} {body : ST'} {gd : Gd} (Iv : Nat → Env → SHp → Prop) (Rv : SR → Prop) (hg : ∀ i e h, Iv i e h → gd.ok h = true) :
    ∀ (items : List SV) (i : Nat) (e : Env) (h : SHp), Iv i e h →
      (∀ j s e h, items[j]? = some s → Iv (i + j) e h → ∃ e1, g s e = some e1 ∧ ((∃ e2 h2, (body e1 h = .nx e2 h2 ∨ body e1 h = .ct e2 h2) ∧ Iv (i + j + 1) e2 h2) ∨ (∃ v h2, body e1 h = .rt v h2 ∧ Rv (.rt v h2)) ∨ (∃ e2 h2, body e1 h = .bk e2 h2 ∧ Rv (.nx e2 h2)) ∨ ∃ c fs e2 h2, body e1 h = .err c fs e2 h2 ∧ Rv (.err c fs e2 h2))) →
      (∃ e' h', forL g body gd items e h = .nx e' h' ∧ Iv (i + items.length) e' h') ∨ Rv (forL g body gd items e h)
  | [], i, e, h, hI, _ => .inl ⟨e, h, by simp [forL, hg _ _ _ hI], hI⟩
  | s :: ss, i, e, h, hI, H => by
    obtain ⟨e1, q1, q2⟩ := H 0 s e h rfl hI
    have H' : ∀ j s e h, ss[j]? = some s → Iv (i + 1 + j) e h → ∃ e1, g s e = some e1 ∧ ((∃ e2 h2, (body e1 h = .nx e2 h2 ∨ body e1 h = .ct e2 h2) ∧ Iv (i + 1 + j + 1) e2 h2) ∨ (∃ v h2, body e1 h = .rt v h2 ∧ Rv (.rt v h2)) ∨ (∃ e2 h2, body e1 h = .bk e2 h2 ∧ Rv (.nx e2 h2)) ∨ ∃ c fs e2 h2, body e1 h = .err c fs e2 h2 ∧ Rv (.err c fs e2 h2)) := fun j s e h q hI => by
      have := H (j + 1) s e h (by simpa using q) (by rw [show i + (j + 1) = i + 1 + j by omega]; exact hI)
      rw [show i + (j + 1) + 1 = i + 1 + j + 1 by omega] at this
      exact this
    unfold forL
    rw [if_pos (hg _ _ _ hI)]
    simp only [q1]
    have fin : ∀ e2 h2, Iv (i + 1) e2 h2 → (∃ e' h', forL g body gd ss e2 h2 = .nx e' h' ∧ Iv (i + (s :: ss).length) e' h') ∨ Rv (forL g body gd ss e2 h2) := fun e2 h2 hI2 => by
      rw [List.length_cons, show i + (ss.length + 1) = i + 1 + ss.length by omega]
      exact forL_inv Iv Rv hg ss (i + 1) e2 h2 hI2 H'
    rcases q2 with ⟨e2, h2, q | q, hI2⟩ | ⟨v, h2, q, r⟩ | ⟨e2, h2, q, r⟩ | ⟨c, fs, e2, h2, q, r⟩
    · simp only [q]; exact fin e2 h2 hI2
    · simp only [q]; exact fin e2 h2 hI2
    · simp only [q]; exact .inr r
    · simp only [q]; exact .inr r
    · simp only [q]; exact .inr r
/-- a loop without a way out -/
theorem forL_nx {g : SV → Env → Option Env} {body : ST'} {gd : Gd} (Iv : Nat → Env → SHp → Prop) (hg : ∀ i e h, Iv i e h → gd.ok h = true) {items : List SV} {e : Env} {h : SHp} (hI : Iv 0 e h)
    (H : ∀ j s e h, items[j]? = some s → Iv j e h → ∃ e1 e2 h2, g s e = some e1 ∧ body e1 h = .nx e2 h2 ∧ Iv (j + 1) e2 h2) : ∃ e' h', forL g body gd items e h = .nx e' h' ∧ Iv items.length e' h' := by
  rcases forL_inv (body := body) Iv (fun _ => False) hg items 0 e h hI (fun j s e h q hI => by
    rw [Nat.zero_add] at hI ⊢
    obtain ⟨e1, e2, h2, a, b, c⟩ := H j s e h q hI
    exact ⟨e1, a, .inl ⟨e2, h2, .inl b, c⟩⟩) with q | q
  · rw [Nat.zero_add] at q; exact q
  · exact q.elim
/-- a while by a measure -/
theorem whL_inv {t : Env → M Bool} {b : ST'} (Iv : Env → SHp → Prop) (Rv : SR → Prop) (μ : Env → SHp → Nat)
    (H : ∀ e h, Iv e h → (∃ h1, t e h = .ok false h1 ∧ Rv (.nx e h1)) ∨ (∃ h1, t e h = .ok true h1 ∧ ((∃ e2 h2, (b e h1 = .nx e2 h2 ∨ b e h1 = .ct e2 h2) ∧ Iv e2 h2 ∧ μ e2 h2 < μ e h) ∨ (∃ v h2, b e h1 = .rt v h2 ∧ Rv (.rt v h2)) ∨ (∃ e2 h2, b e h1 = .bk e2 h2 ∧ Rv (.nx e2 h2))))) :
    ∀ (n : Nat) (e : Env) (h : SHp), Iv e h → μ e h < n → Rv (whL t b n e h)
  | 0, _, _, _, hn => by omega
  | n + 1, e, h, hI, hn => by
    unfold whL onB
    rcases H e h hI with ⟨h1, q, r⟩ | ⟨h1, q, r⟩
    · simp only [q, Bool.false_eq_true, if_false]; exact r
    · simp only [q, if_true]
      rcases r with ⟨e2, h2, z | z, hI2, lt⟩ | ⟨v, h2, z, r⟩ | ⟨e2, h2, z, r⟩
      · simp only [z]; exact whL_inv Iv Rv μ H n e2 h2 hI2 (by omega)
      · simp only [z]; exact whL_inv Iv Rv μ H n e2 h2 hI2 (by omega)
      · simp only [z]; exact r
      · simp only [z]; exact r
end Sim

set_option Elab.async false
set_option linter.all false
set_option maxRecDepth 100000
set_option maxHeartbeats 4000000
namespace Sim
open PySem L2
def Res.bd {α β : Type} : Res α → (α → SHp → Res β) → Res β
  | .ok v h, k => k v h
  | .err c fs h, _ => .err c fs h
  | .stuck, _ => .stuck
def Res.sr {α : Type} : Res α → Env → (α → SHp → SR) → SR
  | .ok v h, _, k => k v h
  | .err c fs h, e, _ => .err c fs e h
  | .stuck, _, _ => .stuck
def SR.sq : SR → ST' → SR
  | .nx e h, b => b e h
  | .rt v h, _ => .rt v h
  | .bk e h, _ => .bk e h
  | .ct e h, _ => .ct e h
  | .err c fs e h, _ => .err c fs e h
  | .stuck, _ => .stuck
/-- a bool's value -/
def bk {β : Type} (v : SV) (k : Bool → SHp → Res β) : SHp → Res β := fun h => match v with
  | .bl b => k b h
  | _ => .stuck
section
variable {α β : Type} {e : Env} {h : SHp} {a b c : Env → M SV} {t u : Env → M Bool} {as : Env → M (List SV)} {fz : Bool} {v w : SV} {g g' : SV → SV → SHp → Option SV} {s r : ST'} {D : List SV → M SV} {vs : List SV}
theorem bd_ok {v : α} {k : α → SHp → Res β} : Res.bd (.ok v h) k = k v h := rfl
theorem sr_ok {v : α} {k : α → SHp → SR} : Res.sr (.ok v h) e k = k v h := rfl
theorem sr_err {cc : Addr} {fs} {k : α → SHp → SR} : Res.sr (.err cc fs h) e k = .err cc fs e h := rfl
theorem bd_err {cc : Addr} {fs} {k : α → SHp → Res β} : Res.bd (.err cc fs h) k = .err cc fs h := rfl
theorem sq_nx {b : ST'} : SR.sq (.nx e h) b = b e h := rfl
theorem sq_rt {b : ST'} : SR.sq (.rt v h) b = .rt v h := rfl
theorem sq_err {b : ST'} {cc : Addr} {fs} : SR.sq (.err cc fs e h) b = .err cc fs e h := rfl
theorem bk_bl {x : Bool} {k : Bool → SHp → Res β} : bk (.bl x) k h = k x h := rfl
theorem of_some {v : α} : M.of (some v) h = .ok v h := rfl
theorem ev_ret {v : α} : M.ret v h = .ok v h := rfl
theorem ev_bind {m : M α} {k : α → M β} : M.bind m k h = Res.bd (m h) k := by unfold M.bind; cases m h <;> rfl
theorem ev_bindN {m : M α} {k : α → M β} {v : α} {h' : SHp} (q : m h = .ok v h') : M.bindN m k h = k v h' := by unfold M.bindN; rw [q]
theorem ev_var {i : Nat} : eVar i e h = M.of (e[i]?.join) h := rfl
theorem ev_C : eC v e h = .ok v h := rfl
theorem ev_op : eOp g a b e h = Res.bd (a e h) fun v h => Res.bd (b e h) fun w h => M.of (g v w h) h := by
  unfold eOp; rw [ev_bind]; cases a e h <;> first | rfl | (simp only [bd_ok, ev_bind])
theorem ev_call : eCall D as e h = Res.bd (as e h) D := ev_bind
theorem ev_cb {f : List SV → SHp → Option SV} : eCB f as e h = Res.bd (as e h) fun vs h => M.of (f vs h) h := ev_bind
theorem ev_tst {m : M SV} : tst m h = Res.bd (m h) fun v h => bk v (fun x h => .ok x h) h := by
  unfold tst; rw [ev_bind]; congr 1; funext v h; cases v <;> rfl
theorem ev_eTst : eTst a e h = Res.bd (a e h) fun v h => bk v (fun x h => .ok x h) h := ev_tst
theorem ev_and : eAnd a b e h = Res.bd (a e h) fun v h => bk v (fun x h => if x = true then b e h else .ok (.bl false) h) h := by
  unfold eAnd; rw [ev_bind, ev_tst]
  cases a e h with
  | ok v h' => simp only [bd_ok]; cases v <;> first | rfl | (rename_i x; cases x <;> rfl)
  | err _ _ _ => rfl
  | stuck => rfl
theorem ev_or : eOr a b e h = Res.bd (a e h) fun v h => bk v (fun x h => if x = true then .ok (.bl true) h else b e h) h := by
  unfold eOr; rw [ev_bind, ev_tst]
  cases a e h with
  | ok v h' => simp only [bd_ok]; cases v <;> first | rfl | (rename_i x; cases x <;> rfl)
  | err _ _ _ => rfl
  | stuck => rfl
theorem ev_not : eNot a e h = Res.bd (a e h) fun v h => bk v (fun x h => .ok (.bl (!x)) h) h := by
  unfold eNot; rw [ev_bind, ev_tst]
  cases a e h with
  | ok v h' => simp only [bd_ok]; cases v <;> rfl
  | err _ _ _ => rfl
  | stuck => rfl
theorem ev_eIf : eIf t a b e h = Res.bd (t e h) fun x h => if x = true then a e h else b e h := by
  unfold eIf; rw [ev_bind]; congr 1; funext x h; cases x <;> rfl
theorem ev_bAnd : bAnd t u e h = Res.bd (t e h) fun x h => if x = true then u e h else .ok false h := by
  unfold bAnd; rw [ev_bind]; congr 1; funext x h; cases x <;> rfl
theorem ev_bOr : bOr t u e h = Res.bd (t e h) fun x h => if x = true then .ok true h else u e h := by
  unfold bOr; rw [ev_bind]; congr 1; funext x h; cases x <;> rfl
theorem ev_bNot : bNot t e h = Res.bd (t e h) fun x h => .ok (!x) h := ev_bind
theorem ev_chain : eChain g g' a b c e h = Res.bd (a e h) fun v h => Res.bd (b e h) fun w h => Res.bd (M.of (g v w h) h) fun z h => bk z (fun x h => if x = true then Res.bd (c e h) fun u h => M.of (g' w u h) h else .ok (.bl false) h) h := by
  unfold eChain; rw [ev_bind]
  congr 1; funext v h; rw [ev_bind]; congr 1; funext w h; rw [ev_bind]; congr 1; funext z h
  cases z <;> first | rfl | (rename_i x; cases x <;> first | rfl | (simp only [bk, if_true]; rw [ev_bind]))
theorem ev_nil : aNil e h = .ok [] h := rfl
theorem ev_cons : aCons a as e h = Res.bd (a e h) fun v h => Res.bd (as e h) fun vs h => .ok (v :: vs) h := by
  unfold aCons; rw [ev_bind]; congr 1; funext v h; rw [ev_bind]; rfl
theorem ev_tup : eTup as e h = Res.bd (as e h) fun vs h => if vs.length ≤ sizeLine then .ok (.tup vs) h else .stuck := ev_bind
theorem ev_lst : eLst as e h = Res.bd (as e h) fun vs h => if vs.length ≤ sizeLine then .ok (.rls vs) h else .stuck := ev_bind
theorem ev_new : eNew as e h = Res.bd (as e h) fun vs h => if vs.length ≤ sizeLine then .ok (.ref h.length) (h ++ [.lst vs]) else .stuck := ev_bind
theorem ev_neg : eNeg a e h = Res.bd (a e h) fun v h => M.of (negF v) h := ev_bind
theorem ev_fld {C : Addr} {f : Str} : eFld C f a e h = Res.bd (a e h) fun v h => M.of (fldF C f v h) h := ev_bind
theorem ev_sl {lo hi : Env → M (Option Int)} : eSl a lo hi e h = Res.bd (a e h) fun v h => Res.bd (lo e h) fun l h => Res.bd (hi e h) fun u h => M.of (slF v l u h) h := by
  unfold eSl; rw [ev_bind]; congr 1; funext v h; rw [ev_bind]; congr 1; funext l h; rw [ev_bind]
theorem ev_oNo : oNo e h = .ok none h := rfl
def ik {β : Type} (v : SV) (k : Int → SHp → Res β) : SHp → Res β := fun h => match v with
  | .int b => k b h
  | _ => .stuck
theorem ik_int {x : Int} {k : Int → SHp → Res β} : ik (.int x) k h = k x h := rfl
theorem ev_oYes : oYes a e h = Res.bd (a e h) fun v h => ik v (fun i h => .ok (some i) h) h := by
  unfold oYes; rw [ev_bind]; congr 1; funext v h; cases v <;> rfl
theorem ev_bTrue : bTrue e h = .ok true h := rfl
theorem ev_lc {it : Env → M (List SV × Gd)} {own : List Nat} {gg : SV → Env → Option Env} : eLc it own gg t a e h = Res.bd (it e h) fun p h => Res.bd (compL gg t a p.2 (wipeE e own) p.1 [] h) fun xs h => .ok (.rls xs) h := by
  rw [eLc_old]; show M.bind _ _ h = _; rw [ev_bind]; congr 1; funext v h; rw [ev_bind]; rfl
theorem ev_it : cIt a e h = Res.bd (a e h) itF := ev_bind
theorem ev_rng1 : cRng1 a e h = Res.bd (a e h) fun v h => ik v (fun j h => if -(2 ^ 62) ≤ j ∧ j < 2 ^ 62 then .ok (rngL 0 j.toNat, .no) h else .stuck) h := by
  unfold cRng1; rw [ev_bind]; congr 1
theorem ev_enum : cEnum a e h = Res.bd (a e h) fun v h => Res.bd (seqF v h) fun xs h => .ok (enumL 0 xs, .no) h := by
  unfold cEnum; rw [ev_bind]; congr 1; funext v h; rw [ev_bind]; rfl
/-! statements -/
theorem ev_onV {m : M SV} {k : SV → SHp → SR} : onV m e h k = Res.sr (m h) e k := by unfold onV; cases m h <;> rfl
theorem ev_onB {m : M Bool} {k : Bool → SHp → SR} : onB m e h k = Res.sr (m h) e k := by unfold onB; cases m h <;> rfl
theorem ev_seq : cSeq s r e h = SR.sq (s e h) r := by unfold cSeq; cases s e h <;> rfl
theorem ev_cNil : cNil e h = .nx e h := rfl
theorem ev_set {i : Nat} : cSet i a e h = Res.sr (a e h) e fun v h => .nx (e.set i (some v)) h := ev_onV
theorem ev_expr : cExpr a e h = Res.sr (a e h) e fun _ h => .nx e h := ev_onV
theorem ev_rt : cRet a e h = Res.sr (a e h) e fun v h => .rt v h := ev_onV
theorem ev_rtN : cRetN e h = .rt .non h := rfl
theorem ev_if : cIf t s r e h = Res.sr (t e h) e fun x h => if x = true then s e h else r e h := ev_onB
theorem ev_for {it : Env → M (List SV × Gd)} {gg : SV → Env → Option Env} : cFor it gg s e h = Res.sr (it e h) e fun p h => forL gg s p.2 p.1 e h := by unfold cFor; cases it e h <;> rfl
def SR.gt (o : Option Env) (h : SHp) : SR := match o with
  | some e' => .nx e' h
  | none => .stuck
theorem ev_asg {gg : SV → Env → Option Env} : cAsg gg a e h = Res.sr (a e h) e fun v h => SR.gt (gg v e) h := by
  unfold cAsg; rw [ev_onV]; congr 1
theorem gt_some {e' : Env} : SR.gt (some e') h = .nx e' h := rfl
theorem ev_fn {n : Nat} {args : List SV} : fnD fz n s args h = fin fz h (s (args.map some ++ List.replicate (n - args.length) none) h) := rfl
theorem fin_rt {h' : SHp} : fin fz h (.rt v h') = gc fz h v h' := rfl
theorem fin_nx {h' : SHp} {e' : Env} : fin fz h (.nx e' h') = gc fz h .non h' := rfl
theorem fin_err {h' : SHp} {e' : Env} {cc : Addr} {fs} : fin fz h (.err cc fs e' h') = .err cc fs h' := rfl
end
end Sim

set_option Elab.async false
set_option linter.all false
set_option maxRecDepth 100000
set_option maxHeartbeats 4000000
namespace Sim
open PySem L2
variable [Tabl]
omit [Tabl] in
instance (i j : Int) : Decidable (L2.CShl i j) := inferInstanceAs (Decidable (_ ∧ _))
omit [Tabl] in
def shlF : SV → SV → SHp → Option SV := op2I fun i j => if L2.CShl i j then some (.int (i * 2 ^ j.toNat)) else none
theorem o_shl {X : Cx} : OpS X (binaryOp .LShift) shlF := opI_of (g := fun i j => i * 2 ^ j.toNat) op_shlW
end Sim

set_option Elab.async false
set_option linter.all false
set_option maxRecDepth 100000
set_option maxHeartbeats 4000000
namespace Sim
open PySem L2
def rgF (v : SV) : M (List SV × Gd) := fun h => match v with
  | .int j => if -(2 ^ 62) ≤ j ∧ j < 2 ^ 62 then .ok (rngL 0 j.toNat, .no) h else .stuck
  | _ => .stuck
theorem ev_rng {a : Sim.Env → M SV} {e : Sim.Env} {h : SHp} : cRng1 a e h = Res.bd (a e h) rgF := by
  unfold cRng1; rw [ev_bind]; rfl
theorem rgF_int {i : Int} {n : Nat} (hn : n ≤ 1000000) (q : i = n) (h : SHp) : rgF (.int i) h = .ok (rngL 0 n, .no) h := by
  have c1 : -2 ^ 62 ≤ i ∧ i < 2 ^ 62 := by omega
  show (if -2 ^ 62 ≤ i ∧ i < 2 ^ 62 then _ else _) = _
  rw [if_pos c1, q, Int.toNat_natCast]
section
variable {i j : Int} {h : SHp}
theorem lt_int : ltI (.int i) (.int j) h = some (.bl (decide (i < j))) := rfl
theorem le_int : leI (.int i) (.int j) h = some (.bl (decide (i ≤ j))) := rfl
theorem gt_int : gtI (.int i) (.int j) h = some (.bl (decide (j < i))) := rfl
theorem ge_int : geI (.int i) (.int j) h = some (.bl (decide (j ≤ i))) := rfl
theorem add_int : addF (.int i) (.int j) h = some (.int (i + j)) := rfl
theorem sub_int : subI (.int i) (.int j) h = some (.int (i - j)) := rfl
theorem gN_ap {n : Nat} {s : SV} {e : Env} : gN n s e = some (e.set n (some s)) := rfl
end
/-! ### plain values: what the small operations tell of them -/
theorem shp_int (k : Int) : SeqAt.shaped (.int k) = true := rfl
theorem shp_bl (k : Bool) : SeqAt.shaped (.bool k) = true := rfl
theorem eqF_int (b : Bool) (i j : Int) (h : SHp) : eqF b (.int i) (.int j) h = some (.bl (if b then !decide (i = j) else decide (i = j))) := by
  have e : (i == j) = decide (i = j) := by by_cases c : i = j <;> simp [c]
  simp [eqF, dataT, dataV, shp_int, PyData.eqv, e]
theorem eqF_bl (b : Bool) (i j : Bool) (h : SHp) : eqF b (.bl i) (.bl j) h = some (.bl (if b then !decide (i = j) else decide (i = j))) := by
  have e : (i == j) = decide (i = j) := by cases i <;> cases j <;> rfl
  simp [eqF, dataT, dataV, shp_bl, PyData.eqv, e]
theorem dataL_ints : ∀ xs : List Int, dataL (xs.map SV.int) = some (xs.map PyData.int)
  | [] => rfl
  | x :: xs => by simp [dataL, dataV, dataL_ints xs]
theorem eqv_ints : ∀ xs ys : List Int, PyData.eqvAll (xs.map PyData.int) (ys.map PyData.int) = decide (xs = ys)
  | [], [] => rfl
  | x :: xs, [] => rfl
  | [], y :: ys => rfl
  | x :: xs, y :: ys => by
    have e : (x == y) = decide (x = y) := by by_cases c : x = y <;> simp [c]
    simp only [List.map_cons, PyData.eqvAll, PyData.eqv, eqv_ints xs ys, e]
    by_cases c : x = y <;> by_cases d : xs = ys <;> simp [c, d]
theorem lay_ints : ∀ xs : List Int, PyData.canLayAll0 (xs.map PyData.int) = true
  | [] => rfl
  | x :: xs => by simp [PyData.canLayAll0, PyData.canLay0, lay_ints xs]
theorem dep_ints : ∀ xs : List Int, PyData.depthAll (xs.map PyData.int) ≤ 1
  | [] => by simp [PyData.depthAll]
  | x :: xs => by have := dep_ints xs; simp only [List.map_cons, PyData.depthAll, PyData.depth]; omega
theorem shp_tupI (xs : List Int) : SeqAt.shaped (.tuple (xs.map PyData.int)) = true := by
  have := dep_ints xs
  simp [SeqAt.shaped, PyData.canLay0, lay_ints, PyData.depth]; omega
theorem shp_lstI (xs : List Int) : SeqAt.shaped (.list (xs.map PyData.int)) = true := by
  have := dep_ints xs
  simp [SeqAt.shaped, PyData.canLay0, lay_ints, PyData.depth]; omega
theorem eqF_tupI (b : Bool) (xs ys : List Int) (h : SHp) : eqF b (.tup (xs.map SV.int)) (.tup (ys.map SV.int)) h = some (.bl (if b then !decide (xs = ys) else decide (xs = ys))) := by
  simp [eqF, dataT, dataV, dataL_ints, shp_tupI, PyData.eqv, eqv_ints]
theorem eqF_rlsI (b : Bool) (xs ys : List Int) (h : SHp) : eqF b (.rls (xs.map SV.int)) (.rls (ys.map SV.int)) h = some (.bl (if b then !decide (xs = ys) else decide (xs = ys))) := by
  simp [eqF, dataT, dataV, dataL_ints, shp_lstI, PyData.eqv, eqv_ints]
theorem bls_true : ∀ (k : Nat), blsOf (List.replicate k (SV.bl true)) = some (List.replicate k true)
  | 0 => rfl
  | k + 1 => by simp [List.replicate_succ, blsOf, bls_true k]
theorem bls_map {α : Type} (f : α → Bool) : ∀ xs : List α, blsOf (xs.map fun x => SV.bl (f x)) = some (xs.map f)
  | [] => rfl
  | x :: xs => by simp [blsOf, bls_map f xs]
theorem all_map {α : Type} (f : α → Bool) (xs : List α) (h : SHp) : allF [.rls (xs.map fun x => SV.bl (f x))] h = some (.bl (xs.all f)) := by
  simp only [allF, Sim.listOf, bls_map, Option.map_some, List.all_map]; rfl
theorem isi_tup (xs : List SV) (h : SHp) : isiF [.tup xs, .ty "tuple"] h = some (.bl true) := by simp [isiF, tyN, tyNames, isTy]
theorem isi_int (i : Int) (h : SHp) : isiF [.int i, .ty "int"] h = some (.bl true) := by simp [isiF, tyN, tyNames, isTy]
theorem isi_intb (i : Int) (h : SHp) : isiF [.int i, .ty "bool"] h = some (.bl false) := by simp [isiF, tyN, tyNames, isTy]
theorem len_tup (xs : List SV) (h : SHp) : lenF [.tup xs] h = some (.int xs.length) := by simp [lenF, seqOf]
theorem len_lst {xs : List SV} {v : SV} {h : SHp} (e : Sim.listOf v h = some xs) (nt : tupOf v = none) : lenF [v] h = some (.int xs.length) := by
  cases v <;> simp_all [lenF, seqOf, Sim.listOf, tupOf]
theorem tup_rls (xs : List SV) (h : SHp) : tupleF [.rls xs] h = some (.tup xs) := rfl
theorem it_tup (xs : List SV) (h : SHp) : itF (.tup xs) h = .ok (xs, .no) h := rfl
theorem it_rls (xs : List SV) (h : SHp) : itF (.rls xs) h = .ok (xs, .no) h := rfl
theorem it_frl (xs : List SV) (h : SHp) : itF (.frl xs) h = .ok (xs, .no) h := rfl
theorem ixS_tup {xs : List SV} {i : Int} {h : SHp} : ixF (.tup xs) (.int i) h = L2.atI xs i := rfl
theorem ixS_rls {xs : List SV} {i : Int} {h : SHp} : ixF (.rls xs) (.int i) h = L2.atI xs i := rfl
theorem atI_map {α : Type} (xs : List α) (f : α → SV) (i : Nat) (h : i < xs.length) : L2.atI (xs.map f) (i : Int) = some (f xs[i]) :=
  L2.atI_nat (by rw [List.getElem?_map, List.getElem?_eq_getElem h]; rfl)
theorem fld_obj {C D : Addr} {f : Str} {ns : List Str} {xs : List SV} {h : SHp} : fldF C f (.obj D ns xs) h = if D = C then getF f ns xs else none := rfl
theorem seq_tup (xs : List SV) (h : SHp) : seqF (.tup xs) h = .ok xs h := rfl
abbrev nv (i : Nat) : SV := .int (i : Nat)
abbrev natsV (r : List Nat) : SV := .tup (r.map nv)
def zs (r : List Nat) : List Int := r.map Int.ofNat
theorem nv_ints (r : List Nat) : r.map nv = (zs r).map SV.int := by simp [nv, zs]

/-! the heap of one's own objects -/
theorem hp_get0 {h g : SHp} {o : SO} : (h ++ o :: g)[h.length]? = some o := by simp
theorem hp_get1 {h g : SHp} {o p : SO} : (h ++ o :: p :: g)[h.length + 1]? = some p := by
  rw [List.getElem?_append_right (by omega), show h.length + 1 - h.length = 1 by omega]; rfl
theorem hp_set0 {h g : SHp} {o u : SO} : (h ++ o :: g).set h.length u = h ++ u :: g := by simp
theorem hp_set1 {h g : SHp} {o p u : SO} : (h ++ o :: p :: g).set (h.length + 1) u = h ++ o :: u :: g := by
  rw [List.set_append_right _ _ (by omega), show h.length + 1 - h.length = 1 by omega]; rfl
theorem hp_len1 {h : SHp} {o : SO} : (h ++ [o]).length = h.length + 1 := by simp
theorem hp_app {h : SHp} {o p : SO} : h ++ [o] ++ [p] = h ++ [o, p] := by simp
section
variable {e : Env} {h h1 h2 h3 : SHp} {o i c : Env → M SV} {v w q : SV} {n : Nat} {xs ys ks : List SV}
theorem app_ok (a : o e h = .ok (.ref n) h1) (b : h1[n]? = some (.lst ys)) (d : c e h1 = .ok v h2) (g : h2[n]? = some (.lst xs)) (l : xs.length < sizeLine) : cApp o c e h = .nx e (h2.set n (.lst (xs ++ [v]))) := by
  simp only [cApp, onV, a, b, d, g]; rw [if_pos l]
theorem put_ok (d : c e h = .ok v h1) (a : o e h1 = .ok (.ref n) h2) (b : i e h2 = .ok q h3) (g : h3[n]? = some (.dic false ks xs)) (k : isK q = true) (l : ks.length < sizeLine) :
    cPut o i c e h = .nx e (h3.set n (.dic false (putD ks xs q v).1 (putD ks xs q v).2)) := by
  simp only [cPut, onV, a, b, d, g]; rw [if_pos ⟨k, l⟩]
theorem six_ok {k : Int} {j : Nat} (d : c e h = .ok v h1) (a : o e h1 = .ok (.ref n) h2) (b : i e h2 = .ok (.int k) h3) (g : h3[n]? = some (.lst xs)) (l : ixN xs.length k = some j) : cSetIx o i c e h = .nx e (h3.set n (.lst (xs.set j v))) := by
  simp only [cSetIx, onV, a, b, d, g, l]
theorem dic_ok (a : i e h = .ok q h1) (b : c e h1 = .ok v h2) (k : isK q = true) : eDic1 i c e h = .ok (.ref h2.length) (h2 ++ [.dic false [q] [v]]) := by
  simp only [eDic1, M.bind, a, b]; rw [if_pos k]
theorem fldS_ok {C : Addr} {f : Str} {ns : List Str} (d : c e h = .ok v h1) (a : o e h1 = .ok (.ref n) h2) (g : h2[n]? = some (.ins C ns xs)) (l : ns.length < 1000) : cFld C f o c e h = .nx e (h2.set n (.ins C (setF f v ns xs).1 (setF f v ns xs).2)) := by
  simp only [cFld, onV, a, d, g]; rw [if_pos ⟨trivial, l⟩]
theorem make_ok {fz : Bool} {C : Addr} {D : List SV → M SV} {as : Env → M (List SV)} {vs : List SV} (a : as e h = .ok vs h1) (d : D (.ref h1.length :: vs) (h1 ++ [.ins C [] []]) = .ok .non h2) : eMake fz C D as e h = gc fz h1 (.ref h1.length) h2 := by
  simp only [eMake, M.bind, a, d]
theorem par_ok {as : Env → M (List SV)} {k j : Nat} (a : as e h = .ok [v, w] h1) : cPar k j as e h = .nx ((e.set k (some v)).set j (some w)) h1 := by simp only [cPar, a]
theorem par3_ok {as : Env → M (List SV)} {k j l : Nat} (a : as e h = .ok [v, w, q] h1) : cPar3 k j l as e h = .nx (((e.set k (some v)).set j (some w)).set l (some q)) h1 := by simp only [cPar3, a]
theorem zipT_ok {a b : Env → M SV} (p : a e h = .ok (.tup xs) h1) (r : b e h1 = .ok (.tup ys) h2) : cZipT a b e h = .ok (zipL xs ys, .no) h2 := by simp only [cZipT, M.bind, p, r]
def fS (C : Addr) (f : Str) (e : Env) (v w : SV) (h2 : SHp) : SR := match w with
  | .ref n => match h2[n]? with
    | some (.ins D ns xs) => if D = C ∧ ns.length < 1000 then .nx e (h2.set n (.ins D (setF f v ns xs).1 (setF f v ns xs).2)) else .stuck
    | _ => .stuck
  | _ => .stuck
theorem ev_fldS {C : Addr} {f : Str} : cFld C f o c e h = Res.sr (c e h) e fun v h => Res.sr (o e h) e fun w h => fS C f e v w h := by
  unfold cFld; rw [ev_onV]; congr 1; funext v h; rw [ev_onV]; rfl
theorem fS_hp0 {C : Addr} {f : Str} {ns : List Str} : fS C f e v (.ref h.length) (h ++ [.ins C ns xs]) = if ns.length < 1000 then .nx e (h ++ [.ins C (setF f v ns xs).1 (setF f v ns xs).2]) else .stuck := by
  simp only [fS, hp_get0, hp_set0, true_and]
theorem setF_nil {f : Str} : setF f v [] [] = ([f], [v]) := rfl
theorem setF_ne {f m : Str} {ns : List Str} {x : SV} (q : (m == f) = false) : setF f v (m :: ns) (x :: xs) = (m :: (setF f v ns xs).1, x :: (setF f v ns xs).2) := by
  simp only [setF]; rw [if_neg (by simpa using q)]
end
theorem cut_tail (xs : List SV) : cutL xs (some 1) none = xs.drop 1 := by
  unfold cutL
  rw [HT.sIx_none, show (some (1 : Int)) = some ((1 : Nat) : Int) from rfl, HT.sIx_nat]
  cases xs with
  | nil => simp
  | cons x xs => simp
def ascP (xs : List Nat) : List (Nat × Nat) := List.zip xs (xs.drop 1)
theorem zip_asc' : ∀ (xs : List Nat), zipL (xs.map nv) ((xs.map nv).drop 1) = (List.zip xs (xs.drop 1)).map fun p => .tup [nv p.1, nv p.2]
  | [] => rfl
  | [x] => rfl
  | x :: y :: xs => by
    have := zip_asc' (y :: xs)
    simp only [List.map_cons, List.drop_succ_cons, List.drop_zero, List.zip_cons_cons, zipL] at this ⊢
    rw [this]
theorem zip_asc (xs : List Nat) : zipL (xs.map nv) ((xs.map nv).drop 1) = (ascP xs).map fun p => .tup [nv p.1, nv p.2] := zip_asc' xs
theorem ascP_len (xs : List Nat) : (ascP xs).length ≤ xs.length := by unfold ascP; simp
theorem asc_len0 : ∀ {xs : List Nat} {lo n : Nat}, xs.Pairwise (· < ·) → (∀ x ∈ xs, lo ≤ x ∧ x < n) → xs.length ≤ n - lo
  | [], _, _, _, _ => by simp
  | x :: xs, lo, n, hs, hx => by
    have h1 := List.pairwise_cons.mp hs
    have h2 := hx x (by simp)
    have := asc_len0 (lo := x + 1) (n := n) h1.2 (fun y hy => ⟨h1.1 y hy, (hx y (by simp [hy])).2⟩)
    simp only [List.length_cons]; omega
theorem asc_len {xs : List Nat} {n : Nat} (hs : xs.Pairwise (· < ·)) (hx : ∀ x ∈ xs, x < n) : xs.length ≤ n := by
  have := asc_len0 (lo := 0) (n := n) hs (fun x h => ⟨by omega, hx x h⟩)
  omega
theorem asc_zip {xs : List Nat} (h : xs.Pairwise (· < ·)) : ∀ p ∈ ascP xs, p.1 < p.2 := by
  unfold ascP
  induction xs with
  | nil => intro p hp; simp at hp
  | cons x xs ih =>
    cases xs with
    | nil => intro p hp; simp at hp
    | cons y xs =>
      intro p hp
      simp only [List.drop_succ_cons, List.drop_zero, List.zip_cons_cons, List.mem_cons] at hp
      rcases hp with rfl | hp
      · exact (List.pairwise_cons.mp h).1 y (by simp)
      · exact ih (List.pairwise_cons.mp h).2 p (by simpa using hp)
section
variable {g : SV → Env → Option Env} {body : ST'} {gd : Gd} {s v : SV} {ss : List SV} {e e1 e2 : Env} {h h1 h2 : SHp} {t : Env → M Bool} {n : Nat}
theorem forL_nil (k : gd.ok h = true) : forL g body gd [] e h = .nx e h := by simp only [forL, k, if_true]
theorem forL_cons (k : gd.ok h = true) (q : g s e = some e1) (b : body e1 h = .nx e2 h2) : forL g body gd (s :: ss) e h = forL g body gd ss e2 h2 := by
  simp only [forL, k, if_true, q, b]
theorem forL_rt (k : gd.ok h = true) (q : g s e = some e1) (b : body e1 h = .rt v h2) : forL g body gd (s :: ss) e h = .rt v h2 := by
  simp only [forL, k, if_true, q, b]
theorem whL_ff (q : t e h = .ok false h1) : whL t body (n + 1) e h = .nx e h1 := by simp only [whL, onB, q, Bool.false_eq_true, if_false]
theorem whL_tt (q : t e h = .ok true h1) (b : body e h1 = .nx e2 h2) : whL t body (n + 1) e h = whL t body n e2 h2 := by simp only [whL, onB, q, if_true, b]
theorem whL_rt (q : t e h = .ok true h1) (b : body e h1 = .rt v h2) : whL t body (n + 1) e h = .rt v h2 := by simp only [whL, onB, q, if_true, b]
end
theorem getD_lt {α : Type} {xs : List α} {i : Nat} {d : α} (h : i < xs.length) : xs.getD i d = xs[i] := by
  rw [List.getD_eq_getElem?_getD, List.getElem?_eq_getElem h]; rfl
theorem okr_nv (n i : Nat) : (nv i).okr n = true := by simp [SV.okr]
theorem okr_nats (n : Nat) (xs : List Nat) : (natsV xs).okr n = true := by simp [SV.okr, okrs_iff]
end Sim

set_option Elab.async false
set_option linter.all false
set_option maxRecDepth 100000
set_option maxHeartbeats 4000000
namespace Sim
open PySem L2
/-! ### dicts whose keys are numbers -/
theorem findD_none {x : Nat} : ∀ {ks : List Nat} {xs : List SV}, x ∉ ks → findD (ks.map nv) xs (nv x) = none
  | [], _, _ => rfl
  | k :: ks, [], _ => rfl
  | k :: ks, y :: xs, h => by
    simp only [List.mem_cons, not_or] at h
    simp only [List.map_cons, findD]
    rw [if_neg (by intro e; cases e; simp_all [nv]), findD_none h.2]
theorem findD_at : ∀ {ks : List Nat} {xs : List SV} {j : Nat}, ks.Nodup → ∀ (hj : j < ks.length) (hl : j < xs.length), findD (ks.map nv) xs (nv ks[j]) = some xs[j]
  | [], _, _, _, hj, _ => by simp at hj
  | k :: ks, [], _, _, _, hl => by simp at hl
  | k :: ks, y :: xs, 0, _, _, _ => by simp [findD]
  | k :: ks, y :: xs, j + 1, hn, hj, hl => by
    have hn' := List.nodup_cons.mp hn
    simp only [List.map_cons, findD, List.getElem_cons_succ]
    rw [if_neg (by
      intro e
      have e2 : (k : Int) = (ks[j]'(by simpa using hj) : Nat) := SV.int.inj e
      have e3 : k = ks[j]'(by simpa using hj) := by omega
      exact hn'.1 (e3 ▸ List.getElem_mem _))]
    exact findD_at hn'.2 (by simpa using hj) (by simpa using hl)
theorem putD_new {x : Nat} {v : SV} {ks : List Nat} {xs : List SV} (h : x ∉ ks) : putD (ks.map nv) xs (nv x) v = ((ks ++ [x]).map nv, xs ++ [v]) := by
  unfold putD
  rw [if_neg, List.map_append]; · rfl
  · intro e
    obtain ⟨y, hy, q⟩ := List.any_eq_true.mp e
    obtain ⟨z, hz, rfl⟩ := List.mem_map.mp hy
    have e1 : (z : Int) = (x : Nat) := SV.int.inj (of_decide_eq_true q)
    have e2 : z = x := by omega
    exact h (e2 ▸ hz)
theorem nodup_len : ∀ (n : Nat) (xs : List Nat), xs.Nodup → (∀ x ∈ xs, x < n) → xs.length ≤ n
  | 0, xs, _, h => by
    cases xs with
    | nil => simp
    | cons x xs => exact absurd (h x (by simp)) (by omega)
  | n + 1, xs, hn, h => by
    by_cases c : n ∈ xs
    · have h1 := nodup_len n (xs.erase n) (hn.erase n) (fun x hx => by
        have h2 := (hn.mem_erase_iff).mp hx
        have h3 := h x h2.2
        have := h2.1
        omega)
      rw [List.length_erase_of_mem c] at h1
      omega
    · have := nodup_len n xs hn (fun x hx => by
        have h3 := h x hx
        have : x ≠ n := fun e => c (e ▸ hx)
        omega)
      omega
/-! ### a map, done again and again from 0 -/
def itr (f : Nat → Nat) : Nat → Nat
  | 0 => 0
  | k + 1 => f (itr f k)
def itrs (f : Nat → Nat) (m : Nat) : List Nat := (List.range m).map (itr f)
theorem itrs_len (f : Nat → Nat) (m : Nat) : (itrs f m).length = m := by simp [itrs]
theorem itrs_get (f : Nat → Nat) (m j : Nat) (h : j < (itrs f m).length) : (itrs f m)[j] = itr f j := by simp [itrs]
theorem itrs_succ (f : Nat → Nat) (m : Nat) : itrs f (m + 1) = itrs f m ++ [itr f m] := by simp [itrs, List.range_succ]
theorem mem_itrs {f : Nat → Nat} {m x : Nat} : x ∈ itrs f m ↔ ∃ j, j < m ∧ itr f j = x := by simp [itrs]
theorem itr_add {f : Nat → Nat} {m p : Nat} (h : itr f (m + p) = itr f m) : ∀ d, itr f (m + d + p) = itr f (m + d)
  | 0 => h
  | d + 1 => by
    have := itr_add h d
    rw [show m + (d + 1) + p = (m + d + p) + 1 by omega, show m + (d + 1) = (m + d) + 1 by omega]
    simp only [itr, this]
theorem itr_mul {f : Nat → Nat} {m p : Nat} (h : itr f (m + p) = itr f m) : ∀ q d, itr f (m + d + p * q) = itr f (m + d)
  | 0, d => by simp
  | q + 1, d => by
    have := itr_mul h q d
    rw [show m + d + p * (q + 1) = m + (d + p * q) + p by rw [Nat.mul_add]; omega, itr_add h, show m + (d + p * q) = m + d + p * q by omega, this]
theorem itr_per {f : Nat → Nat} {m p t : Nat} (h : itr f (m + p) = itr f m) (ht : m ≤ t) : itr f (m + (t - m) % p) = itr f t := by
  have := itr_mul h ((t - m) / p) ((t - m) % p)
  have e : (t - m) % p + p * ((t - m) / p) = t - m := Nat.mod_add_div _ _
  rw [show m + (t - m) % p + p * ((t - m) / p) = t by omega] at this
  exact this.symm
theorem itrs_nodup_le {f : Nat → Nat} {n m : Nat} (h0 : 0 < n) (hf : ∀ s, s < n → f s < n) (hn : (itrs f m).Nodup) : m ≤ n := by
  have lt : ∀ k, itr f k < n := fun k => by
    induction k with
    | zero => exact h0
    | succ k ih => exact hf _ ih
  have := nodup_len n (itrs f m) hn (fun x hx => by
    obtain ⟨j, _, rfl⟩ := mem_itrs.mp hx
    exact lt j)
  rw [itrs_len] at this
  exact this
theorem itr_lt {f : Nat → Nat} {n : Nat} (h0 : 0 < n) (hf : ∀ s, s < n → f s < n) : ∀ k, itr f k < n
  | 0 => h0
  | k + 1 => hf _ (itr_lt h0 hf k)
theorem nodup_app {xs : List Nat} {x : Nat} (hn : xs.Nodup) (h : x ∉ xs) : (xs ++ [x]).Nodup := by
  rw [List.nodup_append]
  refine ⟨hn, by simp, ?_⟩
  intro a ha b hb e
  simp at hb; subst hb; subst e; exact h ha
theorem eqS_nv (i j : Nat) : eqS (nv i) (nv j) = decide (i = j) := by
  by_cases c : i = j
  · subst c; simp [eqS]
  · have : ¬ ((i : Int) = j) := by omega
    simp [eqS, c, this]
theorem inS_nats (s : Nat) (xs : List Nat) (h : SHp) : inSeqF false (nv s) (natsV xs) h = some (.bl (decide (s ∈ xs))) := by
  have q : ∀ xs : List Nat, (xs.map nv).all flatS = true := fun xs => by simp [flatS]
  have q2 : ∀ xs : List Nat, inL (nv s) (xs.map nv) = decide (s ∈ xs) := fun xs => by
    induction xs with
    | nil => rfl
    | cons x xs ih =>
      unfold inL at ih ⊢
      simp only [List.map_cons, List.any_cons, ih, eqS_nv]
      by_cases c : x = s
      · subst c; simp
      · have c' : ¬ s = x := fun e => c e.symm
        by_cases d : s ∈ xs <;> simp [c, d, c']
  unfold inSeqF
  simp only [seqOf]
  rw [if_pos ⟨rfl, q xs⟩, q2 xs]; rfl
section
variable {h : SHp} {xs ys ks vs : List SV} {i : Int} {o : SO} {q : SV} {g : SHp}
theorem ixr0 : ixF (.ref h.length) (.int i) (h ++ .lst xs :: g) = L2.atI xs i := by
  simp only [ixF, seqOf, Sim.listOf, hp_get0]
theorem lenr0 : lenF [.ref h.length] (h ++ .lst xs :: g) = some (.int xs.length) := by
  simp only [lenF, seqOf, Sim.listOf, hp_get0]
theorem inr1 {b : Bool} (k : isK q = true) : inF b q (.ref (h.length + 1)) (h ++ o :: .dic false ks vs :: g) = some (.bl (if b then !(findD ks vs q).isSome else (findD ks vs q).isSome)) := by
  simp only [inF, dicOf, hp_get1, keyOk, Bool.false_eq_true, if_false, k, if_true]
theorem dgr1 (k : isK q = true) : dgF (.ref (h.length + 1)) q (h ++ o :: .dic false ks vs :: g) = findD ks vs q := by
  simp only [dgF, dicOf, hp_get1, keyOk, Bool.false_eq_true, if_false, k, if_true]
end
theorem neg_int {i : Int} : negF (.int i) = some (.int (-i)) := rfl
theorem mod_nv {i j : Nat} {h : SHp} (p : 0 < j) : modI (nv i) (nv j) h = some (nv (i % j)) := by
  simp only [modI, op2I]
  rw [if_pos (by omega), Int.fmod_eq_emod_of_nonneg _ (by omega)]
  rfl
theorem sub_nv {i j : Nat} (p : j ≤ i) : SV.int ((i : Int) - (j : Nat)) = nv (i - j) := by simp only [nv]; congr 1; omega
theorem add_nv {i j : Nat} : SV.int ((i : Int) + (j : Nat)) = nv (i + j) := by simp [nv]
def pS (e : Env) (v w q : SV) (h3 : SHp) : SR := match w with
  | .ref n => match h3[n]? with
    | some (.dic t ks xs) => if keyOk t q = true ∧ ks.length < sizeLine then .nx e (h3.set n (.dic t (putD ks xs q v).1 (putD ks xs q v).2)) else .stuck
    | _ => .stuck
  | _ => .stuck
def apG (w : SV) (h1 : SHp) (X : SR) : SR := match w with
  | .ref n => match h1[n]? with
    | some (.lst _) => X
    | _ => .stuck
  | _ => .stuck
def aS (e : Env) (v w : SV) (h2 : SHp) : SR := match w with
  | .ref n => match h2[n]? with
    | some (.lst xs) => if xs.length < sizeLine then .nx e (h2.set n (.lst (xs ++ [v]))) else .stuck
    | _ => .stuck
  | _ => .stuck
section
variable {e : Env} {h : SHp} {o i c : Env → M SV} {v w q : SV} {p : SO} {g : SHp} {ks xs : List SV} {X : SR}
theorem ev_put : cPut o i c e h = Res.sr (c e h) e fun v h => Res.sr (o e h) e fun w h => Res.sr (i e h) e fun q h => pS e v w q h := by
  unfold cPut; rw [ev_onV]; congr 1; funext v h; rw [ev_onV]; congr 1; funext w h; rw [ev_onV]; rfl
theorem pS_1 (k : isK q = true) : pS e v (.ref (h.length + 1)) q (h ++ p :: .dic false ks xs :: g) = if ks.length < sizeLine then .nx e (h ++ p :: .dic false (putD ks xs q v).1 (putD ks xs q v).2 :: g) else .stuck := by
  simp only [pS, hp_get1, hp_set1, keyOk, k, Bool.false_eq_true, if_false, true_and]
theorem pS_0 (k : isK q = true) : pS e v (.ref h.length) q (h ++ .dic false ks xs :: g) = if ks.length < sizeLine then .nx e (h ++ .dic false (putD ks xs q v).1 (putD ks xs q v).2 :: g) else .stuck := by
  simp only [pS, hp_get0, hp_set0, keyOk, k, Bool.false_eq_true, if_false, true_and]
theorem ev_app : cApp o c e h = Res.sr (o e h) e fun w h1 => apG w h1 (Res.sr (c e h1) e fun v h2 => aS e v w h2) := by
  unfold cApp; rw [ev_onV]; congr 1; funext w h
  unfold apG
  cases w <;> first | rfl | skip
  rename_i n
  simp only
  cases h[n]? with
  | none => rfl
  | some ob => cases ob <;> first | rfl | skip
               simp only [ev_onV]; rfl
theorem apG_0 : apG (.ref h.length) (h ++ .lst xs :: g) X = X := by simp only [apG, hp_get0]
theorem apG_1 : apG (.ref (h.length + 1)) (h ++ p :: .lst xs :: g) X = X := by simp only [apG, hp_get1]
theorem aS_0 : aS e v (.ref h.length) (h ++ .lst xs :: g) = if xs.length < sizeLine then .nx e (h ++ .lst (xs ++ [v]) :: g) else .stuck := by
  simp only [aS, hp_get0, hp_set0]
theorem aS_1 : aS e v (.ref (h.length + 1)) (h ++ p :: .lst xs :: g) = if xs.length < sizeLine then .nx e (h ++ p :: .lst (xs ++ [v]) :: g) else .stuck := by
  simp only [aS, hp_get1, hp_set1]
end
theorem int_int {i : Int} {h : SHp} : intF [.int i] h = some (.int i) := rfl
end Sim

set_option Elab.async false
set_option linter.all false
set_option maxRecDepth 100000
set_option maxHeartbeats 4000000
namespace Sim
open PySem L2
variable [Tabl]

/-! ### type(x), is -/
omit [Tabl] in
def typF : List SV → SHp → Option SV := fun vs h => match vs with
  | [.rdc true _ _] => none
  | [.ref n] => match h[n]? with
    | some (.lst _) => some (.ty "list")
    | some (.dic false _ _) => some (.ty "dict")
    | _ => none
  | [v] => (tyN v h).map .ty
  | _ => none
omit [Tabl] in
/-- a value's type, also of a locked dict -/
inductive TyF (K : PySem.W.Frag) (H : Hp) : V → String → Prop where
  | base {x : V} {t : String} (h : L2.TyB K H x t) : TyF K H x t
  | fK {a : Addr} {o : Obj} {kvs : List (Key × V)} (h : H a = some (.frz o (.dK kvs))) : TyF K H (.ref a) "dict"
theorem TyF.is {X : Cx} {pins : List (Addr × Obj)} {σ : L2.St} {H : Hp} {s : Shared} {x : V} {u : Value} {T : String} (I : Inv X pins σ H s) (rx : L2.RelV x u) (t : TyF X.K H x T) : s.TypeIs u T := by
  cases t with
  | base t => exact t.is I rx
  | @fK a o kvs h =>
    obtain rfl : u = Value.ref a := rx
    obtain ⟨_, _, _, _, _, _, _, _, _, hm⟩ := I.frzK h
    exact hm.dictOf.typeIs
theorem TyF.nb {K : PySem.W.Frag} {H : Hp} {x : V} {T : String} (t : TyF K H x T) : (Value.type T == Value.type "builtin_function_or_method") = false := by
  cases t with
  | base t => exact t.nb
  | fK h => decide +kernel
omit [Tabl] in
def rTypF (K : PySem.W.Frag) : List V → Hp → VK → Prop := fun xs H Q => ∃ x T, xs = [x] ∧ TyF K H x T ∧ Q (.ty T) H
theorem call_typeF {X : Cx} : CallR X (.type "type") (rTypF X.K) := by
  intro pins s σ H xs us Q I r h
  obtain ⟨x, T, rfl, t, q⟩ := h
  obtain ⟨u, rfl, rx⟩ := vals1 r
  exact call_type_of (t.is I rx) t.nb ⟨.ty T, H, I, rfl, q⟩
theorem typ_rel {K : PySem.W.Frag} {H : Hp} {ρ : Rho} {h : SHp} {v z : SV} {x : V} (R : RelH K H ρ h) (e : typF [v] h = some z) (r : RelS K H ρ v x) : ∃ t, z = .ty t ∧ TyF K H x t := by
  cases v with
  | non => simp [typF, tyN] at e; subst e; cases r; exact ⟨_, rfl, .base (.non)⟩
  | bl b => simp [typF, tyN] at e; subst e; cases r; exact ⟨_, rfl, .base (.bl _)⟩
  | int b => simp [typF, tyN] at e; subst e; cases r; exact ⟨_, rfl, .base (.int _)⟩
  | str b => simp [typF, tyN] at e; subst e; cases r; exact ⟨_, rfl, .base (.str _)⟩
  | tup xs =>
    simp [typF, tyN] at e; subst e
    obtain ⟨a, us, rfl, hq, _⟩ := tup_rel r
    exact ⟨_, rfl, .base (.tup hq)⟩
  | rls xs =>
    simp [typF, tyN] at e; subst e
    obtain ⟨a, us, rfl, hq, _⟩ := list_rel R (v := .rls xs) rfl r
    exact ⟨_, rfl, .base (.lst hq)⟩
  | frl xs =>
    simp [typF, tyN] at e; subst e
    obtain ⟨a, us, rfl, hq, _⟩ := list_rel R (v := .frl xs) rfl r
    exact ⟨_, rfl, .base (.lst hq)⟩
  | rdc t ks xs =>
    cases t with
    | true => simp [typF] at e
    | false =>
      simp [typF, tyN] at e; subst e
      cases r with
      | rdK h _ _ _ _ =>
        rcases h with h | ⟨o, h⟩
        · exact ⟨_, rfl, .base (.dK h)⟩
        · exact ⟨_, rfl, .fK h⟩
  | ref n =>
    simp only [typF] at e
    cases q : h[n]? with
    | none => simp [q] at e
    | some o =>
      obtain ⟨a, ha, ob⟩ := R.ob n o q
      cases r with
      | ref hi _ =>
        rw [hi] at ha; cases ha
        cases o with
        | lst xs => simp [q] at e; subst e; obtain ⟨us, h1, _⟩ := ob; exact ⟨_, rfl, .base (.lst (.inl (.inl h1)))⟩
        | dic t ks xs =>
          cases t with
          | true => simp [q] at e
          | false =>
            simp [q] at e; subst e
            rcases ob with ⟨kvs, h1, _⟩ | ⟨kvs, h1, ⟨e, _⟩, _⟩
            · exact ⟨_, rfl, .base (.dK h1)⟩
            · cases e
        | ins _ _ _ => simp [q] at e
  | _ => simp [typF, tyN] at e
section
variable {X : Cx}
theorem b_type : CallS X (.type "type") typF := .of call_typeF fun xs H Q ρ h vs z R r e k => by
  match vs, e with
  | [v], e =>
    obtain ⟨x, us, rfl, rx, r⟩ := RelL.inv r; cases r
    obtain ⟨t, rfl, ht⟩ := typ_rel R e rx
    exact ⟨x, t, rfl, ht, k H _ .refl R (.ty .nil)⟩
  | [], e => cases e
  | _ :: _ :: _, e => simp [typF] at e
omit [Tabl] in
def isTF (n : Bool) : SV → SV → SHp → Option SV := fun v w _ => match v, w with
  | .ty a, .ty b => some (.bl (if n then !decide (a = b) else decide (a = b)))
  | _, _ => none
theorem o_isT : OpS X (compareOp .Is) (isTF false) := .of L2.op_isTy fun x y H Q ρ h v w z R rv rw' e k => by
  unfold isTF at e
  split at e
  · cases e; cases rv; cases rw'
    exact ⟨_, _, rfl, rfl, k H _ .refl R (.bl .nil)⟩
  · cases e
theorem o_isNT : OpS X (compareOp .IsNot) (isTF true) := .of L2.op_isNotTy fun x y H Q ρ h v w z R rv rw' e k => by
  unfold isTF at e
  split at e
  · cases e; cases rv; cases rw'
    exact ⟨_, _, rfl, rfl, k H _ .refl R (.bl .nil)⟩
  · cases e
omit [Tabl] in
/-- is, is not: with None, or of two types -/
def isF (n : Bool) : SV → SV → SHp → Option SV := fun v w h => match w with
  | .ty b => isTF n v (.ty b) h
  | w => if n then notNoneF v w h else isNoneF v w h
theorem o_is : OpS X (compareOp .Is) (isF false) := OpS.imp (.or o_isT o_isN) fun v w h z e => by
  unfold isF at e
  split at e
  · simp [e]
  · rename_i hn
    have : isTF false v w h = none := by
      unfold isTF
      split
      · rename_i b; exact (hn b rfl).elim
      · rfl
    rw [this]; simpa using e
theorem o_isnot : OpS X (compareOp .IsNot) (isF true) := OpS.imp (.or o_isNT o_notN) fun v w h z e => by
  unfold isF at e
  split at e
  · simp [e]
  · rename_i hn
    have : isTF true v w h = none := by
      unfold isTF
      split
      · rename_i b; exact (hn b rfl).elim
      · rfl
    rw [this]; simpa using e
end
end Sim

/-! ### min, max of a list or a tuple of ints -/
namespace L2
open PySem PySem.Spec PyProof.Rows
section
variable {prog : Program} {w : World} {A : Around} {E : Value → Shared → Prop} {s : Shared} {l : Addr} {xs : Array (Int × Tok)}
theorem iter_intTup {Q : Value → Shared → Prop} (hl : s.heap.IsTuple l (intItems xs))
    (h : ∀ s₂ : Shared, s₂ = { s with heap := s.heap.push { cls := .type "tuple_iterator", data := .fields #[.ref l, .int 0 0] } } →
      (s₂.heap.IsTupleIter s.heap.objs.size l 0 ∧ s₂.heap.IsTuple l (intItems xs)) → (∀ b ∈ [s.heap.objs.size, l], b < s₂.heap.objs.size) → l ≠ s.heap.objs.size → Q (.ref s.heap.objs.size) s₂) :
    wpAny (model prog w) A (pyIter (.ref l)) Q E s := by
  have hlt : l < s.heap.objs.size := by obtain ⟨_, e, _⟩ := hl; exact Heap.lt_size e
  refine wpAny_pyIter_tuple hl (h _ rfl ⟨⟨_, Heap.get?_push_size _ rfl, rfl, rfl⟩, hl.push _⟩ (fun b hb => ?_) (Nat.ne_of_lt hlt))
  show b < (s.heap.push _).objs.size
  rw [Heap.size_push]
  rcases List.mem_cons.mp hb with rfl | hb
  · exact Nat.lt_succ_self _
  · rcases List.mem_cons.mp hb with rfl | hb
    · exact Nat.lt_succ_of_lt hlt
    · cases hb
theorem old_keptT {h' : Heap} {o : Obj} (hk : ∀ b u, b ∉ [s.heap.objs.size] → (s.heap.push o).get? b = some u → h'.get? b = some u) :
    ∀ b u, s.heap.get? b = some u → h'.get? b = some u := fun b u e => by
  refine hk b u (fun hm => ?_) (Heap.get?_push_of_some _ e)
  rcases List.mem_cons.mp hm with e1 | hm
  · exact absurd (e1 ▸ Heap.lt_size e) (Nat.lt_irrefl _)
  · cases hm
theorem max_intTup {Q : Value → Shared → Prop} (hh : A.handled = none) (hl : s.heap.IsTuple l (intItems xs)) (hne : 0 < xs.size)
    (h : ∀ v h' tk, (intItems xs)[argBest (fun i j => decide (numAt xs i > numAt xs j)) (xs.size - 1)]? = some v → (∀ b o, s.heap.get? b = some o → h'.get? b = some o) → Q v { s with heap := h', toks := tk }) :
    wpAny (model prog w) A (call (.builtin "max") [.ref l]) Q E s := by
  refine call_max_walk (iter_intTup hl fun s₂ e st hfp hlI => ?_)
  subst e
  refine ⟨_, _, _, _, _, _, _, rfl, Walks.tuple (A := A.in1) hh _ l hlI (intItems xs), st, hfp, by simpa [intItems] using hne, CmpOf.ints_gt (numAt xs) (fun _ _ => intItems_at), fun v h' tk hP hk => ?_⟩
  exact h v h' tk (by simpa [intItems] using hP) (old_keptT hk)
theorem min_intTup {Q : Value → Shared → Prop} (hh : A.handled = none) (hl : s.heap.IsTuple l (intItems xs)) (hne : 0 < xs.size)
    (h : ∀ v h' tk, (intItems xs)[argBest (fun i j => decide (numAt xs i < numAt xs j)) (xs.size - 1)]? = some v → (∀ b o, s.heap.get? b = some o → h'.get? b = some o) → Q v { s with heap := h', toks := tk }) :
    wpAny (model prog w) A (call (.builtin "min") [.ref l]) Q E s := by
  refine call_min_walk (iter_intTup hl fun s₂ e st hfp hlI => ?_)
  subst e
  refine ⟨_, _, _, _, _, _, _, rfl, Walks.tuple (A := A.in1) hh _ l hlI (intItems xs), st, hfp, by simpa [intItems] using hne, CmpOf.ints_lt (numAt xs) (fun _ _ => intItems_at), fun v h' tk hP hk => ?_⟩
  exact h v h' tk (by simpa [intItems] using hP) (old_keptT hk)
end
section
variable {prog : Program} {w : World} {A : Around} {E : Value → Shared → Prop} {s : Shared} {l : Addr} {its : List Value} {ns : List Int} {Q : Value → Shared → Prop}
theorem max_rawT (hh : A.handled = none) (hl : s.heap.IsTuple l its.toArray) (hi : IntsAre its ns) (hne : 0 < ns.length)
    (h : ∀ h' tk M t', (∀ b o, s.heap.get? b = some o → h'.get? b = some o) → M ∈ ns → (∀ a, a ∈ ns → a ≤ M) → Q (.int M t') { s with heap := h', toks := tk }) : wpAny (model prog w) A (call (.builtin "max") [.ref l]) Q E s := by
  obtain ⟨xs, e⟩ := hi.allInts.items
  have hn : numsOf (intItems xs).toList = ns := by rw [← e]; exact hi.numsOf
  rw [nums_intItems] at hn
  subst hn
  rw [e] at hl
  have hsz : 0 < xs.size := by simpa using hne
  refine max_intTup hh hl hsz fun v h' tk hv hk => ?_
  obtain ⟨t, rfl⟩ := intItems_at hv
  obtain ⟨h1, h2⟩ := argBest_gt (numAt xs) (xs.size - 1)
  refine h h' tk _ t hk ?_ fun a ha => ?_
  · rw [numAt_eq]; exact PySem.getD_mem (by rw [List.length_map, Array.length_toList]; omega)
  · obtain ⟨j, hj, rfl⟩ := mem_getD ha
    rw [List.length_map, Array.length_toList] at hj
    rw [← numAt_eq]; exact h2 j (by omega)
theorem min_rawT (hh : A.handled = none) (hl : s.heap.IsTuple l its.toArray) (hi : IntsAre its ns) (hne : 0 < ns.length)
    (h : ∀ h' tk M t', (∀ b o, s.heap.get? b = some o → h'.get? b = some o) → M ∈ ns → (∀ a, a ∈ ns → M ≤ a) → Q (.int M t') { s with heap := h', toks := tk }) : wpAny (model prog w) A (call (.builtin "min") [.ref l]) Q E s := by
  obtain ⟨xs, e⟩ := hi.allInts.items
  have hn : numsOf (intItems xs).toList = ns := by rw [← e]; exact hi.numsOf
  rw [nums_intItems] at hn
  subst hn
  rw [e] at hl
  have hsz : 0 < xs.size := by simpa using hne
  refine min_intTup hh hl hsz fun v h' tk hv hk => ?_
  obtain ⟨t, rfl⟩ := intItems_at hv
  obtain ⟨h1, h2⟩ := argBest_lt (numAt xs) (xs.size - 1)
  refine h h' tk _ t hk ?_ fun a ha => ?_
  · rw [numAt_eq]; exact PySem.getD_mem (by rw [List.length_map, Array.length_toList]; omega)
  · obtain ⟨j, hj, rfl⟩ := mem_getD ha
    rw [List.length_map, Array.length_toList] at hj
    rw [← numAt_eq]; exact h2 j (by omega)
end
section
variable {X : Cx}
def rMaxA (K : PySem.W.Frag) : List V → Hp → VK → Prop := fun vs H Q => ∃ (a : Addr) (ns : List Int), vs = [V.ref a] ∧ (SqL K H a (ns.map V.int) ∨ SqT K H a (ns.map V.int)) ∧ 0 < ns.length ∧ ∀ m, m ∈ ns → (∀ y, y ∈ ns → y ≤ m) → Q (.int m) H
def rMinA (K : PySem.W.Frag) : List V → Hp → VK → Prop := fun vs H Q => ∃ (a : Addr) (ns : List Int), vs = [V.ref a] ∧ (SqL K H a (ns.map V.int) ∨ SqT K H a (ns.map V.int)) ∧ 0 < ns.length ∧ ∀ m, m ∈ ns → (∀ y, y ∈ ns → m ≤ y) → Q (.int m) H
theorem cr_maxA (hc : X.calm = true) : CallR X (.builtin "max") (rMaxA X.K) := by
  intro pins s σ H vs us Q I r h
  obtain ⟨a, ns, rfl, hs, hne, q⟩ := h
  rcases hs with hs | hs
  · exact cr_max hc pins s σ H _ us Q I r ⟨a, ns, rfl, hs, hne, q⟩
  · obtain ⟨its, rv, hl, _⟩ := I.tuple hs
    rw [Vals.ref1 r]
    exact max_rawT (I.ok.hd hc) hl rv.ints hne fun h' tk m t' hk h1 h2 => ⟨.int _, H, I.kept hk, ⟨_, rfl⟩, q m h1 h2⟩
theorem cr_minA (hc : X.calm = true) : CallR X (.builtin "min") (rMinA X.K) := by
  intro pins s σ H vs us Q I r h
  obtain ⟨a, ns, rfl, hs, hne, q⟩ := h
  rcases hs with hs | hs
  · exact cr_min hc pins s σ H _ us Q I r ⟨a, ns, rfl, hs, hne, q⟩
  · obtain ⟨its, rv, hl, _⟩ := I.tuple hs
    rw [Vals.ref1 r]
    exact min_rawT (I.ok.hd hc) hl rv.ints hne fun h' tk m t' hk h1 h2 => ⟨.int _, H, I.kept hk, ⟨_, rfl⟩, q m h1 h2⟩
end
end L2
namespace Sim
open PySem L2
variable [Tabl]
omit [Tabl] in
def maxL : List Int → Int
  | [] => 0
  | [x] => x
  | x :: xs => max x (maxL xs)
omit [Tabl] in
def minL : List Int → Int
  | [] => 0
  | [x] => x
  | x :: xs => min x (minL xs)
theorem maxL_spec : ∀ {xs : List Int}, xs ≠ [] → maxL xs ∈ xs ∧ ∀ y ∈ xs, y ≤ maxL xs
  | [], h => (h rfl).elim
  | [x], _ => by simp [maxL]
  | x :: y :: xs, _ => by
    obtain ⟨h1, h2⟩ := maxL_spec (xs := y :: xs) (by simp)
    have e : maxL (x :: y :: xs) = max x (maxL (y :: xs)) := rfl
    rw [e]
    refine ⟨?_, fun z hz => ?_⟩
    · rcases Int.le_total x (maxL (y :: xs)) with q | q
      · rw [Int.max_eq_right q]; exact List.mem_cons_of_mem _ h1
      · rw [Int.max_eq_left q]; exact List.mem_cons_self
    · rcases List.mem_cons.mp hz with rfl | hz
      · exact Int.le_max_left ..
      · exact Int.le_trans (h2 z hz) (Int.le_max_right ..)
theorem minL_spec : ∀ {xs : List Int}, xs ≠ [] → minL xs ∈ xs ∧ ∀ y ∈ xs, minL xs ≤ y
  | [], h => (h rfl).elim
  | [x], _ => by simp [minL]
  | x :: y :: xs, _ => by
    obtain ⟨h1, h2⟩ := minL_spec (xs := y :: xs) (by simp)
    have e : minL (x :: y :: xs) = min x (minL (y :: xs)) := rfl
    rw [e]
    refine ⟨?_, fun z hz => ?_⟩
    · rcases Int.le_total x (minL (y :: xs)) with q | q
      · rw [Int.min_eq_left q]; exact List.mem_cons_self
      · rw [Int.min_eq_right q]; exact List.mem_cons_of_mem _ h1
    · rcases List.mem_cons.mp hz with rfl | hz
      · exact Int.min_le_left ..
      · exact Int.le_trans (Int.min_le_right ..) (h2 z hz)
omit [Tabl] in
def bestF (f : List Int → Int) : List SV → SHp → Option SV := fun vs h => match vs with
  | [v] => (seqOf v h).bind fun xs => (intsOf xs).bind fun ns => if ns = [] then none else some (.int (f ns))
  | _ => none
omit [Tabl] in
abbrev max1F := bestF maxL
omit [Tabl] in
abbrev min1F := bestF minL
section
variable {X : Cx}
theorem best_rel {f : List Int → Int} {K : PySem.W.Frag} {H : Hp} {ρ : Rho} {h : SHp} {vs : List SV} {z : SV} {xs : List V} (R : RelH K H ρ h) (r : RelL K H ρ vs xs) (e : bestF f vs h = some z) :
    ∃ (a : Addr) (ns : List Int), xs = [V.ref a] ∧ (SqL K H a (ns.map V.int) ∨ SqT K H a (ns.map V.int)) ∧ ns ≠ [] ∧ z = .int (f ns) := by
  unfold bestF at e
  split at e
  · rename_i v
    obtain ⟨x, us, rfl, rx, r⟩ := RelL.inv r; cases r
    cases q : seqOf v h with
    | none => simp [q] at e
    | some ys =>
      cases q2 : intsOf ys with
      | none => simp [q, q2] at e
      | some ns =>
        simp [q, q2] at e
        obtain ⟨a, us, rfl, hq, rr⟩ := seq_rel R q rx
        rw [ints_rel rr q2] at hq
        exact ⟨a, ns, rfl, hq, e.1, e.2.symm⟩
  · cases e
theorem b_max1 (hc : X.calm = true) : CallS X (.builtin "max") max1F := .of (L2.cr_maxA hc) fun xs H Q ρ h vs z R r e k => by
  obtain ⟨a, ns, rfl, hq, hn, rfl⟩ := best_rel R r e
  refine ⟨a, ns, rfl, hq, List.length_pos_iff.mpr hn, fun m h1 h2 => ?_⟩
  have := maxL_spec hn
  rw [show m = maxL ns from Int.le_antisymm (this.2 m h1) (h2 _ this.1)]
  exact k H _ .refl R (.int .nil)
theorem b_min1 (hc : X.calm = true) : CallS X (.builtin "min") min1F := .of (L2.cr_minA hc) fun xs H Q ρ h vs z R r e k => by
  obtain ⟨a, ns, rfl, hq, hn, rfl⟩ := best_rel R r e
  refine ⟨a, ns, rfl, hq, List.length_pos_iff.mpr hn, fun m h1 h2 => ?_⟩
  have := minL_spec hn
  rw [show m = minL ns from Int.le_antisymm (h2 _ this.1) (this.2 m h1)]
  exact k H _ .refl R (.int .nil)
end
end Sim

set_option Elab.async false
set_option linter.all false
set_option maxRecDepth 100000
set_option maxHeartbeats 4000000
namespace Sim
open PySem L2
variable [Tabl]

/-! ### texts that nobody reads -/
omit [Tabl] in
abbrev relU : Hp → Rho → Unit → V → Prop := fun _ _ _ _ => True
omit [Tabl] in
abbrev relJ : Hp → Rho → Nat → V → Prop := fun _ _ n x => ∃ y : Str, x = .str y ∧ y.length ≤ n
structure SU (X : Cx) (W : WX) (e : Expr) (c : Env → M Unit) : Prop where
  pe : PE X e (tG X.K W relU c)
structure SJ (X : Cx) (W : WX) (e : Expr) (c : Env → M Nat) : Prop where
  pe : PE X e (tG X.K W relJ c)
omit [Tabl] in
def uV (c : Env → M SV) : Env → M Unit := fun e => M.bind (c e) fun _ => M.ret ()
omit [Tabl] in
def uJ (c : Env → M Nat) : Env → M Unit := fun e => M.bind (c e) fun _ => M.ret ()
omit [Tabl] in
/-- what a part of an f-string may come to -/
def fmtC : List SV → Option Nat
  | [] => some 9
  | .int i :: xs => if i.natAbs.log2 < 1920 then (fmtC xs).map (· + 1930) else none
  | .str y :: xs => (fmtC xs).map (· + ((reprText y).length + 2))
  | _ :: _ => none
omit [Tabl] in
def fmtN : SV → Option Nat
  | .int i => if i.natAbs.log2 < 1920 then some 1930 else none
  | .str y => if y.length ≤ sizeLine then some y.length else none
  | .tup xs => (fmtC xs).bind fun n => if n ≤ sizeLine then some n else none
  | _ => none
omit [Tabl] in
def eFmtN (c : Env → M SV) : Env → M Nat := fun e => M.bind (c e) fun v => M.of (fmtN v)
omit [Tabl] in
def eStrN (n : Nat) : Env → M Nat := fun _ => M.ret n
omit [Tabl] in
def joinN : List (Env → M Nat) → Nat → Env → M Unit
  | [], _, _ => M.ret ()
  | c :: cs, n, e => M.bind (c e) fun m => if n + m ≤ sizeLine then joinN cs (n + m) e else fun _ => .stuck
inductive SJs (X : Cx) (W : WX) : List Expr → List (Env → M Nat) → Prop where
  | nil : SJs X W [] []
  | cons {e : Expr} {c : Env → M Nat} {es : List Expr} {cs : List (Env → M Nat)} (h : SJ X W e c) (r : SJs X W es cs) : SJs X W (e :: es) (c :: cs)
theorem fmtC_texts {K : PySem.W.Frag} {H : Hp} {ρ : Rho} {prog : Program} {w : World} : ∀ {xs : List SV} {n : Nat} {us : List V} {its : List Value}, fmtC xs = some n → n ≤ sizeLine → RelL K H ρ xs us → Vals us its → ∃ ts, ReprAll prog w its ts ∧ piled ts + 9 ≤ n
  | [], _, _, _, e, _, r, q => by
    cases e; rw [r.nil_inv] at q; cases q
    exact ⟨[], .nil, by simp [piled]⟩
  | x :: xs, n, _, _, e, hn, r, q => by
    obtain ⟨v, us, rfl, rx, rr⟩ := r.inv
    cases q with
    | cons q1 q2 =>
      cases x with
      | int i =>
        unfold fmtC at e
        by_cases c : i.natAbs.log2 < 1920
        · rw [if_pos c] at e
          cases e2 : fmtC xs with
          | none => rw [e2] at e; cases e
          | some m =>
            rw [e2] at e; simp only [Option.map_some, Option.some.injEq] at e; subst e
            obtain ⟨ts, h1, h2⟩ := fmtC_texts (prog := prog) (w := w) e2 (by omega) rr q2
            cases rx
            obtain ⟨t, rfl⟩ := q1
            have hl := int_text_length_le (k := 1920) (by decide) c
            refine ⟨_ :: ts, .cons (ReprIs.int t c) h1, ?_⟩
            rw [piled_cons, PySem.ofString_length]
            omega
        · rw [if_neg c] at e; cases e
      | str y =>
        unfold fmtC at e
        cases e2 : fmtC xs with
        | none => rw [e2] at e; cases e
        | some m =>
          rw [e2] at e; simp only [Option.map_some, Option.some.injEq] at e; subst e
          obtain ⟨ts, h1, h2⟩ := fmtC_texts (prog := prog) (w := w) e2 (by omega) rr q2
          cases rx
          obtain ⟨t, rfl⟩ := q1
          refine ⟨_ :: ts, .cons (ReprIs.str y t (by omega)) h1, ?_⟩
          rw [piled_cons]
          omega
      | _ => simp [fmtC] at e
section
variable {X : Cx} {W : WX} {pos : Pos} {e : Expr} {c : Env → M SV}
theorem SE.u (h : SE X W e c) : SU X W e (uV c) := ⟨imp_pe h.pe fun σ H Q ⟨ρ, h, env, R, RE, P⟩ => ⟨ρ, h, env, R, RE, (Post.bind (rel := relS X.K) P).mono fun x H1 ⟨ρ1, v, h1, E1, R1, r1, P1⟩ => P1 ρ1 H1 x .refl R1 trivial⟩⟩
theorem j_str {x : Str} {j} : SJ X W (.Constant (.str x) j pos) (eStrN x.length) := ⟨imp_pe pe_str fun σ H Q ⟨ρ, h, env, R, RE, P⟩ => P ρ H _ .refl R ⟨x, rfl, Nat.le_refl _⟩⟩
theorem j_fmt {k : Nat} (hr : Room k X.A) (he : SE X W e c) : SJ X W (.FormattedValue e (-1) none pos) (eFmtN c) := by
  refine ⟨⟨fun pins s σ H Q I hh => ?_⟩⟩
  obtain ⟨ρ, h, env, R, RE, P⟩ := hh
  have P2 := Post.bind (rel := relS X.K) P
  refine wpAny_FormattedValue_plain (thn (he.pe.run pins s σ H _ I ⟨ρ, h, env, R, RE, P2⟩) fun v s1 hv => ?_)
  obtain ⟨x, H1, I1, r1, ρ1, sv, h1, E1, R1, rx, P1⟩ := hv
  cases sv with
  | str y =>
    simp only [fmtN] at P1
    by_cases c : y.length ≤ sizeLine
    · rw [if_pos c] at P1
      cases rx
      have q := P1 ρ1 H1 (.str y) .refl R1 ⟨y, rfl, Nat.le_refl _⟩
      obtain ⟨t, rfl⟩ := r1
      exact wpAny_formatField_str ⟨.str y, H1, I1, ⟨t, rfl⟩, q⟩ ⟨.str y, H1, I1.tok _, ⟨_, rfl⟩, q⟩ c
    · rw [if_neg c] at P1; exact P1.elim
  | int i =>
    simp only [fmtN] at P1
    by_cases c : i.natAbs.log2 < 1920
    · rw [if_pos c] at P1
      cases rx
      have hl := int_text_length_le (k := 1920) (by decide) c
      have q := P1 ρ1 H1 (.str (toString i)) .refl R1 ⟨_, rfl, by rw [PySem.ofString_length]; omega⟩
      obtain ⟨t, rfl⟩ := r1
      exact wpAny_formatField_int c ⟨.str (toString i), H1, I1.tok _, ⟨_, rfl⟩, q⟩
    · rw [if_neg c] at P1; exact P1.elim
  | tup xs =>
    simp only [fmtN] at P1
    cases e2 : fmtC xs with
    | none => rw [e2] at P1; exact P1.elim
    | some n =>
      rw [e2] at P1
      by_cases c : n ≤ sizeLine
      · have P3 : Post X.K W relJ σ ρ1 H1 (M.of (some n) h1) Q := by
          have : (if n ≤ sizeLine then some n else none) = some n := if_pos c
          simp only [Option.bind_some, this] at P1; exact P1
        obtain ⟨a, us, rfl, ht, rr⟩ := tup_rel rx
        cases r1
        obtain ⟨its, rv, ⟨o, ho, hcl, m, hd⟩, _⟩ := I1.tuple ht
        obtain ⟨ts, h3, h4⟩ := fmtC_texts (prog := X.prog) (w := X.w) e2 c rr rv
        have htx := fmt_text ts
        have hu := hr.units
        refine fmt_tuple (ts := ts) (by omega) ho hcl hd h3 (by omega) fun m u tk hm => ⟨.str m, H1, I1.tok _, ⟨u, rfl⟩, P3 ρ1 H1 (.str m) .refl R1 ⟨m, rfl, by omega⟩⟩
      · have : (if n ≤ sizeLine then some n else none) = none := if_neg c
        simp only [Option.bind_some, this] at P1; exact P1.elim
  | _ => exact P1.elim
theorem str_app_len (a b : Str) : (a ++ b).length = a.length + b.length := PySem.strLen_append a b
theorem joinN_run : ∀ {es : List Expr} {cs : List (Env → M Nat)}, SJs X W es cs → ∃ ts, PJ X es ts ∧ ∀ (acc : Str) (n : Nat) (σ : St) (H : Hp) (Q : VK) (ρ : Rho) (h : SHp) (env : Env), acc.length ≤ n → RelH X.K H ρ h → RelE X.K H ρ env σ →
    Post X.K W relU σ ρ H (joinN cs n env h) Q → tJs ts acc σ H fun out H1 => Q (.str out) H1
  | _, _, .nil => ⟨[], .nil, fun acc n σ H Q ρ h env hl R RE P => P ρ H _ .refl R trivial⟩
  | _, _, @SJs.cons _ _ _ e c es cs hj hr => by
    obtain ⟨ts, hp, k⟩ := joinN_run hr
    refine ⟨_ :: ts, .cons hj.pe hp, fun acc n σ H Q ρ h env hl R RE P => ⟨ρ, h, env, R, RE, (Post.bind (rel := relJ) P).mono fun x H1 ⟨ρ1, m, h1, E1, R1, r1, P1⟩ => ?_⟩⟩
    obtain ⟨y, rfl, hy⟩ := r1
    by_cases c : n + m ≤ sizeLine
    · simp only [if_pos c] at P1
      exact ⟨y, rfl, by rw [str_app_len]; omega, k (acc ++ y) (n + m) σ H1 Q ρ1 h1 env (by rw [str_app_len]; omega) R1 (RE.mono R.holds E1) P1⟩
    · simp only [if_neg c] at P1; exact P1.elim
theorem u_join {v1 v2 : Expr} {rest : List Expr} {cs : List (Env → M Nat)} (h : SJs X W (v1 :: v2 :: rest) cs) : SU X W (.JoinedStr (v1 :: v2 :: rest) pos) (joinN cs 0) := by
  obtain ⟨ts, hp, k⟩ := joinN_run h
  exact ⟨imp_pe (pe_joined hp) fun σ H Q ⟨ρ, h, env, R, RE, P⟩ => k Str.empty 0 σ H Q ρ h env (Nat.le_refl _) R RE P⟩

/-! ### raise -/
omit [Tabl] in
def cRaise (C : Addr) (c : Env → M Unit) : ST' := fun e h => match c e h with
  | .ok _ h' => .err C [] e h'
  | .err cc fs h' => .err cc fs e h'
  | .stuck => .stuck
theorem s_raise {C : Addr} {bmB : List Value} {B newId initId : String} {x : Str} {cu : Env → M Unit} {p pos' : Pos} (F : ExcBaseFacts B newId initId bmB) (q : PySem.W.excIn X.K C bmB newId = true) (kC : PySem.W.keepIn X.K (.ref C) = true)
    (bC : PySem.W.subIn X.K (.ref C) (.type "BaseException") = some true) (tC : PySem.W.typeIn X.K (.ref C) = some (.type "type"))
    (gC : X.mg x = some (.ref C)) (hc : X.calm = true) (tk : Takes X W) (he : SU X W e cu) (hg : Gl X x := by rfl) (hs : starEach [e] X.env = (false, eval e X.env) :: starEach [] X.env := by rfl) (hdb : (x == ("__debug__" : Str)) = false := by decide) :
    SS X W (.Raise (some (.Call (.Name x p) [e] [] pos)) none pos') (cRaise C cu) :=
  ⟨imp_ps (ps_raise hc tk (SkE.pmk_own1 F q gC kC (raises_own bC tC) hg he.pe hs hdb)) fun D σ H ⟨ρ, h, env, R, RE, P⟩ => ⟨ρ, h, env, R, RE, by
    unfold cRaise at P
    cases z : cu env h with
    | ok v h' => rw [z] at P; exact fun ρ1 H1 x E1 R1 _ => P ρ1 H1 σ (.ref C) none E1 R1 (RE.mono R.holds E1) ⟨rfl, .inl ⟨rfl, rfl⟩⟩
    | err cc fs h' => rw [z] at P; exact fun ρ1 H1 cv d E1 R1 q => P ρ1 H1 σ cv d E1 R1 (RE.mono R.holds E1) q
    | stuck => rw [z] at P; exact P⟩⟩

/-! ### try: one clause without a name -/
omit [Tabl] in
def SR.noErr : SR → SR
  | .err _ _ _ _ => .stuck
  | r => r
omit [Tabl] in
def cTry1 (m : Addr → Option Bool) (b s : ST') : ST' := fun e h => match b e h with
  | .err c fs e' h' => match m c with
    | some true => SR.noErr (s e' h')
    | some false => .err c fs e' h'
    | none => .stuck
  | r => r
theorem s_try1 {x : Str} {C : Addr} {body suite : List Stmt} {b₀ : Stmt} {np pos' : Pos} {b s : ST'} {m : Addr → Option Bool} (hm : ∀ c k, m c = some k → PySem.W.exmOne X.K (.ref c) (.ref C) = some k) (gC : X.mg x = some (.ref C)) (tk : Takes X W)
    (hb : ∀ (W' : WX) (pn : List (Addr × Obj)) (xe : Value → Shared → Prop), Takes (X.tr pn xe) W' → PassesOwn (model X.prog X.w) X.A X.env xe → SSs (X.tr pn xe) W' body b)
    (hsu : ∀ (a : Addr) (oe : Obj) (cls : Value) (d : Option Addr) (pn : List (Addr × Obj)), Zc cls d oe → (∃ vs, oe.data = .fields vs) → SSs (X.suite a ((a, oe) :: pn)) W0 (b₀ :: suite) s)
    (hs : X.stack = X.env :: X.outer := by rfl) (hf : X.env.frame = some X.env.locals := by rfl) (hg : Gl X x := by rfl) (hdb : (x == ("__debug__" : Str)) = false := by decide) :
    SS X W (.Try body [.ExceptHandler (some (.Name x np)) none (b₀ :: suite) pos'] [] [] pos) (cTry1 m b s) :=
  ⟨imp_ps (ps_try_only (c := .ref C) (tb := fun W' => tR X.K W' b) (ts := fun _ _ _ => tR X.K W0 s) hs hf ⟨hg, hdb, .inl gC⟩ tk (fun W' pn xe t p => (hb W' pn xe t p).pss) (fun a oe cls d pn z f => (hsu a oe cls d pn z f).pss)) fun D σ H ⟨ρ, h, env, R, RE, P⟩ => ⟨ρ, h, env, R, RE, by
    unfold cTry1 at P
    cases z : b env h with
    | err c fs e' h' =>
      rw [z] at P
      simp only at P
      intro ρ1 H1 σ1 cv d E1 R1 RE1 q
      obtain ⟨rfl, _⟩ := q
      cases mc : m c with
      | none => rw [mc] at P; exact P.elim
      | some k =>
        rw [mc] at P
        refine ⟨k, hm c k mc, fun hk a ha => ?_, fun hk => ?_⟩
        · subst hk
          refine ⟨ρ1, h', e', R1, RE1, ?_⟩
          have P' := PostR.shift P E1
          simp only at P'
          cases z2 : s e' h' with
          | err _ _ _ _ => rw [z2] at P'; exact P'.elim
          | nx _ _ => rw [z2] at P'; exact P'
          | rt _ _ => rw [z2] at P'; exact P'
          | bk _ _ => rw [z2] at P'; exact P'
          | ct _ _ => rw [z2] at P'; exact P'
          | stuck => rw [z2] at P'; exact P'.elim
        · subst hk
          exact P ρ1 H1 σ1 _ d E1 R1 RE1 ⟨rfl, by assumption⟩
    | nx _ _ => rw [z] at P; exact P
    | rt _ _ => rw [z] at P; exact P
    | bk _ _ => rw [z] at P; exact P
    | ct _ _ => rw [z] at P; exact P
    | stuck => rw [z] at P; exact P⟩⟩
end
end Sim

set_option Elab.async false
set_option linter.all false
set_option maxRecDepth 100000
set_option maxHeartbeats 4000000
namespace L2
open PySem PySem.Spec PyProof.Rows
section
variable {prog : Program} {w : World} {A : Around} {E : Value → Shared → Prop} {s : Shared} {K : PySem.W.Frag} {x C f : Addr} {ox od : Obj}
theorem looks_of_typeIs {M : Model} {u : Value} {T : String} (h : s.TypeIs u T) : PySem.W.Looks M s.heap (typeOf u) (.type T) := fun A Q E s' k q => by
  cases u with
  | ref a =>
    obtain ⟨o, ho, hc⟩ := h
    exact wpAny_typeOf_ref (k _ _ ho) (by rw [hc]; exact q)
  | _ => exact wpAny_of_eq h q
theorem callSp_K {M : Model} {args : List Value} {name : Str} {Q : Option Value → Shared → Prop} (X : K.In s.heap) (I : PySem.W.InstAt s.heap x ox C (some od)) (hs : PySem.W.findIn K (.ref C) name = some (some (.ref f))) (hf : PySem.W.isFn K (.ref f) = true)
    (h : wpAny M A (call (.ref f) (.ref x :: args)) (fun v => Q (some v)) E s) : wpAny M A (callSpecial? (.ref x) name args) Q E s := by
  unfold callSpecial? specialOf
  refine wpAny_bind (wpAny_bind (I.type.here ((PySem.W.looks_findIn X hs).here ?_)))
  have fin : wpAny M A (call (.ref f) ([.ref x] ++ args) >>= fun v => pure (some v)) Q E s := wpAny_bind (wpAny_mono h (fun v s' h' => wpAny_pure h') fun _ _ h' => h')
  refine wpAny_holding (wpAny_bind ((PySem.W.bind_fn X _ (beq_iff_eq.mp hf)).here ?_))
  first | exact fin | exact wpAny_pure fin
theorem str_ownK {Q : Value → Shared → Prop} (hu : A.units + 2 < cLine) (X : K.In s.heap) (I : PySem.W.InstAt s.heap x ox C (some od)) (hs : PySem.W.findIn K (.ref C) "__str__" = some (some (.ref f))) (hf : PySem.W.isFn K (.ref f) = true)
    (h : wpAny (model prog w) A.in1.in1 (call (.ref f) [.ref x]) (fun r s' => ∃ m tk, r = .str m tk ∧ Q (.str m tk) s') E s) : wpAny (model prog w) A (call (.type "str") [.ref x]) Q E s :=
  callType_newIn F.called_str (by decide) (F.typeCall_str_1 _) (F.newCall_str_1 _) (fun obj => F.args_object_init_2 obj _) F.entry_str_new
    (S := fun A' R s' => A' = A.in1 ∧ s' = s ∧ (∀ m tk s2, Q (.str m tk) s2 → R (.ok (.ret (.str m tk))) s2) ∧ ∀ e s2, E e s2 → R (.error e) s2) (.of_wp fun A' R s' hh => by
      obtain ⟨rfl, rfl, hR, hE⟩ := hh
      rw [str_new_tree]
      refine wpAny_bind (wpAny_pure ?_)
      refine wpAny_bind (wpAny_of_eq isSubtype_str_str ?_)
      refine wpAny_bind ?_
      unfold Builtin.Str.strOf
      rw [if_neg (by simp [Builtin.Str.isExactStr])]
      refine wpAny_bind (wpAny_cRoomFor (by show A.units + 1 + 1 < cLine; exact hu) ?_)
      refine wpAny_bind (callSp_K X I hs hf (wpAny_mono h (fun r s2 hr => ?_) fun e s2 he => hE e s2 he))
      obtain ⟨m, tk, rfl, q⟩ := hr
      exact wpAny_pure (wpAny_pure ⟨_, rfl, hR m tk s2 q⟩)) ⟨rfl, rfl, fun m tk s2 q => ⟨typeIs_str _ _ _, q⟩, fun _ _ e => e⟩
theorem objNe_entryK {b : Value} {Q : Fin → Shared → Prop} (hu : A.units < cLine) (X : K.In s.heap) (I : PySem.W.InstAt s.heap x ox C (some od)) (hs : PySem.W.findIn K (.ref C) "__eq__" = some (some (.ref f))) (hf : PySem.W.isFn K (.ref f) = true)
    (hcall : wpAny (model prog w) A (call (.ref f) [.ref x, b]) (fun v s' => ∃ b, v = .bool b ∧ Q (.done (.ret (.bool (!b)))) s') E s) :
    wpAny (model prog w) A (Builtin.«object.__ne__» ⟨[.ref x, b], []⟩) Q E s := by
  unfold Builtin.«object.__ne__»
  repeat (first
    | with_reducible refine wpAny_cRoomFor hu ?_
    | (refine wpAny_bind (m := callSpecialIfBound? (.ref x) (Str.ofString "__eq__") [b])
        (PySem.W.ifBound_K X I hs hf (wpAny_mono hcall (fun r s' hr => by
          obtain ⟨b, rfl, hq⟩ := hr
          repeat (first | exact hq | exact wpAny_pure hq | exact wpAny_truthy_bool hq | (refine wpAny_bind (m := truthy (.bool _)) (wpAny_truthy_bool ?_)) | wp_step)) fun _ _ e => e)))
    | wp_step)
theorem ifBoundB_K {M : Model} {B : String} {id : String} {args : List Value} {name : Str} {Q : Option Value → Shared → Prop} (X : K.In s.heap) (I : PySem.W.InstAt s.heap x ox C (some od)) (hs : PySem.W.findIn K (.ref C) name = some (some (.builtin id))) (S : Slot B name id)
    (h : wpAny M A (call (.builtin id) (.ref x :: args)) (fun v => Q (some v)) E s) : wpAny M A (callSpecialIfBound? (.ref x) name args) Q E s := by
  simp only [callSpecialIfBound?, bindSpecialIfBound?]
  refine wpAny_holding (wpAny_bind (wpAny_bind (wpAny_bind (I.type.here ((PySem.W.looks_findIn X hs).here ?_)))))
  simp only [S.bind]
  refine wpAny_bind (wpAny_askSetting (wpAny_ite ?_))
  have fin : wpAny M A (call (.builtin id) ([.ref x] ++ args) >>= fun v => pure (some v)) Q E s :=
    wpAny_bind (wpAny_mono h (fun v s' h' => wpAny_pure h') fun _ _ h' => h')
  split
  · exact wpAny_bind (wpAny_pure (wpAny_pure fin))
  · exact wpAny_tryCatch (wpAny_bind (wpAny_pure (wpAny_pure fin)))
theorem tryNe_K {b : Value} {Q : Option Value → Shared → Prop} (hu : A.units + 1 < cLine) (X : K.In s.heap) (I : PySem.W.InstAt s.heap x ox C (some od)) (hn : PySem.W.findIn K (.ref C) "__ne__" = some (some (.builtin "object.__ne__"))) (hm : PySem.W.mroIn K C (.type "object") = some true)
    (hs : PySem.W.findIn K (.ref C) "__eq__" = some (some (.ref f))) (hf : PySem.W.isFn K (.ref f) = true)
    (hcall : wpAny (model prog w) A.in1 (call (.ref f) [.ref x, b]) (fun v s' => ∃ b, v = .bool b ∧ Q (some (.bool (!b))) s') E s) : wpAny (model prog w) A (tryCompare (.ref x) "__ne__" b) Q E s := by
  unfold tryCompare
  have sub : PySem.W.Looks (model prog w) s.heap (isInstance (.ref x) (.type "object")) true := I.type.andThen (PySem.W.looks_mroIn X hm)
  refine wpAny_bind (ifBoundB_K X I hn F.cmp_object.ne (wpAny_call (codeAny_call_builtin F.cmp_object.ne.plain F.cmpEntry_ne (PySem.W.check_slot (kw := []) F.cmpKind_ne F.cmpSplit_ne sub (F.cmpArgs_ne _ _) (objNe_entryK (A := A.in1) hu X I hs hf (wpAny_mono hcall (fun v s' hv => ?_) fun _ _ e => e))))))
  obtain ⟨b, rfl, hq⟩ := hv
  first | exact ⟨b, rfl, wpAny_pure hq⟩ | exact ⟨b, rfl, wpAny_pure (wpAny_pure hq)⟩ | exact ⟨b, rfl, hq⟩
theorem ne_ownK {b tb : Value} {Q : Value → Shared → Prop} (hu : A.units + 1 < cLine) (X : K.In s.heap) (I : PySem.W.InstAt s.heap x ox C (some od)) (hb : PySem.W.Looks (model prog w) s.heap (typeOf b) tb) (hnf : PySem.W.notFirst K C tb = true)
    (hn : PySem.W.findIn K (.ref C) "__ne__" = some (some (.builtin "object.__ne__"))) (hm : PySem.W.mroIn K C (.type "object") = some true)
    (hs : PySem.W.findIn K (.ref C) "__eq__" = some (some (.ref f))) (hf : PySem.W.isFn K (.ref f) = true)
    (hcall : wpAny (model prog w) A.in1 (call (.ref f) [.ref x, b]) (fun v s' => ∃ b, v = .bool b ∧ Q (.bool (!b)) s') E s) : wpAny (model prog w) A (richCompare .NotEq (.ref x) b) Q E s := by
  have one : wpAny (model prog w) A (tryCompare (.ref x) "__ne__" b) (fun r s' => ∃ v, r = some v ∧ Q v s') E s :=
    tryNe_K hu X I hn hm hs hf (wpAny_mono hcall (fun v s' ⟨k, e, q⟩ => ⟨k, e, _, rfl, q⟩) fun _ _ e => e)
  unfold richCompare
  simp only [oneThing_ref]
  refine wpAny_holding (wpAny_bind (wpAny_cRoomFor (Nat.lt_of_succ_lt hu) ?_))
  rw [cmpInfo_NotEq]
  dsimp only
  refine wpAny_bind (I.type.here (wpAny_bind (hb.here ?_)))
  split
  · rename_i q
    have e : PySem.W.subIn K tb (.ref C) = some false := by
      rcases Bool.or_eq_true_iff.mp hnf with e | e
      · rw [beq_iff_eq.mp e] at q; simp at q
      · exact beq_iff_eq.mp e
    refine wpAny_bind ((PySem.W.looks_subIn X e).here ?_)
    simp only [Bool.false_eq_true, if_false]
    refine wpAny_bind (wpAny_mono one (fun r s' z => ?_) fun _ _ e => e)
    obtain ⟨v, rfl, hq⟩ := z
    exact wpAny_pure hq
  · refine wpAny_bind (wpAny_pure ?_)
    simp only [Bool.false_eq_true, if_false]
    refine wpAny_bind (wpAny_mono one (fun r s' z => ?_) fun _ _ e => e)
    obtain ⟨v, rfl, hq⟩ := z
    exact wpAny_pure hq
end
end L2

set_option Elab.async false
set_option linter.all false
set_option maxRecDepth 100000
set_option maxHeartbeats 4000000
namespace Sim
open PySem L2
variable [Tabl]

/-! ### == and != by an own __eq__ -/
omit [Tabl] in
def instOf (v : SV) (h : SHp) : Option Addr := match v with
  | .obj C _ _ => some C
  | .ref n => match h[n]? with
    | some (.ins C _ _) => some C
    | _ => none
  | _ => none
omit [Tabl] in
/-- what a class must have for its own == -/
structure EqC (K : PySem.W.Frag) (C f : Addr) (ts : List String) : Prop where
  eq : PySem.W.findIn K (.ref C) "__eq__" = some (some (.ref f))
  fn : PySem.W.isFn K (.ref f) = true
  ne : PySem.W.findIn K (.ref C) "__ne__" = some (some (.builtin "object.__ne__"))
  mro : PySem.W.mroIn K C (.type "object") = some true
  ts : ∀ t ∈ ts, PySem.W.notFirst K C (.type t) = true
omit [Tabl] in
def eqOk (C : Addr) (ts : List String) (v w : SV) (h : SHp) : Bool := decide (instOf v h = some C) && (decide (instOf w h = some C) || match typF [w] h with
  | some (.ty t) => ts.contains t
  | _ => false)
omit [Tabl] in
def eqO (neg : Bool) (C : Addr) (ts : List String) (D : List SV → M SV) (v w : SV) : M SV := fun h => if eqOk C ts v w h = true then match D [v, w] h with
    | .ok (.bl k) h' => .ok (.bl (if neg then !k else k)) h'
    | _ => .stuck
  else .stuck
omit [Tabl] in
def eEqO (neg : Bool) (C : Addr) (ts : List String) (D : List SV → M SV) (a b : Env → M SV) : Env → M SV := fun e => M.bind (a e) fun v => M.bind (b e) fun w => eqO neg C ts D v w
section
variable {K : PySem.W.Frag} {H : Hp} {ρ : Rho} {h : SHp} {v : SV} {x : V} {C : Addr}
theorem inst_rel (R : RelH K H ρ h) (r : RelS K H ρ v x) (e : instOf v h = some C) : ∃ a dx fv, x = .ref a ∧ H a = some (.ins C dx fv) := by
  cases v with
  | obj D ns xs =>
    cases e
    obtain ⟨a, dx, fv, rfl, hH, _⟩ := ins_rel R r (.inl rfl)
    exact ⟨a, dx, fv, rfl, hH⟩
  | ref n =>
    unfold instOf at e
    cases q : h[n]? with
    | none => simp [q] at e
    | some o =>
      cases o with
      | ins D ns xs =>
        simp [q] at e; subst e
        obtain ⟨a, dx, fv, rfl, hH, _⟩ := ins_rel R r (.inr ⟨n, rfl, q⟩)
        exact ⟨a, dx, fv, rfl, hH⟩
      | _ => simp [q] at e
  | _ => cases e
end
section
variable {X : Cx} {W : WX} {k : Nat} {f C : Addr} {fd : FuncData} {ps : List Str} {D : List SV → M SV}
/-- a def called with values, from anywhere below the body -/
theorem call_any {A : Around} {pins : List (Addr × Obj)} {σ : St} {H : Hp} {s : Shared} {us : List Value} {vs : List V} {Q : VK} {R : Value → Shared → Prop} (F : FnOk X.prog X.w X.K X.mg X.base (L2.CX X.prog X.w) k f fd ps (spS X.K ps.length D)) (hb : Binds X.K fd ps []) (hr : Room k A) (hfr : A.frames = X.A.frames)
    (I : Inv X pins σ H s) (r : Vals vs us) (hn : vs.length = ps.length) (sp : spS X.K ps.length D vs H Q (fun _ _ _ => False)) (hR : ∀ u s' v H', Inv X pins σ H' s' → L2.RelV v u → Q v H' → R u s') :
    wpAny (model X.prog X.w) A (call (.ref f) us) R X.xe s := by
  have e0 : Env0 X.prog X.w X.K X.mg X.base A X.stack s H := by
    have e := I.env0
    exact ⟨by rw [hfr]; exact e.frames, e.mod, e.bs, e.bsz, e.funs, e.frf, e.hok, e.bare⟩
  have hl : us.length = ps.length := by rw [← r.length]; exact hn
  have b := hb s us I.kIn (by simpa using hl)
  rw [List.append_nil] at b
  refine wpAny_call (codeAny_mono (F.go A X.stack s H ⟨us, []⟩ us vs Q (fun _ _ _ => False) hr e0 b r sp) fun r s' hq => ?_)
  cases r with
  | error e => exact (noCXs hq).elim
  | ok fl =>
    cases fl with
    | ret w =>
      obtain ⟨z, H', I', rz, q⟩ := I.after hq
      exact hR w s' z H' I' rz q
    | next => exact False.elim hq
    | brk => exact False.elim hq
    | cont => exact False.elim hq
where
  noCXs {H : Hp} {s : Shared} {e : Value} {s' : Shared} (h : L2.CX X.prog X.w X.stack H s (fun _ _ _ => False) e s') : False := by
    obtain ⟨_, _, _, _, _, _, _, _, _, _, _, _, z⟩ := h
    exact z.elim
def rEqO (K : PySem.W.Frag) (C : Addr) (ts : List String) (neg : Bool) (D : List SV → M SV) : R2 := fun x y H Q => (∃ a dx fv, x = .ref a ∧ H a = some (.ins C dx fv)) ∧ ((∃ b dy gv, y = .ref b ∧ H b = some (.ins C dy gv)) ∨ ∃ t ∈ ts, TyF K H y t) ∧
  spS K 2 D [x, y] H (fun v H' => ∃ k, v = .bl k ∧ Q (.bl (if neg then !k else k)) H') (fun _ _ _ => False)
theorem looks_inst {H : Hp} {pins : List (Addr × Obj)} {σ : St} {s : Shared} {y : V} {u : Value} {ts : List String} (I : Inv X pins σ H s) (ry : L2.RelV y u) (E : EqC X.K C f ts) (hy : (∃ b dy gv, y = .ref b ∧ H b = some (.ins C dy gv)) ∨ ∃ t ∈ ts, TyF X.K H y t) :
    ∃ tb, PySem.W.Looks (model X.prog X.w) s.heap (typeOf u) tb ∧ PySem.W.notFirst X.K C tb = true := by
  rcases hy with ⟨b, dy, gv, rfl, hb⟩ | ⟨t, ht, hy⟩
  · cases ry
    obtain ⟨mB, J', _⟩ := ins_get I.hok hb
    obtain ⟨od', J', _⟩ := J'.look
    exact ⟨.ref C, J'.type, by simp [PySem.W.notFirst]⟩
  · exact ⟨.type t, L2.looks_of_typeIs (hy.is I ry), E.ts t ht⟩
theorem op_eqO {ts : List String} (E : EqC X.K C f ts) (F : FnOk X.prog X.w X.K X.mg X.base (L2.CX X.prog X.w) k f fd ps (spS X.K ps.length D)) (h2 : ps.length = 2) (hb : Binds X.K fd ps []) (hr : Room k X.A) : OpR X (compareOp .Eq) (rEqO X.K C ts false D) := by
  intro pins s σ H x y v u Q I rx ry hq
  obtain ⟨⟨a, dx, fv, rfl, ha⟩, hy, sp⟩ := hq
  cases rx
  show wpAny (model X.prog X.w) X.A (richCompare .Eq (.ref a) u) (EP X pins σ Q) X.xe s
  obtain ⟨mA, J, _⟩ := ins_get I.hok ha
  obtain ⟨od, J, _⟩ := J.look
  obtain ⟨tb, hl, hnf⟩ := looks_inst I ry E hy
  obtain ⟨m, hF⟩ := I.fr
  refine PySem.W.cmp_K (op := .Eq) (tb := tb) hr.units0 hF I.ok.mod.kin J hl hnf E.eq E.fn ?_
  refine call_any (vs := [.ref a, y]) F hb hr rfl I (.cons rfl (.cons ry .nil)) (by rw [h2]; rfl) (by rw [h2]; exact sp) fun w s' z H' I' rz hz => ?_
  obtain ⟨k, rfl, q⟩ := hz
  cases rz
  exact ⟨.bl k, H', I', rfl, q⟩
theorem op_neO {ts : List String} (E : EqC X.K C f ts) (F : FnOk X.prog X.w X.K X.mg X.base (L2.CX X.prog X.w) k f fd ps (spS X.K ps.length D)) (h2 : ps.length = 2) (hb : Binds X.K fd ps []) (hr : Room (k + 1) X.A) : OpR X (compareOp .NotEq) (rEqO X.K C ts true D) := by
  intro pins s σ H x y v u Q I rx ry hq
  obtain ⟨⟨a, dx, fv, rfl, ha⟩, hy, sp⟩ := hq
  cases rx
  show wpAny (model X.prog X.w) X.A (richCompare .NotEq (.ref a) u) (EP X pins σ Q) X.xe s
  obtain ⟨mA, J, _⟩ := ins_get I.hok ha
  obtain ⟨od, J, _⟩ := J.look
  obtain ⟨tb, hl, hnf⟩ := looks_inst I ry E hy
  have hu := hr.units
  refine L2.ne_ownK (tb := tb) (by omega) I.kIn J hl hnf E.ne E.mro E.eq E.fn ?_
  refine call_any (vs := [.ref a, y]) F hb hr.in1 rfl I (.cons rfl (.cons ry .nil)) (by rw [h2]; rfl) (by rw [h2]; exact sp) fun w s' z H' I' rz hz => ?_
  obtain ⟨k, rfl, q⟩ := hz
  cases rz
  exact ⟨k, rfl, .bl (!k), H', I', rfl, q⟩
variable {pos : Pos} {a b : Expr} {ca cb : Env → M SV}
theorem post_eqO {neg : Bool} {ts : List String} {σ : St} {H : Hp} {Q : VK} (h : tS X.K W (eEqO neg C ts D ca cb) σ H Q) : tOp (rEqO X.K C ts neg D) (tS X.K W ca) (tS X.K W cb) σ H Q := by
  obtain ⟨ρ, h, env, R, RE, P⟩ := h
  refine ⟨ρ, h, env, R, RE, (Post.bind (rel := relS X.K) P).mono fun x H1 ⟨ρ1, v, h1, E1, R1, r1, P1⟩ => ?_⟩
  refine ⟨ρ1, h1, env, R1, RE.mono R.holds E1, (Post.bind (rel := relS X.K) P1).mono fun y H2 ⟨ρ2, w, h2, E2, R2, r2, P2⟩ => ?_⟩
  have r1' := r1.mono R1.holds E2
  unfold eqO at P2
  by_cases c : eqOk C ts v w h2 = true
  · rw [if_pos c] at P2
    unfold eqOk at c
    simp only [Bool.and_eq_true, Bool.or_eq_true, decide_eq_true_eq] at c
    refine ⟨inst_rel R2 r1' c.1, ?_, rfl, ρ2, h2, [v, w], R2, .cons r1' r2, ?_⟩
    · rcases c.2 with q | q
      · exact .inl (inst_rel R2 r2 q)
      · right
        split at q
        · rename_i t e
          obtain ⟨t', e', ht⟩ := typ_rel R2 e r2
          cases e'
          exact ⟨t, by simpa using q, ht⟩
        · cases q
    · cases z : D [v, w] h2 with
      | ok r h3 =>
        rw [z] at P2
        cases r with
        | bl k =>
          intro ρ3 H3 x3 E3 R3 r3
          cases r3
          exact ⟨k, rfl, P2 ρ3 H3 _ E3 R3 (.bl .nil)⟩
        | _ => exact P2.elim
      | err _ _ _ => rw [z] at P2; exact P2.elim
      | stuck => rw [z] at P2; exact P2.elim
  · rw [if_neg c] at P2; exact P2.elim
theorem e_eqO {ts : List String} (E : EqC X.K C f ts) (F : FnOk X.prog X.w X.K X.mg X.base (L2.CX X.prog X.w) k f fd ps (spS X.K ps.length D)) (h2 : ps.length = 2) (hb : Binds X.K fd ps []) (hr : Room k X.A) (ha : SE X W a ca) (hb' : SE X W b cb)
    (hm : behindInMarks .Eq b = false := by first | exact nomark _ (by decide) (by decide) | rfl) : SE X W (.Compare a [.Eq] [b] pos) (eEqO false C ts D ca cb) :=
  ⟨imp_pe (pe_cmpR (op_eqO E F h2 hb hr) ha.pe hb'.pe hm) fun σ H Q h => post_eqO h⟩
theorem e_neO {ts : List String} (E : EqC X.K C f ts) (F : FnOk X.prog X.w X.K X.mg X.base (L2.CX X.prog X.w) k f fd ps (spS X.K ps.length D)) (h2 : ps.length = 2) (hb : Binds X.K fd ps []) (hr : Room (k + 1) X.A) (ha : SE X W a ca) (hb' : SE X W b cb)
    (hm : behindInMarks .NotEq b = false := by first | exact nomark _ (by decide) (by decide) | rfl) : SE X W (.Compare a [.NotEq] [b] pos) (eEqO true C ts D ca cb) :=
  ⟨imp_pe (pe_cmpR (op_neO E F h2 hb hr) ha.pe hb'.pe hm) fun σ H Q h => post_eqO h⟩
end

/-! ### texts that are read -/
omit [Tabl] in
def fmtS : SV → Option SV
  | .int i => if i.natAbs.log2 < 1920 then some (.str (toString i)) else none
  | .str y => if y.length ≤ sizeLine then some (.str y) else none
  | _ => none
omit [Tabl] in
def eFmtS (c : Env → M SV) : Env → M SV := fun e => M.bind (c e) fun v => M.of (fmtS v)
omit [Tabl] in
def joinS : List (Env → M SV) → Str → Env → M SV
  | [], acc, _ => M.ret (.str acc)
  | c :: cs, acc, e => M.bind (c e) fun v => match v with
    | .str y => if (acc ++ y).length ≤ sizeLine then joinS cs (acc ++ y) e else fun _ => .stuck
    | _ => fun _ => .stuck
inductive SSL (X : Cx) (W : WX) : List Expr → List (Env → M SV) → Prop where
  | nil : SSL X W [] []
  | cons {e : Expr} {c : Env → M SV} {es : List Expr} {cs : List (Env → M SV)} (h : SE X W e c) (r : SSL X W es cs) : SSL X W (e :: es) (c :: cs)
omit [Tabl] in
def strF : List SV → SHp → Option SV := fun vs _ => match vs with
  | [.int i] => if i.natAbs.log2 < 1920 then some (.str (toString i)) else none
  | [.str y] => some (.str y)
  | _ => none
section
variable {X : Cx} {W : WX} {pos : Pos} {e : Expr} {c : Env → M SV}
theorem e_fmtS (he : SE X W e c) : SE X W (.FormattedValue e (-1) none pos) (eFmtS c) := ⟨imp_pe (pe_fmt he.pe) fun σ H Q ⟨ρ, h, env, R, RE, P⟩ => ⟨ρ, h, env, R, RE, (Post.bind (rel := relS X.K) P).mono fun x H1 ⟨ρ1, v, h1, E1, R1, r1, P1⟩ => by
  cases v with
  | int i =>
    simp only [fmtS] at P1
    by_cases c : i.natAbs.log2 < 1920
    · rw [if_pos c] at P1; cases r1; exact .inr ⟨i, rfl, c, P1 ρ1 H1 _ .refl R1 (.str .nil)⟩
    · rw [if_neg c] at P1; exact P1.elim
  | str y =>
    simp only [fmtS] at P1
    by_cases c : y.length ≤ sizeLine
    · rw [if_pos c] at P1; cases r1; exact .inl ⟨y, rfl, c, P1 ρ1 H1 _ .refl R1 (.str .nil)⟩
    · rw [if_neg c] at P1; exact P1.elim
  | _ => exact P1.elim⟩⟩
theorem joinS_run : ∀ {es : List Expr} {cs : List (Env → M SV)}, SSL X W es cs → ∃ ts, PJ X es ts ∧ ∀ (acc : Str) (σ : St) (H : Hp) (Q : VK) (ρ : Rho) (h : SHp) (env : Env), RelH X.K H ρ h → RelE X.K H ρ env σ →
    Post X.K W (relS X.K) σ ρ H (joinS cs acc env h) Q → tJs ts acc σ H fun out H1 => Q (.str out) H1
  | _, _, .nil => ⟨[], .nil, fun acc σ H Q ρ h env R RE P => P ρ H _ .refl R (.str .nil)⟩
  | _, _, @SSL.cons _ _ _ e c es cs hj hr => by
    obtain ⟨ts, hp, k⟩ := joinS_run hr
    refine ⟨_ :: ts, .cons hj.pe hp, fun acc σ H Q ρ h env R RE P => ⟨ρ, h, env, R, RE, (Post.bind (rel := relS X.K) P).mono fun x H1 ⟨ρ1, v, h1, E1, R1, r1, P1⟩ => ?_⟩⟩
    cases v with
    | str y =>
      cases r1
      by_cases c : (acc ++ y).length ≤ sizeLine
      · simp only [if_pos c] at P1
        exact ⟨y, rfl, c, k (acc ++ y) σ H1 Q ρ1 h1 env R1 (RE.mono R.holds E1) P1⟩
      · simp only [if_neg c] at P1; exact P1.elim
    | _ => exact P1.elim
theorem e_join {v1 v2 : Expr} {rest : List Expr} {cs : List (Env → M SV)} (h : SSL X W (v1 :: v2 :: rest) cs) : SE X W (.JoinedStr (v1 :: v2 :: rest) pos) (joinS cs Str.empty) := by
  obtain ⟨ts, hp, k⟩ := joinS_run h
  exact ⟨imp_pe (pe_joined hp) fun σ H Q ⟨ρ, h, env, R, RE, P⟩ => k Str.empty σ H Q ρ h env R RE P⟩
theorem b_strI : CallS X (.type "str") (fun vs h => match vs with | [.int i] => if i.natAbs.log2 < 1920 then some (.str (toString i)) else none | _ => none) := .of call_str_int fun xs H Q ρ h vs z R r e k => by
  split at e
  · rename_i i
    obtain ⟨x, us, rfl, rx, r⟩ := RelL.inv r; cases r; cases rx
    by_cases c : i.natAbs.log2 < 1920
    · rw [if_pos c] at e; cases e; exact ⟨i, rfl, c, k H _ .refl R (.str .nil)⟩
    · rw [if_neg c] at e; cases e
  · cases e
theorem b_strS : CallS X (.type "str") (fun vs h => match vs with | [.str y] => some (.str y) | _ => none) := .of SkE.call_str_str fun xs H Q ρ h vs z R r e k => by
  split at e
  · rename_i i
    obtain ⟨x, us, rfl, rx, r⟩ := RelL.inv r; cases r; cases rx; cases e
    exact ⟨_, rfl, k H _ .refl R (.str .nil)⟩
  · cases e
theorem CallS.imp {f : Value} {g g' : List SV → SHp → Option SV} (h : CallS X f g) (i : ∀ vs h z, g' vs h = some z → g vs h = some z) : CallS X f g' :=
  fun pins s σ H vs us Q I r q => h pins s σ H vs us Q I r (by
    obtain ⟨ρ, h, ws, z, R, rr, e, k⟩ := q
    exact ⟨ρ, h, ws, z, R, rr, i _ _ _ e, k⟩)
theorem b_str : CallS X (.type "str") strF := CallS.imp (.or b_strI b_strS) fun vs h z e => by
  unfold strF at e
  split at e
  · simp only; rw [e]; rfl
  · simpa using e
  · cases e
omit [Tabl] in
/-- str of an object with an own __str__ -/
structure StrC (K : PySem.W.Frag) (C f : Addr) : Prop where
  st : PySem.W.findIn K (.ref C) "__str__" = some (some (.ref f))
  fn : PySem.W.isFn K (.ref f) = true
omit [Tabl] in
def strO (C : Addr) (D : List SV → M SV) (vs : List SV) : M SV := fun h => match vs with
  | [v] => if instOf v h = some C then match D [v] h with
    | .ok (.str y) h' => .ok (.str y) h'
    | _ => .stuck
    else .stuck
  | _ => .stuck
omit [Tabl] in
def eStrO (C : Addr) (D : List SV → M SV) (c : Env → M SV) : Env → M SV := fun e => M.bind (c e) fun v => strO C D [v]
variable {k : Nat} {f C : Addr} {fd : FuncData} {ps : List Str} {D : List SV → M SV}
def rStrO (K : PySem.W.Frag) (C : Addr) (D : List SV → M SV) : List V → Hp → VK → Prop := fun xs H Q => ∃ a dx fv, xs = [.ref a] ∧ H a = some (.ins C dx fv) ∧ spS K 1 D [.ref a] H (fun v H' => ∃ y, v = .str y ∧ Q (.str y) H') (fun _ _ _ => False)
theorem call_strO (S : StrC X.K C f) (F : FnOk X.prog X.w X.K X.mg X.base (L2.CX X.prog X.w) k f fd ps (spS X.K ps.length D)) (h1 : ps.length = 1) (hb : Binds X.K fd ps []) (hr : Room (k + 2) X.A) : CallR X (.type "str") (rStrO X.K C D) := by
  intro pins s σ H xs us Q I r h
  obtain ⟨a, dx, fv, rfl, ha, sp⟩ := h
  obtain ⟨u, rfl, ru⟩ := vals1 r
  cases ru
  obtain ⟨mA, J, _⟩ := ins_get I.hok ha
  obtain ⟨od, J, _⟩ := J.look
  have hu := hr.units
  refine L2.str_ownK (by omega) I.kIn J S.st S.fn ?_
  refine call_any (vs := [.ref a]) F hb hr.in1.in1 rfl I (.cons rfl .nil) (by rw [h1]; rfl) (by rw [h1]; exact sp) fun w s' z H' I' rz hz => ?_
  obtain ⟨y, rfl, q⟩ := hz
  obtain ⟨t, rfl⟩ := rz
  exact ⟨y, t, rfl, .str y, H', I', ⟨t, rfl⟩, q⟩
theorem e_strO {p : Pos} (S : StrC X.K C f) (F : FnOk X.prog X.w X.K X.mg X.base (L2.CX X.prog X.w) k f fd ps (spS X.K ps.length D)) (h1 : ps.length = 1) (hb : Binds X.K fd ps []) (hr : Room (k + 2) X.A) (hm : X.mg "str" = none) (he : SE X W e c) (hg : Gl X "str" := by rfl)
    (hs : starEach [e] X.env = (false, eval e X.env) :: starEach [] X.env := by rfl) :
    SE X W (.Call (.Name "str" p) [e] [] pos) (eStrO C D c) :=
  ⟨imp_pe (pe_callTy (call_strO S F h1 hb hr) hg hm (by decide +kernel) (pa_cons he.pe pa_nil hs) (he := hs)) fun σ H Q ⟨ρ, h, env, R, RE, P⟩ => ⟨ρ, h, env, R, RE, (Post.bind (rel := relS X.K) P).mono fun x H1 ⟨ρ1, v, h2, E1, R1, r1, P1⟩ => by
    unfold strO at P1
    simp only at P1
    by_cases c : instOf v h2 = some C
    · rw [if_pos c] at P1
      obtain ⟨a, dx, fv, rfl, ha⟩ := inst_rel R1 r1 c
      refine ⟨a, dx, fv, rfl, ha, rfl, ρ1, h2, [v], R1, r1, ?_⟩
      cases z : D [v] h2 with
      | ok r h3 =>
        rw [z] at P1
        cases r with
        | str y => exact fun ρ3 H3 x3 E3 R3 r3 => by cases r3; exact ⟨y, rfl, P1 ρ3 H3 _ E3 R3 (.str .nil)⟩
        | _ => exact P1.elim
      | err _ _ _ => rw [z] at P1; exact P1.elim
      | stuck => rw [z] at P1; exact P1.elim
    · rw [if_neg c] at P1; exact P1.elim⟩⟩
end
end Sim

set_option Elab.async false
set_option linter.all false
set_option maxRecDepth 100000
set_option maxHeartbeats 4000000
namespace HT
open PySem PySem.Spec PyProof.Rows L2
section
variable {prog : Program} {w : World} {A : Around} {E : Value → Shared → Prop} {s : Shared}
theorem places_rev (n : Nat) : Builtin.Slice.slicePlaces ((n : Int) - 1) (-1) (-1) = n := by
  unfold Builtin.Slice.slicePlaces
  have h1 : ¬ ((-1 : Int) > 0) := by omega
  simp only [h1, if_false]
  split
  · have : (((n : Int) - 1 - -1 - 1) / - -1 + 1) = n := by rw [show (- -1 : Int) = 1 by rfl, Int.ediv_one]; omega
    rw [this]; simp
  · have : n = 0 := by omega
    subst this; rfl
theorem pick_rev (xs : Array Value) : ((List.range xs.size).filterMap fun (m : Nat) => xs[(((xs.size : Int) - 1) + (m : Int) * -1).toNat]?).toArray = xs.toList.reverse.toArray := by
  congr 1
  have key : ∀ n ≤ xs.size, (List.range n).filterMap (fun (m : Nat) => xs[(((xs.size : Int) - 1) + (m : Int) * -1).toNat]?) = xs.toList.reverse.take n := by
    intro n
    induction n with
    | zero => intro _; simp
    | succ n ih =>
      intro hn
      rw [List.range_succ, List.filterMap_append, ih (by omega), List.take_add_one]
      congr 1
      have e : (((xs.size : Int) - 1) + (n : Int) * -1).toNat = xs.size - 1 - n := by omega
      have hl : xs.size - 1 - n < xs.size := by omega
      have e2 : xs.toList.reverse[n]? = some xs[xs.size - 1 - n] := by
        rw [List.getElem?_reverse (by simp; omega)]
        simp [hl]
      rw [e2]
      simp only [List.filterMap_cons, List.filterMap_nil, e, Array.getElem?_eq_getElem hl, Option.toList_some]
  have := key xs.size (Nat.le_refl _)
  rw [this, List.take_of_length_le (by simp)]
theorem sliceApplied_rev {sl : Addr} {vl vu vs : Value} {n : Nat} {Q : Int × Int × Nat → Shared → Prop} (hs : s.heap.IsSliceOf sl vl vu vs) (pl : IsPart vl none) (pu : IsPart vu none) (ps : IsPart vs (some (-1)))
    (h : Q ((n : Int) - 1, -1, n) s) : wpAny (model prog w) A (Builtin.Slice.sliceApplied (.ref sl) (pure (n : Int))) Q E s := by
  obtain ⟨os, hos, hcs, hds⟩ := id hs
  unfold Builtin.Slice.sliceApplied Builtin.Slice.sliceFields
  refine wpAny_bind (wpAny_bind (wpAny_field hos hds (x := vl) rfl (wpAny_bind (wpAny_field hos hds (x := vu) rfl (wpAny_bind (wpAny_field hos hds (x := vs) rfl (wpAny_pure ?_)))))))
  refine wpAny_bind (slicePart_ ps ?_)
  show wpAny _ _ (if ((-1 : Int) == 0) = true then _ else _) _ _ s
  rw [if_neg (by decide)]
  refine wpAny_bind (slicePart_ pl (wpAny_bind (slicePart_ pu (wpAny_bind (wpAny_pure ?_)))))
  show wpAny _ _ (pure ((n : Int) - 1, (-1 : Int), Builtin.Slice.slicePlaces ((n : Int) - 1) (-1) (-1))) _ _ s
  rw [places_rev]
  exact wpAny_pure h
theorem getItem_tuple_rev {t sl : Addr} {items : Array Value} {vl vu vs : Value} {Q : Value → Shared → Prop} (ht : IsTup s.heap t items) (hs : s.heap.IsSliceOf sl vl vu vs) (pl : IsPart vl none) (pu : IsPart vu none) (ps : IsPart vs (some (-1)))
    (h : Q (.ref s.heap.objs.size) { s with heap := s.heap.push { cls := .type "tuple", data := .seq items.toList.reverse.toArray } })
    (hsz : items.size ≤ sizeLine) : wpAny (model prog w) A (getItem (.ref t) (.ref sl)) Q E s := by
  have htake : sizeOk (.seq items.toList.reverse.toArray) := by
    show items.toList.reverse.toArray.size ≤ sizeLine
    rw [List.size_toArray, List.length_reverse, Array.length_toList]
    omega
  obtain ⟨os, hos, hcs, hds⟩ := id hs
  have hTs : s.TypeIs (.ref sl) "slice" := ⟨os, hos, hcs⟩
  unfold getItem
  try with_reducible refine wpAny_holding ?_
  first | refine wpAny_bind (wpAny_pure ?_) | skip
  refine wpAny_bind (wpAny_sequenceKey ht.typeIs (by decide) ?_)
  refine wpAny_bind (wpAny_callSpecial?_slot (name := Str.ofString "__getitem__") ht.typeIs PyProof.Rows.slot_tuple_getitem
    (wpAny_call_entry PyProof.Rows.slot_tuple_getitem ht.typeIs entry_tuple_getitem ?_ (args_tuple_getitem _ _)))
  show wpAny _ _ (Builtin.Tuple.tupleItemsOf (.ref t) >>= _) _ _ s
  refine wpAny_bind (tupleItemsOf_ ht ?_)
  refine wpAny_bind (wpAny_typeOf hTs ?_)
  rw [if_pos (by decide)]
  refine wpAny_bind (sliceApplied_rev hs pl pu ps ?_)
  show wpAny _ _ (if (((items.size : Int) - 1) == 0 && (-1 : Int) == 1 && items.size == items.size) = true then _ else _) _ _ s
  rw [if_neg (by simp), pick_rev]
  first
    | exact wpAny_bind (m := Builtin.Tuple.tupleExact _) (wpAny_newObj_type (wpAny_pure ⟨_, rfl, wpAny_pure h⟩) htake)
    | exact wpAny_bind (m := Builtin.Tuple.tupleExact _) (wpAny_newObj_type (wpAny_bind (wpAny_pure (wpAny_pure ⟨_, rfl, wpAny_pure h⟩))) htake)
    | exact wpAny_bind (wpAny_bind (m := Builtin.Tuple.tupleExact _) (wpAny_newObj_type (wpAny_pure (wpAny_pure ⟨_, rfl, wpAny_pure h⟩)) htake))
    | exact wpAny_bind (wpAny_bind (m := Builtin.Tuple.tupleExact _) (wpAny_newObj_type (wpAny_pure ⟨_, rfl, wpAny_pure h⟩) htake))
end
end HT
namespace L2
open PySem PySem.Spec PyProof.Rows
section
variable {X : Cx}
def tRevA (K : PySem.W.Frag) (te : TE) : TE := fun σ H Q => te σ H fun x H1 => ∃ a xs, x = .ref a ∧ ((SqL K H1 a xs ∧ ∀ p, H1 p = none → Q (.ref p) (upd H1 p (.lst xs.reverse))) ∨ (SqT K H1 a xs ∧ ∀ p, H1 p = none → Q (.ref p) (upd H1 p (.tup xs.reverse))))
theorem pe_revA {e : Expr} {te : TE} {k : Nat} {p1 p2 p3 pos : Pos} (he : PE X e te) : PE X (.Subscript e (.Slice none none (some (.UnaryOp .USub (.Constant (.int 1) k p1) p2)) p3) pos) (tRevA X.K te) := by
  refine ⟨fun pins s σ H Q I h => ?_⟩
  refine Subscript_ (thn (he.run pins s σ H _ I h) fun v s1 ⟨x, H1, I1, r1, q1⟩ => ?_)
  obtain ⟨a, xs, ex, hx⟩ := q1
  subst ex
  cases r1
  have hst : PO X (some (.UnaryOp .USub (.Constant (.int 1) k p1) p2)) (tPart (tUn (rU fun i => .int (-i)) (tC (.int 1)))) := po_some (pe_un un_neg pe_int)
  refine wpAny_Slice (thn (po_none.run pins s1 σ H1 (fun o H2 => o = none ∧ H2 = H1) I1 ⟨rfl, rfl⟩) fun vl s2 ⟨l, H2, I2, pl, el, e2⟩ => ?_)
  subst el e2
  refine thn (po_none.run pins s2 σ H2 (fun o H3 => o = none ∧ H3 = H2) I2 ⟨rfl, rfl⟩) fun vu s3 ⟨u, H3, I3, pu, eu, e3⟩ => ?_
  subst eu e3
  refine thn (hst.run pins s3 σ H3 (fun o H4 => o = some (-1) ∧ H4 = H3) I3 ⟨1, rfl, -1, rfl, rfl, rfl⟩) fun vs s4 ⟨o, H4, I4, ps, eo, e4⟩ => ?_
  subst eo e4
  have I5 : Inv X pins σ H4 { s4 with heap := s4.heap.push { cls := .type "slice", data := .fields #[vl, vu, vs] } } := I4.kept (t' := s4.toks) fun b ob q => Heap.get?_push_of_some _ q
  show wpAny (model X.prog X.w) X.A (subscriptTail e (.Slice none none (some (.UnaryOp .USub (.Constant (.int 1) k p1) p2)) p3) (.ref a) (.ref s4.heap.objs.size)) (EP X pins σ Q) X.xe { s4 with heap := s4.heap.push { cls := .type "slice", data := .fields #[vl, vu, vs] } }
  rcases hx with ⟨hx, q⟩ | ⟨hx, q⟩
  · obtain ⟨its, r, ht, hz⟩ := I5.list hx
    have hlen := r.length
    refine tail_any (ops := [.ref a, .ref s4.heap.objs.size]) ht.isList.typeIs (PySem.slot_list_getitem.lookup) ?_ (by with_unfolding_all rfl)
    refine wpAny_getItem_list_slice ht.isList (Heap.IsSliceOf.new _ vl vu vs) pl pu ps (by decide) ?_ (by rw [List.size_toArray]; omega)
    rw [PySem.W.krv_pick]
    refine ⟨.ref _, _, I5.laid (t' := s4.toks) (o := .lst xs.reverse) (fun b ob q => Heap.get?_push_of_some _ q) (Nat.le_refl _) ?_, rfl, q _ (I5.hok.fresh (Nat.le_refl _))⟩
    exact ⟨by rw [List.length_reverse]; exact hz, _, 0, r.reverse, Heap.get?_push_size _ rfl⟩
  · obtain ⟨its, r, ht, hz⟩ := I5.tuple hx
    have hlen := r.length
    refine tail_any (ops := [.ref a, .ref s4.heap.objs.size]) ht.typeIs (PyProof.Rows.slot_tuple_getitem.lookup) ?_ (by with_unfolding_all rfl)
    refine HT.getItem_tuple_rev ht (Heap.IsSliceOf.new _ vl vu vs) pl pu ps ?_ (by rw [List.size_toArray]; omega)
    refine ⟨.ref _, _, I5.laid (t' := s4.toks) (o := .tup xs.reverse) (fun b ob q => Heap.get?_push_of_some _ q) (Nat.le_refl _) ?_, rfl, q _ (I5.hok.fresh (Nat.le_refl _))⟩
    exact ⟨by rw [List.length_reverse]; exact hz, _, by simpa using r.reverse, IsTup.new _ _⟩
/-- set(t), t a tuple of ints -/
def rSetT (K : PySem.W.Frag) (w : World) : List V → Hp → VK → Prop := fun xs H Q => ∃ (l : Addr) (ns : List Int), xs = [.ref l] ∧ SqT K H l (ns.map V.int) ∧ ns.length + 1 < scanBound ∧
  ∀ p c, H p = none → c ≤ ns.length → Q (.ref p) (upd H p (SetO w p (fun j => decide (j ∈ ns)) c))
theorem cr_setT (hc : X.calm = true) : CallR X (.type "set") (rSetT X.K X.w) := by
  intro pins s σ H xs us Q I r h
  obtain ⟨l, ns, rfl, hl, hb, q⟩ := h
  obtain ⟨u, rfl, ru⟩ := vals1 r
  cases ru
  obtain ⟨its, rv, ht, _⟩ := I.tuple hl
  refine call_set_tupI ns (I.ok.hd hc) ht (by simpa using rv.ints) hb fun h' tk c hS hcn hk => ?_
  exact ⟨.ref _, upd H s.heap.objs.size (SetO X.w s.heap.objs.size (fun j => decide (j ∈ ns)) c), I.laid (t' := tk) hk (Nat.le_refl _) (setO_new hS), rfl, q _ c (I.hok.fresh (Nat.le_refl _)) hcn⟩
end
end L2
namespace Sim
open PySem L2
variable [Tabl]
omit [Tabl] in
def revF (v : SV) (h : SHp) : Option SV := match v with
  | .tup xs => some (.tup xs.reverse)
  | .rls xs => some (.rls xs.reverse)
  | .frl xs => some (.rls xs.reverse)
  | .ref n => (listOf (.ref n) h).map fun xs => .rls xs.reverse
  | _ => none
omit [Tabl] in
def eRev (c : Env → M SV) : Env → M SV := fun e => M.bind (c e) fun v => fun h => M.of (revF v h) h
theorem RelL.reverse {K : PySem.W.Frag} {H : Hp} {ρ : Rho} : ∀ {xs : List SV} {us : List V}, RelL K H ρ xs us → RelL K H ρ xs.reverse us.reverse
  | [], _, r => by rw [r.nil_inv]; exact .nil
  | x :: xs, _, r => by
    obtain ⟨v, us, rfl, a, q⟩ := r.inv
    rw [List.reverse_cons, List.reverse_cons]
    exact (RelL.reverse q).snoc a
omit [Tabl] in
/-- the ints of a list, each once, ascending -/
def setL : List Int → List Int
  | [] => []
  | x :: xs => insS x (setL xs)
where
  insS (x : Int) : List Int → List Int
    | [] => [x]
    | y :: ys => if x < y then x :: y :: ys else if x = y then y :: ys else y :: insS x ys
theorem insS_mem {x z : Int} : ∀ {ys : List Int}, z ∈ setL.insS x ys ↔ z = x ∨ z ∈ ys
  | [] => by simp [setL.insS]
  | y :: ys => by
    unfold setL.insS
    by_cases c : x < y
    · rw [if_pos c]; simp
    · rw [if_neg c]
      by_cases d : x = y
      · rw [if_pos d]; subst d; simp
      · rw [if_neg d]; simp [insS_mem]; constructor <;> (intro q; rcases q with q | q | q <;> simp [q])
theorem insS_asc {x : Int} : ∀ {ys : List Int}, ys.Pairwise (· < ·) → (setL.insS x ys).Pairwise (· < ·)
  | [], _ => by simp [setL.insS]
  | y :: ys, h => by
    have h1 := List.pairwise_cons.mp h
    unfold setL.insS
    by_cases c : x < y
    · rw [if_pos c]
      refine List.pairwise_cons.mpr ⟨fun z hz => ?_, h⟩
      rcases List.mem_cons.mp hz with rfl | hz
      · exact c
      · have := h1.1 z hz; omega
    · rw [if_neg c]
      by_cases d : x = y
      · rw [if_pos d]; exact h
      · rw [if_neg d]
        refine List.pairwise_cons.mpr ⟨fun z hz => ?_, insS_asc h1.2⟩
        rcases insS_mem.mp hz with rfl | hz
        · omega
        · exact h1.1 z hz
theorem setL_mem {z : Int} : ∀ {xs : List Int}, z ∈ setL xs ↔ z ∈ xs
  | [] => by simp [setL]
  | x :: xs => by simp [setL, insS_mem, setL_mem]
theorem setL_asc : ∀ (xs : List Int), (setL xs).Pairwise (· < ·)
  | [] => by simp [setL]
  | x :: xs => insS_asc (setL_asc xs)
theorem asc_eq : ∀ {xs ys : List Int}, xs.Pairwise (· < ·) → ys.Pairwise (· < ·) → (∀ z, z ∈ xs ↔ z ∈ ys) → xs = ys
  | [], [], _, _, _ => rfl
  | [], y :: ys, _, _, h => by have := (h y).mpr (by simp); simp at this
  | x :: xs, [], _, _, h => by have := (h x).mp (by simp); simp at this
  | x :: xs, y :: ys, hx, hy, h => by
    have h1 := List.pairwise_cons.mp hx
    have h2 := List.pairwise_cons.mp hy
    have e : x = y := by
      have a := (h x).mp (by simp)
      have b := (h y).mpr (by simp)
      rcases List.mem_cons.mp a with a | a
      · exact a
      · rcases List.mem_cons.mp b with b | b
        · exact b.symm
        · have := h1.1 y b; have := h2.1 x a; omega
    subst e
    rw [asc_eq h1.2 h2.2 fun z => ?_]
    constructor
    · intro hz
      have := h1.1 z hz
      rcases List.mem_cons.mp ((h z).mp (List.mem_cons_of_mem _ hz)) with q | q
      · omega
      · exact q
    · intro hz
      have := h2.1 z hz
      rcases List.mem_cons.mp ((h z).mpr (List.mem_cons_of_mem _ hz)) with q | q
      · omega
      · exact q
theorem setL_len (xs : List Int) : (setL xs).length ≤ xs.length := by
  induction xs with
  | nil => simp [setL]
  | cons x xs ih =>
    have : ∀ ys : List Int, (setL.insS x ys).length ≤ ys.length + 1 := by
      intro ys
      induction ys with
      | nil => simp [setL.insS]
      | cons y ys ih => unfold setL.insS; split; simp; split; simp; simp; omega
    have := this (setL xs)
    simp [setL]; omega
omit [Tabl] in
/-- the numbers of a tuple -/
def tupInts (v : SV) : Option (List Int) := match v with
  | .tup xs => (intsOf xs).bind fun ns => if ns.length < 60 then some ns else none
  | _ => none
omit [Tabl] in
def eSrtSet (c : Env → M SV) : Env → M SV := fun e => M.bind (c e) fun v => M.of ((tupInts v).map fun ns => .rls ((setL ns).map .int))
omit [Tabl] in
def eLenSet (c : Env → M SV) : Env → M SV := fun e => M.bind (c e) fun v => M.of ((tupInts v).map fun ns => .int (setL ns).length)
section
variable {X : Cx} {W : WX} {pos : Pos} {e : Expr} {c : Env → M SV}
theorem e_rev {k : Nat} {p1 p2 p3 : Pos} (he : SE X W e c) : SE X W (.Subscript e (.Slice none none (some (.UnaryOp .USub (.Constant (.int 1) k p1) p2)) p3) pos) (eRev c) :=
  ⟨imp_pe (pe_revA he.pe) fun σ H Q ⟨ρ, h, env, R, RE, P⟩ => ⟨ρ, h, env, R, RE, (Post.bind (rel := relS X.K) P).mono fun x H1 ⟨ρ1, v, h1, E1, R1, r1, P1⟩ => by
    have lst : ∀ xs, listOf v h1 = some xs → Post X.K W (relS X.K) σ ρ1 H1 (.ok (.rls xs.reverse) h1) Q → ∃ a xs, x = .ref a ∧ ((SqL X.K H1 a xs ∧ ∀ p, H1 p = none → Q (.ref p) (upd H1 p (.lst xs.reverse))) ∨ (SqT X.K H1 a xs ∧ ∀ p, H1 p = none → Q (.ref p) (upd H1 p (.tup xs.reverse)))) := fun xs q P1 => by
      obtain ⟨a, us, rfl, hq, rr⟩ := list_rel R1 q r1
      exact ⟨a, us, rfl, .inl ⟨hq, fun p hp => P1 ρ1 _ _ (.fresh hp) (R1.fresh hp) (rel_rls R1 hp (RelL.reverse rr))⟩⟩
    cases v with
    | tup xs =>
      obtain ⟨a, us, rfl, hq, rr⟩ := tup_rel1 r1
      exact ⟨a, us, rfl, .inr ⟨.of hq, fun p hp => P1 ρ1 _ _ (.fresh hp) (R1.fresh hp) (rel_tup R1 hp (RelL.reverse rr))⟩⟩
    | rls xs => exact lst xs rfl P1
    | frl xs => exact lst xs rfl P1
    | ref n =>
      simp only [revF] at P1
      cases q : listOf (.ref n) h1 with
      | none => rw [q] at P1; exact P1.elim
      | some xs => rw [q] at P1; exact lst xs q P1
    | _ => exact P1.elim⟩⟩
theorem tupInts_rel {K : PySem.W.Frag} {H : Hp} {ρ : Rho} {v : SV} {x : V} {ns : List Int} (e : tupInts v = some ns) (r : RelS K H ρ v x) : ∃ l, x = .ref l ∧ SqT K H l (ns.map V.int) ∧ ns.length < 60 := by
  cases v with
  | tup xs =>
    simp only [tupInts] at e
    cases q : intsOf xs with
    | none => simp [q] at e
    | some ms =>
      simp [q] at e
      obtain ⟨e1, rfl⟩ := e
      obtain ⟨a, us, rfl, hq, rr⟩ := tup_rel r
      rw [ints_rel rr q] at hq
      exact ⟨a, rfl, hq, e1⟩
  | _ => cases e
theorem e_srtSet {p q p0 pos0 : Pos} (hc : X.calm = true) (m1 : X.mg "sorted" = none) (m2 : X.mg "set" = none) (he : SE X W e c) (g1 : Gl X "sorted" := by rfl) (g2 : Gl X "set" := by rfl)
    (hs : starEach [e] X.env = (false, eval e X.env) :: starEach [] X.env := by rfl) (hs2 : starEach [Expr.Call (.Name "set" p) [e] [] q] X.env = (false, eval (Expr.Call (.Name "set" p) [e] [] q) X.env) :: starEach [] X.env := by rfl) :
    SE X W (.Call (.Name "sorted" p0) [.Call (.Name "set" p) [e] [] q] [] pos0) (eSrtSet c) := by
  have inner : PE X (.Call (.Name "set" p) [e] [] q) (tCB (rSetT X.K X.w) (tCons (tS X.K W c) tNil)) := pe_callTy (cr_setT hc) g2 m2 (by decide +kernel) (pa_cons he.pe pa_nil hs) (he := hs)
  refine ⟨imp_pe (pe_callB (cr_sortedSet hc) g1 m1 (by decide +kernel) (pa_cons inner pa_nil hs2) (he := hs2)) fun σ H Q ⟨ρ, h, env, R, RE, P⟩ => ⟨ρ, h, env, R, RE, (Post.bind (rel := relS X.K) P).mono fun x H1 ⟨ρ1, v, h1, E1, R1, r1, P1⟩ => ?_⟩⟩
  cases e2 : tupInts v with
  | none => rw [e2] at P1; exact P1.elim
  | some ns =>
    rw [e2] at P1
    obtain ⟨l, rfl, hl, hn⟩ := tupInts_rel e2 r1
    refine ⟨l, ns, rfl, hl, by unfold scanBound; omega, fun p c hp hcn => ⟨p, _, c, rfl, upd_same, by omega, fun ms p2 has hmem _ hp2 => ?_⟩⟩
    have em : ms = setL ns := asc_eq has (setL_asc ns) fun z => by rw [hmem z, setL_mem]; simp
    subst em
    have hp2' : H1 p2 = none := by
      by_cases z : p2 = p
      · rw [z]; exact hp
      · rw [upd_ne z] at hp2; exact hp2
    have R2 := R1.fresh (o := SetO X.w p (fun j => decide (j ∈ ns)) c) hp
    have E2 : Ext ρ1 H1 ρ1 (upd H1 p (SetO X.w p (fun j => decide (j ∈ ns)) c)) := .fresh hp
    exact P1 ρ1 _ _ (E2.tr (.fresh hp2)) (R2.fresh hp2) (rel_rls R2 hp2 (rel_ints _))
end
end Sim

set_option Elab.async false
set_option linter.all false
set_option maxRecDepth 100000
set_option maxHeartbeats 4000000
namespace Sim
open PySem L2
variable [Tabl]
omit [Tabl] in
/-- a list that is no list of the text -/
def lstOf (v : SV) (h : SHp) : Option (List SV) := match v with
  | .rls xs => some xs
  | .ref n => match h[n]? with
    | some (.lst xs) => some xs
    | _ => none
  | _ => none
theorem lst_rel {K : PySem.W.Frag} {H : Hp} {ρ : Rho} {h : SHp} {v : SV} {x : V} {xs : List SV} (R : RelH K H ρ h) (e : lstOf v h = some xs) (r : RelS K H ρ v x) : ∃ a us, x = .ref a ∧ H a = some (.lst us) ∧ RelL K H ρ xs us := by
  cases v with
  | rls ys => cases e; cases r with
    | rls h _ a _ => exact ⟨_, _, rfl, h, a⟩
  | ref n =>
    unfold lstOf at e
    cases q : h[n]? with
    | none => simp [q] at e
    | some o =>
      obtain ⟨a, ha, ob⟩ := R.ob n o q
      cases r with
      | ref hi _ =>
        rw [hi] at ha; cases ha
        cases o with
        | lst zs => simp [q] at e; subst e; obtain ⟨us, h1, h2⟩ := ob; exact ⟨_, _, rfl, h1, h2⟩
        | _ => simp [q] at e
  | _ => cases e
omit [Tabl] in
/-- xs + ys, a list that goes on changing -/
def eAddNew (a b : Env → M SV) : Env → M SV := fun e => M.bind (a e) fun v => M.bind (b e) fun w => fun h => match lstOf v h, lstOf w h with
  | some xs, some ys => if xs.length + ys.length ≤ sizeLine then .ok (.ref h.length) (h ++ [.lst (xs ++ ys)]) else .stuck
  | _, _ => .stuck
section
variable {X : Cx} {W : WX} {pos : Pos} {a b : Expr} {ca cb : Env → M SV}
theorem e_addNew (ha : SE X W a ca) (hb : SE X W b cb) : SE X W (.BinOp a .Add b pos) (eAddNew ca cb) :=
  ⟨imp_pe (pe_op op_cat ha.pe hb.pe) fun σ H Q ⟨ρ, h, env, R, RE, P⟩ => ⟨ρ, h, env, R, RE, (Post.bind (rel := relS X.K) P).mono fun x H1 ⟨ρ1, v, h1, E1, R1, r1, P1⟩ =>
    ⟨ρ1, h1, env, R1, RE.mono R.holds E1, (Post.bind (rel := relS X.K) P1).mono fun y H2 ⟨ρ2, w, h2, E2, R2, r2, P2⟩ => by
      have r1' := r1.mono R1.holds E2
      cases q1 : lstOf v h2 with
      | none => simp only [q1] at P2; exact P2.elim
      | some xs =>
        cases q2 : lstOf w h2 with
        | none => simp only [q1, q2] at P2; exact P2.elim
        | some ys =>
          simp only [q1, q2] at P2
          by_cases c : xs.length + ys.length ≤ sizeLine
          · rw [if_pos c] at P2
            obtain ⟨l, us, rfl, hl, rl⟩ := lst_rel R2 q1 r1'
            obtain ⟨m, ws, rfl, hm, rm⟩ := lst_rel R2 q2 r2
            refine ⟨l, m, us, ws, rfl, rfl, hl, hm, by rw [← rl.length, ← rm.length]; exact c, fun p hp => ?_⟩
            have Ea : Ext ρ2 H2 (ρ2.add p) (upd H2 p (.lst (us ++ ws))) := .alloc hp
            refine P2 (ρ2.add p) _ _ Ea (R2.alloc hp ⟨_, upd_same, (rl.app rm).mono R2.holds Ea⟩) (.ref ?_ .nil)
            rw [← R2.len]; simp [Rho.add]
          · rw [if_neg c] at P2; exact P2.elim⟩⟩⟩
/-- own == as a test -/
theorem t_eqO {k : Nat} {f C : Addr} {fd : FuncData} {ps : List Str} {D : List SV → M SV} {ts : List String} (E : EqC X.K C f ts) (F : FnOk X.prog X.w X.K X.mg X.base (L2.CX X.prog X.w) k f fd ps (spS X.K ps.length D)) (h2 : ps.length = 2) (hb : Binds X.K fd ps []) (hr : Room k X.A) (ha : SE X W a ca) (hb' : SE X W b cb)
    (hm : behindInMarks .Eq b = false := by first | exact nomark _ (by decide) (by decide) | rfl) : ST X W (.Compare a [.Eq] [b] pos) (eTst (eEqO false C ts D ca cb)) :=
  ⟨imp_pt (pt_cmpR (op_eqO E F h2 hb hr) ha.pe hb'.pe hm) fun σ H Q h => by
    obtain ⟨ρ, h, env, R, RE, P⟩ := post_tst h
    exact post_eqO ⟨ρ, h, env, R, RE, P⟩⟩
theorem t_neO {k : Nat} {f C : Addr} {fd : FuncData} {ps : List Str} {D : List SV → M SV} {ts : List String} (E : EqC X.K C f ts) (F : FnOk X.prog X.w X.K X.mg X.base (L2.CX X.prog X.w) k f fd ps (spS X.K ps.length D)) (h2 : ps.length = 2) (hb : Binds X.K fd ps []) (hr : Room (k + 1) X.A) (ha : SE X W a ca) (hb' : SE X W b cb)
    (hm : behindInMarks .NotEq b = false := by first | exact nomark _ (by decide) (by decide) | rfl) : ST X W (.Compare a [.NotEq] [b] pos) (eTst (eEqO true C ts D ca cb)) :=
  ⟨imp_pt (pt_cmpR (op_neO E F h2 hb hr) ha.pe hb'.pe hm) fun σ H Q h => by
    obtain ⟨ρ, h, env, R, RE, P⟩ := post_tst h
    exact post_eqO ⟨ρ, h, env, R, RE, P⟩⟩
omit [Tabl] in
/-- what a class of exceptions must have to be raised -/
structure RaiseC (K : PySem.W.Frag) (C : Addr) : Prop where
  ex : ∃ B newId initId bmB, ExcBaseFacts B newId initId bmB ∧ PySem.W.excIn K C bmB newId = true
  kC : PySem.W.keepIn K (.ref C) = true
  bC : PySem.W.subIn K (.ref C) (.type "BaseException") = some true
  tC : PySem.W.typeIn K (.ref C) = some (.type "type")
theorem s_raiseC {C : Addr} {x : Str} {e : Expr} {cu : Env → M Unit} {p pos' : Pos} (T : RaiseC X.K C) (gC : X.mg x = some (.ref C)) (hc : X.calm = true) (tk : Takes X W) (he : SU X W e cu) (hg : Gl X x := by rfl) (hs : starEach [e] X.env = (false, eval e X.env) :: starEach [] X.env := by rfl) (hdb : (x == ("__debug__" : Str)) = false := by decide) :
    SS X W (.Raise (some (.Call (.Name x p) [e] [] pos)) none pos') (cRaise C cu) := by
  obtain ⟨B, newId, initId, bmB, F, q⟩ := T.ex
  exact s_raise F q T.kC T.bC T.tC gC hc tk he hg hs hdb
end
theorem raise_VE {K : PySem.W.Frag} {C : Addr} (q : PySem.W.excIn K C [.type "ValueError", .type "Exception", .type "BaseException", .type "object"] "ValueError.__new__" = true) (kC : PySem.W.keepIn K (.ref C) = true) (bC : PySem.W.subIn K (.ref C) (.type "BaseException") = some true) (tC : PySem.W.typeIn K (.ref C) = some (.type "type")) : RaiseC K C :=
  ⟨⟨_, _, _, _, PySem.F.excBase_ValueError, q⟩, kC, bC, tC⟩
theorem catch_one {K : PySem.W.Frag} {C : Addr} (h : PySem.W.exmOne K (.ref C) (.ref C) = some true) : ∀ c k, (fun c => if c = C then some true else none : Addr → Option Bool) c = some k → PySem.W.exmOne K (.ref c) (.ref C) = some k := fun c k e => by
  simp only at e
  by_cases z : c = C
  · rw [if_pos z] at e; cases e; rw [z]; exact h
  · rw [if_neg z] at e; cases e
/-- a recursion that goes no further -/
theorem FnOk.zero {P : Program} {w : World} {K : PySem.W.Frag} {mg : Str → Option Value} {base : Heap} {CX : CXT} {k : Nat} {f : Addr} {fd : FuncData} {ps : List Str} : FnOk P w K mg base CX k f fd ps (spS K ps.length fun _ _ => .stuck) :=
  ⟨fun vs H Q E ⟨h, _⟩ => h, fun A outer s H args us vs Q E hr e0 hb r ⟨_, ρ, h, as, R, ra, P⟩ => P.elim⟩
end Sim

set_option Elab.async false
set_option linter.all false
set_option maxRecDepth 100000
set_option maxHeartbeats 4000000
namespace Sim
open PySem L2
variable [Tabl]
omit [Tabl] in
/-- whether a value counts as true -/
def truF (v : SV) (h : SHp) : Option Bool := match v with
  | .bl b => some b
  | .non => some false
  | .int i => some (decide (i ≠ 0))
  | v => (seqOf v h).map fun xs => !xs.isEmpty
omit [Tabl] in
def tru (c : Env → M SV) : Env → M Bool := fun e => M.bind (c e) fun v => fun h => M.of (truF v h) h
omit [Tabl] in
def eNotT (c : Env → M SV) : Env → M SV := fun e => M.bind (tru c e) fun k => M.ret (.bl (!k))
theorem RelL.isEmpty {K : PySem.W.Frag} {H : Hp} {ρ : Rho} {xs : List SV} {us : List V} (r : RelL K H ρ xs us) : us.isEmpty = xs.isEmpty := by
  have := r.length
  cases xs <;> cases us <;> simp_all
theorem tru_rel {K : PySem.W.Frag} {H : Hp} {ρ : Rho} {h : SHp} {v : SV} {x : V} {k : Bool} (R : RelH K H ρ h) (e : truF v h = some k) (r : RelS K H ρ v x) : L2.TruV K x H k := by
  have seq : ∀ xs, seqOf v h = some xs → k = (!xs.isEmpty) → L2.TruV K x H k := fun xs q ek => by
    obtain ⟨a, us, rfl, hq, rr⟩ := seq_rel R q r
    rw [← rr.isEmpty] at ek
    rcases hq with hq | hq
    · exact .inl ⟨us, hq, ek⟩
    · exact .inr (.inl ⟨us, hq, ek⟩)
  have gen : (seqOf v h).map (fun xs => !xs.isEmpty) = some k → L2.TruV K x H k := fun q => by
    cases z : seqOf v h with
    | none => rw [z] at q; cases q
    | some xs => rw [z] at q; simp only [Option.map_some, Option.some.injEq] at q; exact seq xs z q.symm
  cases v with
  | bl b => cases e; cases r; rfl
  | non => cases e; cases r; rfl
  | int i =>
    cases e; cases r
    show decide (i ≠ 0) = (i != 0)
    by_cases c : i = 0 <;> simp [c]
  | _ => exact gen e
section
variable {X : Cx} {W : WX} {pos : Pos} {a : Expr} {ca : Env → M SV}
theorem tru_post {σ : St} {H : Hp} {Q : Bool → Hp → Prop} (h : tB X.K W (tru ca) σ H Q) : tS X.K W ca σ H fun x H1 => ∃ k, L2.TruV X.K x H1 k ∧ Q k H1 := by
  obtain ⟨ρ, h, env, R, RE, P⟩ := h
  refine ⟨ρ, h, env, R, RE, (Post.bind (rel := relS X.K) P).mono fun x H1 ⟨ρ1, v, h1, E1, R1, r1, P1⟩ => ?_⟩
  cases z : truF v h1 with
  | none => rw [z] at P1; exact P1.elim
  | some k => rw [z] at P1; exact ⟨k, tru_rel R1 z r1, P1 ρ1 H1 k .refl R1 rfl⟩
theorem t_tru (ha : SE X W a ca) (he : ∀ whole, isTrue a X.env whole = (do let v ← whole; standAt a.pos; holding [v] (truthy v)) := by intro _; rfl) : ST X W a (tru ca) :=
  ⟨imp_pt (pt_truth ha.pe he) fun σ H Q h => tru_post h⟩
theorem e_notT (ha : SE X W a ca) : SE X W (.UnaryOp .Not a pos) (eNotT ca) :=
  ⟨imp_pe (pe_notT ha.pe) fun σ H Q ⟨ρ, h, env, R, RE, P⟩ => by
    obtain ⟨ρ', h', env', R', RE', P'⟩ := tru_post (Q := fun k H1 => Q (.bl (!k)) H1) ⟨ρ, h, env, R, RE, (Post.bind (rel := relT) P).mono fun k H1 ⟨ρ1, k', h1, E1, R1, r1, P1⟩ => by
      cases r1; exact P1 ρ1 H1 _ .refl R1 (.bl .nil)⟩
    exact ⟨ρ', h', env', R', RE', P'⟩⟩
end
/-! ### facts of classes -/
omit [Tabl] in
theorem kitCls_of {K : PySem.W.Frag} {S : Addr} {t : Value} {b : Bool} (h2 : PySem.W.isClsIn K S = true) (h3 : PySem.W.typeIn K (.ref S) = some (.type "type")) (h4 : PySem.W.subIn K t (.ref S) = some b) : PySem.W.kitCls K t (.ref S) = some b := by
  have e2 : ((PySem.W.clsIn K S).isSome && PySem.W.typeIn K (.ref S) == some (.type "type")) = true := by
    have h2' : (PySem.W.clsIn K S).isSome = true := h2
    rw [h2', h3] <;> rfl
  show (if ((PySem.W.clsIn K S).isSome && PySem.W.typeIn K (.ref S) == some (.type "type")) = true then PySem.W.subIn K t (.ref S) else none) = some b
  rw [if_pos e2]
  exact h4
omit [Tabl] in
theorem exm_of {K : PySem.W.Frag} {S T : Addr} {b : Bool} (h1 : PySem.W.subIn K (.ref S) (.type "BaseException") = some true) (h2 : PySem.W.isClsIn K S = true) (h3 : PySem.W.typeIn K (.ref S) = some (.type "type")) (h4 : PySem.W.subIn K (.ref T) (.ref S) = some b) :
    PySem.W.exmOne K (.ref T) (.ref S) = some b := by
  have e1 : (PySem.W.subIn K (.ref S) (.type "BaseException") == some true) = true := by rw [h1] <;> rfl
  show (if (PySem.W.subIn K (.ref S) (.type "BaseException") == some true) = true then PySem.W.kitCls K (.ref T) (.ref S) else none) = some b
  rw [if_pos e1]
  exact kitCls_of h2 h3 h4
omit [Tabl] in
theorem kit_no {K : PySem.W.Frag} {S : Addr} {t : String} (h2 : PySem.W.isClsIn K S = true) (h3 : PySem.W.typeIn K (.ref S) = some (.type "type")) (h4 : PySem.W.subIn K (.type t) (.ref S) = some false) : PySem.W.kitOne K (.type t) (.ref S) = some false := by
  unfold PySem.W.kitOne
  rw [if_neg (by simp)]
  exact kitCls_of h2 h3 h4
end Sim

set_option Elab.async false
set_option linter.all false
set_option maxRecDepth 100000
set_option maxHeartbeats 4000000
namespace Sim
open PySem PySem.Spec PyProof.Rows L2
open Builtin Builtin.ObjectAttr
variable [Tabl]
/-! ### own exceptions that keep one value -/
/-- what such a class must have -/
structure KeepC (K : PySem.W.Frag) (C fI : Addr) (f : Str) : Prop where
  ex : ∃ (B newId initId : String) (tl : List Value), ExcBaseFacts B newId initId tl ∧ StoreFacts B tl "object.__setattr__" "object" ∧ PySem.W.excInitIn K C tl newId = true ∧ PySem.W.excOver K C tl = true
  tk : PySem.W.takerIn K C f = some none
  hd : PySem.W.hasDictIn K C = true
  sa : PySem.W.findIn K (.ref C) "__setattr__" = some (some (.builtin "object.__setattr__"))
  ini : PySem.W.findIn K (.ref C) "__init__" = some (some (.ref fI))
  tI : PySem.W.typeIn K (.ref fI) = some (.type "function")
  kC : PySem.W.keepIn K (.ref C) = true
  bC : PySem.W.subIn K (.ref C) (.type "BaseException") = some true
  tC : PySem.W.typeIn K (.ref C) = some (.type "type")
section
variable {X : Cx} {pins : List (Addr × Obj)} {σ : L2.St} {H : Hp} {s : Shared} {a C fI : Addr} {f : Str} {y : V} {u : Value}
theorem keep_store {Q : Unit → Shared → Prop} {E : Value → Shared → Prop} {A : Around} (T : KeepC X.K C fI f) (I : Inv X pins σ H s) (e : H a = some (exo a C none)) (ry : RelV y u)
    (h : ∀ d s2, H d = none → d ≠ a → Inv X pins σ (upd (upd H d (exd d [(f, y)])) a (exo a C (some d))) s2 → Q () s2) : wpAny (model X.prog X.w) A (setAttr (.ref a) f u) Q E s := by
  obtain ⟨B, newId, initId, tl, _, SF, _, ov⟩ := T.ex
  obtain ⟨t1, ho⟩ := exo_at I.hok e
  obtain ⟨hp, g, dr, t, os⟩ := s
  have IA : PySem.W.InstAt hp a { cls := .ref C, dict := none, data := .fields #[.ref t1, .none, .none, .none, .bool false, .none] } C none := ⟨ho, rfl, rfl, trivial⟩
  refine PySem.W.set_plain I.kIn IA T.sa ?_
  refine PySem.W.osa_openX SF I.kIn IA ov T.tk fun b => ?_
  dsimp only
  obtain ⟨cd, hc, hh⟩ := PySem.W.any_some T.hd
  have hcls : PySem.W.Looks (model X.prog X.w) hp (classData C) cd := PySem.W.looks_clsIn I.kIn hc
  obtain ⟨nm, bs, mro, ns, qn, hdd, sn, sb, ab, col, del⟩ := cd
  dsimp only at hh
  subst hh
  have las : a ≠ hp.objs.size := Nat.ne_of_lt (Heap.lt_size ho)
  unfold storeInOwnDict ownDictForStores
  repeat (first | with_reducible refine PySem.HandSPX.store_in_new ?_ ?_ | with_reducible refine wpAny_loadPart_at ho ?_ | with_reducible refine hcls.at ?_ | wp_step)
  · exact ⟨_, #[], _, (Heap.get?_update_ne _ _ _ _ las.symm).trans (Heap.get?_push_at rfl rfl), rfl, fun e he => absurd he (by simp), fun _ => rfl⟩
  · intro hp2 tk2 hn' hs
    have hoP : (hp.push { cls := .type "dict", data := .dict #[] }).get? a = some { cls := .ref C, dict := none, data := .fields #[.ref t1, .none, .none, .none, .bool false, .none] } := Heap.get?_push_of_some _ ho
    have nD : H hp.objs.size = none := I.hok.fresh (Nat.le_refl _)
    have keeps : ∀ c o, c ≠ a → hp.get? c = some o → hp2.get? c = some o := fun c o hc q =>
      (hs.2 c (Nat.ne_of_lt (Heap.lt_size q))).trans ((Heap.get?_update_ne _ _ _ _ hc).trans (Heap.get?_push_of_some _ q))
    have ha2 : hp2.get? a = some { cls := .ref C, dict := some hp.objs.size, data := .fields #[.ref t1, .none, .none, .none, .bool false, .none] } := (hs.2 a las).trans (Heap.get?_update_self _ hoP rfl)
    have notNew : ∀ {c : Addr} {o : Obj}, hp.get? c = some o → c ≠ hp.objs.size := fun q => Nat.ne_of_lt (Heap.lt_size q)
    have notA : ∀ {c : Addr}, H c = none → c ≠ a := fun n z => by
      rw [z, e] at n
      cases n
    have UN : Un X.fs [] H (upd (upd H hp.objs.size (exd hp.objs.size [(f, y)])) a (exo a C (some hp.objs.size))) hp hp2 := {
      keep := fun c o q n _ _ => keeps c o (notA n) q
      slot := fun c o q n _ _ => ⟨o.slots, keeps c o (notA n) q⟩
      free := fun c o q n _ => (upd_ne (notA n)).trans ((upd_ne (notNew q)).trans n)
      there := fun c o q _ => by
        by_cases z : c = a
        · rw [z]; exact ⟨_, ha2⟩
        · exact ⟨_, keeps c o z q⟩
      tups := fun c zs q => (upd_ne (at_ne e q exo_tup)).trans ((upd_ne (ne_of_none q nD)).trans q)
      frzs := fun c o v q => (upd_ne (at_ne e q exo_frz)).trans ((upd_ne (ne_of_none q nD)).trans q)
      tbls := fun c ps q => ⟨#[], by rw [(upd_ne (at_ne e q exo_tbl)).trans ((upd_ne (ne_of_none q nD)).trans q)]; simp⟩ }
    refine h hp.objs.size _ nD las.symm (I.un (t' := tk2) UN fun c o q => ?_)
    by_cases ca : c = a
    · subst ca
      rw [upd_same] at q
      cases q
      exact exo_ok ha2
    · rw [upd_ne ca] at q
      by_cases cd : c = hp.objs.size
      · subst cd
        rw [upd_same] at q
        cases q
        exact exd_ok hn' (relO_put (fs := []) ry fun _ => True.intro)
      · rw [upd_ne cd] at q
        have na : ∀ {b : Addr}, H b = some (.own c) → b ≠ a := fun hb => at_ne e hb exo_own
        exact (I.hok c o q).stay (fun b v hb z => keeps b v (hb.elim (fun k => k ▸ ca) na) z)
          (fun b hb => (upd_ne (na hb)).trans ((upd_ne (ne_of_none hb nD)).trans hb)) (fun b zs hb => (upd_ne (at_ne e hb exo_tup)).trans ((upd_ne (ne_of_none hb nD)).trans hb))
/-- self.f = y in such an __init__ -/
def tKp (K : PySem.W.Frag) (f : Str) (to te : TE) : TS := fun D σ H => te σ H fun y H1 => to σ H1 fun x H2 => ∃ a C fI : Addr, x = .ref a ∧ KeepC K C fI f ∧ H2 a = some (exo a C none) ∧ ∀ d, H2 d = none → d ≠ a → D.nx σ (upd (upd H2 d (exd d [(f, y)])) a (exo a C (some d)))
theorem ps_keep {o e : Expr} {to te : TE} {p' pos : Pos} (ho : PE X o to) (he : PE X e te) (hs : swapsWith e (some (.Attribute o f p')) pos.line X.env = pure false := by rfl) : PS X (.Assign [.Attribute o f p'] e pos) (tKp X.K f to te) :=
  ⟨fun pins s σ H D I h => plainObj_wpAny_Assign_Attribute (thn (he.run pins s σ H _ I h) fun v s1 ⟨y, H1, I1, r1, q1⟩ => thn (ho.run pins s1 σ H1 _ I1 q1) fun u s2 ⟨x, H2, I2, r2, a, C, fI, ex, T, ea, q⟩ => by
    subst ex
    obtain rfl : u = Value.ref a := r2
    exact keep_store T I2 ea r1 fun d s3 n ne J => ⟨σ, _, J, q d n ne⟩) hs⟩
omit [Tabl] in
def spKeep (C : Addr) (f : Str) : Sp := fun vs H Q _ => ∃ a y, vs = [.ref a, y] ∧ H a = some (exo a C none) ∧ ∀ d, H d = none → d ≠ a → Q .non (upd (upd H d (exd d [(f, y)])) a (exo a C (some d)))
theorem fn_keep {P : Program} {w : World} {K : PySem.W.Frag} {mg : Str → Option Value} {base : Heap} {x qual n1 n2 : Str} {st : Stmt} {C fI : Addr} {fd : FuncData} {p1 p2 p3 p4 : Pos} (T : KeepC K C fI f) (F : Fun K x qual st fI fd) (S : FnScope [n1, n2] [n1, n2] (defScope st))
    (hb : defBody st = [.Assign [.Attribute (.Name n1 p1) f p2] (.Name n2 p3) p4]) (v1 : Vis (defScope st) n1) (v2 : Vis (defScope st) n2) (b1 : (n1 == ("__debug__" : Str)) = false := by decide) (b2 : (n2 == ("__debug__" : Str)) = false := by decide)
    (c1 : (n1 == ("__classdict__" : Str)) = false := by decide) (c2 : (n2 == ("__classdict__" : Str)) = false := by decide) : FnOk P w K mg base (L2.CX P w) 1 fI fd [n1, n2] (spKeep C f) := by
  refine .of (F.okX S (fun vs H Q E ⟨a, y, ev, _⟩ => by subst ev; rfl) fun cdv A outer s H vs Q E hr ⟨a, y, ev, ea, q⟩ => ?_)
  subst ev
  rw [hb]
  refine ⟨_, pss_one (ps_keep (pe_var (i := 0) rfl v1 b1 c1) (pe_var (i := 1) rfl v2 b2 c2) rfl), ?_⟩
  exact ⟨y, rfl, V.ref a, rfl, a, C, fI, rfl, T, ea, q⟩
omit [Tabl] in
/-- C(e): the exception, then its dict stands -/
def tKeep (C : Addr) (f : Str) (ta : TA) : L2.St → Hp → XK → Prop := fun σ H Q => ta σ H fun vs H1 => ∃ y, vs = [y] ∧ ∀ d, H1 d = none → Q (.ref C) (some d) (upd H1 d (.xd [(f, y)]))
theorem pmk_keep {k : Nat} {fd : FuncData} {ps : List Str} {x : Str} {e : Expr} {ta : TA} {p pos : Pos} (T : KeepC X.K C fI f) (F1 : FnOk X.prog X.w X.K X.mg X.base (L2.CX X.prog X.w) k fI fd ps (spKeep C f)) (hp : ps.length = 2) (hr : Room (k + 1) X.A) (hb : Binds X.K fd ps [])
    (hg : Gl X x) (hm : X.mg x = some (.ref C)) (ha : PA X [e] ta) (hdb : (x == ("__debug__" : Str)) = false := by decide) (he : starEach [e] X.env = (false, eval e X.env) :: starEach [] X.env := by rfl) (hpl : (backTo pos (starEach [] X.env)).any (·.1) = false := by rfl) :
    PMk X (.Call (.Name x p) [e] [] pos) (tKeep C f ta) := by
  intro pins s σ H Q I h
  obtain ⟨B, newId, initId, tl, FB, SF, qi, ov⟩ := T.ex
  refine wpAny_Call_Name_kw (ld_glob I hg hm ?_ hdb)
  refine PySem.W.callWith_K (h₀ := X.base) I.ok.mod.kin T.kC (thn (ha.run pos pins s σ H _ I h) fun us s1 ⟨vs, H1, I1, r1, y, ev, q1⟩ => ⟨I1.kIn, ?_⟩) he hpl
  show wpAny _ _ (call (.ref C) us) _ _ _
  subst ev
  obtain ⟨hp1, g, dr, tk, os⟩ := s1
  obtain ⟨nm, N', qn, bs, bm, hdct, sn, sub, ab, col, dd, k0, k1, k2, k3, k5, hC, hT⟩ := PySem.W.excInit_of I1.kIn qi
  have big : hp1.objs.size ≤ hp1.objs.size + 1 := Nat.le_succ _
  have fr : H1 (hp1.objs.size + 1) = none := I1.hok.fresh big
  have stay : ∀ b o, hp1.get? b = some o → ((hp1.push (PySem.W.kdv_tup us)).push (PySem.HandSPX.excO C hp1.objs.size)).get? b = some o := fun b o z => Heap.get?_push_of_some _ (Heap.get?_push_of_some _ z)
  have own : ((hp1.push (PySem.W.kdv_tup us)).push (PySem.HandSPX.excO C hp1.objs.size)).get? (hp1.objs.size + 1) = some (PySem.HandSPX.excO C hp1.objs.size) := by heap_get
  have I2 : Inv X pins σ (upd H1 (hp1.objs.size + 1) (exo (hp1.objs.size + 1) C none)) ⟨(hp1.push (PySem.W.kdv_tup us)).push (PySem.HandSPX.excO C hp1.objs.size), g, dr, tk, os⟩ :=
    I1.laid (t' := tk) (a := hp1.objs.size + 1) (o := exo (hp1.objs.size + 1) C none) (h' := (hp1.push (PySem.W.kdv_tup us)).push (PySem.HandSPX.excO C hp1.objs.size)) stay big (exo_ok own)
  have r2 : Vals [V.ref (hp1.objs.size + 1), y] (Value.ref (hp1.objs.size + 1) :: us) := .cons rfl r1
  have ul : us.length = 1 := (Paired.length r1).symm
  have al : (Value.ref (hp1.objs.size + 1) :: us).length = ps.length := by rw [List.length_cons, ul, hp]
  have spec : spKeep C f [V.ref (hp1.objs.size + 1), y] (upd H1 (hp1.objs.size + 1) (exo (hp1.objs.size + 1) C none)) (fun v H2 => v = .non ∧ ∃ d, d ≠ hp1.objs.size + 1 ∧ H1 d = none ∧ H2 = upd (upd (upd H1 (hp1.objs.size + 1) (exo (hp1.objs.size + 1) C none)) d (exd d [(f, y)])) (hp1.objs.size + 1) (exo (hp1.objs.size + 1) C (some d))) (fun _ _ _ => False) :=
    ⟨_, y, rfl, upd_same, fun d n ne => ⟨rfl, d, ne, by rw [upd_ne ne] at n; exact n, rfl⟩⟩
  have hbd : BindsTo _ fd _ (ps.zip (Value.ref (hp1.objs.size + 1) :: us ++ [])) := hb _ (Value.ref (hp1.objs.size + 1) :: us) I2.kIn (by rw [List.append_nil]; exact al)
  rw [List.append_nil] at hbd
  refine wpAny_call (PySem.HandSPX.call_own FB hT hC (PySem.W.looks_findIn I1.kIn T.ini) (fun self => PySem.W.bind_fn I1.kIn self T.tI) (by rw [ul, sizeLine_eq]; omega)
    (codeAny_mono (F1.go _ X.stack _ _ ⟨Value.ref (hp1.objs.size + 1) :: us, []⟩ _ _ _ (fun _ _ _ => False) ⟨hr.toRoom.make C us [], hr.gd⟩ (I2.env0.make C us []) hbd r2 spec) fun r s2 hq => ?_))
  cases r with
  | error er => exact L2.passL pins σ _ _ er s2 I2 hq
  | ok fl =>
    cases fl with
    | ret u =>
      obtain ⟨v, H2, os2, bare2, un2, hok2, rv, ⟨ev, d, ne, nd, eH⟩⟩ := hq
      subst ev eH
      obtain ⟨h2, g2, d2, t2, os3⟩ := s2
      refine ⟨rv, mk_end (raises_own T.bC T.tC) I1 big stay un2 hok2 os2 bare2 (C := C) (d := d) (fs := [(f, y)]) upd_same (by rw [upd_ne ne, upd_same]) nd ?_⟩
      have eq : upd (del (upd (upd (upd H1 (hp1.objs.size + 1) (exo (hp1.objs.size + 1) C none)) d (exd d [(f, y)])) (hp1.objs.size + 1) (exo (hp1.objs.size + 1) C (some d))) (hp1.objs.size + 1)) d (.xd [(f, y)]) = upd H1 d (.xd [(f, y)]) := by
        funext b
        by_cases hbd : b = d
        · rw [hbd, upd_same, upd_same]
        · rw [upd_ne hbd, upd_ne hbd]
          by_cases hba : b = hp1.objs.size + 1
          · rw [hba, del_same, fr]
          · rw [del_ne hba, upd_ne hba, upd_ne hbd, upd_ne hba]
      rw [eq]
      exact q1 d nd
    | next => exact False.elim hq
    | brk => exact False.elim hq
    | cont => exact False.elim hq
omit [Tabl] in
def cRaiseK (C : Addr) (f : Str) (c : Env → M SV) : ST' := fun e h => match c e h with
  | .ok v h' => .err C [(f, v)] e h'
  | .err cc fs h' => .err cc fs e h'
  | .stuck => .stuck
theorem s_raiseK {W : WX} {k : Nat} {fd : FuncData} {ps : List Str} {x : Str} {e : Expr} {c : Env → M SV} {p pos pos' : Pos} (T : KeepC X.K C fI f) (F1 : FnOk X.prog X.w X.K X.mg X.base (L2.CX X.prog X.w) k fI fd ps (spKeep C f)) (hp : ps.length = 2) (hr : Room (k + 1) X.A) (hb : Binds X.K fd ps [])
    (gC : X.mg x = some (.ref C)) (hc : X.calm = true) (tk : Takes X W) (he : SE X W e c) (hg : Gl X x := by rfl) (hs : starEach [e] X.env = (false, eval e X.env) :: starEach [] X.env := by rfl) (hdb : (x == ("__debug__" : Str)) = false := by decide) :
    SS X W (.Raise (some (.Call (.Name x p) [e] [] pos)) none pos') (cRaiseK C f c) :=
  ⟨imp_ps (ps_raise hc tk (pmk_keep T F1 hp hr hb hg gC (a_cons he a_nil hs).pa hdb hs)) fun D σ H ⟨ρ, h, env, R, RE, P⟩ => ⟨ρ, h, env, R, RE, by
    show Post X.K W (relL X.K) σ ρ H (aCons c aNil env h) _
    unfold cRaiseK at P
    unfold aCons aNil M.bind M.ret
    cases z : c env h with
    | ok v h' =>
      rw [z] at P
      intro ρ1 H1 vs E1 R1 r1
      obtain ⟨y, us, rfl, ry, rn⟩ := r1.inv
      obtain rfl := rn.nil_inv
      exact ⟨y, rfl, fun d nd => P ρ1 _ σ (.ref C) (some d) (E1.tr (.fresh nd)) (R1.fresh nd) (RE.mono R.holds (E1.tr (.fresh nd))) ⟨rfl, .inr ⟨d, [(f, y)], rfl, upd_same, rfl, RelL.one (RelL.mono ry R1.holds (.fresh nd))⟩⟩⟩
    | err cc fs h' => rw [z] at P; exact fun ρ1 H1 cv d E1 R1 q => P ρ1 H1 σ cv d E1 R1 (RE.mono R.holds E1) q
    | stuck => rw [z] at P; exact P⟩⟩
/-- what is never reached -/
theorem s_stuck {W : WX} {st : Stmt} : SS X W st (fun _ _ => .stuck) := ⟨⟨fun _ _ _ _ _ _ ⟨_, _, _, _, _, P⟩ => P.elim⟩⟩
end
end Sim

set_option Elab.async false
set_option linter.all false
set_option maxRecDepth 100000
set_option maxHeartbeats 4000000
namespace Sim
open PySem L2
section
variable {e : Env} {h : SHp} {a b : Env → M SV}
theorem ev_notT : eNotT a e h = Res.bd (a e h) fun v h => Res.bd (M.of (truF v h) h) fun k h => .ok (.bl (!k)) h := by
  unfold eNotT tru; rw [ev_bind, ev_bind]; cases a e h <;> rfl
theorem ev_tru : tru a e h = Res.bd (a e h) fun v h => M.of (truF v h) h := ev_bind
theorem ev_rev : eRev a e h = Res.bd (a e h) fun v h => M.of (revF v h) h := ev_bind
theorem ev_srtSet : eSrtSet a e h = Res.bd (a e h) fun v h => M.of ((tupInts v).map fun ns => .rls ((setL ns).map .int)) h := ev_bind
theorem ev_fmtS : eFmtS a e h = Res.bd (a e h) fun v h => M.of (fmtS v) h := ev_bind
theorem ev_joinS_nil {acc : Str} : joinS [] acc e h = .ok (.str acc) h := rfl
def jS (cs : List (Env → M SV)) (acc : Str) (e : Env) (v : SV) : SHp → Res SV := fun h => match v with
  | .str y => if (acc ++ y).length ≤ sizeLine then joinS cs (acc ++ y) e h else .stuck
  | _ => .stuck
theorem ev_joinS {c : Env → M SV} {cs : List (Env → M SV)} {acc : Str} : joinS (c :: cs) acc e h = Res.bd (c e h) fun v h => jS cs acc e v h := by
  show M.bind (c e) _ h = _
  rw [ev_bind]; congr 1; funext v h; unfold jS; cases v <;> first | rfl | (dsimp only; split <;> rfl)
theorem ev_eqO {neg : Bool} {C : Addr} {ts : List String} {D : List SV → M SV} : eEqO neg C ts D a b e h = Res.bd (a e h) fun v h => Res.bd (b e h) fun w h => eqO neg C ts D v w h := by
  unfold eEqO; rw [ev_bind]; congr 1; funext v h; rw [ev_bind]
theorem ev_strO {C : Addr} {D : List SV → M SV} : eStrO C D a e h = Res.bd (a e h) fun v h => strO C D [v] h := ev_bind
def anF (v w : SV) : SHp → Res SV := fun h => match lstOf v h, lstOf w h with
  | some xs, some ys => if xs.length + ys.length ≤ sizeLine then .ok (.ref h.length) (h ++ [.lst (xs ++ ys)]) else .stuck
  | _, _ => .stuck
theorem ev_addNew : eAddNew a b e h = Res.bd (a e h) fun v h => Res.bd (b e h) fun w h => anF v w h := by
  unfold eAddNew; rw [ev_bind]; congr 1; funext v h; rw [ev_bind]; rfl
theorem ev_try {m : Addr → Option Bool} {b s : ST'} : cTry1 m b s e h = (match b e h with
  | .err c fs e' h' => match m c with
    | some true => SR.noErr (s e' h')
    | some false => .err c fs e' h'
    | none => .stuck
  | r => r) := rfl
end
end Sim

set_option Elab.async false
set_option linter.all false
set_option maxRecDepth 100000
set_option maxHeartbeats 4000000
namespace Sim
open PySem PySem.Spec PyProof.Rows L2
variable [Tabl]
/-! ### try with several clauses, with names or without -/
omit [Tabl] in
structure Cl where
  c : Value
  i : Option Nat
  ts : Addr → Value → Option Addr → TS
omit [Tabl] in
def endsGone (D : Ends) (i : Nat) : Ends := ⟨fun τ G => D.nx (τ.set i none) G, D.rt, fun τ G => D.bk (τ.set i none) G, fun τ G => D.ct (τ.set i none) G⟩
omit [Tabl] in
def Cl.go (q : Cl) (a : Addr) (cls : Value) (d : Option Addr) (D : Ends) (σ : L2.St) (H : Hp) : Prop := match q.i with
  | none => q.ts a cls d D σ H
  | some i => q.ts a cls d (endsGone D i) (σ.set i (some (.ref a))) H
omit [Tabl] in
def wN (K : PySem.W.Frag) (Wout : WX) (D : Ends) : List Cl → WX
  | [] => Wout
  | q :: r => fun cls d σ H => ∃ b, PySem.W.exmOne K cls q.c = some b ∧ (b = true → ∀ a, H a = none → q.go a cls d D σ H) ∧ (b = false → wN K Wout D r cls d σ H)
omit [Tabl] in
abbrev SuiteOk (X : Cx) (st : List Stmt) (ts : Addr → Value → Option Addr → TS) : Prop :=
  ∀ (a : Addr) (oe : Obj) (cls : Value) (d : Option Addr) (pn : List (Addr × Obj)), Zc cls d oe → (∃ vs, oe.data = .fields vs) → PSs (X.suite a ((a, oe) :: pn)) st (ts a cls d)
omit [Tabl] in
inductive ClOk (X : Cx) : List ExceptHandler → List Cl → Prop
  | nil : ClOk X [] []
  | plain {x : Str} {c : Value} {ts : Addr → Value → Option Addr → TS} {st : Stmt} {sts : List Stmt} {p p' : Pos} {hs : List ExceptHandler} {l : List Cl} (hc : Names X x c) (su : SuiteOk X (st :: sts) ts) (r : ClOk X hs l) : ClOk X (.ExceptHandler (some (.Name x p)) none (st :: sts) p' :: hs) (⟨c, none, ts⟩ :: l)
  | named {x n : Str} {i : Nat} {c : Value} {ts : Addr → Value → Option Addr → TS} {st : Stmt} {sts : List Stmt} {p p' : Pos} {hs : List ExceptHandler} {l : List Cl} (hc : Names X x c) (hN : X.N.Nodup) (hi : X.N[i]? = some n) (hk : X.env.kindOf n = some .local) (su : SuiteOk X (st :: sts) ts) (r : ClOk X hs l) :
      ClOk X (.ExceptHandler (some (.Name x p)) (some n) (st :: sts) p' :: hs) (⟨c, some i, ts⟩ :: l)
section
variable {X : Cx} {body : List Stmt} {h₀ : ExceptHandler} {hds : List ExceptHandler} {l : List Cl} {pos : Pos} {tb : WX → TS} {Wout : WX}
theorem ps_tryN (hs : X.stack = X.env :: X.outer) (hf : X.env.frame = some X.env.locals) (tk : Takes X Wout)
    (hb : ∀ (W : WX) (pn : List (Addr × Obj)) (xe : Value → Shared → Prop), Takes (X.tr pn xe) W → PassesOwn (model X.prog X.w) X.A X.env xe → PSs (X.tr pn xe) body (tb W))
    (hh : ClOk X (h₀ :: hds) l) : PS X (.Try body (h₀ :: hds) [] [] pos) (fun D σ H => tb (wN X.K Wout D l) D σ H) := by
  refine ⟨fun pins s σ H D I h => ?_⟩
  have K0 := I.ok
  have hfr : X.A.frames = some (X.env :: X.outer) := K0.frames.trans (by rw [hs])
  refine wpAny_Try_except (wpAny_mono ((hb (wN X.K Wout D l) (X.pn ++ pins) (fun e s1 => wpAny (model X.prog X.w) X.A (noteFrame e X.env) (fun _ s2 => wpAny (model X.prog X.w) X.A (setFlight e none) (fun _ s3 =>
    wpAny (model X.prog X.w) X.A (handleBy e X.env (h₀ :: hds)) (SP X pins D) X.xe s3) X.xe s2) X.xe s1) (fun u s' xx => ?_) PassesOwn.looking).run [] s σ H D (I.toTry _) h) (fun f s1 fin => ?_) fun e s1 z => z)
  · obtain ⟨a, B, sI, pins', τ, G, cls, d, rfl, JT, nb, up, sky, na, os, ag, w⟩ := xx
    have J0 : Inv X pins τ G sI := JT.ofTry K0
    rw [hs] at sky
    show wpAny (model X.prog X.w) X.A (noteFrame (.ref a) X.env) _ _ _
    refine Sky.land Zc.steady hfr hf sky fun g3 fl g3up => ?_
    have J3 : Inv X pins τ G { s' with heap := g3 } := J0.landed nb fl.1 (up.trans g3up) os ag
    obtain ⟨o3, v3, e3, z3, d3⟩ := fl.there
    have notIn : a ∉ frs (X.env :: X.outer) := fun hm => by
      obtain ⟨_, o', e', hnf⟩ := fl.2.2.1.mem hm
      rw [e3] at e'; cases e'
      exact hnf _ d3
    have notL : a ≠ X.env.locals := fun z => notIn (List.mem_filterMap.mpr ⟨X.env, List.mem_cons_self, by rw [hf, z]⟩)
    have notF : a ∉ X.fs := fun hm => by
      obtain ⟨e, he, q⟩ := List.mem_filterMap.mp hm
      exact notIn (List.mem_filterMap.mpr ⟨e, List.mem_cons_of_mem _ he, q⟩)
    have IS := J3.suite e3 d3 na notL notF
    have LT : PySem.W.Looks (model X.prog X.w) g3 (typeOf (.ref a)) cls := fun A Q E s k q => wpAny_typeOf_ref (k _ _ e3) (by rw [z3.1]; exact q)
    have nameC : ∀ (x : Str) (c : Value) (np : Pos), Names X x c → ∀ (Q : Value → Shared → Prop) (E : Value → Shared → Prop), Q c { s' with heap := g3 } → wpAny (model X.prog X.w) (X.A.mark (some (.ref a))) (eval (.Name x np) X.env) Q E { s' with heap := g3 } := by
      intro x c np hc Q E q
      obtain ⟨hg, hdbg, hm | ⟨hm, hv, hnn⟩⟩ := hc
      · exact ld_glob (X := X.suite a ((a, o3) :: (X.pn ++ pins))) IS hg hm q hdbg
      · exact ld_blt (X := X.suite a ((a, o3) :: (X.pn ++ pins))) IS hg hm hv q hnn hdbg
    have go : ∀ {hs' : List ExceptHandler} {l' : List Cl}, ClOk X hs' l' → wN X.K Wout D l' cls d τ G → wpAny (model X.prog X.w) X.A (handleBy (.ref a) X.env hs') (SP X pins D) X.xe { s' with heap := g3 } := by
      intro hs' l' ck
      induction ck with
      | nil =>
        intro w
        refine wpAny_handleBy_nil ?_
        obtain ⟨_, _, _, oe, vs, T, oT, tt, he, hz, hd, h1, hr⟩ := id fl
        unfold PySem.passOn
        refine wpAny_bind (wpAny_field he hd h1 ?_)
        rw [if_neg (show ¬ ((Value.ref T == Value.none) = true) from by simp)]
        have last : wpAny (model X.prog X.w) X.A (setFlight (.ref a) X.env.frame) (fun _ s4 => wpAny (model X.prog X.w) X.A (throw (.ref a) : Sem Flow) (SP X pins D) X.xe s4) X.xe { s' with heap := g3 } := by
          rw [hf]
          exact HandSPX.setFlight_upZ fl fun g4 hh4 up4 => wpAny_throw (tk _ _ ⟨a, B, sI, pins, τ, G, cls, d, rfl, J0, nb, (up.trans g3up).trans up4, .inr (.inr (by rw [hs]; exact hh4)), na, os, ag, w⟩)
        first
          | exact wpAny_bind (wpAny_pure (wpAny_bind last))
          | exact wpAny_bind last
      | @plain x c ts st sts p p' hs2 l2 hc su r ih =>
        intro w
        obtain ⟨b, hb1, yes, no⟩ := w
        refine wpAny_handleBy_cons (codeAny_handlers_test (nameC _ _ _ hc _ _ ((PySem.W.exm_one (M := model X.prog X.w) J3.kIn LT hb1).here ?_))) (by intro q; cases q)
        cases b with
        | false => exact ih (no rfl)
        | true =>
          refine codeAny_handlers_suite (HandSPX.lands_againZ fl fun g4 fl4 up4 => ?_)
          have J4 : Inv X pins τ G { s' with heap := g4 } := J0.landed nb fl4.1 ((up.trans g3up).trans up4) os ag
          obtain ⟨o4, v4, e4, z4, d4⟩ := fl4.there
          refine wpAny_mono ((su a o4 cls d (X.pn ++ pins) z4 ⟨_, d4⟩).run [] _ _ G _ (J4.suite e4 d4 na notL notF) (yes rfl a na)) (fun f s6 fin => ?_) (fun _ _ z => False.elim z)
          cases f with
          | next => obtain ⟨τ6, G6, S6, q6⟩ := fin; exact ⟨_, _, S6.unsuite K0, q6⟩
          | brk => obtain ⟨τ6, G6, S6, q6⟩ := fin; exact ⟨_, _, S6.unsuite K0, q6⟩
          | cont => obtain ⟨τ6, G6, S6, q6⟩ := fin; exact ⟨_, _, S6.unsuite K0, q6⟩
          | ret u => obtain ⟨v6, τ6, G6, S6, r6, q6⟩ := fin; exact ⟨_, _, _, S6.unsuite K0, r6, q6⟩
      | @named x n i c ts st sts p p' hs2 l2 hc hN hi hk su r ih =>
        intro w
        obtain ⟨b, hb1, yes, no⟩ := w
        refine wpAny_handleBy_cons (codeAny_handlers_test (nameC _ _ _ hc _ _ ((PySem.W.exm_one (M := model X.prog X.w) J3.kIn LT hb1).here ?_))) (by intro q; cases q)
        cases b with
        | false => exact ih (no rfl)
        | true =>
          refine codeAny_handlers_suite_as (HandSPX.lands_againZ fl fun g4 fl4 up4 => ?_)
          have J4 : Inv X pins τ G { s' with heap := g4 } := J0.landed nb fl4.1 ((up.trans g3up).trans up4) os ag
          obtain ⟨o4, v4, e4, z4, d4⟩ := fl4.there
          refine store_ok (X := X.suite a ((a, o4) :: (X.pn ++ pins))) (v := .ref a) (J4.suite e4 d4 na notL notF) hN hi (.inl hk) rfl (fun s5 S5 => ?_) (.inr hk)
          refine wpAny_mono ((su a o4 cls d (X.pn ++ pins) z4 ⟨_, d4⟩).run [] s5 _ G _ S5 (yes rfl a na)) (fun f s6 fin => ?_) (fun _ _ z => False.elim z)
          have off : ∀ {τ6 : L2.St} {G6 : Hp} {Q : Shared → Prop}, Inv (X.suite a ((a, o4) :: (X.pn ++ pins))) [] τ6 G6 s6 → (∀ s7, Inv X pins (τ6.set i none) G6 s7 → Q s7) →
              wpAny (model X.prog X.w) X.A (do bindName X.env n .none; unbindBehindTheSuite X.env n p') (fun _ s7 => Q s7) X.xe s6 := fun {τ6 G6 Q} S6 hq => gone_ok (S6.unsuite K0) hN hi hk hq
          cases f with
          | next => obtain ⟨τ6, G6, S6, q6⟩ := fin; exact off S6 fun s7 J7 => ⟨_, _, J7, q6⟩
          | brk => obtain ⟨τ6, G6, S6, q6⟩ := fin; exact off S6 fun s7 J7 => ⟨_, _, J7, q6⟩
          | cont => obtain ⟨τ6, G6, S6, q6⟩ := fin; exact off S6 fun s7 J7 => ⟨_, _, J7, q6⟩
          | ret u => obtain ⟨v6, τ6, G6, S6, r6, q6⟩ := fin; exact off S6 fun s7 J7 => ⟨_, _, _, J7, r6, q6⟩
    exact go hh w
  · cases f with
    | next => obtain ⟨τ, G, JJ, q⟩ := fin; exact wpAny_execs_nil ⟨τ, G, JJ.ofTry K0, q⟩
    | brk => obtain ⟨τ, G, JJ, q⟩ := fin; exact ⟨τ, G, JJ.ofTry K0, q⟩
    | cont => obtain ⟨τ, G, JJ, q⟩ := fin; exact ⟨τ, G, JJ.ofTry K0, q⟩
    | ret u => obtain ⟨v, τ, G, JJ, r, q⟩ := fin; exact ⟨v, τ, G, JJ.ofTry K0, r, q⟩
end
end Sim

set_option Elab.async false
set_option linter.all false
set_option maxRecDepth 100000
set_option maxHeartbeats 4000000
namespace Sim
open PySem L2
variable [Tabl]
/-! ### the clauses' mirrors -/
omit [Tabl] in
structure CM where
  m : Addr → Option Bool
  i : Option Nat
  s : Addr → Addr → ST'
omit [Tabl] in
def SR.off (i : Nat) : SR → SR
  | .nx e h => .nx (e.set i none) h
  | .bk e h => .bk (e.set i none) h
  | .ct e h => .ct (e.set i none) h
  | r => r
omit [Tabl] in
def clM : List CM → Addr → List (Str × SV) → Env → SHp → SR
  | [], c, fs, e, h => .err c fs e h
  | q :: r, c, fs, e, h => match q.m c with
    | some true => (match q.i with
      | none => SR.noErr (q.s 0 0 e h)
      | some i => if fs = [] then .stuck else SR.off i (SR.noErr (q.s 0 0 (e.set i (some (.xcp 0 0 (fs.map (·.1)) (fs.map (·.2))))) h)))
    | some false => clM r c fs e h
    | none => .stuck
omit [Tabl] in
def cTryN (l : List CM) (b : ST') : ST' := fun e h => match b e h with
  | .err c fs e' h' => clM l c fs e' h'
  | r => r
omit [Tabl] in
/-- the name's slot does not matter but for its fields -/
def ParC (i : Nat) (s : Addr → Addr → ST') : Prop := ∀ (a d : Addr) (ns : List Str) (xs : List SV) (e : Env) (h : SHp), SR.off i (SR.noErr (s a d (e.set i (some (.xcp a d ns xs))) h)) = SR.off i (SR.noErr (s 0 0 (e.set i (some (.xcp 0 0 ns xs))) h))
inductive ClS (X : Cx) : List ExceptHandler → List CM → Prop
  | nil : ClS X [] []
  | plain {x : Str} {C : Addr} {m : Addr → Option Bool} {s : ST'} {st : Stmt} {sts : List Stmt} {p p' : Pos} {hs : List ExceptHandler} {l : List CM} (gC : X.mg x = some (.ref C)) (hm : ∀ c k, m c = some k → PySem.W.exmOne X.K (.ref c) (.ref C) = some k)
      (su : ∀ (a : Addr) (oe : Obj) (cls : Value) (d : Option Addr) (pn : List (Addr × Obj)), Zc cls d oe → (∃ vs, oe.data = .fields vs) → SSs (X.suite a ((a, oe) :: pn)) W0 (st :: sts) s) (r : ClS X hs l) (hg : Gl X x := by rfl) (hdb : (x == ("__debug__" : Str)) = false := by decide) :
      ClS X (.ExceptHandler (some (.Name x p)) none (st :: sts) p' :: hs) (⟨m, none, fun _ _ => s⟩ :: l)
  | named {x n : Str} {i : Nat} {C : Addr} {m : Addr → Option Bool} {s : Addr → Addr → ST'} {st : Stmt} {sts : List Stmt} {p p' : Pos} {hs : List ExceptHandler} {l : List CM} (gC : X.mg x = some (.ref C)) (hm : ∀ c k, m c = some k → PySem.W.exmOne X.K (.ref c) (.ref C) = some k)
      (hN : X.N.Nodup) (hi : X.N[i]? = some n) (hk : X.env.kindOf n = some .local) (par : ParC i s)
      (su : ∀ (a c d : Addr) (oe : Obj) (pn : List (Addr × Obj)), m c = some true → Zc (.ref c) (some d) oe → (∃ vs, oe.data = .fields vs) → SSs (X.suite a ((a, oe) :: pn)) W0 (st :: sts) (s a d)) (r : ClS X hs l) (hg : Gl X x := by rfl) (hdb : (x == ("__debug__" : Str)) = false := by decide) :
      ClS X (.ExceptHandler (some (.Name x p)) (some n) (st :: sts) p' :: hs) (⟨m, some i, s⟩ :: l)
omit [Tabl] in
/-- the fields of the caught one -/
def eXf (a d : Addr) (i : Nat) (f : Str) : Env → M SV := fun e => M.of (match e[i]?.join with
  | some (.xcp b g ns xs) => if b = a ∧ g = d then getF f ns xs else none
  | _ => none)
theorem e_xf {X : Cx} {a d C : Addr} {oe : Obj} {pn : List (Addr × Obj)} {W : WX} {i : Nat} {n f : Str} {p pos : Pos} (T : XfC X.K C) (hno : PySem.W.findIn X.K (.ref C) f = some none) (hz : Zc (.ref C) (some d) oe) (hf : ∃ vs, oe.data = .fields vs)
    (hN : (X.suite a ((a, oe) :: pn)).N[i]? = some n) (hv : Vis (X.suite a ((a, oe) :: pn)).env.scope n) (hd : (n == ("__debug__" : Str)) = false := by decide) (hcd : (n == ("__classdict__" : Str)) = false := by decide)
    (hb : attributeBase (.Name n p) f X.env (PySem.eval (.Name n p) X.env) = PySem.eval (.Name n p) X.env := by rfl) : SE (X.suite a ((a, oe) :: pn)) W (.Attribute (.Name n p) f pos) (eXf a d i f) :=
  ⟨imp_pe (pe_xf T hno hz hf (pe_var hN hv hd hcd) hb) fun σ H Q ⟨ρ, h, env, R, RE, P⟩ => by
    unfold eXf M.of at P
    cases q : env[i]?.join with
    | none => rw [q] at P; exact P.elim
    | some v =>
      rw [q] at P
      cases v with
      | xcp b g ns xs =>
        by_cases c : b = a ∧ g = d
        · obtain ⟨rfl, rfl⟩ := c
          simp only [and_self, if_true] at P
          have e' : env[i]? = some (some (.xcp b g ns xs)) := by
            cases z : env[i]? with
            | none => rw [z] at q; cases q
            | some o => rw [z] at q; simp at q; rw [q]
          obtain ⟨x, hx, rx⟩ := RE.2 i _ e'
          cases rx with
          | @xcp _ _ _ _ fv _ _ hd2 en rr _ =>
            subst en
            cases gz : getF f (fv.map (·.1)) xs with
            | none => rw [gz] at P; exact P.elim
            | some z =>
              rw [gz] at P
              obtain ⟨w, hw, rw'⟩ := getF_rel rr gz
              exact ⟨_, hx, rfl, rfl, g, fv, w, rfl, hd2, hw, P ρ H w .refl R rw'⟩
        · simp only [if_neg c] at P; exact P.elim
      | _ => exact P.elim⟩
section
variable {X : Cx} {W : WX}
def tsN (K : PySem.W.Frag) (m : Addr → Option Bool) (s : Addr → Addr → ST') : Addr → Value → Option Addr → TS := fun a cls d => match cls, d with
  | .ref c, some g => if m c = some true then tR K W0 (s a g) else tNever
  | _, _ => tNever
theorem suite_N {m : Addr → Option Bool} {s : Addr → Addr → ST'} {st : List Stmt} (su : ∀ (a c d : Addr) (oe : Obj) (pn : List (Addr × Obj)), m c = some true → Zc (.ref c) (some d) oe → (∃ vs, oe.data = .fields vs) → SSs (X.suite a ((a, oe) :: pn)) W0 st (s a d)) : SuiteOk X st (tsN X.K m s) := by
  intro a oe cls d pn hz hf
  unfold tsN
  split
  · rename_i c g
    by_cases q : m c = some true
    · rw [if_pos q]; exact (su a c g oe pn q hz hf).pss
    · rw [if_neg q]; exact pss_never
  · exact pss_never
theorem noErr_tR {K : PySem.W.Frag} {D : Ends} {σ : L2.St} {H : Hp} {ρ : Rho} {h : SHp} {e : Env} {s : ST'} (R : RelH K H ρ h) (RE : RelE K H ρ e σ) (P : PostR K W D ρ H (SR.noErr (s e h))) : tR K W0 s D σ H := by
  refine ⟨ρ, h, e, R, RE, ?_⟩
  cases z : s e h with
  | err _ _ _ _ => rw [z] at P; exact P.elim
  | nx _ _ => rw [z] at P; exact P
  | rt _ _ => rw [z] at P; exact P
  | bk _ _ => rw [z] at P; exact P
  | ct _ _ => rw [z] at P; exact P
  | stuck => rw [z] at P; exact P.elim
theorem off_tR {K : PySem.W.Frag} {D : Ends} {σ : L2.St} {H : Hp} {ρ : Rho} {h : SHp} {e : Env} {s : ST'} {i : Nat} (R : RelH K H ρ h) (RE : RelE K H ρ e σ) (P : PostR K W D ρ H (SR.off i (SR.noErr (s e h)))) : tR K W0 s (endsGone D i) σ H := by
  refine ⟨ρ, h, e, R, RE, ?_⟩
  cases z : s e h with
  | err _ _ _ _ => rw [z] at P; exact P.elim
  | nx _ _ => rw [z] at P; exact fun ρ2 H2 σ2 E2 R2 RE2 => P ρ2 H2 _ E2 R2 RE2.set_none
  | rt _ _ => rw [z] at P; exact P
  | bk _ _ => rw [z] at P; exact fun ρ2 H2 σ2 E2 R2 RE2 => P ρ2 H2 _ E2 R2 RE2.set_none
  | ct _ _ => rw [z] at P; exact fun ρ2 H2 σ2 E2 R2 RE2 => P ρ2 H2 _ E2 R2 RE2.set_none
  | stuck => rw [z] at P; exact P.elim
theorem clS_ok {hs : List ExceptHandler} {l : List CM} (q : ClS X hs l) : ∃ l', ClOk X hs l' ∧ ∀ (D : Ends) (ρ : Rho) (H : Hp) (h : SHp) (e : Env) (σ : L2.St) (c : Addr) (fs : List (Str × SV)) (cv : Value) (d : Option Addr),
    RelH X.K H ρ h → RelE X.K H ρ e σ → ExcRel X.K H ρ c fs cv d → PostR X.K W D ρ H (clM l c fs e h) → wN X.K W D l' cv d σ H := by
  induction q with
  | nil => exact ⟨[], .nil, fun D ρ H h e σ c fs cv d R RE q P => P ρ H σ cv d .refl R RE q⟩
  | @plain x C m s st sts p p' hs l gC hm su r hg hdb ih =>
    obtain ⟨l', ck, k⟩ := ih
    refine ⟨⟨.ref C, none, fun _ _ _ => tR X.K W0 s⟩ :: l', .plain ⟨hg, hdb, .inl gC⟩ (fun a oe cls d pn hz hf => (su a oe cls d pn hz hf).pss) ck, fun D ρ H h e σ c fs cv d R RE q P => ?_⟩
    have ecv : cv = .ref c := q.1
    subst ecv
    unfold clM at P
    simp only at P
    cases mc : m c with
    | none => rw [mc] at P; exact P.elim
    | some b =>
      rw [mc] at P
      cases b with
      | true => exact ⟨true, hm c _ mc, fun _ a ha => noErr_tR R RE P, fun z => by cases z⟩
      | false => exact ⟨false, hm c _ mc, (fun z => by cases z), fun _ => k D ρ H h e σ c fs _ d R RE q P⟩
  | @named x n i C m s st sts p p' hs l gC hm hN hi hk par su r hg hdb ih =>
    obtain ⟨l', ck, k⟩ := ih
    refine ⟨⟨.ref C, some i, tsN X.K m s⟩ :: l', .named ⟨hg, hdb, .inl gC⟩ hN hi hk (suite_N su) ck, fun D ρ H h e σ c fs cv d R RE q P => ?_⟩
    have ecv : cv = .ref c := q.1
    subst ecv
    unfold clM at P
    simp only at P
    cases mc : m c with
    | none => rw [mc] at P; exact P.elim
    | some b =>
      rw [mc] at P
      cases b with
      | false => exact ⟨false, hm c _ mc, (fun z => by cases z), fun _ => k D ρ H h e σ c fs _ d R RE q P⟩
      | true =>
        refine ⟨true, hm c _ mc, fun _ a ha => ?_, fun z => by cases z⟩
        simp only at P
        by_cases f0 : fs = []
        · rw [if_pos f0] at P; exact P.elim
        · rw [if_neg f0] at P
          rcases q.2 with ⟨z, _⟩ | ⟨g, fv, rfl, hg2, en, rr⟩
          · exact (f0 z).elim
          · show tsN X.K m s a (.ref c) (some g) (endsGone D i) (σ.set i (some (.ref a))) H
            unfold tsN
            simp only
            rw [if_pos mc]
            refine off_tR (W := W) (e := e.set i (some (.xcp a g (fs.map (·.1)) (fs.map (·.2))))) R (RE.set (.xcp hg2 en rr .nil)) ?_
            rw [par a g]
            exact P
theorem s_tryN {body : List Stmt} {h₀ : ExceptHandler} {hds : List ExceptHandler} {l : List CM} {pos : Pos} {b : ST'} (tk : Takes X W)
    (hb : ∀ (W' : WX) (pn : List (Addr × Obj)) (xe : Value → Shared → Prop), Takes (X.tr pn xe) W' → PassesOwn (model X.prog X.w) X.A X.env xe → SSs (X.tr pn xe) W' body b)
    (hh : ClS X (h₀ :: hds) l) (hs : X.stack = X.env :: X.outer := by rfl) (hf : X.env.frame = some X.env.locals := by rfl) :
    SS X W (.Try body (h₀ :: hds) [] [] pos) (cTryN l b) := by
  obtain ⟨l', ck, k⟩ := clS_ok (W := W) hh
  refine ⟨imp_ps (ps_tryN (tb := fun W' => tR X.K W' b) hs hf tk (fun W' pn xe t p => (hb W' pn xe t p).pss) ck) fun D σ H ⟨ρ, h, env, R, RE, P⟩ => ⟨ρ, h, env, R, RE, ?_⟩⟩
  unfold cTryN at P
  cases z : b env h with
  | err c fs e' h' =>
    rw [z] at P
    exact fun ρ1 H1 σ1 cv d E1 R1 RE1 q => k D ρ1 H1 h' e' σ1 c fs cv d R1 RE1 q (PostR.shift P E1)
  | nx _ _ => rw [z] at P; exact P
  | rt _ _ => rw [z] at P; exact P
  | bk _ _ => rw [z] at P; exact P
  | ct _ _ => rw [z] at P; exact P
  | stuck => rw [z] at P; exact P
end
end Sim

set_option Elab.async false
set_option linter.all false
set_option maxRecDepth 100000
set_option maxHeartbeats 4000000
namespace Sim
open PySem L2
variable [Tabl]
/-! ### dict comprehensions: keys are ints or texts -/
omit [Tabl] in
def compD (g : SV → Env → Option Env) (t : Env → M Bool) (ke ve : Env → M SV) (gd : Gd) (e : Env) : List SV → List SV × List SV → M (List SV × List SV)
  | [], acc => fun h => if gd.ok h = true then .ok acc h else .stuck
  | s :: ss, acc => fun h => if gd.ok h = true then match g s e with
    | none => .stuck
    | some e1 => M.bindN (t e1) (fun k => if k = true then M.bindN (ke e1) (fun q => M.bindN (ve e1) (fun v => if isK q = true ∧ acc.1.length < sizeLine then compD g t ke ve gd e ss (putD acc.1 acc.2 q v) else fun _ => .stuck)) else compD g t ke ve gd e ss acc) h
    else .stuck
omit [Tabl] in
def eDc (c : Env → M (List SV × Gd)) (own : List Nat) (g : SV → Env → Option Env) (t : Env → M Bool) (ke ve : Env → M SV) : Env → M SV := fun e =>
  M.bind (c e) fun v => M.bind (compD g t ke ve v.2 (wipeE e own) v.1 ([], [])) fun xs => M.ret (.rdc false xs.1 xs.2)
section
variable {X : Cx} {W : WX} {kx vx tg iter : Expr} {ifs : List Expr} {scope : Scope} {pos : Pos} {c : Env → M (List SV × Gd)} {g : SV → Env → Option Env} {t : Env → M Bool} {ke ve : Env → M SV} {vs : List Nat}
theorem dc_post {own : List (Str × Nat)} {σ : L2.St} {H : Hp} {Q : VK} (hv : ∀ v ∈ vs, v ∈ own.map (·.2)) (h : tS X.K W (eDc c (own.map (·.2)) g t ke ve) σ H Q) :
    tDc (tI X.K W c) (tTg X.K g vs) (tB X.K W0 t) (tS X.K W0 ke) (tS X.K W0 ve) (own.map (·.2)) σ H Q := by
  obtain ⟨ρ, h, env, R, RE, P⟩ := h
  refine ⟨ρ, h, env, R, RE, (Post.bind (rel := fun H1 ρ1 v J => ItOk X.K J v.1 v.2 ρ1 H1) P).mono fun J H1 ⟨ρ1, v, h1, E1, R1, hJ, P1⟩ D hD => ?_⟩
  obtain ⟨items, gd⟩ := v
  have RE1 := RE.mono R.holds E1
  have oD := R1.outf hD
  let Inv' : Nat → Hp → Prop := fun i H => ∃ ρ h, ∃ acc : List SV × List SV, ∃ kvs : List (Key × V), Ext ρ1 H1 ⟨ρ.l, ρ1.ex⟩ H ∧ RelH X.K H ρ h ∧ RelE X.K H ρ env σ ∧ D ∈ ρ.ex ∧ D ∉ ρ.l ∧ (∀ d ∈ ρ.ex, d ∈ ρ1.ex ∨ (H1 d = none ∧ d ∉ ρ1.l)) ∧ (∀ d ∈ ρ1.ex, d ∈ ρ.ex) ∧ H D = some (.dK kvs) ∧ kvs.map (fun p => keyS p.1) = acc.1 ∧ RelL X.K H ρ acc.2 (kvs.map (·.2)) ∧
    Post X.K W (relS X.K) σ ρ1 H1 (M.bind (compD g t ke ve gd (wipeE env (own.map (·.2))) (items.drop i) acc) (fun xs => M.ret (.rdc false xs.1 xs.2)) h) Q
  refine ⟨fun i m H => m = items.length - i ∧ i ≤ items.length ∧ Inv' i H, ⟨items.length, by simp, Nat.zero_le _, ρ1.hide D, h1, ([], []), [], ?_, R1.hidden hD, RE1.mono R1.holds (.hidden hD R1.holds), List.mem_cons_self, oD.1, ?_, fun d hd => List.mem_cons_of_mem _ hd, upd_same, rfl, .nil, P1⟩, ?_⟩
  · exact .fresh hD
  · intro d hd
    rcases List.mem_cons.mp hd with q | q
    · subst q; exact .inr ⟨hD, oD.1⟩
    · exact .inl q
  rintro i m H ⟨rfl, hi, ρ, h, acc, us, E, R, RE2, mD, nD, hid, sub, hH, ek, ra, P⟩
  have E' : Ext ρ1 H1 ρ H := ⟨E.pre, E.new, E.kp, E.dk, E.tbl, hid, sub⟩
  by_cases hlt : i < items.length
  · rw [List.drop_eq_getElem_cons hlt] at P
    unfold compD at P
    by_cases hg : gd.ok h = true
    · obtain ⟨go, st, yl⟩ := hJ ρ H h E'.v R hg
      refine .inr ⟨go i hlt, Inv' (i + 1), fun H' q => ⟨items.length - (i + 1), by omega, rfl, hlt, q⟩, fun x H' y => ?_⟩
      obtain ⟨E2, R2, s, hs, r2⟩ := yl i x H' hlt y
      have hs' : items[i] = s := by rw [List.getElem?_eq_getElem hlt] at hs; exact Option.some.inj hs
      rw [hs'] at P
      have hH2 : H' D = some (.dK us) := E2.keptD hH nD mD
      have ra2 := ra.mono R.holds E2
      have RE3 := RE2.mono R.holds E2
      have E12 := E.over E2 sub
      cases eg : g s (wipeE env (own.map (·.2))) with
      | none => simp only [M.bind, if_pos hg, eg] at P; exact P.elim
      | some env1 =>
        have P0 : Post X.K W (relS X.K) σ ρ1 H1 (M.bindN (t env1) (fun k => M.bind (if k = true then M.bindN (ke env1) (fun q => M.bindN (ve env1) (fun v => if isK q = true ∧ acc.1.length < sizeLine then compD g t ke ve gd (wipeE env (own.map (·.2))) (items.drop (i + 1)) (putD acc.1 acc.2 q v) else fun _ => .stuck)) else compD g t ke ve gd (wipeE env (own.map (·.2))) (items.drop (i + 1)) acc) (fun xs => M.ret (.rdc false xs.1 xs.2))) h) Q := by
          simp only [M.bind, if_pos hg, eg] at P
          simp only [M.bindN] at P ⊢
          cases et : t env1 h with
          | ok k h' => simp only [et] at P ⊢; exact P
          | err c fs h' => simp only [et] at P; exact P.elim
          | stuck => simp only [et] at P; exact P.elim
        refine ⟨ρ, h, _, s, env1, R2, RE3.wipe _, r2, eg, fun σ2 RE4 a2 l2 => ⟨wipe_same _ a2 l2 hv, ?_⟩⟩
        refine ⟨ρ, h, env1, R2, RE4, (Post.bindN (rel := relT) (σ' := σ2) (ρ := ρ) (H := H') P0).mono fun k H3 ⟨ρ3, k', h3, E3, R3, r3, P3⟩ => ?_⟩
        cases r3
        have E13 := E12.over E3 sub
        have mD3 : D ∈ ρ3.ex := E3.sub D mD
        have nD3 : D ∉ ρ3.l := E3.outl hH2 nD
        have hH3 : H3 D = some (.dK us) := E3.keptD hH2 nD mD
        have ra3 := ra2.mono R2.holds E3
        have RE5 := RE3.mono R2.holds E3
        have EE : Ext ρ1 H1 ρ3 H3 := (E'.tr E2).tr E3
        cases k with
        | false => exact iteF ⟨ρ3, h3, acc, us, E13, R3, RE5, mD3, nD3, EE.hid, EE.sub, hH3, ek, ra3, P3⟩
        | true =>
          refine iteT ⟨ρ3, h3, env1, R3, RE4.mono R2.holds E3, ?_⟩
          have P4 : Post X.K W (relS X.K) σ ρ1 H1 (M.bindN (ke env1) (fun q => M.bind (M.bindN (ve env1) (fun v => if isK q = true ∧ acc.1.length < sizeLine then compD g t ke ve gd (wipeE env (own.map (·.2))) (items.drop (i + 1)) (putD acc.1 acc.2 q v) else fun _ => .stuck)) (fun xs => M.ret (.rdc false xs.1 xs.2))) h3) Q := by
            simp only [M.bind, M.bindN, if_true] at P3 ⊢
            cases et : ke env1 h3 with
            | ok k h' => simp only [et] at P3 ⊢; exact P3
            | err c fs h' => simp only [et] at P3; exact P3.elim
            | stuck => simp only [et] at P3; exact P3.elim
          refine (Post.bindN (rel := relS X.K) (σ' := σ2) (ρ := ρ3) (H := H3) P4).mono fun y H4 ⟨ρ4, q, h4, E4, R4, r4, P5⟩ => ?_
          have mD4 : D ∈ ρ4.ex := E4.sub D mD3
          have nD4 : D ∉ ρ4.l := E4.outl hH3 nD3
          have hH4 : H4 D = some (.dK us) := E4.keptD hH3 nD3 mD3
          have ra4 := ra3.mono R3.holds E4
          have RE6 := RE5.mono R3.holds E4
          have RE4' := (RE4.mono R2.holds E3).mono R3.holds E4
          have EE4 : Ext ρ1 H1 ρ4 H4 := EE.tr E4
          have E14 := E13.over E4 EE.sub
          have P6 : Post X.K W (relS X.K) σ ρ1 H1 (M.bindN (ve env1) (fun v => M.bind (if isK q = true ∧ acc.1.length < sizeLine then compD g t ke ve gd (wipeE env (own.map (·.2))) (items.drop (i + 1)) (putD acc.1 acc.2 q v) else fun _ => .stuck) (fun xs => M.ret (.rdc false xs.1 xs.2))) h4) Q := by
            simp only [M.bind, M.bindN] at P5 ⊢
            cases et : ve env1 h4 with
            | ok k h' => simp only [et] at P5 ⊢; exact P5
            | err c fs h' => simp only [et] at P5; exact P5.elim
            | stuck => simp only [et] at P5; exact P5.elim
          refine ⟨ρ4, h4, env1, R4, RE4', (Post.bindN (rel := relS X.K) (σ' := σ2) (ρ := ρ4) (H := H4) P6).mono fun z H5 ⟨ρ5, v, h5, E5, R5, r5, P7⟩ => ?_⟩
          have mD5 : D ∈ ρ5.ex := E5.sub D mD4
          have nD5 : D ∉ ρ5.l := E5.outl hH4 nD4
          have hH5 : H5 D = some (.dK us) := E5.keptD hH4 nD4 mD4
          have ra5 := ra4.mono R4.holds E5
          have RE7 := RE6.mono R4.holds E5
          have EE5 : Ext ρ1 H1 ρ5 H5 := EE4.tr E5
          have E15 := E14.over E5 EE4.sub
          by_cases hs : isK q = true ∧ acc.1.length < sizeLine
          · simp only [if_pos hs] at P7
            obtain ⟨k, rfl, rfl⟩ := isK_rel hs.1 r4
            have lk : us.length < sizeLine := by have := hs.2; rw [← ek, List.length_map] at this; exact this
            have pd := putD_rel (fun a b => keyS_inj) (k := k) r5 ra5
            rw [ek] at pd
            refine ⟨us, k, rfl, hH5, lk, ρ5, h5, putD acc.1 acc.2 (keyS k) v, putK us k z, E15.at0 hD, R5.scribble mD5 (.dK hH5) nD5, RE7.scribble mD5 (.dK hH5), mD5, nD5, EE5.hid, EE5.sub, upd_same, pd.1, pd.2.scribble mD5 (.dK hH5), P7⟩
          · simp only [M.bind, if_neg hs] at P7; exact P7.elim
    · simp only [M.bind, if_neg hg] at P; exact P.elim
  · have hi' : i = items.length := by omega
    subst hi'
    rw [List.drop_length] at P
    unfold compD at P
    by_cases hg : gd.ok h = true
    · obtain ⟨go, st, yl⟩ := hJ ρ H h E'.v R hg
      simp only [M.bind, if_pos hg] at P
      have ro : Rho.out ⟨ρ.l, ρ1.ex⟩ D := ⟨nD, oD.2⟩
      exact .inl ⟨st, P ⟨ρ.l, ρ1.ex⟩ H _ E (R.show rfl sub) (.rdK (.inl hH) ro ek (ra.show rfl sub) .nil)⟩
    · simp only [M.bind, if_neg hg] at P; exact P.elim
theorem e_dc (own : List (Str × Nat)) (hc : X.calm = true) (hN : X.N.Nodup) (hi : SI X W tg iter c) (ok : BlkOk X.N X.env.scope scope own)
    (hg : ∀ (s : Shared) (H : Hp) (C : Addr) (cl : List (Str × Addr)) (fp : List Addr), SG (X.blk s H scope (compEnvC scope cl C X.env) fp) tg g vs) (ht : ∀ (s : Shared) (H : Hp) (C : Addr) (cl : List (Str × Addr)) (fp : List Addr), STs (X.blk s H scope (compEnvC scope cl C X.env) fp) ifs t)
    (hk : ∀ (s : Shared) (H : Hp) (C : Addr) (cl : List (Str × Addr)) (fp : List Addr), SE (X.blk s H scope (compEnvC scope cl C X.env) fp) W0 kx ke)
    (he : ∀ (s : Shared) (H : Hp) (C : Addr) (cl : List (Str × Addr)) (fp : List Addr), SE (X.blk s H scope (compEnvC scope cl C X.env) fp) W0 vx ve) (hv : ∀ v ∈ vs, v ∈ own.map (·.2) := by decide) (hs : ∀ x, foldedSetIterable iter X.env x = pure x := by intro _; rfl) :
    SE X W (.DictComp kx vx [⟨tg, iter, ifs, 0⟩] scope pos) (eDc c (own.map (·.2)) g t ke ve) :=
  ⟨imp_pe (pe_dc (own := own) (wi := tI X.K W c) (g := tTg X.K g vs) (tt := tB X.K W0 t) (tk := tS X.K W0 ke) (tv := tS X.K W0 ve) hc hN hi.pi ok (fun s H C cl fp => (hg s H C cl fp).pg) (fun s H C cl fp => (ht s H C cl fp).pt) (fun s H C cl fp => (hk s H C cl fp).pe) (fun s H C cl fp => (he s H C cl fp).pe) hs) fun σ H Q h => dc_post hv h⟩
end
end Sim

set_option Elab.async false
set_option linter.all false
set_option maxRecDepth 100000
set_option maxHeartbeats 4000000
namespace Sim
open PySem PySem.Spec PyProof.Rows L2
variable [Tabl]
omit [Tabl] in
def mOf (C : Addr) (l : List Addr) : Addr → Option Bool := fun c => if c = C then some true else if c ∈ l then some false else none
theorem mOf_true {C c : Addr} {l : List Addr} (h : mOf C l c = some true) : c = C := by
  unfold mOf at h
  by_cases q : c = C
  · exact q
  · rw [if_neg q] at h; split at h <;> cases h
theorem catch_of {K : PySem.W.Frag} {C : Addr} {l : List Addr} (h : PySem.W.exmOne K (.ref C) (.ref C) = some true) (hl : ∀ x ∈ l, PySem.W.exmOne K (.ref x) (.ref C) = some false) : ∀ c k, mOf C l c = some k → PySem.W.exmOne K (.ref c) (.ref C) = some k := by
  intro c k e
  unfold mOf at e
  by_cases q : c = C
  · rw [if_pos q] at e; cases e; rw [q]; exact h
  · rw [if_neg q] at e
    by_cases m : c ∈ l
    · rw [if_pos m] at e; cases e; exact hl c m
    · rw [if_neg m] at e; cases e
omit [Tabl] in
theorem ne_of {K : PySem.W.Frag} {x c : Addr} (h : PySem.W.subIn K (.ref c) (.ref c) = some true) (h2 : PySem.W.subIn K (.ref x) (.ref c) = some false) : x ≠ c := fun e => by
  subst e
  rw [h] at h2
  cases h2
theorem eXf_set (b g : Addr) (i : Nat) (f : Str) (ns : List Str) (xs : List SV) (e : Env) : eXf b g i f (e.set i (some (.xcp b g ns xs))) = M.of (if i < e.length then getF f ns xs else none) := by
  unfold eXf
  by_cases h : i < e.length
  · rw [List.getElem?_set_self h, if_pos h]
    simp
  · rw [List.getElem?_eq_none (by simp; omega), if_neg h]
    rfl
omit [Tabl] in
def SR.retd : Res SV → SR
  | .ok v h => .rt v h
  | _ => .stuck
theorem ret_off (i : Nat) (c : Env → M SV) (e : Env) (h : SHp) : SR.off i (SR.noErr (cRet c e h)) = SR.retd (c e h) := by
  unfold cRet
  rw [ev_onV]
  cases c e h <;> rfl
omit [Tabl] in
def eNever : Env → M SV := fun _ _ => .stuck
theorem e_never {X : Cx} {W : WX} {e : Expr} : SE X W e eNever := ⟨⟨fun _ _ _ _ _ _ ⟨_, _, _, _, _, P⟩ => P.elim⟩⟩
section
variable {X : Cx} {W : WX} {kx vx tg iter : Expr} {ifs : List Expr} {scope : Scope} {pos : Pos} {c : Env → M (List SV × Gd)} {g : SV → Env → Option Env} {t : Env → M Bool} {ke ve : Env → M SV} {vs : List Nat}
theorem ps_setDc {i : Nat} {y : Str} {py spos : Pos} {own : List (Str × Nat)} {wi : TI} {g : TG} {tt : TT} {tk tv : TE} (hc : X.calm = true) (hN : X.N.Nodup) (hy : X.N[i]? = some y) (hyl : X.env.scope.names.lookup y = some .local)
    (hsw : swapsWith (.DictComp kx vx [⟨tg, iter, ifs, 0⟩] scope pos) (some (.Name y py)) spos.line X.env = pure true) (hi : PI X tg iter wi) (ok : BlkOk X.N X.env.scope scope own)
    (hg : ∀ (s : Shared) (H : Hp) (C : Addr) (cl : List (Str × Addr)) (fp : List Addr), PG (X.blk s H scope (compEnvC scope cl C X.env) fp) tg g) (ht : ∀ (s : Shared) (H : Hp) (C : Addr) (cl : List (Str × Addr)) (fp : List Addr), PTs (X.blk s H scope (compEnvC scope cl C X.env) fp) ifs tt)
    (hk : ∀ (s : Shared) (H : Hp) (C : Addr) (cl : List (Str × Addr)) (fp : List Addr), PE (X.blk s H scope (compEnvC scope cl C X.env) fp) kx tk)
    (he : ∀ (s : Shared) (H : Hp) (C : Addr) (cl : List (Str × Addr)) (fp : List Addr), PE (X.blk s H scope (compEnvC scope cl C X.env) fp) vx tv) (hs : ∀ x, foldedSetIterable iter X.env x = pure x) :
    PS X (.Assign [.Name y py] (.DictComp kx vx [⟨tg, iter, ifs, 0⟩] scope pos) spos) (tAsg (tDc wi g tt tk tv (own.map (·.2))) (gName i)) := by
  refine ⟨fun pins s σ H D I h => ?_⟩
  rw [exec_Assign_Name_used _ _ _ _ hsw]
  refine wpAny_bind (wpAny_standAt (wpAny_bind ?_))
  show wpAny _ X.A (do let _ ← comprehension (.DictComp kx vx [⟨tg, iter, ifs, 0⟩] scope pos) scope X.env (firstIterPos [⟨tg, iter, ifs, 0⟩] pos) newDict false (eval iter X.env) (some (assign (.Name y py) X.env))) _ _ s
  have h2 : tDc wi g tt tk tv (own.map (·.2)) σ H (fun x H1 => gName i x σ H1 D.nx) := h
  refine wpAny_bind (thn (dc_core (Qf := fun _ s' => SP X pins D .next s') hc hN I hi ok hg ht hk he hs h2 fun L C s' m G I' q hn f => ?_) fun _ s' hq => wpAny_pure (wpAny_pure hq))
  show wpAny _ _ (assign (.Name y py) X.env (.ref L)) _ _ _
  refine wpAny_assign_Name (store_ok2 (v := V.ref L) I' hN hy (.inl hyl) rfl (fun s2 J ⟨a, sb, ha⟩ => ?_) (.inr hyl))
  obtain ⟨f0, f1, f2, f3, f4, f5⟩ := f
  have ne : C ≠ a := ha.elim (fun z => z ▸ f1) fun z e => f4 y a z e.symm
  exact ⟨m, hn.sameBut sb ne, fun h3 sb3 => ⟨_, G, J.turned (t' := s2.toks) (fun b o hb e => (sb3.2 b hb).trans e) f0 f1 f3 f4 f5, q⟩⟩
theorem s_setDc (i : Nat) {y : Str} {py spos : Pos} (own : List (Str × Nat)) (hc : X.calm = true) (hN : X.N.Nodup) (hi : SI X W tg iter c) (ok : BlkOk X.N X.env.scope scope own)
    (hg : ∀ (s : Shared) (H : Hp) (C : Addr) (cl : List (Str × Addr)) (fp : List Addr), SG (X.blk s H scope (compEnvC scope cl C X.env) fp) tg g vs) (ht : ∀ (s : Shared) (H : Hp) (C : Addr) (cl : List (Str × Addr)) (fp : List Addr), STs (X.blk s H scope (compEnvC scope cl C X.env) fp) ifs t)
    (hk : ∀ (s : Shared) (H : Hp) (C : Addr) (cl : List (Str × Addr)) (fp : List Addr), SE (X.blk s H scope (compEnvC scope cl C X.env) fp) W0 kx ke)
    (he : ∀ (s : Shared) (H : Hp) (C : Addr) (cl : List (Str × Addr)) (fp : List Addr), SE (X.blk s H scope (compEnvC scope cl C X.env) fp) W0 vx ve)
    (hsw : swapsWith (.DictComp kx vx [⟨tg, iter, ifs, 0⟩] scope pos) (some (.Name y py)) spos.line X.env = pure true)
    (hy : X.N[i]? = some y := by rfl) (hyl : X.env.scope.names.lookup y = some .local := by rfl)
    (hv : ∀ v ∈ vs, v ∈ own.map (·.2) := by decide) (hs : ∀ x, foldedSetIterable iter X.env x = pure x := by intro _; rfl) :
    SS X W (.Assign [.Name y py] (.DictComp kx vx [⟨tg, iter, ifs, 0⟩] scope pos) spos) (cSet i (eDc c (own.map (·.2)) g t ke ve)) :=
  ⟨imp_ps (ps_setDc (own := own) (wi := tI X.K W c) (g := tTg X.K g vs) (tt := tB X.K W0 t) (tk := tS X.K W0 ke) (tv := tS X.K W0 ve) hc hN hy hyl hsw hi.pi ok (fun s H C cl fp => (hg s H C cl fp).pg) (fun s H C cl fp => (ht s H C cl fp).pt) (fun s H C cl fp => (hk s H C cl fp).pe) (fun s H C cl fp => (he s H C cl fp).pe) hs) fun D σ H ⟨ρ, h, env, R, RE, P⟩ =>
    dc_post (Q := fun x H1 => gName i x σ H1 D.nx) hv ⟨ρ, h, env, R, RE, (post_onV R RE P).mono fun x H1 ⟨ρ1, v, h1, E1, R1, RE1, r1, P1⟩ => P1 ρ1 H1 _ .refl R1 (RE1.set r1)⟩⟩
end
theorem sw_trueD {ke ve : Expr} {cs : List Comprehension} {sc : Scope} {p q : Pos} {x : Str} {l : Nat} {E : PySem.Env} (fn : E.scope.kind = .function) (loc : E.scope.names.lookup x = some .local) (ln : (q.line == p.line) = true)
    (no : (sc.names.any fun (n, k) => n == x && (k == .local || k == .cell)) = false) : swapsWith (.DictComp ke ve cs sc p) (some (.Name x q)) l E = pure true := by
  have k1 : E.kindOf x = some .local := loc
  have k2 : E.blockKind = .function := by
    unfold PySem.Env.blockKind
    rw [fn]
    rfl
  unfold swapsWith
  simp only [k2, k1, no, Expr.pos, ln]
  rfl
end Sim

set_option Elab.async false
set_option linter.all false
set_option maxRecDepth 100000
set_option maxHeartbeats 4000000
namespace Sim
open PySem L2
variable [Tabl]
/-! ### comprehensions with two for -/
omit [Tabl] in
def compL2 (g : SV → Env → Option Env) (t : Env → M Bool) (c1 : Env → M (List SV × Gd)) (vs1 : List Nat) (g1 : SV → Env → Option Env) (t1 : Env → M Bool) (el : Env → M SV) (gd : Gd) (e : Env) : List SV → List SV → M (List SV)
  | [], acc => fun h => if gd.ok h = true then .ok acc h else .stuck
  | s :: ss, acc => fun h => if gd.ok h = true then match g s e with
    | none => .stuck
    | some e1 => M.bindN (t e1) (fun k => if k = true then M.bindN (c1 e1) (fun v => M.bindN (compL g1 t1 el v.2 (wipeE e1 vs1) v.1 acc) (fun acc' => compL2 g t c1 vs1 g1 t1 el gd e ss acc')) else compL2 g t c1 vs1 g1 t1 el gd e ss acc) h
    else .stuck
omit [Tabl] in
def eLc2 (c : Env → M (List SV × Gd)) (own : List Nat) (g : SV → Env → Option Env) (t : Env → M Bool) (c1 : Env → M (List SV × Gd)) (vs1 : List Nat) (g1 : SV → Env → Option Env) (t1 : Env → M Bool) (el : Env → M SV) : Env → M SV := fun e =>
  M.bind (c e) fun v => M.bind (compL2 g t c1 vs1 g1 t1 el v.2 (wipeE e own) v.1 []) fun xs => M.ret (.rls xs)
section
variable {X : Cx} {W : WX} {elt tg iter tg1 iter1 : Expr} {ifs ifs1 : List Expr} {scope : Scope} {pos : Pos} {c c1 : Env → M (List SV × Gd)} {g g1 : SV → Env → Option Env} {t t1 : Env → M Bool} {el : Env → M SV} {vs vs1 : List Nat}
theorem lc2_post {own : List (Str × Nat)} {σ : L2.St} {H : Hp} {Q : VK} (hv : ∀ v ∈ vs, v ∈ own.map (·.2)) (h : tS X.K W (eLc2 c (own.map (·.2)) g t c1 vs1 g1 t1 el) σ H Q) :
    tLc2 (tI X.K W c) (tTg X.K g vs) (tB X.K W0 t) (tI X.K W0 c1) (tTg X.K g1 vs1) (tB X.K W0 t1) (tS X.K W0 el) (own.map (·.2)) vs1 σ H Q := by
  obtain ⟨ρ, h, env, R, RE, P⟩ := h
  refine ⟨ρ, h, env, R, RE, (Post.bind (rel := fun H1 ρ1 v J => ItOk X.K J v.1 v.2 ρ1 H1) P).mono fun J H1 ⟨ρ1, v, h1, E1, R1, hJ, P1⟩ D hD => ?_⟩
  obtain ⟨items, gd⟩ := v
  have RE1 := RE.mono R.holds E1
  have oD := R1.outf hD
  let rest : Nat → List SV → M SV := fun i acc => M.bind (compL2 g t c1 vs1 g1 t1 el gd (wipeE env (own.map (·.2))) (items.drop i) acc) (fun xs => M.ret (.rls xs))
  let Inv' : Nat → Hp → Prop := fun i H => ∃ ρ h acc us, Ext ρ1 H1 ⟨ρ.l, ρ1.ex⟩ H ∧ RelH X.K H ρ h ∧ RelE X.K H ρ env σ ∧ D ∈ ρ.ex ∧ D ∉ ρ.l ∧ (∀ d ∈ ρ.ex, d ∈ ρ1.ex ∨ (H1 d = none ∧ d ∉ ρ1.l)) ∧ (∀ d ∈ ρ1.ex, d ∈ ρ.ex) ∧ H D = some (.lst us) ∧ RelL X.K H ρ acc us ∧
    Post X.K W (relS X.K) σ ρ1 H1 (rest i acc h) Q
  refine ⟨fun i m H => m = items.length - i ∧ i ≤ items.length ∧ Inv' i H, ⟨items.length, by simp, Nat.zero_le _, ρ1.hide D, h1, [], [], ?_, R1.hidden hD, RE1.mono R1.holds (.hidden hD R1.holds), List.mem_cons_self, oD.1, ?_, fun d hd => List.mem_cons_of_mem _ hd, upd_same, .nil, P1⟩, ?_⟩
  · exact .fresh hD
  · intro d hd
    rcases List.mem_cons.mp hd with q | q
    · subst q; exact .inr ⟨hD, oD.1⟩
    · exact .inl q
  rintro i m H ⟨rfl, hi, ρ, h, acc, us, E, R, RE2, mD, nD, hid, sub, hH, ra, P⟩
  have E' : Ext ρ1 H1 ρ H := ⟨E.pre, E.new, E.kp, E.dk, E.tbl, hid, sub⟩
  by_cases hlt : i < items.length
  · simp only [rest] at P
    rw [List.drop_eq_getElem_cons hlt] at P
    unfold compL2 at P
    by_cases hg : gd.ok h = true
    · obtain ⟨go, st, yl⟩ := hJ ρ H h E'.v R hg
      refine .inr ⟨go i hlt, Inv' (i + 1), fun H' q => ⟨items.length - (i + 1), by omega, rfl, hlt, q⟩, fun x H' y => ?_⟩
      obtain ⟨E2, R2, s, hs, r2⟩ := yl i x H' hlt y
      have hs' : items[i] = s := by rw [List.getElem?_eq_getElem hlt] at hs; exact Option.some.inj hs
      rw [hs'] at P
      have hH2 : H' D = some (.lst us) := E2.kept D _ hH nD
      have ra2 := ra.mono R.holds E2
      have RE3 := RE2.mono R.holds E2
      have E12 := E.over E2 sub
      cases eg : g s (wipeE env (own.map (·.2))) with
      | none => simp only [M.bind, if_pos hg, eg] at P; exact P.elim
      | some env1 =>
        have P0 : Post X.K W (relS X.K) σ ρ1 H1 (M.bindN (t env1) (fun k => if k = true then M.bindN (c1 env1) (fun v => M.bindN (compL g1 t1 el v.2 (wipeE env1 vs1) v.1 acc) (fun acc' => rest (i + 1) acc')) else rest (i + 1) acc) h) Q := by
          simp only [M.bind, if_pos hg, eg] at P
          simp only [rest, M.bindN, M.bind] at P ⊢
          cases et : t env1 h with
          | ok k h' =>
            simp only [et] at P ⊢
            cases k with
            | false => simp only [Bool.false_eq_true, if_false] at P ⊢; exact P
            | true =>
              simp only [if_true] at P ⊢
              cases ec : c1 env1 h' with
              | ok v h'' =>
                simp only [M.bindN, ec] at P ⊢
                cases el2 : compL g1 t1 el v.2 (wipeE env1 vs1) v.1 acc h'' with
                | ok a h3 => simp only [M.bindN, el2] at P ⊢; exact P
                | err c fs h3 => simp only [el2] at P; exact P.elim
                | stuck => simp only [el2] at P; exact P.elim
              | err c fs h'' => simp only [M.bindN, ec] at P; exact False.elim P
              | stuck => simp only [M.bindN, ec] at P; exact False.elim P
          | err c fs h' => simp only [et] at P; exact P.elim
          | stuck => simp only [et] at P; exact P.elim
        refine ⟨ρ, h, _, s, env1, R2, RE3.wipe _, r2, eg, fun σ2 RE4 a2 l2 => ⟨wipe_same _ a2 l2 hv, ?_⟩⟩
        refine ⟨ρ, h, env1, R2, RE4, (Post.bindN (rel := relT) (σ' := σ2) (ρ := ρ) (H := H') P0).mono fun k H3 ⟨ρ3, k', h3, E3, R3, r3, P3⟩ => ?_⟩
        cases r3
        have E13 := E12.over E3 sub
        have mD3 : D ∈ ρ3.ex := E3.sub D mD
        have nD3 : D ∉ ρ3.l := E3.outl hH2 nD
        have hH3 : H3 D = some (.lst us) := E3.kept D _ hH2 nD
        have ra3 := ra2.mono R2.holds E3
        have RE5 := RE3.mono R2.holds E3
        have EE : Ext ρ1 H1 ρ3 H3 := (E'.tr E2).tr E3
        cases k with
        | false => exact iteF ⟨ρ3, h3, acc, us, E13, R3, RE5, mD3, nD3, EE.hid, EE.sub, hH3, ra3, P3⟩
        | true =>
          simp only [if_true] at P3
          refine iteT ⟨ρ3, h3, env1, R3, RE4.mono R2.holds E3, (Post.bindN (rel := fun H1 ρ1 v J => ItOk X.K J v.1 v.2 ρ1 H1) (σ' := σ2) (ρ := ρ3) (H := H3) P3).mono fun J1 H4 ⟨ρ4, v1, h4, E4, R4, hJ1, P4⟩ => ?_⟩
          obtain ⟨items1, gd1⟩ := v1
          have E14 := E13.over E4 EE.sub
          have mD4 : D ∈ ρ4.ex := E4.sub D mD3
          have nD4 : D ∉ ρ4.l := E4.outl hH3 nD3
          have hH4 : H4 D = some (.lst us) := E4.kept D _ hH3 nD3
          have ra4 := ra3.mono R3.holds E4
          have RE6 := RE5.mono R3.holds E4
          have RE6' := (RE4.mono R2.holds E3).mono R3.holds E4
          have EE4 : Ext ρ1 H1 ρ4 H4 := EE.tr E4
          -- the inner walk, from (ρ4, H4)
          let In : Nat → Hp → Prop := fun j G => ∃ ρ h acc us, ExtV ρ4 H4 ρ G ∧ Ext ρ1 H1 ⟨ρ.l, ρ1.ex⟩ G ∧ RelH X.K G ρ h ∧ RelE X.K G ρ env σ ∧ RelE X.K G ρ env1 σ2 ∧ D ∈ ρ.ex ∧ D ∉ ρ.l ∧ (∀ d ∈ ρ.ex, d ∈ ρ1.ex ∨ (H1 d = none ∧ d ∉ ρ1.l)) ∧ (∀ d ∈ ρ1.ex, d ∈ ρ.ex) ∧ G D = some (.lst us) ∧ RelL X.K G ρ acc us ∧
            Post X.K W (relS X.K) σ ρ1 H1 (M.bindN (compL g1 t1 el gd1 (wipeE env1 vs1) (items1.drop j) acc) (fun acc' => rest (i + 1) acc') h) Q
          refine ⟨fun j k G => k = items1.length - j ∧ j ≤ items1.length ∧ In j G, ⟨items1.length, by simp, Nat.zero_le _, ρ4, h4, acc, us, .refl, E14, R4, RE6, RE6', mD4, nD4, EE4.hid, EE4.sub, hH4, ra4, P4⟩, ?_⟩
          rintro j k G ⟨rfl, hj, ρ5, h5, acc5, us5, EV, E15, R5, RE7, RE7', mD5, nD5, hid5, sub5, hH5, ra5, P5⟩
          have E15' : Ext ρ1 H1 ρ5 G := ⟨E15.pre, E15.new, E15.kp, E15.dk, E15.tbl, hid5, sub5⟩
          by_cases hlt1 : j < items1.length
          · rw [List.drop_eq_getElem_cons hlt1] at P5
            unfold compL at P5
            by_cases hg1 : gd1.ok h5 = true
            · obtain ⟨go1, st1, yl1⟩ := hJ1 ρ5 G h5 EV R5 hg1
              refine .inr ⟨go1 j hlt1, In (j + 1), fun G' q => ⟨items1.length - (j + 1), by omega, rfl, hlt1, q⟩, fun x G' y => ?_⟩
              obtain ⟨E6, R6, s1, hs1, r6⟩ := yl1 j x G' hlt1 y
              have hs1' : items1[j] = s1 := by rw [List.getElem?_eq_getElem hlt1] at hs1; exact Option.some.inj hs1
              rw [hs1'] at P5
              have hH6 : G' D = some (.lst us5) := E6.kept D _ hH5 nD5
              have ra6 := ra5.mono R5.holds E6
              have RE8 := RE7.mono R5.holds E6
              have RE8' := RE7'.mono R5.holds E6
              have E16 := E15.over E6 sub5
              have EV6 := EV.over R5 E6
              cases eg1 : g1 s1 (wipeE env1 vs1) with
              | none => simp only [M.bindN, if_pos hg1, eg1] at P5; exact P5.elim
              | some env2 =>
                have P6 : Post X.K W (relS X.K) σ ρ1 H1 (M.bindN (t1 env2) (fun k => if k = true then M.bindN (el env2) (fun v => if acc5.length < sizeLine then M.bindN (compL g1 t1 el gd1 (wipeE env1 vs1) (items1.drop (j + 1)) (acc5 ++ [v])) (fun acc' => rest (i + 1) acc') else fun _ => .stuck) else M.bindN (compL g1 t1 el gd1 (wipeE env1 vs1) (items1.drop (j + 1)) acc5) (fun acc' => rest (i + 1) acc')) h5) Q := by
                  simp only [M.bindN, if_pos hg1, eg1] at P5 ⊢
                  cases et : t1 env2 h5 with
                  | ok k h' =>
                    simp only [et] at P5 ⊢
                    cases k with
                    | false => simp only [Bool.false_eq_true, if_false] at P5 ⊢; exact P5
                    | true =>
                      simp only [if_true] at P5 ⊢
                      cases ee : el env2 h' with
                      | ok v h'' =>
                        simp only [M.bindN, ee] at P5 ⊢
                        by_cases hz : acc5.length < sizeLine
                        · rw [if_pos hz] at P5 ⊢; exact P5
                        · rw [if_neg hz] at P5; exact P5.elim
                      | err c fs h'' => simp only [M.bindN, ee] at P5; exact False.elim P5
                      | stuck => simp only [M.bindN, ee] at P5; exact False.elim P5
                  | err c fs h' => simp only [et] at P5; exact P5.elim
                  | stuck => simp only [et] at P5; exact P5.elim
                refine ⟨ρ5, h5, _, s1, env2, R6, RE8'.wipe _, r6, eg1, fun σ3 RE9 a3 l3 => ⟨wipe_same _ a3 l3 (fun v hv => hv), ?_⟩⟩
                refine ⟨ρ5, h5, env2, R6, RE9, (Post.bindN (rel := relT) (σ' := σ3) (ρ := ρ5) (H := G') P6).mono fun k H7 ⟨ρ7, k', h7, E7, R7, r7, P7⟩ => ?_⟩
                cases r7
                have E17 := E16.over E7 sub5
                have EV7 := EV6.over R6 E7
                have mD7 : D ∈ ρ7.ex := E7.sub D mD5
                have nD7 : D ∉ ρ7.l := E7.outl hH6 nD5
                have hH7 : H7 D = some (.lst us5) := E7.kept D _ hH6 nD5
                have ra7 := ra6.mono R6.holds E7
                have RE10 := RE8.mono R6.holds E7
                have RE10' := RE8'.mono R6.holds E7
                have EE7 : Ext ρ1 H1 ρ7 H7 := (E15'.tr E6).tr E7
                cases k with
                | false => exact iteF ⟨ρ7, h7, acc5, us5, EV7, E17, R7, RE10, RE10', mD7, nD7, EE7.hid, EE7.sub, hH7, ra7, by simpa using P7⟩
                | true =>
                  simp only [if_true] at P7
                  refine iteT ⟨ρ7, h7, env2, R7, RE9.mono R6.holds E7, (Post.bindN (rel := relS X.K) (σ' := σ3) (ρ := ρ7) (H := H7) P7).mono fun z H8 ⟨ρ8, v, h8, E8, R8, r8, P8⟩ => ?_⟩
                  have E18 := E17.over E8 EE7.sub
                  have EV8 := EV7.over R7 E8
                  have mD8 : D ∈ ρ8.ex := E8.sub D mD7
                  have nD8 : D ∉ ρ8.l := E8.outl hH7 nD7
                  have hH8 : H8 D = some (.lst us5) := E8.kept D _ hH7 nD7
                  have ra8 := ra7.mono R7.holds E8
                  have RE11 := RE10.mono R7.holds E8
                  have RE11' := RE10'.mono R7.holds E8
                  have EE8 : Ext ρ1 H1 ρ8 H8 := EE7.tr E8
                  by_cases hz : acc5.length < sizeLine
                  · simp only [if_pos hz] at P8
                    refine ⟨us5, hH8, by rw [← ra8.length]; exact hz, ρ8, h8, acc5 ++ [v], us5 ++ [z], EV8.scratch mD4 hH4 (.inl ⟨_, rfl⟩), E18.at0 hD, R8.scribble mD8 (.lst hH8) nD8, RE11.scribble mD8 (.lst hH8), RE11'.scribble mD8 (.lst hH8), mD8, nD8, EE8.hid, EE8.sub, upd_same, (ra8.snoc r8).scribble mD8 (.lst hH8), P8⟩
                  · simp only [if_neg hz] at P8; exact P8.elim
            · simp only [M.bindN, if_neg hg1] at P5; exact P5.elim
          · have hj' : j = items1.length := by omega
            subst hj'
            rw [List.drop_length] at P5
            unfold compL at P5
            by_cases hg1 : gd1.ok h5 = true
            · obtain ⟨go1, st1, yl1⟩ := hJ1 ρ5 G h5 EV R5 hg1
              simp only [M.bindN, if_pos hg1] at P5
              exact .inl ⟨st1, ρ5, h5, acc5, us5, E15, R5, RE7, mD5, nD5, hid5, sub5, hH5, ra5, P5⟩
            · simp only [M.bindN, if_neg hg1] at P5; exact P5.elim
    · simp only [M.bind, if_neg hg] at P; exact P.elim
  · have hi' : i = items.length := by omega
    subst hi'
    simp only [rest] at P
    rw [List.drop_length] at P
    unfold compL2 at P
    by_cases hg : gd.ok h = true
    · obtain ⟨go, st, yl⟩ := hJ ρ H h E'.v R hg
      simp only [M.bind, if_pos hg] at P
      have ro : Rho.out ⟨ρ.l, ρ1.ex⟩ D := ⟨nD, oD.2⟩
      exact .inl ⟨st, P ⟨ρ.l, ρ1.ex⟩ H _ E (R.show rfl sub) (.rls hH ro (ra.show rfl sub) .nil)⟩
    · simp only [M.bind, if_neg hg] at P; exact P.elim
theorem e_lc2 (own : List (Str × Nat)) (hc : X.calm = true) (hN : X.N.Nodup) (hi : SI X W tg iter c) (ok : BlkOk X.N X.env.scope scope own)
    (hg : ∀ (s : Shared) (H : Hp) (C : Addr) (cl : List (Str × Addr)) (fp : List Addr), SG (X.blk s H scope (compEnvC scope cl C X.env) fp) tg g vs) (ht : ∀ (s : Shared) (H : Hp) (C : Addr) (cl : List (Str × Addr)) (fp : List Addr), STs (X.blk s H scope (compEnvC scope cl C X.env) fp) ifs t)
    (hi1 : ∀ (s : Shared) (H : Hp) (C : Addr) (cl : List (Str × Addr)) (fp : List Addr), SI (X.blk s H scope (compEnvC scope cl C X.env) fp) W0 tg1 iter1 c1)
    (hg1 : ∀ (s : Shared) (H : Hp) (C : Addr) (cl : List (Str × Addr)) (fp : List Addr), SG (X.blk s H scope (compEnvC scope cl C X.env) fp) tg1 g1 vs1) (ht1 : ∀ (s : Shared) (H : Hp) (C : Addr) (cl : List (Str × Addr)) (fp : List Addr), STs (X.blk s H scope (compEnvC scope cl C X.env) fp) ifs1 t1)
    (he : ∀ (s : Shared) (H : Hp) (C : Addr) (cl : List (Str × Addr)) (fp : List Addr), SE (X.blk s H scope (compEnvC scope cl C X.env) fp) W0 elt el)
    (hv : ∀ v ∈ vs, v ∈ own.map (·.2) := by decide) (hv1 : ∀ v ∈ vs1, v ∈ own.map (·.2) := by decide) (hs : ∀ x, foldedSetIterable iter X.env x = pure x := by intro _; rfl) (hs1 : ∀ e x, foldedSetIterable iter1 e x = pure x := by intro _ _; rfl) :
    SE X W (.ListComp elt [⟨tg, iter, ifs, 0⟩, ⟨tg1, iter1, ifs1, 0⟩] scope pos) (eLc2 c (own.map (·.2)) g t c1 vs1 g1 t1 el) :=
  ⟨imp_pe (pe_lc2 (own := own) (wi := tI X.K W c) (g := tTg X.K g vs) (tt := tB X.K W0 t) (wi1 := tI X.K W0 c1) (g1 := tTg X.K g1 vs1) (tt1 := tB X.K W0 t1) (te := tS X.K W0 el) hc hN hi.pi ok hv1 (fun s H C cl fp => (hg s H C cl fp).pg) (fun s H C cl fp => (ht s H C cl fp).pt) (fun s H C cl fp => (hi1 s H C cl fp).pi) (fun s H C cl fp => (hg1 s H C cl fp).pg) (fun s H C cl fp => (ht1 s H C cl fp).pt) (fun s H C cl fp => (he s H C cl fp).pe) hs hs1) fun σ H Q h => lc2_post hv h⟩
theorem s_setLc2 (i : Nat) {y : Str} {py spos : Pos} (own : List (Str × Nat)) (hc : X.calm = true) (hN : X.N.Nodup) (hi : SI X W tg iter c) (ok : BlkOk X.N X.env.scope scope own)
    (hg : ∀ (s : Shared) (H : Hp) (C : Addr) (cl : List (Str × Addr)) (fp : List Addr), SG (X.blk s H scope (compEnvC scope cl C X.env) fp) tg g vs) (ht : ∀ (s : Shared) (H : Hp) (C : Addr) (cl : List (Str × Addr)) (fp : List Addr), STs (X.blk s H scope (compEnvC scope cl C X.env) fp) ifs t)
    (hi1 : ∀ (s : Shared) (H : Hp) (C : Addr) (cl : List (Str × Addr)) (fp : List Addr), SI (X.blk s H scope (compEnvC scope cl C X.env) fp) W0 tg1 iter1 c1)
    (hg1 : ∀ (s : Shared) (H : Hp) (C : Addr) (cl : List (Str × Addr)) (fp : List Addr), SG (X.blk s H scope (compEnvC scope cl C X.env) fp) tg1 g1 vs1) (ht1 : ∀ (s : Shared) (H : Hp) (C : Addr) (cl : List (Str × Addr)) (fp : List Addr), STs (X.blk s H scope (compEnvC scope cl C X.env) fp) ifs1 t1)
    (he : ∀ (s : Shared) (H : Hp) (C : Addr) (cl : List (Str × Addr)) (fp : List Addr), SE (X.blk s H scope (compEnvC scope cl C X.env) fp) W0 elt el)
    (hsw : swapsWith (.ListComp elt [⟨tg, iter, ifs, 0⟩, ⟨tg1, iter1, ifs1, 0⟩] scope pos) (some (.Name y py)) spos.line X.env = pure true)
    (hy : X.N[i]? = some y := by rfl) (hyl : X.env.scope.names.lookup y = some .local := by rfl)
    (hv : ∀ v ∈ vs, v ∈ own.map (·.2) := by decide) (hv1 : ∀ v ∈ vs1, v ∈ own.map (·.2) := by decide) (hs : ∀ x, foldedSetIterable iter X.env x = pure x := by intro _; rfl) (hs1 : ∀ e x, foldedSetIterable iter1 e x = pure x := by intro _ _; rfl) :
    SS X W (.Assign [.Name y py] (.ListComp elt [⟨tg, iter, ifs, 0⟩, ⟨tg1, iter1, ifs1, 0⟩] scope pos) spos) (cSet i (eLc2 c (own.map (·.2)) g t c1 vs1 g1 t1 el)) :=
  ⟨imp_ps (ps_setLc2 (own := own) (wi := tI X.K W c) (g := tTg X.K g vs) (tt := tB X.K W0 t) (wi1 := tI X.K W0 c1) (g1 := tTg X.K g1 vs1) (tt1 := tB X.K W0 t1) (te := tS X.K W0 el) hc hN hy hyl hsw hi.pi ok hv1 (fun s H C cl fp => (hg s H C cl fp).pg) (fun s H C cl fp => (ht s H C cl fp).pt) (fun s H C cl fp => (hi1 s H C cl fp).pi) (fun s H C cl fp => (hg1 s H C cl fp).pg) (fun s H C cl fp => (ht1 s H C cl fp).pt) (fun s H C cl fp => (he s H C cl fp).pe) hs hs1) fun D σ H ⟨ρ, h, env, R, RE, P⟩ =>
    lc2_post (Q := fun x H1 => gName i x σ H1 D.nx) hv ⟨ρ, h, env, R, RE, (post_onV R RE P).mono fun x H1 ⟨ρ1, v, h1, E1, R1, RE1, r1, P1⟩ => P1 ρ1 H1 _ .refl R1 (RE1.set r1)⟩⟩
end
end Sim

set_option Elab.async false
set_option linter.all false
set_option maxRecDepth 100000
set_option maxHeartbeats 4000000
namespace Sim
open PySem L2
variable [Tabl]
omit [Tabl] in
def cExt (o c : Env → M SV) : ST' := fun e h => onV (o e) e h fun w h1 => match w with
  | .ref n => match h1[n]? with
    | some (.lst _) => onV (c e) e h1 fun v h2 => match h2[n]? with
      | some (.lst xs) => (match lstOf v h2 with
        | some ys => if xs.length + ys.length ≤ sizeLine then .nx e (h2.set n (.lst (xs ++ ys))) else .stuck
        | none => .stuck)
      | _ => .stuck
    | _ => .stuck
  | _ => .stuck
section
variable {X : Cx} {W : WX} {pos : Pos} {o e : Expr} {co ce : Env → M SV} {apos cpos : Pos}
theorem s_ext (ho : SE X W o co) (he : SE X W e ce) (hbase : attributeBase o "extend" X.env (eval o X.env) = eval o X.env := by rfl)
    (hfew : ((backTo cpos (starEach [e] X.env)).all (fun x => !x.1) && (backToKw cpos (keywordEach [] X.env)).all (fun x => x.1.isSome)
      && decide ([e].length + ([] : List Keyword).length + (if ([] : List Keyword).isEmpty then 0 else 1) < 30)) = true := by rfl)
    (hline : (apos.endLine == cpos.line) = true := by rfl) (hs : starEach [e] X.env = (false, eval e X.env) :: starEach [] X.env := by rfl) (hplain : (backTo cpos (starEach [] X.env)).any (·.1) = false := by rfl)
    (hsw : swapsWith (.Call (.Attribute o "extend" apos) [e] [] cpos) none pos.line X.env = pure false := by rfl) : SS X W (.Expr (.Call (.Attribute o "extend" apos) [e] [] cpos) pos) (cExt co ce) :=
  ⟨imp_ps (ps_expr (pe_bm PySem.F.plainAttrs_list PySem.F.slot_list_extend PySem.F.type_list_extend mt_extend ho.pe (pa_cons he.pe pa_nil hs) hbase hfew hline hs hplain) hsw) fun D σ H ⟨ρ, h, env, R, RE, P⟩ =>
    ⟨ρ, h, env, R, RE, (post_onV R RE P).mono fun x H1 ⟨ρ1, w, h1, E1, R1, RE1, r1, P1⟩ => by
      cases w with
      | ref n =>
        simp only at P1
        cases q1 : h1[n]? with
        | none => rw [q1] at P1; exact P1.elim
        | some ob1 =>
          rw [q1] at P1
          cases ob1 with
          | lst ys =>
            have P1' := post_onV R1 RE1 P1
            obtain ⟨a, hi, us0, hu0, _⟩ := R1.ob n _ q1
            cases r1 with
            | ref hi' _ =>
              rw [hi] at hi'; cases hi'
              refine ⟨.inl ⟨rfl, us0, .of hu0⟩, ρ1, h1, env, R1, RE1, P1'.mono fun y H2 ⟨ρ2, v, h2, E2, R2, RE2, r2, P2⟩ => ?_⟩
              cases q2 : h2[n]? with
              | none => simp only [q2] at P2; exact P2.elim
              | some ob =>
                cases ob with
                | lst xs =>
                  simp only [q2] at P2
                  obtain ⟨a2, ha2, us, hu, ru⟩ := R2.ob n _ q2
                  have hi2 := prefix_get E2.pre hi
                  rw [hi2] at ha2; cases ha2
                  cases q3 : lstOf v h2 with
                  | none => simp only [q3] at P2; exact P2.elim
                  | some ws =>
                    simp only [q3] at P2
                    obtain ⟨b, vs, rfl, hb, rb⟩ := lst_rel R2 q3 r2
                    by_cases c : xs.length + ws.length ≤ sizeLine
                    · rw [if_pos c] at P2
                      have Ew : Ext ρ2 H2 ρ2 (upd H2 a (.lst (us ++ vs))) := .write (List.mem_of_getElem? hi2)
                      exact ⟨a, b, us, vs, rfl, rfl, hu, hb, by rw [← ru.length, ← rb.length]; exact c, P2 ρ2 _ _ Ew (R2.write hi2 ⟨_, upd_same, (ru.app rb).mono R2.holds Ew⟩) (RE2.mono R2.holds Ew)⟩
                    · rw [if_neg c] at P2; exact P2.elim
                | dic _ _ _ => simp only [q2] at P2; exact P2.elim
                | ins _ _ _ => simp only [q2] at P2; exact P2.elim
          | dic _ _ _ => exact P1.elim
          | ins _ _ _ => exact P1.elim
      | _ => exact P1.elim⟩⟩
end
end Sim

set_option Elab.async false
set_option linter.all false
set_option maxRecDepth 100000
set_option maxHeartbeats 4000000
/-! lambdas without parameters handed to a def that calls them at once, within a try -/
namespace Sim
open PySem PySem.Spec PyProof.Rows L2 LamX NdefX
variable [Tabl]

section
variable {X : Cx} {pins : List (Addr × Obj)} {σ : L2.St} {H : Hp} {s : Shared}
/-- the lambda is made: its code object is new, or found in the table -/
theorem lam_makeN {T : List NTab} {nm : Nat → Nat → Str} {c P : Addr} {params : Arguments} {body : Expr} {scope : Scope} {pos : Pos} {E : Value → Shared → Prop} {Q : Value → Shared → Prop} (I : Inv X pins σ H s) (TB : TabB X.base X.mg c P) (hcode : X.env.code = .ref c)
    (hm : (P, nm) ∈ T) (hn : nm pos.line pos.col = X.env.qual ++ "<lambda>") (hu : ∀ p ∈ T, p.1 = P → p.2 = nm) (hT : TabsN T H) (hdef : defaultsOf params X.env = ([], [])) (hfree : ∀ y ∈ scope.names, y.2 = .free → ∃ c, X.env.cells.lookup y.1 = some c)
    (h : ∀ (f c' : Addr) (pm ctv : Value) (H1 : Hp) (s' : Shared), Inv X pins σ H1 s' → ExtN H H1 → (∀ b ps, H b = some (.tbl ps) → ∃ qs, H1 b = some (.tbl qs)) → TabsN T H1 →
      s'.heap.get? f = some (PySem.W.kla_obj "<lambda>" (X.env.qual ++ "<lambda>") params body scope (cloFrom X.env.cells scope.names []) pm c' ctv) → H1 f = none → f ∉ frs X.stack → H1 c' = some (CodeO c' (X.env.qual ++ "<lambda>")) → Q (.ref f) s') :
    wpAny (model X.prog X.w) X.A (eval (.Lambda params body scope pos) X.env) Q E s := by
  obtain ⟨ps, hP, ht, ha⟩ := (show TabN H P nm from hT _ hm)
  refine PySem.W.kla_eval hdef ?_
  have bP : s.heap.BuiltinsAt X.mg P := TB.bm.keeps I.bk
  have hP' : s.heap.get? P = some { cls := .none, data := .fields ps } := I.hok P _ hP
  have nofr : ∀ f, s.heap.objs.size ≤ f → f ∉ frs X.stack := fun f hf z => by
    rcases List.mem_cons.mp (I.stkSub _ z) with e | e
    · have h1 := I.lt
      rw [← e] at h1
      exact Nat.lt_irrefl _ (Nat.lt_of_lt_of_le h1 hf)
    · exact I.nofs hf e
  cases hc : codeAmong pos ps.toList with
  | none =>
    refine PySem.W.kla_makeFunction (mg := X.mg) (c := c) (P := P) (ps := ps) (closure_ok hfree) I.ok.glob (I.mod.glob.keeps I.bk) hcode (TB.code.keeps I.bk) hP' ht hc TB.gP bP fun c' ctv h' tk hx hge hlt hrec htb => ?_
    obtain ⟨c2, oc, vs, t, e2, hoc, hd, hv⟩ := hrec
    cases e2
    have hsz : s.heap.objs.size ≤ h'.objs.size := Nat.le_trans hge (Nat.le_of_lt hlt)
    have nC : H c' = none := I.hok.fresh hge
    have I1 := inv_table (t' := tk) (more := #[rawInt pos.line, rawInt pos.col, .ref c']) (h' := h'.push (PySem.W.kla_obj "<lambda>" (X.env.qual ++ "<lambda>") params body scope (cloFrom X.env.cells scope.names []) ((X.mg "__name__").getD .none) c' ctv)) I hP
      (fun b o hb e => Heap.get?_push_of_some _ (hx b o hb e)) (Heap.get?_push_of_some _ htb) hge ⟨oc, vs, t, Heap.get?_push_of_some _ hoc, hd, hv⟩
    have hE : ExtN H (upd (upd H P (.tbl (ps ++ #[rawInt pos.line, rawInt pos.col, .ref c']))) c' (CodeO c' (X.env.qual ++ "<lambda>"))) := fun b o e n => by
      rw [upd_ne (ne_of_none e nC), upd_ne (fun z => n ps (Option.some.inj (e.symm.trans (by rw [z]; exact hP))))]
      exact e
    have eL : (ps ++ #[rawInt pos.line, rawInt pos.col, .ref c']).toList = ps.toList ++ [rawInt pos.line, rawInt pos.col, .ref c'] := by simp
    refine h h'.objs.size c' ((X.mg "__name__").getD .none) ctv _ _ I1 hE (fun b qs e => ?_) (fun p hp => ?_) (Heap.get?_push_size _ rfl) ?_ (nofr _ hsz) upd_same
    · by_cases hb : b = P
      · rw [hb]; exact ⟨_, by rw [upd_ne (ne_of_none hP nC), upd_same]⟩
      · exact ⟨qs, by rw [upd_ne (ne_of_none e nC), upd_ne hb]; exact e⟩
    · by_cases hb : p.1 = P
      · rw [hu p hp hb, hb]
        refine ⟨_, by rw [upd_ne (ne_of_none hP nC), upd_same], by rw [eL]; exact PySem.TriplesOk_snoc _ _ _ _ ht, fun p' cv hcv => ?_⟩
        rw [eL] at hcv
        rcases among_app2 _ ht hcv with z | ⟨z, z1, z2⟩
        · obtain ⟨c0, e1, e2⟩ := ha p' cv z
          exact ⟨c0, e1, hE _ _ e2 codeO_ne⟩
        · refine ⟨c', z, ?_⟩
          rw [← z1, ← z2, hn]
          exact upd_same
      · obtain ⟨ps', a1, a2, a3⟩ := hT p hp
        refine ⟨ps', by rw [upd_ne (ne_of_none a1 nC), upd_ne hb]; exact a1, a2, fun p' cv hcv => ?_⟩
        obtain ⟨c0, e1, e2⟩ := a3 p' cv hcv
        exact ⟨c0, e1, hE _ _ e2 codeO_ne⟩
    · have n1 : h'.objs.size ≠ c' := Nat.ne_of_gt hlt
      have n2 : h'.objs.size ≠ P := Nat.ne_of_gt (Nat.lt_of_lt_of_le (Heap.lt_size hP') hsz)
      rw [upd_ne n1, upd_ne n2]
      exact I.hok.fresh hsz
  | some cv =>
    obtain ⟨c', e, hco⟩ := ha pos cv hc
    subst e
    rw [hn] at hco
    refine PySem.W.kla_makeFunctionHit (mg := X.mg) (c := c) (P := P) (ps := ps) (closure_ok hfree) I.ok.glob (I.mod.glob.keeps I.bk) hcode (TB.code.keeps I.bk) hP' ht hc bP fun ctv h' tk hx hsz => ?_
    have I1 : Inv X pins σ H { s with heap := h'.push (PySem.W.kla_obj "<lambda>" (X.env.qual ++ "<lambda>") params body scope (cloFrom X.env.cells scope.names []) ((X.mg "__name__").getD .none) c' ctv), toks := tk } := I.kept fun b o e => Heap.get?_push_of_some _ (hx b o e)
    exact h h'.objs.size c' ((X.mg "__name__").getD .none) ctv H _ I1 (ExtN.refl H) (fun b ps e => ⟨ps, e⟩) hT (Heap.get?_push_size _ rfl) (I.hok.fresh hsz) (nofr _ hsz) hco
/-- x(), in the def that got the lambda; what it raises is wished for at the caller's slots -/
theorem pe_actS {CXg : CXT} {Eg : XK} {Ng : List Str} {qg : Str} {sg : Scope} {g f c' : Addr} {cdg pm ctv : Value} {params : Arguments} {body : Expr} {scope : Scope} {k i : Nat} {a : Str} {pn : List (Addr × Obj)} {xe : Value → Shared → Prop} {W : WX} {tb : XK → TE} {p1 p2 : Pos}
    (I : Inv X pins σ H s) (L : LamS X.env.scope scope) (hf : s.heap.get? f = some (PySem.W.kla_obj "<lambda>" (X.env.qual ++ "<lambda>") params body scope (cloFrom X.env.cells scope.names []) pm c' ctv)) (hfn : H f = none) (hfr : f ∉ frs X.stack)
    (hbind : bindArgs (PySem.W.kla_fn "<lambda>" (X.env.qual ++ "<lambda>") params body scope (cloFrom X.env.cells scope.names []) pm (.ref c') ctv) ⟨[], []⟩ = pure [])
    (tk : Takes ((cxOf CXg X.prog X.w X.K X.mg X.base Ng qg sg g cdg X.A X.stack s H Eg).tr pn xe) W) (hr : Room (k + 1) (X.A.deeper (envOfC qg sg s.heap.objs.size g cdg)))
    (hbody : ∀ (E : XK) (A : Around) (outer : List PySem.Env) (s : Shared) (H : Hp), Room k (A.deeper (lamEnv X scope s.heap.objs.size f c')) → PE (lamCx X A outer s H E scope f c') body (tb E))
    (hN : Ng[i]? = some a) (hv : Vis sg a) (hd : (a == ("__debug__" : Str)) = false := by decide) (hcd : (a == ("__classdict__" : Str)) = false := by decide) :
    PE ((cxOf CXg X.prog X.w X.K X.mg X.base Ng qg sg g cdg X.A X.stack s H Eg).tr pn xe) (.Call (.Name a p1) [] [] p2)
      (fun σZ HZ Q => σZ[i]? = some (some (.ref f)) ∧ HZ c' = some (CodeO c' (X.env.qual ++ "<lambda>")) ∧ tb (WE W σZ) σ HZ Q) := by
  refine ⟨fun pinsZ sZ σZ HZ Q IZ h => ?_⟩
  obtain ⟨hs, hc, ht⟩ := h
  refine wpAny_Call_Name_kw (thn ((pe_var (pos := p1) (i := i) hN hv hd hcd).run pinsZ sZ σZ HZ (fun v H1 => v = .ref f ∧ H1 = HZ) IZ ⟨.ref f, hs, rfl, rfl⟩) fun u s1 ⟨v, H1, I1, r1, q1⟩ => ?_)
  obtain ⟨ev, eH⟩ := q1
  subst ev
  rw [eH] at I1
  obtain rfl : u = Value.ref f := r1
  have of1 : s1.heap.get? f = some (PySem.W.kla_obj "<lambda>" (X.env.qual ++ "<lambda>") params body scope (cloFrom X.env.cells scope.names []) pm c' ctv) := I1.base.keep f _ hf hfn hfr (fun z => nomatch (show f ∈ ([] : List Addr) from z))
  refine PySem.W.callWith_F0 ⟨_, _, _, _, of1⟩ ?_
  have un : Un (frs X.stack) [] H HZ s.heap s1.heap := I1.base
  obtain ⟨⟨oc, vs, t, hoc, hdc, hvc⟩, _, _⟩ := I1.hok c' _ hc
  have rc : codeAny (model X.prog X.w) (X.A.deeper (envOfC qg sg s.heap.objs.size g cdg)) (.call (.ref f) ⟨[], []⟩) (CR (L2.CX X.prog X.w) (envOfC qg sg s.heap.objs.size g cdg :: X.stack) X.prog X.w HZ s1 Q (WE W σZ)) s1 := by
    refine PySem.W.kla_callFunE hr.toRoom.depth of1 rfl L.co L.gen rfl ⟨c', oc, vs, t, rfl, hoc, hdc, hvc⟩ ?_
    rw [hbind]
    refine wpAny_pure (wpAny_newFunctionEnv (fun y hy => (L.own y hy).2) (fun y hy => absurd hy (by simp)) (fun h₁ hns hsb => ⟨I1.nolimit.fresh _ hsb, ?_⟩) L.kind)
    show codeAny _ _ (.expr body (lamEnv X scope s1.heap.objs.size f c')) _ _
    have kp : ∀ b o, s1.heap.get? b = some o → h₁.get? b = some o := fun b o e => hsb.extBut b o (Nat.ne_of_lt (Heap.lt_size e)) (Heap.get?_push_of_some _ e)
    have J : Inv (lamCx X (X.A.deeper (envOfC qg sg s.heap.objs.size g cdg)) (envOfC qg sg s.heap.objs.size g cdg :: X.stack) s1 HZ (WE W σZ) scope f c') [] σ HZ { s1 with heap := h₁, toks := s1.toks + ([] : List (Str × Value)).length } :=
      lam_start2 I L I1.env0 hr.hd un hns kp
    refine PySem.W.kla_codeExpr (wpAny_mono ((hbody _ _ _ s1 HZ (hr.deeper _)).run [] _ _ HZ Q J ht) (fun v s' hq => ?_) fun e s' hq => hq)
    obtain ⟨w', H', J', rv, q⟩ := hq
    exact ⟨w', H', J'.os, J'.bare, J'.base, J'.hok, rv, q⟩
  refine wpAny_call (codeAny_mono rc fun r s' hq => ?_)
  cases r with
  | error e => exact L2.passAt tk σZ pinsZ HZ s1 e s' I1 hq
  | ok fl =>
    cases fl with
    | ret u => exact I1.after hq
    | next => exact False.elim hq
    | brk => exact False.elim hq
    | cont => exact False.elim hq
end

/-- the def that gets the lambda: what its body does with it -/
def LamG (P : Program) (w : World) (K : PySem.W.Frag) (mg : Str → Option Value) (base : Heap) (A : Around) (stk : List PySem.Env) (x : Str) (st : Stmt) (g : Addr) (cdg : Value) (Ng : List Str) (a : Str) (B : M SV → ST') : Prop :=
  ∀ (s : Shared) (H : Hp) (f c' : Addr) (q : Str) (tl : XK → Hp → VK → Prop) (k : M SV),
    (∀ (W : WX) (pn : List (Addr × Obj)) (xe : Value → Shared → Prop) (p1 p2 : Pos), Takes ((cxOf C8.CX0 P w K mg base Ng x (defScope st) g cdg A stk s H C8.E0).tr pn xe) W →
      PE ((cxOf C8.CX0 P w K mg base Ng x (defScope st) g cdg A stk s H C8.E0).tr pn xe) (.Call (.Name a p1) [] [] p2) (fun σZ HZ Q => σZ[0]? = some (some (.ref f)) ∧ HZ c' = some (CodeO c' q) ∧ tl (WE W σZ) HZ Q)) →
    H c' = some (CodeO c' q) →
    ∃ t, PSs (cxOf C8.CX0 P w K mg base Ng x (defScope st) g cdg A stk s H C8.E0).nox (defBody st) t ∧
      ∀ (D : Ends) (ρ : Rho) (h : SHp), RelH K H ρ h → (∀ (W : WX) (σZ : L2.St) (Q : VK), Post K W (relS K) σZ ρ H (k h) Q → tl (WE W σZ) H Q) →
        PostR K W0 D ρ H (B k (List.replicate Ng.length none) h) → t D (L2.start Ng [.ref f]) H
theorem relE_none {K : PySem.W.Frag} {H : Hp} {ρ : Rho} {N : List Str} {vs : List V} (hl : vs.length ≤ N.length) : RelE K H ρ (List.replicate N.length none) (L2.start N vs) := by
  refine ⟨by simp [L2.start]; omega, fun i s e => ?_⟩
  rw [List.getElem?_replicate] at e
  split at e <;> cases e
/-- try: a() / except ..: .. / what follows -/
theorem lam_try {P : Program} {w : World} {K : PySem.W.Frag} {mg : Str → Option Value} {base : Heap} {A : Around} {stk : List PySem.Env} {x a : Str} {st : Stmt} {g : Addr} {cdg : Value} {Ng : List Str} {h₀ : ExceptHandler} {hds : List ExceptHandler} {rest : List Stmt} {l : List CM} {b : ST'} {p1 p2 p3 p4 : Pos}
    (hst : defBody st = .Try [.Expr (.Call (.Name a p1) [] [] p2) p3] (h₀ :: hds) [] [] p4 :: rest) (h0 : ∀ f : Addr, (L2.start Ng [V.ref f])[0]? = some (some (V.ref f)))
    (hn : 1 ≤ Ng.length) {j : Nat} (hrm : Room (j + 1) A)
    (hsw : ∀ (s : Shared) (H : Hp), swapsWith (.Call (.Name a p1) [] [] p2) none p3.line (cxOf C8.CX0 P w K mg base Ng x (defScope st) g cdg A stk s H C8.E0).env = pure false)
    (hh : ∀ (s : Shared) (H : Hp), Room j (A.deeper (envOfC x (defScope st) s.heap.objs.size g cdg)) → ClS (cxOf C8.CX0 P w K mg base Ng x (defScope st) g cdg A stk s H C8.E0).nox (h₀ :: hds) l)
    (hr : ∀ (s : Shared) (H : Hp), Room j (A.deeper (envOfC x (defScope st) s.heap.objs.size g cdg)) → SSs (cxOf C8.CX0 P w K mg base Ng x (defScope st) g cdg A stk s H C8.E0).nox W0 rest b) :
    LamG P w K mg base A stk x st g cdg Ng a (fun k => cSeq (cTryN l (cExpr (fun _ => k))) b) := by
  intro s H f c' q tl k act hc
  obtain ⟨l', ck, kk⟩ := clS_ok (W := W0) (hh s H (hrm.deeper _))
  rw [hst]
  refine ⟨_, pss_cons (ps_tryN (X := (cxOf C8.CX0 P w K mg base Ng x (defScope st) g cdg A stk s H C8.E0).nox)
    (tb := fun W D σ H => σ[0]? = some (some (.ref f)) ∧ H c' = some (CodeO c' q) ∧ tl (WE W σ) H (fun _ H' => D.nx σ H')) rfl rfl L2.takes0 (fun W pn xe tk _ => ?_) ck) (hr s H (hrm.deeper _)).pss, ?_⟩
  · exact ⟨fun pins s' σ H' D I h' => (pss_one (ps_expr (act W pn xe p1 p2 tk) (hsw s H))).run pins s' σ H' D I h'⟩
  · intro D ρ h R hk P
    refine ⟨h0 f, hc, hk _ _ _ ?_⟩
    have RE : RelE K H ρ (List.replicate Ng.length none) (L2.start Ng [.ref f]) := relE_none (by simpa using hn)
    unfold cSeq cTryN cExpr onV at P
    simp only at P
    cases e : k h with
    | ok v h1 =>
      rw [e] at P
      exact fun ρ1 H1 x E1 R1 r1 => ⟨ρ1, h1, _, R1, RE.mono R.holds E1, P.shift E1⟩
    | stuck => rw [e] at P; exact P
    | err c fs h1 =>
      rw [e] at P
      simp only at P
      intro ρ1 H1 cv d E1 R1 q1
      refine kk _ ρ1 H1 h1 (List.replicate Ng.length none) _ c fs cv d R1 (RE.mono R.holds E1) q1 ?_
      have P' : PostR K W0 D ρ1 H1 (match clM l c fs (List.replicate Ng.length none) h1 with
        | .nx e' h' => b e' h'
        | .rt v h' => .rt v h'
        | .bk e' h' => .bk e' h'
        | .ct e' h' => .ct e' h'
        | .err c fs e' h' => .err c fs e' h'
        | .stuck => .stuck) := PostR.shift P E1
      cases z : clM l c fs (List.replicate Ng.length none) h1 with
      | nx e' h' => rw [z] at P'; exact fun ρ' H' σ' E' R' RE' => ⟨ρ', h', e', R', RE', P'.shift E'⟩
      | rt v h' => rw [z] at P'; exact P'
      | bk e' h' => rw [z] at P'; exact P'
      | ct e' h' => rw [z] at P'; exact P'
      | err c2 fs2 e' h' => rw [z] at P'; exact P'
      | stuck => rw [z] at P'; exact P'
omit [Tabl] in
def eLamCall (n : Nat) (fz : Bool) (B : M SV → ST') (cb : Env → M SV) : Env → M SV := fun e h => match fin fz h (B (cb e) (List.replicate n none) h) with
  | .ok v h' => .ok v h'
  | _ => .stuck
theorem e_lamcall {X : Cx} {W : WX} {fz : Bool} {x a : Str} {st : Stmt} {g c P : Addr} {fd : FuncData} {k : Nat} {Ng : List Str} {nm : Nat → Nat → Str} {B : M SV → ST'} {cb : Env → M SV}
    {params : Arguments} {body : Expr} {scope : Scope} {p lpos pos : Pos} (F : Fun X.K x x st g fd) (hm : X.mg x = some (.ref g)) (Sg : FnScope Ng [a] (defScope st)) (hb : L2.Binds X.K fd [a] [])
    (hG : ∀ cdg, LamG X.prog X.w X.K X.mg X.base X.A X.stack x st g cdg Ng a B) (TB : TabB X.base X.mg c P) (hmT : (P, nm) ∈ Tabl.T) (hu : ∀ p ∈ Tabl.T, p.1 = P → p.2 = nm)
    (hr : Room (k + 2) X.A)
    (hbody : ∀ (A : Around) (outer : List PySem.Env) (s : Shared) (H : Hp) (E : XK) (f c' : Addr), Room k (A.deeper (lamEnv X scope s.heap.objs.size f c')) → Takes (lamCx X A outer s H E scope f c') (WF E) → SE (lamCx X A outer s H E scope f c') (WF E) body cb)
    (L : LamS X.env.scope scope) (hcode : X.env.code = .ref c := by rfl) (hn : nm lpos.line lpos.col = X.env.qual ++ "<lambda>" := by rfl) (hdef : defaultsOf params X.env = ([], []) := by rfl) (hg : Gl X x := by rfl) (hNg : Ng[0]? = some a := by rfl) (hva : Vis (defScope st) a := by first | exact Or.inl rfl | exact Or.inr (Or.inl rfl) | exact Or.inr (Or.inr rfl))
    (hbind : ∀ (q : Str) (cl : List (Str × Addr)) (pm cv ctv : Value), bindArgs (PySem.W.kla_fn "<lambda>" q params body scope cl pm cv ctv) ⟨[], []⟩ = pure [] := by intro _ _ _ _ _; rfl)
    (hdb : (x == ("__debug__" : Str)) = false := by decide) (hd : (a == ("__debug__" : Str)) = false := by decide) (hcd : (a == ("__classdict__" : Str)) = false := by decide) :
    SE X W (.Call (.Name x p) [.Lambda params body scope lpos] [] pos) (eLamCall Ng.length fz B cb) := by
  obtain ⟨oc, od, kV, doc, pm, an, cdv, ct, osl, rfl, lk, hcg⟩ := F.ex
  refine ⟨⟨fun pins s σ H Q I h => ?_⟩⟩
  obtain ⟨ρ, h, env, R, RE, P0⟩ := h
  refine wpAny_Call_Name_kw (ld_glob I hg hm ?_ hdb)
  refine PySem.W.callWith_K (h₀ := X.base) I.ok.mod.kin F.kp ?_ (by rfl) (by rfl)
  show wpAny _ _ (spliced ((false, eval (.Lambda params body scope lpos) X.env) :: backTo pos (starEach [] X.env))) _ _ s
  refine Calls.spliced_cons (lam_makeN I TB hcode hmT hn hu R.tb hdef (L.has I.ok) fun f c' pm' ctv H1 s' I1 eN tbl T1 hf hfn hfr hco => ?_)
  refine Calls.spliced_nil ⟨I1.kIn, ?_⟩
  have E1 : Ext ρ H ρ H1 := ⟨List.prefix_refl _, fun _ h => .inl h, fun b o hb _ nt _ => eN b o hb nt, fun b k hb _ => .inl (eN b _ hb fun ps z => by cases z), fun b ps hb _ => tbl b ps hb, fun _ h => .inl h, fun _ h => h⟩
  have R1 : RelH X.K H1 ρ h := R.mono E1 (fun b hb => by
    obtain ⟨o, ho, nt⟩ : ∃ o, H b = some o ∧ ∀ ps, o ≠ .tbl ps := by
      rcases R.holds.ch b hb with ⟨_, q⟩ | ⟨_, q⟩ | ⟨_, q⟩ | ⟨_, _, _, q⟩ <;> exact ⟨_, q, fun ps z => by cases z⟩
    rw [ho]; exact eN b o ho nt) T1
  have RE1 : RelE X.K H1 ρ env σ := RE.mono R.holds E1
  have rc : codeAny (model X.prog X.w) X.A (.call (.ref g) ⟨[.ref f], []⟩) (CR C8.CX0 X.stack X.prog X.w H1 s' Q C8.E0) s' := by
    refine run_ofS (N := Ng) (ps := [a]) (us := [.ref f]) (vs := [.ref f]) lk hcg Sg hr.toRoom I1.env0 (hb s' [.ref f] I1.kIn rfl) (.cons rfl .nil) rfl fun _ => ?_
    obtain ⟨t', ht', hq'⟩ := hG cdv s' H1 f c' _ (fun E H' Q' => tS X.K (WF E) cb σ H' Q') (cb env) (fun W pn xe p1 p2 tk => pe_actS (i := 0) (tb := fun E => tS X.K (WF E) cb) I1 L hf hfn hfr (hbind _ _ _ _ _) tk (hr.deeper _) (fun E A outer s H hr2 => (hbody A outer s H E f c' hr2 (takes_of rfl rfl rfl rfl)).pe) hNg hva hd hcd) hco
    refine ⟨t', ht'.nox, hq' _ ρ h R1 (fun W σZ Q' P => ⟨ρ, h, env, R1, RE1, ?_⟩) ?_⟩
    · cases e : cb env h with
      | ok v h' => rw [e] at P; exact P
      | err cc fs h' => rw [e] at P; exact P
      | stuck => rw [e] at P; exact P
    · have P1 := P0.shift E1
      unfold eLamCall at P1
      cases e : B (cb env) (List.replicate Ng.length none) h with
      | nx e' h' =>
        rw [e] at P1
        have P2 : Post X.K (fun _ _ _ _ => False) (relS X.K) σ ρ H1 (gc fz h .non h') Q := by
          unfold fin at P1
          cases z : gc fz h .non h' with
          | ok v h2 => simp only [z] at P1 ⊢; exact P1
          | err _ _ _ => simp only [z] at P1; exact P1.elim
          | stuck => simp only [z] at P1; exact P1.elim
        exact fun ρ' H' σ' E' R' RE' => gc_post (fz := fz) R1 P2 ρ' H' _ E' R' (.non .nil)
      | rt v h' =>
        rw [e] at P1
        have P2 : Post X.K (fun _ _ _ _ => False) (relS X.K) σ ρ H1 (gc fz h v h') Q := by
          unfold fin at P1
          cases z : gc fz h v h' with
          | ok v h2 => simp only [z] at P1 ⊢; exact P1
          | err _ _ _ => simp only [z] at P1; exact P1.elim
          | stuck => simp only [z] at P1; exact P1.elim
        exact fun ρ' H' x E' R' r' => gc_post (fz := fz) R1 P2 ρ' H' x E' R' r'
      | err c fs e' h' => rw [e] at P1; exact P1.elim
      | bk e' h' => rw [e] at P1; exact P1.elim
      | ct e' h' => rw [e] at P1; exact P1.elim
      | stuck => rw [e] at P1; exact P1.elim
  refine wpAny_call (codeAny_mono rc fun r s2 hq => ?_)
  cases r with
  | error e => exact (show False from hq).elim
  | ok fl =>
    cases fl with
    | ret u => exact I1.after hq
    | next => exact False.elim hq
    | brk => exact False.elim hq
    | cont => exact False.elim hq
end Sim

set_option Elab.async false
set_option linter.all false
set_option maxRecDepth 100000
set_option maxHeartbeats 4000000
/-! repr -/
namespace Sim
open PySem PySem.Spec PyProof.Rows L2
variable [Tabl]

omit [Tabl] in
/-- the data behind a value whose text is asked -/
def reprD (v : SV) (h : SHp) : Option PyData := match v with
  | .ref n => match h[n]? with
    | some (.dic false [] _) => some (.dict [])
    | _ => dataT v h
  | _ => dataT v h
omit [Tabl] in
def reprOk (d : PyData) : Bool := d.showable && decide (d.shown.length ≤ sizeLine) && decide (d.depth ≤ 40) && (!d.hasDict || d matches .dict [])
omit [Tabl] in
def reprF : List SV → SHp → Option SV := fun vs h => match vs with
  | [v] => match reprD v h with
    | some d => if reprOk d = true then some (.str d.shown) else none
    | none => none
  | _ => none
omit [Tabl] in
def rRepr (K : PySem.W.Frag) : List V → Hp → VK → Prop := fun xs H Q => ∃ x d, xs = [x] ∧ (Dp K H x d ∧ d.hasDict = false ∨ ∃ a, x = .ref a ∧ H a = some (.dK []) ∧ d = .dict []) ∧ d.showable = true ∧ d.shown.length ≤ sizeLine ∧ d.depth ≤ 40 ∧ Q (.str d.shown) H
theorem call_repr {X : Cx} (hg : X.A.guards = some []) (hu : X.A.units + 64 < cLine) : CallR X (.builtin "repr") (rRepr X.K) := by
  intro pins s σ H xs us Q I r h
  obtain ⟨x, d, rfl, hd, sh, sz, dp, q⟩ := h
  obtain ⟨u, rfl, ru⟩ := vals1 r
  obtain ⟨as, rd, hsm⟩ : ∃ as, Reads s.heap u d as ∧ (d.hasDict = true → sysModules ∉ as) := by
    rcases hd with ⟨hd, hn⟩ | ⟨a, rfl, ha, rfl⟩
    · obtain ⟨as, rd⟩ := Dp.reads I d x u hd ru
      exact ⟨as, rd, fun z => by rw [hn] at z; cases z⟩
    · obtain ⟨_, ns, vs, kv, o, es, ep, ho, ⟨hc, _⟩, hdt, _, hes, _⟩ := dk_of I.hok ha
      cases kv
      cases ru
      have e0 : es.toList = [] := by generalize es.toList = l at hes; cases hes; rfl
      exact ⟨_, .dict (kvs := []) ho hc hdt (by rw [e0]; exact .nil) (by rw [e0]; exact .nil), fun _ m => by
        have m' : sysModules = a := by simpa using m
        rw [← m'] at ns
        simp at ns⟩
  have fin : ∀ (h' : Heap) (t tk : Nat), (∀ b o, s.heap.get? b = some o → h'.get? b = some o) → EP X pins σ Q (.str d.shown t) { s with heap := h', toks := tk } := fun h' t tk k => ⟨.str d.shown, H, I.kept k, ⟨t, rfl⟩, q⟩
  cases rd with
  | none => exact PySem.P.repr_of_none (fin s.heap _ _ fun _ _ e => e)
  | bool b => exact PySem.P.repr_of_bool (fin s.heap _ _ fun _ _ e => e)
  | int i t => exact PySem.P.repr_of_int (of_decide_eq_true sh) (fin s.heap _ _ fun _ _ e => e)
  | str y t => exact PySem.P.repr_of_str (fin s.heap _ _ fun _ _ e => e) sz
  | list h1 h2 h3 h4 => exact repr_of_reads' (.list h1 h2 h3 h4) sh hsm hg (by omega) (fun _ _ e => e) (fun h' t tk k => fin h' t tk k) sz
  | tuple h1 h2 h3 h4 => exact repr_of_reads' (.tuple h1 h2 h3 h4) sh hsm hg (by omega) (fun _ _ e => e) (fun h' t tk k => fin h' t tk k) sz
  | dict h1 h2 h3 h4 h5 => exact repr_of_reads' (.dict h1 h2 h3 h4 h5) sh hsm hg (by omega) (fun _ _ e => e) (fun h' t tk k => fin h' t tk k) sz
theorem b_repr {X : Cx} (hg : X.A.guards = some []) (hu : X.A.units + 64 < cLine) : CallS X (.builtin "repr") reprF := .of (call_repr hg hu) fun xs H Q ρ h vs z R r e k => by
  unfold reprF at e
  split at e
  · rename_i v
    obtain ⟨x, us, rfl, rx, r⟩ := RelL.inv r; cases r
    cases q : reprD v h with
    | none => simp [q] at e
    | some d =>
      simp only [q] at e
      by_cases ok : reprOk d = true
      · rw [if_pos ok] at e; cases e
        unfold reprOk at ok
        simp only [Bool.and_eq_true, decide_eq_true_eq] at ok
        obtain ⟨⟨⟨o1, o2⟩, o3⟩, o4⟩ := ok
        have by_data : dataT v h = some d → d.hasDict = false → rRepr X.K [x] H Q := fun qd hn => ⟨x, d, rfl, .inl ⟨data_top R rx qd, hn⟩, o1, o2, o3, k H _ .refl R (.str .nil)⟩
        by_cases hd : d.hasDict = false
        · cases v with
          | ref n =>
            unfold reprD at q
            simp only at q
            split at q
            · cases q; simp [PyData.hasDict] at hd
            · exact by_data q hd
          | _ => exact by_data q hd
        · have dd : d = .dict [] := by
            revert o4
            cases d with
            | dict kvs => cases kvs with
              | nil => intro _; rfl
              | cons _ _ => intro z; simp [PyData.hasDict] at z
            | _ => intro z; simp_all
          subst dd
          have no : ∀ w, dataT w h ≠ some (.dict []) := fun w qd => by
            cases w with
            | ref n =>
              unfold dataT at qd
              simp only at qd
              split at qd
              · rename_i ys _
                cases z : dataL ys <;> simp [z] at qd
              · cases qd
            | tup xs => unfold dataT dataV at qd; cases z : dataL xs <;> simp [z] at qd
            | rls xs => unfold dataT dataV at qd; cases z : dataL xs <;> simp [z] at qd
            | frl xs => unfold dataT dataV at qd; cases z : dataL xs <;> simp [z] at qd
            | _ => simp [dataT, dataV] at qd
          cases v with
          | ref n =>
            unfold reprD at q
            simp only at q
            split at q
            · rename_i ys hn
              obtain ⟨a, ha, ob⟩ := R.ob n _ hn
              cases rx with
              | ref hi _ =>
                rw [hi] at ha; cases ha
                rcases ob with ⟨kvs, ho, ⟨_, ek⟩, _⟩ | ⟨kvs, ho, ⟨z, _⟩, _⟩
                · have e0 : kvs = [] := by cases kvs <;> simp at ek; rfl
                  subst e0
                  exact ⟨_, _, rfl, .inr ⟨_, rfl, ho, rfl⟩, o1, o2, o3, k H _ .refl R (.str .nil)⟩
                · cases z
            · exact (no _ q).elim
          | non => exact (no .non q).elim
          | bl b => exact (no (.bl b) q).elim
          | int b => exact (no (.int b) q).elim
          | str b => exact (no (.str b) q).elim
          | tup b => exact (no (.tup b) q).elim
          | rls b => exact (no (.rls b) q).elim
          | frl b => exact (no (.frl b) q).elim
          | _ => simp [reprD, dataT, dataV] at q
      · rw [if_neg ok] at e; cases e
  · cases e
end Sim

set_option Elab.async false
set_option linter.all false
set_option maxRecDepth 100000
set_option maxHeartbeats 4000000
/-! a dict that nobody changes any more, walked: it is locked for good -/
namespace Sim
open PySem PySem.Spec L2
variable [Tabl]
section
variable {K : PySem.W.Frag} {H : Hp} {ρ : Rho} {h : SHp} {xs : List SV} {vs : List V} {d : Addr} {od : Obj} {kvs : List (Key × V)}
theorem rd_lock {a : Addr} {u : HO} (hd : H d = some (.dK kvs)) (h : Rd H a u) : Rd (upd H d (.frz od (.dK kvs))) a u := by
  by_cases e : a = d
  · subst e
    rcases h with h | ⟨o, h⟩
    · rw [hd] at h; cases h; exact .inr ⟨od, upd_same⟩
    · rw [hd] at h; cases h
  · unfold L2.Rd; rw [upd_ne e]; exact h
theorem ne_dK {a : Addr} {u : HO} (hd : H d = some (.dK kvs)) (h : H a = some u) (n : ∀ k, u ≠ .dK k) : a ≠ d := fun e => by
  subst e; rw [hd] at h; exact n _ (Option.some.inj h).symm
theorem RelL.lock (r : RelL K H ρ xs vs) (hd : H d = some (.dK kvs)) : RelL K (upd H d (.frz od (.dK kvs))) ρ xs vs := by
  induction r with
  | nil => exact .nil
  | non _ ih => exact .non ih
  | bl _ ih => exact .bl ih
  | int _ ih => exact .int ih
  | str _ ih => exact .str ih
  | ty _ ih => exact .ty ih
  | adr _ ih => exact .adr ih
  | ref h _ ih => exact .ref h ih
  | tup h _ _ i1 i2 => exact .tup (by rw [upd_ne (ne_dK hd h (by intro k z; cases z))]; exact h) i1 i2
  | rls h n _ _ i1 i2 => exact .rls (by rw [upd_ne (ne_dK hd h (by intro k z; cases z))]; exact h) n i1 i2
  | frl h _ _ i1 i2 => exact .frl (h.imp (fun z => ⟨rd_lock hd z.1, z.2⟩) id) i1 i2
  | obj h n e _ _ i1 i2 => exact .obj (by rw [upd_ne (ne_dK hd h (by intro k z; cases z))]; exact h) n e i1 i2
  | xcp h e _ _ i1 i2 => exact .xcp (by rw [upd_ne (ne_dK hd h (by intro k z; cases z))]; exact h) e i1 i2
  | rdK h n e _ _ i1 i2 => exact .rdK (rd_lock hd h) n e i1 i2
  | rdT h n e _ _ i1 i2 => exact .rdT (by rw [upd_ne (ne_dK hd h (by intro k z; cases z))]; exact h) n e i1 i2
theorem Ext.lock (hd : H d = some (.dK kvs)) (n : ρ.out d) : Ext ρ H ρ (upd H d (.frz od (.dK kvs))) :=
  ⟨List.prefix_refl _, fun _ h => .inl h, fun b o q _ _ nd => by rw [upd_ne (ne_dK hd q nd)]; exact q, fun b k q _ => by
    by_cases e : b = d
    · subst e; rw [hd] at q; cases q; exact .inr ⟨n.2, od, upd_same⟩
    · exact .inl (by rw [upd_ne e]; exact q), fun b ps q _ => ⟨ps, by rw [upd_ne (ne_dK hd q (by intro k z; cases z))]; exact q⟩, fun _ h => .inl h, fun _ h => h⟩
theorem RelH.lock (R : RelH K H ρ h) (hd : H d = some (.dK kvs)) (n : ρ.out d) : RelH K (upd H d (.frz od (.dK kvs))) ρ h :=
  R.mono (.lock hd n) (fun a m => upd_ne fun e => n.1 (e ▸ m)) (tabs_upd R.tb fun u q c => by rw [hd] at q; cases q; exact c)
/-- a key as a value -/
theorem rel_key (k : Key) : RelS K H ρ (keyS k) (kV k) := by
  cases k with
  | inl i => exact .int .nil
  | inr x => exact .str .nil
end
omit [Tabl] in
def cItems (c : Env → M SV) : Env → M (List SV × Gd) := fun e => M.bind (c e) fun v h => match v with
  | .rdc false ks xs => .ok (zipL ks xs, .no) h
  | _ => .stuck
section
variable {X : Cx} {W : WX} {e : Expr} {c : Env → M SV}
/-- the dict is locked behind its reading -/
theorem pe_locked {te : TE} (he : PE X e te) : PE X e (fun σ H Q => te σ H fun x H1 => ∃ d kvs, x = .ref d ∧ Rd H1 d (.dK kvs) ∧ ∀ od, (∀ H2, (H1 d = some (.frz od (.dK kvs)) ∧ H2 = H1) ∨ (H1 d = some (.dK kvs) ∧ H2 = upd H1 d (.frz od (.dK kvs))) → Q x H2)) := by
  refine ⟨fun pins s σ H Q I h => ?_⟩
  refine thn (he.run pins s σ H _ I h) fun u s1 ⟨x, H1, I1, rx, d, kvs, ex, hd, q⟩ => ?_
  rcases hd with hd | ⟨od, hd⟩
  · obtain ⟨od, I2⟩ := I1.lock hd trivial
    exact ⟨x, _, I2, rx, q od _ (.inr ⟨hd, rfl⟩)⟩
  · exact ⟨x, _, I1, rx, q od _ (.inl ⟨hd, rfl⟩)⟩
theorem itok_items {K : PySem.W.Frag} {H : Hp} {ρ : Rho} {h : SHp} {d : Addr} {od : Obj} {kvs : List (Key × V)} {ks xs : List SV} (R : RelH K H ρ h) (hd : H d = some (.frz od (.dK kvs))) (n : ρ.out d) (ek : kvs.map (fun p => keyS p.1) = ks) (r : RelL K H ρ xs (kvs.map (·.2))) :
    ItOk K (L2.Iti d od kvs) (zipL ks xs) .no ρ H := by
  intro ρ2 H2 h2 E R2 _
  have hd2 : H2 d = some (.frz od (.dK kvs)) := E.kept d _ hd n.1 (.inl n.2)
  have r2 := r.monoV R.holds E
  have hl := r2.length
  have hk : ks.length = kvs.length := by rw [← ek, List.length_map]
  rw [List.length_map] at hl
  have hz : (zipL ks xs).length = kvs.length := by rw [zipL_length]; omega
  rw [hz]
  refine ⟨fun i hi => ⟨hd2, hi⟩, ⟨hd2, Nat.le_refl _⟩, fun i x H' hi y => ?_⟩
  obtain ⟨T, k, v, hkv, rfl, hT, rfl⟩ := y
  obtain ⟨v', h1, h3⟩ := r2.get (i := i) (x := xs[i]'(by omega)) (by simp [show i < xs.length by omega])
  rw [List.getElem?_map, hkv] at h1
  cases h1
  obtain ⟨e1, e2, e3⟩ := pair_rel R2 hT (rel_key (K := K) (H := H2) (ρ := ρ2) k) h3
  refine ⟨e1, e2, _, zipL_get ks xs i (keyS k) _ ?_ (by simp [show i < xs.length by omega]), e3⟩
  rw [← ek, List.getElem?_map, hkv]; rfl
theorem i_items {elts : List Expr} {kk : Nat} {tpos apos cpos : Pos} (he : SE X W e c) (hbase : attributeBase e "items" X.env (eval e X.env) = eval e X.env := by rfl) (hline : (apos.endLine == cpos.line) = true := by rfl) :
    SI X W (.Tuple elts kk tpos) (.Call (.Attribute e "items" apos) [] [] cpos) (cItems c) :=
  ⟨imp_pi (L2.pi_items (pe_locked he.pe) hbase hline) fun σ H Rr ⟨ρ, h, env, R, RE, P⟩ => ⟨ρ, h, env, R, RE, (Post.bind (rel := relS X.K) P).mono fun x H1 ⟨ρ1, v, h1, E1, R1, r1, P1⟩ => by
    cases v with
    | rdc t ks xs =>
      cases t with
      | true => exact P1.elim
      | false =>
        obtain ⟨a, kvs, rfl, hd, n, ek, ra⟩ : ∃ (a : Addr) (kvs : List (Key × V)), x = .ref a ∧ Rd H1 a (.dK kvs) ∧ ρ1.out a ∧ kvs.map (fun p => keyS p.1) = ks ∧ RelL X.K H1 ρ1 xs (kvs.map (·.2)) := by
          cases r1 with
          | rdK hd n ek ra _ => exact ⟨_, _, rfl, hd, n, ek, ra⟩
        · refine ⟨a, kvs, rfl, hd, fun od H2 z => ?_⟩
          rcases z with ⟨hd2, rfl⟩ | ⟨hd2, rfl⟩
          · exact ⟨a, od, kvs, rfl, hd2, P1 ρ1 _ _ .refl R1 (itok_items R1 hd2 n ek ra)⟩
          · have R2 := R1.lock (od := od) hd2 n
            exact ⟨a, od, kvs, rfl, upd_same, P1 ρ1 _ _ (.lock hd2 n) R2 (itok_items R2 upd_same n ek (ra.lock hd2))⟩
    | _ => exact P1.elim⟩⟩
end
end Sim

set_option Elab.async false
set_option linter.all false
set_option maxRecDepth 100000
set_option maxHeartbeats 4000000
/-! a call of a local name that holds one of several defs -/
namespace Sim
open PySem PySem.Spec L2
variable [Tabl]
omit [Tabl] in
abbrev Cand := Addr × Nat × (List SV → M SV)
/-- each candidate keeps its promise -/
inductive HeldS (X : Cx) (k : Nat) : List Cand → Prop where
  | nil : HeldS X k []
  | cons {f : Addr} {fd : FuncData} {ps : List Str} {D : List SV → M SV} {S : List Cand} (F : FnOk X.prog X.w X.K X.mg X.base (L2.CX X.prog X.w) k f fd ps (spS X.K ps.length D)) (hk : PySem.W.keepIn X.K (.ref f) = true) (hb : L2.Binds X.K fd ps []) (r : HeldS X k S) : HeldS X k ((f, ps.length, D) :: S)
omit [Tabl] in
/-- the candidate that a value names -/
def candOf (S : List Cand) : Option SV → Option Cand
  | some (.adr f) => S.find? (fun p => decide (p.1 = f))
  | _ => none
omit [Tabl] in
def eCallV (i : Nat) (S : List Cand) (c : Env → M (List SV)) : Env → M SV := fun e => match candOf S e[i]?.join with
  | some p => M.bind (c e) fun vs => if vs.length = p.2.1 then p.2.2 vs else fun _ => .stuck
  | none => fun _ => .stuck
theorem HeldS.get {X : Cx} {k : Nat} {S : List Cand} {f : Addr} {p : Cand} (h : HeldS X k S) (e : S.find? (fun p => decide (p.1 = f)) = some p) : ∃ (fd : FuncData) (ps : List Str), ps.length = p.2.1 ∧ FnOk X.prog X.w X.K X.mg X.base (L2.CX X.prog X.w) k f fd ps (spS X.K ps.length p.2.2) ∧ PySem.W.keepIn X.K (.ref f) = true ∧ L2.Binds X.K fd ps [] := by
  induction h with
  | nil => cases e
  | @cons g fd ps D S F hk hb r ih =>
    rw [List.find?_cons] at e
    by_cases z : g = f
    · subst z
      simp at e
      subst e
      exact ⟨fd, ps, rfl, F, hk, hb⟩
    · simp [z] at e
      exact ih (by simpa using e)
theorem e_callV {X : Cx} {W : WX} {k i : Nat} {S : List Cand} {x : Str} {p pos : Pos} {e : Expr} {es : List Expr} {c : Env → M (List SV)} (tk : Takes X W) (hS : HeldS X k S) (hr : Room k X.A) (ha : SA X W (e :: es) c) (hN : X.N[i]? = some x := by rfl)
    (hv : Vis X.env.scope x := by first | exact Or.inl rfl | exact Or.inr (Or.inl rfl) | exact Or.inr (Or.inr rfl)) (hdb : (x == ("__debug__" : Str)) = false := by decide) (hcd : (x == ("__classdict__" : Str)) = false := by decide)
    (he : starEach (e :: es) X.env = (false, eval e X.env) :: starEach es X.env := by rfl) (hpl : (backTo pos (starEach es X.env)).any (·.1) = false := by rfl) : SE X W (.Call (.Name x p) (e :: es) [] pos) (eCallV i S c) := by
  refine ⟨⟨fun pins s σ H Q I ⟨ρ, h, env, R, RE, P⟩ => ?_⟩⟩
  unfold eCallV at P
  cases ec : candOf S env[i]?.join with
  | none => rw [ec] at P; exact P.elim
  | some q =>
      rw [ec] at P
      obtain ⟨f, ei, eq⟩ : ∃ f, env[i]?.join = some (.adr f) ∧ S.find? (fun p => decide (p.1 = f)) = some q := by
        unfold candOf at ec
        split at ec
        · rename_i f ei; exact ⟨f, ei, ec⟩
        · cases ec
      obtain ⟨fd, ps, hp, F, hk, hb⟩ := hS.get eq
      have e' : env[i]? = some (some (.adr f)) := by
        cases z : env[i]? with
        | none => rw [z] at ei; cases ei
        | some o => rw [z] at ei; simp at ei; rw [ei]
      obtain ⟨y, h1, h2⟩ := RE.2 i _ e'
      cases h2
      refine wpAny_Call_Name_kw (thn ((pe_var (pos := p) hN hv hdb hcd).run pins s σ H (fun v H1 => v = .ref f ∧ H1 = H) I ⟨_, h1, rfl, rfl⟩) fun u s1 ⟨v, H1, I1, r1, q1⟩ => ?_)
      obtain ⟨rfl, rfl⟩ := q1
      cases r1
      refine PySem.W.callWith_K (h₀ := X.base) I.ok.mod.kin hk (thn (ha.pa.run pos pins s1 σ _ (fun vs H2 => ∃ ρ1 args h1, Ext ρ H1 ρ1 H2 ∧ RelH X.K H2 ρ1 h1 ∧ RelL X.K H2 ρ1 args vs ∧ Post X.K W (relS X.K) σ ρ1 H2 ((if args.length = q.2.1 then q.2.2 args else fun _ => .stuck) h1) Q) I1 ⟨ρ, h, env, R, RE, Post.bind (rel := relL X.K) P⟩) fun us s2 ⟨vs, H2, I2, r, ρ1, args, h2, E2, R2, ra, P2⟩ => ⟨I2.kIn, ?_⟩) he hpl
      by_cases hl : args.length = q.2.1
      · rw [if_pos hl] at P2
        exact F.run_call hr hb (passAt tk σ) I2 r (sp_of R2 ra (by rw [← ra.length, hl, hp]) P2)
      · rw [if_neg hl] at P2; exact P2.elim
end Sim

set_option Elab.async false
set_option linter.all false
set_option maxRecDepth 100000
set_option maxHeartbeats 4000000
/-! the end of a law: from the caller, where no text is under way; tables of code objects -/
namespace Sim
open PySem PySem.Spec PyProof.Rows L2 LamX
/-- what is told of the law's own run, over any tables -/
structure Start (K : PySem.W.Frag) (mg : Str → Option Value) (cs : List (Addr × Addr)) (s₁ : Shared) (a : Addr) (vs : List Value) (ns : List Int) : Prop where
  kin : K.In s₁.heap
  glo : s₁.heap.Ns mainGlobals mg
  blt : ∃ mb, s₁.heap.Ns builtinsNs mb ∧ ∀ x : Str, x ≠ "__name__" → mb x = bootBuiltins x
  lim : s₁.heap.NoLimit
  gen : s₁.gens = #[]
  tab : ∀ p ∈ cs, s₁.heap.get? p.2 = some { cls := .none, data := .fields #[] }
  ntb : ∀ p ∈ cs, K.lookup p.2 = none
  hd : ∀ p ∈ cs, PySem.W.CodeHd s₁.heap p.1 p.2
  bm : ∃ (bm : Addr) (ob : Obj), mg "__builtins__" = some (.ref bm) ∧ bm ≠ builtinsNs ∧ s₁.heap.get? bm = some ob ∧ ob.cls = .type "module" ∧ ob.dict = some builtinsNs ∧ ob.data = .plain
  lst : s₁.heap.get? a = some { cls := .type "list", data := .seq vs.toArray }
  nums : IntsAre vs ns
  len : ns.length ≤ sizeLine
section
variable {P : Program} {w : World} {K : PySem.W.Frag} {mg : Str → Option Value} {cs : List (Addr × Addr)} {s₁ : Shared} {a : Addr} {vs : List Value} {ns : List Int}
/-- the tables are tracked; the script is read -/
def startH (K : PySem.W.Frag) (cs : List (Addr × Addr)) (a : Addr) (vs : List Value) (ns : List Int) : Hp := fun b =>
  if b ∈ cs.map (·.2) then some (.tbl #[]) else if b = a ∧ K.lookup a = none then some (.frz { cls := .type "list", data := .seq vs.toArray } (.lst (ns.map V.int))) else none
theorem startH_tab {b : Addr} (h : b ∈ cs.map (·.2)) : startH K cs a vs ns b = some (.tbl #[]) := if_pos h
theorem startH_cases {b : Addr} {u : HO} (e : startH K cs a vs ns b = some u) : (b ∈ cs.map (·.2) ∧ u = .tbl #[]) ∨ (b ∉ cs.map (·.2) ∧ b = a ∧ K.lookup a = none ∧ u = .frz { cls := .type "list", data := .seq vs.toArray } (.lst (ns.map V.int))) := by
  unfold startH at e
  by_cases h : b ∈ cs.map (·.2)
  · rw [if_pos h] at e; exact .inl ⟨h, (Option.some.inj e).symm⟩
  · rw [if_neg h] at e
    by_cases g : b = a ∧ K.lookup a = none
    · rw [if_pos g] at e; exact .inr ⟨h, g.1, g.2, (Option.some.inj e).symm⟩
    · rw [if_neg g] at e; cases e
namespace Start
variable (S : Start K mg cs s₁ a vs ns)
include S
theorem at_tab {b : Addr} (h : b ∈ cs.map (·.2)) : s₁.heap.get? b = some { cls := .none, data := .fields #[] } := by
  obtain ⟨p, hp, e⟩ := List.mem_map.mp h
  rw [← e]; exact S.tab p hp
theorem a_tab : a ∉ cs.map (·.2) := fun h => by
  have e := S.at_tab h
  rw [S.lst] at e; cases e
/-- what is neither a table nor the script is not tracked -/
theorem free {b : Addr} {o : Obj} (e : s₁.heap.get? b = some o) (h1 : ∀ xs n, o.data ≠ .seq xs n) (h2 : o.data ≠ .fields #[]) : startH K cs a vs ns b = none := by
  cases q : startH K cs a vs ns b with
  | none => rfl
  | some u =>
    rcases startH_cases q with ⟨m, _⟩ | ⟨_, rfl, _⟩
    · rw [S.at_tab m] at e; cases e; exact (h2 rfl).elim
    · rw [S.lst] at e; cases e; exact (h1 _ _ rfl).elim
theorem held : HOk P w (startH K cs a vs ns) s₁.heap := fun b u e => by
  rcases startH_cases e with ⟨m, rfl⟩ | ⟨_, rfl, _, rfl⟩
  · exact S.at_tab m
  · exact ⟨S.lst, by rw [List.length_map]; exact S.len, vs, _, vals_ints S.nums, S.lst⟩
theorem itself : SqL K (startH K cs a vs ns) a (ns.map V.int) := by
  cases q : K.lookup a with
  | none => exact .inl (.inr ⟨_, (if_neg S.a_tab).trans (if_pos ⟨rfl, q⟩)⟩)
  | some o =>
    have e := S.kin a o q
    rw [S.lst] at e; cases e
    exact .inr ⟨_, _, _, q, rfl, rfl, rfl, by rw [List.size_toArray, S.nums.length]; exact S.len, vals_ints S.nums⟩
theorem keep_hid {b : Addr} {o : Obj} (e : s₁.heap.get? b = some o) (n : startH K cs a vs ns b = none) : (hidT s₁.heap (startH K cs a vs ns)).get? b = some o := hidT_get e n
theorem dict_hid {b : Addr} {m : Str → Option Value} (h : s₁.heap.Ns b m) : (hidT s₁.heap (startH K cs a vs ns)).Ns b m := by
  obtain ⟨o, es, ep, e, d, r⟩ := h
  exact ⟨o, es, ep, S.keep_hid e (S.free e (fun _ _ z => by rw [d] at z; cases z) fun z => by rw [d] at z; cases z), d, r⟩
theorem kin_hid : K.In (hidT s₁.heap (startH K cs a vs ns)) := fun b o e => S.keep_hid (S.kin b o e) (by
  cases q : startH K cs a vs ns b with
  | none => rfl
  | some u =>
    rcases startH_cases q with ⟨m, _⟩ | ⟨_, rfl, z, _⟩
    · obtain ⟨p, hp, ep⟩ := List.mem_map.mp m
      rw [← ep, S.ntb p hp] at e; cases e
    · rw [z] at e; cases e)
theorem ne_glo {b : Addr} (e : ∃ d, s₁.heap.get? b = some { cls := .none, data := .fields d } ) : mainGlobals ≠ b := fun z => by
  obtain ⟨o, es, ep, h, d, _⟩ := S.glo
  obtain ⟨f, e⟩ := e
  rw [z, e] at h; cases h; cases d
theorem tabB : ∀ p ∈ cs, TabB (hidT s₁.heap (startH K cs a vs ns)) mg p.1 p.2 := fun p hp => by
  have tp := S.tab p hp
  refine ⟨?_, ?_, S.ne_glo ⟨_, tp⟩⟩
  · obtain ⟨o, us, f1, f2, f3, f4, f5, f6, f7, e, c, d, t11, r⟩ := S.hd p hp
    refine ⟨o, us, f1, f2, f3, f4, f5, f6, f7, S.keep_hid e (S.free e (fun _ _ z => by rw [d] at z; cases z) fun z => ?_), c, d, t11, r⟩
    rw [d] at z; cases z; simp at t11
  · obtain ⟨bm, ob, b1, b2, b3, b4, b5, b6⟩ := S.bm
    have other : ∀ c o, s₁.heap.get? c = some o → o.data ≠ .plain → bm ≠ c := fun c o e n z => by rw [← z, b3] at e; cases e; exact n b6
    obtain ⟨og, es, ep, eg, dg, _⟩ := S.glo
    exact ⟨bm, ob, b1, b2, other _ _ eg (by rw [dg]; intro z; cases z), other _ _ tp (by intro z; cases z), S.keep_hid b3 (S.free b3 (fun _ _ z => by rw [b6] at z; cases z) fun z => by rw [b6] at z; cases z), b4, b5, b6⟩
theorem env0 : Env0 P w K mg (hidT s₁.heap (startH K cs a vs ns)) callerA [] s₁ (startH K cs a vs ns) := by
  obtain ⟨mb, b1, b2⟩ := S.blt
  obtain ⟨mc, c1, c2⟩ := S.lim
  exact ⟨rfl, ⟨S.kin_hid, S.dict_hid S.glo, ⟨mb, S.dict_hid b1, b2⟩, ⟨mc, S.dict_hid c1, c2⟩⟩, fun b o e => of_hidT e, Nat.le_of_eq (hidT_size _ _), trivial, fun b hb => absurd (show b ∈ ([] : List Addr) from hb) (by simp), S.held, .of_eq S.gen⟩
end Start
variable [Tabl]
theorem law_callG {k : Nat} {fa : Addr} {fd : FuncData} {x : Str} {D : List SV → M SV} (S : Start K mg cs s₁ a vs ns) (hr : L2.Room k callerA) (hT : ∀ p ∈ Tabl.T, ∃ q ∈ cs, q.2 = p.1)
    (F : ∀ base : Heap, K.In base → base.Ns mainGlobals mg → (∀ p ∈ cs, TabB base mg p.1 p.2) → FnOk P w K mg base (L2.CX P w) k fa fd [x] (spS K 1 D)) (hbind : ∀ (s : Shared) (u : Value), BindsTo s fd ⟨[u], []⟩ [(x, u)])
    (hn : ns.length ≤ 63) (main : ∀ ns : List Int, ns.length ≤ 63 → ∃ h', D [.frl (ns.map SV.int)] [] = .ok (.bl true) h') :
    codeAny (model P w) callerA (.call (.ref fa) ⟨[.ref a], []⟩) (fun r s' => r = .ok (.ret (.bool true)) ∧ OldK s₁.heap s'.heap ∧ s'.os = s₁.os ∧ AllBare s'.gens) s₁ := by
  have tbs : NdefX.TabsN Tabl.T (startH K cs a vs ns) := fun p hp => by
    obtain ⟨q, hq, e⟩ := hT p hp
    exact NdefX.TabN.nil (startH_tab (by rw [← e]; exact List.mem_map.mpr ⟨q, hq, rfl⟩))
  have sp : spS K 1 D [.ref a] (startH K cs a vs ns) (fun v _ => v = .bl true) (fun _ _ _ => False) := spTrue_imp main _ _ _ _ ⟨a, ns, rfl, S.itself, hn, tbs, fun _ => rfl⟩
  refine codeAny_mono ((F _ S.kin_hid (S.dict_hid S.glo) S.tabB).go callerA [] s₁ (startH K cs a vs ns) ⟨[.ref a], []⟩ [.ref a] [.ref a] _ _ ⟨hr, rfl⟩ S.env0 (hbind s₁ (.ref a)) (.cons rfl .nil) sp) ?_
  rintro (e | (_ | _ | _ | u)) s' h
  · exact (noCX h).elim
  · exact h.elim
  · exact h.elim
  · exact h.elim
  · obtain ⟨v, H', os, bare, un, hok', r', rfl⟩ := h
    obtain rfl : u = Value.bool true := r'
    have stay : ∀ b o, b ∉ cs.map (·.2) → s₁.heap.get? b = some o → s'.heap.get? b = some o := fun b o nb e => by
      cases q : startH K cs a vs ns b with
      | none => exact un.keep b o e q (fun z => absurd (show b ∈ ([] : List Addr) from z) (by simp)) (by simp)
      | some u =>
        rcases startH_cases q with ⟨m, _⟩ | ⟨_, rfl, _, rfl⟩
        · exact (nb m).elim
        · rw [S.lst] at e; cases e
          exact (hok' _ _ (un.frzs _ _ _ q)).1
    have grown : ∀ p ∈ cs, ∃ more : Array Value, s'.heap.get? p.2 = some { cls := .none, data := .fields more } := fun p hp => by
      obtain ⟨more, z⟩ := un.tbls p.2 #[] (startH_tab (List.mem_map.mpr ⟨p, hp, rfl⟩))
      exact ⟨_, hok' p.2 _ z⟩
    refine ⟨rfl, ⟨fun b o e => ?_, fun b o e => ?_⟩, os, bare⟩
    · by_cases hb : b ∈ cs.map (·.2)
      · obtain ⟨p, hp, ep⟩ := List.mem_map.mp hb
        obtain ⟨more, hm⟩ := grown p hp
        rw [← ep] at e ⊢
        rw [S.tab p hp] at e; cases e
        exact .inr (.inl ⟨((S.hd p hp).tab (S.tab p hp)).isCodeTable, rfl, #[], more, rfl, by rw [Array.empty_append]; exact hm⟩)
      · exact .inl (stay b o hb e)
    · by_cases hb : b ∈ cs.map (·.2)
      · obtain ⟨p, hp, ep⟩ := List.mem_map.mp hb
        obtain ⟨more, hm⟩ := grown p hp
        exact ⟨_, by rw [← ep]; exact hm⟩
      · exact ⟨o, stay b o hb e⟩
end
theorem mem_at {α : Type} (xs : List α) (i : Nat) {x : α} (h : xs[i]? = some x) : x ∈ xs := List.mem_of_getElem? h
/-- the tables of the program's defs are empty behind the top -/
def OwnTabs (q : Program) (K : PySem.W.Frag) (mg : Str → Option Value) (h : Heap) : Prop := ∀ (x : Str) (f c P : Addr) (o : Obj) (fd : FuncData) (e : Value) (dd : Option Addr) (us : Array Value) (sl : Array (Option Value)),
  (recsOf q).any (fun e => e.name == x) = true → mg x = some (.ref f) → K.lookup f = some o → o.data = .func fd → fd.code = .ref c → K.lookup c = some ⟨e, dd, .fields us, sl⟩ → us[11]? = some (.ref P) → h.get? P = some { cls := .none, data := .fields #[] }
/-- what the head must say of a law -/
def LawG (l : PySem.W.OpenLaw) (w : World) (K : PySem.W.Frag) (k : Nat) (x : Str) (mg : Str → Option Value) (fa : Addr) (h : Heap) : Prop :=
  ∃ (T : Tabl) (fd : FuncData) (cs : List (Addr × Addr)) (D : List SV → M SV), (∀ p ∈ cs, h.get? p.2 = some { cls := .none, data := .fields #[] }) ∧ (∀ p ∈ cs, K.lookup p.2 = none) ∧ (∀ p ∈ cs, PySem.W.CodeHd h p.1 p.2) ∧ (∀ p ∈ T.T, ∃ q ∈ cs, q.2 = p.1) ∧
    (∀ (s : Shared) (u : Value), BindsTo s fd ⟨[u], []⟩ [(x, u)]) ∧ (∀ ns : List Int, ns.length ≤ 63 → ∃ h', D [.frl (ns.map SV.int)] [] = .ok (.bl true) h') ∧
    ∀ base : Heap, K.In base → base.Ns mainGlobals mg → (∀ p ∈ cs, TabB base mg p.1 p.2) → @FnOk l.prog w K mg base (L2.CX l.prog w) k fa fd [x] (@spS T K 1 D)
theorem walk_G {l : PySem.W.OpenLaw} {k : Nat} {q : Program} {loose : List Str} {XP : (Str → Option Value) → Heap → Prop} {YP : World → Heap → Prop} {d : DefRec} {K : Params → PySem.W.Frag} {x : Str}
    (hn : l.most = some 63) (hdf : d.params.defaults = []) (hr : L2.Room k callerA) (hY : ∀ (w : World) (h : Heap), YP w h → (K w.params).In h)
    (F : ∀ (w : World) (mg : Str → Option Value) (fa : Addr) (h : Heap), (K w.params).In h → h.Ns mainGlobals mg → mg d.name = some (.ref fa) → OwnTabs q (K w.params) mg h → LawG l w (K w.params) k x mg fa h) :
    PySem.W.WalkO q loose XP YP l.row.toRowW d [] (fun f vs => PySem.call f vs) := by
  refine Att.attach_callB hn hdf fun w s₀ s₁ mg mb fa o pm cd doc a vs ns G Y ho hd hcd hmg hobj hints hlen _ hg => ?_
  have KX := hY w _ Y
  obtain ⟨T, fd, cs, D, hT, nT, C, hTT, hb, main, hF⟩ := F w mg fa _ KX G.T.g hmg fun x f c P o1 fd1 e dd us sl rq hx k1 k2 k3 k4 k5 => by
    obtain ⟨dL, hm, hn1⟩ := List.any_eq_true.mp rq
    have hn2 : dL.name = x := beq_iff_eq.mp hn1
    obtain ⟨a', o', fd', c', P', t1, t2, t3, t4, _, ⟨oc, vc, u1, _, u3, u4⟩, hP⟩ := G.T.tab dL hm
    rw [hn2, hx] at t1; cases t1
    rw [KX _ _ k1] at t2; cases t2
    rw [k2] at t3; cases t3
    rw [k3] at t4; cases t4
    rw [KX _ _ k4] at u1; cases u1
    cases u3
    rw [k5] at u4; cases u4
    exact hP
  exact @law_callG _ _ _ _ _ _ _ _ _ T k fa fd x D ⟨KX, G.T.g, ⟨mb, G.T.b, G.T.builtins⟩, G.T.nolimit, hg, hT, nT, C, G.T.bmain, hobj, hints, Nat.le_trans hlen (by decide)⟩ hr hTT hF hb hlen main
end Sim

set_option Elab.async false
set_option linter.all false
set_option maxRecDepth 100000
set_option maxHeartbeats 4000000
/-! tuple * n for n of any size, so long as the tuple is not too long -/
namespace L2
open PySem PySem.Spec PyProof.Rows
def rRepB (K : PySem.W.Frag) : R2 := fun x y H Q => ∃ l k xs, x = .ref l ∧ y = .int k ∧ SqT K H l xs ∧ xs ≠ [] ∧ 2 ≤ k ∧ k * xs.length ≤ 1000000 ∧ ∀ p, H p = none → Q (.ref p) (upd H p (.tup (List.replicate k.toNat xs).flatten))
theorem op_repB {X : Cx} : OpR X (binaryOp .Mult) (rRepB X.K) := by
  intro pins s σ H x y v u Q I rx ry h
  obtain ⟨l, k, xs, rfl, rfl, hT, hne, h1, h2, q⟩ := h
  cases rx
  obtain ⟨t, rfl⟩ := ry
  obtain ⟨its, r, ⟨⟨cls, dd, data, sl⟩, ho, hc, n, hd⟩, hs⟩ := I.tuple hT
  simp only at hc hd
  subst hc hd
  have hle := r.length
  have hpos : 0 < xs.length := List.length_pos_iff.mpr hne
  have k1 : k ≤ k * xs.length := by
    have z := Int.mul_le_mul_of_nonneg_left (c := k) (a := 1) (b := (xs.length : Int)) (by omega) (by omega)
    rw [Int.mul_one] at z
    exact z
  have em : its.toArray.isEmpty = false := by rw [List.isEmpty_toArray]; cases its with
    | nil => simp at hle; exact (hne hle).elim
    | cons _ _ => rfl
  have sz : ((its.toArray.size : Nat) : Int) * k ≤ 1000000 := by rw [List.size_toArray, ← hle, Int.mul_comm]; exact h2
  have fl : (List.replicate k.toNat its).flatten.length ≤ sizeLine := by
    rw [lm_len_rep_flat, sizeLine_eq]
    have e : ((k.toNat * its.length : Nat) : Int) = k * xs.length := by rw [Int.natCast_mul, Int.toNat_of_nonneg (by omega), hle]
    omega
  have ev : ∀ p q : Bool, p = false → q = false → (p || q) = false := by intro p q a b; rw [a, b]; rfl
  have f0 := ev (decide (k < -(2 ^ 63))) (decide (k ≥ 2 ^ 63)) (decide_eq_false (by omega)) (decide_eq_false (by omega))
  have f1 := ev its.toArray.isEmpty (k == 1) em (beq_eq_false_iff_ne.mpr (by omega))
  have f2 := ev (decide (k ≤ 0)) its.toArray.isEmpty (decide_eq_false (by omega)) em
  have f4 : Builtin.Tuple.tupleTooMany (((its.toArray.size : Nat) : Int) * k) = false := decide_eq_false (by rw [sizeLine_eq]; omega)
  have fits : (List.foldl (fun x1 x2 => x1 ++ x2) #[] (List.replicate k.toNat its.toArray)).size ≤ sizeLine := by rw [size_rep, List.size_toArray]; exact fl
  refine wpAny_binaryOp_repeat_ref (T := "tuple") (U := "int") (by decide) ⟨_, ho, rfl⟩ (fun s' => typeIs_int s' k t) noFill_tuple_mul PySem.F.fills_int_mul PySem.F.slot_int_rmul repeat_tuple PySem.F.slot_int_index.lookup
    (call_meets PySem.F.slot_int_rmul (typeIs_int s k t) PySem.F.entry_int_rmul (PySem.F.args_int_rmul_2 _ _) (int_rmul_tuple k t l its.toArray n dd sl)
      ⟨ho, rfl, ⟨_, ho, rfl⟩, call_meets PySem.F.slot_tuple_mul ⟨_, ho, rfl⟩ PySem.F.entry_tuple_mul (PySem.F.args_tuple_mul_2 _ _) (tuple_mulW l its.toArray n dd sl k t f0 f1 f2 (by omega) f4 fits) ⟨ho, ?_⟩⟩)
  rw [size_rep]
  exact ⟨.ref _, _, I.laid (t' := s.toks) (o := .tup (List.replicate k.toNat xs).flatten) (fun b ob e => Heap.get?_push_of_some _ e) (Nat.le_refl _)
    ⟨by rw [← (r.rep k.toNat).length] at fl; exact fl, _, r.rep k.toNat, IsTup.new _ _⟩, rfl, q _ (I.hok.fresh (Nat.le_refl _))⟩
end L2
namespace Sim
open PySem PySem.Spec PyProof.Rows L2
variable [Tabl]
omit [Tabl] in
def mulTupB : SV → SV → SHp → Option SV := fun v w _ => match v, w with
  | .tup a, .int k => if a ≠ [] ∧ 2 ≤ k ∧ k * a.length ≤ 1000000 then some (.tup (List.replicate k.toNat a).flatten) else none
  | _, _ => none
theorem o_mulTupB {X : Cx} : OpS X (binaryOp .Mult) mulTupB := .of op_repB fun x y H Q ρ h v w z R rv rw' e k => by
  unfold mulTupB at e
  split at e
  · rename_i a n
    by_cases c : a ≠ [] ∧ 2 ≤ n ∧ n * a.length ≤ 1000000
    · rw [if_pos c] at e; cases e
      obtain ⟨p, us, rfl, h1, r1⟩ := tup_rel rv
      cases rw'
      exact ⟨p, n, us, rfl, rfl, h1, fun z => c.1 (List.length_eq_zero_iff.mp (by rw [r1.length, z]; rfl)), c.2.1, by rw [← r1.length]; exact c.2.2, fun t ht => k _ _ (.fresh ht) (R.fresh ht) (rel_tup R ht (rel_rep r1 _))⟩
    · rw [if_neg c] at e; cases e
  · cases e
omit [Tabl] in
/-- ints; a tuple, any number of times -/
def mulX : SV → SV → SHp → Option SV := fun v w h => match v with
  | .tup _ => (mulTupB v w h).or (mulTup1 v w h)
  | _ => mulI v w h
theorem o_mulX {X : Cx} : OpS X (binaryOp .Mult) mulX := OpS.imp (.or o_mulI (.or o_mulTupB o_mulTup1)) fun v w h z e => by
  cases v <;> first | exact e | skip
  all_goals first | (simp only [mulX] at e; simp [e]) | (simp only [mulX] at e; simp only [mulI, op2I] at e ⊢; simpa using e)
end Sim


set_option Elab.async false
set_option linter.all false
set_option maxRecDepth 100000
set_option maxHeartbeats 4000000
/-! an expression whose leavings are thrown away -/
namespace Sim
open PySem L2
variable [Tabl]
omit [Tabl] in
def eGc (c : Env → M SV) : Env → M SV := fun e h => match c e h with
  | .ok v h' => gc false h v h'
  | .err k fs h' => .err k fs h'
  | .stuck => .stuck
theorem e_gc {X : Cx} {W : WX} {e : Expr} {c : Env → M SV} (s : SE X W e c) : SE X W e (eGc c) := ⟨imp_pe s.pe fun σ H Q ⟨ρ, h, env, R, RE, P⟩ => ⟨ρ, h, env, R, RE, by
  unfold eGc at P
  cases q : c env h with
  | ok v h' => rw [q] at P; exact gc_post R P
  | err k fs h' => rw [q] at P; exact P
  | stuck => rw [q] at P; exact P⟩⟩
end Sim

set_option Elab.async false
set_option linter.all false
set_option maxRecDepth 100000
set_option maxHeartbeats 4000000
namespace My
open PySem L2 Sim
def topS (i : Nat) : Stmt := PySem.Challenge.pw_wholebyparts_k27_errors_of_readers.main.body.getD i (.Pass ⟨0, 0, 0, 0⟩)
abbrev s_is_integer : Stmt := topS 7
abbrev s_is_between : Stmt := topS 8
abbrev s_is_index : Stmt := topS 9
abbrev s_u_is_step : Stmt := topS 21
abbrev s_is_ascending : Stmt := topS 10
abbrev s_is_index_tuple : Stmt := topS 11
abbrev s_reader_fault : Stmt := topS 20
abbrev s_m_Reader_init : Stmt := inClass (topS 22) 0
abbrev s_u_law_bag : Stmt := topS 36
abbrev s_u_law_pick : Stmt := topS 37
abbrev s_u_law_turned : Stmt := topS 38
abbrev s_check_number : Stmt := topS 12
abbrev s_check_reader : Stmt := topS 23
abbrev s_check_word : Stmt := topS 24
abbrev s_state_from : Stmt := topS 26
abbrev s_after_times : Stmt := topS 34
abbrev s_first_words : Stmt := topS 29
abbrev s_first_word : Stmt := topS 30
abbrev s_met : Stmt := topS 28
abbrev s_state_after : Stmt := topS 25
abbrev s_takes : Stmt := topS 27
abbrev s_u_counts : Stmt := topS 31
abbrev s_word_count : Stmt := topS 32
abbrev s_words : Stmt := topS 33
abbrev s_u_law_right : Stmt := topS 40
abbrev s_law : Stmt := topS 41
abbrev s_u_law_heard : Stmt := topS 39
abbrev s_m_InvalidNumber_init : Stmt := inClass (topS 4) 0
abbrev s_m_TooMany_init : Stmt := inClass (topS 5) 0
/-- addresses of the top that values speak of -/
structure Ads where
  none_ : Unit := ()
  C_InvalidReader : Addr
  C_InvalidWord : Addr
  C_InvalidNumber : Addr
  C_TooMany : Addr
  C_Reader : Addr
  f_first_word : Addr
  f_met : Addr
  f_state_after : Addr
  f_takes : Addr
  f_word_count : Addr
  f_words : Addr
def isTs_Reader : List String := ["NoneType", "bool", "int", "str", "tuple", "list", "dict"]
/-! ### the mirrors -/
def BL_u_law_heard (a : Ads) : M SV → ST' :=
  fun k => (cSeq (cTryN [⟨mOf a.C_InvalidReader [a.C_InvalidWord, a.C_InvalidNumber, a.C_TooMany], none, fun _ _ => (cRet (eC (.str "reader")))⟩, ⟨mOf a.C_InvalidWord [a.C_InvalidReader, a.C_InvalidNumber, a.C_TooMany], none, fun _ _ => (cRet (eC (.str "word")))⟩, ⟨mOf a.C_InvalidNumber [a.C_InvalidReader, a.C_InvalidWord, a.C_TooMany], some 1, fun b g => (cRet (eOp addF (eC (.str "number ")) (eCB reprF (aCons (eXf b g 1 "given") aNil))))⟩, ⟨mOf a.C_TooMany [a.C_InvalidReader, a.C_InvalidWord, a.C_InvalidNumber], some 1, fun b g => (cRet (eOp addF (eC (.str "many ")) (eCB reprF (aCons (eXf b g 1 "limit") aNil))))⟩] (cExpr (fun _ => k))) (cRet (eC (.str "fine"))))
def nm_u_law_right : Nat → Nat → Str := fun _ _ => (Str.ofString "_law_right" ++ ".<locals>.") ++ "<lambda>"
def B_is_integer (a : Ads) : ST' :=
  (cRet (eAnd (eCB isiF (aCons (eVar 0) (aCons (eC (.ty "int")) aNil))) (eNot (eCB isiF (aCons (eVar 0) (aCons (eC (.ty "bool")) aNil))))))
def D_is_integer (a : Ads) : List SV → M SV := fnD true 1 (B_is_integer a)
def B_is_between (a : Ads) : ST' :=
  (cRet (eAnd (eCall (D_is_integer a) (aCons (eVar 0) aNil)) (eChain leI leI (eVar 1) (eVar 0) (eVar 2))))
def D_is_between (a : Ads) : List SV → M SV := fnD true 3 (B_is_between a)
def B_is_index (a : Ads) : ST' :=
  (cRet (eCall (D_is_between a) (aCons (eVar 0) (aCons (eC (.int 0)) (aCons (eOp subI (eVar 1) (eC (.int 1))) aNil)))))
def D_is_index (a : Ads) : List SV → M SV := fnD true 2 (B_is_index a)
def B_u_is_step (a : Ads) : ST' :=
  (cSeq (cIf (bOr (bNot (eTst (eCB isiF (aCons (eVar 2) (aCons (eC (.ty "tuple")) aNil))))) (eTst (eOp (eqF true) (eCB lenF (aCons (eVar 2) aNil)) (eVar 0)))) (cRet (eC (.bl false))) cNil)
    (cRet (eCB allF (aCons (eLc (cIt (eVar 2)) [3] (gN 3) bTrue (eCall (D_is_index a) (aCons (eVar 3) (aCons (eVar 1) aNil)))) aNil))))
def D_u_is_step (a : Ads) : List SV → M SV := fnD true 4 (B_u_is_step a)
def B_is_ascending (a : Ads) : ST' :=
  (cRet (eCB allF (aCons (eLc (cZipT (eVar 0) (eSl (eVar 0) (oYes (eC (.int 1))) oNo)) [1, 2] (gT 2 (gsC (gN 1) (gsC (gN 2) gsN))) bTrue (eOp ltI (eVar 1) (eVar 2))) aNil)))
def D_is_ascending (a : Ads) : List SV → M SV := fnD true 3 (B_is_ascending a)
def B_is_index_tuple (a : Ads) : ST' :=
  (cSeq (cIf (bNot (eTst (eCB isiF (aCons (eVar 0) (aCons (eC (.ty "tuple")) aNil))))) (cRet (eC (.bl false))) cNil)
    (cRet (eAnd (eCB allF (aCons (eLc (cIt (eVar 0)) [2] (gN 2) bTrue (eCall (D_is_index a) (aCons (eVar 2) (aCons (eVar 1) aNil)))) aNil)) (eCall (D_is_ascending a) (aCons (eVar 0) aNil)))))
def D_is_index_tuple (a : Ads) : List SV → M SV := fnD true 3 (B_is_index_tuple a)
def B_reader_fault (a : Ads) : ST' :=
  (cSeq (cIf (bNot (eTst (eCall (D_is_between a) (aCons (eVar 0) (aCons (eC (.int 1)) (aCons (eC (.int 64)) aNil)))))) (cRet (eTup (aCons (eC (.str "letters")) aNil))) cNil)
    (cSeq (cIf (bOr (bNot (eTst (eCB isiF (aCons (eVar 1) (aCons (eC (.ty "tuple")) aNil))))) (bNot (eTst (eChain leI leI (eC (.int 1)) (eCB lenF (aCons (eVar 1) aNil)) (eC (.int 512)))))) (cRet (eTup (aCons (eC (.str "steps")) aNil))) cNil)
    (cSeq (cFor (cEnum (eVar 1)) (gT 2 (gsC (gN 3) (gsC (gN 4) gsN))) (cIf (bNot (eTst (eCall (D_u_is_step a) (aCons (eVar 0) (aCons (eCB lenF (aCons (eVar 1) aNil)) (aCons (eVar 4) aNil)))))) (cRet (eTup (aCons (eC (.str "step")) (aCons (eVar 3) aNil)))) cNil))
    (cSeq (cIf (bNot (eTst (eCall (D_is_index_tuple a) (aCons (eVar 2) (aCons (eCB lenF (aCons (eVar 1) aNil)) aNil))))) (cRet (eTup (aCons (eC (.str "accepting")) aNil))) cNil)
    (cRet (eC .non))))))
def D_reader_fault (a : Ads) : List SV → M SV := fnD true 5 (B_reader_fault a)
def B_m_Reader_init (a : Ads) : ST' :=
  (cSeq (cSet 4 (eCall (D_reader_fault a) (aCons (eVar 1) (aCons (eVar 2) (aCons (eVar 3) aNil)))))
    (cSeq (cIf (eTst (eOp (isF true) (eVar 4) (eC .non))) (cRaise a.C_InvalidReader (joinN [(eStrN (Str.ofString "a reader with the fault ").length), (eFmtN (eVar 4))] 0)) cNil)
    (cSeq (cFld a.C_Reader "letters" (eVar 0) (eVar 1))
    (cSeq (cFld a.C_Reader "steps" (eVar 0) (eVar 2))
    (cSeq (cFld a.C_Reader "accepting" (eVar 0) (eVar 3))
    (cFld a.C_Reader "states" (eVar 0) (eCB lenF (aCons (eVar 2) aNil))))))))
def D_m_Reader_init (a : Ads) : List SV → M SV := fnD true 5 (B_m_Reader_init a)
def B_u_law_bag (a : Ads) : ST' :=
  (cSeq (cSet 2 (eIf (eTst (eOp ltI (eVar 1) (eCB lenF (aCons (eVar 0) aNil)))) (eCB intF (aCons (eOp ixF (eVar 0) (eVar 1)) aNil)) (eOp addF (eOp mulX (eC (.int 431)) (eVar 1)) (eC (.int 73)))))
    (cSeq (cSet 3 (eOp modI (eCB intF (aCons (eCB absF (aCons (eVar 2) aNil)) aNil)) (eOp powF (eOp powF (eC (.int 10)) (eC (.int 56))) (eC (.int 6)))))
    (cSeq (cSet 4 (eOp addF (eOp addF (eOp addF (eOp mulX (eOp modI (eCB intF (aCons (eVar 3) aNil)) (eC (.int 2305843009213693723))) (eC (.int 79))) (eOp mulX (eC (.int 1009)) (eVar 1))) (eOp mulX (eC (.int 53)) (eCB intF (aCons (eOp ltI (eVar 2) (eC (.int 0))) aNil)))) (eC (.int 37))))
    (cRet (eNew (aCons (eCB max2F (aCons (eC (.int 0)) (aCons (eOp subI (eVar 3) (eOp powF (eC (.int 10)) (eC (.int 16)))) aNil))) (aCons (eVar 4) (aCons (eC (.int 0)) aNil))))))))
def D_u_law_bag (a : Ads) : List SV → M SV := fnD false 5 (B_u_law_bag a)
def B_u_law_pick (a : Ads) : ST' :=
  (cSeq (cIf (eTst (eOp gtI (eOp ixF (eVar 0) (eC (.int 0))) (eC (.int 0)))) (cSeq (cSet 2 (eOp modI (eCB intF (aCons (eOp ixF (eVar 0) (eC (.int 0))) aNil)) (eVar 1)))
    (cSeq (cSetIx (eVar 0) (eC (.int 0)) (eOp divI (eOp ixF (eVar 0) (eC (.int 0))) (eVar 1)))
    (cRet (eVar 2)))) cNil)
    (cSeq (cSetIx (eVar 0) (eC (.int 2)) (eOp addF (eOp ixF (eVar 0) (eC (.int 2))) (eC (.int 1))))
    (cSeq (cSet 3 (eOp modI (eCB intF (aCons (eOp addF (eOp ixF (eVar 0) (eC (.int 1))) (eOp mulX (eC (.int 49979693)) (eOp ixF (eVar 0) (eC (.int 2))))) aNil)) (eC (.int 2305843009213693951))))
    (cSeq (cSet 4 (eOp addF (eOp mulX (eOp modI (eCB intF (aCons (eOp addF (eOp mulX (eVar 3) (eVar 3)) (eOp mulX (eC (.int 127)) (eOp ixF (eVar 0) (eC (.int 2))))) aNil)) (eC (.int 2305843009213693921))) (eC (.int 32452847))) (eVar 3)))
    (cRet (eOp modI (eCB intF (aCons (eOp divI (eVar 4) (eC (.int 65551))) aNil)) (eVar 1)))))))
def D_u_law_pick (a : Ads) : List SV → M SV := fnD true 5 (B_u_law_pick a)
def B_u_law_turned (a : Ads) : ST' :=
  (cRet (eOp ixF (eVar 0) (eOp modI (eCB intF (aCons (eVar 1) aNil)) (eCB lenF (aCons (eVar 0) aNil)))))
def D_u_law_turned (a : Ads) : List SV → M SV := fnD true 2 (B_u_law_turned a)
def B_check_number (a : Ads) : ST' :=
  (cIf (bNot (eTst (eCall (D_is_between a) (aCons (eVar 0) (aCons (eVar 1) (aCons (eVar 2) aNil)))))) (cRaiseK a.C_InvalidNumber "given" (eVar 0)) cNil)
def D_check_number (a : Ads) : List SV → M SV := fnD true 3 (B_check_number a)
def B_check_reader (a : Ads) : ST' :=
  (cIf (bNot (eTst (eCB (isCF a.C_Reader isTs_Reader) (aCons (eVar 0) (aCons (eC (.adr a.C_Reader)) aNil))))) (cRaise a.C_InvalidReader (uV (eC (.str "this is no reader")))) cNil)
def D_check_reader (a : Ads) : List SV → M SV := fnD true 1 (B_check_reader a)
def B_check_word (a : Ads) : ST' :=
  (cSeq (cIf (bOr (bNot (eTst (eCB isiF (aCons (eVar 1) (aCons (eC (.ty "tuple")) aNil))))) (eTst (eOp gtI (eCB lenF (aCons (eVar 1) aNil)) (eC (.int 2000))))) (cRaise a.C_InvalidWord (joinN [(eStrN (Str.ofString "this is no tuple of at most ").length), (eFmtN (eC (.int 2000))), (eStrN (Str.ofString " letters").length)] 0)) cNil)
    (cIf (bNot (eTst (eCB allF (aCons (eLc (cIt (eVar 1)) [2] (gN 2) bTrue (eCall (D_is_index a) (aCons (eVar 2) (aCons (eVar 0) aNil)))) aNil)))) (cRaise a.C_InvalidWord (joinN [(eStrN (Str.ofString "the word has members that are none of ").length), (eFmtN (eVar 0)), (eStrN (Str.ofString " letters").length)] 0)) cNil))
def D_check_word (a : Ads) : List SV → M SV := fnD true 3 (B_check_word a)
def B_state_from (a : Ads) : ST' :=
  (cSeq (cFor (cIt (eVar 2)) (gN 3) (cSet 1 (eOp ixF (eOp ixF (eFld a.C_Reader "steps" (eVar 0)) (eVar 1)) (eVar 3))))
    (cRet (eVar 1)))
def D_state_from (a : Ads) : List SV → M SV := fnD true 4 (B_state_from a)
def B_after_times (a : Ads) : ST' :=
  (cSeq (cExpr (eCall (D_check_reader a) (aCons (eVar 0) aNil)))
    (cSeq (cExpr (eCall (D_check_word a) (aCons (eFld a.C_Reader "letters" (eVar 0)) (aCons (eVar 1) aNil))))
    (cSeq (cExpr (eCall (D_check_number a) (aCons (eVar 2) (aCons (eC (.int 0)) (aCons (eC (.int 999999999999999999999999999999999999999999999999999999999999)) aNil)))))
    (cSeq (cSet 3 (eNew (aCons (eC (.int 0)) aNil)))
    (cSeq (cSet 4 (eDic1 (eC (.int 0)) (eC (.int 0))))
    (cSeq (cWh 1000 (eTst (eOp leI (eCB lenF (aCons (eVar 3) aNil)) (eVar 2))) (cSeq (cSet 5 (eCall (D_state_from a) (aCons (eVar 0) (aCons (eOp ixF (eVar 3) (eNeg (eC (.int 1)))) (aCons (eVar 1) aNil)))))
    (cSeq (cIf (eTst (eOp (inF false) (eVar 5) (eVar 4))) (cSeq (cSet 6 (eOp dgF (eVar 4) (eVar 5)))
    (cRet (eOp ixF (eVar 3) (eOp addF (eVar 6) (eOp modI (eOp subI (eVar 2) (eVar 6)) (eOp subI (eCB lenF (aCons (eVar 3) aNil)) (eVar 6))))))) cNil)
    (cSeq (cPut (eVar 4) (eVar 5) (eCB lenF (aCons (eVar 3) aNil)))
    (cApp (eVar 3) (eVar 5))))))
    (cRet (eOp ixF (eVar 3) (eVar 2)))))))))
def D_after_times (a : Ads) : List SV → M SV := fnD true 7 (B_after_times a)
def B_first_words (a : Ads) : ST' :=
  (cSeq (cSet 1 (eDic1 (eC (.int 0)) (eTup aNil)))
    (cSeq (cSet 2 (eLst (aCons (eC (.int 0)) aNil)))
    (cSeq (cFor (cRng1 (eFld a.C_Reader "states" (eVar 0))) (gN 3) (cSeq (cSet 4 (eNew aNil))
    (cSeq (cFor (cIt (eVar 2)) (gN 5) (cFor (cEnum (eOp ixF (eFld a.C_Reader "steps" (eVar 0)) (eVar 5))) (gT 2 (gsC (gN 6) (gsC (gN 7) gsN))) (cIf (eTst (eOp (inF true) (eVar 7) (eVar 1))) (cSeq (cPut (eVar 1) (eVar 7) (eOp addF (eOp dgF (eVar 1) (eVar 5)) (eTup (aCons (eVar 6) aNil))))
    (cApp (eVar 4) (eVar 7))) cNil)))
    (cSet 2 (eVar 4)))))
    (cRet (eVar 1)))))
def D_first_words (a : Ads) : List SV → M SV := fnD true 8 (B_first_words a)
def B_first_word (a : Ads) : ST' :=
  (cSeq (cExpr (eCall (D_check_reader a) (aCons (eVar 0) aNil)))
    (cSeq (cSet 1 (eDc (cIt (eFld a.C_Reader "accepting" (eVar 0))) [2] (gN 2) bTrue (eVar 2) (eC (.bl true))))
    (cSeq (cFor (cItems (eCall (D_first_words a) (aCons (eVar 0) aNil))) (gT 2 (gsC (gN 2) (gsC (gN 3) gsN))) (cIf (eTst (eOp (inF false) (eVar 2) (eVar 1))) (cRet (eVar 3)) cNil))
    (cRet (eC .non)))))
def D_first_word (a : Ads) : List SV → M SV := fnD true 4 (B_first_word a)
def B_met (a : Ads) : ST' :=
  (cSeq (cExpr (eCall (D_check_reader a) (aCons (eVar 0) aNil)))
    (cRet (eCB tupleF (aCons (eCB sortedDF (aCons (eCall (D_first_words a) (aCons (eVar 0) aNil)) aNil)) aNil))))
def D_met (a : Ads) : List SV → M SV := fnD true 1 (B_met a)
def B_state_after (a : Ads) : ST' :=
  (cSeq (cExpr (eCall (D_check_reader a) (aCons (eVar 0) aNil)))
    (cSeq (cExpr (eCall (D_check_word a) (aCons (eFld a.C_Reader "letters" (eVar 0)) (aCons (eVar 1) aNil))))
    (cRet (eCall (D_state_from a) (aCons (eVar 0) (aCons (eC (.int 0)) (aCons (eVar 1) aNil)))))))
def D_state_after (a : Ads) : List SV → M SV := fnD true 2 (B_state_after a)
def B_takes (a : Ads) : ST' :=
  (cRet (eOp (inSeqF false) (eCall (D_state_after a) (aCons (eVar 0) (aCons (eVar 1) aNil))) (eFld a.C_Reader "accepting" (eVar 0))))
def D_takes (a : Ads) : List SV → M SV := fnD true 2 (B_takes a)
def B_u_counts (a : Ads) : ST' :=
  (cSeq (cSet 2 (eDc (cIt (eFld a.C_Reader "accepting" (eVar 0))) [6] (gN 6) bTrue (eVar 6) (eC (.bl true))))
    (cSeq (cSet 3 (eNew (aCons (eLc (cRng1 (eFld a.C_Reader "states" (eVar 0))) [6] (gN 6) bTrue (eIf (eTst (eOp (inF false) (eVar 6) (eVar 2))) (eC (.int 1)) (eC (.int 0)))) aNil)))
    (cSeq (cFor (cRng1 (eVar 1)) (gN 4) (cSeq (cSet 5 (eOp ixF (eVar 3) (eNeg (eC (.int 1)))))
    (cApp (eVar 3) (eLc (cIt (eFld a.C_Reader "steps" (eVar 0))) [7] (gN 7) bTrue (eCB sumF (aCons (eLc (cIt (eVar 7)) [8] (gN 8) bTrue (eOp ixF (eVar 5) (eVar 8))) aNil))))))
    (cRet (eVar 3)))))
def D_u_counts (a : Ads) : List SV → M SV := fnD true 9 (B_u_counts a)
def B_word_count (a : Ads) : ST' :=
  (cSeq (cExpr (eCall (D_check_reader a) (aCons (eVar 0) aNil)))
    (cSeq (cExpr (eCall (D_check_number a) (aCons (eVar 1) (aCons (eC (.int 0)) (aCons (eC (.int 99)) aNil)))))
    (cRet (eOp ixF (eOp ixF (eCall (D_u_counts a) (aCons (eVar 0) (aCons (eVar 1) aNil))) (eVar 1)) (eC (.int 0))))))
def D_word_count (a : Ads) : List SV → M SV := fnD true 2 (B_word_count a)
def B_words (a : Ads) : ST' :=
  (cSeq (cExpr (eCall (D_check_reader a) (aCons (eVar 0) aNil)))
    (cSeq (cExpr (eCall (D_check_number a) (aCons (eVar 1) (aCons (eC (.int 0)) (aCons (eC (.int 99)) aNil)))))
    (cSeq (cSet 2 (eCall (D_u_counts a) (aCons (eVar 0) (aCons (eVar 1) aNil))))
    (cSeq (cIf (eTst (eOp gtI (eOp ixF (eOp ixF (eVar 2) (eVar 1)) (eC (.int 0))) (eC (.int 2000)))) (cRaiseK a.C_TooMany "limit" (eC (.int 2000))) cNil)
    (cSeq (cSet 3 (eIf (eTst (eOp gtI (eOp ixF (eOp ixF (eVar 2) (eVar 1)) (eC (.int 0))) (eC (.int 0)))) (eLst (aCons (eTup (aCons (eTup aNil) (aCons (eC (.int 0)) aNil))) aNil)) (eLst aNil)))
    (cSeq (cFor (cRngD (eOp subI (eVar 1) (eC (.int 1))) (eNeg (eC (.int 1))) (eNeg (eC (.int 1)))) (gN 4) (cSeq (cSet 5 (eLc2 (cIt (eVar 3)) [6, 7, 8, 9] (gT 2 (gsC (gN 6) (gsC (gN 7) gsN))) bTrue (cEnum (eOp ixF (eFld a.C_Reader "steps" (eVar 0)) (eVar 7))) [8, 9] (gT 2 (gsC (gN 8) (gsC (gN 9) gsN))) bTrue (eTup (aCons (eOp addF (eVar 6) (eTup (aCons (eVar 8) aNil))) (aCons (eVar 9) aNil)))))
    (cSet 3 (eLc (cIt (eVar 5)) [6, 9] (gT 2 (gsC (gN 6) (gsC (gN 9) gsN))) (eTst (eOp gtI (eOp ixF (eOp ixF (eVar 2) (eVar 4)) (eVar 9)) (eC (.int 0)))) (eTup (aCons (eVar 6) (aCons (eVar 9) aNil)))))))
    (cRet (eCB tupleF (aCons (eLc (cIt (eVar 3)) [6, 10] (gT 2 (gsC (gN 6) (gsC (gN 10) gsN))) bTrue (eVar 6)) aNil)))))))))
def D_words (a : Ads) : List SV → M SV := fnD true 11 (B_words a)
def B_u_law_right (a : Ads) : ST' :=
  (cSeq (cAsg (gT 2 (gsC (gN 1) (gsC (gN 2) gsN))) (eTup (aCons (eMake true a.C_Reader (D_m_Reader_init a) (aCons (eC (.int 2)) (aCons (eTup (aCons (eTup (aCons (eC (.int 0)) (aCons (eC (.int 1)) aNil))) (aCons (eTup (aCons (eC (.int 1)) (aCons (eC (.int 0)) aNil))) aNil))) (aCons (eTup (aCons (eC (.int 0)) aNil)) aNil)))) (aCons (eMake true a.C_Reader (D_m_Reader_init a) (aCons (eC (.int 7)) (aCons (eTup (aCons (eOp mulX (eTup (aCons (eC (.int 0)) aNil)) (eC (.int 7))) aNil)) (aCons (eTup (aCons (eC (.int 0)) aNil)) aNil)))) aNil))))
    (cSeq (cSet 3 (eCall (D_u_law_turned a) (aCons (eLst (aCons (eC .non) (aCons (eC (.int 0)) (aCons (eTup aNil) (aCons (eTup (aCons (eC (.int 2)) (aCons (eTup (aCons (eTup (aCons (eC (.int 0)) (aCons (eC (.int 1)) aNil))) (aCons (eTup (aCons (eC (.int 1)) (aCons (eC (.int 0)) aNil))) aNil))) (aCons (eTup (aCons (eC (.int 0)) aNil)) aNil)))) (aCons (eC (.str "reader")) (aCons (eDic0 false) (aCons (eLst (aCons (eVar 1) aNil)) (aCons (eC (.bl true)) aNil))))))))) (aCons (eVar 0) aNil))))
    (cSeq (cSet 4 (eLst (aCons (eC .non) (aCons (eC (.int 5)) (aCons (eLst (aCons (eC (.int 0)) (aCons (eC (.int 1)) aNil))) (aCons (eTup (aCons (eC (.int 2)) aNil)) (aCons (eTup (aCons (eNeg (eC (.int 1))) aNil)) (aCons (eTup (aCons (eC (.bl true)) aNil)) (aCons (eTup (aCons (eC (.str "0")) aNil)) (aCons (eTup (aCons (eC (.int 0)) (aCons (eC .non) aNil))) (aCons (eC (.str "01")) (aCons (eDic0 false) (aCons (eOp mulX (eTup (aCons (eC (.int 0)) aNil)) (eC (.int 2001))) (aCons (eTup (aCons (eTup (aCons (eC (.int 0)) aNil)) aNil)) (aCons (eTup (aCons (eOp powF (eC (.int 10)) (eC (.int 30))) aNil)) aNil)))))))))))))))
    (cSeq (cSet 4 (eCall (D_u_law_turned a) (aCons (eVar 4) (aCons (eVar 0) aNil))))
    (cSeq (cSet 5 (eCall (D_u_law_turned a) (aCons (eLst (aCons (eC .non) (aCons (eNeg (eC (.int 1))) (aCons (eC (.int 100)) (aCons (eC (.bl true)) (aCons (eC (.str "1")) (aCons (eTup (aCons (eC (.int 1)) aNil)) (aCons (eOp powF (eC (.int 10)) (eC (.int 30))) (aCons (eLst aNil) aNil))))))))) (aCons (eVar 0) aNil))))
    (cSeq (cSet 6 (eCall (D_u_law_turned a) (aCons (eLst (aCons (eC .non) (aCons (eNeg (eC (.int 1))) (aCons (eC (.bl true)) (aCons (eC (.str "1")) (aCons (eTup (aCons (eC (.int 1)) aNil)) (aCons (eOp powF (eC (.int 10)) (eC (.int 60))) (aCons (eDic0 false) aNil)))))))) (aCons (eVar 0) aNil))))
    (cSeq (cPar 7 8 (aCons (eNew aNil) (aCons (eLst aNil) aNil)))
    (cSeq (cFor (cIt (eTup (aCons (eC (.adr a.f_state_after)) (aCons (eC (.adr a.f_takes)) aNil)))) (gN 9) (cSeq (cApp (eVar 7) (eLamCall 2 true (BL_u_law_heard a) (eCallV 9 [(a.f_state_after, 2, (D_state_after a)), (a.f_takes, 2, (D_takes a))] (aCons (eVar 3) (aCons (eVar 4) aNil)))))
    (cSeq (cApp (eVar 7) (eLamCall 2 true (BL_u_law_heard a) (eCallV 9 [(a.f_state_after, 2, (D_state_after a)), (a.f_takes, 2, (D_takes a))] (aCons (eVar 1) (aCons (eVar 4) aNil)))))
    (cSeq (cApp (eVar 7) (eLamCall 2 true (BL_u_law_heard a) (eCallV 9 [(a.f_state_after, 2, (D_state_after a)), (a.f_takes, 2, (D_takes a))] (aCons (eVar 1) (aCons (eOp mulX (eTup (aCons (eC (.int 0)) (aCons (eC (.int 1)) aNil))) (eC (.int 1000))) aNil)))))
    (cSet 8 (eOp addF (eVar 8) (eLst (aCons (eC (.str "reader")) (aCons (eC (.str "word")) (aCons (eC (.str "fine")) aNil))))))))))
    (cSeq (cFor (cIt (eTup (aCons (eC (.adr a.f_met)) (aCons (eC (.adr a.f_first_word)) aNil)))) (gN 9) (cSeq (cApp (eVar 7) (eLamCall 2 true (BL_u_law_heard a) (eCallV 9 [(a.f_met, 1, (D_met a)), (a.f_first_word, 1, (D_first_word a))] (aCons (eVar 3) aNil))))
    (cSeq (cApp (eVar 7) (eLamCall 2 true (BL_u_law_heard a) (eCallV 9 [(a.f_met, 1, (D_met a)), (a.f_first_word, 1, (D_first_word a))] (aCons (eVar 2) aNil))))
    (cSet 8 (eOp addF (eVar 8) (eLst (aCons (eC (.str "reader")) (aCons (eC (.str "fine")) aNil))))))))
    (cSeq (cFor (cIt (eTup (aCons (eC (.adr a.f_word_count)) (aCons (eC (.adr a.f_words)) aNil)))) (gN 9) (cSeq (cApp (eVar 7) (eLamCall 2 true (BL_u_law_heard a) (eCallV 9 [(a.f_word_count, 2, (D_word_count a)), (a.f_words, 2, (D_words a))] (aCons (eVar 3) (aCons (eVar 5) aNil)))))
    (cSeq (cApp (eVar 7) (eLamCall 2 true (BL_u_law_heard a) (eCallV 9 [(a.f_word_count, 2, (D_word_count a)), (a.f_words, 2, (D_words a))] (aCons (eVar 2) (aCons (eVar 5) aNil)))))
    (cSet 8 (eOp addF (eVar 8) (eLst (aCons (eC (.str "reader")) (aCons (eOp addF (eC (.str "number ")) (eCB reprF (aCons (eVar 5) aNil))) aNil))))))))
    (cSeq (cApp (eVar 7) (eLamCall 2 true (BL_u_law_heard a) (eCall (D_word_count a) (aCons (eVar 2) (aCons (eC (.int 99)) aNil)))))
    (cSeq (cApp (eVar 7) (eLamCall 2 true (BL_u_law_heard a) (eCall (D_words a) (aCons (eVar 2) (aCons (eC (.int 3)) aNil)))))
    (cSeq (cApp (eVar 7) (eLamCall 2 true (BL_u_law_heard a) (eCall (D_words a) (aCons (eVar 2) (aCons (eC (.int 4)) aNil)))))
    (cSeq (cSet 8 (eOp addF (eVar 8) (eLst (aCons (eC (.str "fine")) (aCons (eC (.str "fine")) (aCons (eC (.str "many 2000")) aNil))))))
    (cSeq (cApp (eVar 7) (eLamCall 2 true (BL_u_law_heard a) (eCall (D_after_times a) (aCons (eVar 3) (aCons (eVar 4) (aCons (eVar 6) aNil))))))
    (cSeq (cApp (eVar 7) (eLamCall 2 true (BL_u_law_heard a) (eCall (D_after_times a) (aCons (eVar 1) (aCons (eVar 4) (aCons (eVar 6) aNil))))))
    (cSeq (cApp (eVar 7) (eLamCall 2 true (BL_u_law_heard a) (eCall (D_after_times a) (aCons (eVar 1) (aCons (eTup (aCons (eC (.int 0)) (aCons (eC (.int 1)) aNil))) (aCons (eVar 6) aNil))))))
    (cSeq (cApp (eVar 7) (eLamCall 2 true (BL_u_law_heard a) (eCall (D_after_times a) (aCons (eVar 1) (aCons (eOp mulX (eTup (aCons (eC (.int 1)) aNil)) (eC (.int 2000))) (aCons (eOp subI (eOp powF (eC (.int 10)) (eC (.int 60))) (eC (.int 1))) aNil))))))
    (cRet (eOp (eqF false) (eVar 7) (eOp addF (eVar 8) (eLst (aCons (eC (.str "reader")) (aCons (eC (.str "word")) (aCons (eOp addF (eC (.str "number ")) (eCB reprF (aCons (eVar 6) aNil))) (aCons (eC (.str "fine")) aNil))))))))))))))))))))))))))
def D_u_law_right (a : Ads) : List SV → M SV := fnD true 10 (B_u_law_right a)
def B_law (a : Ads) : ST' :=
  (cSeq (cFor (cRng1 (eCB max2F (aCons (eC (.int 1)) (aCons (eCB min2F (aCons (eC (.int 3)) (aCons (eCB lenF (aCons (eVar 0) aNil)) aNil))) aNil)))) (gN 1) (cSeq (cSet 2 (eGc (eCall (D_u_law_pick a) (aCons (eCall (D_u_law_bag a) (aCons (eVar 0) (aCons (eVar 1) aNil))) (aCons (eC (.int 1000)) aNil)))))
    (cFor (cRng1 (eC (.int 13))) (gN 3) (cIf (bNot (eTst (eCall (D_u_law_right a) (aCons (eOp addF (eVar 2) (eVar 3)) aNil)))) (cRet (eC (.bl false))) cNil))))
    (cSeq (cSet 4 (eMake true a.C_Reader (D_m_Reader_init a) (aCons (eC (.int 2)) (aCons (eTup (aCons (eTup (aCons (eC (.int 0)) (aCons (eC (.int 1)) aNil))) (aCons (eTup (aCons (eC (.int 1)) (aCons (eC (.int 0)) aNil))) aNil))) (aCons (eTup (aCons (eC (.int 0)) aNil)) aNil)))))
    (cRet (eOp (eqF false) (eLst (aCons (eCall (D_after_times a) (aCons (eVar 4) (aCons (eTup (aCons (eC (.int 1)) aNil)) (aCons (eOp subI (eOp powF (eC (.int 10)) (eC (.int 60))) (eC (.int 1))) aNil)))) (aCons (eCall (D_word_count a) (aCons (eVar 4) (aCons (eC (.int 0)) aNil))) (aCons (eCall (D_words a) (aCons (eVar 4) (aCons (eC (.int 1)) aNil))) aNil)))) (eLst (aCons (eC (.int 1)) (aCons (eC (.int 1)) (aCons (eTup (aCons (eTup (aCons (eC (.int 0)) aNil)) aNil)) aNil))))))))
def D_law (a : Ads) : List SV → M SV := fnD true 5 (B_law a)
def a0 : Ads := { none_ := (), C_InvalidReader := 37, C_InvalidWord := 49, C_InvalidNumber := 68, C_TooMany := 88, C_Reader := 172, f_first_word := 228, f_met := 216, f_state_after := 195, f_takes := 209, f_word_count := 240, f_words := 245 }
end My

set_option Elab.async false
set_option linter.all false
set_option maxRecDepth 100000
set_option maxHeartbeats 4000000
namespace My
open PySem L2 Sim
/-! ### the top -/
structure Top [Tabl] (K : PySem.W.Frag) (mg : Str → Option Value) (base : Heap) (a : Ads) where
  cc_u_law_right : Addr
  tt_u_law_right : Addr
  tb_u_law_right : LamX.TabB base mg cc_u_law_right tt_u_law_right
  tm_u_law_right : (tt_u_law_right, nm_u_law_right) ∈ Tabl.T
  tu_u_law_right : ∀ p ∈ Tabl.T, p.1 = tt_u_law_right → p.2 = nm_u_law_right
  p_is_integer : Addr
  d_is_integer : FuncData
  F_is_integer : Fun K "is_integer" "is_integer" s_is_integer p_is_integer d_is_integer
  b_is_integer : Binds K d_is_integer ["value"] []
  g_is_integer : mg "is_integer" = some (.ref p_is_integer)
  p_is_between : Addr
  d_is_between : FuncData
  F_is_between : Fun K "is_between" "is_between" s_is_between p_is_between d_is_between
  b_is_between : Binds K d_is_between ["value", "low", "high"] []
  g_is_between : mg "is_between" = some (.ref p_is_between)
  p_is_index : Addr
  d_is_index : FuncData
  F_is_index : Fun K "is_index" "is_index" s_is_index p_is_index d_is_index
  b_is_index : Binds K d_is_index ["value", "many"] []
  g_is_index : mg "is_index" = some (.ref p_is_index)
  p_u_is_step : Addr
  d_u_is_step : FuncData
  F_u_is_step : Fun K "_is_step" "_is_step" s_u_is_step p_u_is_step d_u_is_step
  b_u_is_step : Binds K d_u_is_step ["letters", "states", "value"] []
  g_u_is_step : mg "_is_step" = some (.ref p_u_is_step)
  p_is_ascending : Addr
  d_is_ascending : FuncData
  F_is_ascending : Fun K "is_ascending" "is_ascending" s_is_ascending p_is_ascending d_is_ascending
  b_is_ascending : Binds K d_is_ascending ["values"] []
  g_is_ascending : mg "is_ascending" = some (.ref p_is_ascending)
  p_is_index_tuple : Addr
  d_is_index_tuple : FuncData
  F_is_index_tuple : Fun K "is_index_tuple" "is_index_tuple" s_is_index_tuple p_is_index_tuple d_is_index_tuple
  b_is_index_tuple : Binds K d_is_index_tuple ["value", "many"] []
  g_is_index_tuple : mg "is_index_tuple" = some (.ref p_is_index_tuple)
  p_reader_fault : Addr
  d_reader_fault : FuncData
  F_reader_fault : Fun K "reader_fault" "reader_fault" s_reader_fault p_reader_fault d_reader_fault
  b_reader_fault : Binds K d_reader_fault ["letters", "steps", "accepting"] []
  g_reader_fault : mg "reader_fault" = some (.ref p_reader_fault)
  p_m_Reader_init : Addr
  d_m_Reader_init : FuncData
  F_m_Reader_init : Fun K "__init__" "Reader.__init__" s_m_Reader_init p_m_Reader_init d_m_Reader_init
  b_m_Reader_init : Binds K d_m_Reader_init ["self", "letters", "steps", "accepting"] []
  p_u_law_bag : Addr
  d_u_law_bag : FuncData
  F_u_law_bag : Fun K "_law_bag" "_law_bag" s_u_law_bag p_u_law_bag d_u_law_bag
  b_u_law_bag : Binds K d_u_law_bag ["script", "spot"] []
  g_u_law_bag : mg "_law_bag" = some (.ref p_u_law_bag)
  p_u_law_pick : Addr
  d_u_law_pick : FuncData
  F_u_law_pick : Fun K "_law_pick" "_law_pick" s_u_law_pick p_u_law_pick d_u_law_pick
  b_u_law_pick : Binds K d_u_law_pick ["bag", "total"] []
  g_u_law_pick : mg "_law_pick" = some (.ref p_u_law_pick)
  p_u_law_turned : Addr
  d_u_law_turned : FuncData
  F_u_law_turned : Fun K "_law_turned" "_law_turned" s_u_law_turned p_u_law_turned d_u_law_turned
  b_u_law_turned : Binds K d_u_law_turned ["items", "turn"] []
  g_u_law_turned : mg "_law_turned" = some (.ref p_u_law_turned)
  p_check_number : Addr
  d_check_number : FuncData
  F_check_number : Fun K "check_number" "check_number" s_check_number p_check_number d_check_number
  b_check_number : Binds K d_check_number ["value", "low", "high"] []
  g_check_number : mg "check_number" = some (.ref p_check_number)
  p_check_reader : Addr
  d_check_reader : FuncData
  F_check_reader : Fun K "check_reader" "check_reader" s_check_reader p_check_reader d_check_reader
  b_check_reader : Binds K d_check_reader ["value"] []
  g_check_reader : mg "check_reader" = some (.ref p_check_reader)
  p_check_word : Addr
  d_check_word : FuncData
  F_check_word : Fun K "check_word" "check_word" s_check_word p_check_word d_check_word
  b_check_word : Binds K d_check_word ["letters", "value"] []
  g_check_word : mg "check_word" = some (.ref p_check_word)
  p_state_from : Addr
  d_state_from : FuncData
  F_state_from : Fun K "state_from" "state_from" s_state_from p_state_from d_state_from
  b_state_from : Binds K d_state_from ["reader", "state", "word"] []
  g_state_from : mg "state_from" = some (.ref p_state_from)
  p_after_times : Addr
  d_after_times : FuncData
  F_after_times : Fun K "after_times" "after_times" s_after_times p_after_times d_after_times
  b_after_times : Binds K d_after_times ["reader", "word", "times"] []
  g_after_times : mg "after_times" = some (.ref p_after_times)
  p_first_words : Addr
  d_first_words : FuncData
  F_first_words : Fun K "first_words" "first_words" s_first_words p_first_words d_first_words
  b_first_words : Binds K d_first_words ["reader"] []
  g_first_words : mg "first_words" = some (.ref p_first_words)
  d_first_word : FuncData
  F_first_word : Fun K "first_word" "first_word" s_first_word a.f_first_word d_first_word
  b_first_word : Binds K d_first_word ["reader"] []
  g_first_word : mg "first_word" = some (.ref a.f_first_word)
  d_met : FuncData
  F_met : Fun K "met" "met" s_met a.f_met d_met
  b_met : Binds K d_met ["reader"] []
  g_met : mg "met" = some (.ref a.f_met)
  d_state_after : FuncData
  F_state_after : Fun K "state_after" "state_after" s_state_after a.f_state_after d_state_after
  b_state_after : Binds K d_state_after ["reader", "word"] []
  g_state_after : mg "state_after" = some (.ref a.f_state_after)
  d_takes : FuncData
  F_takes : Fun K "takes" "takes" s_takes a.f_takes d_takes
  b_takes : Binds K d_takes ["reader", "word"] []
  g_takes : mg "takes" = some (.ref a.f_takes)
  p_u_counts : Addr
  d_u_counts : FuncData
  F_u_counts : Fun K "_counts" "_counts" s_u_counts p_u_counts d_u_counts
  b_u_counts : Binds K d_u_counts ["reader", "length"] []
  g_u_counts : mg "_counts" = some (.ref p_u_counts)
  d_word_count : FuncData
  F_word_count : Fun K "word_count" "word_count" s_word_count a.f_word_count d_word_count
  b_word_count : Binds K d_word_count ["reader", "length"] []
  g_word_count : mg "word_count" = some (.ref a.f_word_count)
  d_words : FuncData
  F_words : Fun K "words" "words" s_words a.f_words d_words
  b_words : Binds K d_words ["reader", "length"] []
  g_words : mg "words" = some (.ref a.f_words)
  p_u_law_right : Addr
  d_u_law_right : FuncData
  F_u_law_right : Fun K "_law_right" "_law_right" s_u_law_right p_u_law_right d_u_law_right
  cd_u_law_right : d_u_law_right.code = .ref cc_u_law_right
  b_u_law_right : Binds K d_u_law_right ["turn"] []
  g_u_law_right : mg "_law_right" = some (.ref p_u_law_right)
  p_law : Addr
  d_law : FuncData
  F_law : Fun K "law" "law" s_law p_law d_law
  b_law : Binds K d_law ["script"] []
  g_law : mg "law" = some (.ref p_law)
  p_u_law_heard : Addr
  d_u_law_heard : FuncData
  F_u_law_heard : Fun K "_law_heard" "_law_heard" s_u_law_heard p_u_law_heard d_u_law_heard
  b_u_law_heard : Binds K d_u_law_heard ["call"] []
  g_u_law_heard : mg "_law_heard" = some (.ref p_u_law_heard)
  g_InvalidReader : mg "InvalidReader" = some (.ref a.C_InvalidReader)
  g_InvalidWord : mg "InvalidWord" = some (.ref a.C_InvalidWord)
  g_InvalidNumber : mg "InvalidNumber" = some (.ref a.C_InvalidNumber)
  g_TooMany : mg "TooMany" = some (.ref a.C_TooMany)
  g_Reader : mg "Reader" = some (.ref a.C_Reader)
  cl_Reader : Cls K a.C_Reader
  mk_Reader : Mk K a.C_Reader p_m_Reader_init
  is_Reader : IsC K a.C_Reader
  ists_Reader : ∀ t ∈ isTs_Reader, PySem.W.kitOne K (.type t) (.ref a.C_Reader) = some false
  rc_InvalidReader : RaiseC K a.C_InvalidReader
  rc_InvalidWord : RaiseC K a.C_InvalidWord
  ex_InvalidNumber : PySem.W.exmOne K (.ref a.C_InvalidNumber) (.ref a.C_InvalidNumber) = some true
  ex_InvalidReader : PySem.W.exmOne K (.ref a.C_InvalidReader) (.ref a.C_InvalidReader) = some true
  ex_InvalidWord : PySem.W.exmOne K (.ref a.C_InvalidWord) (.ref a.C_InvalidWord) = some true
  ex_TooMany : PySem.W.exmOne K (.ref a.C_TooMany) (.ref a.C_TooMany) = some true
  na_Reader_accepting : NoAttr K a.C_Reader "accepting"
  na_Reader_letters : NoAttr K a.C_Reader "letters"
  na_Reader_states : NoAttr K a.C_Reader "states"
  na_Reader_steps : NoAttr K a.C_Reader "steps"
  kp_InvalidNumber : Addr
  kd_InvalidNumber : FuncData
  kF_InvalidNumber : Fun K "__init__" "InvalidNumber.__init__" s_m_InvalidNumber_init kp_InvalidNumber kd_InvalidNumber
  kb_InvalidNumber : Binds K kd_InvalidNumber ["self", "given"] []
  kc_InvalidNumber : KeepC K a.C_InvalidNumber kp_InvalidNumber "given"
  kp_TooMany : Addr
  kd_TooMany : FuncData
  kF_TooMany : Fun K "__init__" "TooMany.__init__" s_m_TooMany_init kp_TooMany kd_TooMany
  kb_TooMany : Binds K kd_TooMany ["self", "limit"] []
  kc_TooMany : KeepC K a.C_TooMany kp_TooMany "limit"
  xf_InvalidNumber : L2.XfC K a.C_InvalidNumber
  xf_TooMany : L2.XfC K a.C_TooMany
  xa_InvalidNumber_given : PySem.W.findIn K (.ref a.C_InvalidNumber) "given" = some none
  xa_TooMany_limit : PySem.W.findIn K (.ref a.C_TooMany) "limit" = some none
  xx_InvalidNumber_InvalidReader : PySem.W.exmOne K (.ref a.C_InvalidNumber) (.ref a.C_InvalidReader) = some false
  xx_InvalidNumber_InvalidWord : PySem.W.exmOne K (.ref a.C_InvalidNumber) (.ref a.C_InvalidWord) = some false
  xx_InvalidNumber_TooMany : PySem.W.exmOne K (.ref a.C_InvalidNumber) (.ref a.C_TooMany) = some false
  xx_InvalidReader_InvalidNumber : PySem.W.exmOne K (.ref a.C_InvalidReader) (.ref a.C_InvalidNumber) = some false
  xx_InvalidReader_InvalidWord : PySem.W.exmOne K (.ref a.C_InvalidReader) (.ref a.C_InvalidWord) = some false
  xx_InvalidReader_TooMany : PySem.W.exmOne K (.ref a.C_InvalidReader) (.ref a.C_TooMany) = some false
  xx_InvalidWord_InvalidNumber : PySem.W.exmOne K (.ref a.C_InvalidWord) (.ref a.C_InvalidNumber) = some false
  xx_InvalidWord_InvalidReader : PySem.W.exmOne K (.ref a.C_InvalidWord) (.ref a.C_InvalidReader) = some false
  xx_InvalidWord_TooMany : PySem.W.exmOne K (.ref a.C_InvalidWord) (.ref a.C_TooMany) = some false
  xx_TooMany_InvalidNumber : PySem.W.exmOne K (.ref a.C_TooMany) (.ref a.C_InvalidNumber) = some false
  xx_TooMany_InvalidReader : PySem.W.exmOne K (.ref a.C_TooMany) (.ref a.C_InvalidReader) = some false
  xx_TooMany_InvalidWord : PySem.W.exmOne K (.ref a.C_TooMany) (.ref a.C_InvalidWord) = some false
  t_MOST_LENGTH : Tok
  c_MOST_LENGTH : mg "MOST_LENGTH" = some (.int 99 t_MOST_LENGTH)
  t_MOST_LETTERS : Tok
  c_MOST_LETTERS : mg "MOST_LETTERS" = some (.int 64 t_MOST_LETTERS)
  t_MOST_LISTED : Tok
  c_MOST_LISTED : mg "MOST_LISTED" = some (.int 2000 t_MOST_LISTED)
  t_MOST_STATES : Tok
  c_MOST_STATES : mg "MOST_STATES" = some (.int 512 t_MOST_STATES)
  t_MOST_TIMES : Tok
  c_MOST_TIMES : mg "MOST_TIMES" = some (.int 999999999999999999999999999999999999999999999999999999999999 t_MOST_TIMES)
  t_MOST_WORD : Tok
  c_MOST_WORD : mg "MOST_WORD" = some (.int 2000 t_MOST_WORD)
  n_abs : mg "abs" = none
  n_all : mg "all" = none
  n_bool : mg "bool" = none
  n_enumerate : mg "enumerate" = none
  n_int : mg "int" = none
  n_isinstance : mg "isinstance" = none
  n_len : mg "len" = none
  n_max : mg "max" = none
  n_min : mg "min" = none
  n_range : mg "range" = none
  n_repr : mg "repr" = none
  n_sorted : mg "sorted" = none
  n_sum : mg "sum" = none
  n_tuple : mg "tuple" = none
  n_zip : mg "zip" = none
section
variable [Tabl] {P : Program} {w : World} {K : PySem.W.Frag} {mg : Str → Option Value} {base : Heap} {a : Ads}
theorem sc_m_InvalidNumber_init : FnScope ["self", "given"] ["self", "given"] (defScope s_m_InvalidNumber_init) := ⟨rfl, rfl, rfl, by decide +kernel, rfl, by decide +kernel, by decide +kernel⟩
theorem ok_k_InvalidNumber (T : Top K mg base a) : Sim.FnOk P w K mg base (L2.CX P w) 1 T.kp_InvalidNumber T.kd_InvalidNumber ["self", "given"] (spKeep a.C_InvalidNumber "given") := fn_keep T.kc_InvalidNumber T.kF_InvalidNumber sc_m_InvalidNumber_init rfl (.inl rfl) (.inl rfl)
theorem sc_m_TooMany_init : FnScope ["self", "limit"] ["self", "limit"] (defScope s_m_TooMany_init) := ⟨rfl, rfl, rfl, by decide +kernel, rfl, by decide +kernel, by decide +kernel⟩
theorem ok_k_TooMany (T : Top K mg base a) : Sim.FnOk P w K mg base (L2.CX P w) 1 T.kp_TooMany T.kd_TooMany ["self", "limit"] (spKeep a.C_TooMany "limit") := fn_keep T.kc_TooMany T.kF_TooMany sc_m_TooMany_init rfl (.inl rfl) (.inl rfl)
theorem sc_u_law_heard : FnScope ["call", "error"] ["call"] (defScope s_u_law_heard) := ⟨rfl, rfl, rfl, by decide +kernel, rfl, by decide +kernel, by decide +kernel⟩
theorem lamG_u_law_heard (T : Top K mg base a) {A : Around} {stk : List PySem.Env} {j : Nat} (hrm : Sim.Room (j + 1) A) (cdg : Value) : LamG P w K mg base A stk "_law_heard" s_u_law_heard T.p_u_law_heard cdg ["call", "error"] "call" (BL_u_law_heard a) :=
  lam_try rfl (fun _ => rfl) (by decide) hrm (fun _ _ => rfl) (fun s H hr => (.plain T.g_InvalidReader (catch_of T.ex_InvalidReader (by intro x hx; simp only [List.mem_cons, List.not_mem_nil, or_false] at hx; rcases hx with rfl | rfl | rfl <;> first | exact T.xx_InvalidWord_InvalidReader | exact T.xx_InvalidNumber_InvalidReader | exact T.xx_TooMany_InvalidReader)) (fun _ _ _ _ _ _ _ => (ss_one (s_ret e_str))) (.plain T.g_InvalidWord (catch_of T.ex_InvalidWord (by intro x hx; simp only [List.mem_cons, List.not_mem_nil, or_false] at hx; rcases hx with rfl | rfl | rfl <;> first | exact T.xx_InvalidReader_InvalidWord | exact T.xx_InvalidNumber_InvalidWord | exact T.xx_TooMany_InvalidWord)) (fun _ _ _ _ _ _ _ => (ss_one (s_ret e_str))) (.named T.g_InvalidNumber (catch_of T.ex_InvalidNumber (by intro x hx; simp only [List.mem_cons, List.not_mem_nil, or_false] at hx; rcases hx with rfl | rfl | rfl <;> first | exact T.xx_InvalidReader_InvalidNumber | exact T.xx_InvalidWord_InvalidNumber | exact T.xx_TooMany_InvalidNumber)) sc_u_law_heard.nd rfl rfl (by (intro b g ns xs e h; simp only [ret_off, eTup, eOp, eCB, eIf, eTst, aCons, aNil, eC, M.bind, M.ret, eXf_set]; try rfl)) (fun b c g oe pn mc hz hf => by obtain rfl := mOf_true mc; exact (ss_one (s_ret (e_op o_add e_str (e_callB (b_repr hr.gd hr.units) T.n_repr (a_cons (e_xf T.xf_InvalidNumber T.xa_InvalidNumber_given hz hf rfl (by first | exact Or.inl rfl | exact Or.inr (Or.inl rfl) | exact Or.inr (Or.inr rfl))) a_nil)))))) (.named T.g_TooMany (catch_of T.ex_TooMany (by intro x hx; simp only [List.mem_cons, List.not_mem_nil, or_false] at hx; rcases hx with rfl | rfl | rfl <;> first | exact T.xx_InvalidReader_TooMany | exact T.xx_InvalidWord_TooMany | exact T.xx_InvalidNumber_TooMany)) sc_u_law_heard.nd rfl rfl (by (intro b g ns xs e h; simp only [ret_off, eTup, eOp, eCB, eIf, eTst, aCons, aNil, eC, M.bind, M.ret, eXf_set]; try rfl)) (fun b c g oe pn mc hz hf => by obtain rfl := mOf_true mc; exact (ss_one (s_ret (e_op o_add e_str (e_callB (b_repr hr.gd hr.units) T.n_repr (a_cons (e_xf T.xf_TooMany T.xa_TooMany_limit hz hf rfl (by first | exact Or.inl rfl | exact Or.inr (Or.inl rfl) | exact Or.inr (Or.inr rfl))) a_nil)))))) .nil))))) (fun s H hr => (ss_one (s_ret e_str)))
theorem sc_is_integer : FnScope ["value"] ["value"] (defScope s_is_integer) := ⟨rfl, rfl, rfl, by decide +kernel, rfl, by decide +kernel, by decide +kernel⟩
theorem ok_is_integer (T : Top K mg base a) : Sim.FnOk P w K mg base (L2.CX P w) 1 T.p_is_integer T.d_is_integer ["value"] (spS K 1 (D_is_integer a)) := by
  refine sim_fn true T.F_is_integer sc_is_integer fun cdv A outer s H E hcd hr tk hp => ?_
  have hu := Sim.hu_of hr
  have hu64 := hr.units
  exact (ss_one (s_ret (e_and (e_callB b_isi T.n_isinstance (a_cons (e_var 0) (a_cons (e_ty T.n_int) a_nil))) (e_one (e_not (e_callB b_isi T.n_isinstance (a_cons (e_var 0) (a_cons (e_ty T.n_bool) a_nil))))))))
theorem sc_is_between : FnScope ["value", "low", "high"] ["value", "low", "high"] (defScope s_is_between) := ⟨rfl, rfl, rfl, by decide +kernel, rfl, by decide +kernel, by decide +kernel⟩
theorem ok_is_between (T : Top K mg base a) : Sim.FnOk P w K mg base (L2.CX P w) 2 T.p_is_between T.d_is_between ["value", "low", "high"] (spS K 3 (D_is_between a)) := by
  refine sim_fn true T.F_is_between sc_is_between fun cdv A outer s H E hcd hr tk hp => ?_
  have hu := Sim.hu_of hr
  have hu64 := hr.units
  exact (ss_one (s_ret (e_and (e_call tk (ok_is_integer T) (hr.mono (by decide)) T.g_is_integer T.F_is_integer.kp T.b_is_integer (an_cons (e_var 0) an_nil)) (e_one (e_chain o_leI o_leI (e_var 1) (e_var 0) (e_var 2))))))
theorem sc_is_index : FnScope ["value", "many"] ["value", "many"] (defScope s_is_index) := ⟨rfl, rfl, rfl, by decide +kernel, rfl, by decide +kernel, by decide +kernel⟩
theorem ok_is_index (T : Top K mg base a) : Sim.FnOk P w K mg base (L2.CX P w) 3 T.p_is_index T.d_is_index ["value", "many"] (spS K 2 (D_is_index a)) := by
  refine sim_fn true T.F_is_index sc_is_index fun cdv A outer s H E hcd hr tk hp => ?_
  have hu := Sim.hu_of hr
  have hu64 := hr.units
  exact (ss_one (s_ret (e_call tk (ok_is_between T) (hr.mono (by decide)) T.g_is_between T.F_is_between.kp T.b_is_between (an_cons (e_var 0) (an_cons e_int (an_cons (e_op o_subI (e_var 1) e_int) an_nil))))))
theorem sc_u_is_step : FnScope ["letters", "states", "value", "goal"] ["letters", "states", "value"] (defScope s_u_is_step) := ⟨rfl, rfl, rfl, by decide +kernel, rfl, by decide +kernel, by decide +kernel⟩
theorem ok_u_is_step (T : Top K mg base a) : Sim.FnOk P w K mg base (L2.CX P w) 4 T.p_u_is_step T.d_u_is_step ["letters", "states", "value"] (spS K 3 (D_u_is_step a)) := by
  refine sim_fn true T.F_u_is_step sc_u_is_step fun cdv A outer s H E hcd hr tk hp => ?_
  have hu := Sim.hu_of hr
  have hu64 := hr.units
  exact (ss_cons (s_if (SW.st (w_or (t_not (t_val (e_callB b_isi T.n_isinstance (a_cons (e_var 2) (a_cons (e_ty T.n_tuple) a_nil))))) (w_or1 (t_cmp (o_ne hu64) (e_callB b_len T.n_len (a_cons (e_var 2) a_nil)) (e_var 0))))) (ss_one (s_ret e_bl)) ss_nil)
    (ss_one (s_ret (e_callB (b_all rfl) T.n_all (a_cons (e_lc [("goal", 3)] rfl sc_u_is_step.nd (i_it (e_var 2)) (L2.blkOk_by (N := ["letters", "states", "value", "goal"]) (sc := (defScope s_u_is_step)) (by decide +kernel)) (fun _ _ _ _ _ => (g_name 3 sc_u_is_step.nd)) (fun _ _ _ _ _ => t_nil) (fun _ _ _ _ _ => (e_call L2.takes0 (ok_is_index T) (hr.mono (by decide)) T.g_is_index T.F_is_index.kp T.b_is_index (an_cons (e_var 3) (an_cons (e_var 1) an_nil))))) a_nil)))))
theorem sc_is_ascending : FnScope ["values", "low", "high"] ["values"] (defScope s_is_ascending) := ⟨rfl, rfl, rfl, by decide +kernel, rfl, by decide +kernel, by decide +kernel⟩
theorem ok_is_ascending (T : Top K mg base a) : Sim.FnOk P w K mg base (L2.CX P w) 1 T.p_is_ascending T.d_is_ascending ["values"] (spS K 1 (D_is_ascending a)) := by
  refine sim_fn true T.F_is_ascending sc_is_ascending fun cdv A outer s H E hcd hr tk hp => ?_
  have hu := Sim.hu_of hr
  have hu64 := hr.units
  exact (ss_one (s_ret (e_callB (b_all rfl) T.n_all (a_cons (e_lc [("low", 1), ("high", 2)] rfl sc_is_ascending.nd (i_zipT T.n_zip (e_var 0) (e_sl (e_var 0) (o_yes e_int) o_no)) (L2.blkOk_by (N := ["values", "low", "high"]) (sc := (defScope s_is_ascending)) (by decide +kernel)) (fun _ _ _ _ _ => (g_tup rfl (g_cons (g_name 1 sc_is_ascending.nd) (g_cons (g_name 2 sc_is_ascending.nd) g_nil)))) (fun _ _ _ _ _ => t_nil) (fun _ _ _ _ _ => (e_cmp o_ltI (e_var 1) (e_var 2)))) a_nil))))
theorem sc_is_index_tuple : FnScope ["value", "many", "member"] ["value", "many"] (defScope s_is_index_tuple) := ⟨rfl, rfl, rfl, by decide +kernel, rfl, by decide +kernel, by decide +kernel⟩
theorem ok_is_index_tuple (T : Top K mg base a) : Sim.FnOk P w K mg base (L2.CX P w) 4 T.p_is_index_tuple T.d_is_index_tuple ["value", "many"] (spS K 2 (D_is_index_tuple a)) := by
  refine sim_fn true T.F_is_index_tuple sc_is_index_tuple fun cdv A outer s H E hcd hr tk hp => ?_
  have hu := Sim.hu_of hr
  have hu64 := hr.units
  exact (ss_cons (s_if (t_not (t_val (e_callB b_isi T.n_isinstance (a_cons (e_var 0) (a_cons (e_ty T.n_tuple) a_nil))))) (ss_one (s_ret e_bl)) ss_nil)
    (ss_one (s_ret (e_and (e_callB (b_all rfl) T.n_all (a_cons (e_lc [("member", 2)] rfl sc_is_index_tuple.nd (i_it (e_var 0)) (L2.blkOk_by (N := ["value", "many", "member"]) (sc := (defScope s_is_index_tuple)) (by decide +kernel)) (fun _ _ _ _ _ => (g_name 2 sc_is_index_tuple.nd)) (fun _ _ _ _ _ => t_nil) (fun _ _ _ _ _ => (e_call L2.takes0 (ok_is_index T) (hr.mono (by decide)) T.g_is_index T.F_is_index.kp T.b_is_index (an_cons (e_var 2) (an_cons (e_var 1) an_nil))))) a_nil)) (e_one (e_call tk (ok_is_ascending T) (hr.mono (by decide)) T.g_is_ascending T.F_is_ascending.kp T.b_is_ascending (an_cons (e_var 0) an_nil)))))))
theorem sc_reader_fault : FnScope ["letters", "steps", "accepting", "state", "step"] ["letters", "steps", "accepting"] (defScope s_reader_fault) := ⟨rfl, rfl, rfl, by decide +kernel, rfl, by decide +kernel, by decide +kernel⟩
theorem ok_reader_fault (T : Top K mg base a) : Sim.FnOk P w K mg base (L2.CX P w) 5 T.p_reader_fault T.d_reader_fault ["letters", "steps", "accepting"] (spS K 3 (D_reader_fault a)) := by
  refine sim_fn true T.F_reader_fault sc_reader_fault fun cdv A outer s H E hcd hr tk hp => ?_
  have hu := Sim.hu_of hr
  have hu64 := hr.units
  exact (ss_cons (s_if (t_not (t_val (e_call tk (ok_is_between T) (hr.mono (by decide)) T.g_is_between T.F_is_between.kp T.b_is_between (an_cons (e_var 0) (an_cons e_int (an_cons (e_gint T.c_MOST_LETTERS) an_nil)))))) (ss_one (s_ret (e_tup (a_cons e_str a_nil)))) ss_nil)
    (ss_cons (s_if (SW.st (w_or (t_not (t_val (e_callB b_isi T.n_isinstance (a_cons (e_var 1) (a_cons (e_ty T.n_tuple) a_nil))))) (w_or1 (t_not (t_chain o_leI o_leI e_int (e_callB b_len T.n_len (a_cons (e_var 1) a_nil)) (e_gint T.c_MOST_STATES)))))) (ss_one (s_ret (e_tup (a_cons e_str a_nil)))) ss_nil)
    (ss_cons (s_for hp rfl (i_enum T.n_enumerate (e_var 1)) (g_tup rfl (g_cons (g_name 3 sc_reader_fault.nd) (g_cons (g_name 4 sc_reader_fault.nd) g_nil))) (ss_one (s_if (t_not (t_val (e_call tk (ok_u_is_step T) (hr.mono (by decide)) T.g_u_is_step T.F_u_is_step.kp T.b_u_is_step (an_cons (e_var 0) (an_cons (e_callB b_len T.n_len (a_cons (e_var 1) a_nil)) (an_cons (e_var 4) an_nil)))))) (ss_one (s_ret (e_tup (a_cons e_str (a_cons (e_var 3) a_nil))))) ss_nil)))
    (ss_cons (s_if (t_not (t_val (e_call tk (ok_is_index_tuple T) (hr.mono (by decide)) T.g_is_index_tuple T.F_is_index_tuple.kp T.b_is_index_tuple (an_cons (e_var 2) (an_cons (e_callB b_len T.n_len (a_cons (e_var 1) a_nil)) an_nil))))) (ss_one (s_ret (e_tup (a_cons e_str a_nil)))) ss_nil)
    (ss_one (s_ret e_non))))))
theorem sc_m_Reader_init : FnScope ["self", "letters", "steps", "accepting", "fault"] ["self", "letters", "steps", "accepting"] (defScope s_m_Reader_init) := ⟨rfl, rfl, rfl, by decide +kernel, rfl, by decide +kernel, by decide +kernel⟩
theorem ok_m_Reader_init (T : Top K mg base a) : Sim.FnOk P w K mg base (L2.CX P w) 6 T.p_m_Reader_init T.d_m_Reader_init ["self", "letters", "steps", "accepting"] (spS K 4 (D_m_Reader_init a)) := by
  refine sim_fn true T.F_m_Reader_init sc_m_Reader_init fun cdv A outer s H E hcd hr tk hp => ?_
  have hu := Sim.hu_of hr
  have hu64 := hr.units
  exact (ss_cons (s_set 4 sc_m_Reader_init.nd (e_call tk (ok_reader_fault T) (hr.mono (by decide)) T.g_reader_fault T.F_reader_fault.kp T.b_reader_fault (an_cons (e_var 1) (an_cons (e_var 2) (an_cons (e_var 3) an_nil)))))
    (ss_cons (s_if (t_cmp o_isnot (e_var 4) e_non) (ss_one (s_raiseC T.rc_InvalidReader T.g_InvalidReader rfl tk (u_join (.cons j_str (.cons (j_fmt hr (e_var 4)) .nil))))) ss_nil)
    (ss_cons (s_fld T.cl_Reader T.na_Reader_letters (e_var 0) (e_var 1))
    (ss_cons (s_fld T.cl_Reader T.na_Reader_steps (e_var 0) (e_var 2))
    (ss_cons (s_fld T.cl_Reader T.na_Reader_accepting (e_var 0) (e_var 3))
    (ss_one (s_fld T.cl_Reader T.na_Reader_states (e_var 0) (e_callB b_len T.n_len (a_cons (e_var 2) a_nil)))))))))
theorem sc_u_law_bag : FnScope ["script", "spot", "cell", "great", "mixed"] ["script", "spot"] (defScope s_u_law_bag) := ⟨rfl, rfl, rfl, by decide +kernel, rfl, by decide +kernel, by decide +kernel⟩
theorem ok_u_law_bag (T : Top K mg base a) : Sim.FnOk P w K mg base (L2.CX P w) 1 T.p_u_law_bag T.d_u_law_bag ["script", "spot"] (spS K 2 (D_u_law_bag a)) := by
  refine sim_fn false T.F_u_law_bag sc_u_law_bag fun cdv A outer s H E hcd hr tk hp => ?_
  have hu := Sim.hu_of hr
  have hu64 := hr.units
  exact (ss_cons (s_set 2 sc_u_law_bag.nd (e_if (t_cmp o_ltI (e_var 1) (e_callB b_len T.n_len (a_cons (e_var 0) a_nil))) (e_callTy b_int T.n_int (a_cons (e_ix (e_var 0) (e_var 1)) a_nil)) (e_op o_add (e_op o_mulX e_int (e_var 1)) e_int)))
    (ss_cons (s_set 3 sc_u_law_bag.nd (e_op o_modI (e_callTy b_int T.n_int (a_cons (e_callB b_abs T.n_abs (a_cons (e_var 2) a_nil)) a_nil)) (e_op o_pow (e_op o_pow e_int e_int) e_int)))
    (ss_cons (s_set 4 sc_u_law_bag.nd (e_op o_add (e_op o_add (e_op o_add (e_op o_mulX (e_op o_modI (e_callTy b_int T.n_int (a_cons (e_var 3) a_nil)) e_int) e_int) (e_op o_mulX e_int (e_var 1))) (e_op o_mulX e_int (e_callTy b_int T.n_int (a_cons (e_cmp o_ltI (e_var 2) e_int) a_nil)))) e_int))
    (ss_one (s_ret (e_new (a_cons (e_callB (b_max2 rfl) T.n_max (a_cons e_int (a_cons (e_op o_subI (e_var 3) (e_op o_pow e_int e_int)) a_nil))) (a_cons (e_var 4) (a_cons e_int a_nil)))))))))
theorem sc_u_law_pick : FnScope ["bag", "total", "found", "one", "two"] ["bag", "total"] (defScope s_u_law_pick) := ⟨rfl, rfl, rfl, by decide +kernel, rfl, by decide +kernel, by decide +kernel⟩
theorem ok_u_law_pick (T : Top K mg base a) : Sim.FnOk P w K mg base (L2.CX P w) 1 T.p_u_law_pick T.d_u_law_pick ["bag", "total"] (spS K 2 (D_u_law_pick a)) := by
  refine sim_fn true T.F_u_law_pick sc_u_law_pick fun cdv A outer s H E hcd hr tk hp => ?_
  have hu := Sim.hu_of hr
  have hu64 := hr.units
  exact (ss_cons (s_if (t_cmp o_gtI (e_ix (e_var 0) e_int) e_int) (ss_cons (s_set 2 sc_u_law_pick.nd (e_op o_modI (e_callTy b_int T.n_int (a_cons (e_ix (e_var 0) e_int) a_nil)) (e_var 1)))
    (ss_cons (s_setIx (e_var 0) e_int (e_op o_divI (e_ix (e_var 0) e_int) (e_var 1)))
    (ss_one (s_ret (e_var 2))))) ss_nil)
    (ss_cons (s_setIx (e_var 0) e_int (e_op o_add (e_ix (e_var 0) e_int) e_int))
    (ss_cons (s_set 3 sc_u_law_pick.nd (e_op o_modI (e_callTy b_int T.n_int (a_cons (e_op o_add (e_ix (e_var 0) e_int) (e_op o_mulX e_int (e_ix (e_var 0) e_int))) a_nil)) e_int))
    (ss_cons (s_set 4 sc_u_law_pick.nd (e_op o_add (e_op o_mulX (e_op o_modI (e_callTy b_int T.n_int (a_cons (e_op o_add (e_op o_mulX (e_var 3) (e_var 3)) (e_op o_mulX e_int (e_ix (e_var 0) e_int))) a_nil)) e_int) e_int) (e_var 3)))
    (ss_one (s_ret (e_op o_modI (e_callTy b_int T.n_int (a_cons (e_op o_divI (e_var 4) e_int) a_nil)) (e_var 1))))))))
theorem sc_u_law_turned : FnScope ["items", "turn"] ["items", "turn"] (defScope s_u_law_turned) := ⟨rfl, rfl, rfl, by decide +kernel, rfl, by decide +kernel, by decide +kernel⟩
theorem ok_u_law_turned (T : Top K mg base a) : Sim.FnOk P w K mg base (L2.CX P w) 1 T.p_u_law_turned T.d_u_law_turned ["items", "turn"] (spS K 2 (D_u_law_turned a)) := by
  refine sim_fn true T.F_u_law_turned sc_u_law_turned fun cdv A outer s H E hcd hr tk hp => ?_
  have hu := Sim.hu_of hr
  have hu64 := hr.units
  exact (ss_one (s_ret (e_ix (e_var 0) (e_op o_modI (e_callTy b_int T.n_int (a_cons (e_var 1) a_nil)) (e_callB b_len T.n_len (a_cons (e_var 0) a_nil))))))
theorem sc_check_number : FnScope ["value", "low", "high"] ["value", "low", "high"] (defScope s_check_number) := ⟨rfl, rfl, rfl, by decide +kernel, rfl, by decide +kernel, by decide +kernel⟩
theorem ok_check_number (T : Top K mg base a) : Sim.FnOk P w K mg base (L2.CX P w) 3 T.p_check_number T.d_check_number ["value", "low", "high"] (spS K 3 (D_check_number a)) := by
  refine sim_fn true T.F_check_number sc_check_number fun cdv A outer s H E hcd hr tk hp => ?_
  have hu := Sim.hu_of hr
  have hu64 := hr.units
  exact (ss_one (s_if (t_not (t_val (e_call tk (ok_is_between T) (hr.mono (by decide)) T.g_is_between T.F_is_between.kp T.b_is_between (an_cons (e_var 0) (an_cons (e_var 1) (an_cons (e_var 2) an_nil)))))) (ss_one (s_raiseK T.kc_InvalidNumber (ok_k_InvalidNumber T) rfl (hr.mono (by decide)) T.kb_InvalidNumber T.g_InvalidNumber rfl tk (e_var 0))) ss_nil))
theorem sc_check_reader : FnScope ["value"] ["value"] (defScope s_check_reader) := ⟨rfl, rfl, rfl, by decide +kernel, rfl, by decide +kernel, by decide +kernel⟩
theorem ok_check_reader (T : Top K mg base a) : Sim.FnOk P w K mg base (L2.CX P w) 1 T.p_check_reader T.d_check_reader ["value"] (spS K 1 (D_check_reader a)) := by
  refine sim_fn true T.F_check_reader sc_check_reader fun cdv A outer s H E hcd hr tk hp => ?_
  have hu := Sim.hu_of hr
  have hu64 := hr.units
  exact (ss_one (s_if (t_not (t_val (e_callB (b_isC T.is_Reader T.ists_Reader) T.n_isinstance (a_cons (e_var 0) (a_cons (e_adr T.g_Reader) a_nil))))) (ss_one (s_raiseC T.rc_InvalidReader T.g_InvalidReader rfl tk (SE.u e_str))) ss_nil))
theorem sc_check_word : FnScope ["letters", "value", "letter"] ["letters", "value"] (defScope s_check_word) := ⟨rfl, rfl, rfl, by decide +kernel, rfl, by decide +kernel, by decide +kernel⟩
theorem ok_check_word (T : Top K mg base a) : Sim.FnOk P w K mg base (L2.CX P w) 4 T.p_check_word T.d_check_word ["letters", "value"] (spS K 2 (D_check_word a)) := by
  refine sim_fn true T.F_check_word sc_check_word fun cdv A outer s H E hcd hr tk hp => ?_
  have hu := Sim.hu_of hr
  have hu64 := hr.units
  exact (ss_cons (s_if (SW.st (w_or (t_not (t_val (e_callB b_isi T.n_isinstance (a_cons (e_var 1) (a_cons (e_ty T.n_tuple) a_nil))))) (w_or1 (t_cmp o_gtI (e_callB b_len T.n_len (a_cons (e_var 1) a_nil)) (e_gint T.c_MOST_WORD))))) (ss_one (s_raiseC T.rc_InvalidWord T.g_InvalidWord rfl tk (u_join (.cons j_str (.cons (j_fmt hr (e_gint T.c_MOST_WORD)) (.cons j_str .nil)))))) ss_nil)
    (ss_one (s_if (t_not (t_val (e_callB (b_all rfl) T.n_all (a_cons (e_lc [("letter", 2)] rfl sc_check_word.nd (i_it (e_var 1)) (L2.blkOk_by (N := ["letters", "value", "letter"]) (sc := (defScope s_check_word)) (by decide +kernel)) (fun _ _ _ _ _ => (g_name 2 sc_check_word.nd)) (fun _ _ _ _ _ => t_nil) (fun _ _ _ _ _ => (e_call L2.takes0 (ok_is_index T) (hr.mono (by decide)) T.g_is_index T.F_is_index.kp T.b_is_index (an_cons (e_var 2) (an_cons (e_var 0) an_nil))))) a_nil)))) (ss_one (s_raiseC T.rc_InvalidWord T.g_InvalidWord rfl tk (u_join (.cons j_str (.cons (j_fmt hr (e_var 0)) (.cons j_str .nil)))))) ss_nil)))
theorem sc_state_from : FnScope ["reader", "state", "word", "letter"] ["reader", "state", "word"] (defScope s_state_from) := ⟨rfl, rfl, rfl, by decide +kernel, rfl, by decide +kernel, by decide +kernel⟩
theorem ok_state_from (T : Top K mg base a) : Sim.FnOk P w K mg base (L2.CX P w) 1 T.p_state_from T.d_state_from ["reader", "state", "word"] (spS K 3 (D_state_from a)) := by
  refine sim_fn true T.F_state_from sc_state_from fun cdv A outer s H E hcd hr tk hp => ?_
  have hu := Sim.hu_of hr
  have hu64 := hr.units
  exact (ss_cons (s_for hp rfl (i_it (e_var 2)) (g_name 3 sc_state_from.nd) (ss_one (s_set 1 sc_state_from.nd (e_ix (e_ix (e_fld T.cl_Reader T.na_Reader_steps (e_var 0)) (e_var 1)) (e_var 3)))))
    (ss_one (s_ret (e_var 1))))
theorem sc_after_times : FnScope ["reader", "word", "times", "behind", "seen", "state", "first"] ["reader", "word", "times"] (defScope s_after_times) := ⟨rfl, rfl, rfl, by decide +kernel, rfl, by decide +kernel, by decide +kernel⟩
theorem ok_after_times (T : Top K mg base a) : Sim.FnOk P w K mg base (L2.CX P w) 5 T.p_after_times T.d_after_times ["reader", "word", "times"] (spS K 3 (D_after_times a)) := by
  refine sim_fn true T.F_after_times sc_after_times fun cdv A outer s H E hcd hr tk hp => ?_
  have hu := Sim.hu_of hr
  have hu64 := hr.units
  exact (ss_cons (s_expr (e_call tk (ok_check_reader T) (hr.mono (by decide)) T.g_check_reader T.F_check_reader.kp T.b_check_reader (an_cons (e_var 0) an_nil)))
    (ss_cons (s_expr (e_call tk (ok_check_word T) (hr.mono (by decide)) T.g_check_word T.F_check_word.kp T.b_check_word (an_cons (e_fld T.cl_Reader T.na_Reader_letters (e_var 0)) (an_cons (e_var 1) an_nil))))
    (ss_cons (s_expr (e_call tk (ok_check_number T) (hr.mono (by decide)) T.g_check_number T.F_check_number.kp T.b_check_number (an_cons (e_var 2) (an_cons e_int (an_cons (e_gint T.c_MOST_TIMES) an_nil)))))
    (ss_cons (s_set 3 sc_after_times.nd (e_new (a_cons e_int a_nil)))
    (ss_cons (s_set 4 sc_after_times.nd (e_dic1 e_int e_int))
    (ss_cons (s_while 1000 hp (t_cmp o_leI (e_callB b_len T.n_len (a_cons (e_var 3) a_nil)) (e_var 2)) (ss_cons (s_set 5 sc_after_times.nd (e_call tk (ok_state_from T) (hr.mono (by decide)) T.g_state_from T.F_state_from.kp T.b_state_from (an_cons (e_var 0) (an_cons (e_ix (e_var 3) (e_neg e_int)) (an_cons (e_var 1) an_nil)))))
    (ss_cons (s_if (t_din hu (e_var 5) (e_var 4)) (ss_cons (s_set 6 sc_after_times.nd (e_dget hu (e_var 4) (e_var 5)))
    (ss_one (s_ret (e_ix (e_var 3) (e_op o_add (e_var 6) (e_op o_modI (e_op o_subI (e_var 2) (e_var 6)) (e_op o_subI (e_callB b_len T.n_len (a_cons (e_var 3) a_nil)) (e_var 6)))))))) ss_nil)
    (ss_cons (s_put hu (e_var 4) (e_var 5) (e_callB b_len T.n_len (a_cons (e_var 3) a_nil)))
    (ss_one (s_app (e_var 3) (e_var 5)))))))
    (ss_one (s_ret (e_ix (e_var 3) (e_var 2))))))))))
theorem sc_first_words : FnScope ["reader", "found", "waiting", "_", "nexts", "state", "letter", "goal"] ["reader"] (defScope s_first_words) := ⟨rfl, rfl, rfl, by decide +kernel, rfl, by decide +kernel, by decide +kernel⟩
theorem ok_first_words (T : Top K mg base a) : Sim.FnOk P w K mg base (L2.CX P w) 1 T.p_first_words T.d_first_words ["reader"] (spS K 1 (D_first_words a)) := by
  refine sim_fn true T.F_first_words sc_first_words fun cdv A outer s H E hcd hr tk hp => ?_
  have hu := Sim.hu_of hr
  have hu64 := hr.units
  exact (ss_cons (s_set 1 sc_first_words.nd (e_dic1 e_int (e_tup a_nil)))
    (ss_cons (s_set 2 sc_first_words.nd (e_lst (a_cons e_int a_nil)))
    (ss_cons (s_for hp rfl (i_rng1 T.n_range (e_fld T.cl_Reader T.na_Reader_states (e_var 0))) (g_name 3 sc_first_words.nd) (ss_cons (s_set 4 sc_first_words.nd (e_new a_nil))
    (ss_cons (s_for hp rfl (i_it (e_var 2)) (g_name 5 sc_first_words.nd) (ss_one (s_for hp rfl (i_enum T.n_enumerate (e_ix (e_fld T.cl_Reader T.na_Reader_steps (e_var 0)) (e_var 5))) (g_tup rfl (g_cons (g_name 6 sc_first_words.nd) (g_cons (g_name 7 sc_first_words.nd) g_nil))) (ss_one (s_if (t_dnotin hu (e_var 7) (e_var 1)) (ss_cons (s_put hu (e_var 1) (e_var 7) (e_op o_add (e_dget hu (e_var 1) (e_var 5)) (e_tup (a_cons (e_var 6) a_nil))))
    (ss_one (s_app (e_var 4) (e_var 7)))) ss_nil)))))
    (ss_one (s_set 2 sc_first_words.nd (e_var 4))))))
    (ss_one (s_ret (e_var 1))))))
theorem sc_first_word : FnScope ["reader", "accepting", "state", "word"] ["reader"] (defScope s_first_word) := ⟨rfl, rfl, rfl, by decide +kernel, rfl, by decide +kernel, by decide +kernel⟩
theorem ok_first_word (T : Top K mg base a) : Sim.FnOk P w K mg base (L2.CX P w) 2 a.f_first_word T.d_first_word ["reader"] (spS K 1 (D_first_word a)) := by
  refine sim_fn true T.F_first_word sc_first_word fun cdv A outer s H E hcd hr tk hp => ?_
  have hu := Sim.hu_of hr
  have hu64 := hr.units
  exact (ss_cons (s_expr (e_call tk (ok_check_reader T) (hr.mono (by decide)) T.g_check_reader T.F_check_reader.kp T.b_check_reader (an_cons (e_var 0) an_nil)))
    (ss_cons (s_setDc 1 [("state", 2)] rfl sc_first_word.nd (i_it (e_fld T.cl_Reader T.na_Reader_accepting (e_var 0))) (L2.blkOk_by (N := ["reader", "accepting", "state", "word"]) (sc := (defScope s_first_word)) (by decide +kernel)) (fun _ _ _ _ _ => (g_name 2 sc_first_word.nd)) (fun _ _ _ _ _ => t_nil) (fun _ _ _ _ _ => (e_var 2)) (fun _ _ _ _ _ => e_bl) (sw_trueD rfl rfl rfl (by decide +kernel)))
    (ss_cons (s_for hp rfl (i_items (e_call tk (ok_first_words T) (hr.mono (by decide)) T.g_first_words T.F_first_words.kp T.b_first_words (an_cons (e_var 0) an_nil))) (g_tup rfl (g_cons (g_name 2 sc_first_word.nd) (g_cons (g_name 3 sc_first_word.nd) g_nil))) (ss_one (s_if (t_din hu (e_var 2) (e_var 1)) (ss_one (s_ret (e_var 3))) ss_nil)))
    (ss_one (s_ret e_non)))))
theorem sc_met : FnScope ["reader"] ["reader"] (defScope s_met) := ⟨rfl, rfl, rfl, by decide +kernel, rfl, by decide +kernel, by decide +kernel⟩
theorem ok_met (T : Top K mg base a) : Sim.FnOk P w K mg base (L2.CX P w) 2 a.f_met T.d_met ["reader"] (spS K 1 (D_met a)) := by
  refine sim_fn true T.F_met sc_met fun cdv A outer s H E hcd hr tk hp => ?_
  have hu := Sim.hu_of hr
  have hu64 := hr.units
  exact (ss_cons (s_expr (e_call tk (ok_check_reader T) (hr.mono (by decide)) T.g_check_reader T.F_check_reader.kp T.b_check_reader (an_cons (e_var 0) an_nil)))
    (ss_one (s_ret (e_callTy b_tuple T.n_tuple (a_cons (e_callB (b_sortedD rfl) T.n_sorted (a_cons (e_call tk (ok_first_words T) (hr.mono (by decide)) T.g_first_words T.F_first_words.kp T.b_first_words (an_cons (e_var 0) an_nil)) a_nil)) a_nil)))))
theorem sc_state_after : FnScope ["reader", "word"] ["reader", "word"] (defScope s_state_after) := ⟨rfl, rfl, rfl, by decide +kernel, rfl, by decide +kernel, by decide +kernel⟩
theorem ok_state_after (T : Top K mg base a) : Sim.FnOk P w K mg base (L2.CX P w) 5 a.f_state_after T.d_state_after ["reader", "word"] (spS K 2 (D_state_after a)) := by
  refine sim_fn true T.F_state_after sc_state_after fun cdv A outer s H E hcd hr tk hp => ?_
  have hu := Sim.hu_of hr
  have hu64 := hr.units
  exact (ss_cons (s_expr (e_call tk (ok_check_reader T) (hr.mono (by decide)) T.g_check_reader T.F_check_reader.kp T.b_check_reader (an_cons (e_var 0) an_nil)))
    (ss_cons (s_expr (e_call tk (ok_check_word T) (hr.mono (by decide)) T.g_check_word T.F_check_word.kp T.b_check_word (an_cons (e_fld T.cl_Reader T.na_Reader_letters (e_var 0)) (an_cons (e_var 1) an_nil))))
    (ss_one (s_ret (e_call tk (ok_state_from T) (hr.mono (by decide)) T.g_state_from T.F_state_from.kp T.b_state_from (an_cons (e_var 0) (an_cons e_int (an_cons (e_var 1) an_nil))))))))
theorem sc_takes : FnScope ["reader", "word"] ["reader", "word"] (defScope s_takes) := ⟨rfl, rfl, rfl, by decide +kernel, rfl, by decide +kernel, by decide +kernel⟩
theorem ok_takes (T : Top K mg base a) : Sim.FnOk P w K mg base (L2.CX P w) 6 a.f_takes T.d_takes ["reader", "word"] (spS K 2 (D_takes a)) := by
  refine sim_fn true T.F_takes sc_takes fun cdv A outer s H E hcd hr tk hp => ?_
  have hu := Sim.hu_of hr
  have hu64 := hr.units
  exact (ss_one (s_ret (e_cmp o_inS (e_call tk (ok_state_after T) (hr.mono (by decide)) T.g_state_after T.F_state_after.kp T.b_state_after (an_cons (e_var 0) (an_cons (e_var 1) an_nil))) (e_fld T.cl_Reader T.na_Reader_accepting (e_var 0)))))
theorem sc_u_counts : FnScope ["reader", "length", "accepting", "counts", "_", "last", "state", "step", "goal"] ["reader", "length"] (defScope s_u_counts) := ⟨rfl, rfl, rfl, by decide +kernel, rfl, by decide +kernel, by decide +kernel⟩
theorem ok_u_counts (T : Top K mg base a) : Sim.FnOk P w K mg base (L2.CX P w) 1 T.p_u_counts T.d_u_counts ["reader", "length"] (spS K 2 (D_u_counts a)) := by
  refine sim_fn true T.F_u_counts sc_u_counts fun cdv A outer s H E hcd hr tk hp => ?_
  have hu := Sim.hu_of hr
  have hu64 := hr.units
  exact (ss_cons (s_set 2 sc_u_counts.nd (e_dc [("state", 6)] rfl sc_u_counts.nd (i_it (e_fld T.cl_Reader T.na_Reader_accepting (e_var 0))) (L2.blkOk_by (N := ["reader", "length", "accepting", "counts", "_", "last", "state", "step", "goal"]) (sc := (defScope s_u_counts)) (by decide +kernel)) (fun _ _ _ _ _ => (g_name 6 sc_u_counts.nd)) (fun _ _ _ _ _ => t_nil) (fun _ _ _ _ _ => (e_var 6)) (fun _ _ _ _ _ => e_bl)))
    (ss_cons (s_set 3 sc_u_counts.nd (e_new (a_cons (e_lc [("state", 6)] rfl sc_u_counts.nd (i_rng1 T.n_range (e_fld T.cl_Reader T.na_Reader_states (e_var 0))) (L2.blkOk_by (N := ["reader", "length", "accepting", "counts", "_", "last", "state", "step", "goal"]) (sc := (defScope s_u_counts)) (by decide +kernel)) (fun _ _ _ _ _ => (g_name 6 sc_u_counts.nd)) (fun _ _ _ _ _ => t_nil) (fun _ _ _ _ _ => (e_if (t_din hu (e_var 6) (e_var 2)) e_int e_int))) a_nil)))
    (ss_cons (s_for hp rfl (i_rng1 T.n_range (e_var 1)) (g_name 4 sc_u_counts.nd) (ss_cons (s_set 5 sc_u_counts.nd (e_ix (e_var 3) (e_neg e_int)))
    (ss_one (s_app (e_var 3) (e_lc [("step", 7)] rfl sc_u_counts.nd (i_it (e_fld T.cl_Reader T.na_Reader_steps (e_var 0))) (L2.blkOk_by (N := ["reader", "length", "accepting", "counts", "_", "last", "state", "step", "goal"]) (sc := (defScope s_u_counts)) (by decide +kernel)) (fun _ _ _ _ _ => (g_name 7 sc_u_counts.nd)) (fun _ _ _ _ _ => t_nil) (fun _ _ _ _ _ => (e_callB (b_sum rfl) T.n_sum (a_cons (e_lc [("goal", 8)] rfl sc_u_counts.nd (i_it (e_var 7)) (L2.blkOk_by (N := ["reader", "length", "accepting", "counts", "_", "last", "state", "step", "goal"]) (sc := (L2.relS _ (defScope s_u_counts))) (by decide +kernel)) (fun _ _ _ _ _ => (g_name 8 sc_u_counts.nd)) (fun _ _ _ _ _ => t_nil) (fun _ _ _ _ _ => (e_ix (e_var 5) (e_var 8)))) a_nil))))))))
    (ss_one (s_ret (e_var 3))))))
theorem sc_word_count : FnScope ["reader", "length"] ["reader", "length"] (defScope s_word_count) := ⟨rfl, rfl, rfl, by decide +kernel, rfl, by decide +kernel, by decide +kernel⟩
theorem ok_word_count (T : Top K mg base a) : Sim.FnOk P w K mg base (L2.CX P w) 4 a.f_word_count T.d_word_count ["reader", "length"] (spS K 2 (D_word_count a)) := by
  refine sim_fn true T.F_word_count sc_word_count fun cdv A outer s H E hcd hr tk hp => ?_
  have hu := Sim.hu_of hr
  have hu64 := hr.units
  exact (ss_cons (s_expr (e_call tk (ok_check_reader T) (hr.mono (by decide)) T.g_check_reader T.F_check_reader.kp T.b_check_reader (an_cons (e_var 0) an_nil)))
    (ss_cons (s_expr (e_call tk (ok_check_number T) (hr.mono (by decide)) T.g_check_number T.F_check_number.kp T.b_check_number (an_cons (e_var 1) (an_cons e_int (an_cons (e_gint T.c_MOST_LENGTH) an_nil)))))
    (ss_one (s_ret (e_ix (e_ix (e_call tk (ok_u_counts T) (hr.mono (by decide)) T.g_u_counts T.F_u_counts.kp T.b_u_counts (an_cons (e_var 0) (an_cons (e_var 1) an_nil))) (e_var 1)) e_int)))))
theorem sc_words : FnScope ["reader", "length", "counts", "found", "behind", "steps", "word", "state", "letter", "goal", "_"] ["reader", "length"] (defScope s_words) := ⟨rfl, rfl, rfl, by decide +kernel, rfl, by decide +kernel, by decide +kernel⟩
theorem ok_words (T : Top K mg base a) : Sim.FnOk P w K mg base (L2.CX P w) 4 a.f_words T.d_words ["reader", "length"] (spS K 2 (D_words a)) := by
  refine sim_fn true T.F_words sc_words fun cdv A outer s H E hcd hr tk hp => ?_
  have hu := Sim.hu_of hr
  have hu64 := hr.units
  exact (ss_cons (s_expr (e_call tk (ok_check_reader T) (hr.mono (by decide)) T.g_check_reader T.F_check_reader.kp T.b_check_reader (an_cons (e_var 0) an_nil)))
    (ss_cons (s_expr (e_call tk (ok_check_number T) (hr.mono (by decide)) T.g_check_number T.F_check_number.kp T.b_check_number (an_cons (e_var 1) (an_cons e_int (an_cons (e_gint T.c_MOST_LENGTH) an_nil)))))
    (ss_cons (s_set 2 sc_words.nd (e_call tk (ok_u_counts T) (hr.mono (by decide)) T.g_u_counts T.F_u_counts.kp T.b_u_counts (an_cons (e_var 0) (an_cons (e_var 1) an_nil))))
    (ss_cons (s_if (t_cmp o_gtI (e_ix (e_ix (e_var 2) (e_var 1)) e_int) (e_gint T.c_MOST_LISTED)) (ss_one (s_raiseK T.kc_TooMany (ok_k_TooMany T) rfl (hr.mono (by decide)) T.kb_TooMany T.g_TooMany rfl tk (e_gint T.c_MOST_LISTED))) ss_nil)
    (ss_cons (s_set 3 sc_words.nd (e_if (t_cmp o_gtI (e_ix (e_ix (e_var 2) (e_var 1)) e_int) e_int) (e_lst (a_cons (e_tup (a_cons (e_tup a_nil) (a_cons e_int a_nil))) a_nil)) (e_lst a_nil)))
    (ss_cons (s_for hp rfl (i_rngD T.n_range (e_op o_subI (e_var 1) e_int) (e_neg e_int) (e_neg e_int)) (g_name 4 sc_words.nd) (ss_cons (s_setLc2 5 [("word", 6), ("state", 7), ("letter", 8), ("goal", 9)] rfl sc_words.nd (i_it (e_var 3)) (L2.blkOk_by (N := ["reader", "length", "counts", "found", "behind", "steps", "word", "state", "letter", "goal", "_"]) (sc := (defScope s_words)) (by decide +kernel)) (fun _ _ _ _ _ => (g_tup rfl (g_cons (g_name 6 sc_words.nd) (g_cons (g_name 7 sc_words.nd) g_nil)))) (fun _ _ _ _ _ => t_nil) (fun _ _ _ _ _ => (i_enum T.n_enumerate (e_ix (e_fld T.cl_Reader T.na_Reader_steps (e_var 0)) (e_var 7)))) (fun _ _ _ _ _ => (g_tup rfl (g_cons (g_name 8 sc_words.nd) (g_cons (g_name 9 sc_words.nd) g_nil)))) (fun _ _ _ _ _ => t_nil) (fun _ _ _ _ _ => (e_tup (a_cons (e_op o_add (e_var 6) (e_tup (a_cons (e_var 8) a_nil))) (a_cons (e_var 9) a_nil)))) (L2.sw_true rfl rfl rfl (by decide +kernel)))
    (ss_one (s_setLc 3 [("word", 6), ("goal", 9)] rfl sc_words.nd (i_it (e_var 5)) (L2.blkOk_by (N := ["reader", "length", "counts", "found", "behind", "steps", "word", "state", "letter", "goal", "_"]) (sc := (defScope s_words)) (by decide +kernel)) (fun _ _ _ _ _ => (g_tup rfl (g_cons (g_name 6 sc_words.nd) (g_cons (g_name 9 sc_words.nd) g_nil)))) (fun _ _ _ _ _ => (t_one (t_cmp o_gtI (e_ix (e_ix (e_var 2) (e_var 4)) (e_var 9)) e_int))) (fun _ _ _ _ _ => (e_tup (a_cons (e_var 6) (a_cons (e_var 9) a_nil)))) (L2.sw_true rfl rfl rfl (by decide +kernel))))))
    (ss_one (s_ret (e_callTy b_tuple T.n_tuple (a_cons (e_lc [("word", 6), ("_", 10)] rfl sc_words.nd (i_it (e_var 3)) (L2.blkOk_by (N := ["reader", "length", "counts", "found", "behind", "steps", "word", "state", "letter", "goal", "_"]) (sc := (defScope s_words)) (by decide +kernel)) (fun _ _ _ _ _ => (g_tup rfl (g_cons (g_name 6 sc_words.nd) (g_cons (g_name 10 sc_words.nd) g_nil)))) (fun _ _ _ _ _ => t_nil) (fun _ _ _ _ _ => (e_var 6))) a_nil))))))))))
theorem sc_u_law_right : FnScope ["turn", "real", "wide", "none", "word", "length", "times", "met_words", "due", "call"] ["turn"] (defScope s_u_law_right) := ⟨rfl, rfl, rfl, by decide +kernel, rfl, by decide +kernel, by decide +kernel⟩
theorem ok_u_law_right (T : Top K mg base a) : Sim.FnOk P w K mg base (L2.CX P w) 9 T.p_u_law_right T.d_u_law_right ["turn"] (spS K 1 (D_u_law_right a)) := by
  refine sim_fn true T.F_u_law_right sc_u_law_right fun cdv A outer s H E hcd hr tk hp => ?_
  have hu := Sim.hu_of hr
  have hu64 := hr.units
  obtain rfl : cdv = .ref T.cc_u_law_right := hcd.symm.trans T.cd_u_law_right
  exact (ss_cons (s_asg (g_tup rfl (g_cons (g_name 1 sc_u_law_right.nd) (g_cons (g_name 2 sc_u_law_right.nd) g_nil))) (e_tup (a_cons (e_make true tk T.mk_Reader (ok_m_Reader_init T) (hr.mono (by decide)) T.g_Reader T.b_m_Reader_init rfl (an_cons e_int (an_cons (e_tup (a_cons (e_tup (a_cons e_int (a_cons e_int a_nil))) (a_cons (e_tup (a_cons e_int (a_cons e_int a_nil))) a_nil))) (an_cons (e_tup (a_cons e_int a_nil)) an_nil)))) (a_cons (e_make true tk T.mk_Reader (ok_m_Reader_init T) (hr.mono (by decide)) T.g_Reader T.b_m_Reader_init rfl (an_cons e_int (an_cons (e_tup (a_cons (e_op o_mulX (e_tup (a_cons e_int a_nil)) e_int) a_nil)) (an_cons (e_tup (a_cons e_int a_nil)) an_nil)))) a_nil))))
    (ss_cons (s_set 3 sc_u_law_right.nd (e_call tk (ok_u_law_turned T) (hr.mono (by decide)) T.g_u_law_turned T.F_u_law_turned.kp T.b_u_law_turned (an_cons (e_lst (a_cons e_non (a_cons e_int (a_cons (e_tup a_nil) (a_cons (e_tup (a_cons e_int (a_cons (e_tup (a_cons (e_tup (a_cons e_int (a_cons e_int a_nil))) (a_cons (e_tup (a_cons e_int (a_cons e_int a_nil))) a_nil))) (a_cons (e_tup (a_cons e_int a_nil)) a_nil)))) (a_cons e_str (a_cons e_dic0 (a_cons (e_lst (a_cons (e_var 1) a_nil)) (a_cons e_bl a_nil))))))))) (an_cons (e_var 0) an_nil))))
    (ss_cons (s_set 4 sc_u_law_right.nd (e_lst (a_cons e_non (a_cons e_int (a_cons (e_lst (a_cons e_int (a_cons e_int a_nil))) (a_cons (e_tup (a_cons e_int a_nil)) (a_cons (e_tup (a_cons (e_neg e_int) a_nil)) (a_cons (e_tup (a_cons e_bl a_nil)) (a_cons (e_tup (a_cons e_str a_nil)) (a_cons (e_tup (a_cons e_int (a_cons e_non a_nil))) (a_cons e_str (a_cons e_dic0 (a_cons (e_op o_mulX (e_tup (a_cons e_int a_nil)) e_int) (a_cons (e_tup (a_cons (e_tup (a_cons e_int a_nil)) a_nil)) (a_cons (e_tup (a_cons (e_op o_pow e_int e_int) a_nil)) a_nil)))))))))))))))
    (ss_cons (s_set 4 sc_u_law_right.nd (e_call tk (ok_u_law_turned T) (hr.mono (by decide)) T.g_u_law_turned T.F_u_law_turned.kp T.b_u_law_turned (an_cons (e_var 4) (an_cons (e_var 0) an_nil))))
    (ss_cons (s_set 5 sc_u_law_right.nd (e_call tk (ok_u_law_turned T) (hr.mono (by decide)) T.g_u_law_turned T.F_u_law_turned.kp T.b_u_law_turned (an_cons (e_lst (a_cons e_non (a_cons (e_neg e_int) (a_cons e_int (a_cons e_bl (a_cons e_str (a_cons (e_tup (a_cons e_int a_nil)) (a_cons (e_op o_pow e_int e_int) (a_cons (e_lst a_nil) a_nil))))))))) (an_cons (e_var 0) an_nil))))
    (ss_cons (s_set 6 sc_u_law_right.nd (e_call tk (ok_u_law_turned T) (hr.mono (by decide)) T.g_u_law_turned T.F_u_law_turned.kp T.b_u_law_turned (an_cons (e_lst (a_cons e_non (a_cons (e_neg e_int) (a_cons e_bl (a_cons e_str (a_cons (e_tup (a_cons e_int a_nil)) (a_cons (e_op o_pow e_int e_int) (a_cons e_dic0 a_nil)))))))) (an_cons (e_var 0) an_nil))))
    (ss_cons (s_par 7 8 rfl sc_u_law_right.nd (a_cons (e_new a_nil) (a_cons (e_lst a_nil) a_nil)))
    (ss_cons (s_for hp rfl (i_it (e_tup (a_cons (e_adr T.g_state_after) (a_cons (e_adr T.g_takes) a_nil)))) (g_name 9 sc_u_law_right.nd) (ss_cons (s_app (e_var 7) (e_lamcall (k := 6) (fz := true) T.F_u_law_heard T.g_u_law_heard sc_u_law_heard T.b_u_law_heard (lamG_u_law_heard T (j := 1) (hr.mono (by decide))) T.tb_u_law_right T.tm_u_law_right T.tu_u_law_right (hr.mono (by decide)) (fun A outer s H E f c' hr tk => (have hu := Sim.hu_of hr; have hu64 := hr.units; (e_callV (k := 6) tk (HeldS.cons (ps := ["reader", "word"]) (D := (D_state_after a)) (Sim.FnOk.mono (k := 6) (ok_state_after T) (by decide)) T.F_state_after.kp T.b_state_after (HeldS.cons (ps := ["reader", "word"]) (D := (D_takes a)) (Sim.FnOk.mono (k := 6) (ok_takes T) (by decide)) T.F_takes.kp T.b_takes HeldS.nil)) (hr.mono (by decide)) (a_cons (e_var 3) (a_cons (e_var 4) a_nil))))) (LamX.lamS_by (sc := defScope s_u_law_right) (by decide +kernel))))
    (ss_cons (s_app (e_var 7) (e_lamcall (k := 6) (fz := true) T.F_u_law_heard T.g_u_law_heard sc_u_law_heard T.b_u_law_heard (lamG_u_law_heard T (j := 1) (hr.mono (by decide))) T.tb_u_law_right T.tm_u_law_right T.tu_u_law_right (hr.mono (by decide)) (fun A outer s H E f c' hr tk => (have hu := Sim.hu_of hr; have hu64 := hr.units; (e_callV (k := 6) tk (HeldS.cons (ps := ["reader", "word"]) (D := (D_state_after a)) (Sim.FnOk.mono (k := 6) (ok_state_after T) (by decide)) T.F_state_after.kp T.b_state_after (HeldS.cons (ps := ["reader", "word"]) (D := (D_takes a)) (Sim.FnOk.mono (k := 6) (ok_takes T) (by decide)) T.F_takes.kp T.b_takes HeldS.nil)) (hr.mono (by decide)) (a_cons (e_var 1) (a_cons (e_var 4) a_nil))))) (LamX.lamS_by (sc := defScope s_u_law_right) (by decide +kernel))))
    (ss_cons (s_app (e_var 7) (e_lamcall (k := 6) (fz := true) T.F_u_law_heard T.g_u_law_heard sc_u_law_heard T.b_u_law_heard (lamG_u_law_heard T (j := 1) (hr.mono (by decide))) T.tb_u_law_right T.tm_u_law_right T.tu_u_law_right (hr.mono (by decide)) (fun A outer s H E f c' hr tk => (have hu := Sim.hu_of hr; have hu64 := hr.units; (e_callV (k := 6) tk (HeldS.cons (ps := ["reader", "word"]) (D := (D_state_after a)) (Sim.FnOk.mono (k := 6) (ok_state_after T) (by decide)) T.F_state_after.kp T.b_state_after (HeldS.cons (ps := ["reader", "word"]) (D := (D_takes a)) (Sim.FnOk.mono (k := 6) (ok_takes T) (by decide)) T.F_takes.kp T.b_takes HeldS.nil)) (hr.mono (by decide)) (a_cons (e_var 1) (a_cons (e_op o_mulX (e_tup (a_cons e_int (a_cons e_int a_nil))) e_int) a_nil))))) (LamX.lamS_by (sc := defScope s_u_law_right) (by decide +kernel))))
    (ss_one (s_set 8 sc_u_law_right.nd (e_op o_add (e_var 8) (e_lst (a_cons e_str (a_cons e_str (a_cons e_str a_nil)))))))))))
    (ss_cons (s_for hp rfl (i_it (e_tup (a_cons (e_adr T.g_met) (a_cons (e_adr T.g_first_word) a_nil)))) (g_name 9 sc_u_law_right.nd) (ss_cons (s_app (e_var 7) (e_lamcall (k := 2) (fz := true) T.F_u_law_heard T.g_u_law_heard sc_u_law_heard T.b_u_law_heard (lamG_u_law_heard T (j := 1) (hr.mono (by decide))) T.tb_u_law_right T.tm_u_law_right T.tu_u_law_right (hr.mono (by decide)) (fun A outer s H E f c' hr tk => (have hu := Sim.hu_of hr; have hu64 := hr.units; (e_callV (k := 2) tk (HeldS.cons (ps := ["reader"]) (D := (D_met a)) (Sim.FnOk.mono (k := 2) (ok_met T) (by decide)) T.F_met.kp T.b_met (HeldS.cons (ps := ["reader"]) (D := (D_first_word a)) (Sim.FnOk.mono (k := 2) (ok_first_word T) (by decide)) T.F_first_word.kp T.b_first_word HeldS.nil)) (hr.mono (by decide)) (a_cons (e_var 3) a_nil)))) (LamX.lamS_by (sc := defScope s_u_law_right) (by decide +kernel))))
    (ss_cons (s_app (e_var 7) (e_lamcall (k := 2) (fz := true) T.F_u_law_heard T.g_u_law_heard sc_u_law_heard T.b_u_law_heard (lamG_u_law_heard T (j := 1) (hr.mono (by decide))) T.tb_u_law_right T.tm_u_law_right T.tu_u_law_right (hr.mono (by decide)) (fun A outer s H E f c' hr tk => (have hu := Sim.hu_of hr; have hu64 := hr.units; (e_callV (k := 2) tk (HeldS.cons (ps := ["reader"]) (D := (D_met a)) (Sim.FnOk.mono (k := 2) (ok_met T) (by decide)) T.F_met.kp T.b_met (HeldS.cons (ps := ["reader"]) (D := (D_first_word a)) (Sim.FnOk.mono (k := 2) (ok_first_word T) (by decide)) T.F_first_word.kp T.b_first_word HeldS.nil)) (hr.mono (by decide)) (a_cons (e_var 2) a_nil)))) (LamX.lamS_by (sc := defScope s_u_law_right) (by decide +kernel))))
    (ss_one (s_set 8 sc_u_law_right.nd (e_op o_add (e_var 8) (e_lst (a_cons e_str (a_cons e_str a_nil)))))))))
    (ss_cons (s_for hp rfl (i_it (e_tup (a_cons (e_adr T.g_word_count) (a_cons (e_adr T.g_words) a_nil)))) (g_name 9 sc_u_law_right.nd) (ss_cons (s_app (e_var 7) (e_lamcall (k := 4) (fz := true) T.F_u_law_heard T.g_u_law_heard sc_u_law_heard T.b_u_law_heard (lamG_u_law_heard T (j := 1) (hr.mono (by decide))) T.tb_u_law_right T.tm_u_law_right T.tu_u_law_right (hr.mono (by decide)) (fun A outer s H E f c' hr tk => (have hu := Sim.hu_of hr; have hu64 := hr.units; (e_callV (k := 4) tk (HeldS.cons (ps := ["reader", "length"]) (D := (D_word_count a)) (Sim.FnOk.mono (k := 4) (ok_word_count T) (by decide)) T.F_word_count.kp T.b_word_count (HeldS.cons (ps := ["reader", "length"]) (D := (D_words a)) (Sim.FnOk.mono (k := 4) (ok_words T) (by decide)) T.F_words.kp T.b_words HeldS.nil)) (hr.mono (by decide)) (a_cons (e_var 3) (a_cons (e_var 5) a_nil))))) (LamX.lamS_by (sc := defScope s_u_law_right) (by decide +kernel))))
    (ss_cons (s_app (e_var 7) (e_lamcall (k := 4) (fz := true) T.F_u_law_heard T.g_u_law_heard sc_u_law_heard T.b_u_law_heard (lamG_u_law_heard T (j := 1) (hr.mono (by decide))) T.tb_u_law_right T.tm_u_law_right T.tu_u_law_right (hr.mono (by decide)) (fun A outer s H E f c' hr tk => (have hu := Sim.hu_of hr; have hu64 := hr.units; (e_callV (k := 4) tk (HeldS.cons (ps := ["reader", "length"]) (D := (D_word_count a)) (Sim.FnOk.mono (k := 4) (ok_word_count T) (by decide)) T.F_word_count.kp T.b_word_count (HeldS.cons (ps := ["reader", "length"]) (D := (D_words a)) (Sim.FnOk.mono (k := 4) (ok_words T) (by decide)) T.F_words.kp T.b_words HeldS.nil)) (hr.mono (by decide)) (a_cons (e_var 2) (a_cons (e_var 5) a_nil))))) (LamX.lamS_by (sc := defScope s_u_law_right) (by decide +kernel))))
    (ss_one (s_set 8 sc_u_law_right.nd (e_op o_add (e_var 8) (e_lst (a_cons e_str (a_cons (e_op o_add e_str (e_callB (b_repr hr.gd hr.units) T.n_repr (a_cons (e_var 5) a_nil))) a_nil)))))))))
    (ss_cons (s_app (e_var 7) (e_lamcall (k := 4) (fz := true) T.F_u_law_heard T.g_u_law_heard sc_u_law_heard T.b_u_law_heard (lamG_u_law_heard T (j := 1) (hr.mono (by decide))) T.tb_u_law_right T.tm_u_law_right T.tu_u_law_right (hr.mono (by decide)) (fun A outer s H E f c' hr tk => (have hu := Sim.hu_of hr; have hu64 := hr.units; (e_call tk (ok_word_count T) (hr.mono (by decide)) T.g_word_count T.F_word_count.kp T.b_word_count (an_cons (e_var 2) (an_cons e_int an_nil))))) (LamX.lamS_by (sc := defScope s_u_law_right) (by decide +kernel))))
    (ss_cons (s_app (e_var 7) (e_lamcall (k := 4) (fz := true) T.F_u_law_heard T.g_u_law_heard sc_u_law_heard T.b_u_law_heard (lamG_u_law_heard T (j := 1) (hr.mono (by decide))) T.tb_u_law_right T.tm_u_law_right T.tu_u_law_right (hr.mono (by decide)) (fun A outer s H E f c' hr tk => (have hu := Sim.hu_of hr; have hu64 := hr.units; (e_call tk (ok_words T) (hr.mono (by decide)) T.g_words T.F_words.kp T.b_words (an_cons (e_var 2) (an_cons e_int an_nil))))) (LamX.lamS_by (sc := defScope s_u_law_right) (by decide +kernel))))
    (ss_cons (s_app (e_var 7) (e_lamcall (k := 4) (fz := true) T.F_u_law_heard T.g_u_law_heard sc_u_law_heard T.b_u_law_heard (lamG_u_law_heard T (j := 1) (hr.mono (by decide))) T.tb_u_law_right T.tm_u_law_right T.tu_u_law_right (hr.mono (by decide)) (fun A outer s H E f c' hr tk => (have hu := Sim.hu_of hr; have hu64 := hr.units; (e_call tk (ok_words T) (hr.mono (by decide)) T.g_words T.F_words.kp T.b_words (an_cons (e_var 2) (an_cons e_int an_nil))))) (LamX.lamS_by (sc := defScope s_u_law_right) (by decide +kernel))))
    (ss_cons (s_set 8 sc_u_law_right.nd (e_op o_add (e_var 8) (e_lst (a_cons e_str (a_cons e_str (a_cons e_str a_nil))))))
    (ss_cons (s_app (e_var 7) (e_lamcall (k := 5) (fz := true) T.F_u_law_heard T.g_u_law_heard sc_u_law_heard T.b_u_law_heard (lamG_u_law_heard T (j := 1) (hr.mono (by decide))) T.tb_u_law_right T.tm_u_law_right T.tu_u_law_right (hr.mono (by decide)) (fun A outer s H E f c' hr tk => (have hu := Sim.hu_of hr; have hu64 := hr.units; (e_call tk (ok_after_times T) (hr.mono (by decide)) T.g_after_times T.F_after_times.kp T.b_after_times (an_cons (e_var 3) (an_cons (e_var 4) (an_cons (e_var 6) an_nil)))))) (LamX.lamS_by (sc := defScope s_u_law_right) (by decide +kernel))))
    (ss_cons (s_app (e_var 7) (e_lamcall (k := 5) (fz := true) T.F_u_law_heard T.g_u_law_heard sc_u_law_heard T.b_u_law_heard (lamG_u_law_heard T (j := 1) (hr.mono (by decide))) T.tb_u_law_right T.tm_u_law_right T.tu_u_law_right (hr.mono (by decide)) (fun A outer s H E f c' hr tk => (have hu := Sim.hu_of hr; have hu64 := hr.units; (e_call tk (ok_after_times T) (hr.mono (by decide)) T.g_after_times T.F_after_times.kp T.b_after_times (an_cons (e_var 1) (an_cons (e_var 4) (an_cons (e_var 6) an_nil)))))) (LamX.lamS_by (sc := defScope s_u_law_right) (by decide +kernel))))
    (ss_cons (s_app (e_var 7) (e_lamcall (k := 5) (fz := true) T.F_u_law_heard T.g_u_law_heard sc_u_law_heard T.b_u_law_heard (lamG_u_law_heard T (j := 1) (hr.mono (by decide))) T.tb_u_law_right T.tm_u_law_right T.tu_u_law_right (hr.mono (by decide)) (fun A outer s H E f c' hr tk => (have hu := Sim.hu_of hr; have hu64 := hr.units; (e_call tk (ok_after_times T) (hr.mono (by decide)) T.g_after_times T.F_after_times.kp T.b_after_times (an_cons (e_var 1) (an_cons (e_tup (a_cons e_int (a_cons e_int a_nil))) (an_cons (e_var 6) an_nil)))))) (LamX.lamS_by (sc := defScope s_u_law_right) (by decide +kernel))))
    (ss_cons (s_app (e_var 7) (e_lamcall (k := 5) (fz := true) T.F_u_law_heard T.g_u_law_heard sc_u_law_heard T.b_u_law_heard (lamG_u_law_heard T (j := 1) (hr.mono (by decide))) T.tb_u_law_right T.tm_u_law_right T.tu_u_law_right (hr.mono (by decide)) (fun A outer s H E f c' hr tk => (have hu := Sim.hu_of hr; have hu64 := hr.units; (e_call tk (ok_after_times T) (hr.mono (by decide)) T.g_after_times T.F_after_times.kp T.b_after_times (an_cons (e_var 1) (an_cons (e_op o_mulX (e_tup (a_cons e_int a_nil)) e_int) (an_cons (e_op o_subI (e_op o_pow e_int e_int) e_int) an_nil)))))) (LamX.lamS_by (sc := defScope s_u_law_right) (by decide +kernel))))
    (ss_one (s_ret (e_cmp (o_eq hu64) (e_var 7) (e_op o_add (e_var 8) (e_lst (a_cons e_str (a_cons e_str (a_cons (e_op o_add e_str (e_callB (b_repr hr.gd hr.units) T.n_repr (a_cons (e_var 6) a_nil))) (a_cons e_str a_nil)))))))))))))))))))))))))))
theorem sc_law : FnScope ["script", "spot", "shift", "turn", "real"] ["script"] (defScope s_law) := ⟨rfl, rfl, rfl, by decide +kernel, rfl, by decide +kernel, by decide +kernel⟩
theorem ok_law (T : Top K mg base a) : Sim.FnOk P w K mg base (L2.CX P w) 10 T.p_law T.d_law ["script"] (spS K 1 (D_law a)) := by
  refine sim_fn true T.F_law sc_law fun cdv A outer s H E hcd hr tk hp => ?_
  have hu := Sim.hu_of hr
  have hu64 := hr.units
  exact (ss_cons (s_for hp rfl (i_rng1 T.n_range (e_callB (b_max2 rfl) T.n_max (a_cons e_int (a_cons (e_callB (b_min2 rfl) T.n_min (a_cons e_int (a_cons (e_callB b_len T.n_len (a_cons (e_var 0) a_nil)) a_nil))) a_nil)))) (g_name 1 sc_law.nd) (ss_cons (s_set 2 sc_law.nd (e_gc (e_call tk (ok_u_law_pick T) (hr.mono (by decide)) T.g_u_law_pick T.F_u_law_pick.kp T.b_u_law_pick (an_cons (e_call tk (ok_u_law_bag T) (hr.mono (by decide)) T.g_u_law_bag T.F_u_law_bag.kp T.b_u_law_bag (an_cons (e_var 0) (an_cons (e_var 1) an_nil))) (an_cons e_int an_nil)))))
    (ss_one (s_for hp rfl (i_rng1 T.n_range e_int) (g_name 3 sc_law.nd) (ss_one (s_if (t_not (t_val (e_call tk (ok_u_law_right T) (hr.mono (by decide)) T.g_u_law_right T.F_u_law_right.kp T.b_u_law_right (an_cons (e_op o_add (e_var 2) (e_var 3)) an_nil)))) (ss_one (s_ret e_bl)) ss_nil))))))
    (ss_cons (s_set 4 sc_law.nd (e_make true tk T.mk_Reader (ok_m_Reader_init T) (hr.mono (by decide)) T.g_Reader T.b_m_Reader_init rfl (an_cons e_int (an_cons (e_tup (a_cons (e_tup (a_cons e_int (a_cons e_int a_nil))) (a_cons (e_tup (a_cons e_int (a_cons e_int a_nil))) a_nil))) (an_cons (e_tup (a_cons e_int a_nil)) an_nil)))))
    (ss_one (s_ret (e_cmp (o_eq hu64) (e_lst (a_cons (e_call tk (ok_after_times T) (hr.mono (by decide)) T.g_after_times T.F_after_times.kp T.b_after_times (an_cons (e_var 4) (an_cons (e_tup (a_cons e_int a_nil)) (an_cons (e_op o_subI (e_op o_pow e_int e_int) e_int) an_nil)))) (a_cons (e_call tk (ok_word_count T) (hr.mono (by decide)) T.g_word_count T.F_word_count.kp T.b_word_count (an_cons (e_var 4) (an_cons e_int an_nil))) (a_cons (e_call tk (ok_words T) (hr.mono (by decide)) T.g_words T.F_words.kp T.b_words (an_cons (e_var 4) (an_cons e_int an_nil))) a_nil)))) (e_lst (a_cons e_int (a_cons e_int (a_cons (e_tup (a_cons (e_tup (a_cons e_int a_nil)) a_nil)) a_nil)))))))))
end
end My

set_option Elab.async false
set_option linter.all false
set_option maxRecDepth 100000
set_option maxHeartbeats 4000000
namespace My
open PySem L2 Sim
variable (a : Ads) (hb : SHp)

def bag (hb : SHp) (z m c : Int) : SHp := hb ++ [.lst [.int z, .int m, .int c]]
structure Bag (k : Nat) (z m c : Int) : Prop where
  z0 : 0 ≤ z
  m0 : 0 ≤ m
  m1 : m < 2 ^ 80
  c0 : 0 ≤ c
  c1 : c ≤ k
theorem Bag.mono {k l : Nat} {z m c : Int} (b : Bag k z m c) (h : k ≤ l) : Bag l z m c := ⟨b.z0, b.m0, b.m1, b.c0, by have := b.c1; omega⟩
theorem log_lt {x : Int} {n : Nat} (h0 : 0 ≤ x) (h : x < 2 ^ n) (hn : 0 < n) : x.natAbs.log2 < n := by
  obtain ⟨y, rfl⟩ := Int.eq_ofNat_of_zero_le h0
  by_cases c : y = 0
  · subst c; simp; exact hn
  · have : y < 2 ^ n := by exact_mod_cast h
    exact (Nat.log2_lt c).mpr this
theorem mul_ok {i j : Int} {h : SHp} (h0 : 0 ≤ i) (h1 : i < 2 ^ 400) (h2 : 0 ≤ j) (h3 : j < 2 ^ 400) : mulX (.int i) (.int j) h = some (.int (i * j)) := by
  have a := log_lt h0 h1 (by omega)
  have b := log_lt h2 h3 (by omega)
  simp only [mulX, mulI, op2I]
  rw [if_pos (by unfold L2.CMulW; omega)]
theorem mod_ok {i j : Int} {h : SHp} (h0 : 0 < j) : modI (.int i) (.int j) h = some (.int (i % j)) := by
  simp only [modI, op2I]
  rw [if_pos (by omega), Int.fmod_eq_emod_of_nonneg _ (by omega)]
theorem div_ok {i j : Int} {h : SHp} (h0 : 0 < j) (h1 : j < 2 ^ 400) : divI (.int i) (.int j) h = some (.int (i / j)) := by
  have a := log_lt (by omega) h1 (by omega)
  simp only [divI, op2I]
  rw [if_pos (by unfold L2.CDivW; omega)]
theorem bag_ix0 (z m c : Int) : ixF (.ref hb.length) (.int 0) (bag hb z m c) = some (.int z) := by unfold bag; rw [ixr0]; rfl
theorem bag_ix1 (z m c : Int) : ixF (.ref hb.length) (.int 1) (bag hb z m c) = some (.int m) := by unfold bag; rw [ixr0]; rfl
theorem bag_ix2 (z m c : Int) : ixF (.ref hb.length) (.int 2) (bag hb z m c) = some (.int c) := by unfold bag; rw [ixr0]; rfl
def sS (e : Sim.Env) (v w q : SV) (h3 : SHp) : SR := match w, q with
  | .ref n, .int k => match h3[n]? with
    | some (.lst xs) => match ixN xs.length k with
      | some j => .nx e (h3.set n (.lst (xs.set j v)))
      | none => .stuck
    | _ => .stuck
  | _, _ => .stuck
theorem ev_six {o i c : Sim.Env → M SV} {e : Sim.Env} {h : SHp} : cSetIx o i c e h = Res.sr (c e h) e fun v h => Res.sr (o e h) e fun w h => Res.sr (i e h) e fun q h => sS e v w q h := by
  unfold cSetIx; rw [ev_onV]; congr 1; funext v h; rw [ev_onV]; congr 1; funext w h; rw [ev_onV]; rfl
theorem bag_set0 (e : Sim.Env) (v z m c : Int) : sS e (.int v) (.ref hb.length) (.int 0) (bag hb z m c) = .nx e (bag hb v m c) := by unfold sS bag; simp only [hp_get0, show ixN [SV.int z, SV.int m, SV.int c].length 0 = some 0 from rfl, hp_set0]; rfl
theorem bag_set2 (e : Sim.Env) (v z m c : Int) : sS e (.int v) (.ref hb.length) (.int 2) (bag hb z m c) = .nx e (bag hb z m v) := by unfold sS bag; simp only [hp_get0, show ixN [SV.int z, SV.int m, SV.int c].length 2 = some 2 from rfl, hp_set0]; rfl
theorem v_pick {k : Nat} {z m c : Int} (b : Bag k z m c) (hk : k < 2 ^ 80) (t : Int) (t0 : 0 < t) (t1 : t < 2 ^ 80) : ∃ z' c' p, D_u_law_pick a [.ref hb.length, .int t] (bag hb z m c) = .ok (.int p) (bag hb z' m c') ∧ 0 ≤ p ∧ p < t ∧ Bag (k + 1) z' m c' := by
  obtain ⟨z0, m0, m1, c0, c1⟩ := b
  have gl : ∀ v z' c', gc true (bag hb z m c) v (bag hb z' m c') = .ok v (bag hb z' m c') := fun v z' c' => gc_len (by simp [bag])
  by_cases d : 0 < z
  · refine ⟨z / t, c, z % t, ?_, Int.emod_nonneg _ (by omega), Int.emod_lt_of_pos _ t0, ⟨Int.ediv_nonneg z0 (by omega), m0, m1, c0, by omega⟩⟩
    simp only [D_u_law_pick, B_u_law_pick]
    ((try simp -implicitDefEqProofs only [ev_fn, fin_rt, fin_nx, fin_err, ev_seq, sq_nx, sq_rt, sq_err, ev_cNil, ev_set, ev_expr, ev_rt, ev_rtN, ev_if, ev_for, ev_asg, gt_some, ev_onV, ev_onB, bd_ok, bd_err, sr_ok, sr_err, bk_bl, ik_int, of_some, ev_ret, ev_bind, ev_var, ev_C, ev_op, ev_call, ev_cb, ev_tst, ev_eTst, ev_and, ev_or, ev_not, ev_eIf, ev_bAnd, ev_bOr, ev_bNot, ev_chain, ev_nil, ev_cons, ev_tup, ev_lst, ev_new, ev_neg, ev_fld, ev_sl, ev_oNo, ev_oYes, ev_bTrue, ev_lc, ev_it, ev_rng, ev_enum, lt_int, le_int, gt_int, ge_int, add_int, sub_int, gN_ap, isNoneF, notNoneF, List.map_cons, List.map_nil, List.cons_append, List.nil_append, List.append_nil, List.length_cons, List.length_nil, List.length_map, wipeE, Nat.reduceAdd, Nat.reduceSub, Nat.reduceLeDiff, List.replicate, List.getElem?_cons_zero, List.getElem?_cons_succ, Option.join_some, Option.join_none, List.set_cons_zero, List.set_cons_succ, gc_same, decide_true, decide_false, ev_fldS, ev_put, ev_app, if_true, if_false, ite_true, ite_false, Bool.false_eq_true, Bool.not_true, Bool.not_false, reduceIte, sizeLine_eq, ev_notT, ev_tru, ev_rev, ev_srtSet, ev_fmtS, ev_joinS_nil, ev_joinS, ev_eqO, ev_strO]); repeat (simp -implicitDefEqProofs only [bag_ix0]; (try simp -implicitDefEqProofs only [ev_fn, fin_rt, fin_nx, fin_err, ev_seq, sq_nx, sq_rt, sq_err, ev_cNil, ev_set, ev_expr, ev_rt, ev_rtN, ev_if, ev_for, ev_asg, gt_some, ev_onV, ev_onB, bd_ok, bd_err, sr_ok, sr_err, bk_bl, ik_int, of_some, ev_ret, ev_bind, ev_var, ev_C, ev_op, ev_call, ev_cb, ev_tst, ev_eTst, ev_and, ev_or, ev_not, ev_eIf, ev_bAnd, ev_bOr, ev_bNot, ev_chain, ev_nil, ev_cons, ev_tup, ev_lst, ev_new, ev_neg, ev_fld, ev_sl, ev_oNo, ev_oYes, ev_bTrue, ev_lc, ev_it, ev_rng, ev_enum, lt_int, le_int, gt_int, ge_int, add_int, sub_int, gN_ap, isNoneF, notNoneF, List.map_cons, List.map_nil, List.cons_append, List.nil_append, List.append_nil, List.length_cons, List.length_nil, List.length_map, wipeE, Nat.reduceAdd, Nat.reduceSub, Nat.reduceLeDiff, List.replicate, List.getElem?_cons_zero, List.getElem?_cons_succ, Option.join_some, Option.join_none, List.set_cons_zero, List.set_cons_succ, gc_same, decide_true, decide_false, ev_fldS, ev_put, ev_app, if_true, if_false, ite_true, ite_false, Bool.false_eq_true, Bool.not_true, Bool.not_false, reduceIte, sizeLine_eq, ev_notT, ev_tru, ev_rev, ev_srtSet, ev_fmtS, ev_joinS_nil, ev_joinS, ev_eqO, ev_strO])))
    rw [decide_eq_true d]
    ((try simp -implicitDefEqProofs only [ev_fn, fin_rt, fin_nx, fin_err, ev_seq, sq_nx, sq_rt, sq_err, ev_cNil, ev_set, ev_expr, ev_rt, ev_rtN, ev_if, ev_for, ev_asg, gt_some, ev_onV, ev_onB, bd_ok, bd_err, sr_ok, sr_err, bk_bl, ik_int, of_some, ev_ret, ev_bind, ev_var, ev_C, ev_op, ev_call, ev_cb, ev_tst, ev_eTst, ev_and, ev_or, ev_not, ev_eIf, ev_bAnd, ev_bOr, ev_bNot, ev_chain, ev_nil, ev_cons, ev_tup, ev_lst, ev_new, ev_neg, ev_fld, ev_sl, ev_oNo, ev_oYes, ev_bTrue, ev_lc, ev_it, ev_rng, ev_enum, lt_int, le_int, gt_int, ge_int, add_int, sub_int, gN_ap, isNoneF, notNoneF, List.map_cons, List.map_nil, List.cons_append, List.nil_append, List.append_nil, List.length_cons, List.length_nil, List.length_map, wipeE, Nat.reduceAdd, Nat.reduceSub, Nat.reduceLeDiff, List.replicate, List.getElem?_cons_zero, List.getElem?_cons_succ, Option.join_some, Option.join_none, List.set_cons_zero, List.set_cons_succ, gc_same, decide_true, decide_false, ev_fldS, ev_put, ev_app, if_true, if_false, ite_true, ite_false, Bool.false_eq_true, Bool.not_true, Bool.not_false, reduceIte, sizeLine_eq, ev_notT, ev_tru, ev_rev, ev_srtSet, ev_fmtS, ev_joinS_nil, ev_joinS, ev_eqO, ev_strO]); repeat (simp -implicitDefEqProofs only [bag_ix0, int_int, mod_ok t0, div_ok t0 (by omega), ev_six, bag_set0, gl]; (try simp -implicitDefEqProofs only [ev_fn, fin_rt, fin_nx, fin_err, ev_seq, sq_nx, sq_rt, sq_err, ev_cNil, ev_set, ev_expr, ev_rt, ev_rtN, ev_if, ev_for, ev_asg, gt_some, ev_onV, ev_onB, bd_ok, bd_err, sr_ok, sr_err, bk_bl, ik_int, of_some, ev_ret, ev_bind, ev_var, ev_C, ev_op, ev_call, ev_cb, ev_tst, ev_eTst, ev_and, ev_or, ev_not, ev_eIf, ev_bAnd, ev_bOr, ev_bNot, ev_chain, ev_nil, ev_cons, ev_tup, ev_lst, ev_new, ev_neg, ev_fld, ev_sl, ev_oNo, ev_oYes, ev_bTrue, ev_lc, ev_it, ev_rng, ev_enum, lt_int, le_int, gt_int, ge_int, add_int, sub_int, gN_ap, isNoneF, notNoneF, List.map_cons, List.map_nil, List.cons_append, List.nil_append, List.append_nil, List.length_cons, List.length_nil, List.length_map, wipeE, Nat.reduceAdd, Nat.reduceSub, Nat.reduceLeDiff, List.replicate, List.getElem?_cons_zero, List.getElem?_cons_succ, Option.join_some, Option.join_none, List.set_cons_zero, List.set_cons_succ, gc_same, decide_true, decide_false, ev_fldS, ev_put, ev_app, if_true, if_false, ite_true, ite_false, Bool.false_eq_true, Bool.not_true, Bool.not_false, reduceIte, sizeLine_eq, ev_notT, ev_tru, ev_rev, ev_srtSet, ev_fmtS, ev_joinS_nil, ev_joinS, ev_eqO, ev_strO])))
  · have k80 : c + 1 < 2 ^ 81 := by omega
    have A0 : 0 ≤ (m + 49979693 * (c + 1)) % 2305843009213693951 := Int.emod_nonneg _ (by omega)
    have A1 : (m + 49979693 * (c + 1)) % 2305843009213693951 < 2305843009213693951 := Int.emod_lt_of_pos _ (by omega)
    generalize hA : (m + 49979693 * (c + 1)) % 2305843009213693951 = A at *
    have B0 : 0 ≤ (A * A + 127 * (c + 1)) % 2305843009213693921 := Int.emod_nonneg _ (by omega)
    have B1 : (A * A + 127 * (c + 1)) % 2305843009213693921 < 2305843009213693921 := Int.emod_lt_of_pos _ (by omega)
    refine ⟨z, c + 1, (((A * A + 127 * (c + 1)) % 2305843009213693921 * 32452847 + A) / 65551) % t, ?_, Int.emod_nonneg _ (by omega), Int.emod_lt_of_pos _ t0, ⟨z0, m0, m1, by omega, by omega⟩⟩
    simp only [D_u_law_pick, B_u_law_pick]
    ((try simp -implicitDefEqProofs only [ev_fn, fin_rt, fin_nx, fin_err, ev_seq, sq_nx, sq_rt, sq_err, ev_cNil, ev_set, ev_expr, ev_rt, ev_rtN, ev_if, ev_for, ev_asg, gt_some, ev_onV, ev_onB, bd_ok, bd_err, sr_ok, sr_err, bk_bl, ik_int, of_some, ev_ret, ev_bind, ev_var, ev_C, ev_op, ev_call, ev_cb, ev_tst, ev_eTst, ev_and, ev_or, ev_not, ev_eIf, ev_bAnd, ev_bOr, ev_bNot, ev_chain, ev_nil, ev_cons, ev_tup, ev_lst, ev_new, ev_neg, ev_fld, ev_sl, ev_oNo, ev_oYes, ev_bTrue, ev_lc, ev_it, ev_rng, ev_enum, lt_int, le_int, gt_int, ge_int, add_int, sub_int, gN_ap, isNoneF, notNoneF, List.map_cons, List.map_nil, List.cons_append, List.nil_append, List.append_nil, List.length_cons, List.length_nil, List.length_map, wipeE, Nat.reduceAdd, Nat.reduceSub, Nat.reduceLeDiff, List.replicate, List.getElem?_cons_zero, List.getElem?_cons_succ, Option.join_some, Option.join_none, List.set_cons_zero, List.set_cons_succ, gc_same, decide_true, decide_false, ev_fldS, ev_put, ev_app, if_true, if_false, ite_true, ite_false, Bool.false_eq_true, Bool.not_true, Bool.not_false, reduceIte, sizeLine_eq, ev_notT, ev_tru, ev_rev, ev_srtSet, ev_fmtS, ev_joinS_nil, ev_joinS, ev_eqO, ev_strO]); repeat (simp -implicitDefEqProofs only [bag_ix0]; (try simp -implicitDefEqProofs only [ev_fn, fin_rt, fin_nx, fin_err, ev_seq, sq_nx, sq_rt, sq_err, ev_cNil, ev_set, ev_expr, ev_rt, ev_rtN, ev_if, ev_for, ev_asg, gt_some, ev_onV, ev_onB, bd_ok, bd_err, sr_ok, sr_err, bk_bl, ik_int, of_some, ev_ret, ev_bind, ev_var, ev_C, ev_op, ev_call, ev_cb, ev_tst, ev_eTst, ev_and, ev_or, ev_not, ev_eIf, ev_bAnd, ev_bOr, ev_bNot, ev_chain, ev_nil, ev_cons, ev_tup, ev_lst, ev_new, ev_neg, ev_fld, ev_sl, ev_oNo, ev_oYes, ev_bTrue, ev_lc, ev_it, ev_rng, ev_enum, lt_int, le_int, gt_int, ge_int, add_int, sub_int, gN_ap, isNoneF, notNoneF, List.map_cons, List.map_nil, List.cons_append, List.nil_append, List.append_nil, List.length_cons, List.length_nil, List.length_map, wipeE, Nat.reduceAdd, Nat.reduceSub, Nat.reduceLeDiff, List.replicate, List.getElem?_cons_zero, List.getElem?_cons_succ, Option.join_some, Option.join_none, List.set_cons_zero, List.set_cons_succ, gc_same, decide_true, decide_false, ev_fldS, ev_put, ev_app, if_true, if_false, ite_true, ite_false, Bool.false_eq_true, Bool.not_true, Bool.not_false, reduceIte, sizeLine_eq, ev_notT, ev_tru, ev_rev, ev_srtSet, ev_fmtS, ev_joinS_nil, ev_joinS, ev_eqO, ev_strO])))
    rw [decide_eq_false d]
    ((try simp -implicitDefEqProofs only [ev_fn, fin_rt, fin_nx, fin_err, ev_seq, sq_nx, sq_rt, sq_err, ev_cNil, ev_set, ev_expr, ev_rt, ev_rtN, ev_if, ev_for, ev_asg, gt_some, ev_onV, ev_onB, bd_ok, bd_err, sr_ok, sr_err, bk_bl, ik_int, of_some, ev_ret, ev_bind, ev_var, ev_C, ev_op, ev_call, ev_cb, ev_tst, ev_eTst, ev_and, ev_or, ev_not, ev_eIf, ev_bAnd, ev_bOr, ev_bNot, ev_chain, ev_nil, ev_cons, ev_tup, ev_lst, ev_new, ev_neg, ev_fld, ev_sl, ev_oNo, ev_oYes, ev_bTrue, ev_lc, ev_it, ev_rng, ev_enum, lt_int, le_int, gt_int, ge_int, add_int, sub_int, gN_ap, isNoneF, notNoneF, List.map_cons, List.map_nil, List.cons_append, List.nil_append, List.append_nil, List.length_cons, List.length_nil, List.length_map, wipeE, Nat.reduceAdd, Nat.reduceSub, Nat.reduceLeDiff, List.replicate, List.getElem?_cons_zero, List.getElem?_cons_succ, Option.join_some, Option.join_none, List.set_cons_zero, List.set_cons_succ, gc_same, decide_true, decide_false, ev_fldS, ev_put, ev_app, if_true, if_false, ite_true, ite_false, Bool.false_eq_true, Bool.not_true, Bool.not_false, reduceIte, sizeLine_eq, ev_notT, ev_tru, ev_rev, ev_srtSet, ev_fmtS, ev_joinS_nil, ev_joinS, ev_eqO, ev_strO]); repeat (simp -implicitDefEqProofs only [bag_ix2, ev_six, bag_set2]; (try simp -implicitDefEqProofs only [ev_fn, fin_rt, fin_nx, fin_err, ev_seq, sq_nx, sq_rt, sq_err, ev_cNil, ev_set, ev_expr, ev_rt, ev_rtN, ev_if, ev_for, ev_asg, gt_some, ev_onV, ev_onB, bd_ok, bd_err, sr_ok, sr_err, bk_bl, ik_int, of_some, ev_ret, ev_bind, ev_var, ev_C, ev_op, ev_call, ev_cb, ev_tst, ev_eTst, ev_and, ev_or, ev_not, ev_eIf, ev_bAnd, ev_bOr, ev_bNot, ev_chain, ev_nil, ev_cons, ev_tup, ev_lst, ev_new, ev_neg, ev_fld, ev_sl, ev_oNo, ev_oYes, ev_bTrue, ev_lc, ev_it, ev_rng, ev_enum, lt_int, le_int, gt_int, ge_int, add_int, sub_int, gN_ap, isNoneF, notNoneF, List.map_cons, List.map_nil, List.cons_append, List.nil_append, List.append_nil, List.length_cons, List.length_nil, List.length_map, wipeE, Nat.reduceAdd, Nat.reduceSub, Nat.reduceLeDiff, List.replicate, List.getElem?_cons_zero, List.getElem?_cons_succ, Option.join_some, Option.join_none, List.set_cons_zero, List.set_cons_succ, gc_same, decide_true, decide_false, ev_fldS, ev_put, ev_app, if_true, if_false, ite_true, ite_false, Bool.false_eq_true, Bool.not_true, Bool.not_false, reduceIte, sizeLine_eq, ev_notT, ev_tru, ev_rev, ev_srtSet, ev_fmtS, ev_joinS_nil, ev_joinS, ev_eqO, ev_strO])))
    ((try simp -implicitDefEqProofs only [ev_fn, fin_rt, fin_nx, fin_err, ev_seq, sq_nx, sq_rt, sq_err, ev_cNil, ev_set, ev_expr, ev_rt, ev_rtN, ev_if, ev_for, ev_asg, gt_some, ev_onV, ev_onB, bd_ok, bd_err, sr_ok, sr_err, bk_bl, ik_int, of_some, ev_ret, ev_bind, ev_var, ev_C, ev_op, ev_call, ev_cb, ev_tst, ev_eTst, ev_and, ev_or, ev_not, ev_eIf, ev_bAnd, ev_bOr, ev_bNot, ev_chain, ev_nil, ev_cons, ev_tup, ev_lst, ev_new, ev_neg, ev_fld, ev_sl, ev_oNo, ev_oYes, ev_bTrue, ev_lc, ev_it, ev_rng, ev_enum, lt_int, le_int, gt_int, ge_int, add_int, sub_int, gN_ap, isNoneF, notNoneF, List.map_cons, List.map_nil, List.cons_append, List.nil_append, List.append_nil, List.length_cons, List.length_nil, List.length_map, wipeE, Nat.reduceAdd, Nat.reduceSub, Nat.reduceLeDiff, List.replicate, List.getElem?_cons_zero, List.getElem?_cons_succ, Option.join_some, Option.join_none, List.set_cons_zero, List.set_cons_succ, gc_same, decide_true, decide_false, ev_fldS, ev_put, ev_app, if_true, if_false, ite_true, ite_false, Bool.false_eq_true, Bool.not_true, Bool.not_false, reduceIte, sizeLine_eq, ev_notT, ev_tru, ev_rev, ev_srtSet, ev_fmtS, ev_joinS_nil, ev_joinS, ev_eqO, ev_strO]); repeat (simp -implicitDefEqProofs only [bag_ix1, bag_ix2, mul_ok (i := 49979693) (j := c + 1) (by omega) (by omega) (by omega) (by omega), int_int, mod_ok (j := 2305843009213693951) (by omega), hA]; (try simp -implicitDefEqProofs only [ev_fn, fin_rt, fin_nx, fin_err, ev_seq, sq_nx, sq_rt, sq_err, ev_cNil, ev_set, ev_expr, ev_rt, ev_rtN, ev_if, ev_for, ev_asg, gt_some, ev_onV, ev_onB, bd_ok, bd_err, sr_ok, sr_err, bk_bl, ik_int, of_some, ev_ret, ev_bind, ev_var, ev_C, ev_op, ev_call, ev_cb, ev_tst, ev_eTst, ev_and, ev_or, ev_not, ev_eIf, ev_bAnd, ev_bOr, ev_bNot, ev_chain, ev_nil, ev_cons, ev_tup, ev_lst, ev_new, ev_neg, ev_fld, ev_sl, ev_oNo, ev_oYes, ev_bTrue, ev_lc, ev_it, ev_rng, ev_enum, lt_int, le_int, gt_int, ge_int, add_int, sub_int, gN_ap, isNoneF, notNoneF, List.map_cons, List.map_nil, List.cons_append, List.nil_append, List.append_nil, List.length_cons, List.length_nil, List.length_map, wipeE, Nat.reduceAdd, Nat.reduceSub, Nat.reduceLeDiff, List.replicate, List.getElem?_cons_zero, List.getElem?_cons_succ, Option.join_some, Option.join_none, List.set_cons_zero, List.set_cons_succ, gc_same, decide_true, decide_false, ev_fldS, ev_put, ev_app, if_true, if_false, ite_true, ite_false, Bool.false_eq_true, Bool.not_true, Bool.not_false, reduceIte, sizeLine_eq, ev_notT, ev_tru, ev_rev, ev_srtSet, ev_fmtS, ev_joinS_nil, ev_joinS, ev_eqO, ev_strO])))
    ((try simp -implicitDefEqProofs only [ev_fn, fin_rt, fin_nx, fin_err, ev_seq, sq_nx, sq_rt, sq_err, ev_cNil, ev_set, ev_expr, ev_rt, ev_rtN, ev_if, ev_for, ev_asg, gt_some, ev_onV, ev_onB, bd_ok, bd_err, sr_ok, sr_err, bk_bl, ik_int, of_some, ev_ret, ev_bind, ev_var, ev_C, ev_op, ev_call, ev_cb, ev_tst, ev_eTst, ev_and, ev_or, ev_not, ev_eIf, ev_bAnd, ev_bOr, ev_bNot, ev_chain, ev_nil, ev_cons, ev_tup, ev_lst, ev_new, ev_neg, ev_fld, ev_sl, ev_oNo, ev_oYes, ev_bTrue, ev_lc, ev_it, ev_rng, ev_enum, lt_int, le_int, gt_int, ge_int, add_int, sub_int, gN_ap, isNoneF, notNoneF, List.map_cons, List.map_nil, List.cons_append, List.nil_append, List.append_nil, List.length_cons, List.length_nil, List.length_map, wipeE, Nat.reduceAdd, Nat.reduceSub, Nat.reduceLeDiff, List.replicate, List.getElem?_cons_zero, List.getElem?_cons_succ, Option.join_some, Option.join_none, List.set_cons_zero, List.set_cons_succ, gc_same, decide_true, decide_false, ev_fldS, ev_put, ev_app, if_true, if_false, ite_true, ite_false, Bool.false_eq_true, Bool.not_true, Bool.not_false, reduceIte, sizeLine_eq, ev_notT, ev_tru, ev_rev, ev_srtSet, ev_fmtS, ev_joinS_nil, ev_joinS, ev_eqO, ev_strO]); repeat (simp -implicitDefEqProofs only [mul_ok (i := A) (j := A) (by omega) (by omega) (by omega) (by omega), mul_ok (i := 127) (j := c + 1) (by omega) (by omega) (by omega) (by omega), bag_ix2, int_int, mod_ok (j := 2305843009213693921) (by omega)]; (try simp -implicitDefEqProofs only [ev_fn, fin_rt, fin_nx, fin_err, ev_seq, sq_nx, sq_rt, sq_err, ev_cNil, ev_set, ev_expr, ev_rt, ev_rtN, ev_if, ev_for, ev_asg, gt_some, ev_onV, ev_onB, bd_ok, bd_err, sr_ok, sr_err, bk_bl, ik_int, of_some, ev_ret, ev_bind, ev_var, ev_C, ev_op, ev_call, ev_cb, ev_tst, ev_eTst, ev_and, ev_or, ev_not, ev_eIf, ev_bAnd, ev_bOr, ev_bNot, ev_chain, ev_nil, ev_cons, ev_tup, ev_lst, ev_new, ev_neg, ev_fld, ev_sl, ev_oNo, ev_oYes, ev_bTrue, ev_lc, ev_it, ev_rng, ev_enum, lt_int, le_int, gt_int, ge_int, add_int, sub_int, gN_ap, isNoneF, notNoneF, List.map_cons, List.map_nil, List.cons_append, List.nil_append, List.append_nil, List.length_cons, List.length_nil, List.length_map, wipeE, Nat.reduceAdd, Nat.reduceSub, Nat.reduceLeDiff, List.replicate, List.getElem?_cons_zero, List.getElem?_cons_succ, Option.join_some, Option.join_none, List.set_cons_zero, List.set_cons_succ, gc_same, decide_true, decide_false, ev_fldS, ev_put, ev_app, if_true, if_false, ite_true, ite_false, Bool.false_eq_true, Bool.not_true, Bool.not_false, reduceIte, sizeLine_eq, ev_notT, ev_tru, ev_rev, ev_srtSet, ev_fmtS, ev_joinS_nil, ev_joinS, ev_eqO, ev_strO])))
    ((try simp -implicitDefEqProofs only [ev_fn, fin_rt, fin_nx, fin_err, ev_seq, sq_nx, sq_rt, sq_err, ev_cNil, ev_set, ev_expr, ev_rt, ev_rtN, ev_if, ev_for, ev_asg, gt_some, ev_onV, ev_onB, bd_ok, bd_err, sr_ok, sr_err, bk_bl, ik_int, of_some, ev_ret, ev_bind, ev_var, ev_C, ev_op, ev_call, ev_cb, ev_tst, ev_eTst, ev_and, ev_or, ev_not, ev_eIf, ev_bAnd, ev_bOr, ev_bNot, ev_chain, ev_nil, ev_cons, ev_tup, ev_lst, ev_new, ev_neg, ev_fld, ev_sl, ev_oNo, ev_oYes, ev_bTrue, ev_lc, ev_it, ev_rng, ev_enum, lt_int, le_int, gt_int, ge_int, add_int, sub_int, gN_ap, isNoneF, notNoneF, List.map_cons, List.map_nil, List.cons_append, List.nil_append, List.append_nil, List.length_cons, List.length_nil, List.length_map, wipeE, Nat.reduceAdd, Nat.reduceSub, Nat.reduceLeDiff, List.replicate, List.getElem?_cons_zero, List.getElem?_cons_succ, Option.join_some, Option.join_none, List.set_cons_zero, List.set_cons_succ, gc_same, decide_true, decide_false, ev_fldS, ev_put, ev_app, if_true, if_false, ite_true, ite_false, Bool.false_eq_true, Bool.not_true, Bool.not_false, reduceIte, sizeLine_eq, ev_notT, ev_tru, ev_rev, ev_srtSet, ev_fmtS, ev_joinS_nil, ev_joinS, ev_eqO, ev_strO]); repeat (simp -implicitDefEqProofs only [mul_ok (j := 32452847) B0 (by omega) (by omega) (by omega), div_ok (j := 65551) (by omega) (by omega), int_int, mod_ok t0, gl]; (try simp -implicitDefEqProofs only [ev_fn, fin_rt, fin_nx, fin_err, ev_seq, sq_nx, sq_rt, sq_err, ev_cNil, ev_set, ev_expr, ev_rt, ev_rtN, ev_if, ev_for, ev_asg, gt_some, ev_onV, ev_onB, bd_ok, bd_err, sr_ok, sr_err, bk_bl, ik_int, of_some, ev_ret, ev_bind, ev_var, ev_C, ev_op, ev_call, ev_cb, ev_tst, ev_eTst, ev_and, ev_or, ev_not, ev_eIf, ev_bAnd, ev_bOr, ev_bNot, ev_chain, ev_nil, ev_cons, ev_tup, ev_lst, ev_new, ev_neg, ev_fld, ev_sl, ev_oNo, ev_oYes, ev_bTrue, ev_lc, ev_it, ev_rng, ev_enum, lt_int, le_int, gt_int, ge_int, add_int, sub_int, gN_ap, isNoneF, notNoneF, List.map_cons, List.map_nil, List.cons_append, List.nil_append, List.append_nil, List.length_cons, List.length_nil, List.length_map, wipeE, Nat.reduceAdd, Nat.reduceSub, Nat.reduceLeDiff, List.replicate, List.getElem?_cons_zero, List.getElem?_cons_succ, Option.join_some, Option.join_none, List.set_cons_zero, List.set_cons_succ, gc_same, decide_true, decide_false, ev_fldS, ev_put, ev_app, if_true, if_false, ite_true, ite_false, Bool.false_eq_true, Bool.not_true, Bool.not_false, reduceIte, sizeLine_eq, ev_notT, ev_tru, ev_rev, ev_srtSet, ev_fmtS, ev_joinS_nil, ev_joinS, ev_eqO, ev_strO])))

theorem v_pickN {k : Nat} {z m c : Int} (b : Bag k z m c) (hk : k < 2 ^ 80) (t : Nat) (t0 : 0 < t) (t1 : t < 2 ^ 80) : ∃ z' c', ∃ p : Nat, D_u_law_pick a [.ref hb.length, nv t] (bag hb z m c) = .ok (nv p) (bag hb z' m c') ∧ p < t ∧ Bag (k + 1) z' m c' := by
  obtain ⟨z', c', p, q, p0, p1, b'⟩ := v_pick a hb b hk t (by omega) (by omega)
  obtain ⟨y, rfl⟩ := Int.eq_ofNat_of_zero_le p0
  exact ⟨z', c', y, q, by omega, b'⟩

theorem p56 (h : SHp) : powF (.int 10) (.int 56) h = some (.int 100000000000000000000000000000000000000000000000000000000) := by
  simp only [powF, op2I]; rw [if_pos (by decide)]; rfl
def P336 : Int := 100000000000000000000000000000000000000000000000000000000 ^ 6
theorem p336 (h : SHp) : powF (.int 100000000000000000000000000000000000000000000000000000000) (.int 6) h = some (.int P336) := by
  simp only [powF, op2I]; rw [if_pos (by decide)]; rfl
theorem P336_pos : 0 < P336 := by decide
theorem p16 (h : SHp) : powF (.int 10) (.int 16) h = some (.int 10000000000000000) := by
  simp only [powF, op2I]; rw [if_pos (by decide)]; rfl
theorem abs_int (i : Int) (h : SHp) : absF [.int i] h = some (.int (if i < 0 then -i else i)) := rfl
theorem int_bl (b : Bool) (h : SHp) : intF [.bl b] h = some (.int (if b then 1 else 0)) := rfl
theorem max_int (i j : Int) (h : SHp) : max2F [.int i, .int j] h = some (.int (if j > i then j else i)) := rfl
theorem min_int (i j : Int) (h : SHp) : min2F [.int i, .int j] h = some (.int (if j < i then j else i)) := rfl
theorem len_frl (xs : List SV) (h : SHp) : lenF [.frl xs] h = some (.int xs.length) := by simp [lenF, seqOf, Sim.listOf]
theorem v_bag (ns : List Int) (spot : Nat) (hs : spot < 3) : ∃ z m, D_u_law_bag a [.frl (ns.map SV.int), nv spot] hb = .ok (.ref hb.length) (bag hb z m 0) ∧ Bag 0 z m 0 := by
  have gl : ∀ z m : Int, gc false hb (.ref hb.length) (hb ++ [.lst [.int z, .int m, .int 0]]) = .ok (.ref hb.length) (bag hb z m 0) := fun z m => by
    unfold gc
    rw [if_neg (by simp), if_pos (gcOk_app _ _), if_neg (by simp [SV.okr])]
    simp only [hp_get0]
    rw [if_neg (by simp)]; rfl
  have key : ∀ cell : Int, ∀ e0 : Option SV, ∃ z m, fin false hb ((cSeq (cSet 3 (eOp modI (eCB intF (aCons (eCB absF (aCons (eVar 2) aNil)) aNil)) (eOp powF (eOp powF (eC (.int 10)) (eC (.int 56))) (eC (.int 6)))))
    (cSeq (cSet 4 (eOp addF (eOp addF (eOp addF (eOp mulX (eOp modI (eCB intF (aCons (eVar 3) aNil)) (eC (.int 2305843009213693723))) (eC (.int 79))) (eOp mulX (eC (.int 1009)) (eVar 1))) (eOp mulX (eC (.int 53)) (eCB intF (aCons (eOp ltI (eVar 2) (eC (.int 0))) aNil)))) (eC (.int 37))))
    (cRet (eNew (aCons (eCB max2F (aCons (eC (.int 0)) (aCons (eOp subI (eVar 3) (eOp powF (eC (.int 10)) (eC (.int 16)))) aNil))) (aCons (eVar 4) (aCons (eC (.int 0)) aNil))))))) [e0, some (nv spot), some (.int cell), none, none] hb) = .ok (.ref hb.length) (bag hb z m 0) ∧ Bag 0 z m 0 := by
    intro cell e0
    generalize hg : (if cell < 0 then -cell else cell) % P336 = G
    have G0 : 0 ≤ G := by rw [← hg]; exact Int.emod_nonneg _ (by have := P336_pos; omega)
    have M0 : 0 ≤ G % 2305843009213693723 := Int.emod_nonneg _ (by omega)
    have M1 : G % 2305843009213693723 < 2305843009213693723 := Int.emod_lt_of_pos _ (by omega)
    have S1 : (0 : Int) ≤ (if decide (cell < 0) = true then 1 else 0) ∧ (if decide (cell < 0) = true then 1 else 0) ≤ (1 : Int) := by split <;> omega
    generalize hS : (if decide (cell < 0) = true then (1 : Int) else 0) = S at S1
    generalize hM : G % 2305843009213693723 = M at M0 M1
    refine ⟨if 0 < G - 10000000000000000 then G - 10000000000000000 else 0, M * 79 + 1009 * (spot : Nat) + 53 * S + 37, ?_, ⟨by split <;> omega, by omega, by omega, by omega, by omega⟩⟩
    ((try simp -implicitDefEqProofs only [ev_fn, fin_rt, fin_nx, fin_err, ev_seq, sq_nx, sq_rt, sq_err, ev_cNil, ev_set, ev_expr, ev_rt, ev_rtN, ev_if, ev_for, ev_asg, gt_some, ev_onV, ev_onB, bd_ok, bd_err, sr_ok, sr_err, bk_bl, ik_int, of_some, ev_ret, ev_bind, ev_var, ev_C, ev_op, ev_call, ev_cb, ev_tst, ev_eTst, ev_and, ev_or, ev_not, ev_eIf, ev_bAnd, ev_bOr, ev_bNot, ev_chain, ev_nil, ev_cons, ev_tup, ev_lst, ev_new, ev_neg, ev_fld, ev_sl, ev_oNo, ev_oYes, ev_bTrue, ev_lc, ev_it, ev_rng, ev_enum, lt_int, le_int, gt_int, ge_int, add_int, sub_int, gN_ap, isNoneF, notNoneF, List.map_cons, List.map_nil, List.cons_append, List.nil_append, List.append_nil, List.length_cons, List.length_nil, List.length_map, wipeE, Nat.reduceAdd, Nat.reduceSub, Nat.reduceLeDiff, List.replicate, List.getElem?_cons_zero, List.getElem?_cons_succ, Option.join_some, Option.join_none, List.set_cons_zero, List.set_cons_succ, gc_same, decide_true, decide_false, ev_fldS, ev_put, ev_app, if_true, if_false, ite_true, ite_false, Bool.false_eq_true, Bool.not_true, Bool.not_false, reduceIte, sizeLine_eq, ev_notT, ev_tru, ev_rev, ev_srtSet, ev_fmtS, ev_joinS_nil, ev_joinS, ev_eqO, ev_strO]); repeat (simp -implicitDefEqProofs only [abs_int, int_int, p56, p336, mod_ok P336_pos, hg]; (try simp -implicitDefEqProofs only [ev_fn, fin_rt, fin_nx, fin_err, ev_seq, sq_nx, sq_rt, sq_err, ev_cNil, ev_set, ev_expr, ev_rt, ev_rtN, ev_if, ev_for, ev_asg, gt_some, ev_onV, ev_onB, bd_ok, bd_err, sr_ok, sr_err, bk_bl, ik_int, of_some, ev_ret, ev_bind, ev_var, ev_C, ev_op, ev_call, ev_cb, ev_tst, ev_eTst, ev_and, ev_or, ev_not, ev_eIf, ev_bAnd, ev_bOr, ev_bNot, ev_chain, ev_nil, ev_cons, ev_tup, ev_lst, ev_new, ev_neg, ev_fld, ev_sl, ev_oNo, ev_oYes, ev_bTrue, ev_lc, ev_it, ev_rng, ev_enum, lt_int, le_int, gt_int, ge_int, add_int, sub_int, gN_ap, isNoneF, notNoneF, List.map_cons, List.map_nil, List.cons_append, List.nil_append, List.append_nil, List.length_cons, List.length_nil, List.length_map, wipeE, Nat.reduceAdd, Nat.reduceSub, Nat.reduceLeDiff, List.replicate, List.getElem?_cons_zero, List.getElem?_cons_succ, Option.join_some, Option.join_none, List.set_cons_zero, List.set_cons_succ, gc_same, decide_true, decide_false, ev_fldS, ev_put, ev_app, if_true, if_false, ite_true, ite_false, Bool.false_eq_true, Bool.not_true, Bool.not_false, reduceIte, sizeLine_eq, ev_notT, ev_tru, ev_rev, ev_srtSet, ev_fmtS, ev_joinS_nil, ev_joinS, ev_eqO, ev_strO])))
    ((try simp -implicitDefEqProofs only [ev_fn, fin_rt, fin_nx, fin_err, ev_seq, sq_nx, sq_rt, sq_err, ev_cNil, ev_set, ev_expr, ev_rt, ev_rtN, ev_if, ev_for, ev_asg, gt_some, ev_onV, ev_onB, bd_ok, bd_err, sr_ok, sr_err, bk_bl, ik_int, of_some, ev_ret, ev_bind, ev_var, ev_C, ev_op, ev_call, ev_cb, ev_tst, ev_eTst, ev_and, ev_or, ev_not, ev_eIf, ev_bAnd, ev_bOr, ev_bNot, ev_chain, ev_nil, ev_cons, ev_tup, ev_lst, ev_new, ev_neg, ev_fld, ev_sl, ev_oNo, ev_oYes, ev_bTrue, ev_lc, ev_it, ev_rng, ev_enum, lt_int, le_int, gt_int, ge_int, add_int, sub_int, gN_ap, isNoneF, notNoneF, List.map_cons, List.map_nil, List.cons_append, List.nil_append, List.append_nil, List.length_cons, List.length_nil, List.length_map, wipeE, Nat.reduceAdd, Nat.reduceSub, Nat.reduceLeDiff, List.replicate, List.getElem?_cons_zero, List.getElem?_cons_succ, Option.join_some, Option.join_none, List.set_cons_zero, List.set_cons_succ, gc_same, decide_true, decide_false, ev_fldS, ev_put, ev_app, if_true, if_false, ite_true, ite_false, Bool.false_eq_true, Bool.not_true, Bool.not_false, reduceIte, sizeLine_eq, ev_notT, ev_tru, ev_rev, ev_srtSet, ev_fmtS, ev_joinS_nil, ev_joinS, ev_eqO, ev_strO]); repeat (simp -implicitDefEqProofs only [int_int, mod_ok (j := 2305843009213693723) (by omega), hM, mul_ok (i := M) (j := 79) (by omega) (by omega) (by omega) (by omega), mul_ok (i := 1009) (j := (spot : Nat)) (by omega) (by omega) (by omega) (by omega), int_bl, hS, mul_ok (i := 53) (j := S) (by omega) (by omega) (by omega) (by omega), p16, max_int]; (try simp -implicitDefEqProofs only [ev_fn, fin_rt, fin_nx, fin_err, ev_seq, sq_nx, sq_rt, sq_err, ev_cNil, ev_set, ev_expr, ev_rt, ev_rtN, ev_if, ev_for, ev_asg, gt_some, ev_onV, ev_onB, bd_ok, bd_err, sr_ok, sr_err, bk_bl, ik_int, of_some, ev_ret, ev_bind, ev_var, ev_C, ev_op, ev_call, ev_cb, ev_tst, ev_eTst, ev_and, ev_or, ev_not, ev_eIf, ev_bAnd, ev_bOr, ev_bNot, ev_chain, ev_nil, ev_cons, ev_tup, ev_lst, ev_new, ev_neg, ev_fld, ev_sl, ev_oNo, ev_oYes, ev_bTrue, ev_lc, ev_it, ev_rng, ev_enum, lt_int, le_int, gt_int, ge_int, add_int, sub_int, gN_ap, isNoneF, notNoneF, List.map_cons, List.map_nil, List.cons_append, List.nil_append, List.append_nil, List.length_cons, List.length_nil, List.length_map, wipeE, Nat.reduceAdd, Nat.reduceSub, Nat.reduceLeDiff, List.replicate, List.getElem?_cons_zero, List.getElem?_cons_succ, Option.join_some, Option.join_none, List.set_cons_zero, List.set_cons_succ, gc_same, decide_true, decide_false, ev_fldS, ev_put, ev_app, if_true, if_false, ite_true, ite_false, Bool.false_eq_true, Bool.not_true, Bool.not_false, reduceIte, sizeLine_eq, ev_notT, ev_tru, ev_rev, ev_srtSet, ev_fmtS, ev_joinS_nil, ev_joinS, ev_eqO, ev_strO])))
    exact gl _ _
  have st : ∃ cell : Int, cSet 2 (eIf (eTst (eOp ltI (eVar 1) (eCB lenF (aCons (eVar 0) aNil)))) (eCB intF (aCons (eOp ixF (eVar 0) (eVar 1)) aNil)) (eOp addF (eOp mulX (eC (.int 431)) (eVar 1)) (eC (.int 73)))) [some (.frl (ns.map SV.int)), some (nv spot), none, none, none] hb = .nx [some (.frl (ns.map SV.int)), some (nv spot), some (.int cell), none, none] hb := by
    by_cases c : spot < ns.length
    · refine ⟨ns[spot], ?_⟩
      have ix : ixF (.frl (ns.map SV.int)) (nv spot) hb = some (.int ns[spot]) := L2.atI_nat (by rw [List.getElem?_map, List.getElem?_eq_getElem c]; rfl)
      ((try simp -implicitDefEqProofs only [ev_fn, fin_rt, fin_nx, fin_err, ev_seq, sq_nx, sq_rt, sq_err, ev_cNil, ev_set, ev_expr, ev_rt, ev_rtN, ev_if, ev_for, ev_asg, gt_some, ev_onV, ev_onB, bd_ok, bd_err, sr_ok, sr_err, bk_bl, ik_int, of_some, ev_ret, ev_bind, ev_var, ev_C, ev_op, ev_call, ev_cb, ev_tst, ev_eTst, ev_and, ev_or, ev_not, ev_eIf, ev_bAnd, ev_bOr, ev_bNot, ev_chain, ev_nil, ev_cons, ev_tup, ev_lst, ev_new, ev_neg, ev_fld, ev_sl, ev_oNo, ev_oYes, ev_bTrue, ev_lc, ev_it, ev_rng, ev_enum, lt_int, le_int, gt_int, ge_int, add_int, sub_int, gN_ap, isNoneF, notNoneF, List.map_cons, List.map_nil, List.cons_append, List.nil_append, List.append_nil, List.length_cons, List.length_nil, List.length_map, wipeE, Nat.reduceAdd, Nat.reduceSub, Nat.reduceLeDiff, List.replicate, List.getElem?_cons_zero, List.getElem?_cons_succ, Option.join_some, Option.join_none, List.set_cons_zero, List.set_cons_succ, gc_same, decide_true, decide_false, ev_fldS, ev_put, ev_app, if_true, if_false, ite_true, ite_false, Bool.false_eq_true, Bool.not_true, Bool.not_false, reduceIte, sizeLine_eq, ev_notT, ev_tru, ev_rev, ev_srtSet, ev_fmtS, ev_joinS_nil, ev_joinS, ev_eqO, ev_strO]); repeat (simp -implicitDefEqProofs only [len_frl]; (try simp -implicitDefEqProofs only [ev_fn, fin_rt, fin_nx, fin_err, ev_seq, sq_nx, sq_rt, sq_err, ev_cNil, ev_set, ev_expr, ev_rt, ev_rtN, ev_if, ev_for, ev_asg, gt_some, ev_onV, ev_onB, bd_ok, bd_err, sr_ok, sr_err, bk_bl, ik_int, of_some, ev_ret, ev_bind, ev_var, ev_C, ev_op, ev_call, ev_cb, ev_tst, ev_eTst, ev_and, ev_or, ev_not, ev_eIf, ev_bAnd, ev_bOr, ev_bNot, ev_chain, ev_nil, ev_cons, ev_tup, ev_lst, ev_new, ev_neg, ev_fld, ev_sl, ev_oNo, ev_oYes, ev_bTrue, ev_lc, ev_it, ev_rng, ev_enum, lt_int, le_int, gt_int, ge_int, add_int, sub_int, gN_ap, isNoneF, notNoneF, List.map_cons, List.map_nil, List.cons_append, List.nil_append, List.append_nil, List.length_cons, List.length_nil, List.length_map, wipeE, Nat.reduceAdd, Nat.reduceSub, Nat.reduceLeDiff, List.replicate, List.getElem?_cons_zero, List.getElem?_cons_succ, Option.join_some, Option.join_none, List.set_cons_zero, List.set_cons_succ, gc_same, decide_true, decide_false, ev_fldS, ev_put, ev_app, if_true, if_false, ite_true, ite_false, Bool.false_eq_true, Bool.not_true, Bool.not_false, reduceIte, sizeLine_eq, ev_notT, ev_tru, ev_rev, ev_srtSet, ev_fmtS, ev_joinS_nil, ev_joinS, ev_eqO, ev_strO])))
      rw [show decide (((spot : Nat) : Int) < (ns.length : Nat)) = true by simp; omega]
      ((try simp -implicitDefEqProofs only [ev_fn, fin_rt, fin_nx, fin_err, ev_seq, sq_nx, sq_rt, sq_err, ev_cNil, ev_set, ev_expr, ev_rt, ev_rtN, ev_if, ev_for, ev_asg, gt_some, ev_onV, ev_onB, bd_ok, bd_err, sr_ok, sr_err, bk_bl, ik_int, of_some, ev_ret, ev_bind, ev_var, ev_C, ev_op, ev_call, ev_cb, ev_tst, ev_eTst, ev_and, ev_or, ev_not, ev_eIf, ev_bAnd, ev_bOr, ev_bNot, ev_chain, ev_nil, ev_cons, ev_tup, ev_lst, ev_new, ev_neg, ev_fld, ev_sl, ev_oNo, ev_oYes, ev_bTrue, ev_lc, ev_it, ev_rng, ev_enum, lt_int, le_int, gt_int, ge_int, add_int, sub_int, gN_ap, isNoneF, notNoneF, List.map_cons, List.map_nil, List.cons_append, List.nil_append, List.append_nil, List.length_cons, List.length_nil, List.length_map, wipeE, Nat.reduceAdd, Nat.reduceSub, Nat.reduceLeDiff, List.replicate, List.getElem?_cons_zero, List.getElem?_cons_succ, Option.join_some, Option.join_none, List.set_cons_zero, List.set_cons_succ, gc_same, decide_true, decide_false, ev_fldS, ev_put, ev_app, if_true, if_false, ite_true, ite_false, Bool.false_eq_true, Bool.not_true, Bool.not_false, reduceIte, sizeLine_eq, ev_notT, ev_tru, ev_rev, ev_srtSet, ev_fmtS, ev_joinS_nil, ev_joinS, ev_eqO, ev_strO]); repeat (simp -implicitDefEqProofs only [ix, int_int]; (try simp -implicitDefEqProofs only [ev_fn, fin_rt, fin_nx, fin_err, ev_seq, sq_nx, sq_rt, sq_err, ev_cNil, ev_set, ev_expr, ev_rt, ev_rtN, ev_if, ev_for, ev_asg, gt_some, ev_onV, ev_onB, bd_ok, bd_err, sr_ok, sr_err, bk_bl, ik_int, of_some, ev_ret, ev_bind, ev_var, ev_C, ev_op, ev_call, ev_cb, ev_tst, ev_eTst, ev_and, ev_or, ev_not, ev_eIf, ev_bAnd, ev_bOr, ev_bNot, ev_chain, ev_nil, ev_cons, ev_tup, ev_lst, ev_new, ev_neg, ev_fld, ev_sl, ev_oNo, ev_oYes, ev_bTrue, ev_lc, ev_it, ev_rng, ev_enum, lt_int, le_int, gt_int, ge_int, add_int, sub_int, gN_ap, isNoneF, notNoneF, List.map_cons, List.map_nil, List.cons_append, List.nil_append, List.append_nil, List.length_cons, List.length_nil, List.length_map, wipeE, Nat.reduceAdd, Nat.reduceSub, Nat.reduceLeDiff, List.replicate, List.getElem?_cons_zero, List.getElem?_cons_succ, Option.join_some, Option.join_none, List.set_cons_zero, List.set_cons_succ, gc_same, decide_true, decide_false, ev_fldS, ev_put, ev_app, if_true, if_false, ite_true, ite_false, Bool.false_eq_true, Bool.not_true, Bool.not_false, reduceIte, sizeLine_eq, ev_notT, ev_tru, ev_rev, ev_srtSet, ev_fmtS, ev_joinS_nil, ev_joinS, ev_eqO, ev_strO])))
    · refine ⟨431 * (spot : Nat) + 73, ?_⟩
      ((try simp -implicitDefEqProofs only [ev_fn, fin_rt, fin_nx, fin_err, ev_seq, sq_nx, sq_rt, sq_err, ev_cNil, ev_set, ev_expr, ev_rt, ev_rtN, ev_if, ev_for, ev_asg, gt_some, ev_onV, ev_onB, bd_ok, bd_err, sr_ok, sr_err, bk_bl, ik_int, of_some, ev_ret, ev_bind, ev_var, ev_C, ev_op, ev_call, ev_cb, ev_tst, ev_eTst, ev_and, ev_or, ev_not, ev_eIf, ev_bAnd, ev_bOr, ev_bNot, ev_chain, ev_nil, ev_cons, ev_tup, ev_lst, ev_new, ev_neg, ev_fld, ev_sl, ev_oNo, ev_oYes, ev_bTrue, ev_lc, ev_it, ev_rng, ev_enum, lt_int, le_int, gt_int, ge_int, add_int, sub_int, gN_ap, isNoneF, notNoneF, List.map_cons, List.map_nil, List.cons_append, List.nil_append, List.append_nil, List.length_cons, List.length_nil, List.length_map, wipeE, Nat.reduceAdd, Nat.reduceSub, Nat.reduceLeDiff, List.replicate, List.getElem?_cons_zero, List.getElem?_cons_succ, Option.join_some, Option.join_none, List.set_cons_zero, List.set_cons_succ, gc_same, decide_true, decide_false, ev_fldS, ev_put, ev_app, if_true, if_false, ite_true, ite_false, Bool.false_eq_true, Bool.not_true, Bool.not_false, reduceIte, sizeLine_eq, ev_notT, ev_tru, ev_rev, ev_srtSet, ev_fmtS, ev_joinS_nil, ev_joinS, ev_eqO, ev_strO]); repeat (simp -implicitDefEqProofs only [len_frl]; (try simp -implicitDefEqProofs only [ev_fn, fin_rt, fin_nx, fin_err, ev_seq, sq_nx, sq_rt, sq_err, ev_cNil, ev_set, ev_expr, ev_rt, ev_rtN, ev_if, ev_for, ev_asg, gt_some, ev_onV, ev_onB, bd_ok, bd_err, sr_ok, sr_err, bk_bl, ik_int, of_some, ev_ret, ev_bind, ev_var, ev_C, ev_op, ev_call, ev_cb, ev_tst, ev_eTst, ev_and, ev_or, ev_not, ev_eIf, ev_bAnd, ev_bOr, ev_bNot, ev_chain, ev_nil, ev_cons, ev_tup, ev_lst, ev_new, ev_neg, ev_fld, ev_sl, ev_oNo, ev_oYes, ev_bTrue, ev_lc, ev_it, ev_rng, ev_enum, lt_int, le_int, gt_int, ge_int, add_int, sub_int, gN_ap, isNoneF, notNoneF, List.map_cons, List.map_nil, List.cons_append, List.nil_append, List.append_nil, List.length_cons, List.length_nil, List.length_map, wipeE, Nat.reduceAdd, Nat.reduceSub, Nat.reduceLeDiff, List.replicate, List.getElem?_cons_zero, List.getElem?_cons_succ, Option.join_some, Option.join_none, List.set_cons_zero, List.set_cons_succ, gc_same, decide_true, decide_false, ev_fldS, ev_put, ev_app, if_true, if_false, ite_true, ite_false, Bool.false_eq_true, Bool.not_true, Bool.not_false, reduceIte, sizeLine_eq, ev_notT, ev_tru, ev_rev, ev_srtSet, ev_fmtS, ev_joinS_nil, ev_joinS, ev_eqO, ev_strO])))
      rw [show decide (((spot : Nat) : Int) < (ns.length : Nat)) = false by simp; omega]
      ((try simp -implicitDefEqProofs only [ev_fn, fin_rt, fin_nx, fin_err, ev_seq, sq_nx, sq_rt, sq_err, ev_cNil, ev_set, ev_expr, ev_rt, ev_rtN, ev_if, ev_for, ev_asg, gt_some, ev_onV, ev_onB, bd_ok, bd_err, sr_ok, sr_err, bk_bl, ik_int, of_some, ev_ret, ev_bind, ev_var, ev_C, ev_op, ev_call, ev_cb, ev_tst, ev_eTst, ev_and, ev_or, ev_not, ev_eIf, ev_bAnd, ev_bOr, ev_bNot, ev_chain, ev_nil, ev_cons, ev_tup, ev_lst, ev_new, ev_neg, ev_fld, ev_sl, ev_oNo, ev_oYes, ev_bTrue, ev_lc, ev_it, ev_rng, ev_enum, lt_int, le_int, gt_int, ge_int, add_int, sub_int, gN_ap, isNoneF, notNoneF, List.map_cons, List.map_nil, List.cons_append, List.nil_append, List.append_nil, List.length_cons, List.length_nil, List.length_map, wipeE, Nat.reduceAdd, Nat.reduceSub, Nat.reduceLeDiff, List.replicate, List.getElem?_cons_zero, List.getElem?_cons_succ, Option.join_some, Option.join_none, List.set_cons_zero, List.set_cons_succ, gc_same, decide_true, decide_false, ev_fldS, ev_put, ev_app, if_true, if_false, ite_true, ite_false, Bool.false_eq_true, Bool.not_true, Bool.not_false, reduceIte, sizeLine_eq, ev_notT, ev_tru, ev_rev, ev_srtSet, ev_fmtS, ev_joinS_nil, ev_joinS, ev_eqO, ev_strO]); repeat (simp -implicitDefEqProofs only [mul_ok (i := 431) (j := (spot : Nat)) (by omega) (by omega) (by omega) (by omega)]; (try simp -implicitDefEqProofs only [ev_fn, fin_rt, fin_nx, fin_err, ev_seq, sq_nx, sq_rt, sq_err, ev_cNil, ev_set, ev_expr, ev_rt, ev_rtN, ev_if, ev_for, ev_asg, gt_some, ev_onV, ev_onB, bd_ok, bd_err, sr_ok, sr_err, bk_bl, ik_int, of_some, ev_ret, ev_bind, ev_var, ev_C, ev_op, ev_call, ev_cb, ev_tst, ev_eTst, ev_and, ev_or, ev_not, ev_eIf, ev_bAnd, ev_bOr, ev_bNot, ev_chain, ev_nil, ev_cons, ev_tup, ev_lst, ev_new, ev_neg, ev_fld, ev_sl, ev_oNo, ev_oYes, ev_bTrue, ev_lc, ev_it, ev_rng, ev_enum, lt_int, le_int, gt_int, ge_int, add_int, sub_int, gN_ap, isNoneF, notNoneF, List.map_cons, List.map_nil, List.cons_append, List.nil_append, List.append_nil, List.length_cons, List.length_nil, List.length_map, wipeE, Nat.reduceAdd, Nat.reduceSub, Nat.reduceLeDiff, List.replicate, List.getElem?_cons_zero, List.getElem?_cons_succ, Option.join_some, Option.join_none, List.set_cons_zero, List.set_cons_succ, gc_same, decide_true, decide_false, ev_fldS, ev_put, ev_app, if_true, if_false, ite_true, ite_false, Bool.false_eq_true, Bool.not_true, Bool.not_false, reduceIte, sizeLine_eq, ev_notT, ev_tru, ev_rev, ev_srtSet, ev_fmtS, ev_joinS_nil, ev_joinS, ev_eqO, ev_strO])))
  obtain ⟨cell, st⟩ := st
  obtain ⟨z, m, q, b⟩ := key cell (some (.frl (ns.map SV.int)))
  refine ⟨z, m, ?_, b⟩
  simp only [D_u_law_bag, B_u_law_bag]
  rw [ev_fn]
  show fin false hb (cSeq _ _ [some (.frl (ns.map SV.int)), some (nv spot), none, none, none] hb) = _
  rw [ev_seq, st, sq_nx]
  exact q
end My

set_option Elab.async false
set_option linter.all false
set_option maxRecDepth 1000000
set_option maxHeartbeats 0
namespace My
open PySem L2 Sim
theorem seq_nx {s r : ST'} {e e' : Sim.Env} {h h' : SHp} (q : s e h = .nx e' h') : cSeq s r e h = r e' h' := by simp only [cSeq, q]
theorem for_run {c : Sim.Env → M (List SV × Gd)} {g b : _} {e : Sim.Env} {h : SHp} {xs : List SV} (q : c e h = .ok (xs, .no) h) : cFor c g b e h = forL g b .no xs e h := by simp only [cFor, q]
theorem forN_cons {n : Nat} {b : ST'} {s : SV} {ss : List SV} {e e2 : Sim.Env} {h h2 : SHp} (q : b (e.set n (some s)) h = .nx e2 h2) : forL (gN n) b .no (s :: ss) e h = forL (gN n) b .no ss e2 h2 := by
  simp only [forL, Gd.ok, gN, q, if_true]
theorem forN_nil {n : Nat} {b : ST'} {e : Sim.Env} {h : SHp} : forL (gN n) b .no [] e h = .nx e h := by simp only [forL, Gd.ok, if_true]
def envAt (r : SR) (i : Nat) : SV := match r with | .nx e _ => (e[i]?.join).getD .non | _ => .non
def listAt (r : Res SV) : List SV := match r with | .ok (.rls xs) _ => xs | _ => []
def strAt (r : Res SV) : Str := match r with | .ok (.str s) _ => s | _ => ""

def P0 (a : Ads) : ST' := (cAsg (gT 2 (gsC (gN 1) (gsC (gN 2) gsN))) (eTup (aCons (eMake true a.C_Reader (D_m_Reader_init a) (aCons (eC (.int 2)) (aCons (eTup (aCons (eTup (aCons (eC (.int 0)) (aCons (eC (.int 1)) aNil))) (aCons (eTup (aCons (eC (.int 1)) (aCons (eC (.int 0)) aNil))) aNil))) (aCons (eTup (aCons (eC (.int 0)) aNil)) aNil)))) (aCons (eMake true a.C_Reader (D_m_Reader_init a) (aCons (eC (.int 7)) (aCons (eTup (aCons (eOp mulX (eTup (aCons (eC (.int 0)) aNil)) (eC (.int 7))) aNil)) (aCons (eTup (aCons (eC (.int 0)) aNil)) aNil)))) aNil))))
def P1 (a : Ads) : ST' := (cSet 3 (eCall (D_u_law_turned a) (aCons (eLst (aCons (eC .non) (aCons (eC (.int 0)) (aCons (eTup aNil) (aCons (eTup (aCons (eC (.int 2)) (aCons (eTup (aCons (eTup (aCons (eC (.int 0)) (aCons (eC (.int 1)) aNil))) (aCons (eTup (aCons (eC (.int 1)) (aCons (eC (.int 0)) aNil))) aNil))) (aCons (eTup (aCons (eC (.int 0)) aNil)) aNil)))) (aCons (eC (.str "reader")) (aCons (eDic0 false) (aCons (eLst (aCons (eVar 1) aNil)) (aCons (eC (.bl true)) aNil))))))))) (aCons (eVar 0) aNil))))
def P2 (a : Ads) : ST' := (cSet 4 (eLst (aCons (eC .non) (aCons (eC (.int 5)) (aCons (eLst (aCons (eC (.int 0)) (aCons (eC (.int 1)) aNil))) (aCons (eTup (aCons (eC (.int 2)) aNil)) (aCons (eTup (aCons (eNeg (eC (.int 1))) aNil)) (aCons (eTup (aCons (eC (.bl true)) aNil)) (aCons (eTup (aCons (eC (.str "0")) aNil)) (aCons (eTup (aCons (eC (.int 0)) (aCons (eC .non) aNil))) (aCons (eC (.str "01")) (aCons (eDic0 false) (aCons (eOp mulX (eTup (aCons (eC (.int 0)) aNil)) (eC (.int 2001))) (aCons (eTup (aCons (eTup (aCons (eC (.int 0)) aNil)) aNil)) (aCons (eTup (aCons (eOp powF (eC (.int 10)) (eC (.int 30))) aNil)) aNil)))))))))))))))
def P3 (a : Ads) : ST' := (cSet 4 (eCall (D_u_law_turned a) (aCons (eVar 4) (aCons (eVar 0) aNil))))
def P4 (a : Ads) : ST' := (cSet 5 (eCall (D_u_law_turned a) (aCons (eLst (aCons (eC .non) (aCons (eNeg (eC (.int 1))) (aCons (eC (.int 100)) (aCons (eC (.bl true)) (aCons (eC (.str "1")) (aCons (eTup (aCons (eC (.int 1)) aNil)) (aCons (eOp powF (eC (.int 10)) (eC (.int 30))) (aCons (eLst aNil) aNil))))))))) (aCons (eVar 0) aNil))))
def P5 (a : Ads) : ST' := (cSet 6 (eCall (D_u_law_turned a) (aCons (eLst (aCons (eC .non) (aCons (eNeg (eC (.int 1))) (aCons (eC (.bl true)) (aCons (eC (.str "1")) (aCons (eTup (aCons (eC (.int 1)) aNil)) (aCons (eOp powF (eC (.int 10)) (eC (.int 60))) (aCons (eDic0 false) aNil)))))))) (aCons (eVar 0) aNil))))
def P6 (a : Ads) : ST' := (cPar 7 8 (aCons (eNew aNil) (aCons (eLst aNil) aNil)))
def P7_0 (a : Ads) : ST' := (cApp (eVar 7) (eLamCall 2 true (BL_u_law_heard a) (eCallV 9 [(a.f_state_after, 2, (D_state_after a)), (a.f_takes, 2, (D_takes a))] (aCons (eVar 3) (aCons (eVar 4) aNil)))))
def P7_1 (a : Ads) : ST' := (cApp (eVar 7) (eLamCall 2 true (BL_u_law_heard a) (eCallV 9 [(a.f_state_after, 2, (D_state_after a)), (a.f_takes, 2, (D_takes a))] (aCons (eVar 1) (aCons (eVar 4) aNil)))))
def P7_2 (a : Ads) : ST' := (cApp (eVar 7) (eLamCall 2 true (BL_u_law_heard a) (eCallV 9 [(a.f_state_after, 2, (D_state_after a)), (a.f_takes, 2, (D_takes a))] (aCons (eVar 1) (aCons (eOp mulX (eTup (aCons (eC (.int 0)) (aCons (eC (.int 1)) aNil))) (eC (.int 1000))) aNil)))))
def P7_3 (a : Ads) : ST' := (cSet 8 (eOp addF (eVar 8) (eLst (aCons (eC (.str "reader")) (aCons (eC (.str "word")) (aCons (eC (.str "fine")) aNil))))))
def I7 (a : Ads) : Sim.Env → M (List SV × Gd) := (cIt (eTup (aCons (eC (.adr a.f_state_after)) (aCons (eC (.adr a.f_takes)) aNil))))
def L7 (a : Ads) : ST' := cSeq (P7_0 a) (cSeq (P7_1 a) (cSeq (P7_2 a) (P7_3 a)))
def P7 (a : Ads) : ST' := cFor (I7 a) (gN 9) (L7 a)
def P8_0 (a : Ads) : ST' := (cApp (eVar 7) (eLamCall 2 true (BL_u_law_heard a) (eCallV 9 [(a.f_met, 1, (D_met a)), (a.f_first_word, 1, (D_first_word a))] (aCons (eVar 3) aNil))))
def P8_1 (a : Ads) : ST' := (cApp (eVar 7) (eLamCall 2 true (BL_u_law_heard a) (eCallV 9 [(a.f_met, 1, (D_met a)), (a.f_first_word, 1, (D_first_word a))] (aCons (eVar 2) aNil))))
def P8_2 (a : Ads) : ST' := (cSet 8 (eOp addF (eVar 8) (eLst (aCons (eC (.str "reader")) (aCons (eC (.str "fine")) aNil)))))
def I8 (a : Ads) : Sim.Env → M (List SV × Gd) := (cIt (eTup (aCons (eC (.adr a.f_met)) (aCons (eC (.adr a.f_first_word)) aNil))))
def L8 (a : Ads) : ST' := cSeq (P8_0 a) (cSeq (P8_1 a) (P8_2 a))
def P8 (a : Ads) : ST' := cFor (I8 a) (gN 9) (L8 a)
def P9_0 (a : Ads) : ST' := (cApp (eVar 7) (eLamCall 2 true (BL_u_law_heard a) (eCallV 9 [(a.f_word_count, 2, (D_word_count a)), (a.f_words, 2, (D_words a))] (aCons (eVar 3) (aCons (eVar 5) aNil)))))
def P9_1 (a : Ads) : ST' := (cApp (eVar 7) (eLamCall 2 true (BL_u_law_heard a) (eCallV 9 [(a.f_word_count, 2, (D_word_count a)), (a.f_words, 2, (D_words a))] (aCons (eVar 2) (aCons (eVar 5) aNil)))))
def P9_2 (a : Ads) : ST' := (cSet 8 (eOp addF (eVar 8) (eLst (aCons (eC (.str "reader")) (aCons (eOp addF (eC (.str "number ")) (eCB reprF (aCons (eVar 5) aNil))) aNil)))))
def I9 (a : Ads) : Sim.Env → M (List SV × Gd) := (cIt (eTup (aCons (eC (.adr a.f_word_count)) (aCons (eC (.adr a.f_words)) aNil))))
def L9 (a : Ads) : ST' := cSeq (P9_0 a) (cSeq (P9_1 a) (P9_2 a))
def P9 (a : Ads) : ST' := cFor (I9 a) (gN 9) (L9 a)
def P10 (a : Ads) : ST' := (cApp (eVar 7) (eLamCall 2 true (BL_u_law_heard a) (eCall (D_word_count a) (aCons (eVar 2) (aCons (eC (.int 99)) aNil)))))
def P11 (a : Ads) : ST' := (cApp (eVar 7) (eLamCall 2 true (BL_u_law_heard a) (eCall (D_words a) (aCons (eVar 2) (aCons (eC (.int 3)) aNil)))))
def P12 (a : Ads) : ST' := (cApp (eVar 7) (eLamCall 2 true (BL_u_law_heard a) (eCall (D_words a) (aCons (eVar 2) (aCons (eC (.int 4)) aNil)))))
def P13 (a : Ads) : ST' := (cSet 8 (eOp addF (eVar 8) (eLst (aCons (eC (.str "fine")) (aCons (eC (.str "fine")) (aCons (eC (.str "many 2000")) aNil))))))
def P14 (a : Ads) : ST' := (cApp (eVar 7) (eLamCall 2 true (BL_u_law_heard a) (eCall (D_after_times a) (aCons (eVar 3) (aCons (eVar 4) (aCons (eVar 6) aNil))))))
def P15 (a : Ads) : ST' := (cApp (eVar 7) (eLamCall 2 true (BL_u_law_heard a) (eCall (D_after_times a) (aCons (eVar 1) (aCons (eVar 4) (aCons (eVar 6) aNil))))))
def P16 (a : Ads) : ST' := (cApp (eVar 7) (eLamCall 2 true (BL_u_law_heard a) (eCall (D_after_times a) (aCons (eVar 1) (aCons (eTup (aCons (eC (.int 0)) (aCons (eC (.int 1)) aNil))) (aCons (eVar 6) aNil))))))
def P17 (a : Ads) : ST' := (cApp (eVar 7) (eLamCall 2 true (BL_u_law_heard a) (eCall (D_after_times a) (aCons (eVar 1) (aCons (eOp mulX (eTup (aCons (eC (.int 1)) aNil)) (eC (.int 2000))) (aCons (eOp subI (eOp powF (eC (.int 10)) (eC (.int 60))) (eC (.int 1))) aNil))))))
def P18 (a : Ads) : ST' := (cRet (eOp (eqF false) (eVar 7) (eOp addF (eVar 8) (eLst (aCons (eC (.str "reader")) (aCons (eC (.str "word")) (aCons (eOp addF (eC (.str "number ")) (eCB reprF (aCons (eVar 6) aNil))) (aCons (eC (.str "fine")) aNil))))))))
theorem right_eq (a : Ads) : B_u_law_right a = cSeq (P0 a) (cSeq (P1 a) (cSeq (P2 a) (cSeq (P3 a) (cSeq (P4 a) (cSeq (P5 a) (cSeq (P6 a) (cSeq (P7 a) (cSeq (P8 a) (cSeq (P9 a) (cSeq (P10 a) (cSeq (P11 a) (cSeq (P12 a) (cSeq (P13 a) (cSeq (P14 a) (cSeq (P15 a) (cSeq (P16 a) (cSeq (P17 a) (P18 a)))))))))))))))))) := rfl
def none9 : Sim.Env := [some (.int 0), none, none, none, none, none, none, none, none, none]
def real : SV := envAt (P0 a0 none9 []) 1
def wide : SV := envAt (P0 a0 none9 []) 2
def d0 : SO := .dic false [] []
def mN : List SV := listAt ((eLst (aCons (eC .non) (aCons (eC (.int 0)) (aCons (eTup aNil) (aCons (eTup (aCons (eC (.int 2)) (aCons (eTup (aCons (eTup (aCons (eC (.int 0)) (aCons (eC (.int 1)) aNil))) (aCons (eTup (aCons (eC (.int 1)) (aCons (eC (.int 0)) aNil))) aNil))) (aCons (eTup (aCons (eC (.int 0)) aNil)) aNil)))) (aCons (eC (.str "reader")) (aCons (eDic0 false) (aCons (eLst (aCons (eVar 1) aNil)) (aCons (eC (.bl true)) aNil))))))))) [none, some real] [])
def mW : List SV := match envAt (P2 a0 none9 [d0]) 4 with | .rls xs => xs | _ => []
def mL : List SV := listAt ((eLst (aCons (eC .non) (aCons (eNeg (eC (.int 1))) (aCons (eC (.int 100)) (aCons (eC (.bl true)) (aCons (eC (.str "1")) (aCons (eTup (aCons (eC (.int 1)) aNil)) (aCons (eOp powF (eC (.int 10)) (eC (.int 30))) (aCons (eLst aNil) aNil))))))))) none9 [])
def mT : List SV := listAt ((eLst (aCons (eC .non) (aCons (eNeg (eC (.int 1))) (aCons (eC (.bl true)) (aCons (eC (.str "1")) (aCons (eTup (aCons (eC (.int 1)) aNil)) (aCons (eOp powF (eC (.int 10)) (eC (.int 60))) (aCons (eDic0 false) aNil)))))))) none9 [d0, d0])
def SL (i : Nat) : Str := strAt ((eOp addF (eC (.str "number ")) (eCB reprF (aCons (eC (mL.getD i .non)) aNil))) [] [])
def ST (i : Nat) : Str := strAt ((eOp addF (eC (.str "number ")) (eCB reprF (aCons (eC (mT.getD i .non)) aNil))) [] [d0, d0, d0])
/-- the state: what is drawn, what is met, what is due, the call -/
def EV (t n w l m : SV) (d : SV) (c : Option SV) : Sim.Env := [some t, some real, some wide, some n, some w, some l, some m, some (.ref 3), some d, c]

theorem len_mN : mN.length = 8 := by decide +kernel
theorem len_mW : mW.length = 13 := by decide +kernel
theorem len_mL : mL.length = 8 := by decide +kernel
theorem len_mT : mT.length = 7 := by decide +kernel
theorem s0 (t : SV) : P0 a0 [some t, none, none, none, none, none, none, none, none, none] [] = .nx [some t, some real, some wide, none, none, none, none, none, none, none] [] := by kernel_rfl
theorem s2 (t r q n : SV) : P2 a0 [some t, some r, some q, some n, none, none, none, none, none, none] [d0] = .nx [some t, some r, some q, some n, some (.rls mW), none, none, none, none, none] [d0, d0] := by kernel_rfl
theorem s6 (t n w l m : SV) : P6 a0 [some t, some real, some wide, some n, some w, some l, some m, none, none, none] [d0, d0, d0] = .nx (EV t n w l m (.rls []) none) [d0, d0, d0, .lst []] := by kernel_rfl
theorem EV_set (t n w l m d : SV) (c : Option SV) (s : SV) : (EV t n w l m d c).set 9 (some s) = EV t n w l m d (some s) := rfl
theorem arg1 (t r q n w l : SV) : ((aCons (eLst (aCons (eC .non) (aCons (eC (.int 0)) (aCons (eTup aNil) (aCons (eTup (aCons (eC (.int 2)) (aCons (eTup (aCons (eTup (aCons (eC (.int 0)) (aCons (eC (.int 1)) aNil))) (aCons (eTup (aCons (eC (.int 1)) (aCons (eC (.int 0)) aNil))) aNil))) (aCons (eTup (aCons (eC (.int 0)) aNil)) aNil)))) (aCons (eC (.str "reader")) (aCons (eDic0 false) (aCons (eLst (aCons (eVar 1) aNil)) (aCons (eC (.bl true)) aNil))))))))) (aCons (eVar 0) aNil))) [some t, some real, some q, none, none, none, none, none, none, none] [] = .ok [.rls mN, t] [d0] := by kernel_rfl
theorem arg4 (t r q n w l : SV) : ((aCons (eLst (aCons (eC .non) (aCons (eNeg (eC (.int 1))) (aCons (eC (.int 100)) (aCons (eC (.bl true)) (aCons (eC (.str "1")) (aCons (eTup (aCons (eC (.int 1)) aNil)) (aCons (eOp powF (eC (.int 10)) (eC (.int 30))) (aCons (eLst aNil) aNil))))))))) (aCons (eVar 0) aNil))) [some t, some r, some q, some n, some w, none, none, none, none, none] [d0, d0] = .ok [.rls mL, t] [d0, d0] := by kernel_rfl
theorem arg5 (t r q n w l : SV) : ((aCons (eLst (aCons (eC .non) (aCons (eNeg (eC (.int 1))) (aCons (eC (.bl true)) (aCons (eC (.str "1")) (aCons (eTup (aCons (eC (.int 1)) aNil)) (aCons (eOp powF (eC (.int 10)) (eC (.int 60))) (aCons (eDic0 false) aNil)))))))) (aCons (eVar 0) aNil))) [some t, some r, some q, some n, some w, some l, none, none, none, none] [d0, d0] = .ok [.rls mT, t] [d0, d0, d0] := by kernel_rfl
end My

set_option Elab.async false
set_option linter.all false
set_option maxRecDepth 1000000
set_option maxHeartbeats 0
namespace My
open PySem L2 Sim

theorem a7_0_0 (t w l m : SV) (i : Nat) (hi : i < 8)  : P7_0 a0 (EV t (mN.getD i .non) w l m (.rls []) (some (.adr 195))) [d0, d0, d0, .lst []] = .nx (EV t (mN.getD i .non) w l m (.rls []) (some (.adr 195))) [d0, d0, d0, .lst [.str "reader"]] := by
  match i, hi with
  | 0, _ => kernel_rfl
  | 1, _ => kernel_rfl
  | 2, _ => kernel_rfl
  | 3, _ => kernel_rfl
  | 4, _ => kernel_rfl
  | 5, _ => kernel_rfl
  | 6, _ => kernel_rfl
  | 7, _ => kernel_rfl
  | q + 8, z => exact absurd z (by omega)
theorem a7_0_1 (t n l m : SV) (i : Nat) (hi : i < 13)  : P7_1 a0 (EV t n (mW.getD i .non) l m (.rls []) (some (.adr 195))) [d0, d0, d0, .lst [.str "reader"]] = .nx (EV t n (mW.getD i .non) l m (.rls []) (some (.adr 195))) [d0, d0, d0, .lst [.str "reader", .str "word"]] := by
  match i, hi with
  | 0, _ => kernel_rfl
  | 1, _ => kernel_rfl
  | 2, _ => kernel_rfl
  | 3, _ => kernel_rfl
  | 4, _ => kernel_rfl
  | 5, _ => kernel_rfl
  | 6, _ => kernel_rfl
  | 7, _ => kernel_rfl
  | 8, _ => kernel_rfl
  | 9, _ => kernel_rfl
  | 10, _ => kernel_rfl
  | 11, _ => kernel_rfl
  | 12, _ => kernel_rfl
  | q + 13, z => exact absurd z (by omega)
theorem a7_0_2 (t n w l m : SV)   : P7_2 a0 (EV t n w l m (.rls []) (some (.adr 195))) [d0, d0, d0, .lst [.str "reader", .str "word"]] = .nx (EV t n w l m (.rls []) (some (.adr 195))) [d0, d0, d0, .lst [.str "reader", .str "word", .str "fine"]] := by kernel_rfl
theorem a7_0_3 (t n w l m : SV)   : P7_3 a0 (EV t n w l m (.rls []) (some (.adr 195))) [d0, d0, d0, .lst [.str "reader", .str "word", .str "fine"]] = .nx (EV t n w l m (.rls [.str "reader", .str "word", .str "fine"]) (some (.adr 195))) [d0, d0, d0, .lst [.str "reader", .str "word", .str "fine"]] := by kernel_rfl
theorem a7_1_0 (t w l m : SV) (i : Nat) (hi : i < 8)  : P7_0 a0 (EV t (mN.getD i .non) w l m (.rls [.str "reader", .str "word", .str "fine"]) (some (.adr 209))) [d0, d0, d0, .lst [.str "reader", .str "word", .str "fine"]] = .nx (EV t (mN.getD i .non) w l m (.rls [.str "reader", .str "word", .str "fine"]) (some (.adr 209))) [d0, d0, d0, .lst [.str "reader", .str "word", .str "fine", .str "reader"]] := by
  match i, hi with
  | 0, _ => kernel_rfl
  | 1, _ => kernel_rfl
  | 2, _ => kernel_rfl
  | 3, _ => kernel_rfl
  | 4, _ => kernel_rfl
  | 5, _ => kernel_rfl
  | 6, _ => kernel_rfl
  | 7, _ => kernel_rfl
  | q + 8, z => exact absurd z (by omega)
theorem a7_1_1 (t n l m : SV) (i : Nat) (hi : i < 13)  : P7_1 a0 (EV t n (mW.getD i .non) l m (.rls [.str "reader", .str "word", .str "fine"]) (some (.adr 209))) [d0, d0, d0, .lst [.str "reader", .str "word", .str "fine", .str "reader"]] = .nx (EV t n (mW.getD i .non) l m (.rls [.str "reader", .str "word", .str "fine"]) (some (.adr 209))) [d0, d0, d0, .lst [.str "reader", .str "word", .str "fine", .str "reader", .str "word"]] := by
  match i, hi with
  | 0, _ => kernel_rfl
  | 1, _ => kernel_rfl
  | 2, _ => kernel_rfl
  | 3, _ => kernel_rfl
  | 4, _ => kernel_rfl
  | 5, _ => kernel_rfl
  | 6, _ => kernel_rfl
  | 7, _ => kernel_rfl
  | 8, _ => kernel_rfl
  | 9, _ => kernel_rfl
  | 10, _ => kernel_rfl
  | 11, _ => kernel_rfl
  | 12, _ => kernel_rfl
  | q + 13, z => exact absurd z (by omega)
theorem a7_1_2 (t n w l m : SV)   : P7_2 a0 (EV t n w l m (.rls [.str "reader", .str "word", .str "fine"]) (some (.adr 209))) [d0, d0, d0, .lst [.str "reader", .str "word", .str "fine", .str "reader", .str "word"]] = .nx (EV t n w l m (.rls [.str "reader", .str "word", .str "fine"]) (some (.adr 209))) [d0, d0, d0, .lst [.str "reader", .str "word", .str "fine", .str "reader", .str "word", .str "fine"]] := by kernel_rfl
theorem a7_1_3 (t n w l m : SV)   : P7_3 a0 (EV t n w l m (.rls [.str "reader", .str "word", .str "fine"]) (some (.adr 209))) [d0, d0, d0, .lst [.str "reader", .str "word", .str "fine", .str "reader", .str "word", .str "fine"]] = .nx (EV t n w l m (.rls [.str "reader", .str "word", .str "fine", .str "reader", .str "word", .str "fine"]) (some (.adr 209))) [d0, d0, d0, .lst [.str "reader", .str "word", .str "fine", .str "reader", .str "word", .str "fine"]] := by kernel_rfl
theorem a8_0_0 (t w l m : SV) (i : Nat) (hi : i < 8)  : P8_0 a0 (EV t (mN.getD i .non) w l m (.rls [.str "reader", .str "word", .str "fine", .str "reader", .str "word", .str "fine"]) (some (.adr 216))) [d0, d0, d0, .lst [.str "reader", .str "word", .str "fine", .str "reader", .str "word", .str "fine"]] = .nx (EV t (mN.getD i .non) w l m (.rls [.str "reader", .str "word", .str "fine", .str "reader", .str "word", .str "fine"]) (some (.adr 216))) [d0, d0, d0, .lst [.str "reader", .str "word", .str "fine", .str "reader", .str "word", .str "fine", .str "reader"]] := by
  match i, hi with
  | 0, _ => kernel_rfl
  | 1, _ => kernel_rfl
  | 2, _ => kernel_rfl
  | 3, _ => kernel_rfl
  | 4, _ => kernel_rfl
  | 5, _ => kernel_rfl
  | 6, _ => kernel_rfl
  | 7, _ => kernel_rfl
  | q + 8, z => exact absurd z (by omega)
theorem a8_0_1 (t n w l m : SV)   : P8_1 a0 (EV t n w l m (.rls [.str "reader", .str "word", .str "fine", .str "reader", .str "word", .str "fine"]) (some (.adr 216))) [d0, d0, d0, .lst [.str "reader", .str "word", .str "fine", .str "reader", .str "word", .str "fine", .str "reader"]] = .nx (EV t n w l m (.rls [.str "reader", .str "word", .str "fine", .str "reader", .str "word", .str "fine"]) (some (.adr 216))) [d0, d0, d0, .lst [.str "reader", .str "word", .str "fine", .str "reader", .str "word", .str "fine", .str "reader", .str "fine"]] := by kernel_rfl
theorem a8_0_2 (t n w l m : SV)   : P8_2 a0 (EV t n w l m (.rls [.str "reader", .str "word", .str "fine", .str "reader", .str "word", .str "fine"]) (some (.adr 216))) [d0, d0, d0, .lst [.str "reader", .str "word", .str "fine", .str "reader", .str "word", .str "fine", .str "reader", .str "fine"]] = .nx (EV t n w l m (.rls [.str "reader", .str "word", .str "fine", .str "reader", .str "word", .str "fine", .str "reader", .str "fine"]) (some (.adr 216))) [d0, d0, d0, .lst [.str "reader", .str "word", .str "fine", .str "reader", .str "word", .str "fine", .str "reader", .str "fine"]] := by kernel_rfl
theorem a8_1_0 (t w l m : SV) (i : Nat) (hi : i < 8)  : P8_0 a0 (EV t (mN.getD i .non) w l m (.rls [.str "reader", .str "word", .str "fine", .str "reader", .str "word", .str "fine", .str "reader", .str "fine"]) (some (.adr 228))) [d0, d0, d0, .lst [.str "reader", .str "word", .str "fine", .str "reader", .str "word", .str "fine", .str "reader", .str "fine"]] = .nx (EV t (mN.getD i .non) w l m (.rls [.str "reader", .str "word", .str "fine", .str "reader", .str "word", .str "fine", .str "reader", .str "fine"]) (some (.adr 228))) [d0, d0, d0, .lst [.str "reader", .str "word", .str "fine", .str "reader", .str "word", .str "fine", .str "reader", .str "fine", .str "reader"]] := by
  match i, hi with
  | 0, _ => kernel_rfl
  | 1, _ => kernel_rfl
  | 2, _ => kernel_rfl
  | 3, _ => kernel_rfl
  | 4, _ => kernel_rfl
  | 5, _ => kernel_rfl
  | 6, _ => kernel_rfl
  | 7, _ => kernel_rfl
  | q + 8, z => exact absurd z (by omega)
theorem a8_1_1 (t n w l m : SV)   : P8_1 a0 (EV t n w l m (.rls [.str "reader", .str "word", .str "fine", .str "reader", .str "word", .str "fine", .str "reader", .str "fine"]) (some (.adr 228))) [d0, d0, d0, .lst [.str "reader", .str "word", .str "fine", .str "reader", .str "word", .str "fine", .str "reader", .str "fine", .str "reader"]] = .nx (EV t n w l m (.rls [.str "reader", .str "word", .str "fine", .str "reader", .str "word", .str "fine", .str "reader", .str "fine"]) (some (.adr 228))) [d0, d0, d0, .lst [.str "reader", .str "word", .str "fine", .str "reader", .str "word", .str "fine", .str "reader", .str "fine", .str "reader", .str "fine"]] := by kernel_rfl
theorem a8_1_2 (t n w l m : SV)   : P8_2 a0 (EV t n w l m (.rls [.str "reader", .str "word", .str "fine", .str "reader", .str "word", .str "fine", .str "reader", .str "fine"]) (some (.adr 228))) [d0, d0, d0, .lst [.str "reader", .str "word", .str "fine", .str "reader", .str "word", .str "fine", .str "reader", .str "fine", .str "reader", .str "fine"]] = .nx (EV t n w l m (.rls [.str "reader", .str "word", .str "fine", .str "reader", .str "word", .str "fine", .str "reader", .str "fine", .str "reader", .str "fine"]) (some (.adr 228))) [d0, d0, d0, .lst [.str "reader", .str "word", .str "fine", .str "reader", .str "word", .str "fine", .str "reader", .str "fine", .str "reader", .str "fine"]] := by kernel_rfl
theorem a9_0_0 (t w l m : SV) (i : Nat) (hi : i < 8)  : P9_0 a0 (EV t (mN.getD i .non) w l m (.rls [.str "reader", .str "word", .str "fine", .str "reader", .str "word", .str "fine", .str "reader", .str "fine", .str "reader", .str "fine"]) (some (.adr 240))) [d0, d0, d0, .lst [.str "reader", .str "word", .str "fine", .str "reader", .str "word", .str "fine", .str "reader", .str "fine", .str "reader", .str "fine"]] = .nx (EV t (mN.getD i .non) w l m (.rls [.str "reader", .str "word", .str "fine", .str "reader", .str "word", .str "fine", .str "reader", .str "fine", .str "reader", .str "fine"]) (some (.adr 240))) [d0, d0, d0, .lst [.str "reader", .str "word", .str "fine", .str "reader", .str "word", .str "fine", .str "reader", .str "fine", .str "reader", .str "fine", .str "reader"]] := by
  match i, hi with
  | 0, _ => kernel_rfl
  | 1, _ => kernel_rfl
  | 2, _ => kernel_rfl
  | 3, _ => kernel_rfl
  | 4, _ => kernel_rfl
  | 5, _ => kernel_rfl
  | 6, _ => kernel_rfl
  | 7, _ => kernel_rfl
  | q + 8, z => exact absurd z (by omega)
theorem a9_0_1 (t n w m : SV) (i : Nat) (hi : i < 8)  : P9_1 a0 (EV t n w (mL.getD i .non) m (.rls [.str "reader", .str "word", .str "fine", .str "reader", .str "word", .str "fine", .str "reader", .str "fine", .str "reader", .str "fine"]) (some (.adr 240))) [d0, d0, d0, .lst [.str "reader", .str "word", .str "fine", .str "reader", .str "word", .str "fine", .str "reader", .str "fine", .str "reader", .str "fine", .str "reader"]] = .nx (EV t n w (mL.getD i .non) m (.rls [.str "reader", .str "word", .str "fine", .str "reader", .str "word", .str "fine", .str "reader", .str "fine", .str "reader", .str "fine"]) (some (.adr 240))) [d0, d0, d0, .lst [.str "reader", .str "word", .str "fine", .str "reader", .str "word", .str "fine", .str "reader", .str "fine", .str "reader", .str "fine", .str "reader", .str (SL i)]] := by
  match i, hi with
  | 0, _ => kernel_rfl
  | 1, _ => kernel_rfl
  | 2, _ => kernel_rfl
  | 3, _ => kernel_rfl
  | 4, _ => kernel_rfl
  | 5, _ => kernel_rfl
  | 6, _ => kernel_rfl
  | 7, _ => kernel_rfl
  | q + 8, z => exact absurd z (by omega)
theorem a9_0_2 (t n w m : SV) (i : Nat) (hi : i < 8)  : P9_2 a0 (EV t n w (mL.getD i .non) m (.rls [.str "reader", .str "word", .str "fine", .str "reader", .str "word", .str "fine", .str "reader", .str "fine", .str "reader", .str "fine"]) (some (.adr 240))) [d0, d0, d0, .lst [.str "reader", .str "word", .str "fine", .str "reader", .str "word", .str "fine", .str "reader", .str "fine", .str "reader", .str "fine", .str "reader", .str (SL i)]] = .nx (EV t n w (mL.getD i .non) m (.rls [.str "reader", .str "word", .str "fine", .str "reader", .str "word", .str "fine", .str "reader", .str "fine", .str "reader", .str "fine", .str "reader", .str (SL i)]) (some (.adr 240))) [d0, d0, d0, .lst [.str "reader", .str "word", .str "fine", .str "reader", .str "word", .str "fine", .str "reader", .str "fine", .str "reader", .str "fine", .str "reader", .str (SL i)]] := by
  match i, hi with
  | 0, _ => kernel_rfl
  | 1, _ => kernel_rfl
  | 2, _ => kernel_rfl
  | 3, _ => kernel_rfl
  | 4, _ => kernel_rfl
  | 5, _ => kernel_rfl
  | 6, _ => kernel_rfl
  | 7, _ => kernel_rfl
  | q + 8, z => exact absurd z (by omega)
theorem a9_1_0 (t w l m : SV) (i : Nat) (hi : i < 8) (x : Str) : P9_0 a0 (EV t (mN.getD i .non) w l m (.rls [.str "reader", .str "word", .str "fine", .str "reader", .str "word", .str "fine", .str "reader", .str "fine", .str "reader", .str "fine", .str "reader", .str x]) (some (.adr 245))) [d0, d0, d0, .lst [.str "reader", .str "word", .str "fine", .str "reader", .str "word", .str "fine", .str "reader", .str "fine", .str "reader", .str "fine", .str "reader", .str x]] = .nx (EV t (mN.getD i .non) w l m (.rls [.str "reader", .str "word", .str "fine", .str "reader", .str "word", .str "fine", .str "reader", .str "fine", .str "reader", .str "fine", .str "reader", .str x]) (some (.adr 245))) [d0, d0, d0, .lst [.str "reader", .str "word", .str "fine", .str "reader", .str "word", .str "fine", .str "reader", .str "fine", .str "reader", .str "fine", .str "reader", .str x, .str "reader"]] := by
  match i, hi with
  | 0, _ => kernel_rfl
  | 1, _ => kernel_rfl
  | 2, _ => kernel_rfl
  | 3, _ => kernel_rfl
  | 4, _ => kernel_rfl
  | 5, _ => kernel_rfl
  | 6, _ => kernel_rfl
  | 7, _ => kernel_rfl
  | q + 8, z => exact absurd z (by omega)
theorem a9_1_1 (t n w m : SV) (i : Nat) (hi : i < 8) (x : Str) : P9_1 a0 (EV t n w (mL.getD i .non) m (.rls [.str "reader", .str "word", .str "fine", .str "reader", .str "word", .str "fine", .str "reader", .str "fine", .str "reader", .str "fine", .str "reader", .str x]) (some (.adr 245))) [d0, d0, d0, .lst [.str "reader", .str "word", .str "fine", .str "reader", .str "word", .str "fine", .str "reader", .str "fine", .str "reader", .str "fine", .str "reader", .str x, .str "reader"]] = .nx (EV t n w (mL.getD i .non) m (.rls [.str "reader", .str "word", .str "fine", .str "reader", .str "word", .str "fine", .str "reader", .str "fine", .str "reader", .str "fine", .str "reader", .str x]) (some (.adr 245))) [d0, d0, d0, .lst [.str "reader", .str "word", .str "fine", .str "reader", .str "word", .str "fine", .str "reader", .str "fine", .str "reader", .str "fine", .str "reader", .str x, .str "reader", .str (SL i)]] := by
  match i, hi with
  | 0, _ => kernel_rfl
  | 1, _ => kernel_rfl
  | 2, _ => kernel_rfl
  | 3, _ => kernel_rfl
  | 4, _ => kernel_rfl
  | 5, _ => kernel_rfl
  | 6, _ => kernel_rfl
  | 7, _ => kernel_rfl
  | q + 8, z => exact absurd z (by omega)
theorem a9_1_2 (t n w m : SV) (i : Nat) (hi : i < 8) (x : Str) : P9_2 a0 (EV t n w (mL.getD i .non) m (.rls [.str "reader", .str "word", .str "fine", .str "reader", .str "word", .str "fine", .str "reader", .str "fine", .str "reader", .str "fine", .str "reader", .str x]) (some (.adr 245))) [d0, d0, d0, .lst [.str "reader", .str "word", .str "fine", .str "reader", .str "word", .str "fine", .str "reader", .str "fine", .str "reader", .str "fine", .str "reader", .str x, .str "reader", .str (SL i)]] = .nx (EV t n w (mL.getD i .non) m (.rls [.str "reader", .str "word", .str "fine", .str "reader", .str "word", .str "fine", .str "reader", .str "fine", .str "reader", .str "fine", .str "reader", .str x, .str "reader", .str (SL i)]) (some (.adr 245))) [d0, d0, d0, .lst [.str "reader", .str "word", .str "fine", .str "reader", .str "word", .str "fine", .str "reader", .str "fine", .str "reader", .str "fine", .str "reader", .str x, .str "reader", .str (SL i)]] := by
  match i, hi with
  | 0, _ => kernel_rfl
  | 1, _ => kernel_rfl
  | 2, _ => kernel_rfl
  | 3, _ => kernel_rfl
  | 4, _ => kernel_rfl
  | 5, _ => kernel_rfl
  | 6, _ => kernel_rfl
  | 7, _ => kernel_rfl
  | q + 8, z => exact absurd z (by omega)
theorem a10 (t n w l m : SV)  (x : Str) : P10 a0 (EV t n w l m (.rls [.str "reader", .str "word", .str "fine", .str "reader", .str "word", .str "fine", .str "reader", .str "fine", .str "reader", .str "fine", .str "reader", .str x, .str "reader", .str x]) (some (.adr 245))) [d0, d0, d0, .lst [.str "reader", .str "word", .str "fine", .str "reader", .str "word", .str "fine", .str "reader", .str "fine", .str "reader", .str "fine", .str "reader", .str x, .str "reader", .str x]] = .nx (EV t n w l m (.rls [.str "reader", .str "word", .str "fine", .str "reader", .str "word", .str "fine", .str "reader", .str "fine", .str "reader", .str "fine", .str "reader", .str x, .str "reader", .str x]) (some (.adr 245))) [d0, d0, d0, .lst [.str "reader", .str "word", .str "fine", .str "reader", .str "word", .str "fine", .str "reader", .str "fine", .str "reader", .str "fine", .str "reader", .str x, .str "reader", .str x, .str "fine"]] := by kernel_rfl
theorem a11 (t n w l m : SV)  (x : Str) : P11 a0 (EV t n w l m (.rls [.str "reader", .str "word", .str "fine", .str "reader", .str "word", .str "fine", .str "reader", .str "fine", .str "reader", .str "fine", .str "reader", .str x, .str "reader", .str x]) (some (.adr 245))) [d0, d0, d0, .lst [.str "reader", .str "word", .str "fine", .str "reader", .str "word", .str "fine", .str "reader", .str "fine", .str "reader", .str "fine", .str "reader", .str x, .str "reader", .str x, .str "fine"]] = .nx (EV t n w l m (.rls [.str "reader", .str "word", .str "fine", .str "reader", .str "word", .str "fine", .str "reader", .str "fine", .str "reader", .str "fine", .str "reader", .str x, .str "reader", .str x]) (some (.adr 245))) [d0, d0, d0, .lst [.str "reader", .str "word", .str "fine", .str "reader", .str "word", .str "fine", .str "reader", .str "fine", .str "reader", .str "fine", .str "reader", .str x, .str "reader", .str x, .str "fine", .str "fine"]] := by kernel_rfl
theorem a12 (t n w l m : SV)  (x : Str) : P12 a0 (EV t n w l m (.rls [.str "reader", .str "word", .str "fine", .str "reader", .str "word", .str "fine", .str "reader", .str "fine", .str "reader", .str "fine", .str "reader", .str x, .str "reader", .str x]) (some (.adr 245))) [d0, d0, d0, .lst [.str "reader", .str "word", .str "fine", .str "reader", .str "word", .str "fine", .str "reader", .str "fine", .str "reader", .str "fine", .str "reader", .str x, .str "reader", .str x, .str "fine", .str "fine"]] = .nx (EV t n w l m (.rls [.str "reader", .str "word", .str "fine", .str "reader", .str "word", .str "fine", .str "reader", .str "fine", .str "reader", .str "fine", .str "reader", .str x, .str "reader", .str x]) (some (.adr 245))) [d0, d0, d0, .lst [.str "reader", .str "word", .str "fine", .str "reader", .str "word", .str "fine", .str "reader", .str "fine", .str "reader", .str "fine", .str "reader", .str x, .str "reader", .str x, .str "fine", .str "fine", .str "many 2000"]] := by kernel_rfl
theorem a13 (t n w l m : SV)  (x : Str) : P13 a0 (EV t n w l m (.rls [.str "reader", .str "word", .str "fine", .str "reader", .str "word", .str "fine", .str "reader", .str "fine", .str "reader", .str "fine", .str "reader", .str x, .str "reader", .str x]) (some (.adr 245))) [d0, d0, d0, .lst [.str "reader", .str "word", .str "fine", .str "reader", .str "word", .str "fine", .str "reader", .str "fine", .str "reader", .str "fine", .str "reader", .str x, .str "reader", .str x, .str "fine", .str "fine", .str "many 2000"]] = .nx (EV t n w l m (.rls [.str "reader", .str "word", .str "fine", .str "reader", .str "word", .str "fine", .str "reader", .str "fine", .str "reader", .str "fine", .str "reader", .str x, .str "reader", .str x, .str "fine", .str "fine", .str "many 2000"]) (some (.adr 245))) [d0, d0, d0, .lst [.str "reader", .str "word", .str "fine", .str "reader", .str "word", .str "fine", .str "reader", .str "fine", .str "reader", .str "fine", .str "reader", .str x, .str "reader", .str x, .str "fine", .str "fine", .str "many 2000"]] := by kernel_rfl
theorem a14 (t w l m : SV) (i : Nat) (hi : i < 8) (x : Str) : P14 a0 (EV t (mN.getD i .non) w l m (.rls [.str "reader", .str "word", .str "fine", .str "reader", .str "word", .str "fine", .str "reader", .str "fine", .str "reader", .str "fine", .str "reader", .str x, .str "reader", .str x, .str "fine", .str "fine", .str "many 2000"]) (some (.adr 245))) [d0, d0, d0, .lst [.str "reader", .str "word", .str "fine", .str "reader", .str "word", .str "fine", .str "reader", .str "fine", .str "reader", .str "fine", .str "reader", .str x, .str "reader", .str x, .str "fine", .str "fine", .str "many 2000"]] = .nx (EV t (mN.getD i .non) w l m (.rls [.str "reader", .str "word", .str "fine", .str "reader", .str "word", .str "fine", .str "reader", .str "fine", .str "reader", .str "fine", .str "reader", .str x, .str "reader", .str x, .str "fine", .str "fine", .str "many 2000"]) (some (.adr 245))) [d0, d0, d0, .lst [.str "reader", .str "word", .str "fine", .str "reader", .str "word", .str "fine", .str "reader", .str "fine", .str "reader", .str "fine", .str "reader", .str x, .str "reader", .str x, .str "fine", .str "fine", .str "many 2000", .str "reader"]] := by
  match i, hi with
  | 0, _ => kernel_rfl
  | 1, _ => kernel_rfl
  | 2, _ => kernel_rfl
  | 3, _ => kernel_rfl
  | 4, _ => kernel_rfl
  | 5, _ => kernel_rfl
  | 6, _ => kernel_rfl
  | 7, _ => kernel_rfl
  | q + 8, z => exact absurd z (by omega)
theorem a15 (t n l m : SV) (i : Nat) (hi : i < 13) (x : Str) : P15 a0 (EV t n (mW.getD i .non) l m (.rls [.str "reader", .str "word", .str "fine", .str "reader", .str "word", .str "fine", .str "reader", .str "fine", .str "reader", .str "fine", .str "reader", .str x, .str "reader", .str x, .str "fine", .str "fine", .str "many 2000"]) (some (.adr 245))) [d0, d0, d0, .lst [.str "reader", .str "word", .str "fine", .str "reader", .str "word", .str "fine", .str "reader", .str "fine", .str "reader", .str "fine", .str "reader", .str x, .str "reader", .str x, .str "fine", .str "fine", .str "many 2000", .str "reader"]] = .nx (EV t n (mW.getD i .non) l m (.rls [.str "reader", .str "word", .str "fine", .str "reader", .str "word", .str "fine", .str "reader", .str "fine", .str "reader", .str "fine", .str "reader", .str x, .str "reader", .str x, .str "fine", .str "fine", .str "many 2000"]) (some (.adr 245))) [d0, d0, d0, .lst [.str "reader", .str "word", .str "fine", .str "reader", .str "word", .str "fine", .str "reader", .str "fine", .str "reader", .str "fine", .str "reader", .str x, .str "reader", .str x, .str "fine", .str "fine", .str "many 2000", .str "reader", .str "word"]] := by
  match i, hi with
  | 0, _ => kernel_rfl
  | 1, _ => kernel_rfl
  | 2, _ => kernel_rfl
  | 3, _ => kernel_rfl
  | 4, _ => kernel_rfl
  | 5, _ => kernel_rfl
  | 6, _ => kernel_rfl
  | 7, _ => kernel_rfl
  | 8, _ => kernel_rfl
  | 9, _ => kernel_rfl
  | 10, _ => kernel_rfl
  | 11, _ => kernel_rfl
  | 12, _ => kernel_rfl
  | q + 13, z => exact absurd z (by omega)
theorem a16 (t n w l : SV) (k : Nat) (hk : k < 7) (x : Str) : P16 a0 (EV t n w l (mT.getD k .non) (.rls [.str "reader", .str "word", .str "fine", .str "reader", .str "word", .str "fine", .str "reader", .str "fine", .str "reader", .str "fine", .str "reader", .str x, .str "reader", .str x, .str "fine", .str "fine", .str "many 2000"]) (some (.adr 245))) [d0, d0, d0, .lst [.str "reader", .str "word", .str "fine", .str "reader", .str "word", .str "fine", .str "reader", .str "fine", .str "reader", .str "fine", .str "reader", .str x, .str "reader", .str x, .str "fine", .str "fine", .str "many 2000", .str "reader", .str "word"]] = .nx (EV t n w l (mT.getD k .non) (.rls [.str "reader", .str "word", .str "fine", .str "reader", .str "word", .str "fine", .str "reader", .str "fine", .str "reader", .str "fine", .str "reader", .str x, .str "reader", .str x, .str "fine", .str "fine", .str "many 2000"]) (some (.adr 245))) [d0, d0, d0, .lst [.str "reader", .str "word", .str "fine", .str "reader", .str "word", .str "fine", .str "reader", .str "fine", .str "reader", .str "fine", .str "reader", .str x, .str "reader", .str x, .str "fine", .str "fine", .str "many 2000", .str "reader", .str "word", .str (ST k)]] := by
  match k, hk with
  | 0, _ => kernel_rfl
  | 1, _ => kernel_rfl
  | 2, _ => kernel_rfl
  | 3, _ => kernel_rfl
  | 4, _ => kernel_rfl
  | 5, _ => kernel_rfl
  | 6, _ => kernel_rfl
  | q + 7, z => exact absurd z (by omega)
theorem a17 (t n w l m : SV)  (x : Str) (y : Str) : P17 a0 (EV t n w l m (.rls [.str "reader", .str "word", .str "fine", .str "reader", .str "word", .str "fine", .str "reader", .str "fine", .str "reader", .str "fine", .str "reader", .str x, .str "reader", .str x, .str "fine", .str "fine", .str "many 2000"]) (some (.adr 245))) [d0, d0, d0, .lst [.str "reader", .str "word", .str "fine", .str "reader", .str "word", .str "fine", .str "reader", .str "fine", .str "reader", .str "fine", .str "reader", .str x, .str "reader", .str x, .str "fine", .str "fine", .str "many 2000", .str "reader", .str "word", .str y]] = .nx (EV t n w l m (.rls [.str "reader", .str "word", .str "fine", .str "reader", .str "word", .str "fine", .str "reader", .str "fine", .str "reader", .str "fine", .str "reader", .str x, .str "reader", .str x, .str "fine", .str "fine", .str "many 2000"]) (some (.adr 245))) [d0, d0, d0, .lst [.str "reader", .str "word", .str "fine", .str "reader", .str "word", .str "fine", .str "reader", .str "fine", .str "reader", .str "fine", .str "reader", .str x, .str "reader", .str x, .str "fine", .str "fine", .str "many 2000", .str "reader", .str "word", .str y, .str "fine"]] := by kernel_rfl
theorem a18 (t n w : SV) (i : Nat) (hi : i < 8) (k : Nat) (hk : k < 7) : P18 a0 (EV t n w (mL.getD i .non) (mT.getD k .non) (.rls [.str "reader", .str "word", .str "fine", .str "reader", .str "word", .str "fine", .str "reader", .str "fine", .str "reader", .str "fine", .str "reader", .str (SL i), .str "reader", .str (SL i), .str "fine", .str "fine", .str "many 2000"]) (some (.adr 245))) [d0, d0, d0, .lst [.str "reader", .str "word", .str "fine", .str "reader", .str "word", .str "fine", .str "reader", .str "fine", .str "reader", .str "fine", .str "reader", .str (SL i), .str "reader", .str (SL i), .str "fine", .str "fine", .str "many 2000", .str "reader", .str "word", .str (ST k), .str "fine"]] = .rt (.bl true) [d0, d0, d0, .lst [.str "reader", .str "word", .str "fine", .str "reader", .str "word", .str "fine", .str "reader", .str "fine", .str "reader", .str "fine", .str "reader", .str (SL i), .str "reader", .str (SL i), .str "fine", .str "fine", .str "many 2000", .str "reader", .str "word", .str (ST k), .str "fine"]] := by
  match i, hi with
  | 0, _ => match k, hk with
    | 0, _ => kernel_rfl
    | 1, _ => kernel_rfl
    | 2, _ => kernel_rfl
    | 3, _ => kernel_rfl
    | 4, _ => kernel_rfl
    | 5, _ => kernel_rfl
    | 6, _ => kernel_rfl
    | q + 7, z => exact absurd z (by omega)
  | 1, _ => match k, hk with
    | 0, _ => kernel_rfl
    | 1, _ => kernel_rfl
    | 2, _ => kernel_rfl
    | 3, _ => kernel_rfl
    | 4, _ => kernel_rfl
    | 5, _ => kernel_rfl
    | 6, _ => kernel_rfl
    | q + 7, z => exact absurd z (by omega)
  | 2, _ => match k, hk with
    | 0, _ => kernel_rfl
    | 1, _ => kernel_rfl
    | 2, _ => kernel_rfl
    | 3, _ => kernel_rfl
    | 4, _ => kernel_rfl
    | 5, _ => kernel_rfl
    | 6, _ => kernel_rfl
    | q + 7, z => exact absurd z (by omega)
  | 3, _ => match k, hk with
    | 0, _ => kernel_rfl
    | 1, _ => kernel_rfl
    | 2, _ => kernel_rfl
    | 3, _ => kernel_rfl
    | 4, _ => kernel_rfl
    | 5, _ => kernel_rfl
    | 6, _ => kernel_rfl
    | q + 7, z => exact absurd z (by omega)
  | 4, _ => match k, hk with
    | 0, _ => kernel_rfl
    | 1, _ => kernel_rfl
    | 2, _ => kernel_rfl
    | 3, _ => kernel_rfl
    | 4, _ => kernel_rfl
    | 5, _ => kernel_rfl
    | 6, _ => kernel_rfl
    | q + 7, z => exact absurd z (by omega)
  | 5, _ => match k, hk with
    | 0, _ => kernel_rfl
    | 1, _ => kernel_rfl
    | 2, _ => kernel_rfl
    | 3, _ => kernel_rfl
    | 4, _ => kernel_rfl
    | 5, _ => kernel_rfl
    | 6, _ => kernel_rfl
    | q + 7, z => exact absurd z (by omega)
  | 6, _ => match k, hk with
    | 0, _ => kernel_rfl
    | 1, _ => kernel_rfl
    | 2, _ => kernel_rfl
    | 3, _ => kernel_rfl
    | 4, _ => kernel_rfl
    | 5, _ => kernel_rfl
    | 6, _ => kernel_rfl
    | q + 7, z => exact absurd z (by omega)
  | 7, _ => match k, hk with
    | 0, _ => kernel_rfl
    | 1, _ => kernel_rfl
    | 2, _ => kernel_rfl
    | 3, _ => kernel_rfl
    | 4, _ => kernel_rfl
    | 5, _ => kernel_rfl
    | 6, _ => kernel_rfl
    | q + 7, z => exact absurd z (by omega)
  | q + 8, z => exact absurd z (by omega)
end My

set_option Elab.async false
set_option linter.all false
set_option maxRecDepth 1000000
set_option maxHeartbeats 4000000
namespace My
open PySem L2 Sim
theorem atI_turn (xs : List SV) (t : Nat) (hp : 0 < xs.length) : L2.atI xs ((t % xs.length : Nat) : Int) = some (xs.getD (t % xs.length) .non) := by
  have := Nat.mod_lt t hp
  exact L2.atI_nat (by rw [List.getD_eq_getElem?_getD, List.getElem?_eq_getElem this]; rfl)
theorem len_rls (xs : List SV) (h : SHp) : lenF [.rls xs] h = some (nv xs.length) := rfl
theorem v_turned (xs : List SV) (t : Nat) (h : SHp) (hp : 0 < xs.length) : D_u_law_turned a0 [.rls xs, nv t] h = .ok (xs.getD (t % xs.length) .non) h := by
  simp only [D_u_law_turned, B_u_law_turned]
  ((try simp -implicitDefEqProofs only [ev_fn, fin_rt, fin_nx, fin_err, ev_seq, sq_nx, sq_rt, sq_err, ev_cNil, ev_set, ev_expr, ev_rt, ev_rtN, ev_if, ev_for, ev_asg, gt_some, ev_onV, ev_onB, bd_ok, bd_err, sr_ok, sr_err, bk_bl, ik_int, of_some, ev_ret, ev_bind, ev_var, ev_C, ev_op, ev_call, ev_cb, ev_tst, ev_eTst, ev_and, ev_or, ev_not, ev_eIf, ev_bAnd, ev_bOr, ev_bNot, ev_chain, ev_nil, ev_cons, ev_tup, ev_lst, ev_new, ev_neg, ev_fld, ev_sl, ev_oNo, ev_oYes, ev_bTrue, ev_lc, ev_it, ev_rng, ev_enum, lt_int, le_int, gt_int, ge_int, add_int, sub_int, gN_ap, isNoneF, notNoneF, List.map_cons, List.map_nil, List.cons_append, List.nil_append, List.append_nil, List.length_cons, List.length_nil, List.length_map, wipeE, Nat.reduceAdd, Nat.reduceSub, Nat.reduceLeDiff, List.replicate, List.getElem?_cons_zero, List.getElem?_cons_succ, Option.join_some, Option.join_none, List.set_cons_zero, List.set_cons_succ, gc_same, decide_true, decide_false, ev_fldS, ev_put, ev_app, if_true, if_false, ite_true, ite_false, Bool.false_eq_true, Bool.not_true, Bool.not_false, reduceIte, sizeLine_eq, ev_notT, ev_tru, ev_rev, ev_srtSet, ev_fmtS, ev_joinS_nil, ev_joinS, ev_eqO, ev_strO]); repeat (simp -implicitDefEqProofs only [int_int, len_rls]; (try simp -implicitDefEqProofs only [ev_fn, fin_rt, fin_nx, fin_err, ev_seq, sq_nx, sq_rt, sq_err, ev_cNil, ev_set, ev_expr, ev_rt, ev_rtN, ev_if, ev_for, ev_asg, gt_some, ev_onV, ev_onB, bd_ok, bd_err, sr_ok, sr_err, bk_bl, ik_int, of_some, ev_ret, ev_bind, ev_var, ev_C, ev_op, ev_call, ev_cb, ev_tst, ev_eTst, ev_and, ev_or, ev_not, ev_eIf, ev_bAnd, ev_bOr, ev_bNot, ev_chain, ev_nil, ev_cons, ev_tup, ev_lst, ev_new, ev_neg, ev_fld, ev_sl, ev_oNo, ev_oYes, ev_bTrue, ev_lc, ev_it, ev_rng, ev_enum, lt_int, le_int, gt_int, ge_int, add_int, sub_int, gN_ap, isNoneF, notNoneF, List.map_cons, List.map_nil, List.cons_append, List.nil_append, List.append_nil, List.length_cons, List.length_nil, List.length_map, wipeE, Nat.reduceAdd, Nat.reduceSub, Nat.reduceLeDiff, List.replicate, List.getElem?_cons_zero, List.getElem?_cons_succ, Option.join_some, Option.join_none, List.set_cons_zero, List.set_cons_succ, gc_same, decide_true, decide_false, ev_fldS, ev_put, ev_app, if_true, if_false, ite_true, ite_false, Bool.false_eq_true, Bool.not_true, Bool.not_false, reduceIte, sizeLine_eq, ev_notT, ev_tru, ev_rev, ev_srtSet, ev_fmtS, ev_joinS_nil, ev_joinS, ev_eqO, ev_strO])))
  rw [show SV.int (t : Int) = nv t from rfl, mod_nv hp]
  ((try simp -implicitDefEqProofs only [ev_fn, fin_rt, fin_nx, fin_err, ev_seq, sq_nx, sq_rt, sq_err, ev_cNil, ev_set, ev_expr, ev_rt, ev_rtN, ev_if, ev_for, ev_asg, gt_some, ev_onV, ev_onB, bd_ok, bd_err, sr_ok, sr_err, bk_bl, ik_int, of_some, ev_ret, ev_bind, ev_var, ev_C, ev_op, ev_call, ev_cb, ev_tst, ev_eTst, ev_and, ev_or, ev_not, ev_eIf, ev_bAnd, ev_bOr, ev_bNot, ev_chain, ev_nil, ev_cons, ev_tup, ev_lst, ev_new, ev_neg, ev_fld, ev_sl, ev_oNo, ev_oYes, ev_bTrue, ev_lc, ev_it, ev_rng, ev_enum, lt_int, le_int, gt_int, ge_int, add_int, sub_int, gN_ap, isNoneF, notNoneF, List.map_cons, List.map_nil, List.cons_append, List.nil_append, List.append_nil, List.length_cons, List.length_nil, List.length_map, wipeE, Nat.reduceAdd, Nat.reduceSub, Nat.reduceLeDiff, List.replicate, List.getElem?_cons_zero, List.getElem?_cons_succ, Option.join_some, Option.join_none, List.set_cons_zero, List.set_cons_succ, gc_same, decide_true, decide_false, ev_fldS, ev_put, ev_app, if_true, if_false, ite_true, ite_false, Bool.false_eq_true, Bool.not_true, Bool.not_false, reduceIte, sizeLine_eq, ev_notT, ev_tru, ev_rev, ev_srtSet, ev_fmtS, ev_joinS_nil, ev_joinS, ev_eqO, ev_strO]); repeat (simp -implicitDefEqProofs only [ixS_rls]; (try simp -implicitDefEqProofs only [ev_fn, fin_rt, fin_nx, fin_err, ev_seq, sq_nx, sq_rt, sq_err, ev_cNil, ev_set, ev_expr, ev_rt, ev_rtN, ev_if, ev_for, ev_asg, gt_some, ev_onV, ev_onB, bd_ok, bd_err, sr_ok, sr_err, bk_bl, ik_int, of_some, ev_ret, ev_bind, ev_var, ev_C, ev_op, ev_call, ev_cb, ev_tst, ev_eTst, ev_and, ev_or, ev_not, ev_eIf, ev_bAnd, ev_bOr, ev_bNot, ev_chain, ev_nil, ev_cons, ev_tup, ev_lst, ev_new, ev_neg, ev_fld, ev_sl, ev_oNo, ev_oYes, ev_bTrue, ev_lc, ev_it, ev_rng, ev_enum, lt_int, le_int, gt_int, ge_int, add_int, sub_int, gN_ap, isNoneF, notNoneF, List.map_cons, List.map_nil, List.cons_append, List.nil_append, List.append_nil, List.length_cons, List.length_nil, List.length_map, wipeE, Nat.reduceAdd, Nat.reduceSub, Nat.reduceLeDiff, List.replicate, List.getElem?_cons_zero, List.getElem?_cons_succ, Option.join_some, Option.join_none, List.set_cons_zero, List.set_cons_succ, gc_same, decide_true, decide_false, ev_fldS, ev_put, ev_app, if_true, if_false, ite_true, ite_false, Bool.false_eq_true, Bool.not_true, Bool.not_false, reduceIte, sizeLine_eq, ev_notT, ev_tru, ev_rev, ev_srtSet, ev_fmtS, ev_joinS_nil, ev_joinS, ev_eqO, ev_strO])))
  rw [atI_turn xs t hp]
  (try simp -implicitDefEqProofs only [ev_fn, fin_rt, fin_nx, fin_err, ev_seq, sq_nx, sq_rt, sq_err, ev_cNil, ev_set, ev_expr, ev_rt, ev_rtN, ev_if, ev_for, ev_asg, gt_some, ev_onV, ev_onB, bd_ok, bd_err, sr_ok, sr_err, bk_bl, ik_int, of_some, ev_ret, ev_bind, ev_var, ev_C, ev_op, ev_call, ev_cb, ev_tst, ev_eTst, ev_and, ev_or, ev_not, ev_eIf, ev_bAnd, ev_bOr, ev_bNot, ev_chain, ev_nil, ev_cons, ev_tup, ev_lst, ev_new, ev_neg, ev_fld, ev_sl, ev_oNo, ev_oYes, ev_bTrue, ev_lc, ev_it, ev_rng, ev_enum, lt_int, le_int, gt_int, ge_int, add_int, sub_int, gN_ap, isNoneF, notNoneF, List.map_cons, List.map_nil, List.cons_append, List.nil_append, List.append_nil, List.length_cons, List.length_nil, List.length_map, wipeE, Nat.reduceAdd, Nat.reduceSub, Nat.reduceLeDiff, List.replicate, List.getElem?_cons_zero, List.getElem?_cons_succ, Option.join_some, Option.join_none, List.set_cons_zero, List.set_cons_succ, gc_same, decide_true, decide_false, ev_fldS, ev_put, ev_app, if_true, if_false, ite_true, ite_false, Bool.false_eq_true, Bool.not_true, Bool.not_false, reduceIte, sizeLine_eq, ev_notT, ev_tru, ev_rev, ev_srtSet, ev_fmtS, ev_joinS_nil, ev_joinS, ev_eqO, ev_strO])
theorem turn_set {c : Sim.Env → M (List SV)} {e : Sim.Env} {h h' : SHp} {xs : List SV} {t k : Nat} (i : Nat) (q : c e h = .ok [.rls xs, nv t] h') (hp : xs.length = k) (kp : 0 < k) :
    cSet i (eCall (D_u_law_turned a0) c) e h = .nx (e.set i (some (xs.getD (t % k) .non))) h' := by
  subst hp
  simp only [cSet, onV, eCall, M.bind, q, v_turned xs t h' kp]
theorem v_right (t : Nat) : D_u_law_right a0 [nv t] [] = .ok (.bl true) [] := by
  have i8 : t % 8 < 8 := Nat.mod_lt _ (by omega)
  have i13 : t % 13 < 13 := Nat.mod_lt _ (by omega)
  have i7 : t % 7 < 7 := Nat.mod_lt _ (by omega)
  unfold D_u_law_right
  rw [ev_fn, right_eq]
  show fin true [] (cSeq _ _ [some (nv t), none, none, none, none, none, none, none, none, none] []) = _
  rw [seq_nx (s0 _)]
  rw [seq_nx (s := P1 a0) (turn_set (t := t) 3 (arg1 (nv t) real wide .non .non .non) len_mN (by omega))]
  simp only [List.set_cons_succ, List.set_cons_zero]
  rw [seq_nx (s2 _ _ _ _)]
  rw [seq_nx (s := P3 a0) (turn_set (t := t) (xs := mW) (h' := [d0, d0]) 4 rfl len_mW (by omega))]
  simp only [List.set_cons_succ, List.set_cons_zero]
  rw [seq_nx (s := P4 a0) (turn_set (t := t) 5 (arg4 (nv t) real wide _ _ .non) len_mL (by omega))]
  simp only [List.set_cons_succ, List.set_cons_zero]
  rw [seq_nx (s := P5 a0) (turn_set (t := t) 6 (arg5 (nv t) real wide _ _ _) len_mT (by omega))]
  simp only [List.set_cons_succ, List.set_cons_zero]
  rw [seq_nx (s6 _ _ _ _ _)]
  have l7 : P7 a0 (EV (nv t) (mN.getD (t % 8) .non) (mW.getD (t % 13) .non) (mL.getD (t % 8) .non) (mT.getD (t % 7) .non) (.rls []) none) [d0, d0, d0, .lst []] = .nx (EV (nv t) (mN.getD (t % 8) .non) (mW.getD (t % 13) .non) (mL.getD (t % 8) .non) (mT.getD (t % 7) .non) (.rls [.str "reader", .str "word", .str "fine", .str "reader", .str "word", .str "fine"]) (some (.adr 209))) [d0, d0, d0, .lst [.str "reader", .str "word", .str "fine", .str "reader", .str "word", .str "fine"]] := by
    unfold P7
    rw [for_run (xs := [.adr 195, .adr 209]) (h := [d0, d0, d0, .lst _]) (by kernel_rfl)]
    rw [forN_cons (by rw [EV_set]; unfold L7; rw [seq_nx (a7_0_0 _ _ _ _ _ i8), seq_nx (a7_0_1 _ _ _ _ _ i13), seq_nx (a7_0_2 _ _ _ _ _)]; exact a7_0_3 _ _ _ _ _)]
    rw [forN_cons (by rw [EV_set]; unfold L7; rw [seq_nx (a7_1_0 _ _ _ _ _ i8), seq_nx (a7_1_1 _ _ _ _ _ i13), seq_nx (a7_1_2 _ _ _ _ _)]; exact a7_1_3 _ _ _ _ _)]
    rw [forN_nil]
  rw [seq_nx l7]
  have l8 : P8 a0 (EV (nv t) (mN.getD (t % 8) .non) (mW.getD (t % 13) .non) (mL.getD (t % 8) .non) (mT.getD (t % 7) .non) (.rls [.str "reader", .str "word", .str "fine", .str "reader", .str "word", .str "fine"]) (some (.adr 209))) [d0, d0, d0, .lst [.str "reader", .str "word", .str "fine", .str "reader", .str "word", .str "fine"]] = .nx (EV (nv t) (mN.getD (t % 8) .non) (mW.getD (t % 13) .non) (mL.getD (t % 8) .non) (mT.getD (t % 7) .non) (.rls [.str "reader", .str "word", .str "fine", .str "reader", .str "word", .str "fine", .str "reader", .str "fine", .str "reader", .str "fine"]) (some (.adr 228))) [d0, d0, d0, .lst [.str "reader", .str "word", .str "fine", .str "reader", .str "word", .str "fine", .str "reader", .str "fine", .str "reader", .str "fine"]] := by
    unfold P8
    rw [for_run (xs := [.adr 216, .adr 228]) (h := [d0, d0, d0, .lst _]) (by kernel_rfl)]
    rw [forN_cons (by rw [EV_set]; unfold L8; rw [seq_nx (a8_0_0 _ _ _ _ _ i8), seq_nx (a8_0_1 _ _ _ _ _)]; exact a8_0_2 _ _ _ _ _)]
    rw [forN_cons (by rw [EV_set]; unfold L8; rw [seq_nx (a8_1_0 _ _ _ _ _ i8), seq_nx (a8_1_1 _ _ _ _ _)]; exact a8_1_2 _ _ _ _ _)]
    rw [forN_nil]
  rw [seq_nx l8]
  have l9 : P9 a0 (EV (nv t) (mN.getD (t % 8) .non) (mW.getD (t % 13) .non) (mL.getD (t % 8) .non) (mT.getD (t % 7) .non) (.rls [.str "reader", .str "word", .str "fine", .str "reader", .str "word", .str "fine", .str "reader", .str "fine", .str "reader", .str "fine"]) (some (.adr 228))) [d0, d0, d0, .lst [.str "reader", .str "word", .str "fine", .str "reader", .str "word", .str "fine", .str "reader", .str "fine", .str "reader", .str "fine"]] = .nx (EV (nv t) (mN.getD (t % 8) .non) (mW.getD (t % 13) .non) (mL.getD (t % 8) .non) (mT.getD (t % 7) .non) (.rls [.str "reader", .str "word", .str "fine", .str "reader", .str "word", .str "fine", .str "reader", .str "fine", .str "reader", .str "fine", .str "reader", .str (SL (t % 8)), .str "reader", .str (SL (t % 8))]) (some (.adr 245))) [d0, d0, d0, .lst [.str "reader", .str "word", .str "fine", .str "reader", .str "word", .str "fine", .str "reader", .str "fine", .str "reader", .str "fine", .str "reader", .str (SL (t % 8)), .str "reader", .str (SL (t % 8))]] := by
    unfold P9
    rw [for_run (xs := [.adr 240, .adr 245]) (h := [d0, d0, d0, .lst _]) (by kernel_rfl)]
    rw [forN_cons (by rw [EV_set]; unfold L9; rw [seq_nx (a9_0_0 _ _ _ _ _ i8), seq_nx (a9_0_1 _ _ _ _ _ i8)]; exact a9_0_2 _ _ _ _ _ i8)]
    rw [forN_cons (by rw [EV_set]; unfold L9; rw [seq_nx (a9_1_0 _ _ _ _ _ i8 _), seq_nx (a9_1_1 _ _ _ _ _ i8 _)]; exact a9_1_2 _ _ _ _ _ i8 _)]
    rw [forN_nil]
  rw [seq_nx l9]
  rw [seq_nx (a10 _ _ _ _ _ _), seq_nx (a11 _ _ _ _ _ _), seq_nx (a12 _ _ _ _ _ _), seq_nx (a13 _ _ _ _ _ _), seq_nx (a14 _ _ _ _ _ i8 _), seq_nx (a15 _ _ _ _ _ i13 _), seq_nx (a16 _ _ _ _ _ i7 _), seq_nx (a17 _ _ _ _ _ _ _), a18 _ _ _ _ i8 _ i7]
  rfl
end My

set_option Elab.async false
set_option linter.all false
set_option maxRecDepth 1000000
set_option maxHeartbeats 4000000
namespace My
open PySem L2 Sim
def lwD (a : Ads) : ST' := (cSet 2 (eGc (eCall (D_u_law_pick a) (aCons (eCall (D_u_law_bag a) (aCons (eVar 0) (aCons (eVar 1) aNil))) (aCons (eC (.int 1000)) aNil)))))
def lwI (a : Ads) : ST' := (cIf (bNot (eTst (eCall (D_u_law_right a) (aCons (eOp addF (eVar 2) (eVar 3)) aNil)))) (cRet (eC (.bl false))) cNil)
def lwF (a : Ads) : ST' := cFor (cRng1 (eC (.int 13))) (gN 3) (lwI a)
def lwB (a : Ads) : ST' := cSeq (lwD a) (lwF a)
def lwE (a : Ads) : ST' := cSeq ((cSet 4 (eMake true a.C_Reader (D_m_Reader_init a) (aCons (eC (.int 2)) (aCons (eTup (aCons (eTup (aCons (eC (.int 0)) (aCons (eC (.int 1)) aNil))) (aCons (eTup (aCons (eC (.int 1)) (aCons (eC (.int 0)) aNil))) aNil))) (aCons (eTup (aCons (eC (.int 0)) aNil)) aNil)))))) ((cRet (eOp (eqF false) (eLst (aCons (eCall (D_after_times a) (aCons (eVar 4) (aCons (eTup (aCons (eC (.int 1)) aNil)) (aCons (eOp subI (eOp powF (eC (.int 10)) (eC (.int 60))) (eC (.int 1))) aNil)))) (aCons (eCall (D_word_count a) (aCons (eVar 4) (aCons (eC (.int 0)) aNil))) (aCons (eCall (D_words a) (aCons (eVar 4) (aCons (eC (.int 1)) aNil))) aNil)))) (eLst (aCons (eC (.int 1)) (aCons (eC (.int 1)) (aCons (eTup (aCons (eTup (aCons (eC (.int 0)) aNil)) aNil)) aNil)))))))
theorem law_eq (a : Ads) : B_law a = cSeq (cFor (cRng1 (eCB max2F (aCons (eC (.int 1)) (aCons (eCB min2F (aCons (eC (.int 3)) (aCons (eCB lenF (aCons (eVar 0) aNil)) aNil))) aNil)))) (gN 1) (lwB a)) (lwE a) := rfl
theorem law_turns (e0 e1 e4 : Option SV) (p : Nat) : ∀ (items : List Nat) (e3 : Option SV), ∃ e3', forL (gN 3) (lwI a0) .no (items.map nv) [e0, e1, some (nv p), e3, e4] [] = .nx [e0, e1, some (nv p), e3', e4] []
  | [], e3 => ⟨e3, forL_nil rfl⟩
  | s :: ss, e3 => by
    have bd : lwI a0 [e0, e1, some (nv p), some (nv s), e4] [] = .nx [e0, e1, some (nv p), some (nv s), e4] [] := by
      simp only [lwI]
      ((try simp -implicitDefEqProofs only [ev_fn, fin_rt, fin_nx, fin_err, ev_seq, sq_nx, sq_rt, sq_err, ev_cNil, ev_set, ev_expr, ev_rt, ev_rtN, ev_if, ev_for, ev_asg, gt_some, ev_onV, ev_onB, bd_ok, bd_err, sr_ok, sr_err, bk_bl, ik_int, of_some, ev_ret, ev_bind, ev_var, ev_C, ev_op, ev_call, ev_cb, ev_tst, ev_eTst, ev_and, ev_or, ev_not, ev_eIf, ev_bAnd, ev_bOr, ev_bNot, ev_chain, ev_nil, ev_cons, ev_tup, ev_lst, ev_new, ev_neg, ev_fld, ev_sl, ev_oNo, ev_oYes, ev_bTrue, ev_lc, ev_it, ev_rng, ev_enum, lt_int, le_int, gt_int, ge_int, add_int, sub_int, gN_ap, isNoneF, notNoneF, List.map_cons, List.map_nil, List.cons_append, List.nil_append, List.append_nil, List.length_cons, List.length_nil, List.length_map, wipeE, Nat.reduceAdd, Nat.reduceSub, Nat.reduceLeDiff, List.replicate, List.getElem?_cons_zero, List.getElem?_cons_succ, Option.join_some, Option.join_none, List.set_cons_zero, List.set_cons_succ, gc_same, decide_true, decide_false, ev_fldS, ev_put, ev_app, if_true, if_false, ite_true, ite_false, Bool.false_eq_true, Bool.not_true, Bool.not_false, reduceIte, sizeLine_eq, ev_notT, ev_tru, ev_rev, ev_srtSet, ev_fmtS, ev_joinS_nil, ev_joinS, ev_eqO, ev_strO]); repeat (simp -implicitDefEqProofs only [show ∀ (i j : Nat), SV.int ((i : Int) + (j : Int)) = nv (i + j) from fun i j => by simp [nv], v_right]; (try simp -implicitDefEqProofs only [ev_fn, fin_rt, fin_nx, fin_err, ev_seq, sq_nx, sq_rt, sq_err, ev_cNil, ev_set, ev_expr, ev_rt, ev_rtN, ev_if, ev_for, ev_asg, gt_some, ev_onV, ev_onB, bd_ok, bd_err, sr_ok, sr_err, bk_bl, ik_int, of_some, ev_ret, ev_bind, ev_var, ev_C, ev_op, ev_call, ev_cb, ev_tst, ev_eTst, ev_and, ev_or, ev_not, ev_eIf, ev_bAnd, ev_bOr, ev_bNot, ev_chain, ev_nil, ev_cons, ev_tup, ev_lst, ev_new, ev_neg, ev_fld, ev_sl, ev_oNo, ev_oYes, ev_bTrue, ev_lc, ev_it, ev_rng, ev_enum, lt_int, le_int, gt_int, ge_int, add_int, sub_int, gN_ap, isNoneF, notNoneF, List.map_cons, List.map_nil, List.cons_append, List.nil_append, List.append_nil, List.length_cons, List.length_nil, List.length_map, wipeE, Nat.reduceAdd, Nat.reduceSub, Nat.reduceLeDiff, List.replicate, List.getElem?_cons_zero, List.getElem?_cons_succ, Option.join_some, Option.join_none, List.set_cons_zero, List.set_cons_succ, gc_same, decide_true, decide_false, ev_fldS, ev_put, ev_app, if_true, if_false, ite_true, ite_false, Bool.false_eq_true, Bool.not_true, Bool.not_false, reduceIte, sizeLine_eq, ev_notT, ev_tru, ev_rev, ev_srtSet, ev_fmtS, ev_joinS_nil, ev_joinS, ev_eqO, ev_strO])))
    obtain ⟨e3', q2⟩ := law_turns e0 e1 e4 p ss (some (nv s))
    exact ⟨e3', (forL_cons rfl rfl bd).trans q2⟩
theorem law_draw (ns : List Int) (e2 e3 e4 : Option SV) (x : Nat) (hx : x < 3) : ∃ p : Nat, lwD a0 [some (.frl (ns.map SV.int)), some (nv x), e2, e3, e4] [] = .nx [some (.frl (ns.map SV.int)), some (nv x), some (nv p), e3, e4] [] := by
  obtain ⟨z, m, q, b⟩ := v_bag a0 [] ns x hx
  obtain ⟨z', c', p, q2, _, _⟩ := v_pickN a0 [] b (by omega) 1000 (by omega) (by omega)
  refine ⟨p, ?_⟩
  have r : (eCall (D_u_law_pick a0) (aCons (eCall (D_u_law_bag a0) (aCons (eVar 0) (aCons (eVar 1) aNil))) (aCons (eC (.int 1000)) aNil))) [some (.frl (ns.map SV.int)), some (nv x), e2, e3, e4] [] = .ok (nv p) (bag [] z' m c') := by
    ((try simp -implicitDefEqProofs only [ev_fn, fin_rt, fin_nx, fin_err, ev_seq, sq_nx, sq_rt, sq_err, ev_cNil, ev_set, ev_expr, ev_rt, ev_rtN, ev_if, ev_for, ev_asg, gt_some, ev_onV, ev_onB, bd_ok, bd_err, sr_ok, sr_err, bk_bl, ik_int, of_some, ev_ret, ev_bind, ev_var, ev_C, ev_op, ev_call, ev_cb, ev_tst, ev_eTst, ev_and, ev_or, ev_not, ev_eIf, ev_bAnd, ev_bOr, ev_bNot, ev_chain, ev_nil, ev_cons, ev_tup, ev_lst, ev_new, ev_neg, ev_fld, ev_sl, ev_oNo, ev_oYes, ev_bTrue, ev_lc, ev_it, ev_rng, ev_enum, lt_int, le_int, gt_int, ge_int, add_int, sub_int, gN_ap, isNoneF, notNoneF, List.map_cons, List.map_nil, List.cons_append, List.nil_append, List.append_nil, List.length_cons, List.length_nil, List.length_map, wipeE, Nat.reduceAdd, Nat.reduceSub, Nat.reduceLeDiff, List.replicate, List.getElem?_cons_zero, List.getElem?_cons_succ, Option.join_some, Option.join_none, List.set_cons_zero, List.set_cons_succ, gc_same, decide_true, decide_false, ev_fldS, ev_put, ev_app, if_true, if_false, ite_true, ite_false, Bool.false_eq_true, Bool.not_true, Bool.not_false, reduceIte, sizeLine_eq, ev_notT, ev_tru, ev_rev, ev_srtSet, ev_fmtS, ev_joinS_nil, ev_joinS, ev_eqO, ev_strO]); repeat (simp -implicitDefEqProofs only [q]; (try simp -implicitDefEqProofs only [ev_fn, fin_rt, fin_nx, fin_err, ev_seq, sq_nx, sq_rt, sq_err, ev_cNil, ev_set, ev_expr, ev_rt, ev_rtN, ev_if, ev_for, ev_asg, gt_some, ev_onV, ev_onB, bd_ok, bd_err, sr_ok, sr_err, bk_bl, ik_int, of_some, ev_ret, ev_bind, ev_var, ev_C, ev_op, ev_call, ev_cb, ev_tst, ev_eTst, ev_and, ev_or, ev_not, ev_eIf, ev_bAnd, ev_bOr, ev_bNot, ev_chain, ev_nil, ev_cons, ev_tup, ev_lst, ev_new, ev_neg, ev_fld, ev_sl, ev_oNo, ev_oYes, ev_bTrue, ev_lc, ev_it, ev_rng, ev_enum, lt_int, le_int, gt_int, ge_int, add_int, sub_int, gN_ap, isNoneF, notNoneF, List.map_cons, List.map_nil, List.cons_append, List.nil_append, List.append_nil, List.length_cons, List.length_nil, List.length_map, wipeE, Nat.reduceAdd, Nat.reduceSub, Nat.reduceLeDiff, List.replicate, List.getElem?_cons_zero, List.getElem?_cons_succ, Option.join_some, Option.join_none, List.set_cons_zero, List.set_cons_succ, gc_same, decide_true, decide_false, ev_fldS, ev_put, ev_app, if_true, if_false, ite_true, ite_false, Bool.false_eq_true, Bool.not_true, Bool.not_false, reduceIte, sizeLine_eq, ev_notT, ev_tru, ev_rev, ev_srtSet, ev_fmtS, ev_joinS_nil, ev_joinS, ev_eqO, ev_strO])))
    exact q2
  simp only [lwD, cSet, onV, eGc, r]
  rfl
theorem law_loop (ns : List Int) (e4 : Option SV) : ∀ (items : List Nat) (e1 e2 e3 : Option SV), (∀ x ∈ items, x < 3) →
    ∃ e1' e2' e3', forL (gN 1) (lwB a0) .no (items.map nv) [some (.frl (ns.map SV.int)), e1, e2, e3, e4] [] = .nx [some (.frl (ns.map SV.int)), e1', e2', e3', e4] []
  | [], e1, e2, e3, _ => ⟨e1, e2, e3, forL_nil rfl⟩
  | x :: xs, e1, e2, e3, hx => by
    obtain ⟨p, q⟩ := law_draw ns e2 e3 e4 x (hx x (by simp))
    obtain ⟨e3', q2⟩ := law_turns (some (.frl (ns.map SV.int))) (some (nv x)) e4 p (List.range 13) e3
    have it : ((cRng1 (eC (.int 13))) : Sim.Env → M (List SV × Gd)) [some (.frl (ns.map SV.int)), some (nv x), some (nv p), e3, e4] [] = .ok ((List.range 13).map nv, .no) [] := by kernel_rfl
    have bd : lwB a0 [some (.frl (ns.map SV.int)), some (nv x), e2, e3, e4] [] = .nx [some (.frl (ns.map SV.int)), some (nv x), some (nv p), e3', e4] [] := by
      unfold lwB lwF
      rw [seq_nx q, for_run it, q2]
    obtain ⟨f1, f2, f3, q3⟩ := law_loop ns e4 xs (some (nv x)) (some (nv p)) e3' fun y hy => hx y (by simp [hy])
    exact ⟨f1, f2, f3, (forL_cons rfl rfl bd).trans q3⟩
theorem law_end (v e1 e2 e3 : Option SV) : lwE a0 [v, e1, e2, e3, none] [] = .rt (.bl true) [] := by kernel_rfl
theorem main (ns : List Int) (hl : ns.length ≤ 63) : ∃ h', D_law a0 [.frl (ns.map SV.int)] [] = .ok (.bl true) h' := by
  obtain ⟨e1, e2, e3, lp⟩ := law_loop ns none (List.range (max 1 (min 3 ns.length))) none none none (fun x hx => by
    have := List.mem_range.mp hx; omega)
  refine ⟨[], ?_⟩
  unfold D_law
  rw [ev_fn, law_eq]
  have it : ((cRng1 (eCB max2F (aCons (eC (.int 1)) (aCons (eCB min2F (aCons (eC (.int 3)) (aCons (eCB lenF (aCons (eVar 0) aNil)) aNil))) aNil)))) : Sim.Env → M (List SV × Gd)) [some (.frl (ns.map SV.int)), none, none, none, none] [] = .ok ((List.range (max 1 (min 3 ns.length))).map nv, .no) [] := by
    ((try simp -implicitDefEqProofs only [ev_fn, fin_rt, fin_nx, fin_err, ev_seq, sq_nx, sq_rt, sq_err, ev_cNil, ev_set, ev_expr, ev_rt, ev_rtN, ev_if, ev_for, ev_asg, gt_some, ev_onV, ev_onB, bd_ok, bd_err, sr_ok, sr_err, bk_bl, ik_int, of_some, ev_ret, ev_bind, ev_var, ev_C, ev_op, ev_call, ev_cb, ev_tst, ev_eTst, ev_and, ev_or, ev_not, ev_eIf, ev_bAnd, ev_bOr, ev_bNot, ev_chain, ev_nil, ev_cons, ev_tup, ev_lst, ev_new, ev_neg, ev_fld, ev_sl, ev_oNo, ev_oYes, ev_bTrue, ev_lc, ev_it, ev_rng, ev_enum, lt_int, le_int, gt_int, ge_int, add_int, sub_int, gN_ap, isNoneF, notNoneF, List.map_cons, List.map_nil, List.cons_append, List.nil_append, List.append_nil, List.length_cons, List.length_nil, List.length_map, wipeE, Nat.reduceAdd, Nat.reduceSub, Nat.reduceLeDiff, List.replicate, List.getElem?_cons_zero, List.getElem?_cons_succ, Option.join_some, Option.join_none, List.set_cons_zero, List.set_cons_succ, gc_same, decide_true, decide_false, ev_fldS, ev_put, ev_app, if_true, if_false, ite_true, ite_false, Bool.false_eq_true, Bool.not_true, Bool.not_false, reduceIte, sizeLine_eq, ev_notT, ev_tru, ev_rev, ev_srtSet, ev_fmtS, ev_joinS_nil, ev_joinS, ev_eqO, ev_strO]); repeat (simp -implicitDefEqProofs only [len_frl, max_int, min_int]; (try simp -implicitDefEqProofs only [ev_fn, fin_rt, fin_nx, fin_err, ev_seq, sq_nx, sq_rt, sq_err, ev_cNil, ev_set, ev_expr, ev_rt, ev_rtN, ev_if, ev_for, ev_asg, gt_some, ev_onV, ev_onB, bd_ok, bd_err, sr_ok, sr_err, bk_bl, ik_int, of_some, ev_ret, ev_bind, ev_var, ev_C, ev_op, ev_call, ev_cb, ev_tst, ev_eTst, ev_and, ev_or, ev_not, ev_eIf, ev_bAnd, ev_bOr, ev_bNot, ev_chain, ev_nil, ev_cons, ev_tup, ev_lst, ev_new, ev_neg, ev_fld, ev_sl, ev_oNo, ev_oYes, ev_bTrue, ev_lc, ev_it, ev_rng, ev_enum, lt_int, le_int, gt_int, ge_int, add_int, sub_int, gN_ap, isNoneF, notNoneF, List.map_cons, List.map_nil, List.cons_append, List.nil_append, List.append_nil, List.length_cons, List.length_nil, List.length_map, wipeE, Nat.reduceAdd, Nat.reduceSub, Nat.reduceLeDiff, List.replicate, List.getElem?_cons_zero, List.getElem?_cons_succ, Option.join_some, Option.join_none, List.set_cons_zero, List.set_cons_succ, gc_same, decide_true, decide_false, ev_fldS, ev_put, ev_app, if_true, if_false, ite_true, ite_false, Bool.false_eq_true, Bool.not_true, Bool.not_false, reduceIte, sizeLine_eq, ev_notT, ev_tru, ev_rev, ev_srtSet, ev_fmtS, ev_joinS_nil, ev_joinS, ev_eqO, ev_strO])))
    rw [rgF_int (n := max 1 (min 3 ns.length)) (by omega) (by split <;> split <;> omega)]
    simp only [rngL, nv, Int.zero_add]
  show fin true [] (cSeq _ _ [some (.frl (ns.map SV.int)), none, none, none, none] []) = _
  rw [seq_nx ((for_run it).trans lp), law_end]
  rfl
end My

namespace My
open PySem L2 Sim
/-! ### what the top has written -/
theorem all_mk {q : Program} {l : PySem.W.OpenLaw} {w : World} {K : PySem.W.Frag} {h : Heap} {mg : Str → Option Value} {fa : Addr} (X : K.In h) (G : h.Ns mainGlobals mg) (hfa : mg "law" = some (.ref fa)) (own : OwnTabs q K mg h)
    {f_is_integer : Addr} {oc_is_integer kV_is_integer dc_is_integer pm_is_integer cd_is_integer ct_is_integer : Value} {od_is_integer an_is_integer : Option Addr} {sl_is_integer : Array (Option Value)}
    {f_is_between : Addr} {oc_is_between kV_is_between dc_is_between pm_is_between cd_is_between ct_is_between : Value} {od_is_between an_is_between : Option Addr} {sl_is_between : Array (Option Value)}
    {f_is_index : Addr} {oc_is_index kV_is_index dc_is_index pm_is_index cd_is_index ct_is_index : Value} {od_is_index an_is_index : Option Addr} {sl_is_index : Array (Option Value)}
    {f_u_is_step : Addr} {oc_u_is_step kV_u_is_step dc_u_is_step pm_u_is_step cd_u_is_step ct_u_is_step : Value} {od_u_is_step an_u_is_step : Option Addr} {sl_u_is_step : Array (Option Value)}
    {f_is_ascending : Addr} {oc_is_ascending kV_is_ascending dc_is_ascending pm_is_ascending cd_is_ascending ct_is_ascending : Value} {od_is_ascending an_is_ascending : Option Addr} {sl_is_ascending : Array (Option Value)}
    {f_is_index_tuple : Addr} {oc_is_index_tuple kV_is_index_tuple dc_is_index_tuple pm_is_index_tuple cd_is_index_tuple ct_is_index_tuple : Value} {od_is_index_tuple an_is_index_tuple : Option Addr} {sl_is_index_tuple : Array (Option Value)}
    {f_reader_fault : Addr} {oc_reader_fault kV_reader_fault dc_reader_fault pm_reader_fault cd_reader_fault ct_reader_fault : Value} {od_reader_fault an_reader_fault : Option Addr} {sl_reader_fault : Array (Option Value)}
    {f_m_Reader_init : Addr} {oc_m_Reader_init kV_m_Reader_init dc_m_Reader_init pm_m_Reader_init cd_m_Reader_init ct_m_Reader_init : Value} {od_m_Reader_init an_m_Reader_init : Option Addr} {sl_m_Reader_init : Array (Option Value)}
    {f_u_law_bag : Addr} {oc_u_law_bag kV_u_law_bag dc_u_law_bag pm_u_law_bag cd_u_law_bag ct_u_law_bag : Value} {od_u_law_bag an_u_law_bag : Option Addr} {sl_u_law_bag : Array (Option Value)}
    {f_u_law_pick : Addr} {oc_u_law_pick kV_u_law_pick dc_u_law_pick pm_u_law_pick cd_u_law_pick ct_u_law_pick : Value} {od_u_law_pick an_u_law_pick : Option Addr} {sl_u_law_pick : Array (Option Value)}
    {f_u_law_turned : Addr} {oc_u_law_turned kV_u_law_turned dc_u_law_turned pm_u_law_turned cd_u_law_turned ct_u_law_turned : Value} {od_u_law_turned an_u_law_turned : Option Addr} {sl_u_law_turned : Array (Option Value)}
    {f_check_number : Addr} {oc_check_number kV_check_number dc_check_number pm_check_number cd_check_number ct_check_number : Value} {od_check_number an_check_number : Option Addr} {sl_check_number : Array (Option Value)}
    {f_check_reader : Addr} {oc_check_reader kV_check_reader dc_check_reader pm_check_reader cd_check_reader ct_check_reader : Value} {od_check_reader an_check_reader : Option Addr} {sl_check_reader : Array (Option Value)}
    {f_check_word : Addr} {oc_check_word kV_check_word dc_check_word pm_check_word cd_check_word ct_check_word : Value} {od_check_word an_check_word : Option Addr} {sl_check_word : Array (Option Value)}
    {f_state_from : Addr} {oc_state_from kV_state_from dc_state_from pm_state_from cd_state_from ct_state_from : Value} {od_state_from an_state_from : Option Addr} {sl_state_from : Array (Option Value)}
    {f_after_times : Addr} {oc_after_times kV_after_times dc_after_times pm_after_times cd_after_times ct_after_times : Value} {od_after_times an_after_times : Option Addr} {sl_after_times : Array (Option Value)}
    {f_first_words : Addr} {oc_first_words kV_first_words dc_first_words pm_first_words cd_first_words ct_first_words : Value} {od_first_words an_first_words : Option Addr} {sl_first_words : Array (Option Value)}
    {oc_first_word kV_first_word dc_first_word pm_first_word cd_first_word ct_first_word : Value} {od_first_word an_first_word : Option Addr} {sl_first_word : Array (Option Value)}
    {oc_met kV_met dc_met pm_met cd_met ct_met : Value} {od_met an_met : Option Addr} {sl_met : Array (Option Value)}
    {oc_state_after kV_state_after dc_state_after pm_state_after cd_state_after ct_state_after : Value} {od_state_after an_state_after : Option Addr} {sl_state_after : Array (Option Value)}
    {oc_takes kV_takes dc_takes pm_takes cd_takes ct_takes : Value} {od_takes an_takes : Option Addr} {sl_takes : Array (Option Value)}
    {f_u_counts : Addr} {oc_u_counts kV_u_counts dc_u_counts pm_u_counts cd_u_counts ct_u_counts : Value} {od_u_counts an_u_counts : Option Addr} {sl_u_counts : Array (Option Value)}
    {oc_word_count kV_word_count dc_word_count pm_word_count cd_word_count ct_word_count : Value} {od_word_count an_word_count : Option Addr} {sl_word_count : Array (Option Value)}
    {oc_words kV_words dc_words pm_words cd_words ct_words : Value} {od_words an_words : Option Addr} {sl_words : Array (Option Value)}
    {f_u_law_right : Addr} {oc_u_law_right kV_u_law_right dc_u_law_right pm_u_law_right ct_u_law_right : Value} {od_u_law_right an_u_law_right : Option Addr} {sl_u_law_right : Array (Option Value)}
    {cc_u_law_right tt_u_law_right : Addr} {ec_u_law_right : Value} {dd_u_law_right : Option Addr} {vc_u_law_right : Array Value} {sc_u_law_right : Array (Option Value)}
    {f_law : Addr} {oc_law kV_law dc_law pm_law cd_law ct_law : Value} {od_law an_law : Option Addr} {sl_law : Array (Option Value)}
    {f_u_law_heard : Addr} {oc_u_law_heard kV_u_law_heard dc_u_law_heard pm_u_law_heard cd_u_law_heard ct_u_law_heard : Value} {od_u_law_heard an_u_law_heard : Option Addr} {sl_u_law_heard : Array (Option Value)}
    {f_km_InvalidNumber_init : Addr} {oc_km_InvalidNumber_init kV_km_InvalidNumber_init dc_km_InvalidNumber_init pm_km_InvalidNumber_init cd_km_InvalidNumber_init ct_km_InvalidNumber_init : Value} {od_km_InvalidNumber_init an_km_InvalidNumber_init : Option Addr} {sl_km_InvalidNumber_init : Array (Option Value)}
    {f_km_TooMany_init : Addr} {oc_km_TooMany_init kV_km_TooMany_init dc_km_TooMany_init pm_km_TooMany_init cd_km_TooMany_init ct_km_TooMany_init : Value} {od_km_TooMany_init an_km_TooMany_init : Option Addr} {sl_km_TooMany_init : Array (Option Value)}
    {tk_MOST_LENGTH : Tok}
    {tk_MOST_LETTERS : Tok}
    {tk_MOST_LISTED : Tok}
    {tk_MOST_STATES : Tok}
    {tk_MOST_TIMES : Tok}
    {tk_MOST_WORD : Tok}
    (ac_InvalidReader : PySem.W.nsIn K mainGlobals "InvalidReader" = some (some (.ref 37)))
    (ac_InvalidWord : PySem.W.nsIn K mainGlobals "InvalidWord" = some (some (.ref 49)))
    (ac_InvalidNumber : PySem.W.nsIn K mainGlobals "InvalidNumber" = some (some (.ref 68)))
    (ac_TooMany : PySem.W.nsIn K mainGlobals "TooMany" = some (some (.ref 88)))
    (ac_Reader : PySem.W.nsIn K mainGlobals "Reader" = some (some (.ref 172)))
    (a_is_integer : PySem.W.nsIn K mainGlobals "is_integer" = some (some (.ref f_is_integer)))
    (l_is_integer : K.lookup f_is_integer = some ⟨oc_is_integer, od_is_integer, .func (PySem.W.fnOf "is_integer" "is_integer" (defArgs s_is_integer) (defBody s_is_integer) (defScope s_is_integer) .none kV_is_integer dc_is_integer pm_is_integer an_is_integer cd_is_integer ct_is_integer), sl_is_integer⟩)
    (c_is_integer : PySem.W.codeIn K cd_is_integer "is_integer" = true)
    (k_is_integer : PySem.W.keepIn K (.ref f_is_integer) = true)
    (a_is_between : PySem.W.nsIn K mainGlobals "is_between" = some (some (.ref f_is_between)))
    (l_is_between : K.lookup f_is_between = some ⟨oc_is_between, od_is_between, .func (PySem.W.fnOf "is_between" "is_between" (defArgs s_is_between) (defBody s_is_between) (defScope s_is_between) .none kV_is_between dc_is_between pm_is_between an_is_between cd_is_between ct_is_between), sl_is_between⟩)
    (c_is_between : PySem.W.codeIn K cd_is_between "is_between" = true)
    (k_is_between : PySem.W.keepIn K (.ref f_is_between) = true)
    (a_is_index : PySem.W.nsIn K mainGlobals "is_index" = some (some (.ref f_is_index)))
    (l_is_index : K.lookup f_is_index = some ⟨oc_is_index, od_is_index, .func (PySem.W.fnOf "is_index" "is_index" (defArgs s_is_index) (defBody s_is_index) (defScope s_is_index) .none kV_is_index dc_is_index pm_is_index an_is_index cd_is_index ct_is_index), sl_is_index⟩)
    (c_is_index : PySem.W.codeIn K cd_is_index "is_index" = true)
    (k_is_index : PySem.W.keepIn K (.ref f_is_index) = true)
    (a_u_is_step : PySem.W.nsIn K mainGlobals "_is_step" = some (some (.ref f_u_is_step)))
    (l_u_is_step : K.lookup f_u_is_step = some ⟨oc_u_is_step, od_u_is_step, .func (PySem.W.fnOf "_is_step" "_is_step" (defArgs s_u_is_step) (defBody s_u_is_step) (defScope s_u_is_step) .none kV_u_is_step dc_u_is_step pm_u_is_step an_u_is_step cd_u_is_step ct_u_is_step), sl_u_is_step⟩)
    (c_u_is_step : PySem.W.codeIn K cd_u_is_step "_is_step" = true)
    (k_u_is_step : PySem.W.keepIn K (.ref f_u_is_step) = true)
    (a_is_ascending : PySem.W.nsIn K mainGlobals "is_ascending" = some (some (.ref f_is_ascending)))
    (l_is_ascending : K.lookup f_is_ascending = some ⟨oc_is_ascending, od_is_ascending, .func (PySem.W.fnOf "is_ascending" "is_ascending" (defArgs s_is_ascending) (defBody s_is_ascending) (defScope s_is_ascending) .none kV_is_ascending dc_is_ascending pm_is_ascending an_is_ascending cd_is_ascending ct_is_ascending), sl_is_ascending⟩)
    (c_is_ascending : PySem.W.codeIn K cd_is_ascending "is_ascending" = true)
    (k_is_ascending : PySem.W.keepIn K (.ref f_is_ascending) = true)
    (a_is_index_tuple : PySem.W.nsIn K mainGlobals "is_index_tuple" = some (some (.ref f_is_index_tuple)))
    (l_is_index_tuple : K.lookup f_is_index_tuple = some ⟨oc_is_index_tuple, od_is_index_tuple, .func (PySem.W.fnOf "is_index_tuple" "is_index_tuple" (defArgs s_is_index_tuple) (defBody s_is_index_tuple) (defScope s_is_index_tuple) .none kV_is_index_tuple dc_is_index_tuple pm_is_index_tuple an_is_index_tuple cd_is_index_tuple ct_is_index_tuple), sl_is_index_tuple⟩)
    (c_is_index_tuple : PySem.W.codeIn K cd_is_index_tuple "is_index_tuple" = true)
    (k_is_index_tuple : PySem.W.keepIn K (.ref f_is_index_tuple) = true)
    (a_reader_fault : PySem.W.nsIn K mainGlobals "reader_fault" = some (some (.ref f_reader_fault)))
    (l_reader_fault : K.lookup f_reader_fault = some ⟨oc_reader_fault, od_reader_fault, .func (PySem.W.fnOf "reader_fault" "reader_fault" (defArgs s_reader_fault) (defBody s_reader_fault) (defScope s_reader_fault) .none kV_reader_fault dc_reader_fault pm_reader_fault an_reader_fault cd_reader_fault ct_reader_fault), sl_reader_fault⟩)
    (c_reader_fault : PySem.W.codeIn K cd_reader_fault "reader_fault" = true)
    (k_reader_fault : PySem.W.keepIn K (.ref f_reader_fault) = true)
    (a_m_Reader_init : PySem.W.findIn K (.ref 172) "__init__" = some (some (.ref f_m_Reader_init)))
    (i_m_Reader_init : PySem.W.isFn K (.ref f_m_Reader_init) = true)
    (l_m_Reader_init : K.lookup f_m_Reader_init = some ⟨oc_m_Reader_init, od_m_Reader_init, .func (PySem.W.fnOf "__init__" "Reader.__init__" (defArgs s_m_Reader_init) (defBody s_m_Reader_init) (defScope s_m_Reader_init) .none kV_m_Reader_init dc_m_Reader_init pm_m_Reader_init an_m_Reader_init cd_m_Reader_init ct_m_Reader_init), sl_m_Reader_init⟩)
    (c_m_Reader_init : PySem.W.codeIn K cd_m_Reader_init "Reader.__init__" = true)
    (k_m_Reader_init : PySem.W.keepIn K (.ref f_m_Reader_init) = true)
    (a_u_law_bag : PySem.W.nsIn K mainGlobals "_law_bag" = some (some (.ref f_u_law_bag)))
    (l_u_law_bag : K.lookup f_u_law_bag = some ⟨oc_u_law_bag, od_u_law_bag, .func (PySem.W.fnOf "_law_bag" "_law_bag" (defArgs s_u_law_bag) (defBody s_u_law_bag) (defScope s_u_law_bag) .none kV_u_law_bag dc_u_law_bag pm_u_law_bag an_u_law_bag cd_u_law_bag ct_u_law_bag), sl_u_law_bag⟩)
    (c_u_law_bag : PySem.W.codeIn K cd_u_law_bag "_law_bag" = true)
    (k_u_law_bag : PySem.W.keepIn K (.ref f_u_law_bag) = true)
    (a_u_law_pick : PySem.W.nsIn K mainGlobals "_law_pick" = some (some (.ref f_u_law_pick)))
    (l_u_law_pick : K.lookup f_u_law_pick = some ⟨oc_u_law_pick, od_u_law_pick, .func (PySem.W.fnOf "_law_pick" "_law_pick" (defArgs s_u_law_pick) (defBody s_u_law_pick) (defScope s_u_law_pick) .none kV_u_law_pick dc_u_law_pick pm_u_law_pick an_u_law_pick cd_u_law_pick ct_u_law_pick), sl_u_law_pick⟩)
    (c_u_law_pick : PySem.W.codeIn K cd_u_law_pick "_law_pick" = true)
    (k_u_law_pick : PySem.W.keepIn K (.ref f_u_law_pick) = true)
    (a_u_law_turned : PySem.W.nsIn K mainGlobals "_law_turned" = some (some (.ref f_u_law_turned)))
    (l_u_law_turned : K.lookup f_u_law_turned = some ⟨oc_u_law_turned, od_u_law_turned, .func (PySem.W.fnOf "_law_turned" "_law_turned" (defArgs s_u_law_turned) (defBody s_u_law_turned) (defScope s_u_law_turned) .none kV_u_law_turned dc_u_law_turned pm_u_law_turned an_u_law_turned cd_u_law_turned ct_u_law_turned), sl_u_law_turned⟩)
    (c_u_law_turned : PySem.W.codeIn K cd_u_law_turned "_law_turned" = true)
    (k_u_law_turned : PySem.W.keepIn K (.ref f_u_law_turned) = true)
    (a_check_number : PySem.W.nsIn K mainGlobals "check_number" = some (some (.ref f_check_number)))
    (l_check_number : K.lookup f_check_number = some ⟨oc_check_number, od_check_number, .func (PySem.W.fnOf "check_number" "check_number" (defArgs s_check_number) (defBody s_check_number) (defScope s_check_number) .none kV_check_number dc_check_number pm_check_number an_check_number cd_check_number ct_check_number), sl_check_number⟩)
    (c_check_number : PySem.W.codeIn K cd_check_number "check_number" = true)
    (k_check_number : PySem.W.keepIn K (.ref f_check_number) = true)
    (a_check_reader : PySem.W.nsIn K mainGlobals "check_reader" = some (some (.ref f_check_reader)))
    (l_check_reader : K.lookup f_check_reader = some ⟨oc_check_reader, od_check_reader, .func (PySem.W.fnOf "check_reader" "check_reader" (defArgs s_check_reader) (defBody s_check_reader) (defScope s_check_reader) .none kV_check_reader dc_check_reader pm_check_reader an_check_reader cd_check_reader ct_check_reader), sl_check_reader⟩)
    (c_check_reader : PySem.W.codeIn K cd_check_reader "check_reader" = true)
    (k_check_reader : PySem.W.keepIn K (.ref f_check_reader) = true)
    (a_check_word : PySem.W.nsIn K mainGlobals "check_word" = some (some (.ref f_check_word)))
    (l_check_word : K.lookup f_check_word = some ⟨oc_check_word, od_check_word, .func (PySem.W.fnOf "check_word" "check_word" (defArgs s_check_word) (defBody s_check_word) (defScope s_check_word) .none kV_check_word dc_check_word pm_check_word an_check_word cd_check_word ct_check_word), sl_check_word⟩)
    (c_check_word : PySem.W.codeIn K cd_check_word "check_word" = true)
    (k_check_word : PySem.W.keepIn K (.ref f_check_word) = true)
    (a_state_from : PySem.W.nsIn K mainGlobals "state_from" = some (some (.ref f_state_from)))
    (l_state_from : K.lookup f_state_from = some ⟨oc_state_from, od_state_from, .func (PySem.W.fnOf "state_from" "state_from" (defArgs s_state_from) (defBody s_state_from) (defScope s_state_from) .none kV_state_from dc_state_from pm_state_from an_state_from cd_state_from ct_state_from), sl_state_from⟩)
    (c_state_from : PySem.W.codeIn K cd_state_from "state_from" = true)
    (k_state_from : PySem.W.keepIn K (.ref f_state_from) = true)
    (a_after_times : PySem.W.nsIn K mainGlobals "after_times" = some (some (.ref f_after_times)))
    (l_after_times : K.lookup f_after_times = some ⟨oc_after_times, od_after_times, .func (PySem.W.fnOf "after_times" "after_times" (defArgs s_after_times) (defBody s_after_times) (defScope s_after_times) .none kV_after_times dc_after_times pm_after_times an_after_times cd_after_times ct_after_times), sl_after_times⟩)
    (c_after_times : PySem.W.codeIn K cd_after_times "after_times" = true)
    (k_after_times : PySem.W.keepIn K (.ref f_after_times) = true)
    (a_first_words : PySem.W.nsIn K mainGlobals "first_words" = some (some (.ref f_first_words)))
    (l_first_words : K.lookup f_first_words = some ⟨oc_first_words, od_first_words, .func (PySem.W.fnOf "first_words" "first_words" (defArgs s_first_words) (defBody s_first_words) (defScope s_first_words) .none kV_first_words dc_first_words pm_first_words an_first_words cd_first_words ct_first_words), sl_first_words⟩)
    (c_first_words : PySem.W.codeIn K cd_first_words "first_words" = true)
    (k_first_words : PySem.W.keepIn K (.ref f_first_words) = true)
    (a_first_word : PySem.W.nsIn K mainGlobals "first_word" = some (some (.ref 228)))
    (l_first_word : K.lookup 228 = some ⟨oc_first_word, od_first_word, .func (PySem.W.fnOf "first_word" "first_word" (defArgs s_first_word) (defBody s_first_word) (defScope s_first_word) .none kV_first_word dc_first_word pm_first_word an_first_word cd_first_word ct_first_word), sl_first_word⟩)
    (c_first_word : PySem.W.codeIn K cd_first_word "first_word" = true)
    (k_first_word : PySem.W.keepIn K (.ref 228) = true)
    (a_met : PySem.W.nsIn K mainGlobals "met" = some (some (.ref 216)))
    (l_met : K.lookup 216 = some ⟨oc_met, od_met, .func (PySem.W.fnOf "met" "met" (defArgs s_met) (defBody s_met) (defScope s_met) .none kV_met dc_met pm_met an_met cd_met ct_met), sl_met⟩)
    (c_met : PySem.W.codeIn K cd_met "met" = true)
    (k_met : PySem.W.keepIn K (.ref 216) = true)
    (a_state_after : PySem.W.nsIn K mainGlobals "state_after" = some (some (.ref 195)))
    (l_state_after : K.lookup 195 = some ⟨oc_state_after, od_state_after, .func (PySem.W.fnOf "state_after" "state_after" (defArgs s_state_after) (defBody s_state_after) (defScope s_state_after) .none kV_state_after dc_state_after pm_state_after an_state_after cd_state_after ct_state_after), sl_state_after⟩)
    (c_state_after : PySem.W.codeIn K cd_state_after "state_after" = true)
    (k_state_after : PySem.W.keepIn K (.ref 195) = true)
    (a_takes : PySem.W.nsIn K mainGlobals "takes" = some (some (.ref 209)))
    (l_takes : K.lookup 209 = some ⟨oc_takes, od_takes, .func (PySem.W.fnOf "takes" "takes" (defArgs s_takes) (defBody s_takes) (defScope s_takes) .none kV_takes dc_takes pm_takes an_takes cd_takes ct_takes), sl_takes⟩)
    (c_takes : PySem.W.codeIn K cd_takes "takes" = true)
    (k_takes : PySem.W.keepIn K (.ref 209) = true)
    (a_u_counts : PySem.W.nsIn K mainGlobals "_counts" = some (some (.ref f_u_counts)))
    (l_u_counts : K.lookup f_u_counts = some ⟨oc_u_counts, od_u_counts, .func (PySem.W.fnOf "_counts" "_counts" (defArgs s_u_counts) (defBody s_u_counts) (defScope s_u_counts) .none kV_u_counts dc_u_counts pm_u_counts an_u_counts cd_u_counts ct_u_counts), sl_u_counts⟩)
    (c_u_counts : PySem.W.codeIn K cd_u_counts "_counts" = true)
    (k_u_counts : PySem.W.keepIn K (.ref f_u_counts) = true)
    (a_word_count : PySem.W.nsIn K mainGlobals "word_count" = some (some (.ref 240)))
    (l_word_count : K.lookup 240 = some ⟨oc_word_count, od_word_count, .func (PySem.W.fnOf "word_count" "word_count" (defArgs s_word_count) (defBody s_word_count) (defScope s_word_count) .none kV_word_count dc_word_count pm_word_count an_word_count cd_word_count ct_word_count), sl_word_count⟩)
    (c_word_count : PySem.W.codeIn K cd_word_count "word_count" = true)
    (k_word_count : PySem.W.keepIn K (.ref 240) = true)
    (a_words : PySem.W.nsIn K mainGlobals "words" = some (some (.ref 245)))
    (l_words : K.lookup 245 = some ⟨oc_words, od_words, .func (PySem.W.fnOf "words" "words" (defArgs s_words) (defBody s_words) (defScope s_words) .none kV_words dc_words pm_words an_words cd_words ct_words), sl_words⟩)
    (c_words : PySem.W.codeIn K cd_words "words" = true)
    (k_words : PySem.W.keepIn K (.ref 245) = true)
    (a_u_law_right : PySem.W.nsIn K mainGlobals "_law_right" = some (some (.ref f_u_law_right)))
    (l_u_law_right : K.lookup f_u_law_right = some ⟨oc_u_law_right, od_u_law_right, .func (PySem.W.fnOf "_law_right" "_law_right" (defArgs s_u_law_right) (defBody s_u_law_right) (defScope s_u_law_right) .none kV_u_law_right dc_u_law_right pm_u_law_right an_u_law_right (.ref cc_u_law_right) ct_u_law_right), sl_u_law_right⟩)
    (c_u_law_right : PySem.W.codeIn K (.ref cc_u_law_right) "_law_right" = true)
    (k_u_law_right : PySem.W.keepIn K (.ref f_u_law_right) = true)
    (lc_u_law_right : K.lookup cc_u_law_right = some ⟨ec_u_law_right, dd_u_law_right, .fields vc_u_law_right, sc_u_law_right⟩)
    (lv_u_law_right : vc_u_law_right[11]? = some (.ref tt_u_law_right))
    (lt_u_law_right : K.lookup tt_u_law_right = none)
    (lh_u_law_right : PySem.W.codeHdIn K cc_u_law_right tt_u_law_right = true)
    (rq_u_law_right : (PyProof.Rows.recsOf q).any (fun e => e.name == "_law_right") = true)
    (a_law : PySem.W.nsIn K mainGlobals "law" = some (some (.ref f_law)))
    (l_law : K.lookup f_law = some ⟨oc_law, od_law, .func (PySem.W.fnOf "law" "law" (defArgs s_law) (defBody s_law) (defScope s_law) .none kV_law dc_law pm_law an_law cd_law ct_law), sl_law⟩)
    (c_law : PySem.W.codeIn K cd_law "law" = true)
    (k_law : PySem.W.keepIn K (.ref f_law) = true)
    (a_u_law_heard : PySem.W.nsIn K mainGlobals "_law_heard" = some (some (.ref f_u_law_heard)))
    (l_u_law_heard : K.lookup f_u_law_heard = some ⟨oc_u_law_heard, od_u_law_heard, .func (PySem.W.fnOf "_law_heard" "_law_heard" (defArgs s_u_law_heard) (defBody s_u_law_heard) (defScope s_u_law_heard) .none kV_u_law_heard dc_u_law_heard pm_u_law_heard an_u_law_heard cd_u_law_heard ct_u_law_heard), sl_u_law_heard⟩)
    (c_u_law_heard : PySem.W.codeIn K cd_u_law_heard "_law_heard" = true)
    (k_u_law_heard : PySem.W.keepIn K (.ref f_u_law_heard) = true)
    (pg_Reader : PySem.W.plainGet K 172 Str.empty = true)
    (hd_Reader : PySem.W.hasDictIn K 172 = true)
    (po_Reader : PySem.W.plainOver K 172 = true)
    (sa_Reader : PySem.W.findIn K (.ref 172) "__setattr__" = some (some (.builtin "object.__setattr__")))
    (mk_Reader : PySem.W.makesIn K 172 = true)
    (kc_Reader : PySem.W.keepIn K (.ref 172) = true)
    (ia_Reader : PySem.W.findIn K (.ref 172) "__class__" = some (some (.builtin "object.__class__")))
    (ib_Reader : PySem.W.specialIn K (.builtin "object.__class__") "__get__" = some (some (.builtin "getset_descriptor.__get__")))
    (ic_Reader : PySem.W.takesIn K (.builtin "object.__class__") = some true)
    (id_Reader : PySem.W.mroIn K 172 (.type "object") = some true)
    (iq_Reader : PySem.W.isClsIn K 172 = true)
    (ir_Reader : PySem.W.typeIn K (.ref 172) = some (.type "type"))
    (is_Reader_NoneType : PySem.W.subIn K (.type "NoneType") (.ref 172) = some false)
    (is_Reader_bool : PySem.W.subIn K (.type "bool") (.ref 172) = some false)
    (is_Reader_int : PySem.W.subIn K (.type "int") (.ref 172) = some false)
    (is_Reader_str : PySem.W.subIn K (.type "str") (.ref 172) = some false)
    (is_Reader_tuple : PySem.W.subIn K (.type "tuple") (.ref 172) = some false)
    (is_Reader_list : PySem.W.subIn K (.type "list") (.ref 172) = some false)
    (is_Reader_dict : PySem.W.subIn K (.type "dict") (.ref 172) = some false)
    (rx_InvalidReader : PySem.W.excIn K 37 [.type "ValueError", .type "Exception", .type "BaseException", .type "object"] "ValueError.__new__" = true)
    (rk_InvalidReader : PySem.W.keepIn K (.ref 37) = true)
    (rb_InvalidReader : PySem.W.subIn K (.ref 37) (.type "BaseException") = some true)
    (rt_InvalidReader : PySem.W.typeIn K (.ref 37) = some (.type "type"))
    (rx_InvalidWord : PySem.W.excIn K 49 [.type "ValueError", .type "Exception", .type "BaseException", .type "object"] "ValueError.__new__" = true)
    (rk_InvalidWord : PySem.W.keepIn K (.ref 49) = true)
    (rb_InvalidWord : PySem.W.subIn K (.ref 49) (.type "BaseException") = some true)
    (rt_InvalidWord : PySem.W.typeIn K (.ref 49) = some (.type "type"))
    (xq_InvalidNumber : PySem.W.isClsIn K 68 = true)
    (xb_InvalidNumber : PySem.W.subIn K (.ref 68) (.type "BaseException") = some true)
    (xt_InvalidNumber : PySem.W.typeIn K (.ref 68) = some (.type "type"))
    (xs_InvalidNumber : PySem.W.subIn K (.ref 68) (.ref 68) = some true)
    (xq_InvalidReader : PySem.W.isClsIn K 37 = true)
    (xb_InvalidReader : PySem.W.subIn K (.ref 37) (.type "BaseException") = some true)
    (xt_InvalidReader : PySem.W.typeIn K (.ref 37) = some (.type "type"))
    (xs_InvalidReader : PySem.W.subIn K (.ref 37) (.ref 37) = some true)
    (xq_InvalidWord : PySem.W.isClsIn K 49 = true)
    (xb_InvalidWord : PySem.W.subIn K (.ref 49) (.type "BaseException") = some true)
    (xt_InvalidWord : PySem.W.typeIn K (.ref 49) = some (.type "type"))
    (xs_InvalidWord : PySem.W.subIn K (.ref 49) (.ref 49) = some true)
    (xq_TooMany : PySem.W.isClsIn K 88 = true)
    (xb_TooMany : PySem.W.subIn K (.ref 88) (.type "BaseException") = some true)
    (xt_TooMany : PySem.W.typeIn K (.ref 88) = some (.type "type"))
    (xs_TooMany : PySem.W.subIn K (.ref 88) (.ref 88) = some true)
    (a_km_InvalidNumber_init : PySem.W.findIn K (.ref 68) "__init__" = some (some (.ref f_km_InvalidNumber_init)))
    (y_km_InvalidNumber_init : PySem.W.typeIn K (.ref f_km_InvalidNumber_init) = some (.type "function"))
    (l_km_InvalidNumber_init : K.lookup f_km_InvalidNumber_init = some ⟨oc_km_InvalidNumber_init, od_km_InvalidNumber_init, .func (PySem.W.fnOf "__init__" "InvalidNumber.__init__" (defArgs s_m_InvalidNumber_init) (defBody s_m_InvalidNumber_init) (defScope s_m_InvalidNumber_init) .none kV_km_InvalidNumber_init dc_km_InvalidNumber_init pm_km_InvalidNumber_init an_km_InvalidNumber_init cd_km_InvalidNumber_init ct_km_InvalidNumber_init), sl_km_InvalidNumber_init⟩)
    (c_km_InvalidNumber_init : PySem.W.codeIn K cd_km_InvalidNumber_init "InvalidNumber.__init__" = true)
    (k_km_InvalidNumber_init : PySem.W.keepIn K (.ref f_km_InvalidNumber_init) = true)
    (ki_InvalidNumber : PySem.W.excInitIn K 68 [.type "IndexError", .type "LookupError", .type "Exception", .type "BaseException", .type "object"] "IndexError.__new__" = true)
    (ko_InvalidNumber : PySem.W.excOver K 68 [.type "IndexError", .type "LookupError", .type "Exception", .type "BaseException", .type "object"] = true)
    (kt_InvalidNumber : PySem.W.takerIn K 68 "given" = some none)
    (kh_InvalidNumber : PySem.W.hasDictIn K 68 = true)
    (ks_InvalidNumber : PySem.W.findIn K (.ref 68) "__setattr__" = some (some (.builtin "object.__setattr__")))
    (kk_InvalidNumber : PySem.W.keepIn K (.ref 68) = true)
    (kq_InvalidNumber : PySem.W.subIn K (.ref 68) (.type "BaseException") = some true)
    (ky_InvalidNumber : PySem.W.typeIn K (.ref 68) = some (.type "type"))
    (a_km_TooMany_init : PySem.W.findIn K (.ref 88) "__init__" = some (some (.ref f_km_TooMany_init)))
    (y_km_TooMany_init : PySem.W.typeIn K (.ref f_km_TooMany_init) = some (.type "function"))
    (l_km_TooMany_init : K.lookup f_km_TooMany_init = some ⟨oc_km_TooMany_init, od_km_TooMany_init, .func (PySem.W.fnOf "__init__" "TooMany.__init__" (defArgs s_m_TooMany_init) (defBody s_m_TooMany_init) (defScope s_m_TooMany_init) .none kV_km_TooMany_init dc_km_TooMany_init pm_km_TooMany_init an_km_TooMany_init cd_km_TooMany_init ct_km_TooMany_init), sl_km_TooMany_init⟩)
    (c_km_TooMany_init : PySem.W.codeIn K cd_km_TooMany_init "TooMany.__init__" = true)
    (k_km_TooMany_init : PySem.W.keepIn K (.ref f_km_TooMany_init) = true)
    (ki_TooMany : PySem.W.excInitIn K 88 [.type "OverflowError", .type "ArithmeticError", .type "Exception", .type "BaseException", .type "object"] "OverflowError.__new__" = true)
    (ko_TooMany : PySem.W.excOver K 88 [.type "OverflowError", .type "ArithmeticError", .type "Exception", .type "BaseException", .type "object"] = true)
    (kt_TooMany : PySem.W.takerIn K 88 "limit" = some none)
    (kh_TooMany : PySem.W.hasDictIn K 88 = true)
    (ks_TooMany : PySem.W.findIn K (.ref 88) "__setattr__" = some (some (.builtin "object.__setattr__")))
    (kk_TooMany : PySem.W.keepIn K (.ref 88) = true)
    (kq_TooMany : PySem.W.subIn K (.ref 88) (.type "BaseException") = some true)
    (ky_TooMany : PySem.W.typeIn K (.ref 88) = some (.type "type"))
    (xg_InvalidNumber : PySem.W.findIn K (.ref 68) "__getattribute__" = some (some (.builtin "BaseException.__getattribute__")))
    (xh_InvalidNumber : PySem.W.findIn K (.ref 68) "__getattr__" = some none)
    (xe_InvalidNumber : PySem.W.subIn K (.ref 68) (.type "BaseException") = some true)
    (xd_InvalidNumber : PySem.W.hasDictIn K 68 = true)
    (xg_TooMany : PySem.W.findIn K (.ref 88) "__getattribute__" = some (some (.builtin "BaseException.__getattribute__")))
    (xh_TooMany : PySem.W.findIn K (.ref 88) "__getattr__" = some none)
    (xe_TooMany : PySem.W.subIn K (.ref 88) (.type "BaseException") = some true)
    (xd_TooMany : PySem.W.hasDictIn K 88 = true)
    (xa_InvalidNumber_given : PySem.W.findIn K (.ref 68) "given" = some none)
    (xa_TooMany_limit : PySem.W.findIn K (.ref 88) "limit" = some none)
    (xo_InvalidNumber_InvalidReader : PySem.W.subIn K (.ref 68) (.ref 37) = some false)
    (xo_InvalidNumber_InvalidWord : PySem.W.subIn K (.ref 68) (.ref 49) = some false)
    (xo_InvalidNumber_TooMany : PySem.W.subIn K (.ref 68) (.ref 88) = some false)
    (xo_InvalidReader_InvalidNumber : PySem.W.subIn K (.ref 37) (.ref 68) = some false)
    (xo_InvalidReader_InvalidWord : PySem.W.subIn K (.ref 37) (.ref 49) = some false)
    (xo_InvalidReader_TooMany : PySem.W.subIn K (.ref 37) (.ref 88) = some false)
    (xo_InvalidWord_InvalidNumber : PySem.W.subIn K (.ref 49) (.ref 68) = some false)
    (xo_InvalidWord_InvalidReader : PySem.W.subIn K (.ref 49) (.ref 37) = some false)
    (xo_InvalidWord_TooMany : PySem.W.subIn K (.ref 49) (.ref 88) = some false)
    (xo_TooMany_InvalidNumber : PySem.W.subIn K (.ref 88) (.ref 68) = some false)
    (xo_TooMany_InvalidReader : PySem.W.subIn K (.ref 88) (.ref 37) = some false)
    (xo_TooMany_InvalidWord : PySem.W.subIn K (.ref 88) (.ref 49) = some false)
    (na_Reader_accepting : PySem.W.findIn K (.ref 172) "accepting" = some none)
    (na_Reader_letters : PySem.W.findIn K (.ref 172) "letters" = some none)
    (na_Reader_states : PySem.W.findIn K (.ref 172) "states" = some none)
    (na_Reader_steps : PySem.W.findIn K (.ref 172) "steps" = some none)
    (cc_MOST_LENGTH : PySem.W.nsIn K mainGlobals "MOST_LENGTH" = some (some (.int 99 tk_MOST_LENGTH)))
    (cc_MOST_LETTERS : PySem.W.nsIn K mainGlobals "MOST_LETTERS" = some (some (.int 64 tk_MOST_LETTERS)))
    (cc_MOST_LISTED : PySem.W.nsIn K mainGlobals "MOST_LISTED" = some (some (.int 2000 tk_MOST_LISTED)))
    (cc_MOST_STATES : PySem.W.nsIn K mainGlobals "MOST_STATES" = some (some (.int 512 tk_MOST_STATES)))
    (cc_MOST_TIMES : PySem.W.nsIn K mainGlobals "MOST_TIMES" = some (some (.int 999999999999999999999999999999999999999999999999999999999999 tk_MOST_TIMES)))
    (cc_MOST_WORD : PySem.W.nsIn K mainGlobals "MOST_WORD" = some (some (.int 2000 tk_MOST_WORD)))
    (z_abs : PySem.W.nsIn K mainGlobals "abs" = some none)
    (z_all : PySem.W.nsIn K mainGlobals "all" = some none)
    (z_bool : PySem.W.nsIn K mainGlobals "bool" = some none)
    (z_enumerate : PySem.W.nsIn K mainGlobals "enumerate" = some none)
    (z_int : PySem.W.nsIn K mainGlobals "int" = some none)
    (z_isinstance : PySem.W.nsIn K mainGlobals "isinstance" = some none)
    (z_len : PySem.W.nsIn K mainGlobals "len" = some none)
    (z_max : PySem.W.nsIn K mainGlobals "max" = some none)
    (z_min : PySem.W.nsIn K mainGlobals "min" = some none)
    (z_range : PySem.W.nsIn K mainGlobals "range" = some none)
    (z_repr : PySem.W.nsIn K mainGlobals "repr" = some none)
    (z_sorted : PySem.W.nsIn K mainGlobals "sorted" = some none)
    (z_sum : PySem.W.nsIn K mainGlobals "sum" = some none)
    (z_tuple : PySem.W.nsIn K mainGlobals "tuple" = some none)
    (z_zip : PySem.W.nsIn K mainGlobals "zip" = some none)
    : LawG l w K 10 "script" mg fa h := by
  have e : f_law = fa := by have e := (PySem.W.mg_of X G a_law).symm.trans hfa; injection e with e; injection e
  subst e
  have F_is_integer := fun_mk (st := s_is_integer) l_is_integer c_is_integer k_is_integer
  have b_is_integer := F_is_integer.binds (ps := ["value"]) fun _ _ _ _ _ _ us hl => match us, hl with | [_], _ => rfl
  have F_is_between := fun_mk (st := s_is_between) l_is_between c_is_between k_is_between
  have b_is_between := F_is_between.binds (ps := ["value", "low", "high"]) fun _ _ _ _ _ _ us hl => match us, hl with | [_, _, _], _ => rfl
  have F_is_index := fun_mk (st := s_is_index) l_is_index c_is_index k_is_index
  have b_is_index := F_is_index.binds (ps := ["value", "many"]) fun _ _ _ _ _ _ us hl => match us, hl with | [_, _], _ => rfl
  have F_u_is_step := fun_mk (st := s_u_is_step) l_u_is_step c_u_is_step k_u_is_step
  have b_u_is_step := F_u_is_step.binds (ps := ["letters", "states", "value"]) fun _ _ _ _ _ _ us hl => match us, hl with | [_, _, _], _ => rfl
  have F_is_ascending := fun_mk (st := s_is_ascending) l_is_ascending c_is_ascending k_is_ascending
  have b_is_ascending := F_is_ascending.binds (ps := ["values"]) fun _ _ _ _ _ _ us hl => match us, hl with | [_], _ => rfl
  have F_is_index_tuple := fun_mk (st := s_is_index_tuple) l_is_index_tuple c_is_index_tuple k_is_index_tuple
  have b_is_index_tuple := F_is_index_tuple.binds (ps := ["value", "many"]) fun _ _ _ _ _ _ us hl => match us, hl with | [_, _], _ => rfl
  have F_reader_fault := fun_mk (st := s_reader_fault) l_reader_fault c_reader_fault k_reader_fault
  have b_reader_fault := F_reader_fault.binds (ps := ["letters", "steps", "accepting"]) fun _ _ _ _ _ _ us hl => match us, hl with | [_, _, _], _ => rfl
  have F_m_Reader_init := fun_mk (st := s_m_Reader_init) l_m_Reader_init c_m_Reader_init k_m_Reader_init
  have b_m_Reader_init := F_m_Reader_init.binds (ps := ["self", "letters", "steps", "accepting"]) fun _ _ _ _ _ _ us hl => match us, hl with | [_, _, _, _], _ => rfl
  have F_u_law_bag := fun_mk (st := s_u_law_bag) l_u_law_bag c_u_law_bag k_u_law_bag
  have b_u_law_bag := F_u_law_bag.binds (ps := ["script", "spot"]) fun _ _ _ _ _ _ us hl => match us, hl with | [_, _], _ => rfl
  have F_u_law_pick := fun_mk (st := s_u_law_pick) l_u_law_pick c_u_law_pick k_u_law_pick
  have b_u_law_pick := F_u_law_pick.binds (ps := ["bag", "total"]) fun _ _ _ _ _ _ us hl => match us, hl with | [_, _], _ => rfl
  have F_u_law_turned := fun_mk (st := s_u_law_turned) l_u_law_turned c_u_law_turned k_u_law_turned
  have b_u_law_turned := F_u_law_turned.binds (ps := ["items", "turn"]) fun _ _ _ _ _ _ us hl => match us, hl with | [_, _], _ => rfl
  have F_check_number := fun_mk (st := s_check_number) l_check_number c_check_number k_check_number
  have b_check_number := F_check_number.binds (ps := ["value", "low", "high"]) fun _ _ _ _ _ _ us hl => match us, hl with | [_, _, _], _ => rfl
  have F_check_reader := fun_mk (st := s_check_reader) l_check_reader c_check_reader k_check_reader
  have b_check_reader := F_check_reader.binds (ps := ["value"]) fun _ _ _ _ _ _ us hl => match us, hl with | [_], _ => rfl
  have F_check_word := fun_mk (st := s_check_word) l_check_word c_check_word k_check_word
  have b_check_word := F_check_word.binds (ps := ["letters", "value"]) fun _ _ _ _ _ _ us hl => match us, hl with | [_, _], _ => rfl
  have F_state_from := fun_mk (st := s_state_from) l_state_from c_state_from k_state_from
  have b_state_from := F_state_from.binds (ps := ["reader", "state", "word"]) fun _ _ _ _ _ _ us hl => match us, hl with | [_, _, _], _ => rfl
  have F_after_times := fun_mk (st := s_after_times) l_after_times c_after_times k_after_times
  have b_after_times := F_after_times.binds (ps := ["reader", "word", "times"]) fun _ _ _ _ _ _ us hl => match us, hl with | [_, _, _], _ => rfl
  have F_first_words := fun_mk (st := s_first_words) l_first_words c_first_words k_first_words
  have b_first_words := F_first_words.binds (ps := ["reader"]) fun _ _ _ _ _ _ us hl => match us, hl with | [_], _ => rfl
  have F_first_word := fun_mk (st := s_first_word) l_first_word c_first_word k_first_word
  have b_first_word := F_first_word.binds (ps := ["reader"]) fun _ _ _ _ _ _ us hl => match us, hl with | [_], _ => rfl
  have F_met := fun_mk (st := s_met) l_met c_met k_met
  have b_met := F_met.binds (ps := ["reader"]) fun _ _ _ _ _ _ us hl => match us, hl with | [_], _ => rfl
  have F_state_after := fun_mk (st := s_state_after) l_state_after c_state_after k_state_after
  have b_state_after := F_state_after.binds (ps := ["reader", "word"]) fun _ _ _ _ _ _ us hl => match us, hl with | [_, _], _ => rfl
  have F_takes := fun_mk (st := s_takes) l_takes c_takes k_takes
  have b_takes := F_takes.binds (ps := ["reader", "word"]) fun _ _ _ _ _ _ us hl => match us, hl with | [_, _], _ => rfl
  have F_u_counts := fun_mk (st := s_u_counts) l_u_counts c_u_counts k_u_counts
  have b_u_counts := F_u_counts.binds (ps := ["reader", "length"]) fun _ _ _ _ _ _ us hl => match us, hl with | [_, _], _ => rfl
  have F_word_count := fun_mk (st := s_word_count) l_word_count c_word_count k_word_count
  have b_word_count := F_word_count.binds (ps := ["reader", "length"]) fun _ _ _ _ _ _ us hl => match us, hl with | [_, _], _ => rfl
  have F_words := fun_mk (st := s_words) l_words c_words k_words
  have b_words := F_words.binds (ps := ["reader", "length"]) fun _ _ _ _ _ _ us hl => match us, hl with | [_, _], _ => rfl
  have F_u_law_right := fun_mk (st := s_u_law_right) l_u_law_right c_u_law_right k_u_law_right
  have b_u_law_right := F_u_law_right.binds (ps := ["turn"]) fun _ _ _ _ _ _ us hl => match us, hl with | [_], _ => rfl
  have F_law := fun_mk (st := s_law) l_law c_law k_law
  have b_law := F_law.binds (ps := ["script"]) fun _ _ _ _ _ _ us hl => match us, hl with | [_], _ => rfl
  have F_u_law_heard := fun_mk (st := s_u_law_heard) l_u_law_heard c_u_law_heard k_u_law_heard
  have b_u_law_heard := F_u_law_heard.binds (ps := ["call"]) fun _ _ _ _ _ _ us hl => match us, hl with | [_], _ => rfl
  have it_Reader_NoneType := kit_no (t := "NoneType") iq_Reader ir_Reader is_Reader_NoneType; have it_Reader_bool := kit_no (t := "bool") iq_Reader ir_Reader is_Reader_bool; have it_Reader_int := kit_no (t := "int") iq_Reader ir_Reader is_Reader_int; have it_Reader_str := kit_no (t := "str") iq_Reader ir_Reader is_Reader_str; have it_Reader_tuple := kit_no (t := "tuple") iq_Reader ir_Reader is_Reader_tuple; have it_Reader_list := kit_no (t := "list") iq_Reader ir_Reader is_Reader_list; have it_Reader_dict := kit_no (t := "dict") iq_Reader ir_Reader is_Reader_dict
  have F_km_InvalidNumber_init := fun_mk (st := s_m_InvalidNumber_init) l_km_InvalidNumber_init c_km_InvalidNumber_init k_km_InvalidNumber_init
  have b_km_InvalidNumber_init := F_km_InvalidNumber_init.binds (ps := ["self", "given"]) fun _ _ _ _ _ _ us hl => match us, hl with | [_, _], _ => rfl
  have F_km_TooMany_init := fun_mk (st := s_m_TooMany_init) l_km_TooMany_init c_km_TooMany_init k_km_TooMany_init
  have b_km_TooMany_init := F_km_TooMany_init.binds (ps := ["self", "limit"]) fun _ _ _ _ _ _ us hl => match us, hl with | [_, _], _ => rfl
  let a : Ads := a0
  let T0 : List NdefX.NTab := [(tt_u_law_right, nm_u_law_right)]
  let cs0 : List (Addr × Addr) := [(cc_u_law_right, tt_u_law_right)]
  letI tabl : Tabl := ⟨T0⟩
  have tu_u_law_right : ∀ p ∈ T0, p.1 = tt_u_law_right → p.2 = nm_u_law_right := by
    intro p hp e; simp only [T0, List.mem_cons, List.not_mem_nil, or_false] at hp
    rcases hp with rfl
    · rfl
  refine ⟨tabl, PySem.W.fnOf "law" "law" (defArgs s_law) (defBody s_law) (defScope s_law) .none kV_law dc_law pm_law an_law cd_law ct_law, cs0, D_law a0, (List.forall_mem_cons.mpr ⟨own _ _ _ _ _ _ _ _ _ _ rq_u_law_right (PySem.W.mg_of X G a_u_law_right) l_u_law_right rfl rfl lc_u_law_right lv_u_law_right, fun _ h => nomatch h⟩), (List.forall_mem_cons.mpr ⟨lt_u_law_right, fun _ h => nomatch h⟩), (List.forall_mem_cons.mpr ⟨PySem.W.codeHd_of_K X lh_u_law_right, fun _ h => nomatch h⟩), (List.forall_mem_cons.mpr ⟨⟨(cc_u_law_right, tt_u_law_right), mem_at cs0 0 rfl, rfl⟩, fun _ h => nomatch h⟩), fun s v => .of_eq rfl, fun ns hl => main ns hl, fun base hK hM hTB => ?_⟩
  let T : Top K mg base a := { p_is_integer := f_is_integer, d_is_integer := (_), F_is_integer := F_is_integer, b_is_integer := b_is_integer, g_is_integer := PySem.W.mg_of X G a_is_integer, p_is_between := f_is_between, d_is_between := (_), F_is_between := F_is_between, b_is_between := b_is_between, g_is_between := PySem.W.mg_of X G a_is_between, p_is_index := f_is_index, d_is_index := (_), F_is_index := F_is_index, b_is_index := b_is_index, g_is_index := PySem.W.mg_of X G a_is_index, p_u_is_step := f_u_is_step, d_u_is_step := (_), F_u_is_step := F_u_is_step, b_u_is_step := b_u_is_step, g_u_is_step := PySem.W.mg_of X G a_u_is_step, p_is_ascending := f_is_ascending, d_is_ascending := (_), F_is_ascending := F_is_ascending, b_is_ascending := b_is_ascending, g_is_ascending := PySem.W.mg_of X G a_is_ascending, p_is_index_tuple := f_is_index_tuple, d_is_index_tuple := (_), F_is_index_tuple := F_is_index_tuple, b_is_index_tuple := b_is_index_tuple, g_is_index_tuple := PySem.W.mg_of X G a_is_index_tuple, p_reader_fault := f_reader_fault, d_reader_fault := (_), F_reader_fault := F_reader_fault, b_reader_fault := b_reader_fault, g_reader_fault := PySem.W.mg_of X G a_reader_fault, p_m_Reader_init := f_m_Reader_init, d_m_Reader_init := (_), F_m_Reader_init := F_m_Reader_init, b_m_Reader_init := b_m_Reader_init, p_u_law_bag := f_u_law_bag, d_u_law_bag := (_), F_u_law_bag := F_u_law_bag, b_u_law_bag := b_u_law_bag, g_u_law_bag := PySem.W.mg_of X G a_u_law_bag, p_u_law_pick := f_u_law_pick, d_u_law_pick := (_), F_u_law_pick := F_u_law_pick, b_u_law_pick := b_u_law_pick, g_u_law_pick := PySem.W.mg_of X G a_u_law_pick, p_u_law_turned := f_u_law_turned, d_u_law_turned := (_), F_u_law_turned := F_u_law_turned, b_u_law_turned := b_u_law_turned, g_u_law_turned := PySem.W.mg_of X G a_u_law_turned, p_check_number := f_check_number, d_check_number := (_), F_check_number := F_check_number, b_check_number := b_check_number, g_check_number := PySem.W.mg_of X G a_check_number, p_check_reader := f_check_reader, d_check_reader := (_), F_check_reader := F_check_reader, b_check_reader := b_check_reader, g_check_reader := PySem.W.mg_of X G a_check_reader, p_check_word := f_check_word, d_check_word := (_), F_check_word := F_check_word, b_check_word := b_check_word, g_check_word := PySem.W.mg_of X G a_check_word, p_state_from := f_state_from, d_state_from := (_), F_state_from := F_state_from, b_state_from := b_state_from, g_state_from := PySem.W.mg_of X G a_state_from, p_after_times := f_after_times, d_after_times := (_), F_after_times := F_after_times, b_after_times := b_after_times, g_after_times := PySem.W.mg_of X G a_after_times, p_first_words := f_first_words, d_first_words := (_), F_first_words := F_first_words, b_first_words := b_first_words, g_first_words := PySem.W.mg_of X G a_first_words, d_first_word := (_), F_first_word := F_first_word, b_first_word := b_first_word, g_first_word := PySem.W.mg_of X G a_first_word, d_met := (_), F_met := F_met, b_met := b_met, g_met := PySem.W.mg_of X G a_met, d_state_after := (_), F_state_after := F_state_after, b_state_after := b_state_after, g_state_after := PySem.W.mg_of X G a_state_after, d_takes := (_), F_takes := F_takes, b_takes := b_takes, g_takes := PySem.W.mg_of X G a_takes, p_u_counts := f_u_counts, d_u_counts := (_), F_u_counts := F_u_counts, b_u_counts := b_u_counts, g_u_counts := PySem.W.mg_of X G a_u_counts, d_word_count := (_), F_word_count := F_word_count, b_word_count := b_word_count, g_word_count := PySem.W.mg_of X G a_word_count, d_words := (_), F_words := F_words, b_words := b_words, g_words := PySem.W.mg_of X G a_words, cc_u_law_right := cc_u_law_right, tt_u_law_right := tt_u_law_right, tb_u_law_right := hTB _ (mem_at cs0 0 rfl), tm_u_law_right := mem_at T0 0 rfl, tu_u_law_right := tu_u_law_right, cd_u_law_right := rfl, p_u_law_right := f_u_law_right, d_u_law_right := (_), F_u_law_right := F_u_law_right, b_u_law_right := b_u_law_right, g_u_law_right := PySem.W.mg_of X G a_u_law_right, p_law := f_law, d_law := (_), F_law := F_law, b_law := b_law, g_law := PySem.W.mg_of X G a_law, p_u_law_heard := f_u_law_heard, d_u_law_heard := (_), F_u_law_heard := F_u_law_heard, b_u_law_heard := b_u_law_heard, g_u_law_heard := PySem.W.mg_of X G a_u_law_heard, g_InvalidReader := PySem.W.mg_of X G ac_InvalidReader, g_InvalidWord := PySem.W.mg_of X G ac_InvalidWord, g_InvalidNumber := PySem.W.mg_of X G ac_InvalidNumber, g_TooMany := PySem.W.mg_of X G ac_TooMany, g_Reader := PySem.W.mg_of X G ac_Reader, cl_Reader := ⟨pg_Reader, hd_Reader, po_Reader, sa_Reader⟩, mk_Reader := ⟨mk_Reader, a_m_Reader_init, i_m_Reader_init, kc_Reader⟩, is_Reader := ⟨⟨pg_Reader, hd_Reader, po_Reader, sa_Reader⟩, ia_Reader, ib_Reader, ic_Reader, id_Reader, kit_self⟩, ists_Reader := (fun t ht => by simp [isTs_Reader] at ht; rcases ht with rfl | rfl | rfl | rfl | rfl | rfl | rfl <;> assumption), rc_InvalidReader := raise_VE rx_InvalidReader rk_InvalidReader rb_InvalidReader rt_InvalidReader, rc_InvalidWord := raise_VE rx_InvalidWord rk_InvalidWord rb_InvalidWord rt_InvalidWord, ex_InvalidNumber := exm_of xb_InvalidNumber xq_InvalidNumber xt_InvalidNumber xs_InvalidNumber, ex_InvalidReader := exm_of xb_InvalidReader xq_InvalidReader xt_InvalidReader xs_InvalidReader, ex_InvalidWord := exm_of xb_InvalidWord xq_InvalidWord xt_InvalidWord xs_InvalidWord, ex_TooMany := exm_of xb_TooMany xq_TooMany xt_TooMany xs_TooMany, kp_InvalidNumber := f_km_InvalidNumber_init, kd_InvalidNumber := (_), kF_InvalidNumber := F_km_InvalidNumber_init, kb_InvalidNumber := b_km_InvalidNumber_init, kc_InvalidNumber := ⟨⟨_, _, _, _, PySem.F.excBase_IndexError, PySem.F.store_IndexError, ki_InvalidNumber, ko_InvalidNumber⟩, kt_InvalidNumber, kh_InvalidNumber, ks_InvalidNumber, a_km_InvalidNumber_init, y_km_InvalidNumber_init, kk_InvalidNumber, kq_InvalidNumber, ky_InvalidNumber⟩, kp_TooMany := f_km_TooMany_init, kd_TooMany := (_), kF_TooMany := F_km_TooMany_init, kb_TooMany := b_km_TooMany_init, kc_TooMany := ⟨⟨_, _, _, _, PySem.F.excBase_OverflowError, PySem.F.store_OverflowError, ki_TooMany, ko_TooMany⟩, kt_TooMany, kh_TooMany, ks_TooMany, a_km_TooMany_init, y_km_TooMany_init, kk_TooMany, kq_TooMany, ky_TooMany⟩, xf_InvalidNumber := ⟨xg_InvalidNumber, xh_InvalidNumber, xe_InvalidNumber, xd_InvalidNumber⟩, xf_TooMany := ⟨xg_TooMany, xh_TooMany, xe_TooMany, xd_TooMany⟩, xa_InvalidNumber_given := xa_InvalidNumber_given, xa_TooMany_limit := xa_TooMany_limit, xx_InvalidNumber_InvalidReader := exm_of xb_InvalidReader xq_InvalidReader xt_InvalidReader xo_InvalidNumber_InvalidReader, xx_InvalidNumber_InvalidWord := exm_of xb_InvalidWord xq_InvalidWord xt_InvalidWord xo_InvalidNumber_InvalidWord, xx_InvalidNumber_TooMany := exm_of xb_TooMany xq_TooMany xt_TooMany xo_InvalidNumber_TooMany, xx_InvalidReader_InvalidNumber := exm_of xb_InvalidNumber xq_InvalidNumber xt_InvalidNumber xo_InvalidReader_InvalidNumber, xx_InvalidReader_InvalidWord := exm_of xb_InvalidWord xq_InvalidWord xt_InvalidWord xo_InvalidReader_InvalidWord, xx_InvalidReader_TooMany := exm_of xb_TooMany xq_TooMany xt_TooMany xo_InvalidReader_TooMany, xx_InvalidWord_InvalidNumber := exm_of xb_InvalidNumber xq_InvalidNumber xt_InvalidNumber xo_InvalidWord_InvalidNumber, xx_InvalidWord_InvalidReader := exm_of xb_InvalidReader xq_InvalidReader xt_InvalidReader xo_InvalidWord_InvalidReader, xx_InvalidWord_TooMany := exm_of xb_TooMany xq_TooMany xt_TooMany xo_InvalidWord_TooMany, xx_TooMany_InvalidNumber := exm_of xb_InvalidNumber xq_InvalidNumber xt_InvalidNumber xo_TooMany_InvalidNumber, xx_TooMany_InvalidReader := exm_of xb_InvalidReader xq_InvalidReader xt_InvalidReader xo_TooMany_InvalidReader, xx_TooMany_InvalidWord := exm_of xb_InvalidWord xq_InvalidWord xt_InvalidWord xo_TooMany_InvalidWord, na_Reader_accepting := na_Reader_accepting, na_Reader_letters := na_Reader_letters, na_Reader_states := na_Reader_states, na_Reader_steps := na_Reader_steps, t_MOST_LENGTH := tk_MOST_LENGTH, c_MOST_LENGTH := PySem.W.mg_of X G cc_MOST_LENGTH, t_MOST_LETTERS := tk_MOST_LETTERS, c_MOST_LETTERS := PySem.W.mg_of X G cc_MOST_LETTERS, t_MOST_LISTED := tk_MOST_LISTED, c_MOST_LISTED := PySem.W.mg_of X G cc_MOST_LISTED, t_MOST_STATES := tk_MOST_STATES, c_MOST_STATES := PySem.W.mg_of X G cc_MOST_STATES, t_MOST_TIMES := tk_MOST_TIMES, c_MOST_TIMES := PySem.W.mg_of X G cc_MOST_TIMES, t_MOST_WORD := tk_MOST_WORD, c_MOST_WORD := PySem.W.mg_of X G cc_MOST_WORD, n_abs := PySem.W.mg_none_of X G z_abs, n_all := PySem.W.mg_none_of X G z_all, n_bool := PySem.W.mg_none_of X G z_bool, n_enumerate := PySem.W.mg_none_of X G z_enumerate, n_int := PySem.W.mg_none_of X G z_int, n_isinstance := PySem.W.mg_none_of X G z_isinstance, n_len := PySem.W.mg_none_of X G z_len, n_max := PySem.W.mg_none_of X G z_max, n_min := PySem.W.mg_none_of X G z_min, n_range := PySem.W.mg_none_of X G z_range, n_repr := PySem.W.mg_none_of X G z_repr, n_sorted := PySem.W.mg_none_of X G z_sorted, n_sum := PySem.W.mg_none_of X G z_sum, n_tuple := PySem.W.mg_none_of X G z_tuple, n_zip := PySem.W.mg_none_of X G z_zip }
  exact ok_law T
theorem walk {l : PySem.W.OpenLaw} {q : Program} {loose : List Str} {XP : (Str → Option Value) → Heap → Prop} {YP : World → Heap → Prop} {d : DefRec} {K : Params → PySem.W.Frag} (hn : l.most = some 63) (hdf : d.params.defaults = [])
    (hY : ∀ (w : World) (h : Heap), YP w h → (K w.params).In h)
    (F : ∀ (w : World) (mg : Str → Option Value) (fa : Addr) (h : Heap), (K w.params).In h → h.Ns mainGlobals mg → mg d.name = some (.ref fa) → OwnTabs q (K w.params) mg h → LawG l w (K w.params) 10 "script" mg fa h) :
    PySem.W.WalkO q loose XP YP l.row.toRowW d [] (fun f vs => PySem.call f vs) :=
  walk_G hn hdf ⟨rfl, by decide, by decide⟩ hY F
end My

open PySem PySem.W PyProof.Rows in
set_option maxRecDepth 100000 in
set_option maxHeartbeats 0 in
theorem PySem.Challenge.cw_wholebyparts_k27_errors_of_readers_holds : PySem.Challenge.rw_wholebyparts_k27_errors_of_readers.Holds := by
  w_on; o_law; k_head; (case hw => w_witness2)
  k_fill
  refine My.walk (l := PySem.Challenge.rw_wholebyparts_k27_errors_of_readers) rfl rfl (fun w h Y => by first | exact PySem.W.kIn_of Y | exact PySem.W.km_in_of Y) ?F
  case F =>
    intro w mg fa h KX G hmg own
    refine' My.all_mk KX G hmg own ?ac_InvalidReader ?ac_InvalidWord ?ac_InvalidNumber ?ac_TooMany ?ac_Reader ?a_is_integer ?l_is_integer ?c_is_integer ?k_is_integer ?a_is_between ?l_is_between ?c_is_between ?k_is_between ?a_is_index ?l_is_index ?c_is_index ?k_is_index ?a_u_is_step ?l_u_is_step ?c_u_is_step ?k_u_is_step ?a_is_ascending ?l_is_ascending ?c_is_ascending ?k_is_ascending ?a_is_index_tuple ?l_is_index_tuple ?c_is_index_tuple ?k_is_index_tuple ?a_reader_fault ?l_reader_fault ?c_reader_fault ?k_reader_fault ?a_m_Reader_init ?i_m_Reader_init ?l_m_Reader_init ?c_m_Reader_init ?k_m_Reader_init ?a_u_law_bag ?l_u_law_bag ?c_u_law_bag ?k_u_law_bag ?a_u_law_pick ?l_u_law_pick ?c_u_law_pick ?k_u_law_pick ?a_u_law_turned ?l_u_law_turned ?c_u_law_turned ?k_u_law_turned ?a_check_number ?l_check_number ?c_check_number ?k_check_number ?a_check_reader ?l_check_reader ?c_check_reader ?k_check_reader ?a_check_word ?l_check_word ?c_check_word ?k_check_word ?a_state_from ?l_state_from ?c_state_from ?k_state_from ?a_after_times ?l_after_times ?c_after_times ?k_after_times ?a_first_words ?l_first_words ?c_first_words ?k_first_words ?a_first_word ?l_first_word ?c_first_word ?k_first_word ?a_met ?l_met ?c_met ?k_met ?a_state_after ?l_state_after ?c_state_after ?k_state_after ?a_takes ?l_takes ?c_takes ?k_takes ?a_u_counts ?l_u_counts ?c_u_counts ?k_u_counts ?a_word_count ?l_word_count ?c_word_count ?k_word_count ?a_words ?l_words ?c_words ?k_words ?a_u_law_right ?l_u_law_right ?c_u_law_right ?k_u_law_right ?lc_u_law_right ?lv_u_law_right ?lt_u_law_right ?lh_u_law_right ?rq_u_law_right ?a_law ?l_law ?c_law ?k_law ?a_u_law_heard ?l_u_law_heard ?c_u_law_heard ?k_u_law_heard ?pg_Reader ?hd_Reader ?po_Reader ?sa_Reader ?mk_Reader ?kc_Reader ?ia_Reader ?ib_Reader ?ic_Reader ?id_Reader ?iq_Reader ?ir_Reader ?is_Reader_NoneType ?is_Reader_bool ?is_Reader_int ?is_Reader_str ?is_Reader_tuple ?is_Reader_list ?is_Reader_dict ?rx_InvalidReader ?rk_InvalidReader ?rb_InvalidReader ?rt_InvalidReader ?rx_InvalidWord ?rk_InvalidWord ?rb_InvalidWord ?rt_InvalidWord ?xq_InvalidNumber ?xb_InvalidNumber ?xt_InvalidNumber ?xs_InvalidNumber ?xq_InvalidReader ?xb_InvalidReader ?xt_InvalidReader ?xs_InvalidReader ?xq_InvalidWord ?xb_InvalidWord ?xt_InvalidWord ?xs_InvalidWord ?xq_TooMany ?xb_TooMany ?xt_TooMany ?xs_TooMany ?a_km_InvalidNumber_init ?y_km_InvalidNumber_init ?l_km_InvalidNumber_init ?c_km_InvalidNumber_init ?k_km_InvalidNumber_init ?ki_InvalidNumber ?ko_InvalidNumber ?kt_InvalidNumber ?kh_InvalidNumber ?ks_InvalidNumber ?kk_InvalidNumber ?kq_InvalidNumber ?ky_InvalidNumber ?a_km_TooMany_init ?y_km_TooMany_init ?l_km_TooMany_init ?c_km_TooMany_init ?k_km_TooMany_init ?ki_TooMany ?ko_TooMany ?kt_TooMany ?kh_TooMany ?ks_TooMany ?kk_TooMany ?kq_TooMany ?ky_TooMany ?xg_InvalidNumber ?xh_InvalidNumber ?xe_InvalidNumber ?xd_InvalidNumber ?xg_TooMany ?xh_TooMany ?xe_TooMany ?xd_TooMany ?xa_InvalidNumber_given ?xa_TooMany_limit ?xo_InvalidNumber_InvalidReader ?xo_InvalidNumber_InvalidWord ?xo_InvalidNumber_TooMany ?xo_InvalidReader_InvalidNumber ?xo_InvalidReader_InvalidWord ?xo_InvalidReader_TooMany ?xo_InvalidWord_InvalidNumber ?xo_InvalidWord_InvalidReader ?xo_InvalidWord_TooMany ?xo_TooMany_InvalidNumber ?xo_TooMany_InvalidReader ?xo_TooMany_InvalidWord ?na_Reader_accepting ?na_Reader_letters ?na_Reader_states ?na_Reader_steps ?cc_MOST_LENGTH ?cc_MOST_LETTERS ?cc_MOST_LISTED ?cc_MOST_STATES ?cc_MOST_TIMES ?cc_MOST_WORD ?z_abs ?z_all ?z_bool ?z_enumerate ?z_int ?z_isinstance ?z_len ?z_max ?z_min ?z_range ?z_repr ?z_sorted ?z_sum ?z_tuple ?z_zip
    (case ac_InvalidReader => k_is)
    (case ac_InvalidWord => k_is)
    (case ac_InvalidNumber => k_is)
    (case ac_TooMany => k_is)
    (case ac_Reader => k_is)
    (case a_is_integer => k_is)
    (case l_is_integer => k_is)
    (case c_is_integer => k_is)
    (case k_is_integer => k_is)
    (case a_is_between => k_is)
    (case l_is_between => k_is)
    (case c_is_between => k_is)
    (case k_is_between => k_is)
    (case a_is_index => k_is)
    (case l_is_index => k_is)
    (case c_is_index => k_is)
    (case k_is_index => k_is)
    (case a_u_is_step => k_is)
    (case l_u_is_step => k_is)
    (case c_u_is_step => k_is)
    (case k_u_is_step => k_is)
    (case a_is_ascending => k_is)
    (case l_is_ascending => k_is)
    (case c_is_ascending => k_is)
    (case k_is_ascending => k_is)
    (case a_is_index_tuple => k_is)
    (case l_is_index_tuple => k_is)
    (case c_is_index_tuple => k_is)
    (case k_is_index_tuple => k_is)
    (case a_reader_fault => k_is)
    (case l_reader_fault => k_is)
    (case c_reader_fault => k_is)
    (case k_reader_fault => k_is)
    (case a_m_Reader_init => k_is)
    (case i_m_Reader_init => k_is)
    (case l_m_Reader_init => k_is)
    (case c_m_Reader_init => k_is)
    (case k_m_Reader_init => k_is)
    (case a_u_law_bag => k_is)
    (case l_u_law_bag => k_is)
    (case c_u_law_bag => k_is)
    (case k_u_law_bag => k_is)
    (case a_u_law_pick => k_is)
    (case l_u_law_pick => k_is)
    (case c_u_law_pick => k_is)
    (case k_u_law_pick => k_is)
    (case a_u_law_turned => k_is)
    (case l_u_law_turned => k_is)
    (case c_u_law_turned => k_is)
    (case k_u_law_turned => k_is)
    (case a_check_number => k_is)
    (case l_check_number => k_is)
    (case c_check_number => k_is)
    (case k_check_number => k_is)
    (case a_check_reader => k_is)
    (case l_check_reader => k_is)
    (case c_check_reader => k_is)
    (case k_check_reader => k_is)
    (case a_check_word => k_is)
    (case l_check_word => k_is)
    (case c_check_word => k_is)
    (case k_check_word => k_is)
    (case a_state_from => k_is)
    (case l_state_from => k_is)
    (case c_state_from => k_is)
    (case k_state_from => k_is)
    (case a_after_times => k_is)
    (case l_after_times => k_is)
    (case c_after_times => k_is)
    (case k_after_times => k_is)
    (case a_first_words => k_is)
    (case l_first_words => k_is)
    (case c_first_words => k_is)
    (case k_first_words => k_is)
    (case a_first_word => k_is)
    (case l_first_word => k_is)
    (case c_first_word => k_is)
    (case k_first_word => k_is)
    (case a_met => k_is)
    (case l_met => k_is)
    (case c_met => k_is)
    (case k_met => k_is)
    (case a_state_after => k_is)
    (case l_state_after => k_is)
    (case c_state_after => k_is)
    (case k_state_after => k_is)
    (case a_takes => k_is)
    (case l_takes => k_is)
    (case c_takes => k_is)
    (case k_takes => k_is)
    (case a_u_counts => k_is)
    (case l_u_counts => k_is)
    (case c_u_counts => k_is)
    (case k_u_counts => k_is)
    (case a_word_count => k_is)
    (case l_word_count => k_is)
    (case c_word_count => k_is)
    (case k_word_count => k_is)
    (case a_words => k_is)
    (case l_words => k_is)
    (case c_words => k_is)
    (case k_words => k_is)
    (case a_u_law_right => k_is)
    (case l_u_law_right => k_is)
    (case c_u_law_right => k_is)
    (case k_u_law_right => k_is)
    (case lc_u_law_right => k_is)
    (case lv_u_law_right => rfl)
    (case lt_u_law_right => first | kernel_rfl | rfl)
    (case lh_u_law_right => first | kernel_rfl | rfl)
    (case rq_u_law_right => decide +kernel)
    (case a_law => k_is)
    (case l_law => k_is)
    (case c_law => k_is)
    (case k_law => k_is)
    (case a_u_law_heard => k_is)
    (case l_u_law_heard => k_is)
    (case c_u_law_heard => k_is)
    (case k_u_law_heard => k_is)
    (case pg_Reader => k_is)
    (case hd_Reader => k_is)
    (case po_Reader => k_is)
    (case sa_Reader => k_is)
    (case mk_Reader => k_is)
    (case kc_Reader => k_is)
    (case ia_Reader => k_is)
    (case ib_Reader => k_is)
    (case ic_Reader => k_is)
    (case id_Reader => k_is)
    (case iq_Reader => k_is)
    (case ir_Reader => k_is)
    (case is_Reader_NoneType => k_is)
    (case is_Reader_bool => k_is)
    (case is_Reader_int => k_is)
    (case is_Reader_str => k_is)
    (case is_Reader_tuple => k_is)
    (case is_Reader_list => k_is)
    (case is_Reader_dict => k_is)
    (case rx_InvalidReader => k_exc)
    (case rk_InvalidReader => k_is)
    (case rb_InvalidReader => k_is)
    (case rt_InvalidReader => k_is)
    (case rx_InvalidWord => k_exc)
    (case rk_InvalidWord => k_is)
    (case rb_InvalidWord => k_is)
    (case rt_InvalidWord => k_is)
    (case xq_InvalidNumber => k_is)
    (case xb_InvalidNumber => k_is)
    (case xt_InvalidNumber => k_is)
    (case xs_InvalidNumber => k_is)
    (case xq_InvalidReader => k_is)
    (case xb_InvalidReader => k_is)
    (case xt_InvalidReader => k_is)
    (case xs_InvalidReader => k_is)
    (case xq_InvalidWord => k_is)
    (case xb_InvalidWord => k_is)
    (case xt_InvalidWord => k_is)
    (case xs_InvalidWord => k_is)
    (case xq_TooMany => k_is)
    (case xb_TooMany => k_is)
    (case xt_TooMany => k_is)
    (case xs_TooMany => k_is)
    (case a_km_InvalidNumber_init => k_is)
    (case y_km_InvalidNumber_init => k_is)
    (case l_km_InvalidNumber_init => k_is)
    (case c_km_InvalidNumber_init => k_is)
    (case k_km_InvalidNumber_init => k_is)
    (case ki_InvalidNumber => kx_is)
    (case ko_InvalidNumber => kx_is)
    (case kt_InvalidNumber => k_is)
    (case kh_InvalidNumber => k_is)
    (case ks_InvalidNumber => k_is)
    (case kk_InvalidNumber => k_is)
    (case kq_InvalidNumber => k_is)
    (case ky_InvalidNumber => k_is)
    (case a_km_TooMany_init => k_is)
    (case y_km_TooMany_init => k_is)
    (case l_km_TooMany_init => k_is)
    (case c_km_TooMany_init => k_is)
    (case k_km_TooMany_init => k_is)
    (case ki_TooMany => kx_is)
    (case ko_TooMany => kx_is)
    (case kt_TooMany => k_is)
    (case kh_TooMany => k_is)
    (case ks_TooMany => k_is)
    (case kk_TooMany => k_is)
    (case kq_TooMany => k_is)
    (case ky_TooMany => k_is)
    (case xg_InvalidNumber => k_is)
    (case xh_InvalidNumber => k_is)
    (case xe_InvalidNumber => k_is)
    (case xd_InvalidNumber => k_is)
    (case xg_TooMany => k_is)
    (case xh_TooMany => k_is)
    (case xe_TooMany => k_is)
    (case xd_TooMany => k_is)
    (case xa_InvalidNumber_given => k_is)
    (case xa_TooMany_limit => k_is)
    (case xo_InvalidNumber_InvalidReader => k_is)
    (case xo_InvalidNumber_InvalidWord => k_is)
    (case xo_InvalidNumber_TooMany => k_is)
    (case xo_InvalidReader_InvalidNumber => k_is)
    (case xo_InvalidReader_InvalidWord => k_is)
    (case xo_InvalidReader_TooMany => k_is)
    (case xo_InvalidWord_InvalidNumber => k_is)
    (case xo_InvalidWord_InvalidReader => k_is)
    (case xo_InvalidWord_TooMany => k_is)
    (case xo_TooMany_InvalidNumber => k_is)
    (case xo_TooMany_InvalidReader => k_is)
    (case xo_TooMany_InvalidWord => k_is)
    (case na_Reader_accepting => k_is)
    (case na_Reader_letters => k_is)
    (case na_Reader_states => k_is)
    (case na_Reader_steps => k_is)
    (case cc_MOST_LENGTH => k_is)
    (case cc_MOST_LETTERS => k_is)
    (case cc_MOST_LISTED => k_is)
    (case cc_MOST_STATES => k_is)
    (case cc_MOST_TIMES => k_is)
    (case cc_MOST_WORD => k_is)
    (case z_abs => k_is)
    (case z_all => k_is)
    (case z_bool => k_is)
    (case z_enumerate => k_is)
    (case z_int => k_is)
    (case z_isinstance => k_is)
    (case z_len => k_is)
    (case z_max => k_is)
    (case z_min => k_is)
    (case z_range => k_is)
    (case z_repr => k_is)
    (case z_sorted => k_is)
    (case z_sum => k_is)
    (case z_tuple => k_is)
    (case z_zip => k_is)

