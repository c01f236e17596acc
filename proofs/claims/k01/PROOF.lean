import PyProof.Rows.All
import Wide.All
import OpenK.AllK
import Wide.FinOn
import HandS.ForMost
import HandS.ForExc
import HandS.WideBits
import HandS.Wide
import HandS.TupAny
import HandS.IsInst
import HandS.SortInts
import HandS.CallSlots
import HandS.MakeKw
import HandS.Flow
import HandS.ExcInit
import HandS.ExcValue
import HandS.Lambda
import HandS.TupMul
import KE.GoesNew
import KE.GoesMore
import KE.GoesEnum
import HandS.SetFor
import HandS.Strs
import HandS.Style
import KE.DataMinMax
import HandS.SortKw
import HandS.Zip
import KE.KDictZip
import HandS.ExcIs
import HandS.ExcField
import KE.KExcIs
import HandS.TryMany
import KE.KDflt
import HandS.EndTab
import HandS.TryOnly
import PyProof.EqAt
import PyProof.NeKinds
import HandS.StrMore
import HandS.FStr
import HandS.RaiseMore
import KE.GoesEnumKw
import HandS.Text
import PyProof.StrLaws
import PyProof.StrLawsRepr
import PyProof.StrBlock2
import KE.KExcInit
import HandS.HeadWalk
import HandS.HeadEnd
import PySem.Challenge.RW_bestoflast_k01_errors
set_option Elab.async false
set_option linter.all false
set_option maxRecDepth 100000
set_option maxHeartbeats 4000000
namespace MP
open PySem PySem.Spec PyProof.Rows L2

/-! ### data -/
inductive Dv where
  | non | bl (b : Bool) | int (i : Int) | str (x : Str) | ty (n : String) | cl (c : Nat) | ref (n : Nat)
  | tup (ws : List Dv) | lst (ws : List Dv) | sq (ws : List Dv) | dct (ks : List Key) (ws : List Dv) | exc (c : Nat) (f : Str) (w : Dv) | exn (c : Nat) | clo (a c : Addr) (q : Str) (ws : List Dv) (vs : List V)
  deriving Inhabited
inductive Ob where
  | lst (ws : List Dv) | dct (kws : List (Key × Dv)) | tab (n : Nat) (q : Str)
  deriving Inhabited
abbrev Sto := List Ob
abbrev Env := List (Option Dv)
structure Ex where
  c : Nat
  f : Str
  w : Dv
inductive R (α : Type) where
  | ok (a : α) (s : Sto) | er (x : Ex) (s : Sto) | no
def R.bind {α β : Type} (r : R α) (k : α → Sto → R β) : R β := match r with
  | .ok a s => k a s | .er x s => .er x s | .no => .no
inductive C where
  | nx (ρ : Env) (s : Sto) | rt (w : Dv) (s : Sto) | bk (ρ : Env) (s : Sto) | ct (ρ : Env) (s : Sto) | er (x : Ex) (ρ : Env) (s : Sto) | no
abbrev FE := Env → Sto → R Dv
abbrev FT := Env → Sto → R Bool
abbrev FA := Env → Sto → R (List Dv)
abbrev FS := Env → Sto → C
abbrev Fn := List Dv → Sto → R Dv
def lim : Nat := 16000000

/-! ### how data lies in the heap -/
abbrev Mu := Nat → Option Addr
/-- what is fixed: the written part, the classes of exceptions, the tables of code objects -/
structure Ct where
  K : PySem.W.Frag
  cls : Nat → Addr
  tb : Nat → Addr
abbrev Zs := Addr → Prop
def Fz (μ : Mu) (Z : Zs) (a : Addr) : Prop := (∀ n, μ n ≠ some a) ∧ ¬ Z a
def KL (K : PySem.W.Frag) (a : Addr) (xs : List V) : Prop := ∃ (o : Obj) (its : Array Value) (n : Nat), K.lookup a = some o ∧ o.cls = .type "list" ∧ o.dict = none ∧ o.data = .seq its n ∧ its.size ≤ sizeLine ∧ Vals xs its.toList
def KT (K : PySem.W.Frag) (a : Addr) (xs : List V) : Prop := ∃ (o : Obj) (its : Array Value) (n : Nat), K.lookup a = some o ∧ o.cls = .type "tuple" ∧ o.data = .seq its n ∧ its.size ≤ sizeLine ∧ Vals xs its.toList
def AtL (K : PySem.W.Frag) (H : Hp) (μ : Mu) (Z : Zs) (a : Addr) (xs : List V) : Prop := (Rd H a (.lst xs) ∧ Fz μ Z a) ∨ KL K a xs
def AtT (K : PySem.W.Frag) (H : Hp) (μ : Mu) (Z : Zs) (a : Addr) (xs : List V) : Prop := (Rd H a (.tup xs) ∧ Fz μ Z a) ∨ KT K a xs
theorem AtL.sq {K : PySem.W.Frag} {H : Hp} {μ : Mu} {Z : Zs} {a : Addr} {xs : List V} (h : AtL K H μ Z a xs) : SqL K H a xs := h.elim (fun z => .inl z.1) .inr
theorem AtT.sq {K : PySem.W.Frag} {H : Hp} {μ : Mu} {Z : Zs} {a : Addr} {xs : List V} (h : AtT K H μ Z a xs) : SqT K H a xs := h.elim (fun z => .inl z.1) .inr

structure Evo (H : Hp) (μ : Mu) (H' : Hp) (μ' : Mu) : Prop where
  keep : ∀ a o, H a = some o → (∀ n, μ n ≠ some a) → H' a = some o
  mu : ∀ n a, μ n = some a → μ' n = some a
  new : ∀ n a, μ' n = some a → μ n = some a ∨ H a = none
  stay : ∀ n a, μ n = some a → H a ≠ none → H' a ≠ none
section
variable {H H1 H' : Hp} {μ μ1 μ' : Mu} {Z : Zs} {a : Addr} {o : HO} {xs : List V} {K : PySem.W.Frag}
theorem Evo.refl : Evo H μ H μ := ⟨fun _ _ h _ => h, fun _ _ h => h, fun _ _ h => .inl h, fun _ _ _ h => h⟩
theorem Evo.alive (e : Evo H μ H' μ') (h : H a ≠ none) : H' a ≠ none := by
  by_cases hm : ∃ n, μ n = some a
  · obtain ⟨n, hn⟩ := hm
    exact e.stay n a hn h
  · cases q : H a with
    | none => exact absurd q h
    | some o => rw [e.keep a o q (fun n hn => hm ⟨n, hn⟩)]; intro z; cases z
theorem Evo.fz (e : Evo H μ H' μ') (h : H a ≠ none) (f : Fz μ Z a) : Fz μ' Z a := ⟨fun n hn => by
  rcases e.new n a hn with q | q
  · exact f.1 n q
  · exact h q, f.2⟩
theorem Evo.trans (e : Evo H μ H1 μ1) (f : Evo H1 μ1 H' μ') : Evo H μ H' μ' where
  keep := fun a o h hn => by
    have h1 := e.keep a o h hn
    exact f.keep a o h1 fun n q => by
      rcases e.new n a q with z | z
      · exact hn n z
      · rw [h] at z; cases z
  mu := fun n a h => f.mu n a (e.mu n a h)
  new := fun n a h => by
    rcases f.new n a h with q | q
    · exact e.new n a q
    · right
      cases z : H a with
      | none => rfl
      | some o => exact absurd q (e.alive (by rw [z]; intro y; cases y))
  stay := fun n a h q => f.alive (e.alive q)
theorem Rd.alive (h : Rd H a o) : H a ≠ none := by
  rcases h with h | ⟨_, h⟩ <;> (rw [h]; intro z; cases z)
theorem Rd.evo (e : Evo H μ H' μ') (h : Rd H a o) (f : Fz μ Z a) : Rd H' a o := by
  rcases h with h | ⟨u, h⟩
  · exact .inl (e.keep _ _ h f.1)
  · exact .inr ⟨u, e.keep _ _ h f.1⟩
theorem AtL.mono (e : Evo H μ H' μ') (h : AtL K H μ Z a xs) : AtL K H' μ' Z a xs := h.elim (fun ⟨r, f⟩ => .inl ⟨Rd.evo e r f, e.fz (Rd.alive r) f⟩) .inr
theorem AtT.mono (e : Evo H μ H' μ') (h : AtT K H μ Z a xs) : AtT K H' μ' Z a xs := h.elim (fun ⟨r, f⟩ => .inl ⟨Rd.evo e r f, e.fz (Rd.alive r) f⟩) .inr
/-- a new object -/
theorem Evo.laid {p : Addr} (hp : H p = none) : Evo H μ (upd H p o) μ where
  keep := fun a o h _ => by rw [upd_ne (ne_of_none h hp)]; exact h
  mu := fun _ _ h => h
  new := fun _ _ h => .inl h
  stay := fun n a _ h => by
    by_cases e : a = p
    · subst e; exact absurd hp h
    · rw [upd_ne e]; exact h
end

/-- an exception of the class at C, held as a value; its dict is at dx -/
def ExK (a C dx : Addr) : HO := .ext fun h => ∃ (oe : Obj) (vs : Array Value), h.get? a = some oe ∧ Zc (.ref C) (some dx) oe ∧ oe.data = .fields vs
mutual
def RV (Γ : Ct) (H : Hp) (μ : Mu) (Z : Zs) : Dv → V → Prop
  | .non, v => v = .non
  | .bl b, v => v = .bl b
  | .int i, v => v = .int i
  | .str x, v => v = .str x
  | .ty n, v => v = .ty n
  | .cl c, v => v = .ref (Γ.cls c)
  | .ref n, v => ∃ a, v = .ref a ∧ μ n = some a
  | .tup ws, v => ∃ a xs, v = .ref a ∧ AtT Γ.K H μ Z a xs ∧ RVs Γ H μ Z ws xs
  | .lst ws, v => ∃ a xs, v = .ref a ∧ H a = some (.lst xs) ∧ Fz μ Z a ∧ RVs Γ H μ Z ws xs
  | .sq ws, v => ∃ a xs, v = .ref a ∧ AtL Γ.K H μ Z a xs ∧ RVs Γ H μ Z ws xs
  | .dct ks ws, v => ∃ a kvs, v = .ref a ∧ H a = some (.dK kvs) ∧ Fz μ Z a ∧ kvs.map (·.1) = ks ∧ RVs Γ H μ Z ws (kvs.map (·.2))
  | .exc c f w, v => ∃ a dx x, v = .ref a ∧ H a = some (ExK a (Γ.cls c) dx) ∧ Fz μ Z a ∧ H dx = some (.xd [(f, x)]) ∧ Fz μ Z dx ∧ RV Γ H μ Z w x
  | .exn c, v => ∃ a, v = .ref a ∧ H a = some (ExO (.ref (Γ.cls c)) a) ∧ Fz μ Z a
  | .clo a c q ws vs, v => v = .ref a ∧ H c = some (LamX.CodeO c q) ∧ Fz μ Z c ∧ RVs Γ H μ Z ws vs
def RVs (Γ : Ct) (H : Hp) (μ : Mu) (Z : Zs) : List Dv → List V → Prop
  | [], vs => vs = []
  | w :: ws, vs => ∃ x xs, vs = x :: xs ∧ RV Γ H μ Z w x ∧ RVs Γ H μ Z ws xs
end
section
variable {Γ : Ct} {H H1 H' : Hp} {μ μ1 μ' : Mu} {Z Z' : Zs}
mutual
theorem RV.mono (e : Evo H μ H' μ') : ∀ (w : Dv) {v : V}, RV Γ H μ Z w v → RV Γ H' μ' Z w v
  | .non, _, h => h
  | .bl _, _, h => h
  | .int _, _, h => h
  | .str _, _, h => h
  | .ty _, _, h => h
  | .cl _, _, h => h
  | .ref n, _, h => by
    obtain ⟨a, h1, h2⟩ := h
    exact ⟨a, h1, e.mu n a h2⟩
  | .tup ws, _, h => by
    obtain ⟨a, xs, h1, h2, h3⟩ := h
    exact ⟨a, xs, h1, h2.mono e, RVs.mono e ws h3⟩
  | .lst ws, _, h => by
    obtain ⟨a, xs, h1, h2, h3, h4⟩ := h
    exact ⟨a, xs, h1, e.keep _ _ h2 h3.1, e.fz (by rw [h2]; intro z; cases z) h3, RVs.mono e ws h4⟩
  | .sq ws, _, h => by
    obtain ⟨a, xs, h1, h2, h3⟩ := h
    exact ⟨a, xs, h1, h2.mono e, RVs.mono e ws h3⟩
  | .dct ks ws, _, h => by
    obtain ⟨a, kvs, h1, h2, h3, h4, h5⟩ := h
    exact ⟨a, kvs, h1, e.keep _ _ h2 h3.1, e.fz (by rw [h2]; intro z; cases z) h3, h4, RVs.mono e ws h5⟩
  | .exc c f w, _, h => by
    obtain ⟨a, dx, x, h1, h2, h3, h4, h5, h6⟩ := h
    exact ⟨a, dx, x, h1, e.keep _ _ h2 h3.1, e.fz (by rw [h2]; intro z; cases z) h3, e.keep _ _ h4 h5.1, e.fz (by rw [h4]; intro z; cases z) h5, RV.mono e w h6⟩
  | .exn c, _, h => by
    obtain ⟨a, h1, h2, h3⟩ := h
    exact ⟨a, h1, e.keep _ _ h2 h3.1, e.fz (by rw [h2]; intro z; cases z) h3⟩
  | .clo a c q ws vs, _, h => by
    obtain ⟨h1, h2, h3, h4⟩ := h
    exact ⟨h1, e.keep _ _ h2 h3.1, e.fz (by rw [h2]; intro z; cases z) h3, RVs.mono e ws h4⟩
theorem RVs.mono (e : Evo H μ H' μ') : ∀ (ws : List Dv) {vs : List V}, RVs Γ H μ Z ws vs → RVs Γ H' μ' Z ws vs
  | [], _, h => h
  | w :: ws, _, h => by
    obtain ⟨x, xs, h1, h2, h3⟩ := h
    exact ⟨x, xs, h1, RV.mono e w h2, RVs.mono e ws h3⟩
end
/-- what is hidden may change -/
structure EvoZ (Z : Zs) (H : Hp) (μ : Mu) (H' : Hp) (μ' : Mu) : Prop where
  keep : ∀ a o, H a = some o → (∀ n, μ n ≠ some a) → ¬ Z a → H' a = some o
  mu : ∀ n a, μ n = some a → μ' n = some a
  new : ∀ n a, μ' n = some a → μ n = some a ∨ H a = none
  live : ∀ a, H a ≠ none → H' a ≠ none
theorem Evo.z {H H' : Hp} {μ μ' : Mu} {Z : Zs} (e : Evo H μ H' μ') : EvoZ Z H μ H' μ' := ⟨fun a o h hn _ => e.keep a o h hn, e.mu, e.new, fun _ h => e.alive h⟩
theorem EvoZ.more {H H' : Hp} {μ μ' : Mu} {Z Z' : Zs} (h : ∀ a, Z a → Z' a) (e : EvoZ Z H μ H' μ') : EvoZ Z' H μ H' μ' := ⟨fun a o q hn z => e.keep a o q hn fun y => z (h a y), e.mu, e.new, e.live⟩
theorem EvoZ.trans {H H1 H' : Hp} {μ μ1 μ' : Mu} {Z : Zs} (e : EvoZ Z H μ H1 μ1) (f : EvoZ Z H1 μ1 H' μ') : EvoZ Z H μ H' μ' where
  keep := fun a o h hn z => by
    have h1 := e.keep a o h hn z
    exact f.keep a o h1 (fun n q => by
      rcases e.new n a q with y | y
      · exact hn n y
      · rw [h] at y; cases y) z
  mu := fun n a h => f.mu n a (e.mu n a h)
  new := fun n a h => by
    rcases f.new n a h with q | q
    · exact e.new n a q
    · right
      cases z : H a with
      | none => rfl
      | some o => exact absurd q (e.live a (by rw [z]; intro y; cases y))
  live := fun a h => f.live a (e.live a h)
theorem EvoZ.fz {H H' : Hp} {μ μ' : Mu} {Z : Zs} {a : Addr} (e : EvoZ Z H μ H' μ') (h : H a ≠ none) (f : Fz μ Z a) : Fz μ' Z a := ⟨fun n hn => by
  rcases e.new n a hn with q | q
  · exact f.1 n q
  · exact h q, f.2⟩
theorem Rd.evoZ {H H' : Hp} {μ μ' : Mu} {Z : Zs} {a : Addr} {o : HO} (e : EvoZ Z H μ H' μ') (h : Rd H a o) (f : Fz μ Z a) : Rd H' a o := by
  rcases h with h | ⟨u, h⟩
  · exact .inl (e.keep _ _ h f.1 f.2)
  · exact .inr ⟨u, e.keep _ _ h f.1 f.2⟩
theorem AtL.monoZ {K : PySem.W.Frag} {H H' : Hp} {μ μ' : Mu} {Z : Zs} {a : Addr} {xs : List V} (e : EvoZ Z H μ H' μ') (h : AtL K H μ Z a xs) : AtL K H' μ' Z a xs := h.elim (fun ⟨r, f⟩ => .inl ⟨Rd.evoZ e r f, e.fz (Rd.alive r) f⟩) .inr
theorem AtT.monoZ {K : PySem.W.Frag} {H H' : Hp} {μ μ' : Mu} {Z : Zs} {a : Addr} {xs : List V} (e : EvoZ Z H μ H' μ') (h : AtT K H μ Z a xs) : AtT K H' μ' Z a xs := h.elim (fun ⟨r, f⟩ => .inl ⟨Rd.evoZ e r f, e.fz (Rd.alive r) f⟩) .inr
/-- base, then only D changed -/
theorem Evo.thenZ {H0 H1 H' : Hp} {μ0 μ1 μ' : Mu} {D : Addr} (e : Evo H0 μ0 H1 μ1) (hD : H0 D = none) (f : EvoZ (fun a => a = D) H1 μ1 H' μ') : Evo H0 μ0 H' μ' where
  keep := fun a o h hn => by
    have h1 := e.keep a o h hn
    exact f.keep a o h1 (fun n q => by
      rcases e.new n a q with y | y
      · exact hn n y
      · rw [h] at y; cases y) (fun z => by rw [z, hD] at h; cases h)
  mu := fun n a h => f.mu n a (e.mu n a h)
  new := fun n a h => by
    rcases f.new n a h with q | q
    · exact e.new n a q
    · right
      cases z : H0 a with
      | none => rfl
      | some o => exact absurd q (e.alive (by rw [z]; intro y; cases y))
  stay := fun n a h q => f.live a (e.alive q)
theorem EvoZ.upd {H H' : Hp} {μ μ' : Mu} {D : Addr} {o : HO} (e : EvoZ (fun a => a = D) H μ H' μ') : EvoZ (fun a => a = D) H μ (upd H' D o) μ' where
  keep := fun a u h hn z => by rw [upd_ne z]; exact e.keep a u h hn z
  mu := e.mu
  new := e.new
  live := fun a h => by
    by_cases z : a = D
    · rw [z, upd_same]; intro y; cases y
    · rw [upd_ne z]; exact e.live a h
mutual
theorem RV.monoZ (e : EvoZ Z H μ H' μ') : ∀ (w : Dv) {v : V}, RV Γ H μ Z w v → RV Γ H' μ' Z w v
  | .non, _, h => h
  | .bl _, _, h => h
  | .int _, _, h => h
  | .str _, _, h => h
  | .ty _, _, h => h
  | .cl _, _, h => h
  | .ref n, _, h => by
    obtain ⟨a, h1, h2⟩ := h
    exact ⟨a, h1, e.mu n a h2⟩
  | .tup ws, _, h => by
    obtain ⟨a, xs, h1, h2, h3⟩ := h
    exact ⟨a, xs, h1, h2.monoZ e, RVs.monoZ e ws h3⟩
  | .lst ws, _, h => by
    obtain ⟨a, xs, h1, h2, h3, h4⟩ := h
    exact ⟨a, xs, h1, e.keep _ _ h2 h3.1 h3.2, e.fz (by rw [h2]; intro z; cases z) h3, RVs.monoZ e ws h4⟩
  | .sq ws, _, h => by
    obtain ⟨a, xs, h1, h2, h3⟩ := h
    exact ⟨a, xs, h1, h2.monoZ e, RVs.monoZ e ws h3⟩
  | .dct ks ws, _, h => by
    obtain ⟨a, kvs, h1, h2, h3, h4, h5⟩ := h
    exact ⟨a, kvs, h1, e.keep _ _ h2 h3.1 h3.2, e.fz (by rw [h2]; intro z; cases z) h3, h4, RVs.monoZ e ws h5⟩
  | .exc c f w, _, h => by
    obtain ⟨a, dx, x, h1, h2, h3, h4, h5, h6⟩ := h
    exact ⟨a, dx, x, h1, e.keep _ _ h2 h3.1 h3.2, e.fz (by rw [h2]; intro z; cases z) h3, e.keep _ _ h4 h5.1 h5.2, e.fz (by rw [h4]; intro z; cases z) h5, RV.monoZ e w h6⟩
  | .exn c, _, h => by
    obtain ⟨a, h1, h2, h3⟩ := h
    exact ⟨a, h1, e.keep _ _ h2 h3.1 h3.2, e.fz (by rw [h2]; intro z; cases z) h3⟩
  | .clo a c q ws vs, _, h => by
    obtain ⟨h1, h2, h3, h4⟩ := h
    exact ⟨h1, e.keep _ _ h2 h3.1 h3.2, e.fz (by rw [h2]; intro z; cases z) h3, RVs.monoZ e ws h4⟩
theorem RVs.monoZ (e : EvoZ Z H μ H' μ') : ∀ (ws : List Dv) {vs : List V}, RVs Γ H μ Z ws vs → RVs Γ H' μ' Z ws vs
  | [], _, h => h
  | w :: ws, _, h => by
    obtain ⟨x, xs, h1, h2, h3⟩ := h
    exact ⟨x, xs, h1, RV.monoZ e w h2, RVs.monoZ e ws h3⟩
end
theorem Fz.weak {a : Addr} (h : ∀ a, Z a → Z' a) (f : Fz μ Z' a) : Fz μ Z a := ⟨f.1, fun z => f.2 (h a z)⟩
mutual
theorem RV.weak (h : ∀ a, Z a → Z' a) : ∀ (w : Dv) {v : V}, RV Γ H μ Z' w v → RV Γ H μ Z w v
  | .non, _, q => q
  | .bl _, _, q => q
  | .int _, _, q => q
  | .str _, _, q => q
  | .ty _, _, q => q
  | .cl _, _, q => q
  | .ref n, _, q => q
  | .tup ws, _, q => by
    obtain ⟨a, xs, h1, h2, h3⟩ := q
    exact ⟨a, xs, h1, h2.elim (fun z => .inl ⟨z.1, z.2.weak h⟩) .inr, RVs.weak h ws h3⟩
  | .lst ws, _, q => by
    obtain ⟨a, xs, h1, h2, h3, h4⟩ := q
    exact ⟨a, xs, h1, h2, h3.weak h, RVs.weak h ws h4⟩
  | .sq ws, _, q => by
    obtain ⟨a, xs, h1, h2, h3⟩ := q
    exact ⟨a, xs, h1, h2.elim (fun z => .inl ⟨z.1, z.2.weak h⟩) .inr, RVs.weak h ws h3⟩
  | .dct ks ws, _, q => by
    obtain ⟨a, kvs, h1, h2, h3, h4, h5⟩ := q
    exact ⟨a, kvs, h1, h2, h3.weak h, h4, RVs.weak h ws h5⟩
  | .exc c f w, _, q => by
    obtain ⟨a, dx, x, h1, h2, h3, h4, h5, h6⟩ := q
    exact ⟨a, dx, x, h1, h2, h3.weak h, h4, h5.weak h, RV.weak h w h6⟩
  | .exn c, _, q => by
    obtain ⟨a, h1, h2, h3⟩ := q
    exact ⟨a, h1, h2, h3.weak h⟩
  | .clo a c _ ws vs, _, q => by
    obtain ⟨h1, h2, h3, h4⟩ := q
    exact ⟨h1, h2, h3.weak h, RVs.weak h ws h4⟩
theorem RVs.weak (h : ∀ a, Z a → Z' a) : ∀ (ws : List Dv) {vs : List V}, RVs Γ H μ Z' ws vs → RVs Γ H μ Z ws vs
  | [], _, q => q
  | w :: ws, _, q => by
    obtain ⟨x, xs, h1, h2, h3⟩ := q
    exact ⟨x, xs, h1, RV.weak h w h2, RVs.weak h ws h3⟩
end
/-- under a reserved address all may change -/
theorem Fz.evoZ {p a : Addr} (f : Fz μ (fun b => b = p ∨ Z b) a) : a ≠ p := fun e => f.2 (.inl e)
mutual
theorem RV.updZ {p : Addr} {o : HO} : ∀ (w : Dv) {v : V}, RV Γ H μ (fun b => b = p ∨ Z b) w v → RV Γ (upd H p o) μ (fun b => b = p ∨ Z b) w v
  | .non, _, q => q
  | .bl _, _, q => q
  | .int _, _, q => q
  | .str _, _, q => q
  | .ty _, _, q => q
  | .cl _, _, q => q
  | .ref n, _, q => q
  | .tup ws, _, q => by
    obtain ⟨a, xs, h1, h2, h3⟩ := q
    refine ⟨a, xs, h1, ?_, RVs.updZ ws h3⟩
    rcases h2 with ⟨h2, f⟩ | h2
    · refine .inl ⟨?_, f⟩
      unfold Rd
      rw [upd_ne f.evoZ]
      exact h2
    · exact .inr h2
  | .lst ws, _, q => by
    obtain ⟨a, xs, h1, h2, h3, h4⟩ := q
    exact ⟨a, xs, h1, by rw [upd_ne h3.evoZ]; exact h2, h3, RVs.updZ ws h4⟩
  | .sq ws, _, q => by
    obtain ⟨a, xs, h1, h2, h3⟩ := q
    refine ⟨a, xs, h1, ?_, RVs.updZ ws h3⟩
    rcases h2 with ⟨h2, f⟩ | h2
    · refine .inl ⟨?_, f⟩
      unfold Rd
      rw [upd_ne f.evoZ]
      exact h2
    · exact .inr h2
  | .dct ks ws, _, q => by
    obtain ⟨a, kvs, h1, h2, h3, h4, h5⟩ := q
    exact ⟨a, kvs, h1, by rw [upd_ne h3.evoZ]; exact h2, h3, h4, RVs.updZ ws h5⟩
  | .exc c f w, _, q => by
    obtain ⟨a, dx, x, h1, h2, h3, h4, h5, h6⟩ := q
    exact ⟨a, dx, x, h1, by rw [upd_ne h3.evoZ]; exact h2, h3, by rw [upd_ne h5.evoZ]; exact h4, h5, RV.updZ w h6⟩
  | .exn c, _, q => by
    obtain ⟨a, h1, h2, h3⟩ := q
    exact ⟨a, h1, by rw [upd_ne h3.evoZ]; exact h2, h3⟩
  | .clo a c _ ws vs, _, q => by
    obtain ⟨h1, h2, h3, h4⟩ := q
    exact ⟨h1, by rw [upd_ne h3.evoZ]; exact h2, h3, RVs.updZ ws h4⟩
theorem RVs.updZ {p : Addr} {o : HO} : ∀ (ws : List Dv) {vs : List V}, RVs Γ H μ (fun b => b = p ∨ Z b) ws vs → RVs Γ (upd H p o) μ (fun b => b = p ∨ Z b) ws vs
  | [], _, q => q
  | w :: ws, _, q => by
    obtain ⟨x, xs, h1, h2, h3⟩ := q
    exact ⟨x, xs, h1, RV.updZ w h2, RVs.updZ ws h3⟩
end
theorem RVs.nil : RVs Γ H μ Z [] [] := rfl
theorem RVs.cons {w : Dv} {ws : List Dv} {x : V} {xs : List V} (h : RV Γ H μ Z w x) (t : RVs Γ H μ Z ws xs) : RVs Γ H μ Z (w :: ws) (x :: xs) := ⟨x, xs, rfl, h, t⟩
theorem RVs.len : ∀ {ws : List Dv} {xs : List V}, RVs Γ H μ Z ws xs → xs.length = ws.length
  | [], _, h => by rw [show _ = [] from h]; rfl
  | w :: ws, _, h => by
    obtain ⟨x, xs, rfl, _, h3⟩ := h
    rw [List.length_cons, List.length_cons, RVs.len h3]
theorem RVs.get : ∀ {ws : List Dv} {xs : List V} {i : Nat} {w : Dv}, RVs Γ H μ Z ws xs → ws[i]? = some w → ∃ x, xs[i]? = some x ∧ RV Γ H μ Z w x
  | [], _, _, _, _, e => by cases e
  | a :: ws, _, 0, w, h, e => by
    obtain ⟨x, xs, rfl, h2, _⟩ := h
    cases e
    exact ⟨x, rfl, h2⟩
  | a :: ws, _, i + 1, w, h, e => by
    obtain ⟨x, xs, rfl, _, h3⟩ := h
    obtain ⟨y, e1, e2⟩ := RVs.get (i := i) (w := w) h3 (by simpa using e)
    exact ⟨y, by simpa using e1, e2⟩
theorem RVs.append : ∀ {ws us : List Dv} {xs ys : List V}, RVs Γ H μ Z ws xs → RVs Γ H μ Z us ys → RVs Γ H μ Z (ws ++ us) (xs ++ ys)
  | [], _, _, _, h, q => by rw [show _ = [] from h]; exact q
  | a :: ws, _, _, _, h, q => by
    obtain ⟨x, xs, rfl, h2, h3⟩ := h
    exact RVs.cons h2 (RVs.append h3 q)
theorem RVs.drop : ∀ {ws : List Dv} {xs : List V} (n : Nat), RVs Γ H μ Z ws xs → RVs Γ H μ Z (ws.drop n) (xs.drop n)
  | _, _, 0, h => h
  | [], _, _ + 1, h => by rw [show _ = [] from h]; exact rfl
  | _ :: ws, _, n + 1, h => by
    obtain ⟨x, xs, rfl, _, h3⟩ := h
    exact RVs.drop n h3
theorem RVs.take : ∀ {ws : List Dv} {xs : List V} (n : Nat), RVs Γ H μ Z ws xs → RVs Γ H μ Z (ws.take n) (xs.take n)
  | _, _, 0, _ => rfl
  | [], _, _ + 1, h => by rw [show _ = [] from h]; exact rfl
  | _ :: ws, _, n + 1, h => by
    obtain ⟨x, xs, rfl, h2, h3⟩ := h
    exact RVs.cons h2 (RVs.take n h3)
theorem RVs.ints : ∀ {ns : List Int} {xs : List V}, RVs Γ H μ Z (ns.map .int) xs → xs = ns.map .int
  | [], _, h => h
  | n :: ns, _, h => by
    obtain ⟨x, xs, rfl, h2, h3⟩ := h
    rw [show x = V.int n from h2, RVs.ints h3]
    rfl
theorem RVs.of_ints : ∀ (ns : List Int), RVs Γ H μ Z (ns.map .int) (ns.map .int)
  | [] => rfl
  | n :: ns => RVs.cons rfl (RVs.of_ints ns)
theorem RVs.rep {ws : List Dv} {xs : List V} (h : RVs Γ H μ Z ws xs) : ∀ k : Nat, RVs Γ H μ Z (List.replicate k ws).flatten (List.replicate k xs).flatten
  | 0 => rfl
  | k + 1 => by
    rw [List.replicate_succ, List.replicate_succ, List.flatten_cons, List.flatten_cons]
    exact RVs.append h (RVs.rep h k)
end

def RO (Γ : Ct) (H : Hp) (μ : Mu) (Z : Zs) (a : Addr) : Ob → Prop
  | .lst ws => ∃ xs, H a = some (.lst xs) ∧ RVs Γ H μ Z ws xs
  | .dct kws => ∃ kvs, H a = some (.dK kvs) ∧ kvs.map (·.1) = kws.map (·.1) ∧ RVs Γ H μ Z (kws.map (·.2)) (kvs.map (·.2))
  | .tab n q => a = Γ.tb n ∧ ∃ ps : Array Value, H a = some (.tbl ps) ∧ TriplesOk ps.toList ∧ ∀ (pos : Pos) (cv : Value), codeAmong pos ps.toList = some cv → ∃ c, cv = .ref c ∧ H c = some (LamX.CodeO c q) ∧ Fz μ Z c
theorem tab_imp {H H' : Hp} {μ μ' : Mu} {Z Z' : Zs} {a : Addr} {q : Str} (hH : H' a = H a) (k : ∀ c, H c = some (LamX.CodeO c q) → Fz μ Z c → H' c = some (LamX.CodeO c q) ∧ Fz μ' Z' c)
    (h : ∃ ps : Array Value, H a = some (.tbl ps) ∧ TriplesOk ps.toList ∧ ∀ (pos : Pos) (cv : Value), codeAmong pos ps.toList = some cv → ∃ c, cv = .ref c ∧ H c = some (LamX.CodeO c q) ∧ Fz μ Z c) :
    ∃ ps : Array Value, H' a = some (.tbl ps) ∧ TriplesOk ps.toList ∧ ∀ (pos : Pos) (cv : Value), codeAmong pos ps.toList = some cv → ∃ c, cv = .ref c ∧ H' c = some (LamX.CodeO c q) ∧ Fz μ' Z' c := by
  obtain ⟨ps, h1, h2, h3⟩ := h
  refine ⟨ps, hH.trans h1, h2, fun pos cv e => ?_⟩
  obtain ⟨c, e1, e2, e3⟩ := h3 pos cv e
  exact ⟨c, e1, k c e2 e3⟩
structure Rep (Γ : Ct) (H : Hp) (μ : Mu) (Z : Zs) (s : Sto) : Prop where
  «at» : ∀ (n : Nat) (o : Ob), s[n]? = some o → ∃ a, μ n = some a ∧ ¬ Z a ∧ RO Γ H μ Z a o
  inj : ∀ n m a, μ n = some a → μ m = some a → n = m
  dom : ∀ n a, μ n = some a → n < s.length
  za : ∀ a, Z a → H a ≠ none
def RE (Γ : Ct) (H : Hp) (μ : Mu) (Z : Zs) (ρ : Env) (σ : L2.St) : Prop := ρ.length = σ.length ∧ ∀ (i : Nat) (w : Dv), ρ[i]? = some (some w) → ∃ v, σ[i]? = some (some v) ∧ RV Γ H μ Z w v
/-- an exception on its way: its class, its dict -/
def RX (Γ : Ct) (H : Hp) (μ : Mu) (Z : Zs) (x : Ex) (cls : Value) (d : Option Addr) : Prop := cls = .ref (Γ.cls x.c) ∧ ∃ dd v, d = some dd ∧ H dd = some (.xd [(x.f, v)]) ∧ Fz μ Z dd ∧ RV Γ H μ Z x.w v
section
variable {Γ : Ct} {H H1 H' : Hp} {μ μ1 μ' : Mu} {Z Z' : Zs} {ρ : Env} {σ : L2.St} {s : Sto} {p : Addr} {o : HO}
theorem RE.mono (e : Evo H μ H' μ') (h : RE Γ H μ Z ρ σ) : RE Γ H' μ' Z ρ σ := ⟨h.1, fun i w q => by
  obtain ⟨v, h1, h2⟩ := h.2 i w q
  exact ⟨v, h1, h2.mono e⟩⟩
theorem RE.set {w : Dv} {v : V} (i : Nat) (h : RE Γ H μ Z ρ σ) (r : RV Γ H μ Z w v) : RE Γ H μ Z (ρ.set i (some w)) (σ.set i (some v)) := by
  refine ⟨by rw [List.length_set, List.length_set]; exact h.1, fun j u q => ?_⟩
  by_cases e : i = j
  · subst e
    have hl : i < ρ.length := by
      have := (List.getElem?_eq_some_iff.mp q).1
      simpa using this
    rw [List.getElem?_set_self hl] at q
    cases q
    exact ⟨v, List.getElem?_set_self (by rw [← h.1]; exact hl), r⟩
  · rw [List.getElem?_set_ne e] at q
    rw [List.getElem?_set_ne e]
    exact h.2 j u q
theorem RE.del (i : Nat) (h : RE Γ H μ Z ρ σ) : RE Γ H μ Z (ρ.set i none) (σ.set i none) := by
  refine ⟨by rw [List.length_set, List.length_set]; exact h.1, fun j u q => ?_⟩
  by_cases e : i = j
  · subst e
    have hl : i < ρ.length := by
      have := (List.getElem?_eq_some_iff.mp q).1
      simpa using this
    rw [List.getElem?_set_self hl] at q
    cases q
  · rw [List.getElem?_set_ne e] at q
    rw [List.getElem?_set_ne e]
    exact h.2 j u q
theorem RE.weak (h : ∀ a, Z a → Z' a) (r : RE Γ H μ Z' ρ σ) : RE Γ H μ Z ρ σ := ⟨r.1, fun i w q => by
  obtain ⟨v, h1, h2⟩ := r.2 i w q
  exact ⟨v, h1, h2.weak h⟩⟩
theorem RX.mono {x : Ex} {cls : Value} {d : Option Addr} (e : Evo H μ H' μ') (h : RX Γ H μ Z x cls d) : RX Γ H' μ' Z x cls d := by
  obtain ⟨h1, dd, v, h2, h3, h4, h5⟩ := h
  exact ⟨h1, dd, v, h2, e.keep _ _ h3 h4.1, e.fz (by rw [h3]; intro z; cases z) h4, h5.mono e⟩
/-- the store's objects stay where the heap grows beside them -/
theorem Rep.keep (R : Rep Γ H μ Z s) (e : Evo H μ H' μ) (h : ∀ n a, μ n = some a → H' a = H a) : Rep Γ H' μ Z s := ⟨fun n o q => by
  obtain ⟨a, h1, h2, h3⟩ := R.at n o q
  refine ⟨a, h1, h2, ?_⟩
  cases o with
  | lst ws =>
    obtain ⟨xs, h4, h5⟩ := h3
    exact ⟨xs, (h n a h1).trans h4, h5.mono e⟩
  | dct kws =>
    obtain ⟨kvs, h4, h5, h6⟩ := h3
    exact ⟨kvs, (h n a h1).trans h4, h5, h6.mono e⟩
  | tab m q => exact ⟨h3.1, tab_imp (h n a h1) (fun c e1 e2 => ⟨e.keep _ _ e1 e2.1, e.fz (by rw [e1]; intro z; cases z) e2⟩) h3.2⟩, R.inj, R.dom, fun a q => e.alive (R.za a q)⟩
theorem RO.alive {a : Addr} {o : Ob} (h : RO Γ H μ Z a o) : H a ≠ none := by
  cases o with
  | lst ws => obtain ⟨_, h, _⟩ := h; rw [h]; intro z; cases z
  | dct kws => obtain ⟨_, h, _⟩ := h; rw [h]; intro z; cases z
  | tab m q => obtain ⟨_, _, h, _⟩ := h; rw [h]; intro z; cases z
theorem Rep.alive (R : Rep Γ H μ Z s) {n : Nat} {a : Addr} (h : μ n = some a) : H a ≠ none := by
  have hl := R.dom n a h
  obtain ⟨b, h1, _, h3⟩ := R.at n _ (List.getElem?_eq_getElem hl)
  rw [h] at h1
  cases h1
  exact h3.alive
theorem Rep.notZ (R : Rep Γ H μ Z s) {n : Nat} {a : Addr} (h : μ n = some a) : ¬ Z a := by
  have hl := R.dom n a h
  obtain ⟨b, h1, h2, h3⟩ := R.at n _ (List.getElem?_eq_getElem hl)
  rw [h] at h1
  cases h1
  exact h2
theorem Rep.laid (R : Rep Γ H μ Z s) (hp : H p = none) : Rep Γ (upd H p o) μ Z s := R.keep (Evo.laid hp) fun n a h => upd_ne fun e => R.alive h (e ▸ hp)
theorem Rep.fz (R : Rep Γ H μ Z s) (hp : H p = none) : Fz μ Z p := ⟨fun n h => R.alive h hp, fun z => R.za p z hp⟩
end
end MP

set_option Elab.async false
set_option linter.all false
set_option maxRecDepth 100000
set_option maxHeartbeats 4000000
namespace MP
open PySem PySem.Spec PyProof.Rows L2

/-! ### what is wanted behind a piece -/
section
variable (Γ : Ct) (W : WX) (H : Hp) (μ : Mu) (Z : Zs) (σ : L2.St)
def PostE (Q : VK) : R Dv → Prop
  | .ok w s' => ∀ v H' μ', Evo H μ H' μ' → Rep Γ H' μ' Z s' → RV Γ H' μ' Z w v → Q v H'
  | .er x s' => ∀ cls d H' μ', Evo H μ H' μ' → Rep Γ H' μ' Z s' → RX Γ H' μ' Z x cls d → W cls d σ H'
  | .no => False
def PostT (Q : Bool → Hp → Prop) : R Bool → Prop
  | .ok b s' => ∀ H' μ', Evo H μ H' μ' → Rep Γ H' μ' Z s' → Q b H'
  | .er x s' => ∀ cls d H' μ', Evo H μ H' μ' → Rep Γ H' μ' Z s' → RX Γ H' μ' Z x cls d → W cls d σ H'
  | .no => False
def PostA (Q : List V → Hp → Prop) : R (List Dv) → Prop
  | .ok ws s' => ∀ vs H' μ', Evo H μ H' μ' → Rep Γ H' μ' Z s' → RVs Γ H' μ' Z ws vs → Q vs H'
  | .er x s' => ∀ cls d H' μ', Evo H μ H' μ' → Rep Γ H' μ' Z s' → RX Γ H' μ' Z x cls d → W cls d σ H'
  | .no => False
def PostS (D : Ends) : C → Prop
  | .nx ρ' s' => ∀ σ' H' μ', Evo H μ H' μ' → Rep Γ H' μ' Z s' → RE Γ H' μ' Z ρ' σ' → D.nx σ' H'
  | .bk ρ' s' => ∀ σ' H' μ', Evo H μ H' μ' → Rep Γ H' μ' Z s' → RE Γ H' μ' Z ρ' σ' → D.bk σ' H'
  | .ct ρ' s' => ∀ σ' H' μ', Evo H μ H' μ' → Rep Γ H' μ' Z s' → RE Γ H' μ' Z ρ' σ' → D.ct σ' H'
  | .rt w s' => ∀ v H' μ', Evo H μ H' μ' → Rep Γ H' μ' Z s' → RV Γ H' μ' Z w v → D.rt v H'
  | .er x ρ' s' => ∀ cls d σ' H' μ', Evo H μ H' μ' → Rep Γ H' μ' Z s' → RE Γ H' μ' Z ρ' σ' → RX Γ H' μ' Z x cls d → W cls d σ' H'
  | .no => False
end
def rdE (Γ : Ct) (W : WX) (f : FE) : TE := fun σ H Q => ∃ μ Z ρ s, RE Γ H μ Z ρ σ ∧ Rep Γ H μ Z s ∧ PostE Γ W H μ Z σ Q (f ρ s)
def rdT (Γ : Ct) (W : WX) (f : FT) : TT := fun σ H Q => ∃ μ Z ρ s, RE Γ H μ Z ρ σ ∧ Rep Γ H μ Z s ∧ PostT Γ W H μ Z σ Q (f ρ s)
def rdA (Γ : Ct) (W : WX) (f : FA) : TA := fun σ H Q => ∃ μ Z ρ s, RE Γ H μ Z ρ σ ∧ Rep Γ H μ Z s ∧ PostA Γ W H μ Z σ Q (f ρ s)
def rdS (Γ : Ct) (W : WX) (f : FS) : TS := fun D σ H => ∃ μ Z ρ s, RE Γ H μ Z ρ σ ∧ Rep Γ H μ Z s ∧ PostS Γ W H μ Z D (f ρ s)
def ME (X : Cx) (Γ : Ct) (W : WX) (e : Expr) (f : FE) : Prop := PE X e (rdE Γ W f)
def MT (X : Cx) (Γ : Ct) (W : WX) (e : Expr) (f : FT) : Prop := PT X e (rdT Γ W f)
def MW (X : Cx) (Γ : Ct) (W : WX) (e : Expr) (f : FT) : Prop := PW X e (rdT Γ W f)
def MA (X : Cx) (Γ : Ct) (W : WX) (es : List Expr) (f : FA) : Prop := PA X es (rdA Γ W f)
def MS (X : Cx) (Γ : Ct) (W : WX) (st : Stmt) (f : FS) : Prop := PS X st (rdS Γ W f)
def MB (X : Cx) (Γ : Ct) (W : WX) (st : List Stmt) (f : FS) : Prop := PSs X st (rdS Γ W f)
theorem PE.imp {X : Cx} {e : Expr} {t t' : TE} (h : PE X e t) (k : ∀ σ H Q, t' σ H Q → t σ H Q) : PE X e t' := ⟨fun pins s σ H Q I q => h.run pins s σ H Q I (k σ H Q q)⟩
theorem PT.imp {X : Cx} {e : Expr} {t t' : TT} (h : PT X e t) (k : ∀ σ H Q, t' σ H Q → t σ H Q) : PT X e t' := ⟨fun pins s σ H Q I q => h.run pins s σ H Q I (k σ H Q q)⟩
theorem PW.imp {X : Cx} {e : Expr} {t t' : TT} (h : PW X e t) (k : ∀ σ H Q, t' σ H Q → t σ H Q) : PW X e t' := ⟨fun wh pins s σ H Q I q => h.run wh pins s σ H Q I (k σ H Q q)⟩
theorem PA.imp {X : Cx} {e : List Expr} {t t' : TA} (h : PA X e t) (k : ∀ σ H Q, t' σ H Q → t σ H Q) : PA X e t' := ⟨fun pos pins s σ H Q I q => h.run pos pins s σ H Q I (k σ H Q q)⟩
theorem PS.imp {X : Cx} {e : Stmt} {t t' : TS} (h : PS X e t) (k : ∀ D σ H, t' D σ H → t D σ H) : PS X e t' := ⟨fun pins s σ H D I q => h.run pins s σ H D I (k D σ H q)⟩
theorem PSs.imp {X : Cx} {e : List Stmt} {t t' : TS} (h : PSs X e t) (k : ∀ D σ H, t' D σ H → t D σ H) : PSs X e t' := ⟨fun pins s σ H D I q => h.run pins s σ H D I (k D σ H q)⟩
theorem PE.or {X : Cx} {e : Expr} {t t' : TE} (h : PE X e t) (h' : PE X e t') : PE X e (fun σ H Q => t σ H Q ∨ t' σ H Q) := ⟨fun pins s σ H Q I q => q.elim (h.run pins s σ H Q I) (h'.run pins s σ H Q I)⟩
theorem OpR.or2 {X : Cx} {f : Value → Value → Sem Value} {r r' : R2} (h : OpR X f r) (h' : OpR X f r') : OpR X f (fun x y H Q => r x y H Q ∨ r' x y H Q) := fun pins s σ H x y v u Q I rx ry q => q.elim (h pins s σ H x y v u Q I rx ry) (h' pins s σ H x y v u Q I rx ry)
theorem CallR.or2 {X : Cx} {f : Value} {r r' : List V → Hp → VK → Prop} (h : CallR X f r) (h' : CallR X f r') : CallR X f (fun x H Q => r x H Q ∨ r' x H Q) := fun pins s σ H x v Q I rx q => q.elim (h pins s σ H x v Q I rx) (h' pins s σ H x v Q I rx)

def R.thenC {α : Type} (r : R α) (ρ : Env) (k : α → Sto → C) : C := match r with
  | .ok a s => k a s | .er x s => .er x ρ s | .no => .no
def R.of {α : Type} (o : Option α) (s : Sto) : R α := match o with
  | some a => .ok a s | none => .no

section
variable {Γ : Ct} {W : WX} {H H1 : Hp} {μ μ1 : Mu} {Z : Zs} {σ : L2.St} {ρ : Env} {s : Sto}
theorem PostE.evo {Q : VK} {r : R Dv} (e : Evo H μ H1 μ1) (h : PostE Γ W H μ Z σ Q r) : PostE Γ W H1 μ1 Z σ Q r := by
  cases r with
  | ok w s' => exact fun v H' μ' e' => h v H' μ' (e.trans e')
  | er x s' => exact fun c d H' μ' e' => h c d H' μ' (e.trans e')
  | no => exact h
theorem PostT.evo {Q : Bool → Hp → Prop} {r : R Bool} (e : Evo H μ H1 μ1) (h : PostT Γ W H μ Z σ Q r) : PostT Γ W H1 μ1 Z σ Q r := by
  cases r with
  | ok w s' => exact fun H' μ' e' => h H' μ' (e.trans e')
  | er x s' => exact fun c d H' μ' e' => h c d H' μ' (e.trans e')
  | no => exact h
theorem PostA.evo {Q : List V → Hp → Prop} {r : R (List Dv)} (e : Evo H μ H1 μ1) (h : PostA Γ W H μ Z σ Q r) : PostA Γ W H1 μ1 Z σ Q r := by
  cases r with
  | ok w s' => exact fun v H' μ' e' => h v H' μ' (e.trans e')
  | er x s' => exact fun c d H' μ' e' => h c d H' μ' (e.trans e')
  | no => exact h
theorem PostS.evo {D : Ends} {r : C} (e : Evo H μ H1 μ1) (h : PostS Γ W H μ Z D r) : PostS Γ W H1 μ1 Z D r := by
  cases r with
  | nx ρ' s' => exact fun v H' μ' e' => h v H' μ' (e.trans e')
  | bk ρ' s' => exact fun v H' μ' e' => h v H' μ' (e.trans e')
  | ct ρ' s' => exact fun v H' μ' e' => h v H' μ' (e.trans e')
  | rt w s' => exact fun v H' μ' e' => h v H' μ' (e.trans e')
  | er x ρ' s' => exact fun c d σ' H' μ' e' => h c d σ' H' μ' (e.trans e')
  | no => exact h

/-! an expression, then what goes on with its value -/
theorem eE {f : FE} {k : Dv → Sto → R Dv} {Q Q' : VK} (hE : RE Γ H μ Z ρ σ) (hR : Rep Γ H μ Z s) (h : PostE Γ W H μ Z σ Q ((f ρ s).bind k))
    (hk : ∀ x s1 v H1 μ1, Evo H μ H1 μ1 → RE Γ H1 μ1 Z ρ σ → Rep Γ H1 μ1 Z s1 → RV Γ H1 μ1 Z x v → PostE Γ W H1 μ1 Z σ Q (k x s1) → Q' v H1) : rdE Γ W f σ H Q' := by
  refine ⟨μ, Z, ρ, s, hE, hR, ?_⟩
  cases e : f ρ s with
  | ok x s1 =>
    rw [e] at h
    exact fun v H1 μ1 ev R1 r1 => hk x s1 v H1 μ1 ev (hE.mono ev) R1 r1 (PostE.evo ev h)
  | er x s1 => rw [e] at h; exact h
  | no => rw [e] at h; exact h.elim
theorem eT {f : FE} {k : Dv → Sto → R Bool} {Q : Bool → Hp → Prop} {Q' : VK} (hE : RE Γ H μ Z ρ σ) (hR : Rep Γ H μ Z s) (h : PostT Γ W H μ Z σ Q ((f ρ s).bind k))
    (hk : ∀ x s1 v H1 μ1, Evo H μ H1 μ1 → RE Γ H1 μ1 Z ρ σ → Rep Γ H1 μ1 Z s1 → RV Γ H1 μ1 Z x v → PostT Γ W H1 μ1 Z σ Q (k x s1) → Q' v H1) : rdE Γ W f σ H Q' := by
  refine ⟨μ, Z, ρ, s, hE, hR, ?_⟩
  cases e : f ρ s with
  | ok x s1 =>
    rw [e] at h
    exact fun v H1 μ1 ev R1 r1 => hk x s1 v H1 μ1 ev (hE.mono ev) R1 r1 (PostT.evo ev h)
  | er x s1 => rw [e] at h; exact h
  | no => rw [e] at h; exact h.elim
theorem eA {f : FE} {k : Dv → Sto → R (List Dv)} {Q : List V → Hp → Prop} {Q' : VK} (hE : RE Γ H μ Z ρ σ) (hR : Rep Γ H μ Z s) (h : PostA Γ W H μ Z σ Q ((f ρ s).bind k))
    (hk : ∀ x s1 v H1 μ1, Evo H μ H1 μ1 → RE Γ H1 μ1 Z ρ σ → Rep Γ H1 μ1 Z s1 → RV Γ H1 μ1 Z x v → PostA Γ W H1 μ1 Z σ Q (k x s1) → Q' v H1) : rdE Γ W f σ H Q' := by
  refine ⟨μ, Z, ρ, s, hE, hR, ?_⟩
  cases e : f ρ s with
  | ok x s1 =>
    rw [e] at h
    exact fun v H1 μ1 ev R1 r1 => hk x s1 v H1 μ1 ev (hE.mono ev) R1 r1 (PostA.evo ev h)
  | er x s1 => rw [e] at h; exact h
  | no => rw [e] at h; exact h.elim
theorem eS {f : FE} {k : Dv → Sto → C} {D : Ends} {Q' : VK} (hE : RE Γ H μ Z ρ σ) (hR : Rep Γ H μ Z s) (h : PostS Γ W H μ Z D ((f ρ s).thenC ρ k))
    (hk : ∀ x s1 v H1 μ1, Evo H μ H1 μ1 → RE Γ H1 μ1 Z ρ σ → Rep Γ H1 μ1 Z s1 → RV Γ H1 μ1 Z x v → PostS Γ W H1 μ1 Z D (k x s1) → Q' v H1) : rdE Γ W f σ H Q' := by
  refine ⟨μ, Z, ρ, s, hE, hR, ?_⟩
  cases e : f ρ s with
  | ok x s1 =>
    rw [e] at h
    exact fun v H1 μ1 ev R1 r1 => hk x s1 v H1 μ1 ev (hE.mono ev) R1 r1 (PostS.evo ev h)
  | er x s1 => rw [e] at h; exact fun c d H' μ' ev R' rx => h c d σ H' μ' ev R' (hE.mono ev) rx
  | no => rw [e] at h; exact h.elim
theorem tE {f : FT} {k : Bool → Sto → R Dv} {Q : VK} {Q' : Bool → Hp → Prop} (hE : RE Γ H μ Z ρ σ) (hR : Rep Γ H μ Z s) (h : PostE Γ W H μ Z σ Q ((f ρ s).bind k))
    (hk : ∀ b s1 H1 μ1, Evo H μ H1 μ1 → RE Γ H1 μ1 Z ρ σ → Rep Γ H1 μ1 Z s1 → PostE Γ W H1 μ1 Z σ Q (k b s1) → Q' b H1) : rdT Γ W f σ H Q' := by
  refine ⟨μ, Z, ρ, s, hE, hR, ?_⟩
  cases e : f ρ s with
  | ok x s1 =>
    rw [e] at h
    exact fun H1 μ1 ev R1 => hk x s1 H1 μ1 ev (hE.mono ev) R1 (PostE.evo ev h)
  | er x s1 => rw [e] at h; exact h
  | no => rw [e] at h; exact h.elim
theorem tT {f : FT} {k : Bool → Sto → R Bool} {Q Q' : Bool → Hp → Prop} (hE : RE Γ H μ Z ρ σ) (hR : Rep Γ H μ Z s) (h : PostT Γ W H μ Z σ Q ((f ρ s).bind k))
    (hk : ∀ b s1 H1 μ1, Evo H μ H1 μ1 → RE Γ H1 μ1 Z ρ σ → Rep Γ H1 μ1 Z s1 → PostT Γ W H1 μ1 Z σ Q (k b s1) → Q' b H1) : rdT Γ W f σ H Q' := by
  refine ⟨μ, Z, ρ, s, hE, hR, ?_⟩
  cases e : f ρ s with
  | ok x s1 =>
    rw [e] at h
    exact fun H1 μ1 ev R1 => hk x s1 H1 μ1 ev (hE.mono ev) R1 (PostT.evo ev h)
  | er x s1 => rw [e] at h; exact h
  | no => rw [e] at h; exact h.elim
theorem tS {f : FT} {k : Bool → Sto → C} {D : Ends} {Q' : Bool → Hp → Prop} (hE : RE Γ H μ Z ρ σ) (hR : Rep Γ H μ Z s) (h : PostS Γ W H μ Z D ((f ρ s).thenC ρ k))
    (hk : ∀ b s1 H1 μ1, Evo H μ H1 μ1 → RE Γ H1 μ1 Z ρ σ → Rep Γ H1 μ1 Z s1 → PostS Γ W H1 μ1 Z D (k b s1) → Q' b H1) : rdT Γ W f σ H Q' := by
  refine ⟨μ, Z, ρ, s, hE, hR, ?_⟩
  cases e : f ρ s with
  | ok x s1 =>
    rw [e] at h
    exact fun H1 μ1 ev R1 => hk x s1 H1 μ1 ev (hE.mono ev) R1 (PostS.evo ev h)
  | er x s1 => rw [e] at h; exact fun c d H' μ' ev R' rx => h c d σ H' μ' ev R' (hE.mono ev) rx
  | no => rw [e] at h; exact h.elim
theorem aE {f : FA} {k : List Dv → Sto → R Dv} {Q : VK} {Q' : List V → Hp → Prop} (hE : RE Γ H μ Z ρ σ) (hR : Rep Γ H μ Z s) (h : PostE Γ W H μ Z σ Q ((f ρ s).bind k))
    (hk : ∀ ws s1 vs H1 μ1, Evo H μ H1 μ1 → RE Γ H1 μ1 Z ρ σ → Rep Γ H1 μ1 Z s1 → RVs Γ H1 μ1 Z ws vs → PostE Γ W H1 μ1 Z σ Q (k ws s1) → Q' vs H1) : rdA Γ W f σ H Q' := by
  refine ⟨μ, Z, ρ, s, hE, hR, ?_⟩
  cases e : f ρ s with
  | ok x s1 =>
    rw [e] at h
    exact fun v H1 μ1 ev R1 r1 => hk x s1 v H1 μ1 ev (hE.mono ev) R1 r1 (PostE.evo ev h)
  | er x s1 => rw [e] at h; exact h
  | no => rw [e] at h; exact h.elim
theorem aA {f : FA} {k : List Dv → Sto → R (List Dv)} {Q : List V → Hp → Prop} {Q' : List V → Hp → Prop} (hE : RE Γ H μ Z ρ σ) (hR : Rep Γ H μ Z s) (h : PostA Γ W H μ Z σ Q ((f ρ s).bind k))
    (hk : ∀ ws s1 vs H1 μ1, Evo H μ H1 μ1 → RE Γ H1 μ1 Z ρ σ → Rep Γ H1 μ1 Z s1 → RVs Γ H1 μ1 Z ws vs → PostA Γ W H1 μ1 Z σ Q (k ws s1) → Q' vs H1) : rdA Γ W f σ H Q' := by
  refine ⟨μ, Z, ρ, s, hE, hR, ?_⟩
  cases e : f ρ s with
  | ok x s1 =>
    rw [e] at h
    exact fun v H1 μ1 ev R1 r1 => hk x s1 v H1 μ1 ev (hE.mono ev) R1 r1 (PostA.evo ev h)
  | er x s1 => rw [e] at h; exact h
  | no => rw [e] at h; exact h.elim
theorem aS {f : FA} {k : List Dv → Sto → C} {D : Ends} {Q' : List V → Hp → Prop} (hE : RE Γ H μ Z ρ σ) (hR : Rep Γ H μ Z s) (h : PostS Γ W H μ Z D ((f ρ s).thenC ρ k))
    (hk : ∀ ws s1 vs H1 μ1, Evo H μ H1 μ1 → RE Γ H1 μ1 Z ρ σ → Rep Γ H1 μ1 Z s1 → RVs Γ H1 μ1 Z ws vs → PostS Γ W H1 μ1 Z D (k ws s1) → Q' vs H1) : rdA Γ W f σ H Q' := by
  refine ⟨μ, Z, ρ, s, hE, hR, ?_⟩
  cases e : f ρ s with
  | ok x s1 =>
    rw [e] at h
    exact fun v H1 μ1 ev R1 r1 => hk x s1 v H1 μ1 ev (hE.mono ev) R1 r1 (PostS.evo ev h)
  | er x s1 => rw [e] at h; exact fun c d H' μ' ev R' rx => h c d σ H' μ' ev R' (hE.mono ev) rx
  | no => rw [e] at h; exact h.elim
theorem okE {w : Dv} {Q : VK} {v : V} (hR : Rep Γ H μ Z s) (r : RV Γ H μ Z w v) (h : PostE Γ W H μ Z σ Q (.ok w s)) : Q v H := h v H μ .refl hR r
theorem okT {b : Bool} {Q : Bool → Hp → Prop} (hR : Rep Γ H μ Z s) (h : PostT Γ W H μ Z σ Q (.ok b s)) : Q b H := h H μ .refl hR
/-- a value at a new address -/
theorem newE {w : Dv} {Q : VK} {p : Addr} {o : HO} (hR : Rep Γ H μ Z s) (hp : H p = none) (r : RV Γ (upd H p o) μ Z w (.ref p)) (h : PostE Γ W H μ Z σ Q (.ok w s)) : Q (.ref p) (upd H p o) := h _ _ μ (Evo.laid hp) (hR.laid hp) r
end

/-! ### names, constants -/
section
variable {X : Cx} {Γ : Ct} {W : WX}
def mVar (i : Nat) : FE := fun ρ s => match ρ[i]? with
  | some (some w) => .ok w s
  | _ => .no
def mK (w : Dv) : FE := fun _ s => .ok w s
theorem me_var {i : Nat} {e : Expr} (h : PE X e (tVar i)) : ME X Γ W e (mVar i) := PE.imp h fun σ H Q ⟨μ, Z, ρ, s, hE, hR, q⟩ => by
  unfold mVar at q
  split at q
  · rename_i w e
    obtain ⟨v, h1, h2⟩ := hE.2 i w e
    exact ⟨v, h1, okE hR h2 q⟩
  · exact q.elim
theorem me_int {i : Int} {j pos} : ME X Γ W (.Constant (.int i) j pos) (mK (.int i)) := PE.imp pe_int fun σ H Q ⟨μ, Z, ρ, s, hE, hR, q⟩ => okE (w := .int i) hR rfl q
theorem me_bl {i : Bool} {j pos} : ME X Γ W (.Constant (.bool i) j pos) (mK (.bl i)) := PE.imp pe_bl fun σ H Q ⟨μ, Z, ρ, s, hE, hR, q⟩ => okE (w := .bl i) hR rfl q
theorem me_str {i : Str} {j pos} : ME X Γ W (.Constant (.str i) j pos) (mK (.str i)) := PE.imp pe_str fun σ H Q ⟨μ, Z, ρ, s, hE, hR, q⟩ => okE (w := .str i) hR rfl q
theorem me_non {j pos} : ME X Γ W (.Constant .none j pos) (mK .non) := PE.imp pe_non fun σ H Q ⟨μ, Z, ρ, s, hE, hR, q⟩ => okE (w := .non) hR rfl q
/-- a module's constant: an int, a class -/
theorem me_globI {x : Str} {i : Int} {t : Tok} {pos : Pos} (hg : Gl X x) (hm : X.mg x = some (.int i t)) (hd : (x == ("__debug__" : Str)) = false := by decide) : ME X Γ W (.Name x pos) (mK (.int i)) :=
  PE.imp (pe_glob (v := .int i) hg hm ⟨t, rfl⟩ hd) fun σ H Q ⟨μ, Z, ρ, s, hE, hR, q⟩ => okE (w := .int i) hR rfl q
theorem me_globC {x : Str} {c : Nat} {pos : Pos} (hg : Gl X x) (hm : X.mg x = some (.ref (Γ.cls c))) (hd : (x == ("__debug__" : Str)) = false := by decide) : ME X Γ W (.Name x pos) (mK (.cl c)) :=
  PE.imp (pe_glob (v := .ref (Γ.cls c)) hg hm rfl hd) fun σ H Q ⟨μ, Z, ρ, s, hE, hR, q⟩ => okE (w := .cl c) hR rfl q
theorem me_ty {x : Str} {n : String} {pos : Pos} (hg : Gl X x) (hm : X.mg x = none) (hv : bootBuiltins x = some (.type n)) (hn : x ≠ "__name__" := by decide) (hd : (x == ("__debug__" : Str)) = false := by decide) : ME X Γ W (.Name x pos) (mK (.ty n)) :=
  PE.imp (pe_bltn (v := .ty n) hg hm hv rfl hn hd) fun σ H Q ⟨μ, Z, ρ, s, hE, hR, q⟩ => okE (w := .ty n) hR rfl q

/-! ### operators -/
abbrev O2 := Sto → Dv → Dv → Option Dv
abbrev O1 := Sto → Dv → Option Dv
def mBin (op : O2) (f g : FE) : FE := fun ρ s => (f ρ s).bind fun x s1 => (g ρ s1).bind fun y s2 => R.of (op s2 x y) s2
def mUn (op : O1) (f : FE) : FE := fun ρ s => (f ρ s).bind fun x s1 => R.of (op s1 x) s1
/-- what an operator gives: its rule r is met -/
def Op2 (Γ : Ct) (r : R2) (op : O2) : Prop := ∀ (H : Hp) (μ : Mu) (Z : Zs) (s : Sto) (x y w : Dv) (u v : V) (Q : VK), Rep Γ H μ Z s → RV Γ H μ Z x u → RV Γ H μ Z y v → op s x y = some w →
  (∀ v' H', Evo H μ H' μ → Rep Γ H' μ Z s → RV Γ H' μ Z w v' → Q v' H') → r u v H Q
def Op1 (Γ : Ct) (r : V → Hp → VK → Prop) (op : O1) : Prop := ∀ (H : Hp) (μ : Mu) (Z : Zs) (s : Sto) (x w : Dv) (u : V) (Q : VK), Rep Γ H μ Z s → RV Γ H μ Z x u → op s x = some w →
  (∀ v' H', Evo H μ H' μ → Rep Γ H' μ Z s → RV Γ H' μ Z w v' → Q v' H') → r u H Q
theorem ofE {H : Hp} {μ : Mu} {Z : Zs} {σ : L2.St} {s : Sto} {o : Option Dv} {Q : VK} (h : PostE Γ W H μ Z σ Q (R.of o s)) : ∃ w, o = some w ∧ ∀ v' H', Evo H μ H' μ → Rep Γ H' μ Z s → RV Γ H' μ Z w v' → Q v' H' := by
  cases o with
  | none => exact h.elim
  | some w => exact ⟨w, rfl, fun v' H' e R r => h v' H' μ e R r⟩
variable {a b c : Expr} {f g h' : FE} {pos : Pos}
theorem me_op {op : Operator} {r : R2} {o : O2} (ho : OpR X (binaryOp op) r) (hs : Op2 Γ r o) (ha : ME X Γ W a f) (hb : ME X Γ W b g) : ME X Γ W (.BinOp a op b pos) (mBin o f g) :=
  PE.imp (pe_op ho ha hb) fun σ H Q ⟨μ, Z, ρ, s, hE, hR, q⟩ => eE hE hR q fun x s1 u H1 μ1 e1 hE1 R1 r1 q1 => eE hE1 R1 q1 fun y s2 v H2 μ2 e2 hE2 R2 r2 q2 => by
    obtain ⟨w, hw, k⟩ := ofE q2
    exact hs H2 μ2 Z s2 x y w u v Q R2 (r1.mono e2) r2 hw k
theorem me_cmp {op : CmpOp} {r : R2} {o : O2} (ho : OpR X (compareOp op) r) (hs : Op2 Γ r o) (hm : behindInMarks op b = false) (ha : ME X Γ W a f) (hb : ME X Γ W b g) : ME X Γ W (.Compare a [op] [b] pos) (mBin o f g) :=
  PE.imp (pe_cmpR ho ha hb hm) fun σ H Q ⟨μ, Z, ρ, s, hE, hR, q⟩ => eE hE hR q fun x s1 u H1 μ1 e1 hE1 R1 r1 q1 => eE hE1 R1 q1 fun y s2 v H2 μ2 e2 hE2 R2 r2 q2 => by
    obtain ⟨w, hw, k⟩ := ofE q2
    exact hs H2 μ2 Z s2 x y w u v Q R2 (r1.mono e2) r2 hw k
theorem me_un {op : UnaryOp} {r : V → Hp → VK → Prop} {o : O1} (ho : UnR X (unaryOp op) r) (hs : Op1 Γ r o) (ha : ME X Γ W a f) : ME X Γ W (.UnaryOp op a pos) (mUn o f) :=
  PE.imp (pe_un ho ha) fun σ H Q ⟨μ, Z, ρ, s, hE, hR, q⟩ => eE hE hR q fun x s1 u H1 μ1 e1 hE1 R1 r1 q1 => by
    obtain ⟨w, hw, k⟩ := ofE q1
    exact hs H1 μ1 Z s1 x w u Q R1 r1 hw k
/-- a < b < c -/
def mChain (o o' : O2) (f g h : FE) : FE := fun ρ s => (f ρ s).bind fun x s1 => (g ρ s1).bind fun y s2 => match o s2 x y with
  | some (.bl true) => (h ρ s2).bind fun z s3 => R.of (o' s3 y z) s3
  | some (.bl false) => .ok (.bl false) s2
  | _ => .no
theorem me_chain {op op' : CmpOp} {r r' : R2} {o o' : O2} (ho : OpR X (compareOp op) r) (ho' : OpR X (compareOp op') r') (hs : Op2 Γ r o) (hs' : Op2 Γ r' o') (hm : lastMarks [op, op'] [b, c] = false)
    (ha : ME X Γ W a f) (hb : ME X Γ W b g) (hc : ME X Γ W c h') : ME X Γ W (.Compare a [op, op'] [b, c] pos) (mChain o o' f g h') :=
  PE.imp (pe_chain ho ho' ha hb hc hm) fun σ H Q ⟨μ, Z, ρ, s, hE, hR, q⟩ => eE hE hR q fun x s1 u H1 μ1 e1 hE1 R1 r1 q1 => eE hE1 R1 q1 fun y s2 v H2 μ2 e2 hE2 R2 r2 q2 => by
    cases hw : o s2 x y with
    | none => rw [hw] at q2; exact q2.elim
    | some w =>
      rw [hw] at q2
      refine hs H2 μ2 Z s2 x y w u v _ R2 (r1.mono e2) r2 hw fun z H3 e3 R3 r3 => ?_
      cases w with
      | bl k =>
        refine ⟨k, r3, ?_⟩
        cases k with
        | true =>
          rw [if_pos rfl]
          exact eE (hE2.mono e3) R3 (PostE.evo e3 q2) fun z' s3 v3 H4 μ4 e4 hE4 R4 r4 q4 => by
            obtain ⟨w', hw', k'⟩ := ofE q4
            exact hs' H4 μ4 Z s3 y z' w' v v3 Q R4 ((r2.mono e3).mono e4) r4 hw' k'
        | false =>
          rw [if_neg Bool.false_ne_true]
          exact okE R3 (w := .bl false) rfl (PostE.evo e3 q2)
      | _ => exact q2.elim

/-! ### tests -/
def mTest (f : FE) : FT := fun ρ s => (f ρ s).bind fun x s1 => match x with
  | .bl b => .ok b s1
  | _ => .no
theorem mt_of {e : Expr} (h : ∀ (t : TE), PE X e t → PT X e (tTest t)) (ha : ME X Γ W e f) : MT X Γ W e (mTest f) :=
  PT.imp (h _ ha) fun σ H Q ⟨μ, Z, ρ, s, hE, hR, q⟩ => eT hE hR q fun x s1 u H1 μ1 e1 hE1 R1 r1 q1 => by
    cases x with
    | bl b => exact ⟨b, r1, okT R1 q1⟩
    | _ => exact q1.elim
theorem mt_val {e : Expr} (ha : ME X Γ W e f) (he : ∀ whole, isTrue e X.env whole = (do let v ← whole; standAt e.pos; holding [v] (truthy v)) := by intro _; rfl) : MT X Γ W e (mTest f) :=
  mt_of (fun t h => pt_val h he) ha
theorem mt_cmp {op : CmpOp} {r : R2} {o : O2} (ho : OpR X (compareOp op) r) (hs : Op2 Γ r o) (hm : behindInMarks op b = false) (ha : ME X Γ W a f) (hb : ME X Γ W b g) : MT X Γ W (.Compare a [op] [b] pos) (mTest (mBin o f g)) :=
  PT.imp (pt_cmpR ho ha hb hm) fun σ H Q ⟨μ, Z, ρ, s, hE, hR, q⟩ => by
    have q' : PostT Γ W H μ Z σ Q ((f ρ s).bind fun x s1 => (g ρ s1).bind fun y s2 => (R.of (o s2 x y) s2).bind fun x s1 => match x with
      | .bl b => .ok b s1
      | _ => .no) := by
      unfold mTest mBin at q
      revert q
      cases f ρ s with
      | ok x s1 =>
        dsimp only [R.bind]
        cases g ρ s1 <;> exact id
      | er x s1 => exact id
      | no => exact id
    exact eT hE hR q' fun x s1 u H1 μ1 e1 hE1 R1 r1 q1 => eT hE1 R1 q1 fun y s2 v H2 μ2 e2 hE2 R2 r2 q2 => by
      cases hw : o s2 x y with
      | none => rw [hw] at q2; exact q2.elim
      | some w =>
        rw [hw] at q2
        refine hs H2 μ2 Z s2 x y w u v _ R2 (r1.mono e2) r2 hw fun z H3 e3 R3 r3 => ?_
        cases w with
        | bl k => exact ⟨k, r3, okT R3 (PostT.evo e3 q2)⟩
        | _ => exact q2.elim
def mAnd (t u : FT) : FT := fun ρ s => (t ρ s).bind fun c s1 => if c = true then u ρ s1 else .ok false s1
def mOr (t u : FT) : FT := fun ρ s => (t ρ s).bind fun c s1 => if c = true then .ok true s1 else u ρ s1
def mNot (t : FT) : FT := fun ρ s => (t ρ s).bind fun c s1 => .ok (!c) s1
variable {t u : FT} {rest : List Expr}
theorem mw_and1 (ha : MT X Γ W a t) : MW X Γ W (.BoolOp .And [a] pos) t := pw_and1 ha
theorem mw_or1 (ha : MT X Γ W a t) : MW X Γ W (.BoolOp .Or [a] pos) t := pw_or1 ha
theorem ifT {H : Hp} {μ : Mu} {Z : Zs} {σ : L2.St} {ρ : Env} {s : Sto} {Q : Bool → Hp → Prop} {v : FT} (hE : RE Γ H μ Z ρ σ) (hR : Rep Γ H μ Z s) (q : PostT Γ W H μ Z σ Q (v ρ s)) : rdT Γ W v σ H Q := ⟨μ, Z, ρ, s, hE, hR, q⟩
theorem ifE {H : Hp} {μ : Mu} {Z : Zs} {σ : L2.St} {ρ : Env} {s : Sto} {Q : VK} {v : FE} (hE : RE Γ H μ Z ρ σ) (hR : Rep Γ H μ Z s) (q : PostE Γ W H μ Z σ Q (v ρ s)) : rdE Γ W v σ H Q := ⟨μ, Z, ρ, s, hE, hR, q⟩
theorem mw_and (ha : MT X Γ W a t) (hb : MW X Γ W (.BoolOp .And (b :: rest) pos) u) : MW X Γ W (.BoolOp .And (a :: b :: rest) pos) (mAnd t u) :=
  PW.imp (pw_and ha hb) fun σ H Q ⟨μ, Z, ρ, s, hE, hR, q⟩ => tT hE hR q fun c s1 H1 μ1 e1 hE1 R1 q1 => by
    cases c with
    | true => rw [if_pos rfl] at q1 ⊢; exact ifT hE1 R1 q1
    | false => rw [if_neg Bool.false_ne_true] at q1 ⊢; exact okT R1 q1
theorem mw_or (ha : MT X Γ W a t) (hb : MW X Γ W (.BoolOp .Or (b :: rest) pos) u) : MW X Γ W (.BoolOp .Or (a :: b :: rest) pos) (mOr t u) :=
  PW.imp (pw_or ha hb) fun σ H Q ⟨μ, Z, ρ, s, hE, hR, q⟩ => tT hE hR q fun c s1 H1 μ1 e1 hE1 R1 q1 => by
    cases c with
    | true => rw [if_pos rfl] at q1 ⊢; exact okT R1 q1
    | false => rw [if_neg Bool.false_ne_true] at q1 ⊢; exact ifT hE1 R1 q1
theorem mt_w {e : Expr} (h : MW X Γ W e t) : MT X Γ W e t := PW.pt h
theorem mt_not (ha : MT X Γ W a t) : MT X Γ W (.UnaryOp .Not a pos) (mNot t) :=
  PT.imp (pt_not ha) fun σ H Q ⟨μ, Z, ρ, s, hE, hR, q⟩ => tT hE hR q fun c s1 H1 μ1 e1 hE1 R1 q1 => okT R1 q1
/-- and, or, not as values: bools -/
def mAndV (f g : FE) : FE := fun ρ s => (f ρ s).bind fun x s1 => match x with
  | .bl true => g ρ s1
  | .bl false => .ok (.bl false) s1
  | _ => .no
def mOrV (f g : FE) : FE := fun ρ s => (f ρ s).bind fun x s1 => match x with
  | .bl false => g ρ s1
  | .bl true => .ok (.bl true) s1
  | _ => .no
def mNotV (f : FE) : FE := fun ρ s => (f ρ s).bind fun x s1 => match x with
  | .bl c => .ok (.bl (!c)) s1
  | _ => .no
theorem me_one {op} (h : ME X Γ W a f) : ME X Γ W (.BoolOp op [a] pos) f := pe_one h
theorem me_and (ha : ME X Γ W a f) (hb : ME X Γ W (.BoolOp .And (b :: rest) pos) g) : ME X Γ W (.BoolOp .And (a :: b :: rest) pos) (mAndV f g) :=
  PE.imp (pe_and ha hb) fun σ H Q ⟨μ, Z, ρ, s, hE, hR, q⟩ => eE hE hR q fun x s1 u H1 μ1 e1 hE1 R1 r1 q1 => by
    cases x with
    | bl c =>
      refine ⟨c, r1, ?_⟩
      cases c with
      | true => rw [if_pos rfl]; exact ifE hE1 R1 q1
      | false => rw [if_neg Bool.false_ne_true]; exact okE (w := .bl false) R1 rfl q1
    | _ => exact q1.elim
theorem me_or (ha : ME X Γ W a f) (hb : ME X Γ W (.BoolOp .Or (b :: rest) pos) g) : ME X Γ W (.BoolOp .Or (a :: b :: rest) pos) (mOrV f g) :=
  PE.imp (pe_or ha hb) fun σ H Q ⟨μ, Z, ρ, s, hE, hR, q⟩ => eE hE hR q fun x s1 u H1 μ1 e1 hE1 R1 r1 q1 => by
    cases x with
    | bl c =>
      refine ⟨c, r1, ?_⟩
      cases c with
      | true => rw [if_pos rfl]; exact okE (w := .bl true) R1 rfl q1
      | false => rw [if_neg Bool.false_ne_true]; exact ifE hE1 R1 q1
    | _ => exact q1.elim
theorem me_not (ha : ME X Γ W a f) : ME X Γ W (.UnaryOp .Not a pos) (mNotV f) :=
  PE.imp (pe_not ha) fun σ H Q ⟨μ, Z, ρ, s, hE, hR, q⟩ => eE hE hR q fun x s1 u H1 μ1 e1 hE1 R1 r1 q1 => by
    cases x with
    | bl c => exact ⟨c, r1, okE (w := .bl (!c)) R1 rfl q1⟩
    | _ => exact q1.elim
def mIf (t : FT) (f g : FE) : FE := fun ρ s => (t ρ s).bind fun c s1 => if c = true then f ρ s1 else g ρ s1
theorem me_if {c : Expr} (hc : MT X Γ W c t) (ha : ME X Γ W a f) (hb : ME X Γ W b g) : ME X Γ W (.IfExp c a b pos) (mIf t f g) :=
  PE.imp (pe_ifExp hc ha hb) fun σ H Q ⟨μ, Z, ρ, s, hE, hR, q⟩ => tE hE hR q fun c s1 H1 μ1 e1 hE1 R1 q1 => by
    cases c with
    | true => rw [if_pos rfl] at q1 ⊢; exact ifE hE1 R1 q1
    | false => rw [if_neg Bool.false_ne_true] at q1 ⊢; exact ifE hE1 R1 q1

/-! ### argument lists, displays -/
def mNil : FA := fun _ s => .ok [] s
def mCons (f : FE) (g : FA) : FA := fun ρ s => (f ρ s).bind fun x s1 => (g ρ s1).bind fun xs s2 => .ok (x :: xs) s2
theorem ma_nil : MA X Γ W [] mNil := PA.imp pa_nil fun σ H Q ⟨μ, Z, ρ, s, hE, hR, q⟩ => q _ H μ .refl hR rfl
theorem ma_cons {e : Expr} {es : List Expr} {g : FA} (ha : ME X Γ W e f) (hr : MA X Γ W es g) (hs : starEach (e :: es) X.env = (false, eval e X.env) :: starEach es X.env := by rfl) : MA X Γ W (e :: es) (mCons f g) :=
  PA.imp (pa_cons ha hr hs) fun σ H Q ⟨μ, Z, ρ, s, hE, hR, q⟩ => eA hE hR q fun x s1 u H1 μ1 e1 hE1 R1 r1 q1 => aA hE1 R1 q1 fun ws s2 vs H2 μ2 e2 hE2 R2 r2 q2 =>
    q2 _ H2 μ2 .refl R2 (RVs.cons (r1.mono e2) r2)
def mTup (g : FA) : FE := fun ρ s => (g ρ s).bind fun ws s1 => if ws.length ≤ lim then .ok (.tup ws) s1 else .no
def mLst (g : FA) : FE := fun ρ s => (g ρ s).bind fun ws s1 => if ws.length ≤ lim then .ok (.lst ws) s1 else .no
/-- a list that will be changed: an object of the store -/
def mLstM (g : FA) : FE := fun ρ s => (g ρ s).bind fun ws s1 => if ws.length ≤ lim then .ok (.ref s1.length) (s1 ++ [.lst ws]) else .no
theorem lim_ok {n : Nat} (h : n ≤ lim) : n ≤ sizeLine := Nat.le_trans h (by rw [sizeLine_eq]; decide)
theorem lim_lt {n : Nat} (h : n ≤ lim) : n < sizeLine := Nat.lt_of_le_of_lt h (by rw [sizeLine_eq]; decide)
section
variable {H : Hp} {μ : Mu} {Z : Zs} {s : Sto} {p : Addr} {ws : List Dv} {vs : List V}
theorem new_tup (hR : Rep Γ H μ Z s) (hp : H p = none) (r : RVs Γ H μ Z ws vs) : RV Γ (upd H p (.tup vs)) μ Z (.tup ws) (.ref p) :=
  ⟨p, vs, rfl, .inl ⟨.inl upd_same, hR.fz hp⟩, r.mono (Evo.laid hp)⟩
theorem new_lst (hR : Rep Γ H μ Z s) (hp : H p = none) (r : RVs Γ H μ Z ws vs) : RV Γ (upd H p (.lst vs)) μ Z (.lst ws) (.ref p) :=
  ⟨p, vs, rfl, upd_same, hR.fz hp, r.mono (Evo.laid hp)⟩
/-- a new object of the store -/
def ext (μ : Mu) (n : Nat) (p : Addr) : Mu := fun m => if m = n then some p else μ m
theorem Evo.ext {o : HO} (hp : H p = none) (hn : μ n = none) : Evo H μ (upd H p o) (ext μ n p) where
  keep := fun a o h _ => by rw [upd_ne (ne_of_none h hp)]; exact h
  mu := fun m a h => by
    unfold MP.ext
    rw [if_neg fun e => by rw [e, hn] at h; cases h]
    exact h
  new := fun m a h => by
    unfold MP.ext at h
    split at h
    · cases h; exact .inr hp
    · exact .inl h
  stay := fun m a h q => by
    by_cases e : a = p
    · subst e; exact absurd hp q
    · rw [upd_ne e]; exact q
theorem Rep.mu_new (hR : Rep Γ H μ Z s) : μ s.length = none := by
  cases e : μ s.length with
  | none => rfl
  | some a => exact absurd (hR.dom _ _ e) (Nat.lt_irrefl _)
theorem RO.mono' {a : Addr} {o : Ob} {H' : Hp} {μ' : Mu} (e : Evo H μ H' μ') (q : H' a = H a) (h : RO Γ H μ Z a o) : RO Γ H' μ' Z a o := by
  cases o with
  | lst ws =>
    obtain ⟨xs, h4, h5⟩ := h
    exact ⟨xs, q.trans h4, h5.mono e⟩
  | dct kws =>
    obtain ⟨kvs, h4, h5, h6⟩ := h
    exact ⟨kvs, q.trans h4, h5, h6.mono e⟩
  | tab m y => exact ⟨h.1, tab_imp q (fun c e1 e2 => ⟨e.keep _ _ e1 e2.1, e.fz (by rw [e1]; intro z; cases z) e2⟩) h.2⟩
theorem Rep.push (hR : Rep Γ H μ Z s) (hp : H p = none) {o : HO} {ob : Ob} (ho : RO Γ (upd H p o) (MP.ext μ s.length p) Z p ob) : Rep Γ (upd H p o) (MP.ext μ s.length p) Z (s ++ [ob]) := by
  have ev : Evo H μ (upd H p o) (MP.ext μ s.length p) := Evo.ext hp hR.mu_new
  refine ⟨fun n o' q => ?_, fun n m a h1 h2 => ?_, fun n a h => ?_, fun a q => ev.alive (hR.za a q)⟩
  · by_cases hn : n = s.length
    · subst hn
      rw [List.getElem?_append_right (Nat.le_refl _)] at q
      simp at q
      subst q
      exact ⟨p, by unfold MP.ext; rw [if_pos rfl], fun z => hR.za p z hp, ho⟩
    · have hl : n < s.length := by
        have := (List.getElem?_eq_some_iff.mp q).1
        rw [List.length_append, List.length_singleton] at this
        omega
      rw [List.getElem?_append_left hl] at q
      obtain ⟨a, h1, h2, h3⟩ := hR.at n o' q
      exact ⟨a, ev.mu _ _ h1, h2, h3.mono' ev (upd_ne fun e => hR.alive h1 (e ▸ hp))⟩
  · unfold MP.ext at h1 h2
    split at h1 <;> split at h2
    · rename_i e1 e2; rw [e1, e2]
    · cases h1; exact absurd hp (hR.alive h2)
    · cases h2; exact absurd hp (hR.alive h1)
    · exact hR.inj _ _ _ h1 h2
  · unfold MP.ext at h
    rw [List.length_append, List.length_singleton]
    split at h
    · omega
    · have := hR.dom _ _ h
      omega
end
theorem me_tup {es : List Expr} {g : FA} {x1} (h : MA X Γ W es g) : ME X Γ W (.Tuple es x1 pos) (mTup g) :=
  PE.imp (pe_tup h) fun σ H Q ⟨μ, Z, ρ, s, hE, hR, q⟩ => aE hE hR q fun ws s1 vs H1 μ1 e1 hE1 R1 r1 q1 => by
    split at q1
    · rename_i hl
      exact ⟨by rw [r1.len]; exact lim_ok hl, fun p hp => newE R1 hp (new_tup R1 hp r1) q1⟩
    · exact q1.elim
theorem me_lst {es : List Expr} {g : FA} (h : MA X Γ W es g) : ME X Γ W (.List es pos) (mLst g) :=
  PE.imp (pe_lst h) fun σ H Q ⟨μ, Z, ρ, s, hE, hR, q⟩ => aE hE hR q fun ws s1 vs H1 μ1 e1 hE1 R1 r1 q1 => by
    split at q1
    · rename_i hl
      exact ⟨by rw [r1.len]; exact lim_ok hl, fun p hp => newE R1 hp (new_lst R1 hp r1) q1⟩
    · exact q1.elim
theorem me_lstM {es : List Expr} {g : FA} (h : MA X Γ W es g) : ME X Γ W (.List es pos) (mLstM g) :=
  PE.imp (pe_lst h) fun σ H Q ⟨μ, Z, ρ, s, hE, hR, q⟩ => aE hE hR q fun ws s1 vs H1 μ1 e1 hE1 R1 r1 q1 => by
    split at q1
    · rename_i hl
      refine ⟨by rw [r1.len]; exact lim_ok hl, fun p hp => ?_⟩
      have ev : Evo H1 μ1 (upd H1 p (.lst vs)) (ext μ1 s1.length p) := Evo.ext hp R1.mu_new
      exact q1 _ _ _ ev (R1.push hp ⟨vs, upd_same, r1.mono ev⟩) ⟨p, rfl, by unfold ext; rw [if_pos rfl]⟩
    · exact q1.elim
end
end MP

set_option Elab.async false
set_option linter.all false
set_option maxRecDepth 100000
set_option maxHeartbeats 4000000
namespace MP
open PySem PySem.Spec PyProof.Rows L2

/-! ### tuple * int, whatever the int -/
theorem tuple_mul1 (l : Addr) (items : Array Value) (n : Nat) (dd : Option Addr) (sl : Array (Option Value)) (x : Int) (u : Tok) (c0 : (decide (x < -(2 ^ 63)) || decide (x ≥ 2 ^ 63)) = false) (c1 : (items.isEmpty || x == 1) = true) :
    Meets (Builtin.«tuple.__mul__» ⟨[.ref l, .int x u], []⟩) (fun _ R s => s.heap.get? l = some { cls := .type "tuple", dict := dd, data := .seq items n, slots := sl } ∧
      R (.ok (.ret (Value.ref l))) s) :=
  .of_wp fun prog w A R s h => by
    obtain ⟨hp, g, d, tk, os⟩ := s
    obtain ⟨hl, h⟩ := h
    have f1 := AutoSeq1.idx_int
    wp_walk using wpAny_loadPart' hl
    repeat (first
      | (refine wpAny_ite_false (decide_eq_false (by rw [c0]; exact Bool.false_ne_true)) ?_; wp_walk using wpAny_loadPart' hl)
      | (refine wpAny_ite_true (decide_eq_true c1) ?_; wp_walk using wpAny_loadPart' hl))
    exact ⟨_, rfl, h⟩
theorem tuple_mul0 (l : Addr) (items : Array Value) (n : Nat) (dd : Option Addr) (sl : Array (Option Value)) (x : Int) (u : Tok) (c0 : (decide (x < -(2 ^ 63)) || decide (x ≥ 2 ^ 63)) = false) (c1 : (items.isEmpty || x == 1) = false) (c2 : (decide (x ≤ 0) || items.isEmpty) = true) :
    Meets (Builtin.«tuple.__mul__» ⟨[.ref l, .int x u], []⟩) (fun _ R s => s.heap.get? l = some { cls := .type "tuple", dict := dd, data := .seq items n, slots := sl } ∧
      R (.ok (.ret (Value.ref s.heap.objs.size))) { s with heap := s.heap.push { cls := Value.type "tuple", data := Data.seq #[] } }) :=
  .of_wp fun prog w A R s h => by
    obtain ⟨hp, g, d, tk, os⟩ := s
    obtain ⟨hl, h⟩ := h
    have f1 := AutoSeq1.idx_int
    wp_walk using wpAny_loadPart' hl
    repeat (first
      | (refine wpAny_ite_false (decide_eq_false (by rw [c0]; exact Bool.false_ne_true)) ?_; wp_walk using wpAny_loadPart' hl)
      | (refine wpAny_ite_false (decide_eq_false (by rw [c1]; exact Bool.false_ne_true)) ?_; wp_walk using wpAny_loadPart' hl)
      | (refine wpAny_ite_true (decide_eq_true c2) ?_; wp_walk using wpAny_loadPart' hl))
    exact ⟨_, rfl, h⟩
theorem tuple_mulN (l : Addr) (items : Array Value) (n : Nat) (dd : Option Addr) (sl : Array (Option Value)) (x : Int) (u : Tok) (c0 : (decide (x < -(2 ^ 63)) || decide (x ≥ 2 ^ 63)) = false) (c1 : (items.isEmpty || x == 1) = false) (c2 : (decide (x ≤ 0) || items.isEmpty) = false)
    (c3 : ¬ ((items.size : Nat) : Int) * x > (2 ^ 63 - 1) / 8) (c4 : Builtin.Tuple.tupleTooMany (((items.size : Nat) : Int) * x) = false) (hsz : (List.foldl (fun x1 x2 => x1 ++ x2) #[] (List.replicate x.toNat items)).size ≤ sizeLine) :
    Meets (Builtin.«tuple.__mul__» ⟨[.ref l, .int x u], []⟩) (fun _ R s => s.heap.get? l = some { cls := .type "tuple", dict := dd, data := .seq items n, slots := sl } ∧
      R (.ok (.ret (Value.ref s.heap.objs.size))) { s with heap := s.heap.push { cls := Value.type "tuple", data := Data.seq (List.foldl (fun x1 x2 => x1 ++ x2) #[] (List.replicate x.toNat items)) }, toks := s.toks }) := L2.tuple_mulW l items n dd sl x u c0 c1 c2 c3 c4 hsz
def rRepA (K : PySem.W.Frag) : R2 := fun x y H Q => ∃ l k xs, x = .ref l ∧ y = .int k ∧ SqT K H l xs ∧ -(2 ^ 63) ≤ k ∧ k < 2 ^ 63 ∧ xs.length * k.toNat ≤ 16000000 ∧
  (xs = [] ∨ k = 1 → Q (.ref l) H) ∧ (¬ (xs = [] ∨ k = 1) → ∀ p, H p = none → Q (.ref p) (upd H p (.tup (List.replicate k.toNat xs).flatten)))
section
variable {X : Cx}
theorem op_repA : OpR X (binaryOp .Mult) (rRepA X.K) := by
  intro pins s σ H x y v u Q I rx ry h
  obtain ⟨l, k, xs, rfl, rfl, hT, h1, h2, hz, qs, qn⟩ := h
  cases rx
  obtain ⟨t, rfl⟩ := ry
  obtain ⟨its, r, ⟨⟨cls, dd, data, sl⟩, ho, hc, n, hd⟩, hs⟩ := I.tuple hT
  simp only at hc hd
  subst hc hd
  have hle : its.length = xs.length := r.length.symm
  have hsz0 : its.toArray.size = xs.length := by rw [List.size_toArray, hle]
  have he : (its.toArray.isEmpty = true) ↔ xs = [] := by
    rw [← List.length_eq_zero_iff (l := xs), ← hle]
    clear hT r ho hs hle hsz0 qs qn hz
    cases its with
    | nil => exact ⟨fun _ => rfl, fun _ => rfl⟩
    | cons a b => exact ⟨fun z => (Bool.false_ne_true z).elim, fun z => (Nat.succ_ne_zero _ z).elim⟩
  have c0 : (decide (k < -(2 ^ 63)) || decide (k ≥ 2 ^ 63)) = false := by
    clear he qs qn
    rw [decide_eq_false (Int.not_lt.mpr h1), decide_eq_false (Int.not_le.mpr h2)] <;> rfl
  by_cases hsame : xs = [] ∨ k = 1
  · have c1 : (its.toArray.isEmpty || k == 1) = true := by
      rw [Bool.or_eq_true]
      rcases hsame with z | z
      · exact .inl (he.mpr z)
      · exact .inr (beq_iff_eq.mpr z)
    refine wpAny_binaryOp_repeat_ref (T := "tuple") (U := "int") (by decide) ⟨_, ho, rfl⟩ (fun s' => typeIs_int s' k t) noFill_tuple_mul F.fills_int_mul F.slot_int_rmul repeat_tuple F.slot_int_index.lookup
      (call_meets F.slot_int_rmul (typeIs_int s k t) F.entry_int_rmul (F.args_int_rmul_2 _ _) (int_rmul_tuple k t l its.toArray n dd sl)
        ⟨ho, rfl, ⟨_, ho, rfl⟩, call_meets F.slot_tuple_mul ⟨_, ho, rfl⟩ F.entry_tuple_mul (F.args_tuple_mul_2 _ _) (tuple_mul1 l its.toArray n dd sl k t c0 c1) ⟨ho, ?_⟩⟩)
    exact ⟨.ref l, H, I, rfl, qs hsame⟩
  · have hx : xs ≠ [] := fun z => hsame (.inl z)
    have hk : k ≠ 1 := fun z => hsame (.inr z)
    have hi : its.toArray.isEmpty = false := by
      cases e : its.toArray.isEmpty with
      | false => rfl
      | true => exact absurd (he.mp e) hx
    have c1 : (its.toArray.isEmpty || k == 1) = false := by
      rw [hi, Bool.false_or]
      exact beq_eq_false_iff_ne.mpr hk
    by_cases hk0 : k ≤ 0
    · have c2 : (decide (k ≤ 0) || its.toArray.isEmpty) = true := by rw [decide_eq_true hk0, Bool.true_or]
      have q := qn hsame
      have hk' : k.toNat = 0 := by omega
      rw [hk'] at q
      refine wpAny_binaryOp_repeat_ref (T := "tuple") (U := "int") (by decide) ⟨_, ho, rfl⟩ (fun s' => typeIs_int s' k t) noFill_tuple_mul F.fills_int_mul F.slot_int_rmul repeat_tuple F.slot_int_index.lookup
        (call_meets F.slot_int_rmul (typeIs_int s k t) F.entry_int_rmul (F.args_int_rmul_2 _ _) (int_rmul_tuple k t l its.toArray n dd sl)
          ⟨ho, rfl, ⟨_, ho, rfl⟩, call_meets F.slot_tuple_mul ⟨_, ho, rfl⟩ F.entry_tuple_mul (F.args_tuple_mul_2 _ _) (tuple_mul0 l its.toArray n dd sl k t c0 c1 c2) ⟨ho, ?_⟩⟩)
      refine ⟨.ref s.heap.objs.size, _, I.laid (t' := s.toks) (o := .tup []) (fun b ob q => Heap.get?_push_of_some _ q) (Nat.le_refl _) ?_, rfl, q _ (I.hok.fresh (Nat.le_refl _))⟩
      exact ⟨Nat.zero_le _, [], .nil, IsTup.new _ _⟩
    · have c2 : (decide (k ≤ 0) || its.toArray.isEmpty) = false := by
        rw [hi, Bool.or_false]
        exact decide_eq_false hk0
      have hkk : (k.toNat : Int) = k := Int.toNat_of_nonneg (by omega)
      have hm : ((its.toArray.size : Nat) : Int) * k ≤ 16000000 := by
        have z1 : ((xs.length * k.toNat : Nat) : Int) ≤ ((16000000 : Nat) : Int) := Int.ofNat_le.mpr hz
        rw [Int.natCast_mul, hkk] at z1
        rw [hsz0]
        exact z1
      have c4 : Builtin.Tuple.tupleTooMany (((its.toArray.size : Nat) : Int) * k) = false := by
        unfold Builtin.Tuple.tupleTooMany
        rw [sizeLine_eq]
        exact decide_eq_false (by omega)
      have flen : (List.replicate k.toNat its).flatten.length ≤ sizeLine := by
        rw [PyProof.Rows.lm_len_rep_flat, hle, sizeLine_eq, Nat.mul_comm]
        omega
      refine wpAny_binaryOp_repeat_ref (T := "tuple") (U := "int") (by decide) ⟨_, ho, rfl⟩ (fun s' => typeIs_int s' k t) noFill_tuple_mul F.fills_int_mul F.slot_int_rmul repeat_tuple F.slot_int_index.lookup
        (call_meets F.slot_int_rmul (typeIs_int s k t) F.entry_int_rmul (F.args_int_rmul_2 _ _) (int_rmul_tuple k t l its.toArray n dd sl)
          ⟨ho, rfl, ⟨_, ho, rfl⟩, call_meets F.slot_tuple_mul ⟨_, ho, rfl⟩ F.entry_tuple_mul (F.args_tuple_mul_2 _ _) (tuple_mulN l its.toArray n dd sl k t c0 c1 c2 (by omega) c4 (by rw [size_rep, List.size_toArray]; exact flen)) ⟨ho, ?_⟩⟩)
      rw [size_rep]
      refine ⟨.ref s.heap.objs.size, _, I.laid (t' := s.toks) (o := .tup (List.replicate k.toNat xs).flatten) (fun b ob q => Heap.get?_push_of_some _ q) (Nat.le_refl _) ?_, rfl, qn hsame _ (I.hok.fresh (Nat.le_refl _))⟩
      exact ⟨by rw [PyProof.Rows.lm_len_rep_flat, sizeLine_eq, Nat.mul_comm]; omega, _, r.rep k.toNat, IsTup.new _ _⟩
end

/-! ### what data is -/
def lstOf (s : Sto) : Dv → Option (List Dv)
  | .lst ws => some ws
  | .ref n => match s[n]? with
    | some (.lst ws) => some ws
    | _ => none
  | _ => none
/-- a sequence that is read -/
def seqOf (s : Sto) : Dv → Option (List Dv)
  | .tup ws => some ws
  | .sq ws => some ws
  | w => lstOf s w
def tupOf : Dv → Option (List Dv)
  | .tup ws => some ws
  | _ => none
def flat : Dv → Option V
  | .non => some .non | .bl b => some (.bl b) | .int i => some (.int i) | .str x => some (.str x)
  | _ => none
mutual
def toD0 : Dv → Option PyData
  | .non => some .none | .bl b => some (.bool b) | .int i => some (.int i) | .str x => some (.str x)
  | .tup ws => (toDs ws).map .tuple
  | .lst ws => (toDs ws).map .list
  | .sq ws => (toDs ws).map .list
  | _ => none
def toDs : List Dv → Option (List PyData)
  | [] => some []
  | w :: ws => match toD0 w, toDs ws with
    | some d, some ds => some (d :: ds)
    | _, _ => none
end
def toD (s : Sto) : Dv → Option PyData
  | .ref n => match s[n]? with
    | some (.lst ws) => (toDs ws).map .list
    | _ => none
  | w => toD0 w
section
variable {Γ : Ct} {H : Hp} {μ : Mu} {Z : Zs} {s : Sto}
theorem lstOf_ok {w : Dv} {v : V} {ws : List Dv} (hR : Rep Γ H μ Z s) (r : RV Γ H μ Z w v) (e : lstOf s w = some ws) : ∃ a xs, v = .ref a ∧ H a = some (.lst xs) ∧ RVs Γ H μ Z ws xs := by
  cases w with
  | lst us =>
    cases e
    obtain ⟨a, xs, h1, h2, _, h4⟩ := r
    exact ⟨a, xs, h1, h2, h4⟩
  | ref n =>
    simp only [lstOf] at e
    split at e
    · rename_i us q
      cases e
      obtain ⟨a, h1, h2⟩ := r
      obtain ⟨b, h3, _, xs, h4, h5⟩ := hR.at n _ q
      rw [h2] at h3
      cases h3
      exact ⟨a, xs, h1, h4, h5⟩
    · cases e
  | _ => cases e
theorem seqOf_ok {w : Dv} {v : V} {ws : List Dv} (hR : Rep Γ H μ Z s) (r : RV Γ H μ Z w v) (e : seqOf s w = some ws) : ∃ a xs, v = .ref a ∧ (SqL Γ.K H a xs ∨ SqT Γ.K H a xs) ∧ RVs Γ H μ Z ws xs := by
  cases w with
  | tup us =>
    cases e
    obtain ⟨a, xs, h1, h2, h3⟩ := r
    exact ⟨a, xs, h1, .inr h2.sq, h3⟩
  | sq us =>
    cases e
    obtain ⟨a, xs, h1, h2, h3⟩ := r
    exact ⟨a, xs, h1, .inl h2.sq, h3⟩
  | lst us =>
    obtain ⟨a, xs, h1, h2, h3⟩ := lstOf_ok hR r (show lstOf s (.lst us) = some ws from e)
    exact ⟨a, xs, h1, .inl (SqL.of h2), h3⟩
  | ref n =>
    obtain ⟨a, xs, h1, h2, h3⟩ := lstOf_ok hR r (show lstOf s (.ref n) = some ws from e)
    exact ⟨a, xs, h1, .inl (SqL.of h2), h3⟩
  | _ => cases e
theorem flat_ok {w : Dv} {v u : V} (r : RV Γ H μ Z w v) (e : flat w = some u) : v = u := by
  cases w <;> first
    | (cases e; exact r)
    | cases e
mutual
theorem toD0_ok : ∀ (w : Dv) {v : V} {d : PyData}, RV Γ H μ Z w v → toD0 w = some d → Dp Γ.K H v d
  | .non, _, _, r, e => by cases e; rw [show _ = _ from r]; exact .non
  | .bl b, _, _, r, e => by cases e; rw [show _ = _ from r]; exact .bl b
  | .int b, _, _, r, e => by cases e; rw [show _ = _ from r]; exact .int b
  | .str b, _, _, r, e => by cases e; rw [show _ = _ from r]; exact .str b
  | .tup ws, _, d, r, e => by
    obtain ⟨a, xs, rfl, h2, h3⟩ := r
    simp only [toD0] at e
    cases q : toDs ws with
    | none => rw [q] at e; cases e
    | some ds => rw [q] at e; cases e; exact .tup h2.sq (toDs_ok ws h3 q)
  | .sq ws, _, d, r, e => by
    obtain ⟨a, xs, rfl, h2, h3⟩ := r
    simp only [toD0] at e
    cases q : toDs ws with
    | none => rw [q] at e; cases e
    | some ds => rw [q] at e; cases e; exact .lst h2.sq (toDs_ok ws h3 q)
  | .lst ws, _, d, r, e => by
    obtain ⟨a, xs, rfl, h2, _, h3⟩ := r
    simp only [toD0] at e
    cases q : toDs ws with
    | none => rw [q] at e; cases e
    | some ds => rw [q] at e; cases e; exact .lst (SqL.of h2) (toDs_ok ws h3 q)
  | .ty _, _, _, _, e => by cases e
  | .cl _, _, _, _, e => by cases e
  | .ref _, _, _, _, e => by cases e
  | .dct _ _, _, _, _, e => by cases e
  | .exc _ _ _, _, _, _, e => by cases e
  | .exn _, _, _, _, e => by cases e
  | .clo _ _ _ _ _, _, _, _, e => by cases e
theorem toDs_ok : ∀ (ws : List Dv) {vs : List V} {ds : List PyData}, RVs Γ H μ Z ws vs → toDs ws = some ds → DpAll Γ.K H vs ds
  | [], _, _, r, e => by cases e; rw [show _ = _ from r]; exact .nil
  | w :: ws, _, _, r, e => by
    obtain ⟨x, xs, rfl, h2, h3⟩ := r
    simp only [toDs] at e
    split at e
    · rename_i d ds q1 q2
      cases e
      exact .cons (toD0_ok w h2 q1) (toDs_ok ws h3 q2)
    · cases e
end
theorem toD_ok {w : Dv} {v : V} {d : PyData} (hR : Rep Γ H μ Z s) (r : RV Γ H μ Z w v) (e : toD s w = some d) : Dp Γ.K H v d := by
  cases w with
  | ref n =>
    simp only [toD] at e
    split at e
    · rename_i us q
      obtain ⟨a, h1, h2⟩ := r
      obtain ⟨b, h3, _, xs, h4, h5⟩ := hR.at n _ q
      rw [h2] at h3
      cases h3
      subst h1
      cases q2 : toDs us with
      | none => rw [q2] at e; cases e
      | some ds => rw [q2] at e; cases e; exact .lst (SqL.of h4) (toDs_ok us h5 q2)
    · cases e
  | _ => exact toD0_ok _ r e
end

/-! ### the operators -/
def cm (i j : Int) : Bool := decide ((-(2 ^ 64) < i ∧ i < 2 ^ 64) ∨ (-(2 ^ 64) < j ∧ j < 2 ^ 64))
theorem cm_ok {i j : Int} (h : cm i j = true) : CMul i j := (of_decide_eq_true h : (-(2 ^ 64) < i ∧ i < 2 ^ 64) ∨ (-(2 ^ 64) < j ∧ j < 2 ^ 64))
def addD : O2 := fun s x y => match x, y with
  | .int i, .int j => some (.int (i + j))
  | .str a, .str b => if a.length + b.length ≤ lim then some (.str (a ++ b)) else none
  | .tup a, .tup b => if a.length + b.length ≤ lim then some (.tup (a ++ b)) else none
  | x, y => match lstOf s x, lstOf s y with
    | some a, some b => if a.length + b.length ≤ lim then some (.lst (a ++ b)) else none
    | _, _ => none
def subD : O2 := fun _ x y => match x, y with
  | .int i, .int j => some (.int (i - j))
  | _, _ => none
def mulD : O2 := fun s x y => match x, y with
  | .int i, .int j => if cm i j = true then some (.int (i * j)) else none
  | .tup a, .int k => if -(2 ^ 63) ≤ k ∧ k < 2 ^ 63 ∧ a.length * k.toNat ≤ lim then some (.tup (List.replicate k.toNat a).flatten) else none
  | x, .int k => match lstOf s x with
    | some a => if -(2 ^ 63) ≤ k ∧ k < 2 ^ 63 ∧ a.length * k.toNat ≤ lim then some (.lst (List.replicate k.toNat a).flatten) else none
    | none => none
  | _, _ => none
def modD : O2 := fun _ x y => match x, y with
  | .int i, .int j => if 0 < j then some (.int (i % j)) else none
  | _, _ => none
def divD : O2 := fun _ x y => match x, y with
  | .int i, .int j => if 0 < j ∧ j < 1073741824 then some (.int (i / j)) else none
  | _, _ => none
def powD : O2 := fun _ x y => match x, y with
  | .int i, .int j => if 0 ≤ j ∧ j ≤ 1000000 ∧ i.natAbs < 2 ^ 64 then some (.int (i ^ j.toNat)) else none
  | _, _ => none
def negD : O1 := fun _ x => match x with
  | .int i => some (.int (-i))
  | _ => none
def cmpD (p : Int → Int → Bool) : O2 := fun _ x y => match x, y with
  | .int i, .int j => some (.bl (p i j))
  | _, _ => none
abbrev ltD : O2 := cmpD fun i j => decide (i < j)
abbrev leD : O2 := cmpD fun i j => decide (i ≤ j)
abbrev gtD : O2 := cmpD fun i j => decide (j < i)
abbrev geD : O2 := cmpD fun i j => decide (j ≤ i)
def eqB (s : Sto) (x y : Dv) : Option Bool := match flat x, flat y with
  | some a, some b => if scal a b = true then some (decide (a = b)) else none
  | _, _ => match toD s x, toD s y with
    | some d, some e => if SeqAt.shaped d = true ∧ SeqAt.shaped e = true then some (PyData.eqv d e) else none
    | _, _ => none
def eqD : O2 := fun s x y => (eqB s x y).map .bl
def neD : O2 := fun s x y => (eqB s x y).map fun b => .bl (!b)
def isN : Dv → Option Bool
  | .non => some true
  | .bl _ => some false | .int _ => some false | .str _ => some false | .tup _ => some false | .lst _ => some false | .sq _ => some false | .dct _ _ => some false | .exc _ _ _ => some false | .exn _ => some false | .ref _ => some false | .ty _ => some false | .cl _ => some false | .clo _ _ _ _ _ => some false
def isBl (c : Bool) : Dv → Bool
  | .bl b => b == c
  | _ => false
def isD : O2 := fun _ x y => match y with
  | .non => (isN x).map .bl
  | .bl c => some (.bl (isBl c x))
  | _ => none
def isntD : O2 := fun _ x y => match y with
  | .non => (isN x).map fun b => .bl (!b)
  | .bl c => some (.bl (!isBl c x))
  | _ => none

section
variable {Γ : Ct} {X : Cx}
abbrev rAdd (K : PySem.W.Frag) : R2 := fun x y H Q => ((rI0 fun i j => .int (i + j)) x y H Q ∨ (∃ i j, x = .str i ∧ y = .str j ∧ i.length + j.length ≤ sizeLine ∧ Q (.str (i ++ j)) H)) ∨ (rCatA K x y H Q ∨ rCat x y H Q)
theorem opAdd : OpR X (binaryOp .Add) (rAdd X.K) := OpR.or2 (OpR.or2 op_add op_add_str) (OpR.or2 op_catA op_cat)
theorem sAdd : Op2 Γ (rAdd Γ.K) addD := fun H μ Z s x y w u v Q hR r1 r2 e k => by
  unfold addD at e
  split at e
  · cases e
    exact .inl (.inl ⟨_, _, r1, r2, k _ H .refl hR rfl⟩)
  · rename_i a b
    split at e
    · rename_i hl
      cases e
      exact .inl (.inr ⟨_, _, r1, r2, lim_ok hl, k _ H .refl hR rfl⟩)
    · cases e
  · rename_i a b
    split at e
    · rename_i hl
      cases e
      obtain ⟨p, xs, h1, h2, h3⟩ := id r1
      obtain ⟨p', ys, g1, g2, g3⟩ := id r2
      refine .inr (.inl ⟨p, p', xs, ys, h1, g1, h2.sq, g2.sq, by rw [h3.len, g3.len]; exact lim_ok hl, fun z => ?_, fun z z' => ?_, fun z z' q hq => ?_⟩)
      · have hn : a = [] := by
          have := h3.len
          rw [z] at this
          exact List.eq_nil_of_length_eq_zero this.symm
        rw [hn, List.nil_append] at k
        exact k _ H .refl hR (g1 ▸ r2)
      · have hn : b = [] := by
          have := g3.len
          rw [z'] at this
          exact List.eq_nil_of_length_eq_zero this.symm
        rw [hn, List.append_nil] at k
        exact k _ H .refl hR (h1 ▸ r1)
      · exact k _ _ (Evo.laid hq) (hR.laid hq) (new_tup hR hq (h3.append g3))
    · cases e
  · split at e
    · rename_i a b q1 q2
      split at e
      · rename_i hl
        cases e
        obtain ⟨p, xs, h1, h2, h3⟩ := lstOf_ok hR r1 q1
        obtain ⟨p', ys, g1, g2, g3⟩ := lstOf_ok hR r2 q2
        exact .inr (.inr ⟨p, p', xs, ys, h1, g1, h2, g2, by rw [h3.len, g3.len]; exact lim_ok hl, fun q hq => k _ _ (Evo.laid hq) (hR.laid hq) (new_lst hR hq (h3.append g3))⟩)
      · cases e
    · cases e
theorem sSub : Op2 Γ (rI0 fun i j => .int (i - j)) subD := fun H μ Z s x y w u v Q hR r1 r2 e k => by
  unfold subD at e
  split at e
  · cases e
    exact ⟨_, _, r1, r2, k _ H .refl hR rfl⟩
  · cases e
abbrev rMul (K : PySem.W.Frag) : R2 := fun x y H Q => (rI CMul fun i j => .int (i * j)) x y H Q ∨ (rRepA K x y H Q ∨ rRep x y H Q)
theorem opMul : OpR X (binaryOp .Mult) (rMul X.K) := OpR.or2 op_mul (OpR.or2 op_repA op_rep)
theorem flat_one {α : Type} (l : List α) : (List.replicate 1 l).flatten = l := by simp
theorem flat_nil {α : Type} (n : Nat) : (List.replicate n ([] : List α)).flatten = [] := by
  induction n with
  | zero => rfl
  | succ n ih => rw [List.replicate_succ, List.flatten_cons, ih]; rfl
theorem sMul : Op2 Γ (rMul Γ.K) mulD := fun H μ Z s x y w u v Q hR r1 r2 e k => by
  unfold mulD at e
  split at e
  · split at e
    · rename_i hc
      cases e
      exact .inl ⟨_, _, r1, r2, cm_ok hc, k _ H .refl hR rfl⟩
    · cases e
  · rename_i a n
    split at e
    · rename_i hl
      cases e
      obtain ⟨p, xs, h1, h2, h3⟩ := id r1
      refine .inr (.inl ⟨p, n, xs, h1, r2, h2.sq, hl.1, hl.2.1, by rw [h3.len]; exact hl.2.2, fun z => ?_, fun z q hq => ?_⟩)
      · have hn : (List.replicate n.toNat a).flatten = a := by
          rcases z with z | z
          · have h0 : a = [] := by
              have := h3.len
              rw [z] at this
              exact List.eq_nil_of_length_eq_zero this.symm
            rw [h0, flat_nil]
          · rw [z]
            exact flat_one a
        rw [hn] at k
        exact k _ H .refl hR (h1 ▸ r1)
      · exact k _ _ (Evo.laid hq) (hR.laid hq) (new_tup hR hq (h3.rep _))
    · cases e
  · rename_i n _ _
    split at e
    · rename_i a q1
      split at e
      · rename_i hl
        cases e
        obtain ⟨p, xs, h1, h2, h3⟩ := lstOf_ok hR r1 q1
        exact .inr (.inr ⟨p, n, xs, h1, r2, h2, hl.1, hl.2.1, by rw [h3.len]; exact lim_ok hl.2.2, fun q hq => k _ _ (Evo.laid hq) (hR.laid hq) (new_lst hR hq (h3.rep _))⟩)
      · cases e
    · cases e
  · cases e
theorem sMod : Op2 Γ (rI (fun _ j => 0 < j) fun i j => .int (i % j)) modD := fun H μ Z s x y w u v Q hR r1 r2 e k => by
  unfold modD at e
  split at e
  · split at e
    · rename_i hc
      cases e
      exact ⟨_, _, r1, r2, hc, k _ H .refl hR rfl⟩
    · cases e
  · cases e
theorem sDiv : Op2 Γ (rI CDiv fun i j => .int (i / j)) divD := fun H μ Z s x y w u v Q hR r1 r2 e k => by
  unfold divD at e
  split at e
  · split at e
    · rename_i hc
      cases e
      exact ⟨_, _, r1, r2, hc, k _ H .refl hR rfl⟩
    · cases e
  · cases e
theorem sPow : Op2 Γ (rI CPow fun i j => .int (i ^ j.toNat)) powD := fun H μ Z s x y w u v Q hR r1 r2 e k => by
  unfold powD at e
  split at e
  · split at e
    · rename_i hc
      cases e
      exact ⟨_, _, r1, r2, hc, k _ H .refl hR rfl⟩
    · cases e
  · cases e
theorem sNeg : Op1 Γ (rU fun i => .int (-i)) negD := fun H μ Z s x w u Q hR r1 e k => by
  unfold negD at e
  split at e
  · cases e
    exact ⟨_, r1, k _ H .refl hR rfl⟩
  · cases e
theorem sCmp {p : Int → Int → Bool} : Op2 Γ (rI0 fun i j => .bl (p i j)) (cmpD p) := fun H μ Z s x y w u v Q hR r1 r2 e k => by
  unfold cmpD at e
  split at e
  · cases e
    exact ⟨_, _, r1, r2, k _ H .refl hR rfl⟩
  · cases e
abbrev rEqM (K : PySem.W.Frag) : R2 := fun x y H Q => rEq x y H Q ∨ rEqD K x y H Q
abbrev rNeM (K : PySem.W.Frag) : R2 := fun x y H Q => rNe x y H Q ∨ rNeD K x y H Q
theorem opEq (hu : X.A.units + 64 < cLine) : OpR X (compareOp .Eq) (rEqM X.K) := OpR.or2 op_eq (op_eqD hu)
theorem opNe (hu : X.A.units + 64 < cLine) : OpR X (compareOp .NotEq) (rNeM X.K) := OpR.or2 op_ne (op_neD hu)
theorem sEq : Op2 Γ (rEqM Γ.K) eqD := fun H μ Z s x y w u v Q hR r1 r2 e k => by
  unfold eqD eqB at e
  split at e
  · rename_i a b q1 q2
    split at e
    · rename_i hs
      cases e
      rw [flat_ok r1 q1, flat_ok r2 q2]
      exact .inl ⟨hs, k _ H .refl hR rfl⟩
    · cases e
  · split at e
    · rename_i d d' q1 q2
      split at e
      · rename_i hs
        cases e
        exact .inr ⟨d, d', toD_ok hR r1 q1, toD_ok hR r2 q2, hs.1, hs.2, k _ H .refl hR rfl⟩
      · cases e
    · cases e
theorem sNe : Op2 Γ (rNeM Γ.K) neD := fun H μ Z s x y w u v Q hR r1 r2 e k => by
  unfold neD eqB at e
  split at e
  · rename_i a b q1 q2
    split at e
    · rename_i hs
      cases e
      rw [flat_ok r1 q1, flat_ok r2 q2]
      exact .inl ⟨hs, k _ H .refl hR rfl⟩
    · cases e
  · split at e
    · rename_i d d' q1 q2
      split at e
      · rename_i hs
        cases e
        exact .inr ⟨d, d', toD_ok hR r1 q1, toD_ok hR r2 q2, hs.1, hs.2, k _ H .refl hR rfl⟩
      · cases e
    · cases e
theorem isN_ok {H : Hp} {μ : Mu} {Z : Zs} {w : Dv} {v : V} {b : Bool} (r : RV Γ H μ Z w v) (e : isN w = some b) : decide (v = V.non) = b := by
  cases w with
  | non => cases e; rw [show v = _ from r]; rfl
  | bl _ => cases e; rw [show v = _ from r]; rfl
  | int _ => cases e; rw [show v = _ from r]; rfl
  | str _ => cases e; rw [show v = _ from r]; rfl
  | ty _ => cases e; rw [show v = _ from r]; rfl
  | cl _ => cases e; rw [show v = _ from r]; rfl
  | ref n => cases e; obtain ⟨_, h, _⟩ := r; rw [h]; rfl
  | tup _ => cases e; obtain ⟨_, _, h, _⟩ := r; rw [h]; rfl
  | lst _ => cases e; obtain ⟨_, _, h, _⟩ := r; rw [h]; rfl
  | sq _ => cases e; obtain ⟨_, _, h, _⟩ := r; rw [h]; rfl
  | dct _ _ => cases e; obtain ⟨_, _, h, _⟩ := r; rw [h]; rfl
  | exc _ _ _ => cases e; obtain ⟨_, _, _, h, _⟩ := r; rw [h]; rfl
  | exn _ => cases e; obtain ⟨_, h, _⟩ := r; rw [h]; rfl
  | clo _ _ _ _ _ => cases e; rw [show v = _ from r.1]; rfl
theorem isBl_ok {H : Hp} {μ : Mu} {Z : Zs} {w : Dv} {v : V} {c : Bool} (r : RV Γ H μ Z w v) : decide (v = V.bl c) = isBl c w := by
  cases w with
  | non => rw [show v = _ from r]; rfl
  | bl b => rw [show v = _ from r]; cases b <;> cases c <;> rfl
  | int _ => rw [show v = _ from r]; rfl
  | str _ => rw [show v = _ from r]; rfl
  | ty _ => rw [show v = _ from r]; rfl
  | cl _ => rw [show v = _ from r]; rfl
  | ref n => obtain ⟨_, h, _⟩ := r; rw [h]; rfl
  | tup _ => obtain ⟨_, _, h, _⟩ := r; rw [h]; rfl
  | lst _ => obtain ⟨_, _, h, _⟩ := r; rw [h]; rfl
  | sq _ => obtain ⟨_, _, h, _⟩ := r; rw [h]; rfl
  | dct _ _ => obtain ⟨_, _, h, _⟩ := r; rw [h]; rfl
  | exc _ _ _ => obtain ⟨_, _, _, h, _⟩ := r; rw [h]; rfl
  | exn _ => obtain ⟨_, h, _⟩ := r; rw [h]; rfl
  | clo _ _ _ _ _ => rw [show v = _ from r.1]; rfl
/-- x is c, c one of None, True, False -/
def rIsC (n : Bool) : R2 := fun x y H Q => (y = .non ∨ ∃ b, y = .bl b) ∧ Q (.bl (decide (x = y) != n)) H
theorem rel_bl {x : V} {v : Value} (r : RelV x v) (b : Bool) : plainIs v (.bool b) = true ∧ (v == Value.bool b) = decide (x = V.bl b) := by
  cases x with
  | bl c => cases r; cases b <;> cases c <;> exact ⟨rfl, rfl⟩
  | ref a => cases r; exact ⟨rfl, rfl⟩
  | non => cases r; exact ⟨rfl, rfl⟩
  | int i => obtain ⟨t, rfl⟩ := r; exact ⟨rfl, rfl⟩
  | str x => obtain ⟨t, rfl⟩ := r; exact ⟨rfl, rfl⟩
  | byt x => obtain ⟨t, rfl⟩ := r; exact ⟨rfl, rfl⟩
  | flt x => obtain ⟨t, rfl⟩ := r; exact ⟨rfl, rfl⟩
  | ty n => cases r; exact ⟨rfl, rfl⟩
theorem op_isC : OpR X (compareOp .Is) (rIsC false) := by
  intro pins s σ H x y v u Q I rx ry h
  obtain ⟨hy | ⟨b, hy⟩, q⟩ := h
  · subst hy
    exact op_isN pins s σ H x .non v u Q I rx ry ⟨rfl, by simpa using q⟩
  · subst hy
    cases ry
    obtain ⟨h1, h2⟩ := rel_bl rx b
    exact wpAny_is_plain h1 (fin_bl I q (by rw [h2]; simp))
theorem op_notC : OpR X (compareOp .IsNot) (rIsC true) := by
  intro pins s σ H x y v u Q I rx ry h
  obtain ⟨hy | ⟨b, hy⟩, q⟩ := h
  · subst hy
    exact op_notN pins s σ H x .non v u Q I rx ry ⟨rfl, by simpa using q⟩
  · subst hy
    cases ry
    obtain ⟨h1, h2⟩ := rel_bl rx b
    exact wpAny_isNot_plain h1 (fin_bl I q (by rw [h2]; simp))
theorem sIsC : Op2 Γ (rIsC false) isD := fun H μ Z s x y w u v Q hR r1 r2 e k => by
  unfold isD at e
  split at e
  · cases q : isN x with
    | none => rw [q] at e; cases e
    | some b =>
      rw [q] at e
      cases e
      refine ⟨.inl r2, k _ H .refl hR ?_⟩
      rw [show v = _ from r2, isN_ok r1 q]
      simp [RV]
  · rename_i c
    cases e
    refine ⟨.inr ⟨c, r2⟩, k _ H .refl hR ?_⟩
    rw [show v = _ from r2, isBl_ok r1]
    simp [RV]
  · cases e
theorem sIsntC : Op2 Γ (rIsC true) isntD := fun H μ Z s x y w u v Q hR r1 r2 e k => by
  unfold isntD at e
  split at e
  · cases q : isN x with
    | none => rw [q] at e; cases e
    | some b =>
      rw [q] at e
      cases e
      refine ⟨.inl r2, k _ H .refl hR ?_⟩
      rw [show v = _ from r2, isN_ok r1 q]
      simp [RV]
  · rename_i c
    cases e
    refine ⟨.inr ⟨c, r2⟩, k _ H .refl hR ?_⟩
    rw [show v = _ from r2, isBl_ok r1]
    simp [RV]
  · cases e
end
end MP

set_option Elab.async false
set_option linter.all false
set_option maxRecDepth 100000
set_option maxHeartbeats 4000000
namespace MP
open PySem PySem.Spec PyProof.Rows L2

/-! ### statements -/
section
variable {X : Cx} {Γ : Ct} {W : WX} {st : Stmt} {rest : List Stmt} {e : Expr} {f : FE} {c c' : FS} {t : FT} {pos : Pos}
def mNext : FS := fun ρ s => .nx ρ s
def mSeq (c c' : FS) : FS := fun ρ s => match c ρ s with
  | .nx ρ' s' => c' ρ' s'
  | r => r
theorem mb_nil : MB X Γ W [] mNext := PSs.imp pss_nil fun D σ H ⟨μ, Z, ρ, s, hE, hR, q⟩ => q σ H μ .refl hR hE
theorem goS {H : Hp} {μ : Mu} {Z : Zs} {σ : L2.St} {ρ : Env} {s : Sto} {D : Ends} (hE : RE Γ H μ Z ρ σ) (hR : Rep Γ H μ Z s) (q : PostS Γ W H μ Z D (c ρ s)) : rdS Γ W c D σ H := ⟨μ, Z, ρ, s, hE, hR, q⟩
/-- a statement, then what goes on -/
theorem sS {H : Hp} {μ : Mu} {Z : Zs} {σ : L2.St} {ρ : Env} {s : Sto} {D : Ends} {nx : L2.St → Hp → Prop} (hE : RE Γ H μ Z ρ σ) (hR : Rep Γ H μ Z s) (h : PostS Γ W H μ Z D (mSeq c c' ρ s))
    (hk : ∀ ρ1 s1 σ1 H1 μ1, Evo H μ H1 μ1 → RE Γ H1 μ1 Z ρ1 σ1 → Rep Γ H1 μ1 Z s1 → PostS Γ W H1 μ1 Z D (c' ρ1 s1) → nx σ1 H1) : rdS Γ W c { D with nx := nx } σ H := by
  refine ⟨μ, Z, ρ, s, hE, hR, ?_⟩
  unfold mSeq at h
  cases q : c ρ s with
  | nx ρ1 s1 =>
    rw [q] at h
    exact fun σ1 H1 μ1 ev R1 E1 => hk ρ1 s1 σ1 H1 μ1 ev E1 R1 (PostS.evo ev h)
  | bk ρ1 s1 => rw [q] at h; exact h
  | ct ρ1 s1 => rw [q] at h; exact h
  | rt w s1 => rw [q] at h; exact h
  | er x ρ1 s1 => rw [q] at h; exact h
  | no => rw [q] at h; exact h
theorem mb_cons (h1 : MS X Γ W st c) (h2 : MB X Γ W rest c') : MB X Γ W (st :: rest) (mSeq c c') :=
  PSs.imp (pss_cons h1 h2) fun D σ H ⟨μ, Z, ρ, s, hE, hR, q⟩ => sS hE hR q fun ρ1 s1 σ1 H1 μ1 _ E1 R1 q1 => goS E1 R1 q1
theorem mb_one (h1 : MS X Γ W st c) : MB X Γ W [st] c := pss_one h1
theorem ms_pass : MS X Γ W (.Pass pos) mNext := PS.imp ps_pass fun D σ H ⟨μ, Z, ρ, s, hE, hR, q⟩ => q σ H μ .refl hR hE
def mBreak : FS := fun ρ s => .bk ρ s
def mCont : FS := fun ρ s => .ct ρ s
theorem ms_break : MS X Γ W (.Break pos) mBreak := PS.imp ps_break fun D σ H ⟨μ, Z, ρ, s, hE, hR, q⟩ => q σ H μ .refl hR hE
theorem ms_cont : MS X Γ W (.Continue pos) mCont := PS.imp ps_continue fun D σ H ⟨μ, Z, ρ, s, hE, hR, q⟩ => q σ H μ .refl hR hE
def mExpr (f : FE) : FS := fun ρ s => (f ρ s).thenC ρ fun _ s1 => .nx ρ s1
theorem ms_expr (he : ME X Γ W e f) (hs : swapsWith e none pos.line X.env = pure false := by rfl) : MS X Γ W (.Expr e pos) (mExpr f) :=
  PS.imp (ps_expr he hs) fun D σ H ⟨μ, Z, ρ, s, hE, hR, q⟩ => eS hE hR q fun x s1 v H1 μ1 _ E1 R1 _ q1 => q1 σ H1 μ1 .refl R1 E1
def mRet (f : FE) : FS := fun ρ s => (f ρ s).thenC ρ fun w s1 => .rt w s1
theorem ms_ret (he : ME X Γ W e f) : MS X Γ W (.Return (some e) pos) (mRet f) :=
  PS.imp (ps_ret he) fun D σ H ⟨μ, Z, ρ, s, hE, hR, q⟩ => eS hE hR q fun x s1 v H1 μ1 _ E1 R1 r1 q1 => q1 v H1 μ1 .refl R1 r1
def mRetN : FS := fun _ s => .rt .non s
theorem ms_retN : MS X Γ W (.Return none pos) mRetN := PS.imp ps_retN fun D σ H ⟨μ, Z, ρ, s, hE, hR, q⟩ => q .non H μ .refl hR rfl
def mIfS (t : FT) (c c' : FS) : FS := fun ρ s => (t ρ s).thenC ρ fun b s1 => if b = true then c ρ s1 else c' ρ s1
theorem ms_if {cond : Expr} {a b : List Stmt} (hc : MT X Γ W cond t) (ha : MB X Γ W a c) (hb : MB X Γ W b c') : MS X Γ W (.If cond a b pos) (mIfS t c c') :=
  PS.imp (ps_if hc ha hb) fun D σ H ⟨μ, Z, ρ, s, hE, hR, q⟩ => tS hE hR q fun b s1 H1 μ1 _ E1 R1 q1 => by
    cases b with
    | true => rw [if_pos rfl] at q1 ⊢; exact goS E1 R1 q1
    | false => rw [if_neg Bool.false_ne_true] at q1 ⊢; exact goS E1 R1 q1

/-! ### targets -/
abbrev FG := Dv → Env → Sto → Option Env
/-- a target: what it does to the names -/
def GOk (Γ : Ct) (g : TG) (fg : FG) : Prop := ∀ (H : Hp) (μ : Mu) (Z : Zs) (ρ ρ' : Env) (s : Sto) (σ : L2.St) (w : Dv) (v : V) (Q : L2.St → Hp → Prop), RE Γ H μ Z ρ σ → Rep Γ H μ Z s → RV Γ H μ Z w v → fg w ρ s = some ρ' →
  (∀ σ', RE Γ H μ Z ρ' σ' → Q σ' H) → g v σ H Q
def GsOk (Γ : Ct) (g : TGs) (fg : List Dv → Env → Sto → Option Env) : Prop := ∀ (H : Hp) (μ : Mu) (Z : Zs) (ρ ρ' : Env) (s : Sto) (σ : L2.St) (ws : List Dv) (vs : List V) (Q : L2.St → Hp → Prop), RE Γ H μ Z ρ σ → Rep Γ H μ Z s → RVs Γ H μ Z ws vs → fg ws ρ s = some ρ' →
  (∀ σ', RE Γ H μ Z ρ' σ' → Q σ' H) → g vs σ H Q
def MG (X : Cx) (Γ : Ct) (tg : Expr) (g : TG) (fg : FG) : Prop := PG X tg g ∧ GOk Γ g fg
def MGs (X : Cx) (Γ : Ct) (tg : List Expr) (g : TGs) (fg : List Dv → Env → Sto → Option Env) : Prop := PGs X tg g ∧ GsOk Γ g fg
def gN (i : Nat) : FG := fun w ρ _ => some (ρ.set i (some w))
theorem mg_name {tg : Expr} {i : Nat} (h : PG X tg (gName i)) : MG X Γ tg (gName i) (gN i) := ⟨h, fun H μ Z ρ ρ' s σ w v Q hE hR r e k => by
  cases e
  exact k _ (hE.set i r)⟩
def gs0 : List Dv → Env → Sto → Option Env := fun ws ρ _ => match ws with
  | [] => some ρ
  | _ => none
def gsC (g : FG) (gs : List Dv → Env → Sto → Option Env) : List Dv → Env → Sto → Option Env := fun ws ρ s => match ws with
  | w :: r => (g w ρ s).bind fun ρ1 => gs r ρ1 s
  | [] => none
theorem mgs_nil : MGs X Γ [] gNil gs0 := ⟨pgs_nil, fun H μ Z ρ ρ' s σ ws vs Q hE hR r e k => by
  cases ws with
  | nil => cases e; exact ⟨r, k σ hE⟩
  | cons _ _ => cases e⟩
theorem mgs_cons {tg : Expr} {tgs : List Expr} {g : TG} {gs : TGs} {fg : FG} {fgs : List Dv → Env → Sto → Option Env} (h1 : MG X Γ tg g fg) (h2 : MGs X Γ tgs gs fgs) (h : PGs X (tg :: tgs) (gCons g gs)) : MGs X Γ (tg :: tgs) (gCons g gs) (gsC fg fgs) := ⟨h, fun H μ Z ρ ρ' s σ ws vs Q hE hR r e k => by
  cases ws with
  | nil => cases e
  | cons w ws =>
    obtain ⟨x, xs, rfl, r1, r2⟩ := r
    simp only [gsC] at e
    cases q : fg w ρ s with
    | none => rw [q] at e; cases e
    | some ρ1 =>
      rw [q] at e
      exact ⟨x, xs, rfl, h1.2 H μ Z ρ ρ1 s σ w x _ hE hR r1 q fun σ1 E1 => h2.2 H μ Z ρ1 ρ' s σ1 ws xs Q E1 hR r2 e k⟩⟩
def gT (n : Nat) (gs : List Dv → Env → Sto → Option Env) : FG := fun w ρ s => match tupOf w with
  | some ws => if ws.length = n then gs ws ρ s else none
  | none => none
theorem mg_tup {tg : Expr} {K : PySem.W.Frag} {n : Nat} {gs : TGs} {fgs : List Dv → Env → Sto → Option Env} (hK : K = Γ.K) (h : PG X tg (gTup K n gs)) (h2 : GsOk Γ gs fgs) : MG X Γ tg (gTup K n gs) (gT n fgs) := ⟨h, fun H μ Z ρ ρ' s σ w v Q hE hR r e k => by
  subst hK
  unfold gT at e
  split at e
  · rename_i ws q
    split at e
    · rename_i hl
      cases w with
      | tup us =>
        cases q
        obtain ⟨a, xs, h1, h3, h4⟩ := r
        exact ⟨a, xs, h1, h3.sq, by rw [h4.len]; exact hl, h2 H μ Z ρ ρ' s σ _ xs Q hE hR h4 e k⟩
      | _ => cases q
    · cases e
  · cases e⟩
/-- g = e -/
def mAsg (f : FE) (g : FG) : FS := fun ρ s => (f ρ s).thenC ρ fun w s1 => match g w ρ s1 with
  | some ρ' => .nx ρ' s1
  | none => .no
theorem asg_ok {g : TG} {fg : FG} {D : Ends} {σ : L2.St} {H : Hp} (hg : GOk Γ g fg) (h : rdS Γ W (mAsg f fg) D σ H) : tAsg (rdE Γ W f) g D σ H := by
  obtain ⟨μ, Z, ρ, s, hE, hR, q⟩ := h
  exact eS hE hR q fun w s1 v H1 μ1 _ E1 R1 r1 q1 => by
    split at q1
    · rename_i ρ' e
      exact hg H1 μ1 Z ρ ρ' s1 σ w v _ E1 R1 r1 e fun σ' E' => q1 σ' H1 μ1 .refl R1 E'
    · exact q1.elim
theorem ms_asg {g : TG} {fg : FG} (h : PS X st (tAsg (rdE Γ W f) g)) (hg : GOk Γ g fg) : MS X Γ W st (mAsg f fg) := PS.imp h fun D σ H => asg_ok hg

/-! ### what is walked -/
/-- the walk J yields these items -/
def Walks (Γ : Ct) (Z : Zs) (H : Hp) (μ : Mu) (ow : Option (Nat × List Dv)) (J : It) (ws : List Dv) : Prop := ∀ (H' : Hp) (μ' : Mu) (Z' : Zs) (s' : Sto), EvoZ Z H μ H' μ' → Rep Γ H' μ' Z' s' → (∀ a, Z a → Z' a) → (∀ a, Z' a → Z a ∨ H a = none) → (∀ n us, ow = some (n, us) → s'[n]? = some (.lst us)) →
  J.stop ws.length H' ∧ ∀ i w, ws[i]? = some w → J.go i H' ∧ ∀ x H'', J.yld i H' x H'' → Evo H' μ' H'' μ' ∧ Rep Γ H'' μ' Z' s' ∧ RV Γ H'' μ' Z' w x
structure Src where
  ws : List Dv
  ow : Option (Nat × List Dv) := none
abbrev FI := Env → Sto → R Src
def PostI (Γ : Ct) (W : WX) (H : Hp) (μ : Mu) (Z : Zs) (σ : L2.St) (Q : It → Hp → Prop) : R Src → Prop
  | .ok r s' => ∀ J H' μ', Evo H μ H' μ' → Rep Γ H' μ' Z s' → Walks Γ Z H' μ' r.ow J r.ws → Q J H'
  | .er x s' => ∀ cls d H' μ', Evo H μ H' μ' → Rep Γ H' μ' Z s' → RX Γ H' μ' Z x cls d → W cls d σ H'
  | .no => False
def rdI (Γ : Ct) (W : WX) (f : FI) : TI := fun σ H Q => ∃ μ Z ρ s, RE Γ H μ Z ρ σ ∧ Rep Γ H μ Z s ∧ PostI Γ W H μ Z σ Q (f ρ s)
def MI (X : Cx) (Γ : Ct) (W : WX) (tg iter : Expr) (f : FI) : Prop := PI X tg iter (rdI Γ W f)
theorem PI.imp {tg iter : Expr} {t t' : TI} (h : PI X tg iter t) (k : ∀ σ H Q, t' σ H Q → t σ H Q) : PI X tg iter t' := ⟨fun pins s σ H Q I q => h.run pins s σ H Q I (k σ H Q q)⟩
theorem PI.or {tg iter : Expr} {t t' : TI} (h : PI X tg iter t) (h' : PI X tg iter t') : PI X tg iter (fun σ H Q => t σ H Q ∨ t' σ H Q) := ⟨fun pins s σ H Q I q => q.elim (h.run pins s σ H Q I) (h'.run pins s σ H Q I)⟩
def srcOf (s : Sto) : Dv → Option Src
  | .tup ws => some { ws := ws }
  | .lst ws => some { ws := ws }
  | .sq ws => some { ws := ws }
  | .ref n => match s[n]? with
    | some (.lst ws) => some { ws := ws, ow := some (n, ws) }
    | _ => none
  | _ => none
def iSeq (f : FE) : FI := fun ρ s => (f ρ s).bind fun w s1 => R.of (srcOf s1 w) s1
mutual
theorem RV.strong {H : Hp} {μ : Mu} {Z Z' : Zs} (h : ∀ a, Z' a → Z a ∨ H a = none) : ∀ (w : Dv) {v : V}, RV Γ H μ Z w v → RV Γ H μ Z' w v
  | .non, _, q => q
  | .bl _, _, q => q
  | .int _, _, q => q
  | .str _, _, q => q
  | .ty _, _, q => q
  | .cl _, _, q => q
  | .ref n, _, q => q
  | .tup ws, _, q => by
    obtain ⟨a, xs, h1, h2, h3⟩ := q
    refine ⟨a, xs, h1, ?_, RVs.strong h ws h3⟩
    rcases h2 with ⟨h2, f⟩ | h2
    · exact .inl ⟨h2, f.1, fun z => (h a z).elim f.2 (Rd.alive h2)⟩
    · exact .inr h2
  | .sq ws, _, q => by
    obtain ⟨a, xs, h1, h2, h3⟩ := q
    refine ⟨a, xs, h1, ?_, RVs.strong h ws h3⟩
    rcases h2 with ⟨h2, f⟩ | h2
    · exact .inl ⟨h2, f.1, fun z => (h a z).elim f.2 (Rd.alive h2)⟩
    · exact .inr h2
  | .lst ws, _, q => by
    obtain ⟨a, xs, h1, h2, h3, h4⟩ := q
    exact ⟨a, xs, h1, h2, ⟨h3.1, fun z => (h a z).elim h3.2 (by rw [h2]; intro y; cases y)⟩, RVs.strong h ws h4⟩
  | .dct ks ws, _, q => by
    obtain ⟨a, kvs, h1, h2, h3, h4, h5⟩ := q
    exact ⟨a, kvs, h1, h2, ⟨h3.1, fun z => (h a z).elim h3.2 (by rw [h2]; intro y; cases y)⟩, h4, RVs.strong h ws h5⟩
  | .exc c f w, _, q => by
    obtain ⟨a, dx, x, h1, h2, h3, h4, h5, h6⟩ := q
    exact ⟨a, dx, x, h1, h2, ⟨h3.1, fun z => (h a z).elim h3.2 (by rw [h2]; intro y; cases y)⟩, h4, ⟨h5.1, fun z => (h dx z).elim h5.2 (by rw [h4]; intro y; cases y)⟩, RV.strong h w h6⟩
  | .exn c, _, q => by
    obtain ⟨a, h1, h2, h3⟩ := q
    exact ⟨a, h1, h2, ⟨h3.1, fun z => (h a z).elim h3.2 (by rw [h2]; intro y; cases y)⟩⟩
  | .clo a c _ ws vs, _, q => by
    obtain ⟨h1, h2, h3, h4⟩ := q
    exact ⟨h1, h2, ⟨h3.1, fun z => (h c z).elim h3.2 (by rw [h2]; intro y; cases y)⟩, RVs.strong h ws h4⟩
theorem RVs.strong {H : Hp} {μ : Mu} {Z Z' : Zs} (h : ∀ a, Z' a → Z a ∨ H a = none) : ∀ (ws : List Dv) {vs : List V}, RVs Γ H μ Z ws vs → RVs Γ H μ Z' ws vs
  | [], _, q => q
  | w :: ws, _, q => by
    obtain ⟨x, xs, h1, h2, h3⟩ := q
    exact ⟨x, xs, h1, RV.strong h w h2, RVs.strong h ws h3⟩
end
/-- a list, a tuple: walked -/
theorem walk_l {H : Hp} {μ : Mu} {Z : Zs} {a : Addr} {xs : List V} {ws : List Dv} (h : ∀ H' μ', EvoZ Z H μ H' μ' → SqL Γ.K H' a xs) (r : RVs Γ H μ Z ws xs) : Walks Γ Z H μ none (Itl Γ.K a) ws := fun H' μ' Z' s' ev hR hy hz _ => by
  have q := h H' μ' ev
  refine ⟨⟨xs, q, by rw [r.len]; exact Nat.le_refl _⟩, fun i w e => ?_⟩
  obtain ⟨x, e1, e2⟩ := r.get e
  refine ⟨⟨xs, x, q, e1⟩, fun y H'' hq => ?_⟩
  obtain ⟨rfl, hq⟩ := hq
  have e3 := hq xs q
  rw [e1] at e3
  cases e3
  exact ⟨.refl, hR, (RV.strong hz w e2).monoZ (ev.more hy)⟩
theorem walk_t {H : Hp} {μ : Mu} {Z : Zs} {a : Addr} {xs : List V} {ws : List Dv} (h : ∀ H' μ', EvoZ Z H μ H' μ' → SqT Γ.K H' a xs) (r : RVs Γ H μ Z ws xs) : Walks Γ Z H μ none (Itt Γ.K a) ws := fun H' μ' Z' s' ev hR hy hz _ => by
  have q := h H' μ' ev
  refine ⟨⟨xs, q, by rw [r.len]; exact Nat.le_refl _⟩, fun i w e => ?_⟩
  obtain ⟨x, e1, e2⟩ := r.get e
  refine ⟨⟨xs, x, q, e1⟩, fun y H'' hq => ?_⟩
  obtain ⟨rfl, hq⟩ := hq
  have e3 := hq xs q
  rw [e1] at e3
  cases e3
  exact ⟨.refl, hR, (RV.strong hz w e2).monoZ (ev.more hy)⟩
/-- a list of the store: walked while it stands -/
theorem walk_m {H : Hp} {μ : Mu} {Z : Zs} {a : Addr} {n : Nat} {xs : List V} {ws : List Dv} (hn : μ n = some a) (hH : H a = some (.lst xs)) (r : RVs Γ H μ Z ws xs) : Walks Γ Z H μ (some (n, ws)) (Itl Γ.K a) ws := fun H' μ' Z' s' ev hR hy hz ho => by
  obtain ⟨b, h1, _, ys, h3, h4⟩ := hR.at n _ (ho n ws rfl)
  rw [ev.mu n a hn] at h1
  cases h1
  have q : SqL Γ.K H' a ys := SqL.of h3
  refine ⟨⟨ys, q, by rw [h4.len]; exact Nat.le_refl _⟩, fun i w e => ?_⟩
  obtain ⟨x, e1, e2⟩ := h4.get e
  refine ⟨⟨ys, x, q, e1⟩, fun y H'' hq => ?_⟩
  obtain ⟨rfl, hq⟩ := hq
  have e3 := hq ys q
  rw [e1] at e3
  cases e3
  exact ⟨.refl, hR, e2⟩
theorem iI {H : Hp} {μ : Mu} {Z : Zs} {σ : L2.St} {ρ : Env} {s : Sto} {f : FE} {k : Dv → Sto → R Src} {Q : It → Hp → Prop} {Q' : VK} (hE : RE Γ H μ Z ρ σ) (hR : Rep Γ H μ Z s) (h : PostI Γ W H μ Z σ Q ((f ρ s).bind k))
    (hk : ∀ x s1 v H1 μ1, Evo H μ H1 μ1 → RE Γ H1 μ1 Z ρ σ → Rep Γ H1 μ1 Z s1 → RV Γ H1 μ1 Z x v → PostI Γ W H1 μ1 Z σ Q (k x s1) → Q' v H1) : rdE Γ W f σ H Q' := by
  refine ⟨μ, Z, ρ, s, hE, hR, ?_⟩
  cases e : f ρ s with
  | ok x s1 =>
    rw [e] at h
    refine fun v H1 μ1 ev R1 r1 => hk x s1 v H1 μ1 ev (hE.mono ev) R1 r1 ?_
    have h' : PostI Γ W H μ Z σ Q (k x s1) := h
    cases q : k x s1 with
    | ok r s' => rw [q] at h'; exact fun J H' μ' e' => h' J H' μ' (ev.trans e')
    | er y s' => rw [q] at h'; exact fun c d H' μ' e' => h' c d H' μ' (ev.trans e')
    | no => rw [q] at h'; exact h'.elim
  | er x s1 => rw [e] at h; exact h
  | no => rw [e] at h; exact h.elim
theorem iA {H : Hp} {μ : Mu} {Z : Zs} {σ : L2.St} {ρ : Env} {s : Sto} {f : FA} {k : List Dv → Sto → R Src} {Q : It → Hp → Prop} {Q' : List V → Hp → Prop} (hE : RE Γ H μ Z ρ σ) (hR : Rep Γ H μ Z s) (h : PostI Γ W H μ Z σ Q ((f ρ s).bind k))
    (hk : ∀ x s1 v H1 μ1, Evo H μ H1 μ1 → RE Γ H1 μ1 Z ρ σ → Rep Γ H1 μ1 Z s1 → RVs Γ H1 μ1 Z x v → PostI Γ W H1 μ1 Z σ Q (k x s1) → Q' v H1) : rdA Γ W f σ H Q' := by
  refine ⟨μ, Z, ρ, s, hE, hR, ?_⟩
  cases e : f ρ s with
  | ok x s1 =>
    rw [e] at h
    refine fun v H1 μ1 ev R1 r1 => hk x s1 v H1 μ1 ev (hE.mono ev) R1 r1 ?_
    have h' : PostI Γ W H μ Z σ Q (k x s1) := h
    cases q : k x s1 with
    | ok r s' => rw [q] at h'; exact fun J H' μ' e' => h' J H' μ' (ev.trans e')
    | er y s' => rw [q] at h'; exact fun c d H' μ' e' => h' c d H' μ' (ev.trans e')
    | no => rw [q] at h'; exact h'.elim
  | er x s1 => rw [e] at h; exact h
  | no => rw [e] at h; exact h.elim
theorem PostI.evo {H H1 : Hp} {μ μ1 : Mu} {Z : Zs} {σ : L2.St} {Q : It → Hp → Prop} {r : R Src} (e : Evo H μ H1 μ1) (h : PostI Γ W H μ Z σ Q r) : PostI Γ W H1 μ1 Z σ Q r := by
  cases r with
  | ok w s' => exact fun J H' μ' e' => h J H' μ' (e.trans e')
  | er x s' => exact fun c d H' μ' e' => h c d H' μ' (e.trans e')
  | no => exact h
theorem mi_seq {tg l : Expr} {f : FE} (hK : Γ.K = X.K) (hl : ME X Γ W l f) : MI X Γ W tg l (iSeq f) :=
  PI.imp (PI.or (pi_list hl) (pi_tup hl)) fun σ H Q ⟨μ, Z, ρ, s, hE, hR, q⟩ => by
    rw [← hK]
    unfold iSeq at q
    cases e : f ρ s with
    | no => rw [e] at q; exact q.elim
    | er x s1 => rw [e] at q; exact .inl ⟨μ, Z, ρ, s, hE, hR, by rw [e]; exact q⟩
    | ok x s1 =>
      rw [e] at q
      have q' : PostI Γ W H μ Z σ Q (R.of (srcOf s1 x) s1) := q
      cases x with
      | tup ws =>
        refine .inr ⟨μ, Z, ρ, s, hE, hR, ?_⟩
        rw [e]
        rintro v H1 μ1 e1 R1 ⟨a, xs, h1, h2, h3⟩
        exact ⟨a, h1, ⟨xs, h2.sq⟩, q' _ _ _ e1 R1 (walk_t (fun H' μ' ev => (h2.monoZ ev).sq) h3)⟩
      | sq ws =>
        refine .inl ⟨μ, Z, ρ, s, hE, hR, ?_⟩
        rw [e]
        rintro v H1 μ1 e1 R1 ⟨a, xs, h1, h2, h3⟩
        exact ⟨a, h1, ⟨xs, h2.sq⟩, q' _ _ _ e1 R1 (walk_l (fun H' μ' ev => (h2.monoZ ev).sq) h3)⟩
      | lst ws =>
        refine .inl ⟨μ, Z, ρ, s, hE, hR, ?_⟩
        rw [e]
        rintro v H1 μ1 e1 R1 ⟨a, xs, h1, h2, h3, h4⟩
        exact ⟨a, h1, ⟨xs, SqL.of h2⟩, q' _ _ _ e1 R1 (walk_l (fun H' μ' ev => SqL.of (ev.keep _ _ h2 h3.1 h3.2)) h4)⟩
      | ref n =>
        simp only [srcOf] at q'
        split at q'
        · rename_i us e2
          refine .inl ⟨μ, Z, ρ, s, hE, hR, ?_⟩
          rw [e]
          rintro v H1 μ1 e1 R1 ⟨a, h1, h2⟩
          obtain ⟨b, g1, _, xs, g3, g4⟩ := R1.at n _ e2
          rw [h2] at g1
          cases g1
          exact ⟨a, h1, ⟨xs, SqL.of g3⟩, q' _ _ _ e1 R1 (walk_m h2 g3 g4)⟩
        · exact q'.elim
      | _ => exact q'.elim
/-- range(n), range(a, b) -/
def rng (lo : Int) (n : Nat) : List Dv := (List.range n).map fun (i : Nat) => .int (lo + i)
theorem rng_get {lo : Int} {n i : Nat} {w : Dv} (h : (rng lo n)[i]? = some w) : i < n ∧ w = .int (lo + i) := by
  unfold rng at h
  rw [List.getElem?_map] at h
  cases e : (List.range n)[i]? with
  | none => rw [e] at h; cases h
  | some j =>
    rw [e] at h
    cases h
    obtain ⟨h1, h2⟩ := List.getElem?_eq_some_iff.mp e
    rw [List.length_range] at h1
    rw [List.getElem_range] at h2
    exact ⟨h1, by rw [h2]⟩
theorem rng_len (lo : Int) (n : Nat) : (rng lo n).length = n := by unfold rng; rw [List.length_map, List.length_range]
theorem walk_r {H : Hp} {μ : Mu} {Z : Zs} {lo : Int} {n : Nat} : Walks Γ Z H μ none (Itr lo n) (rng lo n) := fun H' μ' Z' s' ev hR hy hz _ => by
  refine ⟨by rw [rng_len]; exact Nat.le_refl n, fun i w e => ?_⟩
  obtain ⟨h1, rfl⟩ := rng_get e
  refine ⟨h1, fun x H'' hq => ?_⟩
  obtain ⟨rfl, rfl⟩ := hq
  exact ⟨.refl, hR, rfl⟩
def okR (i : Int) : Bool := decide (-(2 ^ 62) ≤ i ∧ i < 2 ^ 62)
def iRange1 (fa : FA) : FI := fun ρ s => (fa ρ s).bind fun ws s1 => match ws with
  | [.int j] => if okR j = true then .ok { ws := rng 0 j.toNat } s1 else .no
  | _ => .no
def iRange2 (fa : FA) : FI := fun ρ s => (fa ρ s).bind fun ws s1 => match ws with
  | [.int i, .int j] => if okR i = true ∧ okR j = true then .ok { ws := rng i (j - i).toNat } s1 else .no
  | _ => .no
theorem mi_range1 {tg a : Expr} {fa : FA} {p pos : Pos} (hg : Gl X "range") (hm : X.mg "range" = none) (ha : MA X Γ W [a] fa) (hs : starEach [a] X.env = [(false, eval a X.env)] := by rfl) : MI X Γ W tg (.Call (.Name "range" p) [a] [] pos) (iRange1 fa) :=
  PI.imp (pi_range1 hg hm ha hs) fun σ H Q ⟨μ, Z, ρ, s, hE, hR, q⟩ => iA hE hR q fun ws s1 vs H1 μ1 e1 E1 R1 r1 q1 => by
    split at q1
    · rename_i j
      split at q1
      · rename_i hj
        have hj' : -(2 ^ 62) ≤ j ∧ j < 2 ^ 62 := of_decide_eq_true hj
        obtain ⟨x, xs, rfl, g1, g2⟩ := r1
        rw [show x = .int j from g1, show xs = [] from g2]
        exact ⟨j, rfl, hj'.1, hj'.2, q1 _ _ _ .refl R1 walk_r⟩
      · exact q1.elim
    · exact q1.elim
theorem mi_range2 {tg a b : Expr} {fa : FA} {p pos : Pos} (hg : Gl X "range") (hm : X.mg "range" = none) (ha : MA X Γ W [a, b] fa) (hs : starEach [a, b] X.env = [(false, eval a X.env), (false, eval b X.env)] := by rfl) (hs2 : starEach [b] X.env = [(false, eval b X.env)] := by rfl) :
    MI X Γ W tg (.Call (.Name "range" p) [a, b] [] pos) (iRange2 fa) :=
  PI.imp (pi_range2 hg hm ha hs hs2) fun σ H Q ⟨μ, Z, ρ, s, hE, hR, q⟩ => iA hE hR q fun ws s1 vs H1 μ1 e1 E1 R1 r1 q1 => by
    split at q1
    · rename_i i j
      split at q1
      · rename_i hj
        have hi : -(2 ^ 62) ≤ i ∧ i < 2 ^ 62 := of_decide_eq_true hj.1
        have hj' : -(2 ^ 62) ≤ j ∧ j < 2 ^ 62 := of_decide_eq_true hj.2
        obtain ⟨x, xs, rfl, g1, y, ys, rfl, g2, g3⟩ := r1
        rw [show x = .int i from g1, show y = .int j from g2, show ys = [] from g3]
        exact ⟨i, j, rfl, ⟨hi.1, hi.2, hj'.1, hj'.2⟩, q1 _ _ _ .refl R1 walk_r⟩
      · exact q1.elim
    · exact q1.elim

/-! ### for -/
/-- whether the list that is walked stands as it did -/
def still (s : Sto) (r : Option (Nat × List Dv)) : Prop := ∀ n us, r = some (n, us) → s[n]? = some (.lst us)
open Classical in
noncomputable def stB (s : Sto) (r : Option (Nat × List Dv)) : Bool := decide (still s r)
noncomputable def forL (ow : Option (Nat × List Dv)) (g : FG) (body : FS) : List Dv → FS
  | [], ρ, s => if ow.isNone = true ∨ stB s ow = true then .nx ρ s else .no
  | w :: ws, ρ, s => if ow.isNone = true ∨ stB s ow = true then match g w ρ s with
    | none => .no
    | some ρ1 => match body ρ1 s with
      | .nx ρ2 s2 => forL ow g body ws ρ2 s2
      | .ct ρ2 s2 => forL ow g body ws ρ2 s2
      | .bk ρ2 s2 => .nx ρ2 s2
      | .rt v s2 => .rt v s2
      | .er x ρ2 s2 => .er x ρ2 s2
      | .no => .no
    else .no
noncomputable def mFor (f : FI) (g : FG) (body : FS) : FS := fun ρ s => (f ρ s).thenC ρ fun r s1 => forL r.ow g body r.ws ρ s1
open Classical in
theorem st_of {s : Sto} {ow : Option (Nat × List Dv)} (h : ow.isNone = true ∨ stB s ow = true) : still s ow := by
  rcases h with h | h
  · intro n us e
    rw [e] at h
    cases h
  · unfold stB at h
    exact of_decide_eq_true h
theorem iS {H : Hp} {μ : Mu} {Z : Zs} {σ : L2.St} {ρ : Env} {s : Sto} {f : FI} {k : Src → Sto → C} {D : Ends} {Q' : It → Hp → Prop} (hE : RE Γ H μ Z ρ σ) (hR : Rep Γ H μ Z s) (h : PostS Γ W H μ Z D ((f ρ s).thenC ρ k))
    (hk : ∀ r s1 J H1 μ1, Evo H μ H1 μ1 → RE Γ H1 μ1 Z ρ σ → Rep Γ H1 μ1 Z s1 → Walks Γ Z H1 μ1 r.ow J r.ws → PostS Γ W H1 μ1 Z D (k r s1) → Q' J H1) : rdI Γ W f σ H Q' := by
  refine ⟨μ, Z, ρ, s, hE, hR, ?_⟩
  cases e : f ρ s with
  | ok r s1 => rw [e] at h; exact fun J H1 μ1 ev R1 w => hk r s1 J H1 μ1 ev (hE.mono ev) R1 w (PostS.evo ev h)
  | er x s1 => rw [e] at h; exact fun c d H' μ' ev R' rx => h c d σ H' μ' ev R' (hE.mono ev) rx
  | no => rw [e] at h; exact h.elim
theorem for_ok {H : Hp} {μ : Mu} {Z : Zs} {σ : L2.St} {ρ : Env} {s : Sto} {D : Ends} {g : TG} {fg : FG} {body : FS} {ow : Option (Nat × List Dv)} {ws : List Dv} {J : It} (hg : GOk Γ g fg) (hE : RE Γ H μ Z ρ σ) (hR : Rep Γ H μ Z s) (hw : Walks Γ Z H μ ow J ws)
    (q : PostS Γ W H μ Z D (forL ow fg body ws ρ s)) :
    ∃ Wn : Nat → Nat → L2.St → Hp → Prop, (∃ m, Wn 0 m σ H) ∧ ∀ i m σ H, Wn i m σ H → (J.stop i H ∧ D.nx σ H) ∨ (J.go i H ∧ ∃ N : L2.St → Hp → Prop, (∀ σ' H', N σ' H' → ∃ m', m' < m ∧ Wn (i + 1) m' σ' H') ∧
      ∀ x H', J.yld i H x H' → g x σ H' fun σ2 H2 => rdS Γ W body { D with nx := N, ct := N, bk := D.nx } σ2 H2) := by
  let P : Nat → L2.St → Hp → Prop := fun i σ1 H1 => ∃ μ1 ρ1 s1, Evo H μ H1 μ1 ∧ RE Γ H1 μ1 Z ρ1 σ1 ∧ Rep Γ H1 μ1 Z s1 ∧ PostS Γ W H1 μ1 Z D (forL ow fg body (ws.drop i) ρ1 s1)
  refine ⟨fun i m σ1 H1 => m = ws.length - i ∧ i ≤ ws.length ∧ P i σ1 H1, ⟨ws.length, by omega, Nat.zero_le _, μ, ρ, s, .refl, hE, hR, q⟩, ?_⟩
  rintro i m σ1 H1 ⟨rfl, hi, μ1, ρ1, s1, ev, E1, R1, q1⟩
  by_cases hl : i < ws.length
  · have hd : ws.drop i = ws[i] :: ws.drop (i + 1) := List.drop_eq_getElem_cons hl
    rw [hd] at q1
    simp only [forL] at q1
    split at q1
    · rename_i hst
      obtain ⟨_, hgo⟩ := hw H1 μ1 Z s1 ev.z R1 (fun _ z => z) (fun a z => .inl z) (st_of hst)
      obtain ⟨h1, h2⟩ := hgo i ws[i] (List.getElem?_eq_getElem hl)
      refine .inr ⟨h1, P (i + 1), fun σ' H' p => ⟨_, by omega, rfl, hl, p⟩, fun x H' hy => ?_⟩
      obtain ⟨e2, R2, r2⟩ := h2 x H' hy
      cases eg : fg ws[i] ρ1 s1 with
      | none => rw [eg] at q1; exact q1.elim
      | some ρ2 =>
        rw [eg] at q1
        dsimp only at q1
        refine hg H' μ1 Z ρ1 ρ2 s1 σ1 ws[i] x _ (E1.mono e2) R2 r2 eg fun σ2 E2 => ⟨μ1, Z, ρ2, s1, E2, R2, ?_⟩
        cases eb : body ρ2 s1 with
        | nx ρ3 s3 => rw [eb] at q1; exact fun σ3 H3 μ3 e3 R3 E3 => ⟨μ3, ρ3, s3, (ev.trans e2).trans e3, E3, R3, PostS.evo (e2.trans e3) q1⟩
        | ct ρ3 s3 => rw [eb] at q1; exact fun σ3 H3 μ3 e3 R3 E3 => ⟨μ3, ρ3, s3, (ev.trans e2).trans e3, E3, R3, PostS.evo (e2.trans e3) q1⟩
        | bk ρ3 s3 => rw [eb] at q1; exact fun σ3 H3 μ3 e3 R3 E3 => q1 σ3 H3 μ3 (e2.trans e3) R3 E3
        | rt v s3 => rw [eb] at q1; exact fun v3 H3 μ3 e3 R3 r3 => q1 v3 H3 μ3 (e2.trans e3) R3 r3
        | er x3 ρ3 s3 => rw [eb] at q1; exact fun c d σ3 H3 μ3 e3 R3 E3 r3 => q1 c d σ3 H3 μ3 (e2.trans e3) R3 E3 r3
        | no => rw [eb] at q1; exact q1.elim
    · exact q1.elim
  · have he : i = ws.length := by omega
    subst he
    rw [List.drop_length] at q1
    simp only [forL] at q1
    split at q1
    · rename_i hst
      obtain ⟨hs, _⟩ := hw H1 μ1 Z s1 ev.z R1 (fun _ z => z) (fun a z => .inl z) (st_of hst)
      exact .inl ⟨hs, q1 σ1 H1 μ1 .refl R1 E1⟩
    · exact q1.elim
theorem ms_for {tg iter : Expr} {bd : List Stmt} {f : FI} {g : TG} {fg : FG} {body : FS} (hp : PassesOwn (model X.prog X.w) X.A X.env X.xe) (hc : X.calm = true) (hi : MI X Γ W tg iter f) (hg : MG X Γ tg g fg) (hb : MB X Γ W bd body)
    (hs : ∀ x, foldedSetIterable iter X.env x = pure x := by intro _; rfl) : MS X Γ W (.For tg iter bd [] pos) (mFor f fg body) :=
  PS.imp (ps_for hp hc hi hg.1 hb hs) fun D σ H ⟨μ, Z, ρ, s, hE, hR, q⟩ => iS hE hR q fun r s1 J H1 μ1 e1 E1 R1 w1 q1 => for_ok hg.2 E1 R1 w1 q1

/-! ### while, by a number of turns -/
def whL (t : FT) (body : FS) : Nat → FS
  | 0, _, _ => .no
  | n + 1, ρ, s => (t ρ s).thenC ρ fun b s1 => if b = true then match body ρ s1 with
      | .nx ρ2 s2 => whL t body n ρ2 s2
      | .ct ρ2 s2 => whL t body n ρ2 s2
      | .bk ρ2 s2 => .nx ρ2 s2
      | .rt v s2 => .rt v s2
      | .er x ρ2 s2 => .er x ρ2 s2
      | .no => .no
    else .nx ρ s1
theorem ms_while {cond : Expr} {bd : List Stmt} {body : FS} (n : Nat) (hp : PassesOwn (model X.prog X.w) X.A X.env X.xe) (hc : MT X Γ W cond t) (hb : MB X Γ W bd body) : MS X Γ W (.While cond bd [] pos) (whL t body n) :=
  PS.imp (ps_while hp hc hb) fun D σ H ⟨μ, Z, ρ, s, hE, hR, q⟩ => by
    refine ⟨fun m σ1 H1 => ∃ μ1 ρ1 s1, RE Γ H1 μ1 Z ρ1 σ1 ∧ Rep Γ H1 μ1 Z s1 ∧ PostS Γ W H1 μ1 Z D (whL t body m ρ1 s1), ⟨n, μ, ρ, s, hE, hR, q⟩, ?_⟩
    rintro m σ1 H1 ⟨μ1, ρ1, s1, E1, R1, q1⟩
    cases m with
    | zero => exact q1.elim
    | succ m =>
      refine tS E1 R1 q1 fun b s2 H2 μ2 e2 E2 R2 q2 => ?_
      cases b with
      | false =>
        rw [if_neg Bool.false_ne_true] at q2 ⊢
        exact q2 σ1 H2 μ2 .refl R2 E2
      | true =>
        rw [if_pos rfl] at q2 ⊢
        refine ⟨fun σ3 H3 => ∃ μ1 ρ1 s1, RE Γ H3 μ1 Z ρ1 σ3 ∧ Rep Γ H3 μ1 Z s1 ∧ PostS Γ W H3 μ1 Z D (whL t body m ρ1 s1), fun σ' H' p => ⟨m, Nat.lt_succ_self m, p⟩, μ2, Z, ρ1, s2, E2, R2, ?_⟩
        cases eb : body ρ1 s2 with
        | nx ρ3 s3 => rw [eb] at q2; exact fun σ3 H3 μ3 e3 R3 E3 => ⟨μ3, ρ3, s3, E3, R3, PostS.evo e3 q2⟩
        | ct ρ3 s3 => rw [eb] at q2; exact fun σ3 H3 μ3 e3 R3 E3 => ⟨μ3, ρ3, s3, E3, R3, PostS.evo e3 q2⟩
        | bk ρ3 s3 => rw [eb] at q2; exact fun σ3 H3 μ3 e3 R3 E3 => q2 σ3 H3 μ3 e3 R3 E3
        | rt v s3 => rw [eb] at q2; exact fun v3 H3 μ3 e3 R3 r3 => q2 v3 H3 μ3 e3 R3 r3
        | er x3 ρ3 s3 => rw [eb] at q2; exact fun c d σ3 H3 μ3 e3 R3 E3 r3 => q2 c d σ3 H3 μ3 e3 R3 E3 r3
        | no => rw [eb] at q2; exact q2.elim
end
end MP

set_option Elab.async false
set_option linter.all false
set_option maxRecDepth 100000
set_option maxHeartbeats 4000000
namespace MP
open PySem PySem.Spec PyProof.Rows L2

/-- nothing is raised here -/
abbrev W0 : WX := fun _ _ _ _ => False
section
variable {X : Cx} {Γ : Ct} {W : WX} {H H1 H' : Hp} {μ μ1 μ' : Mu} {Z Z' : Zs} {ρ : Env} {σ : L2.St} {s : Sto} {p : Addr} {o : HO}
abbrev hid (p : Addr) (Z : Zs) : Zs := fun b => b = p ∨ Z b
theorem RO.strong {a : Addr} {ob : Ob} (h : ∀ a, Z' a → Z a ∨ H a = none) (r : RO Γ H μ Z a ob) : RO Γ H μ Z' a ob := by
  cases ob with
  | lst ws =>
    obtain ⟨xs, h4, h5⟩ := r
    exact ⟨xs, h4, RVs.strong h ws h5⟩
  | dct kws =>
    obtain ⟨kvs, h4, h5, h6⟩ := r
    exact ⟨kvs, h4, h5, RVs.strong h _ h6⟩
  | tab m q => exact ⟨r.1, tab_imp rfl (fun c e1 e2 => ⟨e1, e2.1, fun z => (h c z).elim e2.2 (by rw [e1]; intro y; cases y)⟩) r.2⟩
theorem RO.weak {a : Addr} {ob : Ob} (h : ∀ a, Z a → Z' a) (r : RO Γ H μ Z' a ob) : RO Γ H μ Z a ob := by
  cases ob with
  | lst ws =>
    obtain ⟨xs, h4, h5⟩ := r
    exact ⟨xs, h4, RVs.weak h ws h5⟩
  | dct kws =>
    obtain ⟨kvs, h4, h5, h6⟩ := r
    exact ⟨kvs, h4, h5, RVs.weak h _ h6⟩
  | tab m q => exact ⟨r.1, tab_imp rfl (fun c e1 e2 => ⟨e1, e2.weak h⟩) r.2⟩
theorem Rep.weak (h : ∀ a, Z a → Z' a) (hR : Rep Γ H μ Z' s) : Rep Γ H μ Z s := ⟨fun n ob q => by
  obtain ⟨a, h1, h2, h3⟩ := hR.at n ob q
  exact ⟨a, h1, fun z => h2 (h a z), h3.weak h⟩, hR.inj, hR.dom, fun a z => hR.za a (h a z)⟩
/-- a fresh object, hidden -/
theorem Rep.hide (hR : Rep Γ H μ Z s) (hp : H p = none) : Rep Γ (upd H p o) μ (hid p Z) s := by
  have hz : ∀ a, hid p Z a → Z a ∨ H a = none := fun a z => z.elim (fun e => .inr (e ▸ hp)) .inl
  have ev : Evo H μ (upd H p o) μ := Evo.laid hp
  refine ⟨fun n ob q => ?_, hR.inj, hR.dom, fun a z => ?_⟩
  · obtain ⟨a, h1, h2, h3⟩ := hR.at n ob q
    have hne : a ≠ p := fun e => hR.alive h1 (e ▸ hp)
    exact ⟨a, h1, fun z => z.elim hne h2, (h3.strong hz).mono' ev (upd_ne hne)⟩
  · by_cases e : a = p
    · rw [e, upd_same]; intro y; cases y
    · rw [upd_ne e]
      exact hR.za a (z.resolve_left e)
theorem RE.hide (hE : RE Γ H μ Z ρ σ) (hp : H p = none) : RE Γ (upd H p o) μ (hid p Z) ρ σ := ⟨hE.1, fun i w q => by
  obtain ⟨v, h1, h2⟩ := hE.2 i w q
  exact ⟨v, h1, (RV.strong (fun a z => z.elim (fun e => .inr (e ▸ hp)) .inl) w h2).mono (Evo.laid hp)⟩⟩
theorem Evo.hid (e : Evo H μ H1 μ1) (hp : H p = none) : Evo H μ (upd H1 p o) μ1 where
  keep := fun a ob h hn => by rw [upd_ne (ne_of_none h hp)]; exact e.keep a ob h hn
  mu := e.mu
  new := e.new
  stay := fun n a h q => by
    rw [upd_ne (fun z : a = p => q (by rw [z]; exact hp))]
    exact e.stay n a h q
theorem RO.updZ {a : Addr} {ob : Ob} (hne : a ≠ p) (r : RO Γ H μ (MP.hid p Z) a ob) : RO Γ (upd H p o) μ (MP.hid p Z) a ob := by
  cases ob with
  | lst ws =>
    obtain ⟨xs, h4, h5⟩ := r
    exact ⟨xs, by rw [upd_ne hne]; exact h4, RVs.updZ ws h5⟩
  | dct kws =>
    obtain ⟨kvs, h4, h5, h6⟩ := r
    exact ⟨kvs, by rw [upd_ne hne]; exact h4, h5, RVs.updZ _ h6⟩
  | tab m q => exact ⟨r.1, tab_imp (upd_ne hne) (fun c e1 e2 => ⟨by rw [upd_ne e2.evoZ]; exact e1, e2⟩) r.2⟩
theorem Rep.updZ (hR : Rep Γ H μ (MP.hid p Z) s) : Rep Γ (upd H p o) μ (MP.hid p Z) s := ⟨fun n ob q => by
  obtain ⟨a, h1, h2, h3⟩ := hR.at n ob q
  exact ⟨a, h1, h2, h3.updZ fun e => h2 (.inl e)⟩, hR.inj, hR.dom, fun a z => by
    by_cases e : a = p
    · rw [e, upd_same]; intro y; cases y
    · rw [upd_ne e]; exact hR.za a z⟩
theorem RE.wipe (hE : RE Γ H μ Z ρ σ) : ∀ vs : List Nat, RE Γ H μ Z (vs.foldr (fun v r => r.set v none) ρ) (L2.wipe σ vs)
  | [] => hE
  | v :: vs => (RE.wipe hE vs).del v
end

/-! ### list comprehensions -/
def wipeD (ρ : Env) (vs : List Nat) : Env := vs.foldr (fun v r => r.set v none) ρ
noncomputable def compL (ow : Option (Nat × List Dv)) (vs : List Nat) (g : FG) (tt : FT) (elt : FE) (ρ : Env) : List Dv → Sto → Option (List Dv × Sto)
  | [], s => if ow.isNone = true ∨ stB s ow = true then some ([], s) else none
  | w :: ws, s => if ow.isNone = true ∨ stB s ow = true then match g w (wipeD ρ vs) s with
    | none => none
    | some ρ1 => match tt ρ1 s with
      | .ok true s2 => match elt ρ1 s2 with
        | .ok y s3 => (compL ow vs g tt elt ρ ws s3).map fun r => (y :: r.1, r.2)
        | _ => none
      | .ok false s2 => compL ow vs g tt elt ρ ws s2
      | _ => none
    else none
noncomputable def mComp (f : FI) (vs : List Nat) (g : FG) (tt : FT) (elt : FE) : FE := fun ρ s => (f ρ s).bind fun r s1 => match compL r.ow vs g tt elt ρ r.ws s1 with
  | some (ws, s2) => if ws.length ≤ lim then .ok (.lst ws) s2 else .no
  | none => .no
/-- the list made will be changed: an object of the store -/
noncomputable def mCompM (f : FI) (vs : List Nat) (g : FG) (tt : FT) (elt : FE) : FE := fun ρ s => (f ρ s).bind fun r s1 => match compL r.ow vs g tt elt ρ r.ws s1 with
  | some (ws, s2) => if ws.length ≤ lim then .ok (.ref s2.length) (s2 ++ [.lst ws]) else .no
  | none => .no
def mYes : FT := fun _ s => .ok true s
/-- a target within the block's own names -/
def GWk (Γ : Ct) (g : TG) (fg : FG) (vs : List Nat) : Prop := ∀ (H : Hp) (μ : Mu) (Z : Zs) (ρ ρ' : Env) (s : Sto) (σ : L2.St) (w : Dv) (v : V) (Q : L2.St → Hp → Prop), RE Γ H μ Z ρ σ → Rep Γ H μ Z s → RV Γ H μ Z w v → fg w ρ s = some ρ' →
  (∀ σ', RE Γ H μ Z ρ' σ' → L2.wipe σ' vs = L2.wipe σ vs → Q σ' H) → g v σ H Q
def GsWk (Γ : Ct) (g : TGs) (fg : List Dv → Env → Sto → Option Env) (vs : List Nat) : Prop := ∀ (H : Hp) (μ : Mu) (Z : Zs) (ρ ρ' : Env) (s : Sto) (σ : L2.St) (ws : List Dv) (xs : List V) (Q : L2.St → Hp → Prop), RE Γ H μ Z ρ σ → Rep Γ H μ Z s → RVs Γ H μ Z ws xs → fg ws ρ s = some ρ' →
  (∀ σ', RE Γ H μ Z ρ' σ' → L2.wipe σ' vs = L2.wipe σ vs → Q σ' H) → g xs σ H Q
theorem wipe_set (σ : L2.St) (i : Nat) (v : Option V) : ∀ vs : List Nat, i ∈ vs → L2.wipe (σ.set i v) vs = L2.wipe σ vs
  | [], h => nomatch h
  | j :: vs, h => by
    show (L2.wipe (σ.set i v) vs).set j none = (L2.wipe σ vs).set j none
    by_cases hm : i ∈ vs
    · rw [wipe_set σ i v vs hm]
    · have e : i = j := (List.mem_cons.mp h).resolve_right hm
      subst e
      have comm : ∀ (us : List Nat), i ∉ us → L2.wipe (σ.set i v) us = (L2.wipe σ us).set i v := fun us => by
        induction us with
        | nil => intro _; rfl
        | cons k us ih =>
          intro hk
          show (L2.wipe (σ.set i v) us).set k none = ((L2.wipe σ us).set k none).set i v
          rw [ih fun z => hk (List.mem_cons_of_mem _ z)]
          exact List.set_comm _ _ fun z => hk (by rw [z]; exact List.mem_cons_self)
      rw [comm vs hm, List.set_set]
theorem wipe_wipe (σ : L2.St) (vs : List Nat) : L2.wipe (L2.wipe σ vs) vs = L2.wipe σ vs := by
  have key : ∀ (us : List Nat), (∀ i ∈ us, i ∈ vs) → L2.wipe (L2.wipe σ us) vs = L2.wipe σ vs := fun us => by
    induction us with
    | nil => intro _; rfl
    | cons j us ih =>
      intro h
      show L2.wipe ((L2.wipe σ us).set j none) vs = _
      rw [wipe_set _ j none vs (h j List.mem_cons_self)]
      exact ih fun i hi => h i (List.mem_cons_of_mem _ hi)
  exact key vs fun _ h => h
section
variable {X : Cx} {Γ : Ct} {W : WX}
theorem gw_name {i : Nat} {vs : List Nat} (h : i ∈ vs) : GWk Γ (gName i) (gN i) vs := fun H μ Z ρ ρ' s σ w v Q hE hR r e k => by
  cases e
  exact k _ (hE.set i r) (wipe_set σ i (some v) vs h)
theorem gws_nil {vs : List Nat} : GsWk Γ gNil gs0 vs := fun H μ Z ρ ρ' s σ ws xs Q hE hR r e k => by
  cases ws with
  | nil => cases e; exact ⟨r, k σ hE rfl⟩
  | cons _ _ => cases e
theorem gws_cons {g : TG} {gs : TGs} {fg : FG} {fgs : List Dv → Env → Sto → Option Env} {vs : List Nat} (h1 : GWk Γ g fg vs) (h2 : GsWk Γ gs fgs vs) : GsWk Γ (gCons g gs) (gsC fg fgs) vs := fun H μ Z ρ ρ' s σ ws xs Q hE hR r e k => by
  cases ws with
  | nil => cases e
  | cons w ws =>
    obtain ⟨x, xs, rfl, r1, r2⟩ := r
    simp only [gsC] at e
    cases q : fg w ρ s with
    | none => rw [q] at e; cases e
    | some ρ1 =>
      rw [q] at e
      exact ⟨x, xs, rfl, h1 H μ Z ρ ρ1 s σ w x _ hE hR r1 q fun σ1 E1 hw => h2 H μ Z ρ1 ρ' s σ1 ws xs Q E1 hR r2 e fun σ' E' hw' => k σ' E' (hw'.trans hw)⟩
theorem gw_tup {K : PySem.W.Frag} {n : Nat} {gs : TGs} {fgs : List Dv → Env → Sto → Option Env} {vs : List Nat} (hK : K = Γ.K) (h2 : GsWk Γ gs fgs vs) : GWk Γ (gTup K n gs) (gT n fgs) vs := fun H μ Z ρ ρ' s σ w v Q hE hR r e k => by
  subst hK
  unfold gT at e
  split at e
  · rename_i ws q
    split at e
    · rename_i hl
      cases w with
      | tup us =>
        cases q
        obtain ⟨a, xs, h1, h3, h4⟩ := r
        exact ⟨a, xs, h1, h3.sq, by rw [h4.len]; exact hl, h2 H μ Z ρ ρ' s σ _ xs Q hE hR h4 e k⟩
      | _ => cases q
    · cases e
  · cases e
theorem iE {H : Hp} {μ : Mu} {Z : Zs} {σ : L2.St} {ρ : Env} {s : Sto} {f : FI} {k : Src → Sto → R Dv} {Q : VK} {Q' : It → Hp → Prop} (hE : RE Γ H μ Z ρ σ) (hR : Rep Γ H μ Z s) (h : PostE Γ W H μ Z σ Q ((f ρ s).bind k))
    (hk : ∀ r s1 J H1 μ1, Evo H μ H1 μ1 → RE Γ H1 μ1 Z ρ σ → Rep Γ H1 μ1 Z s1 → Walks Γ Z H1 μ1 r.ow J r.ws → PostE Γ W H1 μ1 Z σ Q (k r s1) → Q' J H1) : rdI Γ W f σ H Q' := by
  refine ⟨μ, Z, ρ, s, hE, hR, ?_⟩
  cases e : f ρ s with
  | ok r s1 => rw [e] at h; exact fun J H1 μ1 ev R1 w => hk r s1 J H1 μ1 ev (hE.mono ev) R1 w (PostE.evo ev h)
  | er x s1 => rw [e] at h; exact h
  | no => rw [e] at h; exact h.elim
/-- the walk of a comprehension -/
theorem comp_ok {H1 : Hp} {μ1 : Mu} {Z : Zs} {σ : L2.St} {ρ : Env} {s1 s2 : Sto} {g : TG} {fg : FG} {tt : FT} {elt : FE} {vs : List Nat} {ow : Option (Nat × List Dv)} {ws tot : List Dv} {J : It} {Qd : Hp → Prop} {D : Addr} (hg : GWk Γ g fg vs) (hE : RE Γ H1 μ1 Z ρ σ) (hR : Rep Γ H1 μ1 Z s1) (hw : Walks Γ Z H1 μ1 ow J ws) (hD : H1 D = none)
    (q : compL ow vs fg tt elt ρ ws s1 = some (tot, s2)) (hl : tot.length ≤ lim)
    (fin : ∀ H μ acc, Evo H1 μ1 H μ → Rep Γ H μ (hid D Z) s2 → H D = some (.lst acc) → RVs Γ H μ (hid D Z) tot acc → Qd H) :
    ∃ Wn : Nat → Nat → Hp → Prop, (∃ m, Wn 0 m (upd H1 D (.lst []))) ∧ ∀ i m H, Wn i m H → (J.stop i H ∧ Qd H) ∨ (J.go i H ∧ ∃ Nx : Hp → Prop, (∀ H', Nx H' → ∃ m', m' < m ∧ Wn (i + 1) m' H') ∧
      ∀ x H', J.yld i H x H' → g x (L2.wipe σ vs) H' fun σ2 H2 => L2.wipe σ2 vs = L2.wipe σ vs ∧ rdT Γ W0 tt σ2 H2 fun b H3 =>
        if b = true then rdE Γ W0 elt σ2 H3 fun y H4 => ∃ acc, H4 D = some (.lst acc) ∧ acc.length < sizeLine ∧ Nx (upd H4 D (.lst (acc ++ [y]))) else Nx H3) := by
  let P : Nat → Hp → Prop := fun i H => ∃ μ s wa acc r, Evo H1 μ1 H μ ∧ Rep Γ H μ (hid D Z) s ∧ H D = some (.lst acc) ∧ RVs Γ H μ (hid D Z) wa acc ∧ compL ow vs fg tt elt ρ (ws.drop i) s = some (r, s2) ∧ wa ++ r = tot
  refine ⟨fun i m H => m = ws.length - i ∧ i ≤ ws.length ∧ P i H, ⟨ws.length, by omega, Nat.zero_le _, μ1, s1, [], [], tot, Evo.laid hD, hR.hide hD, upd_same, rfl, q, rfl⟩, ?_⟩
  rintro i m H ⟨rfl, hi, μ, s, wa, acc, r, ev, R, hH, ra, qr, ht⟩
  have hz : ∀ a, hid D Z a → Z a ∨ H1 a = none := fun a z => z.elim (fun e => .inr (e ▸ hD)) .inl
  have E : RE Γ H μ (hid D Z) ρ σ := ⟨hE.1, fun j w e => by
    obtain ⟨v, g1, g2⟩ := hE.2 j w e
    exact ⟨v, g1, (RV.strong hz w g2).mono ev⟩⟩
  by_cases hlt : i < ws.length
  · have hd : ws.drop i = ws[i] :: ws.drop (i + 1) := List.drop_eq_getElem_cons hlt
    rw [hd] at qr
    simp only [compL] at qr
    split at qr
    · rename_i hst
      obtain ⟨_, hgo⟩ := hw H μ (hid D Z) s ev.z R (fun a z => .inr z) hz (st_of hst)
      obtain ⟨h1, h2⟩ := hgo i ws[i] (List.getElem?_eq_getElem hlt)
      refine .inr ⟨h1, P (i + 1), fun H' p => ⟨_, by omega, rfl, hlt, p⟩, fun x H' hy => ?_⟩
      obtain ⟨e2, R2, r2⟩ := h2 x H' hy
      cases eg : fg ws[i] (wipeD ρ vs) s with
      | none => rw [eg] at qr; cases qr
      | some ρ2 =>
        rw [eg] at qr
        dsimp only at qr
        refine hg H' μ (hid D Z) (wipeD ρ vs) ρ2 s (L2.wipe σ vs) ws[i] x _ ((E.mono e2).wipe vs) R2 r2 eg fun σ2 E2 hwp => ⟨hwp.trans (wipe_wipe σ vs), μ, hid D Z, ρ2, s, E2, R2, ?_⟩
        cases et : tt ρ2 s with
        | no => rw [et] at qr; cases qr
        | er x3 s3 => rw [et] at qr; cases qr
        | ok b s3 =>
          rw [et] at qr
          intro H3 μ3 e3 R3
          have hH3 : H3 D = some (.lst acc) := e3.keep _ _ (e2.keep _ _ hH fun n hn => R.notZ hn (.inl rfl)) fun n hn => R2.notZ hn (.inl rfl)
          have ra3 : RVs Γ H3 μ3 (hid D Z) wa acc := (ra.mono e2).mono e3
          cases b with
          | false =>
            rw [if_neg Bool.false_ne_true]
            exact ⟨μ3, s3, wa, acc, r, (ev.trans e2).trans e3, R3, hH3, ra3, qr, ht⟩
          | true =>
            rw [if_pos rfl]
            dsimp only at qr
            refine ⟨μ3, hid D Z, ρ2, s3, E2.mono e3, R3, ?_⟩
            cases ee : elt ρ2 s3 with
            | no => rw [ee] at qr; cases qr
            | er x4 s4 => rw [ee] at qr; cases qr
            | ok y s4 =>
              rw [ee] at qr
              dsimp only at qr
              intro v H4 μ4 e4 R4 r4
              cases ec : compL ow vs fg tt elt ρ (ws.drop (i + 1)) s4 with
              | none => rw [ec] at qr; cases qr
              | some rr =>
                rw [ec] at qr
                obtain ⟨r', s''⟩ := rr
                cases qr
                have hH4 : H4 D = some (.lst acc) := e4.keep _ _ hH3 fun n hn => R3.notZ hn (.inl rfl)
                have hlen : acc.length < sizeLine := by
                  have := ra.len
                  rw [← ht, List.length_append] at hl
                  exact lim_lt (by omega)
                refine ⟨acc, hH4, hlen, μ4, s4, wa ++ [y], acc ++ [v], r', (((ev.trans e2).trans e3).trans e4).hid hD, R4.updZ, upd_same, RVs.append (RVs.updZ wa (ra3.mono e4)) (RVs.cons (RV.updZ y r4) rfl), ec, ?_⟩
                rw [← ht]
                simp
    · cases qr
  · have he : i = ws.length := by omega
    subst he
    rw [List.drop_length] at qr
    simp only [compL] at qr
    split at qr
    · rename_i hst
      cases qr
      obtain ⟨hs, _⟩ := hw H μ (hid D Z) _ ev.z R (fun a z => .inr z) hz (st_of hst)
      rw [List.append_nil] at ht
      subst ht
      exact .inl ⟨hs, fin H μ acc ev R hH ra⟩
    · cases qr

theorem PTs.imp {ifs : List Expr} {t t' : TT} (h : PTs X ifs t) (k : ∀ σ H Q, t' σ H Q → t σ H Q) : PTs X ifs t' := ⟨fun pins s σ H Q I q => h.run pins s σ H Q I (k σ H Q q)⟩
def MTs (X : Cx) (Γ : Ct) (ifs : List Expr) (t : FT) : Prop := PTs X ifs (rdT Γ W0 t)
theorem mts_nil : MTs X Γ [] mYes := PTs.imp pts_nil fun σ H Q ⟨μ, Z, ρ, s, hE, hR, q⟩ => q H μ .refl hR
theorem mts_one {c : Expr} {t : FT} (h : MT X Γ W0 c t) : MTs X Γ [c] t := pts_one h
theorem fin_lst {H1 H : Hp} {μ1 μ : Mu} {Z : Zs} {σ : L2.St} {s1 s2 : Sto} {tot : List Dv} {acc : List V} {D : Addr} {Q : VK} (hR1 : Rep Γ H1 μ1 Z s1) (hD : H1 D = none) (ev : Evo H1 μ1 H μ) (R : Rep Γ H μ (hid D Z) s2) (hH : H D = some (.lst acc)) (ra : RVs Γ H μ (hid D Z) tot acc)
    (q : PostE Γ W H1 μ1 Z σ Q (.ok (.lst tot) s2)) : Q (.ref D) H :=
  q _ H μ ev (R.weak fun a z => .inr z) ⟨D, acc, rfl, hH, ⟨fun n hn => R.notZ hn (.inl rfl), fun z => hR1.za D z hD⟩, RVs.weak (fun a z => .inr z) tot ra⟩
theorem me_comp {elt tg iter : Expr} {ifs : List Expr} {scope : Scope} {own : List (Str × Nat)} {pos : Pos} {f : FI} {g : TG} {fg : FG} {tt : FT} {fe : FE} (hc : X.calm = true) (hN : X.N.Nodup) (hi : MI X Γ W tg iter f) (ok : BlkOk X.N X.env.scope scope own)
    (hg : ∀ (s : Shared) (H : Hp) (C : Addr) (cl : List (Str × Addr)) (fp : List Addr), PG (X.blk s H scope (compEnvC scope cl C X.env) fp) tg g) (hw : GWk Γ g fg (own.map (·.2)))
    (ht : ∀ (s : Shared) (H : Hp) (C : Addr) (cl : List (Str × Addr)) (fp : List Addr), MTs (X.blk s H scope (compEnvC scope cl C X.env) fp) Γ ifs tt)
    (he : ∀ (s : Shared) (H : Hp) (C : Addr) (cl : List (Str × Addr)) (fp : List Addr), ME (X.blk s H scope (compEnvC scope cl C X.env) fp) Γ W0 elt fe) (hs : ∀ x, foldedSetIterable iter X.env x = pure x := by intro _; rfl) :
    ME X Γ W (.ListComp elt [⟨tg, iter, ifs, 0⟩] scope pos) (mComp f (own.map (·.2)) fg tt fe) :=
  PE.imp (pe_lc hc hN hi ok hg ht he hs) fun σ H Q ⟨μ, Z, ρ, s, hE, hR, q⟩ => iE hE hR q fun r s1 J H1 μ1 e1 E1 R1 w1 q1 D hD => by
    cases e : compL r.ow (own.map (·.2)) fg tt fe ρ r.ws s1 with
    | none => rw [e] at q1; exact q1.elim
    | some p =>
      obtain ⟨tot, s2⟩ := p
      rw [e] at q1
      dsimp only at q1
      split at q1
      · rename_i hl
        exact comp_ok hw E1 R1 w1 hD e hl fun H2 μ2 acc ev R2 hH ra => fin_lst R1 hD ev R2 hH ra q1
      · exact q1.elim
theorem asg_post {H : Hp} {μ : Mu} {Z : Zs} {σ : L2.St} {ρ : Env} {s : Sto} {f : FE} {i : Nat} {D : Ends} (hE : RE Γ H μ Z ρ σ) (q : PostS Γ W H μ Z D (mAsg f (gN i) ρ s)) : PostE Γ W H μ Z σ (fun x H1 => D.nx (σ.set i (some x)) H1) (f ρ s) := by
  unfold mAsg at q
  cases e : f ρ s with
  | ok w s1 => rw [e] at q; exact fun v H1 μ1 ev R1 r1 => q _ H1 μ1 ev R1 ((hE.mono ev).set i r1)
  | er x s1 => rw [e] at q; exact fun c d H1 μ1 ev R1 r1 => q c d σ H1 μ1 ev R1 (hE.mono ev) r1
  | no => rw [e] at q; exact q
/-- name = [..] on one line -/
theorem ms_setComp {i : Nat} {y : Str} {py : Pos} {elt tg iter : Expr} {ifs : List Expr} {scope : Scope} {own : List (Str × Nat)} {pos spos : Pos} {f : FI} {g : TG} {fg : FG} {tt : FT} {fe : FE} (hc : X.calm = true) (hN : X.N.Nodup) (hy : X.N[i]? = some y) (hyl : X.env.scope.names.lookup y = some .local)
    (hsw : swapsWith (.ListComp elt [⟨tg, iter, ifs, 0⟩] scope pos) (some (.Name y py)) spos.line X.env = pure true) (hi : MI X Γ W tg iter f) (ok : BlkOk X.N X.env.scope scope own)
    (hg : ∀ (s : Shared) (H : Hp) (C : Addr) (cl : List (Str × Addr)) (fp : List Addr), PG (X.blk s H scope (compEnvC scope cl C X.env) fp) tg g) (hw : GWk Γ g fg (own.map (·.2)))
    (ht : ∀ (s : Shared) (H : Hp) (C : Addr) (cl : List (Str × Addr)) (fp : List Addr), MTs (X.blk s H scope (compEnvC scope cl C X.env) fp) Γ ifs tt)
    (he : ∀ (s : Shared) (H : Hp) (C : Addr) (cl : List (Str × Addr)) (fp : List Addr), ME (X.blk s H scope (compEnvC scope cl C X.env) fp) Γ W0 elt fe) (hs : ∀ x, foldedSetIterable iter X.env x = pure x := by intro _; rfl) :
    MS X Γ W (.Assign [.Name y py] (.ListComp elt [⟨tg, iter, ifs, 0⟩] scope pos) spos) (mAsg (mComp f (own.map (·.2)) fg tt fe) (gN i)) :=
  PS.imp (ps_setLc hc hN hy hyl hsw hi ok hg ht he hs) fun D σ H h => by
    obtain ⟨μ, Z, ρ, s, hE, hR, q⟩ := h
    replace q := asg_post hE q
    exact iE hE hR q fun r s1 J H1 μ1 e1 E1 R1 w1 q1 D hD => by
      cases e : compL r.ow (own.map (·.2)) fg tt fe ρ r.ws s1 with
      | none => rw [e] at q1; exact q1.elim
      | some p =>
        obtain ⟨tot, s2⟩ := p
        rw [e] at q1
        dsimp only at q1
        split at q1
        · rename_i hl
          exact comp_ok hw E1 R1 w1 hD e hl fun H2 μ2 acc ev R2 hH ra => fin_lst R1 hD ev R2 hH ra q1
        · exact q1.elim
end

/-! ### comprehensions of two clauses -/
section
variable {X : Cx} {Γ : Ct} {W : WX}
noncomputable def compL2 (ow : Option (Nat × List Dv)) (vs : List Nat) (g : FG) (tt : FT) (f1 : FI) (vs1 : List Nat) (g1 : FG) (tt1 : FT) (elt : FE) (ρ : Env) : List Dv → Sto → Option (List Dv × Sto)
  | [], s => if ow.isNone = true ∨ stB s ow = true then some ([], s) else none
  | w :: ws, s => if ow.isNone = true ∨ stB s ow = true then match g w (wipeD ρ vs) s with
    | none => none
    | some ρ1 => match tt ρ1 s with
      | .ok true s2 => match f1 ρ1 s2 with
        | .ok r s3 => match compL r.ow vs1 g1 tt1 elt ρ1 r.ws s3 with
          | some (ys, s4) => (compL2 ow vs g tt f1 vs1 g1 tt1 elt ρ ws s4).map fun r => (ys ++ r.1, r.2)
          | none => none
        | _ => none
      | .ok false s2 => compL2 ow vs g tt f1 vs1 g1 tt1 elt ρ ws s2
      | _ => none
    else none
noncomputable def mComp2 (f : FI) (vs : List Nat) (g : FG) (tt : FT) (f1 : FI) (vs1 : List Nat) (g1 : FG) (tt1 : FT) (elt : FE) : FE := fun ρ s => (f ρ s).bind fun r s1 => match compL2 r.ow vs g tt f1 vs1 g1 tt1 elt ρ r.ws s1 with
  | some (ws, s2) => if ws.length ≤ lim then .ok (.lst ws) s2 else .no
  | none => .no
theorem compin_ok {H1 : Hp} {μ1 : Mu} {Z : Zs} {σ : L2.St} {ρ : Env} {s1 s2 : Sto} {g : TG} {fg : FG} {tt : FT} {elt : FE} {vs : List Nat} {ow : Option (Nat × List Dv)} {ws r0 wa0 : List Dv} {acc0 : List V} {J : It} {Nx : Hp → Prop} {D : Addr} (hg : GWk Γ g fg vs) (hE : RE Γ H1 μ1 (hid D Z) ρ σ) (hR : Rep Γ H1 μ1 (hid D Z) s1) (hw : Walks Γ (hid D Z) H1 μ1 ow J ws)
    (hH : H1 D = some (.lst acc0)) (ra0 : RVs Γ H1 μ1 (hid D Z) wa0 acc0) (q : compL ow vs fg tt elt ρ ws s1 = some (r0, s2)) (hl : (wa0 ++ r0).length ≤ lim)
    (fin : ∀ H μ acc, EvoZ (fun a => a = D) H1 μ1 H μ → Rep Γ H μ (hid D Z) s2 → H D = some (.lst acc) → RVs Γ H μ (hid D Z) (wa0 ++ r0) acc → Nx H) :
    ∃ Wn : Nat → Nat → Hp → Prop, (∃ m, Wn 0 m H1) ∧ ∀ i m H, Wn i m H → (J.stop i H ∧ Nx H) ∨ (J.go i H ∧ ∃ Nx1 : Hp → Prop, (∀ H', Nx1 H' → ∃ m', m' < m ∧ Wn (i + 1) m' H') ∧
      ∀ x H', J.yld i H x H' → g x (L2.wipe σ vs) H' fun σ2 H2 => L2.wipe σ2 vs = L2.wipe σ vs ∧ rdT Γ W0 tt σ2 H2 fun b H3 =>
        if b = true then rdE Γ W0 elt σ2 H3 fun y H4 => ∃ acc, H4 D = some (.lst acc) ∧ acc.length < sizeLine ∧ Nx1 (upd H4 D (.lst (acc ++ [y]))) else Nx1 H3) := by
  have hdz : ∀ a, a = D → hid D Z a := fun a e => .inl e
  let P : Nat → Hp → Prop := fun i H => ∃ μ s wa acc r, EvoZ (fun a => a = D) H1 μ1 H μ ∧ Rep Γ H μ (hid D Z) s ∧ H D = some (.lst acc) ∧ RVs Γ H μ (hid D Z) wa acc ∧ compL ow vs fg tt elt ρ (ws.drop i) s = some (r, s2) ∧ wa ++ r = wa0 ++ r0
  refine ⟨fun i m H => m = ws.length - i ∧ i ≤ ws.length ∧ P i H, ⟨ws.length, by omega, Nat.zero_le _, μ1, s1, wa0, acc0, r0, Evo.refl.z, hR, hH, ra0, q, rfl⟩, ?_⟩
  rintro i m H ⟨rfl, hi, μ, s, wa, acc, r, ev, R, hH, ra, qr, ht⟩
  have evz := ev.more hdz
  have E : RE Γ H μ (hid D Z) ρ σ := ⟨hE.1, fun j w e => by
    obtain ⟨v, g1, g2⟩ := hE.2 j w e
    exact ⟨v, g1, g2.monoZ evz⟩⟩
  by_cases hlt : i < ws.length
  · have hd : ws.drop i = ws[i] :: ws.drop (i + 1) := List.drop_eq_getElem_cons hlt
    rw [hd] at qr
    simp only [compL] at qr
    split at qr
    · rename_i hst
      obtain ⟨_, hgo⟩ := hw H μ (hid D Z) s evz R (fun _ z => z) (fun _ z => .inl z) (st_of hst)
      obtain ⟨h1, h2⟩ := hgo i ws[i] (List.getElem?_eq_getElem hlt)
      refine .inr ⟨h1, P (i + 1), fun H' p => ⟨_, by omega, rfl, hlt, p⟩, fun x H' hy => ?_⟩
      obtain ⟨e2, R2, r2⟩ := h2 x H' hy
      cases eg : fg ws[i] (wipeD ρ vs) s with
      | none => rw [eg] at qr; cases qr
      | some ρ2 =>
        rw [eg] at qr
        dsimp only at qr
        refine hg H' μ (hid D Z) (wipeD ρ vs) ρ2 s (L2.wipe σ vs) ws[i] x _ ((E.mono e2).wipe vs) R2 r2 eg fun σ2 E2 hwp => ⟨hwp.trans (wipe_wipe σ vs), μ, hid D Z, ρ2, s, E2, R2, ?_⟩
        cases et : tt ρ2 s with
        | no => rw [et] at qr; cases qr
        | er x3 s3 => rw [et] at qr; cases qr
        | ok b s3 =>
          rw [et] at qr
          intro H3 μ3 e3 R3
          have hH3 : H3 D = some (.lst acc) := e3.keep _ _ (e2.keep _ _ hH fun n hn => R.notZ hn (.inl rfl)) fun n hn => R2.notZ hn (.inl rfl)
          have ra3 : RVs Γ H3 μ3 (hid D Z) wa acc := (ra.mono e2).mono e3
          have ev3 : EvoZ (fun a => a = D) H1 μ1 H3 μ3 := (ev.trans e2.z).trans e3.z
          cases b with
          | false =>
            rw [if_neg Bool.false_ne_true]
            exact ⟨μ3, s3, wa, acc, r, ev3, R3, hH3, ra3, qr, ht⟩
          | true =>
            rw [if_pos rfl]
            dsimp only at qr
            refine ⟨μ3, hid D Z, ρ2, s3, E2.mono e3, R3, ?_⟩
            cases ee : elt ρ2 s3 with
            | no => rw [ee] at qr; cases qr
            | er x4 s4 => rw [ee] at qr; cases qr
            | ok y s4 =>
              rw [ee] at qr
              dsimp only at qr
              intro v H4 μ4 e4 R4 r4
              cases ec : compL ow vs fg tt elt ρ (ws.drop (i + 1)) s4 with
              | none => rw [ec] at qr; cases qr
              | some rr =>
                rw [ec] at qr
                obtain ⟨r', s''⟩ := rr
                cases qr
                have hH4 : H4 D = some (.lst acc) := e4.keep _ _ hH3 fun n hn => R3.notZ hn (.inl rfl)
                have hlen : acc.length < sizeLine := by
                  have := ra.len
                  rw [← ht, List.length_append] at hl
                  exact lim_lt (by simp at hl; omega)
                refine ⟨acc, hH4, hlen, μ4, s4, wa ++ [y], acc ++ [v], r', (ev3.trans e4.z).upd, R4.updZ, upd_same, RVs.append (RVs.updZ wa (ra3.mono e4)) (RVs.cons (RV.updZ y r4) rfl), ec, ?_⟩
                rw [← ht]
                simp
    · cases qr
  · have he : i = ws.length := by omega
    subst he
    rw [List.drop_length] at qr
    simp only [compL] at qr
    split at qr
    · rename_i hst
      cases qr
      obtain ⟨hs, _⟩ := hw H μ (hid D Z) _ evz R (fun _ z => z) (fun _ z => .inl z) (st_of hst)
      rw [List.append_nil] at ht
      subst ht
      exact .inl ⟨hs, fin H μ acc ev R hH ra⟩
    · cases qr
theorem comp2_ok {H1 : Hp} {μ1 : Mu} {Z : Zs} {σ : L2.St} {ρ : Env} {s1 s2 : Sto} {g g1 : TG} {fg fg1 : FG} {tt tt1 : FT} {f1 : FI} {elt : FE} {vs vs1 : List Nat} {ow : Option (Nat × List Dv)} {ws tot : List Dv} {J : It} {Qd : Hp → Prop} {D : Addr} (hg : GWk Γ g fg vs) (hg1 : GWk Γ g1 fg1 vs1) (hE : RE Γ H1 μ1 Z ρ σ) (hR : Rep Γ H1 μ1 Z s1) (hw : Walks Γ Z H1 μ1 ow J ws) (hD : H1 D = none)
    (q : compL2 ow vs fg tt f1 vs1 fg1 tt1 elt ρ ws s1 = some (tot, s2)) (hl : tot.length ≤ lim)
    (fin : ∀ H μ acc, Evo H1 μ1 H μ → Rep Γ H μ (hid D Z) s2 → H D = some (.lst acc) → RVs Γ H μ (hid D Z) tot acc → Qd H) :
    ∃ Wn : Nat → Nat → Hp → Prop, (∃ m, Wn 0 m (upd H1 D (.lst []))) ∧ ∀ i m H, Wn i m H → (J.stop i H ∧ Qd H) ∨ (J.go i H ∧ ∃ Nx : Hp → Prop, (∀ H', Nx H' → ∃ m', m' < m ∧ Wn (i + 1) m' H') ∧
      ∀ x H', J.yld i H x H' → g x (L2.wipe σ vs) H' fun σ2 H2 => L2.wipe σ2 vs = L2.wipe σ vs ∧ rdT Γ W0 tt σ2 H2 fun b H3 =>
        if b = true then rdI Γ W0 f1 σ2 H3 fun J1 H4 => ∃ W1 : Nat → Nat → Hp → Prop, (∃ m, W1 0 m H4) ∧ ∀ j k H, W1 j k H →
          (J1.stop j H ∧ Nx H) ∨ (J1.go j H ∧ ∃ Nx1 : Hp → Prop, (∀ H', Nx1 H' → ∃ k', k' < k ∧ W1 (j + 1) k' H') ∧ ∀ x H', J1.yld j H x H' → g1 x (L2.wipe σ2 vs1) H' fun σ3 H5 => L2.wipe σ3 vs1 = L2.wipe σ2 vs1 ∧ rdT Γ W0 tt1 σ3 H5 fun b H6 =>
            if b = true then rdE Γ W0 elt σ3 H6 fun y H7 => ∃ acc, H7 D = some (.lst acc) ∧ acc.length < sizeLine ∧ Nx1 (upd H7 D (.lst (acc ++ [y]))) else Nx1 H6)
        else Nx H3) := by
  let P : Nat → Hp → Prop := fun i H => ∃ μ s wa acc r, Evo H1 μ1 H μ ∧ Rep Γ H μ (hid D Z) s ∧ H D = some (.lst acc) ∧ RVs Γ H μ (hid D Z) wa acc ∧ compL2 ow vs fg tt f1 vs1 fg1 tt1 elt ρ (ws.drop i) s = some (r, s2) ∧ wa ++ r = tot
  refine ⟨fun i m H => m = ws.length - i ∧ i ≤ ws.length ∧ P i H, ⟨ws.length, by omega, Nat.zero_le _, μ1, s1, [], [], tot, Evo.laid hD, hR.hide hD, upd_same, rfl, q, rfl⟩, ?_⟩
  rintro i m H ⟨rfl, hi, μ, s, wa, acc, r, ev, R, hH, ra, qr, ht⟩
  have hz : ∀ a, hid D Z a → Z a ∨ H1 a = none := fun a z => z.elim (fun e => .inr (e ▸ hD)) .inl
  have E : RE Γ H μ (hid D Z) ρ σ := ⟨hE.1, fun j w e => by
    obtain ⟨v, g1, g2⟩ := hE.2 j w e
    exact ⟨v, g1, (RV.strong hz w g2).mono ev⟩⟩
  by_cases hlt : i < ws.length
  · have hd : ws.drop i = ws[i] :: ws.drop (i + 1) := List.drop_eq_getElem_cons hlt
    rw [hd] at qr
    simp only [compL2] at qr
    split at qr
    · rename_i hst
      obtain ⟨_, hgo⟩ := hw H μ (hid D Z) s ev.z R (fun a z => .inr z) hz (st_of hst)
      obtain ⟨h1, h2⟩ := hgo i ws[i] (List.getElem?_eq_getElem hlt)
      refine .inr ⟨h1, P (i + 1), fun H' p => ⟨_, by omega, rfl, hlt, p⟩, fun x H' hy => ?_⟩
      obtain ⟨e2, R2, r2⟩ := h2 x H' hy
      cases eg : fg ws[i] (wipeD ρ vs) s with
      | none => rw [eg] at qr; cases qr
      | some ρ2 =>
        rw [eg] at qr
        dsimp only at qr
        refine hg H' μ (hid D Z) (wipeD ρ vs) ρ2 s (L2.wipe σ vs) ws[i] x _ ((E.mono e2).wipe vs) R2 r2 eg fun σ2 E2 hwp => ⟨hwp.trans (wipe_wipe σ vs), μ, hid D Z, ρ2, s, E2, R2, ?_⟩
        cases et : tt ρ2 s with
        | no => rw [et] at qr; cases qr
        | er x3 s3 => rw [et] at qr; cases qr
        | ok b s3 =>
          rw [et] at qr
          intro H3 μ3 e3 R3
          have hH3 : H3 D = some (.lst acc) := e3.keep _ _ (e2.keep _ _ hH fun n hn => R.notZ hn (.inl rfl)) fun n hn => R2.notZ hn (.inl rfl)
          have ra3 : RVs Γ H3 μ3 (hid D Z) wa acc := (ra.mono e2).mono e3
          cases b with
          | false =>
            rw [if_neg Bool.false_ne_true]
            exact ⟨μ3, s3, wa, acc, r, (ev.trans e2).trans e3, R3, hH3, ra3, qr, ht⟩
          | true =>
            rw [if_pos rfl]
            dsimp only at qr
            refine ⟨μ3, hid D Z, ρ2, s3, E2.mono e3, R3, ?_⟩
            cases ef : f1 ρ2 s3 with
            | no => rw [ef] at qr; cases qr
            | er x4 s4 => rw [ef] at qr; cases qr
            | ok src s4 =>
              rw [ef] at qr
              dsimp only at qr
              intro J1 H4 μ4 e4 R4 w4
              cases ec : compL src.ow vs1 fg1 tt1 elt ρ2 src.ws s4 with
              | none => rw [ec] at qr; cases qr
              | some rr =>
                rw [ec] at qr
                obtain ⟨ys, s5⟩ := rr
                dsimp only at qr
                cases ed : compL2 ow vs fg tt f1 vs1 fg1 tt1 elt ρ (ws.drop (i + 1)) s5 with
                | none => rw [ed] at qr; cases qr
                | some rr =>
                  rw [ed] at qr
                  obtain ⟨r', s''⟩ := rr
                  cases qr
                  have hH4 : H4 D = some (.lst acc) := e4.keep _ _ hH3 fun n hn => R3.notZ hn (.inl rfl)
                  have hlen : (wa ++ ys).length ≤ lim := by
                    rw [← ht] at hl
                    simp at hl ⊢
                    omega
                  exact compin_ok hg1 ((E2.mono e3).mono e4) R4 w4 hH4 (ra3.mono e4) ec hlen fun H5 μ5 acc5 e5 R5 hH5 ra5 => ⟨μ5, s5, wa ++ ys, acc5, r', (((ev.trans e2).trans e3).trans e4).thenZ hD e5, R5, hH5, ra5, ed, by rw [← ht, List.append_assoc]⟩
    · cases qr
  · have he : i = ws.length := by omega
    subst he
    rw [List.drop_length] at qr
    simp only [compL2] at qr
    split at qr
    · rename_i hst
      cases qr
      obtain ⟨hs, _⟩ := hw H μ (hid D Z) _ ev.z R (fun a z => .inr z) hz (st_of hst)
      rw [List.append_nil] at ht
      subst ht
      exact .inl ⟨hs, fin H μ acc ev R hH ra⟩
    · cases qr
theorem me_comp2 {elt tg iter tg1 iter1 : Expr} {ifs ifs1 : List Expr} {scope : Scope} {own : List (Str × Nat)} {vs1 : List Nat} {pos : Pos} {f f1 : FI} {g g1 : TG} {fg fg1 : FG} {tt tt1 : FT} {fe : FE} (hc : X.calm = true) (hN : X.N.Nodup) (hi : MI X Γ W tg iter f) (ok : BlkOk X.N X.env.scope scope own) (hv : ∀ i ∈ vs1, i ∈ own.map (·.2))
    (hg : ∀ (s : Shared) (H : Hp) (C : Addr) (cl : List (Str × Addr)) (fp : List Addr), PG (X.blk s H scope (compEnvC scope cl C X.env) fp) tg g) (hw : GWk Γ g fg (own.map (·.2)))
    (ht : ∀ (s : Shared) (H : Hp) (C : Addr) (cl : List (Str × Addr)) (fp : List Addr), MTs (X.blk s H scope (compEnvC scope cl C X.env) fp) Γ ifs tt)
    (hi1 : ∀ (s : Shared) (H : Hp) (C : Addr) (cl : List (Str × Addr)) (fp : List Addr), MI (X.blk s H scope (compEnvC scope cl C X.env) fp) Γ W0 tg1 iter1 f1)
    (hg1 : ∀ (s : Shared) (H : Hp) (C : Addr) (cl : List (Str × Addr)) (fp : List Addr), PG (X.blk s H scope (compEnvC scope cl C X.env) fp) tg1 g1) (hw1 : GWk Γ g1 fg1 vs1)
    (ht1 : ∀ (s : Shared) (H : Hp) (C : Addr) (cl : List (Str × Addr)) (fp : List Addr), MTs (X.blk s H scope (compEnvC scope cl C X.env) fp) Γ ifs1 tt1)
    (he : ∀ (s : Shared) (H : Hp) (C : Addr) (cl : List (Str × Addr)) (fp : List Addr), ME (X.blk s H scope (compEnvC scope cl C X.env) fp) Γ W0 elt fe) (hs : ∀ x, foldedSetIterable iter X.env x = pure x := by intro _; rfl) (hs1 : ∀ env x, foldedSetIterable iter1 env x = pure x := by intro _ _; rfl) :
    ME X Γ W (.ListComp elt [⟨tg, iter, ifs, 0⟩, ⟨tg1, iter1, ifs1, 0⟩] scope pos) (mComp2 f (own.map (·.2)) fg tt f1 vs1 fg1 tt1 fe) :=
  PE.imp (pe_lc2 hc hN hi ok hv hg ht hi1 hg1 ht1 he hs hs1) fun σ H Q ⟨μ, Z, ρ, s, hE, hR, q⟩ => iE hE hR q fun r s1 J H1 μ1 e1 E1 R1 w1 q1 D hD => by
    cases e : compL2 r.ow (own.map (·.2)) fg tt f1 vs1 fg1 tt1 fe ρ r.ws s1 with
    | none => rw [e] at q1; exact q1.elim
    | some p =>
      obtain ⟨tot, s2⟩ := p
      rw [e] at q1
      dsimp only at q1
      split at q1
      · rename_i hl
        exact comp2_ok hw hw1 E1 R1 w1 hD e hl fun H2 μ2 acc ev R2 hH ra => fin_lst R1 hD ev R2 hH ra q1
      · exact q1.elim
theorem ms_setComp2 {i : Nat} {y : Str} {py : Pos} {elt tg iter tg1 iter1 : Expr} {ifs ifs1 : List Expr} {scope : Scope} {own : List (Str × Nat)} {vs1 : List Nat} {pos spos : Pos} {f f1 : FI} {g g1 : TG} {fg fg1 : FG} {tt tt1 : FT} {fe : FE} (hc : X.calm = true) (hN : X.N.Nodup) (hy : X.N[i]? = some y) (hyl : X.env.scope.names.lookup y = some .local)
    (hsw : swapsWith (.ListComp elt [⟨tg, iter, ifs, 0⟩, ⟨tg1, iter1, ifs1, 0⟩] scope pos) (some (.Name y py)) spos.line X.env = pure true) (hi : MI X Γ W tg iter f) (ok : BlkOk X.N X.env.scope scope own) (hv : ∀ i ∈ vs1, i ∈ own.map (·.2))
    (hg : ∀ (s : Shared) (H : Hp) (C : Addr) (cl : List (Str × Addr)) (fp : List Addr), PG (X.blk s H scope (compEnvC scope cl C X.env) fp) tg g) (hw : GWk Γ g fg (own.map (·.2)))
    (ht : ∀ (s : Shared) (H : Hp) (C : Addr) (cl : List (Str × Addr)) (fp : List Addr), MTs (X.blk s H scope (compEnvC scope cl C X.env) fp) Γ ifs tt)
    (hi1 : ∀ (s : Shared) (H : Hp) (C : Addr) (cl : List (Str × Addr)) (fp : List Addr), MI (X.blk s H scope (compEnvC scope cl C X.env) fp) Γ W0 tg1 iter1 f1)
    (hg1 : ∀ (s : Shared) (H : Hp) (C : Addr) (cl : List (Str × Addr)) (fp : List Addr), PG (X.blk s H scope (compEnvC scope cl C X.env) fp) tg1 g1) (hw1 : GWk Γ g1 fg1 vs1)
    (ht1 : ∀ (s : Shared) (H : Hp) (C : Addr) (cl : List (Str × Addr)) (fp : List Addr), MTs (X.blk s H scope (compEnvC scope cl C X.env) fp) Γ ifs1 tt1)
    (he : ∀ (s : Shared) (H : Hp) (C : Addr) (cl : List (Str × Addr)) (fp : List Addr), ME (X.blk s H scope (compEnvC scope cl C X.env) fp) Γ W0 elt fe) (hs : ∀ x, foldedSetIterable iter X.env x = pure x := by intro _; rfl) (hs1 : ∀ env x, foldedSetIterable iter1 env x = pure x := by intro _ _; rfl) :
    MS X Γ W (.Assign [.Name y py] (.ListComp elt [⟨tg, iter, ifs, 0⟩, ⟨tg1, iter1, ifs1, 0⟩] scope pos) spos) (mAsg (mComp2 f (own.map (·.2)) fg tt f1 vs1 fg1 tt1 fe) (gN i)) :=
  PS.imp (ps_setLc2 hc hN hy hyl hsw hi ok hv hg ht hi1 hg1 ht1 he hs hs1) fun D σ H h => by
    obtain ⟨μ, Z, ρ, s, hE, hR, q⟩ := h
    replace q := asg_post hE q
    exact iE hE hR q fun r s1 J H1 μ1 e1 E1 R1 w1 q1 D hD => by
      cases e : compL2 r.ow (own.map (·.2)) fg tt f1 vs1 fg1 tt1 fe ρ r.ws s1 with
      | none => rw [e] at q1; exact q1.elim
      | some p =>
        obtain ⟨tot, s2⟩ := p
        rw [e] at q1
        dsimp only at q1
        split at q1
        · rename_i hl
          exact comp2_ok hw hw1 E1 R1 w1 hD e hl fun H2 μ2 acc ev R2 hH ra => fin_lst R1 hD ev R2 hH ra q1
        · exact q1.elim
end

/-! ### defs -/
mutual
def clean (n : Nat) : Dv → Bool
  | .ref k => decide (k < n)
  | .tup ws => cleans n ws
  | .lst ws => cleans n ws
  | .sq ws => cleans n ws
  | .dct _ ws => cleans n ws
  | .exc _ _ w => clean n w
  | .clo _ _ _ ws _ => cleans n ws
  | _ => true
def cleans (n : Nat) : List Dv → Bool
  | [] => true
  | w :: ws => clean n w && cleans n ws
end
def Ob.clean (n : Nat) : Ob → Bool
  | .lst ws => cleans n ws
  | .dct kws => cleans n (kws.map (·.2))
  | .tab _ _ => true
def mapO {α β : Type} (f : α → Option β) : List α → Option (List β)
  | [] => some []
  | a :: r => match f a, mapO f r with
    | some b, some bs => some (b :: bs)
    | _, _ => none
/-- lists of the callee's own are handed out as they stand -/
def fz : Nat → Sto → Nat → Dv → Option Dv
  | 0, _, n, w => if clean n w = true then some w else none
  | f + 1, s, n, w => if clean n w = true then some w else match w with
    | .tup ws => (mapO (fz f s n) ws).map .tup
    | .lst ws => (mapO (fz f s n) ws).map .lst
    | .ref k => match s[k]? with
      | some (.lst ws) => (mapO (fz f s n) ws).map .lst
      | _ => none
    | _ => none
/-- a def's end: what it made and nobody holds is forgotten -/
def finW (n : Nat) (w : Dv) (s : Sto) : R Dv :=
  if s.length ≤ n then .ok w s else if (s.take n).all (Ob.clean n) = true then match fz 4 s n w with
    | some w' => .ok w' (s.take n)
    | none => .ok w s
  else .ok w s
def finX (n : Nat) (x : Ex) (s : Sto) : R Dv :=
  if s.length ≤ n then .er x s else if (s.take n).all (Ob.clean n) = true then match fz 4 s n x.w with
    | some w' => .er { x with w := w' } (s.take n)
    | none => .er x s
  else .er x s
def finC (n : Nat) : C → R Dv
  | .nx _ s => finW n .non s
  | .rt w s => finW n w s
  | .er x _ s => finX n x s
  | _ => .no
def res (n : Nat) (μ : Mu) : Mu := fun m => if m < n then μ m else none
section
variable {Γ : Ct} {H : Hp} {μ : Mu} {Z : Zs} {s : Sto} {n : Nat}
theorem res_some {m : Nat} {a : Addr} (h : res n μ m = some a) : m < n ∧ μ m = some a := by
  unfold res at h
  split at h
  · exact ⟨by assumption, h⟩
  · cases h
theorem res_lt {m : Nat} {a : Addr} (h : m < n) (q : μ m = some a) : res n μ m = some a := by
  unfold res
  rw [if_pos h, q]
theorem Fz.res {a : Addr} (f : Fz μ Z a) : Fz (res n μ) Z a := ⟨fun m h => f.1 m (res_some h).2, f.2⟩
mutual
theorem RV.res : ∀ (w : Dv) {v : V}, clean n w = true → RV Γ H μ Z w v → RV Γ H (MP.res n μ) Z w v
  | .non, _, _, q => q
  | .bl _, _, _, q => q
  | .int _, _, _, q => q
  | .str _, _, _, q => q
  | .ty _, _, _, q => q
  | .cl _, _, _, q => q
  | .ref k, _, c, q => by
    obtain ⟨a, h1, h2⟩ := q
    exact ⟨a, h1, res_lt (of_decide_eq_true c) h2⟩
  | .tup ws, _, c, q => by
    obtain ⟨a, xs, h1, h2, h3⟩ := q
    exact ⟨a, xs, h1, h2.elim (fun z => .inl ⟨z.1, z.2.res⟩) .inr, RVs.res ws c h3⟩
  | .sq ws, _, c, q => by
    obtain ⟨a, xs, h1, h2, h3⟩ := q
    exact ⟨a, xs, h1, h2.elim (fun z => .inl ⟨z.1, z.2.res⟩) .inr, RVs.res ws c h3⟩
  | .lst ws, _, c, q => by
    obtain ⟨a, xs, h1, h2, h3, h4⟩ := q
    exact ⟨a, xs, h1, h2, h3.res, RVs.res ws c h4⟩
  | .dct ks ws, _, c, q => by
    obtain ⟨a, kvs, h1, h2, h3, h4, h5⟩ := q
    exact ⟨a, kvs, h1, h2, h3.res, h4, RVs.res ws c h5⟩
  | .exc cc f w, _, c, q => by
    obtain ⟨a, dx, x, h1, h2, h3, h4, h5, h6⟩ := q
    exact ⟨a, dx, x, h1, h2, h3.res, h4, h5.res, RV.res w c h6⟩
  | .exn cc, _, c, q => by
    obtain ⟨a, h1, h2, h3⟩ := q
    exact ⟨a, h1, h2, h3.res⟩
  | .clo a b _ ws vs, _, c, q => by
    obtain ⟨h1, h2, h3, h4⟩ := q
    exact ⟨h1, h2, h3.res, RVs.res ws c h4⟩
theorem RVs.res : ∀ (ws : List Dv) {vs : List V}, cleans n ws = true → RVs Γ H μ Z ws vs → RVs Γ H (MP.res n μ) Z ws vs
  | [], _, _, q => q
  | w :: ws, _, c, q => by
    obtain ⟨x, xs, h1, h2, h3⟩ := q
    have c' : clean n w = true ∧ cleans n ws = true := Bool.and_eq_true_iff.mp c
    exact ⟨x, xs, h1, RV.res w c'.1 h2, RVs.res ws c'.2 h3⟩
end
theorem mapO_ok {f : Dv → Option Dv} (hf : ∀ w w' v, f w = some w' → RV Γ H μ Z w v → RV Γ H (res n μ) Z w' v) : ∀ (ws ws' : List Dv) (vs : List V), mapO f ws = some ws' → RVs Γ H μ Z ws vs → RVs Γ H (res n μ) Z ws' vs
  | [], _, _, e, q => by cases e; exact q
  | w :: ws, _, _, e, q => by
    obtain ⟨x, xs, rfl, h2, h3⟩ := q
    simp only [mapO] at e
    split at e
    · rename_i b bs e1 e2
      cases e
      exact RVs.cons (hf _ _ _ e1 h2) (mapO_ok hf ws bs xs e2 h3)
    · cases e
theorem fz_ok (hR : Rep Γ H μ Z s) : ∀ (f : Nat) (w w' : Dv) (v : V), fz f s n w = some w' → RV Γ H μ Z w v → RV Γ H (res n μ) Z w' v := fun f => by
  induction f with
  | zero =>
    intro w w' v e q
    simp only [fz] at e
    split at e
    · cases e; exact q.res w (by assumption)
    · cases e
  | succ f ih =>
    intro w w' v e q
    simp only [fz] at e
    split at e
    · cases e; exact q.res w (by assumption)
    · rename_i hc
      split at e
      · rename_i ws
        cases em : mapO (fz f s n) ws with
        | none => rw [em] at e; cases e
        | some us =>
          rw [em] at e
          cases e
          obtain ⟨a, xs, h1, h2, h3⟩ := q
          exact ⟨a, xs, h1, h2.elim (fun z => .inl ⟨z.1, z.2.res⟩) .inr, mapO_ok (fun w w' v => ih w w' v) _ _ _ em h3⟩
      · rename_i ws
        cases em : mapO (fz f s n) ws with
        | none => rw [em] at e; cases e
        | some us =>
          rw [em] at e
          cases e
          obtain ⟨a, xs, h1, h2, h3, h4⟩ := q
          exact ⟨a, xs, h1, h2, h3.res, mapO_ok (fun w w' v => ih w w' v) _ _ _ em h4⟩
      · rename_i k
        split at e
        · rename_i ws es
          cases em : mapO (fz f s n) ws with
          | none => rw [em] at e; cases e
          | some us =>
            rw [em] at e
            cases e
            obtain ⟨a, h1, h2⟩ := q
            obtain ⟨b, g1, g2, xs, g3, g4⟩ := hR.at k _ es
            rw [h2] at g1
            cases g1
            refine ⟨a, xs, h1, g3, ⟨fun m hm => ?_, g2⟩, mapO_ok (fun w w' v => ih w w' v) _ _ _ em g4⟩
            obtain ⟨m1, m2⟩ := res_some hm
            have := hR.inj _ _ _ m2 h2
            subst this
            exact hc (decide_eq_true m1)
        · cases e
      · cases e
theorem RO.res {a : Addr} {ob : Ob} (c : ob.clean n = true) (h : RO Γ H μ Z a ob) : RO Γ H (MP.res n μ) Z a ob := by
  cases ob with
  | lst ws =>
    obtain ⟨xs, h1, h2⟩ := h
    exact ⟨xs, h1, h2.res ws c⟩
  | dct kws =>
    obtain ⟨kvs, h1, h2, h3⟩ := h
    exact ⟨kvs, h1, h2, h3.res _ c⟩
  | tab m q => exact ⟨h.1, tab_imp rfl (fun c e1 e2 => ⟨e1, e2.res⟩) h.2⟩
theorem Rep.res (hR : Rep Γ H μ Z s) (hn : n ≤ s.length) (c : (s.take n).all (Ob.clean n) = true) : Rep Γ H (MP.res n μ) Z (s.take n) := ⟨fun m ob q => by
  have hm : m < n := by
    have := (List.getElem?_eq_some_iff.mp q).1
    rw [List.length_take] at this
    omega
  have q' : s[m]? = some ob := by rw [List.getElem?_take_of_lt hm] at q; exact q
  obtain ⟨a, h1, h2, h3⟩ := hR.at m ob q'
  exact ⟨a, res_lt hm h1, h2, h3.res (List.all_eq_true.mp c ob (List.mem_of_getElem? q))⟩,
  fun m k a h1 h2 => hR.inj _ _ _ (res_some h1).2 (res_some h2).2, fun m a h => by rw [List.length_take]; have := (res_some h).1; omega, hR.za⟩
theorem Evo.res {H0 : Hp} {μ0 : Mu} (e : Evo H0 μ0 H μ) (hd : ∀ m a, μ0 m = some a → m < n) : Evo H0 μ0 H (MP.res n μ) :=
  ⟨e.keep, fun m a h => res_lt (hd m a h) (e.mu m a h), fun m a h => e.new m a (res_some h).2, e.stay⟩
end
/-- what a def promises -/
def spM (Γ : Ct) (ps : List Str) (den : Fn) : Sp := fun vs H Q E => vs.length = ps.length ∧ ∃ μ Z s ws, Rep Γ H μ Z s ∧ RVs Γ H μ Z ws vs ∧ PostE Γ (fun c d _ H => E c d H) H μ Z [] Q (den ws s)
structure FnG (P : Program) (w : World) (mg : Str → Option Value) (base : Heap) (Γ : Ct) (k : Nat) (f : Addr) (fd : FuncData) (ps : List Str) (den : Fn) : Prop where
  run : ∀ (A : Around) (outer : List PySem.Env) (s : Shared) (H : Hp) (args : Args) (us : List Value) (vs : List V) (Q : VK) (E : XK), Room k A → A.guards = some [] → Env0 P w Γ.K mg base A outer s H → BindsTo s fd args (ps.zip us) → Vals vs us → spM Γ ps den vs H Q E →
    codeAny (model P w) A (.call (.ref f) args) (CR (L2.CX P w) outer P w H s Q E) s
def startD (n : Nat) (ws : List Dv) : Env := ws.map some ++ List.replicate (n - ws.length) none
def denOf (n : Nat) (body : FS) : Fn := fun ws s => finC s.length (body (startD n ws) s)
theorem re_start {Γ : Ct} {H : Hp} {μ : Mu} {Z : Zs} {N : List Str} {ws : List Dv} {vs : List V} (r : RVs Γ H μ Z ws vs) : RE Γ H μ Z (startD N.length ws) (L2.start N vs) := by
  have hl := r.len
  refine ⟨?_, fun i w q => ?_⟩
  · unfold startD L2.start
    rw [List.length_append, List.length_append, List.length_map, List.length_map, List.length_replicate, List.length_replicate, hl]
  · unfold startD at q
    unfold L2.start
    by_cases hi : i < ws.length
    · rw [List.getElem?_append_left (by rw [List.length_map]; exact hi), List.getElem?_map] at q
      rw [List.getElem?_append_left (by rw [List.length_map, hl]; exact hi), List.getElem?_map]
      cases e : ws[i]? with
      | none => rw [e] at q; cases q
      | some u =>
        rw [e] at q
        cases q
        obtain ⟨x, h1, h2⟩ := r.get e
        exact ⟨x, by rw [h1]; rfl, h2⟩
    · rw [List.getElem?_append_right (by rw [List.length_map]; omega), List.getElem?_replicate] at q
      split at q <;> cases q
end MP

set_option Elab.async false
set_option linter.all false
set_option maxRecDepth 100000
set_option maxHeartbeats 4000000
namespace MP
open PySem PySem.Spec PyProof.Rows L2

theorem start_len {N : List Str} {vs : List V} : (L2.start N vs).length = vs.length + (N.length - vs.length) := by
  unfold L2.start
  rw [List.length_append, List.length_map, List.length_replicate]
/-- the end of a body is the end of its def -/
theorem body_end {Γ : Ct} {H : Hp} {μ : Mu} {Z : Zs} {s : Sto} {Q : VK} {E : XK} {c : C} (hR : Rep Γ H μ Z s) (q : PostE Γ (fun c d _ H => E c d H) H μ Z [] Q (finC s.length c)) :
    PostS Γ (fun c d _ H => E c d H) H μ Z { nx := fun _ H' => Q .non H', rt := Q } c := by
  have key : ∀ (w : Dv) (s' : Sto), PostE Γ (fun c d _ H => E c d H) H μ Z [] Q (finW s.length w s') → ∀ v H' μ', Evo H μ H' μ' → Rep Γ H' μ' Z s' → RV Γ H' μ' Z w v → Q v H' := fun w s' q v H' μ' ev R' r' => by
    unfold finW at q
    split at q
    · exact q v H' μ' ev R' r'
    · rename_i hl
      split at q
      · rename_i hc
        split at q
        · rename_i w' e
          exact q v H' _ (ev.res hR.dom) (R'.res (by omega) hc) (fz_ok R' 4 w w' v e r')
        · exact q v H' μ' ev R' r'
      · exact q v H' μ' ev R' r'
  cases c with
  | nx ρ' s' => exact fun σ' H' μ' ev R' _ => key .non s' q .non H' μ' ev R' rfl
  | rt w s' => exact fun v H' μ' ev R' r' => key w s' q v H' μ' ev R' r'
  | bk ρ' s' => exact q.elim
  | ct ρ' s' => exact q.elim
  | no => exact q.elim
  | er x ρ' s' =>
    intro c d σ' H' μ' ev R' _ rx
    unfold finC finX at q
    dsimp only at q
    split at q
    · exact q c d H' μ' ev R' rx
    · rename_i hl
      split at q
      · rename_i hc
        split at q
        · rename_i w' e
          obtain ⟨h1, dd, v, h2, h3, h4, h5⟩ := rx
          exact q c d H' _ (ev.res hR.dom) (R'.res (by omega) hc) ⟨h1, dd, v, h2, h3, h4.res, fz_ok R' 4 _ w' v e h5⟩
        · exact q c d H' μ' ev R' rx
      · exact q c d H' μ' ev R' rx

abbrev envF (qual : Str) (st : Stmt) (s : Shared) (f : Addr) (cdv : Value) : PySem.Env := envOfC qual (defScope st) s.heap.objs.size f cdv
abbrev cxF (Γ : Ct) (P : Program) (w : World) (mg : Str → Option Value) (base : Heap) (N : List Str) (qual : Str) (st : Stmt) (f : Addr) (cdv : Value) (A : Around) (outer : List PySem.Env) (s : Shared) (H : Hp) (E : XK) : Cx :=
  cxOf (L2.CX P w) P w Γ.K mg base N qual (defScope st) f cdv A outer s H E
/-- A def keeps what its body's reading says -/
theorem ok_fn {P : Program} {w : World} {mg : Str → Option Value} {base : Heap} {Γ : Ct} {x qual : Str} {st : Stmt} {f : Addr} {fd : FuncData} {N ps : List Str} {k : Nat} {c : FS} (F : Fun Γ.K x qual st f fd) (S : FnScope N ps (defScope st))
    (hbody : ∀ (cdv : Value) (A : Around) (outer : List PySem.Env) (s : Shared) (H : Hp) (E : XK) (W : WX), Room k (A.deeper (envF qual st s f cdv)) → (A.deeper (envF qual st s f cdv)).guards = some [] → Takes (cxF Γ P w mg base N qual st f cdv A outer s H E) W →
      MB (cxF Γ P w mg base N qual st f cdv A outer s H E) Γ W (defBody st) c) : FnG P w mg base Γ (k + 1) f fd ps (denOf N.length c) := by
  obtain ⟨oc, od, kV, doc, pm, an, cdv, ct, osl, rfl, lk, hcd⟩ := F.ex
  refine ⟨fun A outer s H args us vs Q E room guards e0 binds rel ⟨hlen, μ, Z, st0, ws, hR, rws, post⟩ => ?_⟩
  have stays : ∀ b o, base.get? b = some o → s.heap.get? b = some o := fun b o e => (e0.bs b o e).1
  have inK : Γ.K.In s.heap := e0.mod.kin.keeps stays
  have kinds : ∀ y ∈ ps.zip us, (defScope st).names.lookup y.1 = some .local ∨ ((defScope st).names.lookup y.1 = some .cell ∧ ((cellsFrom (s.heap.objs.size + 1) (defScope st).names []).lookup y.1).isSome = true) := by
    rintro ⟨n, v⟩ hy
    exact (S.par n (List.of_mem_zip hy).1).imp id fun q => ⟨q, PySem.W.cellsFrom_some _ _ _ (.inl q)⟩
  refine codeAny_call_function room.depth (inK _ _ lk) rfl S.co S.gen rfl (PySem.W.codeRec_of inK hcd) (binds _ _ _ _ ?_)
  refine wpAny_newFunctionEnv_cells S.kind kinds fun env he s1 entered => ?_
  subst he
  refine ⟨(e0.mod.nolimit.keeps stays).keeps entered.toInCall.keep, codeAny_func ?_⟩
  have I := inv_start (CX := L2.CX P w) (E := E) (cd := cdv) S room.hd e0 hlen rel entered
  have tk : Takes (cxF Γ P w mg base N qual st f cdv A outer s H E) (fun cls d _ H' => E cls d H') := takes_of rfl rfl rfl rfl
  have run := (hbody cdv A outer s H E _ (room.deeper _) (by show (A.deeper _).guards = _; rw [← guards]; rfl) tk).run [] s1 (L2.start N vs) H { nx := fun _ H' => Q .non H', rt := Q } I
    ⟨μ, Z, startD N.length ws, st0, re_start rws, hR, body_end hR post⟩
  refine wpAny_mono run (fun fl s' hs => ?_) fun e s' hs => hs
  cases fl with
  | ret u =>
    obtain ⟨v, σ', H', J, rv, q⟩ := hs
    exact ⟨v, H', J.os, J.bare, J.base, J.hok, rv, q⟩
  | next =>
    obtain ⟨σ', H', J, q⟩ := hs
    exact ⟨V.non, H', J.os, J.bare, J.base, J.hok, rfl, q⟩
  | brk => exact hs.elim fun _ z => z.elim fun _ z => z.2.elim
  | cont => exact hs.elim fun _ z => z.elim fun _ z => z.2.elim

/-! ### calls -/
section
variable {X : Cx} {Γ : Ct} {W : WX} {k : Nat} {f : Addr} {fd : FuncData} {ps : List Str} {den : Fn} {x : Str} {p pos : Pos} {e : Expr} {es : List Expr} {fa : FA}
def mCall (den : Fn) (fa : FA) : FE := fun ρ s => (fa ρ s).bind den
theorem post_call {H : Hp} {μ : Mu} {Z : Zs} {σ : L2.St} {Q : VK} {r : R Dv} (h : PostE Γ W H μ Z σ Q r) : PostE Γ (fun c d _ H' => WE W σ c d H') H μ Z [] Q r := by
  cases r with
  | ok w s => exact h
  | er x s => exact h
  | no => exact h
theorem run_G {pins : List (Addr × Obj)} {σ : L2.St} {H : Hp} {s : Shared} {Q : VK} {us : List Value} {ds : List Value} {vs dvs : List V} (F : FnG X.prog X.w X.mg X.base Γ k f fd ps den) (hK : Γ.K = X.K) (hr : Room k X.A) (hg : X.A.guards = some []) (hb : Binds X.K fd ps ds) (hd : Vals dvs ds) (tk : Takes X W)
    (I : Inv X pins σ H s) (r : Vals vs us) (h : spM Γ ps den (vs ++ dvs) H Q (WE W σ)) : wpAny (model X.prog X.w) X.A (call (.ref f) us) (EP X pins σ Q) X.xe s := by
  have r2 : Vals (vs ++ dvs) (us ++ ds) := r.append hd
  have hl : (us ++ ds).length = ps.length := r2.length.symm.trans h.1
  refine wpAny_call (codeAny_mono (F.run X.A X.stack s H ⟨us, []⟩ (us ++ ds) (vs ++ dvs) Q (WE W σ) hr hg (by rw [hK]; exact I.env0) (hb s us I.kIn hl) r2 h) fun r' s' hq => ?_)
  cases r' with
  | error e => exact passAt tk σ pins H s e s' I hq
  | ok fl =>
    cases fl with
    | ret u => exact I.after hq
    | next => exact hq.elim
    | brk => exact hq.elim
    | cont => exact hq.elim
/-- f(e, ..), f a def of the text; ds its defaults -/
theorem me_call {ds : List Value} {dvs : List V} {dws : List Dv} (F : FnG X.prog X.w X.mg X.base Γ k f fd ps den) (hK : Γ.K = X.K) (hr : Room k X.A) (hg : X.A.guards = some []) (hgl : Gl X x) (hm : X.mg x = some (.ref f)) (hk : PySem.W.keepIn X.K (.ref f) = true) (hb : Binds X.K fd ps ds) (hd : Vals dvs ds)
    (hdw : ∀ H μ Z, RVs Γ H μ Z dws dvs) (n : Nat) (hn : n + dws.length = ps.length) (hnl : (e :: es).length = n) (tk : Takes X W) (ha : MA X Γ W (e :: es) fa) (hlen : ∀ ρ s ws s', fa ρ s = .ok ws s' → ws.length = n) (hdb : (x == ("__debug__" : Str)) = false := by decide)
    (he : starEach (e :: es) X.env = (false, eval e X.env) :: starEach es X.env := by rfl) (hpl : (backTo pos (starEach es X.env)).any (·.1) = false := by rfl) :
    ME X Γ W (.Call (.Name x p) (e :: es) [] pos) (mCall (fun ws => den (ws ++ dws)) fa) := by
  refine ⟨fun pins s σ H Q I ⟨μ, Z, ρ, s0, hE, hR, q⟩ => ?_⟩
  refine wpAny_Call_Name_kw (ld_glob I hgl hm ?_ hdb)
  have q' : rdA Γ W fa σ H fun vs H1 => spM Γ ps den (vs ++ dvs) H1 Q (WE W σ) := by
    refine ⟨μ, Z, ρ, s0, hE, hR, ?_⟩
    unfold mCall at q
    cases e1 : fa ρ s0 with
    | ok ws s1 =>
      rw [e1] at q
      have q2 : PostE Γ W H μ Z σ Q (den (ws ++ dws) s1) := q
      intro vs H1 μ1 ev R1 r1
      refine ⟨?_, μ1, Z, s1, ws ++ dws, R1, r1.append (hdw H1 μ1 Z), post_call (PostE.evo ev q2)⟩
      rw [List.length_append, r1.len, hlen _ _ _ _ e1, (hdw H1 μ1 Z).len, hn]
    | er x1 s1 => rw [e1] at q; exact q
    | no => rw [e1] at q; exact q
  refine PySem.W.callWith_K (h₀ := X.base) I.ok.mod.kin hk (thn (ha.run pos pins s σ H _ I q') fun us s1 ⟨vs, H1, I1, r, z⟩ => ⟨I1.kIn, ?_⟩) he hpl
  exact run_G F hK hr hg hb hd tk I1 r z
end
end MP

set_option Elab.async false
set_option linter.all false
set_option maxRecDepth 100000
set_option maxHeartbeats 4000000
namespace MP
open PySem PySem.Spec PyProof.Rows L2

/-! ### built-in functions -/
abbrev ON := Sto → List Dv → Option Dv
def OpN (Γ : Ct) (r : List V → Hp → VK → Prop) (op : ON) : Prop := ∀ (H : Hp) (μ : Mu) (Z : Zs) (s : Sto) (xs : List Dv) (w : Dv) (vs : List V) (Q : VK), Rep Γ H μ Z s → RVs Γ H μ Z xs vs → op s xs = some w →
  (∀ v' H', Evo H μ H' μ → Rep Γ H' μ Z s → RV Γ H' μ Z w v' → Q v' H') → r vs H Q
def mBlt (op : ON) (fa : FA) : FE := fun ρ s => (fa ρ s).bind fun ws s1 => R.of (op s1 ws) s1
section
variable {X : Cx} {Γ : Ct} {W : WX} {x : Str} {p pos : Pos} {e : Expr} {es : List Expr} {fa : FA} {id T : String} {r r' : List V → Hp → VK → Prop} {op op' : ON}
theorem blt_ok {t : TE} {ta : TA} (ht : t = tCB r (rdA Γ W fa)) (hs : OpN Γ r op) (h : PE X e t) : ME X Γ W e (mBlt op fa) := by
  subst ht
  exact PE.imp h fun σ H Q ⟨μ, Z, ρ, s, hE, hR, q⟩ => aE hE hR q fun ws s1 vs H1 μ1 e1 E1 R1 r1 q1 => by
    obtain ⟨w, hw, k⟩ := ofE q1
    exact hs H1 μ1 Z s1 ws w vs Q R1 r1 hw k
theorem me_callB (hc : CallR X (.builtin id) r) (hs : OpN Γ r op) (hg : Gl X x) (hm : X.mg x = none) (hv : bootBuiltins x = some (.builtin id)) (ha : MA X Γ W (e :: es) fa) (hn : x ≠ "__name__" := by decide) (hdb : (x == ("__debug__" : Str)) = false := by decide)
    (he : starEach (e :: es) X.env = (false, eval e X.env) :: starEach es X.env := by rfl) (hpl : (backTo pos (starEach es X.env)).any (·.1) = false := by rfl) : ME X Γ W (.Call (.Name x p) (e :: es) [] pos) (mBlt op fa) :=
  blt_ok (ta := rdA Γ W fa) rfl hs (pe_callB hc hg hm hv ha hn hdb he hpl)
theorem me_callTy (hc : CallR X (.type T) r) (hs : OpN Γ r op) (hg : Gl X x) (hm : X.mg x = none) (hv : bootBuiltins x = some (.type T)) (ha : MA X Γ W (e :: es) fa) (hn : x ≠ "__name__" := by decide) (hdb : (x == ("__debug__" : Str)) = false := by decide)
    (he : starEach (e :: es) X.env = (false, eval e X.env) :: starEach es X.env := by rfl) (hpl : (backTo pos (starEach es X.env)).any (·.1) = false := by rfl) : ME X Γ W (.Call (.Name x p) (e :: es) [] pos) (mBlt op fa) :=
  blt_ok (ta := rdA Γ W fa) rfl hs (pe_callTy hc hg hm hv ha hn hdb he hpl)
theorem OpN.or (h : OpN Γ r op) (h' : OpN Γ r' op') : OpN Γ (fun x H Q => r x H Q ∨ r' x H Q) (fun s xs => match op s xs with
    | some w => some w
    | none => op' s xs) := fun H μ Z s xs w vs Q hR rx e k => by
  dsimp only at e
  split at e
  · rename_i w' e'
    cases e
    exact .inl (h H μ Z s xs _ vs Q hR rx e' k)
  · exact .inr (h' H μ Z s xs w vs Q hR rx e k)
/-- len -/
def lenD : ON := fun s xs => match xs with
  | [.str x] => if x.length ≤ lim then some (.int x.length) else none
  | [x] => (seqOf s x).map fun ws => .int ws.length
  | _ => none
theorem one {H : Hp} {μ : Mu} {Z : Zs} {x : Dv} {vs : List V} (r : RVs Γ H μ Z [x] vs) : ∃ v, vs = [v] ∧ RV Γ H μ Z x v := by
  obtain ⟨v, xs, rfl, h1, h2⟩ := r
  exact ⟨v, by rw [show xs = [] from h2], h1⟩
theorem two {H : Hp} {μ : Mu} {Z : Zs} {x y : Dv} {vs : List V} (r : RVs Γ H μ Z [x, y] vs) : ∃ v u, vs = [v, u] ∧ RV Γ H μ Z x v ∧ RV Γ H μ Z y u := by
  obtain ⟨v, xs, rfl, h1, u, ys, rfl, h2, h3⟩ := r
  exact ⟨v, u, by rw [show ys = [] from h3], h1, h2⟩
theorem sLen (hK : Γ.K = X.K) : OpN Γ (fun xs H Q => ∃ x n, xs = [x] ∧ LenV X.K x H n ∧ Q (.int n) H) lenD := fun H μ Z s xs w vs Q hR rx e k => by
  rw [← hK]
  unfold lenD at e
  split at e
  · rename_i y
    split at e
    · rename_i hl
      cases e
      obtain ⟨v, rfl, r1⟩ := one rx
      exact ⟨v, _, rfl, by rw [show v = .str y from r1]; exact ⟨lim_ok hl, rfl⟩, k _ H .refl hR rfl⟩
    · cases e
  · rename_i y _
    cases q : seqOf s y with
    | none => rw [q] at e; cases e
    | some ws =>
      rw [q] at e
      cases e
      obtain ⟨v, rfl, r1⟩ := one rx
      obtain ⟨a, ys, rfl, h2, h3⟩ := seqOf_ok hR r1 q
      refine ⟨_, ws.length, rfl, ?_, k _ H .refl hR rfl⟩
      rcases h2 with h2 | h2
      · exact .inl ⟨ys, h2, h3.len.symm⟩
      · exact .inr ⟨ys, h2, h3.len.symm⟩
  · cases e
/-- tuple(xs), list(xs) -/
def tupleD : ON := fun s xs => match xs with
  | [.tup ws] => some (.tup ws)
  | [.sq ws] => some (.tup ws)
  | [x] => (lstOf s x).map .tup
  | _ => none
theorem sTuple (hK : Γ.K = X.K) : OpN Γ (fun xs H Q => ∃ p ys, xs = [.ref p] ∧ ((SqL X.K H p ys ∧ ∀ l, H l = none → Q (.ref l) (upd H l (.tup ys))) ∨ (SqT X.K H p ys ∧ Q (.ref p) H))) tupleD := fun H μ Z s xs w vs Q hR rx e k => by
  rw [← hK]
  unfold tupleD at e
  split at e
  · cases e
    obtain ⟨v, rfl, a, ys, rfl, h2, h3⟩ := one rx
    exact ⟨a, ys, rfl, .inr ⟨h2.sq, k _ H .refl hR ⟨a, ys, rfl, h2, h3⟩⟩⟩
  · cases e
    obtain ⟨v, rfl, a, ys, rfl, h2, h3⟩ := one rx
    exact ⟨a, ys, rfl, .inl ⟨h2.sq, fun l hl => k _ _ (Evo.laid hl) (hR.laid hl) (new_tup hR hl h3)⟩⟩
  · rename_i y _ _
    cases q : lstOf s y with
    | none => rw [q] at e; cases e
    | some ws =>
      rw [q] at e
      cases e
      obtain ⟨v, rfl, r1⟩ := one rx
      obtain ⟨a, ys, rfl, h2, h3⟩ := lstOf_ok hR r1 q
      exact ⟨a, ys, rfl, .inl ⟨SqL.of h2, fun l hl => k _ _ (Evo.laid hl) (hR.laid hl) (new_tup hR hl h3)⟩⟩
  · cases e
def listD : ON := fun s xs => match xs with
  | [x] => (seqOf s x).map .lst
  | _ => none
theorem sList (hK : Γ.K = X.K) : OpN Γ (fun xs H Q => ∃ p ys, xs = [.ref p] ∧ (SqL X.K H p ys ∨ SqT X.K H p ys) ∧ ∀ l, H l = none → Q (.ref l) (upd H l (.lst ys))) listD := fun H μ Z s xs w vs Q hR rx e k => by
  rw [← hK]
  unfold listD at e
  split at e
  · rename_i y
    cases q : seqOf s y with
    | none => rw [q] at e; cases e
    | some ws =>
      rw [q] at e
      cases e
      obtain ⟨v, rfl, r1⟩ := one rx
      obtain ⟨a, ys, rfl, h2, h3⟩ := seqOf_ok hR r1 q
      exact ⟨a, ys, rfl, h2, fun l hl => k _ _ (Evo.laid hl) (hR.laid hl) (new_lst hR hl h3)⟩
  · cases e
/-- ints of a list -/
def intOf : Dv → Option Int
  | .int i => some i
  | _ => none
def intsOf (ws : List Dv) : Option (List Int) := mapO intOf ws
theorem intsOf_ok : ∀ {ws : List Dv} {ns : List Int}, intsOf ws = some ns → ws = ns.map .int
  | [], ns, e => by cases e; rfl
  | w :: ws, ns, e => by
    unfold intsOf at e
    simp only [mapO] at e
    split at e
    · rename_i b bs e1 e2
      cases e
      rw [intsOf_ok (ws := ws) (ns := bs) e2]
      cases w with
      | int i => cases e1; rfl
      | _ => cases e1
    · cases e
theorem intsOf_map : ∀ ns : List Int, intsOf (ns.map .int) = some ns
  | [] => rfl
  | n :: ns => by
    have := intsOf_map ns
    unfold intsOf at this ⊢
    rw [List.map_cons, mapO, this]
    rfl
/-- sorting by insertion -/
def ins (a : Int) : List Int → List Int
  | [] => [a]
  | b :: r => if a ≤ b then a :: b :: r else b :: ins a r
def srt : List Int → List Int
  | [] => []
  | a :: r => ins a (srt r)
theorem ins_perm (a : Int) : ∀ l : List Int, (ins a l).Perm (a :: l)
  | [] => .refl _
  | b :: r => by
    unfold ins
    split
    · exact .refl _
    · exact ((ins_perm a r).cons b).trans (.swap a b r)
theorem srt_perm : ∀ l : List Int, (srt l).Perm l
  | [] => .refl _
  | a :: r => (ins_perm a (srt r)).trans ((srt_perm r).cons a)
theorem ins_sorted (a : Int) : ∀ l : List Int, l.Pairwise (· ≤ ·) → (ins a l).Pairwise (· ≤ ·)
  | [], _ => List.pairwise_singleton _ _
  | b :: r, h => by
    unfold ins
    obtain ⟨h1, h2⟩ := List.pairwise_cons.mp h
    split
    · rename_i hab
      refine List.pairwise_cons.mpr ⟨fun c hc => ?_, h⟩
      rcases List.mem_cons.mp hc with e | e
      · rw [e]; exact hab
      · exact Int.le_trans hab (h1 c e)
    · rename_i hab
      refine List.pairwise_cons.mpr ⟨fun c hc => ?_, ins_sorted a r h2⟩
      rcases List.mem_cons.mp ((ins_perm a r).mem_iff.mp hc) with e | e
      · rw [e]; omega
      · exact h1 c e
theorem srt_sorted : ∀ l : List Int, (srt l).Pairwise (· ≤ ·)
  | [] => .nil
  | a :: r => ins_sorted a _ (srt_sorted r)
theorem sorted_eq : ∀ {l l' : List Int}, l.Perm l' → l.Pairwise (· ≤ ·) → l'.Pairwise (· ≤ ·) → l = l'
  | [], l', p, _, _ => (List.nil_perm.mp p).symm
  | a :: r, [], p, _, _ => (List.cons_ne_nil a r (List.perm_nil.mp p)).elim
  | a :: r, b :: t, p, h, h' => by
    obtain ⟨h1, h2⟩ := List.pairwise_cons.mp h
    obtain ⟨g1, g2⟩ := List.pairwise_cons.mp h'
    have hab : a = b := by
      have ha : a ∈ b :: t := p.mem_iff.mp List.mem_cons_self
      have hb : b ∈ a :: r := p.mem_iff.mpr List.mem_cons_self
      rcases List.mem_cons.mp ha with e | e
      · exact e
      · rcases List.mem_cons.mp hb with e' | e'
        · exact e'.symm
        · exact Int.le_antisymm (h1 b e') (g1 a e)
    subst hab
    rw [sorted_eq (List.perm_cons a |>.mp p) h2 g2]
theorem srt_uniq {l l' : List Int} (p : l'.Perm l) (h : l'.Pairwise (· ≤ ·)) : l' = srt l := sorted_eq (p.trans (srt_perm l).symm) h (srt_sorted l)
def sortedD : ON := fun s xs => match xs with
  | [x] => match lstOf s x with
    | some ws => (intsOf ws).map fun ns => .lst ((srt ns).map .int)
    | none => none
  | _ => none
theorem sSorted (hK : Γ.K = X.K) : OpN Γ (rSortedI X.K) sortedD := fun H μ Z s xs w vs Q hR rx e k => by
  rw [← hK]
  unfold sortedD at e
  split at e
  · rename_i y
    split at e
    · rename_i ws q
      cases q2 : intsOf ws with
      | none => rw [q2] at e; cases e
      | some ns =>
        rw [q2] at e
        cases e
        obtain ⟨v, rfl, r1⟩ := one rx
        obtain ⟨a, ys, rfl, h2, h3⟩ := lstOf_ok hR r1 q
        rw [intsOf_ok q2] at h3
        have h4 := h3.ints
        subst h4
        refine ⟨a, ns, rfl, SqL.of h2, fun ns' p hp hs hn => ?_⟩
        rw [srt_uniq hp hs]
        exact k _ _ (Evo.laid hn) (hR.laid hn) (new_lst hR hn (RVs.of_ints _))
    · cases e
  · cases e
def sumD : ON := fun s xs => match xs with
  | [x] => match lstOf s x with
    | some ws => (intsOf ws).map fun ns => .int ns.sum
    | none => none
  | _ => none
theorem sSum (hK : Γ.K = X.K) : OpN Γ (rSum X.K) sumD := fun H μ Z s xs w vs Q hR rx e k => by
  rw [← hK]
  unfold sumD at e
  split at e
  · rename_i y
    split at e
    · rename_i ws q
      cases q2 : intsOf ws with
      | none => rw [q2] at e; cases e
      | some ns =>
        rw [q2] at e
        cases e
        obtain ⟨v, rfl, r1⟩ := one rx
        obtain ⟨a, ys, rfl, h2, h3⟩ := lstOf_ok hR r1 q
        rw [intsOf_ok q2] at h3
        have h4 := h3.ints
        subst h4
        exact ⟨a, ns, rfl, SqL.of h2, k _ H .refl hR rfl⟩
    · cases e
  · cases e
def min2D : ON := fun _ xs => match xs with
  | [.int i, .int j] => some (.int (if j < i then j else i))
  | _ => none
theorem sMin2 : OpN Γ (fun xs H Q => ∃ i j, xs = [.int i, .int j] ∧ Q (.int (if j < i then j else i)) H) min2D := fun H μ Z s xs w vs Q hR rx e k => by
  unfold min2D at e
  split at e
  · rename_i i j
    cases e
    obtain ⟨v, u, rfl, r1, r2⟩ := two rx
    exact ⟨i, j, by rw [show v = _ from r1, show u = _ from r2], k _ H .refl hR rfl⟩
  · cases e
def max2D : ON := fun _ xs => match xs with
  | [.int i, .int j] => some (.int (if j > i then j else i))
  | _ => none
theorem sMax2 : OpN Γ (fun xs H Q => ∃ i j, xs = [.int i, .int j] ∧ Q (.int (if j > i then j else i)) H) max2D := fun H μ Z s xs w vs Q hR rx e k => by
  unfold max2D at e
  split at e
  · rename_i i j
    cases e
    obtain ⟨v, u, rfl, r1, r2⟩ := two rx
    exact ⟨i, j, by rw [show v = _ from r1, show u = _ from r2], k _ H .refl hR rfl⟩
  · cases e
def absD : ON := fun _ xs => match xs with
  | [.int i] => some (.int (if i < 0 then -i else i))
  | _ => none
theorem sAbs : OpN Γ (fun xs H Q => ∃ i, xs = [.int i] ∧ Q (.int (if i < 0 then -i else i)) H) absD := fun H μ Z s xs w vs Q hR rx e k => by
  unfold absD at e
  split at e
  · rename_i i
    cases e
    obtain ⟨v, rfl, r1⟩ := one rx
    exact ⟨i, by rw [show v = _ from r1], k _ H .refl hR rfl⟩
  · cases e
def intD : ON := fun _ xs => match xs with
  | [.int i] => some (.int i)
  | [.bl b] => some (.int (if b then 1 else 0))
  | _ => none
theorem sInt : OpN Γ (fun xs H Q => (∃ i, xs = [.int i] ∧ Q (.int i) H) ∨ ∃ k, xs = [.bl k] ∧ Q (.int (if k then 1 else 0)) H) intD := fun H μ Z s xs w vs Q hR rx e k => by
  unfold intD at e
  split at e
  · rename_i i
    cases e
    obtain ⟨v, rfl, r1⟩ := one rx
    exact .inl ⟨i, by rw [show v = _ from r1], k _ H .refl hR rfl⟩
  · rename_i b
    cases e
    obtain ⟨v, rfl, r1⟩ := one rx
    exact .inr ⟨b, by rw [show v = _ from r1], k _ H .refl hR rfl⟩
  · cases e
/-- isinstance of a built-in class -/
def tyName : Dv → Option String
  | .non => some "NoneType" | .bl _ => some "bool" | .int _ => some "int" | .str _ => some "str" | .tup _ => some "tuple" | .lst _ => some "list" | .dct _ _ => some "dict"
  | _ => none
def sub (a b : String) : Option Bool := match a, b with
  | "NoneType", "int" => some false | "NoneType", "bool" => some false | "NoneType", "tuple" => some false | "NoneType", "str" => some false | "NoneType", "list" => some false
  | "bool", "int" => some true | "bool", "bool" => some true | "bool", "tuple" => some false | "bool", "str" => some false | "bool", "list" => some false
  | "int", "int" => some true | "int", "bool" => some false | "int", "tuple" => some false | "int", "str" => some false | "int", "list" => some false
  | "str", "int" => some false | "str", "bool" => some false | "str", "tuple" => some false | "str", "str" => some true | "str", "list" => some false
  | "tuple", "int" => some false | "tuple", "bool" => some false | "tuple", "tuple" => some true | "tuple", "str" => some false | "tuple", "list" => some false
  | "list", "int" => some false | "list", "bool" => some false | "list", "tuple" => some false | "list", "str" => some false | "list", "list" => some true
  | "dict", "int" => some false | "dict", "bool" => some false | "dict", "tuple" => some false | "dict", "str" => some false | "dict", "list" => some false
  | _, _ => none
theorem sub_ok {a b : String} {r : Bool} (h : sub a b = some r) : kitB a b = some r := by
  unfold sub at h
  split at h <;> first
    | (cases h; decide +kernel)
    | cases h
def isiD : ON := fun _ xs => match xs with
  | [x, .ty n] => match tyName x with
    | some t => (sub t n).map .bl
    | none => none
  | _ => none
theorem tyName_ok {H : Hp} {μ : Mu} {Z : Zs} {x : Dv} {v : V} {t : String} (r : RV Γ H μ Z x v) (e : tyName x = some t) : TyX Γ.K H v (.type t) := by
  cases x with
  | non => cases e; rw [show v = _ from r]; exact .base .non
  | bl b => cases e; rw [show v = _ from r]; exact .base (.bl b)
  | int b => cases e; rw [show v = _ from r]; exact .base (.int b)
  | str b => cases e; rw [show v = _ from r]; exact .base (.str b)
  | tup ws =>
    cases e
    obtain ⟨a, xs, rfl, h2, h3⟩ := r
    rcases h2 with ⟨h2 | ⟨o, h2⟩, _⟩ | ⟨o, its, n, h2, h4, _⟩
    · exact .base (.tup h2)
    · exact .fTuple h2
    · exact .kTuple h2 h4
  | lst ws =>
    cases e
    obtain ⟨a, xs, rfl, h2, h3⟩ := r
    exact .base (.lst h2)
  | dct ks ws =>
    cases e
    obtain ⟨a, kvs, rfl, h2, h3⟩ := r
    exact .base (.dK h2)
  | _ => cases e
theorem sIsi (hK : Γ.K = X.K) : OpN Γ (rIsi X.K) isiD := fun H μ Z s xs w vs Q hR rx e k => by
  rw [← hK]
  unfold isiD at e
  split at e
  · rename_i y n
    split at e
    · rename_i t q
      cases q2 : sub t n with
      | none => rw [q2] at e; cases e
      | some b =>
        rw [q2] at e
        cases e
        obtain ⟨v, u, rfl, r1, r2⟩ := two rx
        exact ⟨v, u, .type t, .type n, b, rfl, by rw [show u = _ from r2]; exact .ty n, tyName_ok r1 q, kit_ty (sub_ok q2), k _ H .refl hR rfl⟩
    · cases e
  · cases e

/-! ### repr -/
def rRepr (K : PySem.W.Frag) : List V → Hp → VK → Prop := fun xs H Q => ∃ (x : V) (a : Addr) (d : PyData), xs = [x] ∧ x = .ref a ∧ Dp K H x d ∧ d.showable = true ∧ d.hasDict = false ∧ d.depth ≤ 60 ∧ d.shown.length ≤ sizeLine ∧ Q (.str d.shown) H
theorem call_repr (hg : X.A.guards = some []) (hu : X.A.units + 64 < cLine) : CallR X (.builtin "repr") (rRepr X.K) := by
  intro pins s σ H xs us Q I r h
  obtain ⟨x, a, d, rfl, rfl, hd, h1, h2, h3, h4, q⟩ := h
  obtain ⟨us', e, _⟩ : ∃ u, us = [u] ∧ RelV (.ref a) u := by
    cases r with
    | cons ru rn => cases rn; exact ⟨_, rfl, ru⟩
  subst e
  have er : us' = Value.ref a := by
    cases r with
    | cons ru rn => exact ru
  subst er
  obtain ⟨as, rd⟩ := hd.reads I d _ _ rfl
  exact repr_of_reads' rd h1 (fun z => by rw [h2] at z; cases z) hg (by omega) (fun _ _ z => z) (fun h' u tk k => ⟨.str d.shown, H, I.kept (t' := tk) k, ⟨u, rfl⟩, q⟩) h4
end
end MP

set_option Elab.async false
set_option linter.all false
set_option maxRecDepth 100000
set_option maxHeartbeats 4000000
namespace MP
open PySem PySem.Spec PyProof.Rows L2

section
variable {X : Cx} {Γ : Ct} {W : WX} {a b e : Expr} {f g : FE} {pos : Pos}
/-! ### one of two operators -/
def orO (o o' : O2) : O2 := fun s x y => match o s x y with
  | some w => some w
  | none => o' s x y
theorem bin_or {o o' : O2} (h : ME X Γ W e (mBin o f g)) (h' : ME X Γ W e (mBin o' f g)) : ME X Γ W e (mBin (orO o o') f g) :=
  PE.imp (PE.or h h') fun σ H Q ⟨μ, Z, ρ, s, hE, hR, q⟩ => by
    have key : PostE Γ W H μ Z σ Q (mBin o f g ρ s) ∨ PostE Γ W H μ Z σ Q (mBin o' f g ρ s) := by
      unfold mBin at q ⊢
      revert q
      cases f ρ s with
      | no => exact .inl
      | er x s1 => exact .inl
      | ok x s1 =>
        dsimp only [R.bind]
        cases g ρ s1 with
        | no => exact .inl
        | er y s2 => exact .inl
        | ok y s2 =>
          dsimp only
          intro q
          unfold orO at q
          cases e1 : o s2 x y with
          | some w => rw [e1] at q; exact .inl q
          | none => rw [e1] at q; exact .inr q
    exact key.imp (fun z => ⟨μ, Z, ρ, s, hE, hR, z⟩) fun z => ⟨μ, Z, ρ, s, hE, hR, z⟩

/-! ### subscripts -/
theorem RVs.at {H : Hp} {μ : Mu} {Z : Zs} {ws : List Dv} {xs : List V} {i : Int} {w : Dv} (r : RVs Γ H μ Z ws xs) (e : atI ws i = some w) : ∃ x, atI xs i = some x ∧ RV Γ H μ Z w x := by
  unfold atI at e ⊢
  rw [r.len]
  cases q : ixN ws.length i with
  | none => rw [q] at e; cases e
  | some j =>
    rw [q] at e
    exact r.get e
def lstOrSq (s : Sto) : Dv → Option (List Dv)
  | .sq ws => some ws
  | w => lstOf s w
def ixL : O2 := fun s x y => match y with
  | .int i => (lstOrSq s x).bind fun ws => atI ws i
  | _ => none
def ixT : O2 := fun _ x y => match y with
  | .int i => (tupOf x).bind fun ws => atI ws i
  | _ => none
theorem lstOrSq_ok {H : Hp} {μ : Mu} {Z : Zs} {s : Sto} {w : Dv} {v : V} {ws : List Dv} (hR : Rep Γ H μ Z s) (r : RV Γ H μ Z w v) (e : lstOrSq s w = some ws) : ∃ a xs, v = .ref a ∧ SqL Γ.K H a xs ∧ RVs Γ H μ Z ws xs := by
  unfold lstOrSq at e
  split at e
  · cases e
    obtain ⟨a, xs, h1, h2, h3⟩ := r
    exact ⟨a, xs, h1, h2.sq, h3⟩
  · obtain ⟨a, xs, h1, h2, h3⟩ := lstOf_ok hR r e
    exact ⟨a, xs, h1, SqL.of h2, h3⟩
theorem tupOf_ok {H : Hp} {μ : Mu} {Z : Zs} {w : Dv} {v : V} {ws : List Dv} (r : RV Γ H μ Z w v) (e : tupOf w = some ws) : ∃ a xs, v = .ref a ∧ SqT Γ.K H a xs ∧ RVs Γ H μ Z ws xs := by
  cases w with
  | tup us =>
    cases e
    obtain ⟨a, xs, h1, h2, h3⟩ := r
    exact ⟨a, xs, h1, h2.sq, h3⟩
  | _ => cases e
theorem sIxL : Op2 Γ (rIxL Γ.K) ixL := fun H μ Z s x y w u v Q hR r1 r2 e k => by
  unfold ixL at e
  split at e
  · rename_i i
    cases q : lstOrSq s x with
    | none => rw [q] at e; cases e
    | some ws =>
      rw [q] at e
      obtain ⟨p, xs, h1, h2, h3⟩ := lstOrSq_ok hR r1 q
      obtain ⟨z, g1, g2⟩ := h3.at e
      exact ⟨p, xs, i, z, h1, r2, h2, g1, k _ H .refl hR g2⟩
  · cases e
theorem sIxT : Op2 Γ (rIxT Γ.K) ixT := fun H μ Z s x y w u v Q hR r1 r2 e k => by
  unfold ixT at e
  split at e
  · rename_i i
    cases q : tupOf x with
    | none => rw [q] at e; cases e
    | some ws =>
      rw [q] at e
      obtain ⟨p, xs, h1, h2, h3⟩ := tupOf_ok r1 q
      obtain ⟨z, g1, g2⟩ := h3.at e
      exact ⟨p, xs, i, z, h1, r2, h2, g1, k _ H .refl hR g2⟩
  · cases e
/-- dicts of the store -/
def keyOf : Dv → Option Key
  | .int i => some (.inl i)
  | .str x => some (.inr x)
  | _ => none
def valD (kws : List (Key × Dv)) (k : Key) : Option Dv := (kws.find? fun p => decide (p.1 = k)).map (·.2)
def putD (kws : List (Key × Dv)) (k : Key) (w : Dv) : List (Key × Dv) :=
  if (kws.any fun p => decide (p.1 = k)) = true then kws.map (fun p => if p.1 = k then (p.1, w) else p) else kws ++ [(k, w)]
def dctOf (s : Sto) : Dv → Option (List (Key × Dv))
  | .ref n => match s[n]? with
    | some (.dct kws) => some kws
    | _ => none
  | _ => none
def ixD : O2 := fun s x y => match dctOf s x, keyOf y with
  | some kws, some k => valD kws k
  | _, _ => none
theorem keyOf_ok {H : Hp} {μ : Mu} {Z : Zs} {w : Dv} {v : V} {k : Key} (r : RV Γ H μ Z w v) (e : keyOf w = some k) : v = kV k := by
  cases w with
  | int i => cases e; exact r
  | str x => cases e; exact r
  | _ => cases e
theorem valD_ok {H : Hp} {μ : Mu} {Z : Zs} {k : Key} {w : Dv} : ∀ {kws : List (Key × Dv)} {kvs : List (Key × V)}, kvs.map (·.1) = kws.map (·.1) → RVs Γ H μ Z (kws.map (·.2)) (kvs.map (·.2)) → valD kws k = some w → ∃ v, valV kvs k = some v ∧ RV Γ H μ Z w v
  | [], kvs, _, _, e => by cases e
  | p :: kws, [], h, _, e => by cases h
  | p :: kws, q :: kvs, h, r, e => by
    obtain ⟨h1, h2⟩ := List.cons.inj h
    obtain ⟨x, xs, h3, r1, r2⟩ := r
    obtain ⟨h4, h5⟩ := List.cons.inj h3
    subst h4
    by_cases hk : p.1 = k
    · have e1 : valD (p :: kws) k = some p.2 := by simp [valD, List.find?_cons, hk]
      rw [e1] at e
      cases e
      exact ⟨q.2, valV_pos (show q.1 = k from h1.trans hk), r1⟩
    · have e1 : valD (p :: kws) k = valD kws k := by simp [valD, List.find?_cons, hk]
      rw [e1] at e
      obtain ⟨v, g1, g2⟩ := valD_ok (kvs := kvs) h2 (h5 ▸ r2) e
      exact ⟨v, by rw [valV_neg (show ¬ q.1 = k from fun z => hk (h1.symm.trans z))]; exact g1, g2⟩
theorem putD_ok {H : Hp} {μ : Mu} {Z : Zs} {k : Key} {w : Dv} {v : V} (rw' : RV Γ H μ Z w v) {kws : List (Key × Dv)} {kvs : List (Key × V)} (h : kvs.map (·.1) = kws.map (·.1)) (r : RVs Γ H μ Z (kws.map (·.2)) (kvs.map (·.2))) :
    (putK kvs k v).map (·.1) = (putD kws k w).map (·.1) ∧ RVs Γ H μ Z ((putD kws k w).map (·.2)) ((putK kvs k v).map (·.2)) := by
  have hany : ∀ (kws : List (Key × Dv)) (kvs : List (Key × V)), kvs.map (·.1) = kws.map (·.1) → (kvs.any fun p => decide (p.1 = k)) = (kws.any fun p => decide (p.1 = k)) := fun kws => by
    induction kws with
    | nil => intro kvs h; cases kvs with
      | nil => rfl
      | cons _ _ => cases h
    | cons p kws ih => intro kvs h; cases kvs with
      | nil => cases h
      | cons q kvs =>
        obtain ⟨h1, h2⟩ := List.cons.inj h
        have h1' : q.1 = p.1 := h1
        rw [List.any_cons, List.any_cons, ih kvs h2, h1']
  have hmap : ∀ (kws : List (Key × Dv)) (kvs : List (Key × V)), kvs.map (·.1) = kws.map (·.1) → RVs Γ H μ Z (kws.map (·.2)) (kvs.map (·.2)) →
      (kvs.map (fun p => if p.1 = k then (p.1, v) else p)).map (·.1) = (kws.map (fun p => if p.1 = k then (p.1, w) else p)).map (·.1) ∧ RVs Γ H μ Z ((kws.map (fun p => if p.1 = k then (p.1, w) else p)).map (·.2)) ((kvs.map (fun p => if p.1 = k then (p.1, v) else p)).map (·.2)) := fun kws => by
    induction kws with
    | nil => intro kvs h r; cases kvs with
      | nil => exact ⟨rfl, rfl⟩
      | cons _ _ => cases h
    | cons p kws ih => intro kvs h r; cases kvs with
      | nil => cases h
      | cons q kvs =>
        obtain ⟨h1, h2⟩ := List.cons.inj h
        obtain ⟨x, xs, h3, r1, r2⟩ := r
        obtain ⟨h4, h5⟩ := List.cons.inj h3
        have h1' : q.1 = p.1 := h1
        subst h4
        obtain ⟨i1, i2⟩ := ih kvs h2 (h5 ▸ r2)
        by_cases hk : p.1 = k
        · have e1 : (if q.1 = k then (q.1, v) else q) = (q.1, v) := if_pos (h1'.trans hk)
          have e2 : (if p.1 = k then (p.1, w) else p) = (p.1, w) := if_pos hk
          have m1 : ((q :: kvs).map fun p => if p.1 = k then (p.1, v) else p) = (q.1, v) :: kvs.map fun p => if p.1 = k then (p.1, v) else p := by rw [List.map_cons, e1]
          have m2 : ((p :: kws).map fun p => if p.1 = k then (p.1, w) else p) = (p.1, w) :: kws.map fun p => if p.1 = k then (p.1, w) else p := by rw [List.map_cons, e2]
          rw [m1, m2]
          exact ⟨by rw [List.map_cons, List.map_cons, i1, h1'], RVs.cons rw' i2⟩
        · have e1 : (if q.1 = k then (q.1, v) else q) = q := if_neg fun z => hk (h1'.symm.trans z)
          have e2 : (if p.1 = k then (p.1, w) else p) = p := if_neg hk
          have m1 : ((q :: kvs).map fun p => if p.1 = k then (p.1, v) else p) = q :: kvs.map fun p => if p.1 = k then (p.1, v) else p := by rw [List.map_cons, e1]
          have m2 : ((p :: kws).map fun p => if p.1 = k then (p.1, w) else p) = p :: kws.map fun p => if p.1 = k then (p.1, w) else p := by rw [List.map_cons, e2]
          rw [m1, m2]
          exact ⟨by rw [List.map_cons, List.map_cons, i1, h1'], RVs.cons r1 i2⟩
  unfold putK putD
  rw [hany kws kvs h]
  split
  · exact hmap kws kvs h r
  · rw [List.map_append, List.map_append, List.map_append, List.map_append, h]
    exact ⟨rfl, r.append (RVs.cons rw' rfl)⟩
theorem dctOf_ok {H : Hp} {μ : Mu} {Z : Zs} {s : Sto} {w : Dv} {v : V} {kws : List (Key × Dv)} (hR : Rep Γ H μ Z s) (r : RV Γ H μ Z w v) (e : dctOf s w = some kws) : ∃ a kvs, v = .ref a ∧ H a = some (.dK kvs) ∧ kvs.map (·.1) = kws.map (·.1) ∧ RVs Γ H μ Z (kws.map (·.2)) (kvs.map (·.2)) := by
  cases w with
  | ref n =>
    simp only [dctOf] at e
    split at e
    · rename_i us q
      cases e
      obtain ⟨a, h1, h2⟩ := r
      obtain ⟨b', h3, _, kvs, h4, h5, h6⟩ := hR.at n _ q
      rw [h2] at h3
      cases h3
      exact ⟨a, kvs, h1, h4, h5, h6⟩
    · cases e
  | _ => cases e
theorem sIxD : Op2 Γ (fun x y H Q => ∃ a v, x = .ref a ∧ DGet H a y (some v) ∧ Q v H) ixD := fun H μ Z s x y w u v Q hR r1 r2 e k => by
  unfold ixD at e
  split at e
  · rename_i kws kk q1 q2
    obtain ⟨p, kvs, h1, h2, h3, h4⟩ := dctOf_ok hR r1 q1
    obtain ⟨z, g1, g2⟩ := valD_ok h3 h4 e
    refine ⟨p, z, h1, ?_, k _ H .refl hR g2⟩
    rw [keyOf_ok r2 q2, ← g1]
    exact DGet.k h2
  · cases e
theorem me_ixL (hK : Γ.K = X.K) (ha : ME X Γ W a f) (hb : ME X Γ W b g) (hs : PlainIx b) : ME X Γ W (.Subscript a b pos) (mBin ixL f g) :=
  PE.imp (pe_ix ix_list ha hb hs) fun σ H Q ⟨μ, Z, ρ, s, hE, hR, q⟩ => eE hE hR q fun x s1 u H1 μ1 e1 hE1 R1 r1 q1 => eE hE1 R1 q1 fun y s2 v H2 μ2 e2 hE2 R2 r2 q2 => by
    obtain ⟨w, hw, k⟩ := ofE q2
    rw [← hK]
    exact sIxL H2 μ2 Z s2 x y w u v Q R2 (r1.mono e2) r2 hw k
theorem me_ixT (hK : Γ.K = X.K) (ha : ME X Γ W a f) (hb : ME X Γ W b g) (hs : PlainIx b) : ME X Γ W (.Subscript a b pos) (mBin ixT f g) :=
  PE.imp (pe_ix ix_tup ha hb hs) fun σ H Q ⟨μ, Z, ρ, s, hE, hR, q⟩ => eE hE hR q fun x s1 u H1 μ1 e1 hE1 R1 r1 q1 => eE hE1 R1 q1 fun y s2 v H2 μ2 e2 hE2 R2 r2 q2 => by
    obtain ⟨w, hw, k⟩ := ofE q2
    rw [← hK]
    exact sIxT H2 μ2 Z s2 x y w u v Q R2 (r1.mono e2) r2 hw k
theorem me_ixD (hu : X.A.units + 1 < cLine) (ha : ME X Γ W a f) (hb : ME X Γ W b g) (hs : NoSl b) : ME X Γ W (.Subscript a b pos) (mBin ixD f g) :=
  PE.imp (pe_dget hu ha hb hs) fun σ H Q ⟨μ, Z, ρ, s, hE, hR, q⟩ => eE hE hR q fun x s1 u H1 μ1 e1 hE1 R1 r1 q1 => eE hE1 R1 q1 fun y s2 v H2 μ2 e2 hE2 R2 r2 q2 => by
    obtain ⟨w, hw, k⟩ := ofE q2
    exact sIxD H2 μ2 Z s2 x y w u v Q R2 (r1.mono e2) r2 hw k
/-- a[b]: of a list, a tuple, a dict -/
def ixA : O2 := orO (orO ixL ixT) ixD
theorem me_ix (hK : Γ.K = X.K) (hu : X.A.units + 1 < cLine) (ha : ME X Γ W a f) (hb : ME X Γ W b g) (hs : PlainIx b) (hs' : NoSl b) : ME X Γ W (.Subscript a b pos) (mBin ixA f g) :=
  bin_or (bin_or (me_ixL hK ha hb hs) (me_ixT hK ha hb hs)) (me_ixD hu ha hb hs')

/-! ### slices -/
abbrev FO := Env → Sto → R (Option Int)
def PostO (Γ : Ct) (W : WX) (H : Hp) (μ : Mu) (Z : Zs) (σ : L2.St) (Q : Option Int → Hp → Prop) : R (Option Int) → Prop
  | .ok b s' => ∀ H' μ', Evo H μ H' μ' → Rep Γ H' μ' Z s' → Q b H'
  | .er x s' => ∀ cls d H' μ', Evo H μ H' μ' → Rep Γ H' μ' Z s' → RX Γ H' μ' Z x cls d → W cls d σ H'
  | .no => False
def rdO (Γ : Ct) (W : WX) (f : FO) : TO := fun σ H Q => ∃ μ Z ρ s, RE Γ H μ Z ρ σ ∧ Rep Γ H μ Z s ∧ PostO Γ W H μ Z σ Q (f ρ s)
def MO (X : Cx) (Γ : Ct) (W : WX) (e : Option Expr) (f : FO) : Prop := PO X e (rdO Γ W f)
theorem PO.imp {e : Option Expr} {t t' : TO} (h : PO X e t) (k : ∀ σ H Q, t' σ H Q → t σ H Q) : PO X e t' := ⟨fun pins s σ H Q I q => h.run pins s σ H Q I (k σ H Q q)⟩
def mPart (f : FE) : FO := fun ρ s => (f ρ s).bind fun x s1 => match x with
  | .int i => .ok (some i) s1
  | _ => .no
def mNoPart : FO := fun _ s => .ok none s
theorem mo_none : MO X Γ W none mNoPart := PO.imp po_none fun σ H Q ⟨μ, Z, ρ, s, hE, hR, q⟩ => q H μ .refl hR
theorem mo_some (h : ME X Γ W e f) : MO X Γ W (some e) (mPart f) := PO.imp (po_some h) fun σ H Q ⟨μ, Z, ρ, s, hE, hR, q⟩ => by
  refine ⟨μ, Z, ρ, s, hE, hR, ?_⟩
  unfold mPart at q
  cases e1 : f ρ s with
  | no => rw [e1] at q; exact q.elim
  | er x s1 => rw [e1] at q; exact q
  | ok x s1 =>
    rw [e1] at q
    intro v H1 μ1 ev R1 r1
    cases x with
    | int i => exact ⟨i, r1, q H1 μ1 ev R1⟩
    | _ => exact q.elim
abbrev OS := Sto → Dv → Option Int → Option Int → Option Dv
def mSl (op : OS) (f : FE) (lo hi : FO) : FE := fun ρ s => (f ρ s).bind fun x s1 => (lo ρ s1).bind fun l s2 => (hi ρ s2).bind fun u s3 => R.of (op s3 x l u) s3
theorem oE {H : Hp} {μ : Mu} {Z : Zs} {σ : L2.St} {ρ : Env} {s : Sto} {fo : FO} {k : Option Int → Sto → R Dv} {Q : VK} {Q' : Option Int → Hp → Prop} (hE : RE Γ H μ Z ρ σ) (hR : Rep Γ H μ Z s) (h : PostE Γ W H μ Z σ Q ((fo ρ s).bind k))
    (hk : ∀ b s1 H1 μ1, Evo H μ H1 μ1 → RE Γ H1 μ1 Z ρ σ → Rep Γ H1 μ1 Z s1 → PostE Γ W H1 μ1 Z σ Q (k b s1) → Q' b H1) : rdO Γ W fo σ H Q' := by
  refine ⟨μ, Z, ρ, s, hE, hR, ?_⟩
  cases e : fo ρ s with
  | ok x s1 =>
    rw [e] at h
    exact fun H1 μ1 ev R1 => hk x s1 H1 μ1 ev (hE.mono ev) R1 (PostE.evo ev h)
  | er x s1 => rw [e] at h; exact h
  | no => rw [e] at h; exact h.elim
def cutD (ws : List Dv) (lo hi : Option Int) : List Dv := (ws.drop (HT.sIx ws.length 0 lo)).take (HT.sIx ws.length ws.length hi - HT.sIx ws.length 0 lo)
theorem cut_ok {H : Hp} {μ : Mu} {Z : Zs} {ws : List Dv} {xs : List V} (r : RVs Γ H μ Z ws xs) (lo hi : Option Int) : RVs Γ H μ Z (cutD ws lo hi) (cutV xs lo hi) := by
  unfold cutD cutV
  rw [r.len]
  exact (r.drop _).take _
def slL : OS := fun s x lo hi => (lstOrSq s x).map fun ws => .lst (cutD ws lo hi)
def slT : OS := fun _ x lo hi => (tupOf x).map fun ws => .tup (cutD ws lo hi)
variable {lo hi : Option Expr} {flo fhi : FO} {p2 : Pos}
theorem me_slL (hK : Γ.K = X.K) (ha : ME X Γ W e f) (hl : MO X Γ W lo flo) (hh : MO X Γ W hi fhi) : ME X Γ W (.Subscript e (.Slice lo hi none p2) pos) (mSl slL f flo fhi) :=
  PE.imp (pe_slice sl_list ha hl hh) fun σ H Q ⟨μ, Z, ρ, s, hE, hR, q⟩ => eE hE hR q fun x s1 u H1 μ1 e1 hE1 R1 r1 q1 => oE hE1 R1 q1 fun l s2 H2 μ2 e2 hE2 R2 q2 => oE hE2 R2 q2 fun h s3 H3 μ3 e3 hE3 R3 q3 => by
    obtain ⟨w, hw, k⟩ := ofE q3
    unfold slL at hw
    cases q : lstOrSq s3 x with
    | none => rw [q] at hw; cases hw
    | some ws =>
      rw [q] at hw
      cases hw
      obtain ⟨p, xs, h1, h2, h3⟩ := lstOrSq_ok R3 ((r1.mono e2).mono e3) q
      exact ⟨p, xs, h1, hK ▸ h2, fun l' hl' => k _ _ (Evo.laid hl') (R3.laid hl') (new_lst R3 hl' (cut_ok h3 l h))⟩
theorem cut_all {ws : List Dv} {lo hi : Option Int} (h1 : HT.sIx ws.length 0 lo = 0) (h2 : HT.sIx ws.length ws.length hi = ws.length) : cutD ws lo hi = ws := by
  unfold cutD
  rw [h1, h2, List.drop_zero, Nat.sub_zero, List.take_length]
theorem me_slT (hK : Γ.K = X.K) (ha : ME X Γ W e f) (hl : MO X Γ W lo flo) (hh : MO X Γ W hi fhi) : ME X Γ W (.Subscript e (.Slice lo hi none p2) pos) (mSl slT f flo fhi) :=
  PE.imp (pe_slice sl_tupA ha hl hh) fun σ H Q ⟨μ, Z, ρ, s, hE, hR, q⟩ => eE hE hR q fun x s1 u H1 μ1 e1 hE1 R1 r1 q1 => oE hE1 R1 q1 fun l s2 H2 μ2 e2 hE2 R2 q2 => oE hE2 R2 q2 fun h s3 H3 μ3 e3 hE3 R3 q3 => by
    obtain ⟨w, hw, k⟩ := ofE q3
    unfold slT at hw
    have r3 := (r1.mono e2).mono e3
    cases q : tupOf x with
    | none => rw [q] at hw; cases hw
    | some ws =>
      rw [q] at hw
      cases hw
      have hx : x = .tup ws := by cases x <;> cases q <;> rfl
      subst hx
      obtain ⟨p, xs, h1, h2, h3⟩ := id r3
      refine ⟨p, xs, h1, hK ▸ h2.sq, fun ⟨z1, z2⟩ => ?_, fun _ l' hl' => k _ _ (Evo.laid hl') (R3.laid hl') (new_tup R3 hl' (cut_ok h3 l h))⟩
      rw [h3.len] at z1 z2
      refine k _ H3 .refl R3 ?_
      show RV Γ H3 μ3 Z (.tup (cutD ws l h)) _
      rw [cut_all z1 z2, ← h1]
      exact r3
def orS (o o' : OS) : OS := fun s x l u => match o s x l u with
  | some w => some w
  | none => o' s x l u
theorem sl_or {o o' : OS} (h : ME X Γ W e (mSl o f flo fhi)) (h' : ME X Γ W e (mSl o' f flo fhi)) : ME X Γ W e (mSl (orS o o') f flo fhi) :=
  PE.imp (PE.or h h') fun σ H Q ⟨μ, Z, ρ, s, hE, hR, q⟩ => by
    have key : PostE Γ W H μ Z σ Q (mSl o f flo fhi ρ s) ∨ PostE Γ W H μ Z σ Q (mSl o' f flo fhi ρ s) := by
      unfold mSl at q ⊢
      revert q
      cases f ρ s with
      | no => exact .inl
      | er x s1 => exact .inl
      | ok x s1 =>
        dsimp only [R.bind]
        cases flo ρ s1 with
        | no => exact .inl
        | er y s2 => exact .inl
        | ok y s2 =>
          dsimp only
          cases fhi ρ s2 with
          | no => exact .inl
          | er y s3 => exact .inl
          | ok z s3 =>
            dsimp only
            intro q
            unfold orS at q
            cases e1 : o s3 x y z with
            | some w => rw [e1] at q; exact .inl q
            | none => rw [e1] at q; exact .inr q
    exact key.imp (fun z => ⟨μ, Z, ρ, s, hE, hR, z⟩) fun z => ⟨μ, Z, ρ, s, hE, hR, z⟩
def slA : OS := orS slL slT
theorem me_sl (hK : Γ.K = X.K) (ha : ME X Γ W e f) (hl : MO X Γ W lo flo) (hh : MO X Γ W hi fhi) : ME X Γ W (.Subscript e (.Slice lo hi none p2) pos) (mSl slA f flo fhi) := sl_or (me_slL hK ha hl hh) (me_slT hK ha hl hh)

/-! ### the store is written -/
theorem Evo.put {H : Hp} {μ : Mu} {n : Nat} {p : Addr} {o : HO} (hn : μ n = some p) : Evo H μ (upd H p o) μ where
  keep := fun a ob h hm => by rw [upd_ne (fun z : a = p => hm n (by rw [z]; exact hn))]; exact h
  mu := fun _ _ h => h
  new := fun _ _ h => .inl h
  stay := fun m a h q => by
    by_cases z : a = p
    · rw [z, upd_same]; intro y; cases y
    · rw [upd_ne z]; exact q
theorem Rep.put {H : Hp} {μ : Mu} {Z : Zs} {s : Sto} {n : Nat} {p : Addr} {o : HO} {ob : Ob} (hR : Rep Γ H μ Z s) (hn : μ n = some p) (ho : RO Γ (upd H p o) μ Z p ob) : Rep Γ (upd H p o) μ Z (s.set n ob) := by
  have ev : Evo H μ (upd H p o) μ := Evo.put hn
  refine ⟨fun m ob' q => ?_, hR.inj, fun m a h => by rw [List.length_set]; exact hR.dom m a h, fun a z => ev.alive (hR.za a z)⟩
  by_cases hm : n = m
  · subst hm
    have hl : n < s.length := hR.dom n p hn
    rw [List.getElem?_set_self hl] at q
    cases q
    exact ⟨p, hn, hR.notZ hn, ho⟩
  · rw [List.getElem?_set_ne hm] at q
    obtain ⟨a, h1, h2, h3⟩ := hR.at m ob' q
    exact ⟨a, h1, h2, h3.mono' ev (upd_ne (fun z : a = p => hm (hR.inj n m p hn (by rw [← z]; exact h1))))⟩
/-- xs.append(e) -/
def mApp (f g : FE) : FE := fun ρ s => (f ρ s).bind fun x s1 => match x with
  | .ref n => match s1[n]? with
    | some (.lst _) => (g ρ s1).bind fun y s2 => match s2[n]? with
      | some (.lst ws) => if ws.length < lim then .ok .non (s2.set n (.lst (ws ++ [y]))) else .no
      | _ => .no
    | _ => .no
  | _ => .no
theorem me_app (h : PE X e (tBM Γ.K "list" rAppend (rdE Γ W f) (tCons (rdE Γ W g) tNil))) : ME X Γ W e (mApp f g) :=
  PE.imp h fun σ H Q ⟨μ, Z, ρ, s, hE, hR, q⟩ => eE hE hR q fun x s1 u H1 μ1 e1 hE1 R1 r1 q1 => by
    cases x with
    | ref n =>
      dsimp only at q1
      split at q1
      · rename_i us q0
        obtain ⟨p, h1, h2⟩ := r1
        obtain ⟨p', g1, _, xs, g3, g4⟩ := R1.at n _ q0
        rw [h2] at g1
        cases g1
        subst h1
        refine ⟨.inl ⟨rfl, xs, SqL.of g3⟩, ?_⟩
        refine eE hE1 R1 q1 fun y s2 v H2 μ2 e2 hE2 R2 r2 q2 => ?_
        split at q2
        · rename_i ws q3
          split at q2
          · rename_i hl
            obtain ⟨p'', k1, _, ys, k3, k4⟩ := R2.at n _ q3
            rw [e2.mu _ _ h2] at k1
            cases k1
            refine ⟨p, ys, v, rfl, rfl, k3, by rw [k4.len]; exact Nat.lt_of_lt_of_le hl (lim_ok (Nat.le_refl _)), ?_⟩
            have ev : Evo H2 μ2 (upd H2 p (.lst (ys ++ [v]))) μ2 := Evo.put (e2.mu _ _ h2)
            exact q2 .non _ μ2 ev (R2.put (e2.mu _ _ h2) ⟨_, upd_same, (k4.append (RVs.cons r2 RVs.nil)).mono ev⟩) rfl
          · exact q2.elim
        · exact q2.elim
      · exact q1.elim
    | _ => exact q1.elim
/-- d[k] = e -/
def mDPut (fo fi fv : FE) : FS := fun ρ s => (fv ρ s).thenC ρ fun v s1 => (fo ρ s1).thenC ρ fun x s2 => (fi ρ s2).thenC ρ fun y s3 => match x, keyOf y with
  | .ref n, some k => match s3[n]? with
    | some (.dct kws) => if kws.length < lim then .nx ρ (s3.set n (.dct (putD kws k v))) else .no
    | _ => .no
  | _, _ => .no
theorem map_len {α β γ : Type} {l : List (α × β)} {l' : List (α × γ)} (h : l.map (·.1) = l'.map (·.1)) : l.length = l'.length := by
  have := congrArg List.length h
  rw [List.length_map, List.length_map] at this
  exact this
theorem ms_dput {o i value : Expr} {pos' : Pos} {fo fi fv : FE} (hu : X.A.units + 1 < cLine) (ho : ME X Γ W o fo) (hi : ME X Γ W i fi) (hv : ME X Γ W value fv) (hs : swapsWith value (some (.Subscript o i pos')) pos.line X.env = pure false) :
    MS X Γ W (.Assign [.Subscript o i pos'] value pos) (mDPut fo fi fv) :=
  PS.imp (ps_dput hu ho hi hv hs) fun D σ H ⟨μ, Z, ρ, s, hE, hR, q⟩ => eS hE hR q fun v s1 uv H1 μ1 e1 hE1 R1 r1 q1 => eS hE1 R1 q1 fun x s2 ux H2 μ2 e2 hE2 R2 r2 q2 => eS hE2 R2 q2 fun y s3 uy H3 μ3 e3 hE3 R3 r3 q3 => by
    split at q3
    · rename_i n k hk
      split at q3
      · rename_i kws q0
        split at q3
        · rename_i hl
          obtain ⟨p, h1, h2⟩ := r2.mono e3
          obtain ⟨p', g1, _, kvs, g3, g4, g5⟩ := R3.at n _ q0
          rw [h2] at g1
          cases g1
          have rv := (r1.mono e2).mono e3
          obtain ⟨k1, k2⟩ := putD_ok (k := k) rv g4 g5
          have ev : Evo H3 μ3 (upd H3 p (.dK (putK kvs k uv))) μ3 := Evo.put h2
          refine ⟨p, upd H3 p (.dK (putK kvs k uv)), h1, .inl ⟨kvs, k, g3, keyOf_ok r3 hk, by rw [map_len g4]; exact Nat.lt_of_lt_of_le hl (lim_ok (Nat.le_refl _)), rfl⟩, ?_⟩
          exact q3 σ _ μ3 ev (R3.put h2 ⟨_, upd_same, k1, k2.mono ev⟩) (hE3.mono ev)
        · exact q3.elim
      · exact q3.elim
    · exact q3.elim
end
end MP

set_option Elab.async false
set_option linter.all false
set_option maxRecDepth 100000
set_option maxHeartbeats 4000000
namespace MP
open PySem PySem.Spec PyProof.Rows L2

/-! ### the law's call -/
section
variable {P : Program} {w : World} {Γ : Ct} {mg mb : Str → Option Value} {k : Nat} {fa a : Addr} {fd : FuncData} {x : Str} {den : Fn} {s₁ : Shared} {vs : List Value} {ns : List Int}
theorem law_G (KX : Γ.K.In s₁.heap) (hns : s₁.heap.Ns mainGlobals mg) (hb : s₁.heap.Ns builtinsNs mb) (hbb : ∀ x : Str, x ≠ "__name__" → mb x = bootBuiltins x) (hlim : s₁.heap.NoLimit) (hg : s₁.gens = #[])
    (ha : s₁.heap.get? a = some { cls := .type "list", data := .seq vs.toArray }) (hi : IntsAre vs ns) (hl : ns.length ≤ sizeLine) (hr : Room k callerA)
    (F : ∀ base : Heap, Γ.K.In base → base.Ns mainGlobals mg → FnG P w mg base Γ k fa fd [x] den) (hbind : ∀ (s : Shared) (u : Value), BindsTo s fd ⟨[u], []⟩ [(x, u)])
    (hden : ∃ s', den [.sq (ns.map .int)] [] = .ok (.bl true) s') :
    codeAny (model P w) callerA (.call (.ref fa) ⟨[.ref a], []⟩) (fun r s' => r = .ok (.ret (.bool true)) ∧ OldK s₁.heap s'.heap ∧ s'.os = s₁.os ∧ AllBare s'.gens) s₁ := by
  have rv : Vals (ns.map V.int) vs := vals_ints hi
  have rl := hi.length
  let ob : Obj := { cls := .type "list", data := .seq vs.toArray }
  let tr : HO := .frz ob (.lst (ns.map V.int))
  let H : Hp := fun b => if b = a ∧ Γ.K.lookup a = none then some tr else none
  have Hin : ∀ b o, H b = some o → (b = a ∧ Γ.K.lookup a = none) ∧ o = tr := fun b o e => by
    by_cases c : b = a ∧ Γ.K.lookup a = none
    · have e' : (if b = a ∧ Γ.K.lookup a = none then some tr else none) = some o := e
      rw [if_pos c] at e'
      exact ⟨c, (Option.some.inj e').symm⟩
    · have e' : (if b = a ∧ Γ.K.lookup a = none then some tr else none) = some o := e
      rw [if_neg c] at e'
      cases e'
  have free : ∀ b, ¬ (b = a ∧ Γ.K.lookup a = none) → H b = none := fun b c => if_neg c
  have hok : HOk P w H s₁.heap := fun b o e => by
    obtain ⟨⟨rfl, _⟩, rfl⟩ := Hin b o e
    exact ⟨ha, by rw [List.length_map]; exact hl, vs, _, rv, ha⟩
  let base := hidT s₁.heap H
  have dictIn : ∀ {b : Addr} {m : Str → Option Value}, s₁.heap.Ns b m → base.Ns b m := fun {b m} ⟨o, es, ep, e, d, r⟩ => by
    refine ⟨o, es, ep, hidT_get e (free b fun c => ?_), d, r⟩
    rw [c.1, ha] at e
    cases e
    cases d
  have kIn : Γ.K.In base := fun b o e => hidT_get (KX b o e) (free b fun c => by
    rw [c.1, c.2] at e
    cases e)
  have gM : base.Ns mainGlobals mg := dictIn hns
  have md : Mod Γ.K mg base := ⟨kIn, gM, ⟨mb, dictIn hb, hbb⟩, let ⟨mc, h1, h2⟩ := hlim; ⟨mc, dictIn h1, h2⟩⟩
  have e0 : Env0 P w Γ.K mg base callerA [] s₁ H :=
    { frames := rfl, mod := md, bs := fun b o e => of_hidT e, bsz := Nat.le_of_eq (hidT_size _ _), funs := trivial, frf := fun b hb => (nomatch hb), hok := hok, bare := .of_eq hg }
  obtain ⟨s', hd⟩ := hden
  have rs : RV Γ H (fun _ => none) (fun _ => False) (.sq (ns.map .int)) (.ref a) := by
    refine ⟨a, _, rfl, ?_, RVs.of_ints ns⟩
    cases hk : Γ.K.lookup a with
    | none => exact .inl ⟨.inr ⟨ob, if_pos ⟨rfl, hk⟩⟩, ⟨fun n z => (nomatch z), id⟩⟩
    | some o =>
      have e := KX a o hk
      rw [ha] at e
      cases e
      exact .inr ⟨_, vs.toArray, _, hk, rfl, rfl, rfl, by rw [List.size_toArray, rl]; exact hl, by simpa using rv⟩
  have rep : Rep Γ H (fun _ => none) (fun _ => False) [] := ⟨fun n o e => (by cases e), fun n m b e => (nomatch e), fun n b e => (nomatch e), fun b z => z.elim⟩
  refine codeAny_mono ((F base kIn gM).run callerA [] s₁ H ⟨[.ref a], []⟩ [.ref a] [.ref a] (fun v _ => v = .bl true) (fun _ _ _ => False) hr rfl e0 (hbind s₁ (.ref a)) (.cons rfl .nil)
    ⟨rfl, _, _, _, [.sq (ns.map .int)], rep, RVs.cons rs rfl, by rw [hd]; exact fun v H' μ' _ _ r => r⟩) fun r s2 h => ?_
  cases r with
  | error e =>
    obtain ⟨_, _, _, _, _, _, _, _, _, _, _, _, z⟩ := h
    exact z.elim
  | ok fl =>
    cases fl with
    | next => exact h.elim
    | brk => exact h.elim
    | cont => exact h.elim
    | ret u =>
      obtain ⟨v, H', os, bare, un, hok', rv', q⟩ := h
      obtain rfl : v = .bl true := q
      obtain rfl : u = Value.bool true := rv'
      refine ⟨rfl, OldK.of_keep fun b o e => ?_, os, bare⟩
      cases q : H b with
      | none => exact un.keep b o e q (fun z => nomatch z) (fun z => nomatch z)
      | some u =>
        obtain ⟨⟨rfl, _⟩, rfl⟩ := Hin b u q
        obtain ⟨e2, _⟩ := hok' b _ (un.frzs b ob _ q)
        rw [ha] at e
        cases e
        exact e2
/-- what the head leaves to be shown -/
theorem walk_G {l : PySem.W.OpenLaw} {n k : Nat} {q : Program} {loose : List Str} {XP : (Str → Option Value) → Heap → Prop} {YP : World → Heap → Prop} {d : DefRec} {Kf : Params → PySem.W.Frag} {x : Str} (hn : l.most = some n) (hn2 : n ≤ sizeLine) (hdf : d.params.defaults = []) (hr : Room k callerA)
    (hY : ∀ (w : World) (h : Heap), YP w h → (Kf w.params).In h)
    (F : ∀ (w : World) (mg : Str → Option Value) (fa : Addr) (h : Heap), (Kf w.params).In h → h.Ns mainGlobals mg → mg d.name = some (.ref fa) →
      ∃ (Γ : Ct) (fd : FuncData) (den : Fn), Γ.K = Kf w.params ∧ (∀ (s : Shared) (u : Value), BindsTo s fd ⟨[u], []⟩ [(x, u)]) ∧ (∀ base : Heap, Γ.K.In base → base.Ns mainGlobals mg → FnG l.prog w mg base Γ k fa fd [x] den) ∧
        ∀ ns : List Int, ns.length ≤ n → ∃ s', den [.sq (ns.map .int)] [] = .ok (.bl true) s') :
    PySem.W.WalkO q loose XP YP l.row.toRowW d [] (fun f vs => PySem.call f vs) := by
  refine Att.attach_call hn hdf fun w s₀ s₁ mg mb fa o pm cd doc a vs ns G Y ho hd hcd hmg hobj hints hlen hg => ?_
  have KX := hY w _ Y
  obtain ⟨Γ, fd, den, hK, hb, hF, hden⟩ := F w mg fa _ KX G.T.g hmg
  exact law_G (hK ▸ KX) G.T.g G.T.b G.T.builtins G.T.nolimit hg hobj hints (Nat.le_trans hlen hn2) hr hF hb (hden ns hlen)
end
end MP

set_option Elab.async false
set_option linter.all false
set_option maxRecDepth 100000
set_option maxHeartbeats 4000000
namespace MP
open PySem PySem.Spec PyProof.Rows L2

/-! ### zip and enumerate over lists and tuples in any mix -/
def SqX (K : PySem.W.Frag) (H : Hp) (t : Bool) (a : Addr) (xs : List V) : Prop := if t = true then SqT K H a xs else SqL K H a xs
def ItX (h : Heap) (t : Bool) (it a : Addr) (i : Nat) : Prop := if t = true then h.IsTupleIter it a i else h.IsListIter it a i
def HasX (h : Heap) (t : Bool) (a : Addr) (its : Array Value) : Prop := if t = true then h.IsTuple a its else h.IsList a its
theorem ItX.at {h h' : Heap} {t : Bool} {it a : Addr} {i : Nat} (x : ItX h t it a i) (k : ∀ o, h.get? it = some o → h'.get? it = some o) : ItX h' t it a i := by
  unfold ItX at x ⊢
  cases t with
  | true => rw [if_pos rfl] at x ⊢; exact x.at k
  | false => rw [if_neg Bool.false_ne_true] at x ⊢; exact x.at k
theorem ItX.obj {h : Heap} {t : Bool} {it a : Addr} {i : Nat} (x : ItX h t it a i) : ∃ o, h.get? it = some o ∧ ∀ v, o.data ≠ .cell v := by
  unfold ItX at x
  cases t with
  | true => rw [if_pos rfl] at x; obtain ⟨o, e, _, d⟩ := x; exact ⟨o, e, fun v q => by rw [d] at q; cases q⟩
  | false => rw [if_neg Bool.false_ne_true] at x; obtain ⟨o, e, _, d⟩ := x; exact ⟨o, e, fun v q => by rw [d] at q; cases q⟩
theorem drawsX {prog : Program} {w : World} {A : Around} (hh : A.handled = none) (t : Bool) (it a : Addr) (hne : a ≠ it) (items : Array Value) :
    Draws prog w A it [it, a] items.size (fun i v => items[i]? = some v) (fun i h => ItX h t it a i ∧ HasX h t a items) := by
  unfold ItX HasX
  cases t with
  | true => exact Draws.tuple hh it a hne items
  | false => exact Draws.list hh it a hne items
theorem beginsX (t : Bool) (a : Addr) (items : Array Value) : Begins (.ref a) { cls := .type (if t = true then "tuple_iterator" else "list_iterator"), data := .fields #[.ref a, .int 0 0] } fun h => HasX h t a items := by
  unfold HasX
  cases t with
  | true => exact begins_tuple a items
  | false => exact begins_list a items
theorem SqX.has {X : Cx} {pins : List (Addr × Obj)} {σ : L2.St} {H : Hp} {s : Shared} {t : Bool} {a : Addr} {xs : List V} (I : Inv X pins σ H s) (h : SqX X.K H t a xs) : ∃ its : List Value, Vals xs its ∧ HasX s.heap t a its.toArray ∧ a < s.heap.objs.size := by
  unfold SqX at h
  unfold HasX
  cases t with
  | true =>
    rw [if_pos rfl] at h
    obtain ⟨its, r, p, _⟩ := I.tuple h
    exact ⟨its, r, p, p.lt⟩
  | false =>
    rw [if_neg Bool.false_ne_true] at h
    obtain ⟨its, r, p, _⟩ := I.list h
    exact ⟨its, r, p.isList, p.lt⟩
theorem SqX.inj {X : Cx} {pins : List (Addr × Obj)} {σ : L2.St} {H : Hp} {s : Shared} {t : Bool} {a : Addr} {xs ys : List V} (I : Inv X pins σ H s) (h : SqX X.K H t a xs) (h' : SqX X.K H t a ys) : xs = ys := by
  unfold SqX at h h'
  cases t with
  | true => rw [if_pos rfl] at h h'; exact I.tuple_inj h h'
  | false => rw [if_neg Bool.false_ne_true] at h h'; exact I.list_inj h h'
/-- an iterator of new tuples, by the library's own walk: a turn of ours -/
theorem turn_item {X : Cx} {tg : Expr} {it : Addr} {fp fp' wr : List Addr} {n i : Nat} {Y : Nat → Heap → Value → Heap → Prop} {St tn : Nat → Heap → Prop} {pins : List (Addr × Obj)} {s : Shared} {σ : L2.St} {H : Hp} {E : Value → Shared → Prop} {J : It} (I : Inv X pins σ H s) (hf : ∀ b ∈ fp, FpOk X pins H b) (live : ∀ b ∈ fp, b < s.heap.objs.size)
    (G : GoesN X.prog X.w X.A tg it fp' wr n Y St) (hi : i < n) (hst : St i s.heap) (hw : ∀ b ∈ wr, b ∈ fp) (next : ∀ h', (∀ b o, b ∉ wr → s.heap.get? b = some o → h'.get? b = some o) → St (i + 1) h' → tn (i + 1) h')
    (yl : ∀ v h', Y i s.heap v h' → ∃ T vals us, v = .ref T ∧ s.heap.objs.size ≤ T ∧ h'.IsTuple T us ∧ Vals vals us.toList ∧ vals.length ≤ sizeLine ∧ J.yld i H (.ref T) (upd H T (.tup vals))) :
    wpAny (model X.prog X.w) X.A (pyNext (.ref it)) (fun r s1 => ∃ u, r = some u ∧
      wpAny (model X.prog X.w) X.A (letOwnedTupleGo tg (.ref it) u) (fun _ s2 => ∃ x H', Inv X pins σ H' s2 ∧ RelV x u ∧ J.yld i H x H' ∧ tn (i + 1) s2.heap ∧ ∀ b ∈ fp, H' b = none) E s1) E s := by
  refine G.goes i s (fun u s2 => ∃ x H', Inv X pins σ H' s2 ∧ RelV x u ∧ J.yld i H x H' ∧ tn (i + 1) s2.heap ∧ ∀ b ∈ fp, H' b = none) E hi hst fun v h' tk hY st' hk _ => ?_
  obtain ⟨T, vals, us, rfl, hT, ht, rv, hl, hy⟩ := yl v h' hY
  have new : ObjOk X.prog X.w (upd H T (.tup vals)) h' T (.tup vals) := ⟨hl, us.toList, rv, by rw [Array.toArray_toList]; exact ht⟩
  have J1 : Inv X pins σ (upd H T (.tup vals)) { s with heap := h', toks := tk } := I.turnedNew (ch := fp) (fun b o hb q => hk b o (fun z => hb (hw b z)) q) hf hT new
  refine ⟨.ref T, _, J1, rfl, hy, next h' hk st', fun b hb => ?_⟩
  rw [upd_ne (Nat.ne_of_lt (Nat.lt_of_lt_of_le (live b hb) hT))]
  exact (hf b hb).1
def JZip (K : PySem.W.Frag) (t u : Bool) (a b : Addr) : It :=
  ⟨fun i H => ∃ (xs ys : List V) (x y : V), SqX K H t a xs ∧ SqX K H u b ys ∧ xs[i]? = some x ∧ ys[i]? = some y,
   fun i H v H' => ∃ T x y, v = .ref T ∧ H T = none ∧ H' = upd H T (.tup [x, y]) ∧ (∀ xs, SqX K H t a xs → xs[i]? = some x) ∧ ∀ ys, SqX K H u b ys → ys[i]? = some y,
   fun i H => ∃ xs ys : List V, SqX K H t a xs ∧ SqX K H u b ys ∧ min xs.length ys.length = i⟩
def ZipTn (t u : Bool) (a b : Addr) (N : Nat) (i : Nat) (h : Heap) : Prop := IsZip h (N + 4) (N + 2) (N + 3) .none ∧ IsTupOf2 h (N + 2) (.ref N) (.ref (N + 1)) ∧ (∃ x y, IsTupOf2 h (N + 3) x y) ∧ ItX h t N a i ∧ ItX h u (N + 1) b i
theorem turn_zipX {P : Program} {w : World} {K : PySem.W.Frag} {elts : List Expr} {kk : Nat} {tpos : Pos} {t u : Bool} {a b : Addr} {N : Nat} (la : a < N) (lb : b < N) :
    Turn P w K (.Tuple elts kk tpos) (JZip K t u a b) [N + 4, N + 2, N + 3, N, N + 1] (N + 4) (ZipTn t u a b N) where
  mem := by simp
  obj := fun i h st c hc => by
    obtain ⟨hz, hTI, ⟨x, y, hTO⟩, h1, h2⟩ := st
    have e : c = N + 4 ∨ c = N + 2 ∨ c = N + 3 ∨ c = N ∨ c = N + 1 := by simpa using hc
    rcases e with q | q | q | q | q
    · rw [q]; exact ⟨_, hz, fun v q => nomatch q⟩
    · rw [q]; exact ⟨_, hTI, fun v q => nomatch q⟩
    · rw [q]; exact ⟨_, hTO, fun v q => nomatch q⟩
    · rw [q]; exact h1.obj
    · rw [q]; exact h2.obj
  keep := fun i h h' st k => by
    obtain ⟨hz, hTI, ⟨x, y, hTO⟩, h1, h2⟩ := st
    exact ⟨k _ (by simp) _ hz, k _ (by simp) _ hTI, ⟨x, y, k _ (by simp) _ hTO⟩, h1.at fun o q => k N (by simp) o q, h2.at fun o q => k (N + 1) (by simp) o q⟩
  item := by
    intro X hP hw hK hc i pins s σ H E I hf st hg
    subst hP hw hK
    obtain ⟨xs, ys, x, y, hqx, hqy, hx, hy⟩ := hg
    obtain ⟨its, rv, p, _⟩ := hqx.has I
    obtain ⟨its2, rv2, p2, _⟩ := hqy.has I
    obtain ⟨v1, hv1, r1⟩ := rv.get hx
    obtain ⟨v2, hv2, r2⟩ := rv2.get hy
    have hh : X.A.in1.handled = none := I.ok.hd hc
    have sep := zip_sep2 (N := N) (fp1 := [a]) (fp2 := [b]) (by simpa using la) (by simpa using lb)
    have G := GoesN.zip2 (prog := X.prog) (w := X.w) (A := X.A) (elts := elts) (x1 := kk) (pos := tpos) sep (drawsX hh t N a (Nat.ne_of_lt la) its.toArray) (drawsX hh u (N + 1) b (Nat.ne_of_lt (Nat.lt_succ_of_lt lb)) its2.toArray)
    obtain ⟨hz, hTI, hTO, h1, h2⟩ := id st
    have l1 := (List.getElem?_eq_some_iff.mp hv1).1
    have l2 := (List.getElem?_eq_some_iff.mp hv2).1
    have liveX : ∀ c ∈ [N + 4, N + 2, N + 3, N, N + 1], c < s.heap.objs.size := fun c hc => by
      have hN : N + 4 < s.heap.objs.size := Heap.lt_size hz
      have e : c = N + 4 ∨ c = N + 2 ∨ c = N + 3 ∨ c = N ∨ c = N + 1 := by simpa using hc
      omega
    refine turn_item (tn := ZipTn t u a b N) I hf liveX G (by simp; omega) ⟨hz, hTI, hTO, ⟨h1, p⟩, h2, p2⟩ (fun c hc => by
      have e : c = N + 4 ∨ c = N + 3 ∨ c = N ∨ c = N + 1 := by simpa using hc
      rcases e with q | q | q | q <;> (rw [q]; simp)) (fun h' _ st' => show ZipTn t u a b N (i + 1) h' from ⟨st'.1, st'.2.1, st'.2.2.1, st'.2.2.2.1.1, st'.2.2.2.2.1⟩) fun v h' hY => ?_
    obtain ⟨T, c1, c2, rfl, hT, e1, e2, ht⟩ := hY
    have e1' : its[i]? = some c1 := by simpa using e1
    have e2' : its2[i]? = some c2 := by simpa using e2
    rw [hv1] at e1'
    rw [hv2] at e2'
    cases e1'
    cases e2'
    exact ⟨T, [x, y], #[v1, v2], rfl, hT, ht, .cons r1 (.cons r2 .nil), (show 2 ≤ sizeLine by rw [sizeLine_eq]; decide), T, x, y, rfl, I.hok.fresh hT, rfl, fun l hl => by rw [SqX.inj I hl hqx]; exact hx, fun l hl => by rw [SqX.inj I hl hqy]; exact hy⟩
  done := by
    intro X hP hw hK hc i pins s σ H E I hf st hg
    subst hP hw hK
    obtain ⟨xs, ys, hqx, hqy, hend⟩ := hg
    obtain ⟨its, rv, p, _⟩ := hqx.has I
    obtain ⟨its2, rv2, p2, _⟩ := hqy.has I
    have hh : X.A.in1.handled = none := I.ok.hd hc
    have sep := zip_sep2 (N := N) (fp1 := [a]) (fp2 := [b]) (by simpa using la) (by simpa using lb)
    have G := GoesN.zip2 (prog := X.prog) (w := X.w) (A := X.A) (elts := elts) (x1 := kk) (pos := tpos) sep (drawsX hh t N a (Nat.ne_of_lt la) its.toArray) (drawsX hh u (N + 1) b (Nat.ne_of_lt (Nat.lt_succ_of_lt lb)) its2.toArray)
    obtain ⟨hz, hTI, hTO, h1, h2⟩ := id st
    have l1 := rv.length
    have l2 := rv2.length
    have hn : min its.toArray.size its2.toArray.size = i := by simp; omega
    rw [hn] at G
    exact G.stops s (fun s1 => Inv X pins σ H s1) E ⟨hz, hTI, hTO, ⟨h1, p⟩, h2, p2⟩ fun h' tk hk _ => I.turnedL (ch := [N + 4, N + 2, N + 3, N, N + 1]) (fun c o hb q => hk c o (fun z => hb (by
      have e : c = N + 4 ∨ c = N + 3 ∨ c = N ∨ c = N + 1 := by simpa using z
      rcases e with q | q | q | q <;> (rw [q]; simp))) q) hf
  self := fun A i s Q E st h => wpAny_pyIter_zip st.1 h

def JEnum (K : PySem.W.Frag) (t : Bool) (a : Addr) : It :=
  ⟨fun i H => ∃ (xs : List V) (x : V), SqX K H t a xs ∧ xs[i]? = some x,
   fun i H v H' => ∃ T x, v = .ref T ∧ H T = none ∧ H' = upd H T (.tup [.int (i : Nat), x]) ∧ ∀ xs, SqX K H t a xs → xs[i]? = some x,
   fun i H => ∃ xs : List V, SqX K H t a xs ∧ xs.length = i⟩
def EnumTn (t : Bool) (a : Addr) (N : Nat) (i : Nat) (h : Heap) : Prop := (∃ old, IsEnum h (N + 1) N ((0 : Int) + (i : Int)) old) ∧ ItX h t N a i
theorem turn_enumX {P : Program} {w : World} {K : PySem.W.Frag} {elts : List Expr} {kk : Nat} {tpos : Pos} {t : Bool} {a : Addr} {N : Nat} (la : a < N) :
    Turn P w K (.Tuple elts kk tpos) (JEnum K t a) [N + 1, N] (N + 1) (EnumTn t a N) where
  mem := by simp
  obj := fun i h st c hc => by
    obtain ⟨⟨old, he⟩, h1⟩ := st
    have e : c = N + 1 ∨ c = N := by simpa using hc
    rcases e with q | q
    · rw [q]; exact ⟨_, he, fun v q => nomatch q⟩
    · rw [q]; exact h1.obj
  keep := fun i h h' st k => by
    obtain ⟨⟨old, he⟩, h1⟩ := st
    exact ⟨⟨old, k _ (by simp) _ he⟩, h1.at fun o q => k N (by simp) o q⟩
  item := by
    intro X hP hw hK hc i pins s σ H E I hf st hg
    subst hP hw hK
    obtain ⟨xs, x, hqx, hx⟩ := hg
    obtain ⟨its, rv, p, _⟩ := hqx.has I
    obtain ⟨v1, hv1, r1⟩ := rv.get hx
    have hh : X.A.in1.handled = none := I.ok.hd hc
    have nf : N + 1 ∉ [N, a] := fun m => by
      rcases List.mem_cons.mp m with e | e
      · exact Nat.succ_ne_self N e
      · exact Nat.lt_irrefl a (Nat.lt_trans la ((List.mem_singleton.mp e) ▸ Nat.lt_succ_self N))
    have G := GoesN.enumFrom (prog := X.prog) (w := X.w) (A := X.A) (elts := elts) (x1 := kk) (pos := tpos) 0 (drawsX hh t N a (Nat.ne_of_lt la) its.toArray) (N + 1) (Nat.succ_ne_self N) nf (by simp)
    obtain ⟨⟨old, he⟩, h1⟩ := id st
    have l1 := (List.getElem?_eq_some_iff.mp hv1).1
    have liveX : ∀ c ∈ [N + 1, N], c < s.heap.objs.size := fun c hc => by
      have hN : N + 1 < s.heap.objs.size := Heap.lt_size he
      have e : c = N + 1 ∨ c = N := by simpa using hc
      omega
    refine turn_item (tn := EnumTn t a N) I hf liveX G (by simpa using l1) ⟨⟨old, he⟩, h1, p⟩ (fun c hc => hc) (fun h' _ st' => show EnumTn t a N (i + 1) h' from ⟨st'.1, st'.2.1⟩) fun v h' hY => ?_
    obtain ⟨T, tt, c1, rfl, hT, e1, ht⟩ := hY
    have e1' : its[i]? = some c1 := by simpa using e1
    rw [hv1] at e1'
    cases e1'
    rw [Int.zero_add] at ht
    exact ⟨T, [.int (i : Nat), x], #[.int (i : Nat) tt, v1], rfl, hT, ht, .cons ⟨tt, rfl⟩ (.cons r1 .nil), (show 2 ≤ sizeLine by rw [sizeLine_eq]; decide), T, x, rfl, I.hok.fresh hT, rfl, fun l hl => by rw [SqX.inj I hl hqx]; exact hx⟩
  done := by
    intro X hP hw hK hc i pins s σ H E I hf st hg
    subst hP hw hK
    obtain ⟨xs, hqx, hend⟩ := hg
    obtain ⟨its, rv, p, _⟩ := hqx.has I
    have hh : X.A.in1.handled = none := I.ok.hd hc
    have nf : N + 1 ∉ [N, a] := fun m => by
      rcases List.mem_cons.mp m with e | e
      · exact Nat.succ_ne_self N e
      · exact Nat.lt_irrefl a (Nat.lt_trans la ((List.mem_singleton.mp e) ▸ Nat.lt_succ_self N))
    have G := GoesN.enumFrom (prog := X.prog) (w := X.w) (A := X.A) (elts := elts) (x1 := kk) (pos := tpos) 0 (drawsX hh t N a (Nat.ne_of_lt la) its.toArray) (N + 1) (Nat.succ_ne_self N) nf (by simp)
    obtain ⟨⟨old, he⟩, h1⟩ := id st
    have l1 := rv.length
    have hn : its.toArray.size = i := by simp; omega
    rw [hn] at G
    exact G.stops s (fun s1 => Inv X pins σ H s1) E ⟨⟨old, he⟩, h1, p⟩ fun h' tk hk _ => I.turnedL (ch := [N + 1, N]) (fun c o hb q => hk c o hb q) hf
  self := fun A i s Q E st h => let ⟨⟨_, he⟩, _⟩ := st; wpAny_pyIter_enum he h

/-! ### as walks -/
section
variable {X : Cx} {Γ : Ct} {W : WX}
def iZipG (K : PySem.W.Frag) (ta : TA) : TI := fun σ H R => ta σ H fun vs H1 => ∃ t u a b xs ys, vs = [.ref a, .ref b] ∧ SqX K H1 t a xs ∧ SqX K H1 u b ys ∧ R (JZip K t u a b) H1
theorem pi_zipG {e e2 : Expr} {ta : TA} {p pos tpos : Pos} {elts : List Expr} {kk : Nat} (hg : Gl X "zip") (hm : X.mg "zip" = none) (ha : PA X [e, e2] ta) (hs : starEach [e, e2] X.env = (false, eval e X.env) :: starEach [e2] X.env := by rfl) (hpl : (backTo pos (starEach [e2] X.env)).any (·.1) = false := by rfl) :
    PI X (.Tuple elts kk tpos) (.Call (.Name "zip" p) [e, e2] [] pos) (iZipG X.K ta) := by
  refine ⟨fun pins s σ H R I h => ?_⟩
  refine Call_ (ld_blt I hg hm boot_zip (callWith_type1 (thn (ha.run pos pins s σ H _ I h) fun us s1 ⟨vs, H1, I1, r1, q1⟩ => ?_) hs hpl))
  obtain ⟨t, u, a, b, xs, ys, rfl, hqx, hqy, q⟩ := q1
  obtain ⟨v, us', rfl, rfl⟩ : ∃ v us', us = v :: us' ∧ v = Value.ref a := by cases r1 with | cons r rr => exact ⟨_, _, rfl, r⟩
  obtain ⟨v', rfl, rfl⟩ : ∃ v', us' = [v'] ∧ v' = Value.ref b := by
    cases r1 with
    | cons r rr => cases rr with
      | cons r' rr' => cases rr'; exact ⟨_, rfl, r'⟩
  obtain ⟨its, rv, p1, la⟩ := hqx.has I1
  obtain ⟨its2, rv2, p2, lb⟩ := hqy.has I1
  refine zip_begins2 (beginsX t a its.toArray) (beginsX u b its2.toArray) p1 p2 fun h' hz hTI hTO h1 h2 _ hk => wpAny_pyIter_zip hz ?_
  have I2 : Inv X pins σ H1 { s1 with heap := h' } := I1.kept (t' := s1.toks) hk
  refine ⟨_, [s1.heap.objs.size + 4, s1.heap.objs.size + 2, s1.heap.objs.size + 3, s1.heap.objs.size, s1.heap.objs.size + 1], _, _, H1, rfl, I2, turn_zipX la lb, ⟨hz, hTI, ⟨_, _, hTO⟩, ?_, ?_⟩, fun c hc => ?_, q⟩
  · unfold ItX
    cases t with
    | true => exact ⟨_, h1, rfl, rfl⟩
    | false => exact ⟨_, h1, rfl, rfl⟩
  · unfold ItX
    cases u with
    | true => exact ⟨_, h2, rfl, rfl⟩
    | false => exact ⟨_, h2, rfl, rfl⟩
  · have e' : c = s1.heap.objs.size + 4 ∨ c = s1.heap.objs.size + 2 ∨ c = s1.heap.objs.size + 3 ∨ c = s1.heap.objs.size ∨ c = s1.heap.objs.size + 1 := by simpa using hc
    have hle : s1.heap.objs.size ≤ c := by rcases e' with z | z | z | z | z <;> (rw [z]; first | exact Nat.le_refl _ | exact Nat.le_add_right _ _)
    exact I1.fpOk hle (I1.hok.fresh hle)
def zipD : List Dv → List Dv → List Dv
  | a :: r, b :: t => .tup [a, b] :: zipD r t
  | _, _ => []
theorem zipD_len : ∀ (l m : List Dv), (zipD l m).length = min l.length m.length
  | [], _ => by simp [zipD]
  | _ :: _, [] => by simp [zipD]
  | a :: r, b :: t => by simp [zipD, zipD_len r t]
theorem zipD_get : ∀ {l m : List Dv} {i : Nat} {w : Dv}, (zipD l m)[i]? = some w → ∃ x y, l[i]? = some x ∧ m[i]? = some y ∧ w = .tup [x, y]
  | [], _, _, _, h => by simp [zipD] at h
  | _ :: _, [], _, _, h => by simp [zipD] at h
  | a :: r, b :: t, 0, w, h => by simp [zipD] at h; exact ⟨a, b, rfl, rfl, h.symm⟩
  | a :: r, b :: t, i + 1, w, h => by
    have h' : (zipD r t)[i]? = some w := by simpa [zipD] using h
    obtain ⟨x, y, h1, h2, h3⟩ := zipD_get h'
    exact ⟨x, y, by simpa using h1, by simpa using h2, h3⟩
/-- a plain sequence, not of the store -/
def plainOf : Dv → Option (Bool × List Dv)
  | .tup ws => some (true, ws)
  | .lst ws => some (false, ws)
  | .sq ws => some (false, ws)
  | _ => none
theorem plain_ok {H : Hp} {μ : Mu} {Z : Zs} {w : Dv} {v : V} {t : Bool} {ws : List Dv} (r : RV Γ H μ Z w v) (e : plainOf w = some (t, ws)) : ∃ a xs, v = .ref a ∧ RVs Γ H μ Z ws xs ∧ ∀ H' μ', EvoZ Z H μ H' μ' → SqX Γ.K H' t a xs := by
  cases w with
  | tup us =>
    cases e
    obtain ⟨a, xs, h1, h2, h3⟩ := r
    exact ⟨a, xs, h1, h3, fun H' μ' ev => (h2.monoZ ev).sq⟩
  | sq us =>
    cases e
    obtain ⟨a, xs, h1, h2, h3⟩ := r
    exact ⟨a, xs, h1, h3, fun H' μ' ev => (h2.monoZ ev).sq⟩
  | lst us =>
    cases e
    obtain ⟨a, xs, h1, h2, h3, h4⟩ := r
    exact ⟨a, xs, h1, h4, fun H' μ' ev => SqL.of (ev.keep _ _ h2 h3.1 h3.2)⟩
  | _ => cases e
def iZip2 (fa : FA) : FI := fun ρ s => (fa ρ s).bind fun ws s1 => match ws with
  | [x, y] => match plainOf x, plainOf y with
    | some (_, a), some (_, b) => .ok { ws := zipD a b } s1
    | _, _ => .no
  | _ => .no
theorem mi_zip {e e2 : Expr} {fa : FA} {p pos tpos : Pos} {elts : List Expr} {kk : Nat} (hK : Γ.K = X.K) (hg : Gl X "zip") (hm : X.mg "zip" = none) (ha : MA X Γ W [e, e2] fa) (hs : starEach [e, e2] X.env = (false, eval e X.env) :: starEach [e2] X.env := by rfl) (hpl : (backTo pos (starEach [e2] X.env)).any (·.1) = false := by rfl) :
    MI X Γ W (.Tuple elts kk tpos) (.Call (.Name "zip" p) [e, e2] [] pos) (iZip2 fa) :=
  PI.imp (pi_zipG hg hm ha hs hpl) fun σ H Q ⟨μ, Z, ρ, s, hE, hR, q⟩ => iA hE hR q fun ws s1 vs H1 μ1 e1 E1 R1 r1 q1 => by
    split at q1
    · rename_i x y
      split at q1
      · rename_i t a u b qx qy
        obtain ⟨v, v', rfl, rx, ry⟩ := two r1
        obtain ⟨pa, xs, rfl, r2, k2⟩ := plain_ok rx qx
        obtain ⟨pb, ys, rfl, r3, k3⟩ := plain_ok ry qy
        rw [← hK]
        refine ⟨t, u, pa, pb, xs, ys, rfl, k2 _ _ Evo.refl.z, k3 _ _ Evo.refl.z, q1 _ _ _ .refl R1 fun H' μ' Z' s' ev hR' hy hz _ => ⟨⟨xs, ys, k2 _ _ ev, k3 _ _ ev, by rw [zipD_len, r2.len, r3.len]⟩, fun i w hi => ?_⟩⟩
        obtain ⟨x', y', g1, g2, rfl⟩ := zipD_get hi
        obtain ⟨ux, h1, h2⟩ := r2.get g1
        obtain ⟨uy, h3, h4⟩ := r3.get g2
        refine ⟨⟨xs, ys, ux, uy, k2 _ _ ev, k3 _ _ ev, h1, h3⟩, fun z H'' hq => ?_⟩
        obtain ⟨T, zx, zy, rfl, hT, rfl, j1, j2⟩ := hq
        have e3 := j1 xs (k2 _ _ ev)
        have e4 := j2 ys (k3 _ _ ev)
        rw [h1] at e3
        rw [h3] at e4
        cases e3
        cases e4
        exact ⟨Evo.laid hT, hR'.laid hT, new_tup hR' hT (RVs.cons ((RV.strong hz _ h2).monoZ (ev.more hy)) (RVs.cons ((RV.strong hz _ h4).monoZ (ev.more hy)) RVs.nil))⟩
      · exact q1.elim
    · exact q1.elim
def iEnumG (K : PySem.W.Frag) (ta : TA) : TI := fun σ H R => ta σ H fun vs H1 => ∃ t a xs, vs = [.ref a] ∧ SqX K H1 t a xs ∧ R (JEnum K t a) H1
def enumD : Nat → List Dv → List Dv
  | _, [] => []
  | n, a :: r => .tup [.int (n : Nat), a] :: enumD (n + 1) r
theorem enumD_len : ∀ (n : Nat) (l : List Dv), (enumD n l).length = l.length
  | _, [] => rfl
  | n, a :: r => by simp [enumD, enumD_len (n + 1) r]
theorem enumD_get : ∀ {l : List Dv} {n i : Nat} {w : Dv}, (enumD n l)[i]? = some w → ∃ x, l[i]? = some x ∧ w = .tup [.int ((n + i : Nat) : Int), x]
  | [], _, _, _, h => by simp [enumD] at h
  | a :: r, n, 0, w, h => by simp [enumD] at h; exact ⟨a, rfl, h.symm⟩
  | a :: r, n, i + 1, w, h => by
    have h' : (enumD (n + 1) r)[i]? = some w := by simpa [enumD] using h
    obtain ⟨x, h1, h2⟩ := enumD_get h'
    exact ⟨x, by simpa using h1, by rw [h2]; simp; omega⟩
def iEnum1 (fa : FA) : FI := fun ρ s => (fa ρ s).bind fun ws s1 => match ws with
  | [x] => match plainOf x with
    | some (_, a) => .ok { ws := enumD 0 a } s1
    | none => .no
  | _ => .no
end
end MP

set_option Elab.async false
set_option linter.all false
set_option maxRecDepth 100000
set_option maxHeartbeats 4000000
namespace MP
open PySem PySem.Spec PyProof.Rows L2

theorem enum_new {v : Value} {o : Obj} {Hh : Heap → Prop} (B : Begins v o Hh) : Meets (Builtin.«enumerate.__new__» ⟨[.type "enumerate", v], []⟩) (fun _ R s => Hh s.heap ∧
    R (.ok (.ret (.ref (s.heap.push o).objs.size))) { s with heap := (s.heap.push o).push { cls := .type "enumerate", data := .fields #[.none, .bool false, .ref s.heap.objs.size, rawInt 0, .none, .none] } }) :=
  .of_wp fun prog w A R s h => by
    obtain ⟨hp, g, d, tk, os⟩ := s
    obtain ⟨h1, h⟩ := h
    have hsub := sub_enumerate
    have it : ∀ {A' : Around} {E Q : Value → Shared → Prop}, Q (.ref hp.objs.size) ⟨hp.push o, g, d, tk, os⟩ → wpAny (model prog w) A' (pyIter v) Q E ⟨hp, g, d, tk, os⟩ := fun q => B.iter prog w _ _ ⟨hp, g, d, tk, os⟩ _ h1 q
    wp_walk using it
    refine wpAny_stack_any fun st => wpAny_pure ?_
    split
    · rename_i c _ _ _ _ _
      cases (c == Value.type "enumerate") <;> (wp_walk using it; exact ⟨_, rfl, h⟩)
    · wp_walk using it
      exact ⟨_, rfl, h⟩
section
variable {prog : Program} {w : World} {A : Around} {E : Value → Shared → Prop} {s : Shared}
theorem enum_call {v : Value} {o : Obj} {Hh : Heap → Prop} {Q : Value → Shared → Prop} (B : Begins v o Hh) (h1 : Hh s.heap)
    (h : ∀ h', IsEnum h' (s.heap.objs.size + 1) s.heap.objs.size 0 .none → h'.get? s.heap.objs.size = some o → (∀ b o, s.heap.get? b = some o → h'.get? b = some o) → Q (.ref (s.heap.objs.size + 1)) { s with heap := h' }) :
    wpAny (model prog w) A (call (.type "enumerate") [v]) Q E s := by
  refine callType_new F.called_enumerate (by decide) (F.typeCall_enumerate_1 _) (F.newCall_enumerate_1 _) (fun obj => F.args_object_init_2 obj _) F.entry_enumerate_new (enum_new B) ⟨h1, ?_⟩
  have sz : (s.heap.push o).objs.size = s.heap.objs.size + 1 := Heap.size_push ..
  show _ ∧ _
  rw [sz]
  have e := Heap.get?_push_size (s.heap.push o) (o := { cls := .type "enumerate", data := .fields #[.none, .bool false, .ref s.heap.objs.size, rawInt 0, .none, .none] }) rfl
  rw [sz] at e
  exact ⟨⟨_, e, rfl⟩, h _ e (Heap.get?_push_of_some _ (Heap.get?_push_size _ B.free)) fun b o x => Heap.get?_push_of_some _ (Heap.get?_push_of_some _ x)⟩
end
section
variable {X : Cx} {Γ : Ct} {W : WX}
theorem pi_enumG {e : Expr} {ta : TA} {p pos tpos : Pos} {elts : List Expr} {kk : Nat} (hg : Gl X "enumerate") (hm : X.mg "enumerate" = none) (ha : PA X [e] ta) (hs : starEach [e] X.env = [(false, eval e X.env)] := by rfl) :
    PI X (.Tuple elts kk tpos) (.Call (.Name "enumerate" p) [e] [] pos) (iEnumG X.K ta) := by
  refine ⟨fun pins s σ H R I h => ?_⟩
  refine Call_ (ld_blt I hg hm boot_enumerate (callWith_type1 (thn (ha.run pos pins s σ H _ I h) fun us s1 ⟨vs, H1, I1, r1, q1⟩ => ?_) hs rfl))
  obtain ⟨t, a, xs, rfl, hqx, q⟩ := q1
  obtain ⟨v, rfl, rfl⟩ : ∃ v, us = [v] ∧ v = Value.ref a := by
    cases r1 with
    | cons r rr => cases rr; exact ⟨_, rfl, r⟩
  obtain ⟨its, rv, p1, la⟩ := hqx.has I1
  refine enum_call (beginsX t a its.toArray) p1 fun h' he h1 hk => wpAny_pyIter_enum he ?_
  have I2 : Inv X pins σ H1 { s1 with heap := h' } := I1.kept (t' := s1.toks) hk
  refine ⟨_, [s1.heap.objs.size + 1, s1.heap.objs.size], _, _, H1, rfl, I2, turn_enumX la, ⟨⟨.none, he⟩, ?_⟩, fun c hc => ?_, q⟩
  · unfold ItX
    cases t with
    | true => exact ⟨_, h1, rfl, rfl⟩
    | false => exact ⟨_, h1, rfl, rfl⟩
  · have e' : c = s1.heap.objs.size + 1 ∨ c = s1.heap.objs.size := by simpa using hc
    have hle : s1.heap.objs.size ≤ c := by rcases e' with z | z <;> (rw [z]; first | exact Nat.le_refl _ | exact Nat.le_add_right _ _)
    exact I1.fpOk hle (I1.hok.fresh hle)
theorem mi_enum {e : Expr} {fa : FA} {p pos tpos : Pos} {elts : List Expr} {kk : Nat} (hK : Γ.K = X.K) (hg : Gl X "enumerate") (hm : X.mg "enumerate" = none) (ha : MA X Γ W [e] fa) (hs : starEach [e] X.env = [(false, eval e X.env)] := by rfl) :
    MI X Γ W (.Tuple elts kk tpos) (.Call (.Name "enumerate" p) [e] [] pos) (iEnum1 fa) :=
  PI.imp (pi_enumG hg hm ha hs) fun σ H Q ⟨μ, Z, ρ, s, hE, hR, q⟩ => iA hE hR q fun ws s1 vs H1 μ1 e1 E1 R1 r1 q1 => by
    split at q1
    · rename_i x
      split at q1
      · rename_i t a qx
        obtain ⟨v, rfl, rx⟩ := one r1
        obtain ⟨pa, xs, rfl, r2, k2⟩ := plain_ok rx qx
        rw [← hK]
        refine ⟨t, pa, xs, rfl, k2 _ _ Evo.refl.z, q1 _ _ _ .refl R1 fun H' μ' Z' s' ev hR' hy hz _ => ⟨⟨xs, k2 _ _ ev, by rw [enumD_len, r2.len]⟩, fun i w hi => ?_⟩⟩
        obtain ⟨x', g1, rfl⟩ := enumD_get hi
        obtain ⟨ux, h1, h2⟩ := r2.get g1
        refine ⟨⟨xs, ux, k2 _ _ ev, h1⟩, fun z H'' hq => ?_⟩
        obtain ⟨T, zx, rfl, hT, rfl, j1⟩ := hq
        have e3 := j1 xs (k2 _ _ ev)
        rw [h1] at e3
        cases e3
        rw [Nat.zero_add]
        exact ⟨Evo.laid hT, hR'.laid hT, new_tup hR' hT (RVs.cons (w := .int (i : Nat)) rfl (RVs.cons ((RV.strong hz _ h2).monoZ (ev.more hy)) RVs.nil))⟩
      · exact q1.elim
    · exact q1.elim

/-! ### repr of what stands at an address -/
def disp : Dv → Bool
  | .tup _ => true | .lst _ => true | .sq _ => true | .ref _ => true
  | _ => false
def reprD : ON := fun s xs => match xs with
  | [x] => if disp x = true then match toD s x with
      | some d => if d.showable = true ∧ d.hasDict = false ∧ d.depth ≤ 60 ∧ d.shown.length ≤ lim then some (.str d.shown) else none
      | none => none
    else none
  | _ => none
theorem sRepr (hK : Γ.K = X.K) : OpN Γ (rRepr X.K) reprD := fun H μ Z s xs w vs Q hR rx e k => by
  rw [← hK]
  unfold reprD at e
  split at e
  · rename_i x
    split at e
    · rename_i hd
      split at e
      · rename_i d q
        split at e
        · rename_i hc
          cases e
          obtain ⟨v, rfl, r1⟩ := one rx
          have hv : ∃ a, v = .ref a := by
            cases x with
            | tup _ => obtain ⟨a, _, h, _⟩ := r1; exact ⟨a, h⟩
            | lst _ => obtain ⟨a, _, h, _⟩ := r1; exact ⟨a, h⟩
            | sq _ => obtain ⟨a, _, h, _⟩ := r1; exact ⟨a, h⟩
            | ref _ => obtain ⟨a, h, _⟩ := r1; exact ⟨a, h⟩
            | _ => cases hd
          obtain ⟨a, rfl⟩ := hv
          exact ⟨_, a, d, rfl, rfl, toD_ok hR r1 q, hc.1, hc.2.1, hc.2.2.1, lim_ok hc.2.2.2, k _ H .refl hR rfl⟩
        · cases e
      · cases e
    · cases e
  · cases e

/-! ### sorted(set(t)) of a tuple of ints -/
theorem cr_setT (hc : X.calm = true) : CallR X (.type "set") (fun vs H Q => ∃ (a : Addr) (ns : List Int), vs = [V.ref a] ∧ SqT X.K H a (ns.map V.int) ∧ ns.length ≤ 1000 ∧ ∀ p c, H p = none → c ≤ ns.length → Q (.ref p) (upd H p (SetO X.w p (fun j => decide (j ∈ ns)) c))) := by
  intro pins s σ H vs us Q I r h
  obtain ⟨a, ns, rfl, hs, hl, q⟩ := h
  obtain ⟨its, rv, p, _⟩ := I.tuple hs
  obtain ⟨v, rfl, rfl⟩ : ∃ v, us = [v] ∧ v = Value.ref a := by
    cases r with
    | cons r rr => cases rr; exact ⟨_, rfl, r⟩
  have hsz : ns.length + 1 < scanBound := by
    have : scanBound = 4096 := rfl
    omega
  refine call_set_tupI ns (I.ok.hd hc) p (by simpa using rv.ints) hsz fun h' tk c R hcl hk => ?_
  have hn : H s.heap.objs.size = none := I.hok.fresh (Nat.le_refl _)
  exact ⟨.ref s.heap.objs.size, _, I.laid (t' := tk) hk (Nat.le_refl _) (setO_new R), rfl, q _ c hn hcl⟩
/-- without repeats -/
def ucons (a : Int) (r : List Int) : List Int := match r with
  | [] => [a]
  | b :: t => if a = b then b :: t else a :: b :: t
def usrt (ns : List Int) : List Int := (srt ns).foldr ucons []
theorem usrt_spec : ∀ l : List Int, l.Pairwise (· ≤ ·) → (l.foldr ucons []).Pairwise (· < ·) ∧ ∀ k, k ∈ (l.foldr ucons []) ↔ k ∈ l
  | [], _ => ⟨.nil, fun k => Iff.rfl⟩
  | a :: l, h => by
    obtain ⟨h1, h2⟩ := List.pairwise_cons.mp h
    obtain ⟨i1, i2⟩ := usrt_spec l h2
    rw [List.foldr_cons]
    revert i1 i2
    generalize (l.foldr ucons []) = r
    intro i1 i2
    cases r with
    | nil =>
      refine ⟨by unfold ucons; exact List.pairwise_singleton _ _, fun k => ?_⟩
      unfold ucons
      rw [List.mem_singleton, List.mem_cons, ← i2 k]
      simp
    | cons b t =>
      unfold ucons
      dsimp only
      have hb : a ≤ b := h1 b ((i2 b).mp List.mem_cons_self)
      split
      · rename_i e
        subst e
        refine ⟨i1, fun k => ?_⟩
        rw [List.mem_cons (l := l), ← i2 k, List.mem_cons]
        exact ⟨fun z => .inr z, fun z => z.elim .inl id⟩
      · rename_i e
        refine ⟨List.pairwise_cons.mpr ⟨fun c hc => ?_, i1⟩, fun k => ?_⟩
        · rcases List.mem_cons.mp hc with z | z
          · rw [z]; omega
          · have := (List.pairwise_cons.mp i1).1 c z
            omega
        · rw [List.mem_cons, List.mem_cons (l := l), i2 k]
theorem strict_eq : ∀ {l l' : List Int}, l.Pairwise (· < ·) → l'.Pairwise (· < ·) → (∀ k, k ∈ l ↔ k ∈ l') → l = l'
  | [], [], _, _, _ => rfl
  | [], b :: t, _, _, h => absurd ((h b).mpr List.mem_cons_self) (by simp)
  | a :: r, [], _, _, h => absurd ((h a).mp List.mem_cons_self) (by simp)
  | a :: r, b :: t, h, h', hk => by
    obtain ⟨h1, h2⟩ := List.pairwise_cons.mp h
    obtain ⟨g1, g2⟩ := List.pairwise_cons.mp h'
    have hab : a = b := by
      have ha := (hk a).mp List.mem_cons_self
      have hb := (hk b).mpr List.mem_cons_self
      rcases List.mem_cons.mp ha with e | e
      · exact e
      · rcases List.mem_cons.mp hb with e' | e'
        · exact e'.symm
        · have := h1 b e'
          have := g1 a e
          omega
    subst hab
    rw [strict_eq h2 g2 fun k => ?_]
    constructor
    · intro hm
      rcases List.mem_cons.mp ((hk k).mp (List.mem_cons_of_mem _ hm)) with e | e
      · have := h1 k hm; omega
      · exact e
    · intro hm
      rcases List.mem_cons.mp ((hk k).mpr (List.mem_cons_of_mem _ hm)) with e | e
      · have := g1 k hm; omega
      · exact e
def sortedSetD : ON := fun _ xs => match xs with
  | [.tup ws] => match intsOf ws with
    | some ns => if ns.length ≤ 60 then some (.lst ((usrt ns).map .int)) else none
    | none => none
  | _ => none
theorem me_sortedSet {e : Expr} {fa : FA} {p p2 pos pos2 : Pos} (hK : Γ.K = X.K) (hc : X.calm = true) (hg : Gl X "sorted") (hm : X.mg "sorted" = none) (hg2 : Gl X "set") (hm2 : X.mg "set" = none) (ha : MA X Γ W [e] fa)
    (he : starEach [e] X.env = (false, eval e X.env) :: starEach [] X.env := by rfl) (hpl : (backTo pos2 (starEach [] X.env)).any (·.1) = false := by rfl)
    (he' : starEach [.Call (.Name "set" p2) [e] [] pos2] X.env = (false, eval (.Call (.Name "set" p2) [e] [] pos2) X.env) :: starEach [] X.env := by rfl) (hpl' : (backTo pos (starEach [] X.env)).any (·.1) = false := by rfl) :
    ME X Γ W (.Call (.Name "sorted" p) [.Call (.Name "set" p2) [e] [] pos2] [] pos) (mBlt sortedSetD fa) :=
  PE.imp (pe_callB (cr_sortedSet hc) hg hm (by decide +kernel) (pa_cons (pe_callTy (cr_setT hc) hg2 hm2 (by decide +kernel) ha (by decide) (by decide) he hpl) pa_nil he') (by decide) (by decide) he' hpl') fun σ H Q ⟨μ, Z, ρ, s, hE, hR, q⟩ => by
    refine aE hE hR q fun ws s1 vs H1 μ1 e1 E1 R1 r1 q1 => ?_
    obtain ⟨w, hw, k⟩ := ofE q1
    unfold sortedSetD at hw
    split at hw
    · rename_i us
      split at hw
      · rename_i ns qi
        split at hw
        · rename_i hl
          cases hw
          obtain ⟨v, rfl, a, xs, rfl, h2, h3⟩ := one r1
          rw [intsOf_ok qi] at h3
          have h4 := h3.ints
          subst h4
          refine ⟨a, ns, rfl, hK ▸ h2.sq, by omega, fun p' c hp hcl => ?_⟩
          refine ⟨p', _, c, rfl, upd_same, by omega, fun ns' l hs hmem hlen hn => ?_⟩
          have hne : H1 l = none := by
            by_cases z : l = p'
            · rw [z]; exact hp
            · rw [upd_ne z] at hn; exact hn
          have eq : ns' = usrt ns := by
            obtain ⟨u1, u2⟩ := usrt_spec (srt ns) (srt_sorted ns)
            refine strict_eq hs u1 fun k => ?_
            rw [hmem k]
            exact decide_eq_true_iff.trans ((srt_perm ns).mem_iff.symm.trans (u2 k).symm)
          rw [eq]
          have R2 := R1.laid (o := SetO X.w p' (fun j => decide (j ∈ ns)) c) hp
          exact k _ _ ((Evo.laid hp).trans (Evo.laid hn)) (R2.laid hn) (new_lst R2 hn (RVs.of_ints _))
        · cases hw
      · cases hw
    · cases hw

/-! ### dict displays -/
def mPairs : List (FE × FE) → Env → Sto → R (List (Dv × Dv))
  | [], _, s => .ok [] s
  | (f, g) :: r, ρ, s => (f ρ s).bind fun x s1 => (g ρ s1).bind fun y s2 => (mPairs r ρ s2).bind fun ps s3 => .ok ((x, y) :: ps) s3
def keysOf : List (Dv × Dv) → Option (List (Key × Dv))
  | [] => some []
  | (x, y) :: r => match keyOf x, keysOf r with
    | some k, some l => some ((k, y) :: l)
    | _, _ => none
def mDctM (ps : List (FE × FE)) : FE := fun ρ s => match mPairs ps ρ s with
  | .ok l s1 => match keysOf l with
    | some kws => if kws.length ≤ 15 then .ok (.ref s1.length) (s1 ++ [.dct (kws.foldl (fun acc kv => putD acc kv.1 kv.2) [])]) else .no
    | none => .no
  | _ => .no

theorem pairs_ok {Z : Zs} {σ : L2.St} {ρ : Env} : ∀ {ps : List (FE × FE)} {H : Hp} {μ : Mu} {s s' : Sto} {l : List (Dv × Dv)} {Q' : List (V × V) → Hp → Prop}, RE Γ H μ Z ρ σ → Rep Γ H μ Z s → mPairs ps ρ s = .ok l s' →
    (∀ vs H1 μ1, Evo H μ H1 μ1 → Rep Γ H1 μ1 Z s' → RVs Γ H1 μ1 Z (l.map (·.1)) (vs.map (·.1)) → RVs Γ H1 μ1 Z (l.map (·.2)) (vs.map (·.2)) → Q' vs H1) →
    tPairs (ps.map fun p => (rdE Γ W p.1, rdE Γ W p.2)) σ H Q'
  | [], H, μ, s, s', l, Q', hE, hR, q, hk => by
    cases q
    exact hk [] H μ .refl hR rfl rfl
  | (f, g) :: r, H, μ, s, s', l, Q', hE, hR, q, hk => by
    simp only [mPairs] at q
    cases e1 : f ρ s with
    | no => rw [e1] at q; cases q
    | er x s1 => rw [e1] at q; cases q
    | ok x s1 =>
      rw [e1] at q
      dsimp only [R.bind] at q
      cases e2 : g ρ s1 with
      | no => rw [e2] at q; cases q
      | er y s2 => rw [e2] at q; cases q
      | ok y s2 =>
        rw [e2] at q
        dsimp only at q
        cases e3 : mPairs r ρ s2 with
        | no => rw [e3] at q; cases q
        | er y s2 => rw [e3] at q; cases q
        | ok l' s3 =>
          rw [e3] at q
          cases q
          refine ⟨μ, Z, ρ, s, hE, hR, ?_⟩
          show PostE Γ W H μ Z σ _ (f ρ s)
          rw [e1]
          intro u H1 μ1 v1 R1 r1
          refine ⟨μ1, Z, ρ, s1, hE.mono v1, R1, ?_⟩
          show PostE Γ W H1 μ1 Z σ _ (g ρ s1)
          rw [e2]
          intro v H2 μ2 v2 R2 r2
          exact pairs_ok ((hE.mono v1).mono v2) R2 e3 fun vs H3 μ3 v3 R3 g1 g2 => hk ((u, v) :: vs) H3 μ3 ((v1.trans v2).trans v3) R3 (RVs.cons ((r1.mono v2).mono v3) g1) (RVs.cons (r2.mono v3) g2)
theorem keysOf_ok {H : Hp} {μ : Mu} {Z : Zs} : ∀ {l : List (Dv × Dv)} {vs : List (V × V)} {kws : List (Key × Dv)}, RVs Γ H μ Z (l.map (·.1)) (vs.map (·.1)) → RVs Γ H μ Z (l.map (·.2)) (vs.map (·.2)) → keysOf l = some kws →
    ∃ kvs : List (Key × V), vs = kvs.map (fun kv => (kV kv.1, kv.2)) ∧ kvs.map (·.1) = kws.map (·.1) ∧ RVs Γ H μ Z (kws.map (·.2)) (kvs.map (·.2))
  | [], vs, _, h1, _, e => by
    cases e
    cases vs with
    | nil => exact ⟨[], rfl, rfl, rfl⟩
    | cons _ _ => cases h1
  | (x, y) :: l, vs, kws, h1, h2, e => by
    cases vs with
    | nil => obtain ⟨_, _, z, _⟩ := h1; cases z
    | cons p vs =>
      obtain ⟨u, us, z1, r1, r2⟩ := h1
      obtain ⟨v, ws, z2, r3, r4⟩ := h2
      obtain ⟨a1, a2⟩ := List.cons.inj z1
      obtain ⟨b1, b2⟩ := List.cons.inj z2
      simp only [keysOf] at e
      split at e
      · rename_i k l' e1 e2
        cases e
        obtain ⟨kvs, c1, c2, c3⟩ := keysOf_ok (a2 ▸ r2) (b2 ▸ r4) e2
        refine ⟨(k, v) :: kvs, ?_, by rw [List.map_cons, List.map_cons, c2], RVs.cons r3 c3⟩
        rw [List.map_cons, ← c1]
        have p1 : p.1 = u := a1
        have p2 : p.2 = v := b1
        show p :: vs = (kV k, v) :: vs
        rw [← keyOf_ok r1 e1, ← p1, ← p2]
      · cases e
theorem merge_ok {H : Hp} {μ : Mu} {Z : Zs} : ∀ {kws acc : List (Key × Dv)} {kvs bcc : List (Key × V)}, kvs.map (·.1) = kws.map (·.1) → RVs Γ H μ Z (kws.map (·.2)) (kvs.map (·.2)) → bcc.map (·.1) = acc.map (·.1) → RVs Γ H μ Z (acc.map (·.2)) (bcc.map (·.2)) →
    (mergeK bcc kvs).map (·.1) = (kws.foldl (fun acc kv => putD acc kv.1 kv.2) acc).map (·.1) ∧ RVs Γ H μ Z ((kws.foldl (fun acc kv => putD acc kv.1 kv.2) acc).map (·.2)) ((mergeK bcc kvs).map (·.2))
  | [], acc, kvs, bcc, h1, _, h3, h4 => by
    cases kvs with
    | nil => exact ⟨h3, h4⟩
    | cons _ _ => cases h1
  | p :: kws, acc, kvs, bcc, h1, h2, h3, h4 => by
    cases kvs with
    | nil => cases h1
    | cons q kvs =>
      obtain ⟨a1, a2⟩ := List.cons.inj h1
      obtain ⟨v, vs, z, r1, r2⟩ := h2
      obtain ⟨b1, b2⟩ := List.cons.inj z
      subst b1
      have a1' : q.1 = p.1 := a1
      obtain ⟨c1, c2⟩ := putD_ok (k := p.1) r1 h3 h4
      have := merge_ok (kws := kws) (acc := putD acc p.1 p.2) (kvs := kvs) (bcc := putK bcc p.1 q.2) a2 (b2 ▸ r2) c1 c2
      show (mergeK (putK bcc q.1 q.2) kvs).map (·.1) = _ ∧ RVs Γ H μ Z _ ((mergeK (putK bcc q.1 q.2) kvs).map (·.2))
      rw [a1']
      exact this
theorem ext_fz {μ : Mu} {Z : Zs} {n : Nat} {p a : Addr} (f : Fz μ (hid p Z) a) : Fz (MP.ext μ n p) Z a := ⟨fun m h => by
  unfold MP.ext at h
  split at h
  · cases h; exact f.2 (.inl rfl)
  · exact f.1 m h, fun z => f.2 (.inr z)⟩
theorem ext_mu {μ : Mu} {n m : Nat} {p a : Addr} (hn : μ n = none) (h : μ m = some a) : MP.ext μ n p m = some a := by
  unfold MP.ext
  rw [if_neg fun z => by rw [z, hn] at h; cases h]
  exact h
mutual
theorem RV.adopt {H : Hp} {μ : Mu} {Z : Zs} {n : Nat} {p : Addr} (hn : μ n = none) : ∀ (w : Dv) {v : V}, RV Γ H μ (hid p Z) w v → RV Γ H (MP.ext μ n p) Z w v
  | .non, _, q => q
  | .bl _, _, q => q
  | .int _, _, q => q
  | .str _, _, q => q
  | .ty _, _, q => q
  | .cl _, _, q => q
  | .ref n, _, q => by
    obtain ⟨a, h1, h2⟩ := q
    exact ⟨a, h1, ext_mu hn h2⟩
  | .tup ws, _, q => by
    obtain ⟨a, xs, h1, h2, h3⟩ := q
    exact ⟨a, xs, h1, h2.elim (fun z => .inl ⟨z.1, ext_fz z.2⟩) .inr, RVs.adopt hn ws h3⟩
  | .sq ws, _, q => by
    obtain ⟨a, xs, h1, h2, h3⟩ := q
    exact ⟨a, xs, h1, h2.elim (fun z => .inl ⟨z.1, ext_fz z.2⟩) .inr, RVs.adopt hn ws h3⟩
  | .lst ws, _, q => by
    obtain ⟨a, xs, h1, h2, h3, h4⟩ := q
    exact ⟨a, xs, h1, h2, ext_fz h3, RVs.adopt hn ws h4⟩
  | .dct ks ws, _, q => by
    obtain ⟨a, kvs, h1, h2, h3, h4, h5⟩ := q
    exact ⟨a, kvs, h1, h2, ext_fz h3, h4, RVs.adopt hn ws h5⟩
  | .exc c f w, _, q => by
    obtain ⟨a, dx, x, h1, h2, h3, h4, h5, h6⟩ := q
    exact ⟨a, dx, x, h1, h2, ext_fz h3, h4, ext_fz h5, RV.adopt hn w h6⟩
  | .exn c, _, q => by
    obtain ⟨a, h1, h2, h3⟩ := q
    exact ⟨a, h1, h2, ext_fz h3⟩
  | .clo a c _ ws vs, _, q => by
    obtain ⟨h1, h2, h3, h4⟩ := q
    exact ⟨h1, h2, ext_fz h3, RVs.adopt hn ws h4⟩
theorem RVs.adopt {H : Hp} {μ : Mu} {Z : Zs} {n : Nat} {p : Addr} (hn : μ n = none) : ∀ (ws : List Dv) {vs : List V}, RVs Γ H μ (hid p Z) ws vs → RVs Γ H (MP.ext μ n p) Z ws vs
  | [], _, q => q
  | w :: ws, _, q => by
    obtain ⟨x, xs, h1, h2, h3⟩ := q
    exact ⟨x, xs, h1, RV.adopt hn w h2, RVs.adopt hn ws h3⟩
end
theorem RO.adopt {H : Hp} {μ : Mu} {Z : Zs} {n : Nat} {p a : Addr} {ob : Ob} (hn : μ n = none) (r : RO Γ H μ (hid p Z) a ob) : RO Γ H (MP.ext μ n p) Z a ob := by
  cases ob with
  | lst ws =>
    obtain ⟨xs, h4, h5⟩ := r
    exact ⟨xs, h4, h5.adopt hn⟩
  | dct kws =>
    obtain ⟨kvs, h4, h5, h6⟩ := r
    exact ⟨kvs, h4, h5, h6.adopt hn⟩
  | tab m q => exact ⟨r.1, tab_imp rfl (fun c e1 e2 => ⟨e1, ext_fz e2⟩) r.2⟩
/-- what was hidden becomes an object of the store -/
theorem Rep.adoptO {H : Hp} {μ : Mu} {Z : Zs} {s : Sto} {D : Addr} {ob : Ob} (R : Rep Γ H μ (hid D Z) s) (hz : ¬ Z D) (ro : RO Γ H μ (hid D Z) D ob) : Rep Γ H (MP.ext μ s.length D) Z (s ++ [ob]) := by
  have nm := R.mu_new
  have noD : ∀ {m : Nat} {a : Addr}, μ m = some a → a ≠ D := fun h e => R.notZ h (.inl e)
  refine ⟨fun n o' q => ?_, fun n m a h1 h2 => ?_, fun n a h => ?_, fun a z => R.za a (.inr z)⟩
  · by_cases hn : n = s.length
    · subst hn
      rw [List.getElem?_append_right (Nat.le_refl _)] at q
      simp at q
      subst q
      exact ⟨D, by unfold MP.ext; rw [if_pos rfl], hz, ro.adopt nm⟩
    · have hl : n < s.length := by
        have := (List.getElem?_eq_some_iff.mp q).1
        rw [List.length_append, List.length_singleton] at this
        omega
      rw [List.getElem?_append_left hl] at q
      obtain ⟨a, h1, h2, h3⟩ := R.at n o' q
      exact ⟨a, ext_mu nm h1, fun z => h2 (.inr z), h3.adopt nm⟩
  · unfold MP.ext at h1 h2
    split at h1 <;> split at h2
    · rename_i e1 e2; rw [e1, e2]
    · cases h1; exact absurd rfl (noD h2)
    · cases h2; exact absurd rfl (noD h1)
    · exact R.inj _ _ _ h1 h2
  · unfold MP.ext at h
    rw [List.length_append, List.length_singleton]
    split at h
    · omega
    · have := R.dom _ _ h
      omega
theorem Evo.adopt {H H1 : Hp} {μ μ1 : Mu} {n : Nat} {p : Addr} (e : Evo H μ H1 μ1) (hp : H p = none) (hn : μ1 n = none) : Evo H μ H1 (MP.ext μ1 n p) :=
  ⟨e.keep, fun m a h => ext_mu hn (e.mu m a h), fun m a h => by
    unfold MP.ext at h
    split at h
    · cases h; exact .inr hp
    · exact e.new m a h, e.stay⟩
theorem me_dctM {pos : Pos} {keys : List (Option Expr)} {values : List Expr} {ps : List (FE × FE)} (h : PPs X pos keys values (ps.map fun p => (rdE Γ W p.1, rdE Γ W p.2))) (hall : keys.all (·.isSome) = true) (hl : keys.length = values.length) (h0 : keys ≠ []) (h15 : keys.length ≤ 15) :
    ME X Γ W (.Dict keys values pos) (mDctM ps) :=
  PE.imp (pe_disp h hall hl h0 h15) fun σ H Q ⟨μ, Z, ρ, s, hE, hR, q⟩ p hp => by
    unfold mDctM at q
    cases e : mPairs ps ρ s with
    | no => rw [e] at q; exact q.elim
    | er x s1 => rw [e] at q; exact q.elim
    | ok l s1 =>
      rw [e] at q
      dsimp only at q
      split at q
      · rename_i kws ek
        split at q
        · rename_i h15'
          refine pairs_ok (hE.hide hp) (hR.hide hp) e fun vs H1 μ1 ev R1 g1 g2 => ?_
          obtain ⟨kvs, c1, c2, c3⟩ := keysOf_ok g1 g2 ek
          have hH : H1 p = some (.dK []) := ev.keep p _ upd_same fun n hn => hR.alive hn hp
          refine ⟨hH, kvs, c1, by rw [map_len c2]; exact h15', ?_⟩
          obtain ⟨d1, d2⟩ := merge_ok (Γ := Γ) (H := upd H1 p (.dK (mergeK [] kvs))) (μ := μ1) (Z := hid p Z) (acc := []) (bcc := []) c2 (RVs.updZ _ c3) rfl rfl
          have R2 : Rep Γ (upd H1 p (.dK (mergeK [] kvs))) μ1 (hid p Z) s1 := R1.updZ
          have nz : ¬ Z p := fun z => hR.za p z hp
          have e0 : Evo H μ (upd H1 p (.dK (mergeK [] kvs))) μ1 := ((Evo.laid hp).trans ev).hid hp
          exact q (.ref p) _ _ (e0.adopt hp R1.mu_new) (R2.adoptO nz ⟨_, upd_same, d1, d2⟩) ⟨p, rfl, by unfold MP.ext; rw [if_pos rfl]⟩
        · exact q.elim
      · exact q.elim
/-- a comprehension whose list will be changed -/
theorem me_compM {elt tg iter : Expr} {ifs : List Expr} {scope : Scope} {own : List (Str × Nat)} {pos : Pos} {f : FI} {g : TG} {fg : FG} {tt : FT} {fe : FE} (hc : X.calm = true) (hN : X.N.Nodup) (hi : MI X Γ W tg iter f) (ok : BlkOk X.N X.env.scope scope own)
    (hg : ∀ (s : Shared) (H : Hp) (C : Addr) (cl : List (Str × Addr)) (fp : List Addr), PG (X.blk s H scope (compEnvC scope cl C X.env) fp) tg g) (hw : GWk Γ g fg (own.map (·.2)))
    (ht : ∀ (s : Shared) (H : Hp) (C : Addr) (cl : List (Str × Addr)) (fp : List Addr), MTs (X.blk s H scope (compEnvC scope cl C X.env) fp) Γ ifs tt)
    (he : ∀ (s : Shared) (H : Hp) (C : Addr) (cl : List (Str × Addr)) (fp : List Addr), ME (X.blk s H scope (compEnvC scope cl C X.env) fp) Γ W0 elt fe) (hs : ∀ x, foldedSetIterable iter X.env x = pure x := by intro _; rfl) :
    ME X Γ W (.ListComp elt [⟨tg, iter, ifs, 0⟩] scope pos) (mCompM f (own.map (·.2)) fg tt fe) :=
  PE.imp (pe_lc hc hN hi ok hg ht he hs) fun σ H Q ⟨μ, Z, ρ, s, hE, hR, q⟩ => iE hE hR q fun r s1 J H1 μ1 e1 E1 R1 w1 q1 D hD => by
    cases e : compL r.ow (own.map (·.2)) fg tt fe ρ r.ws s1 with
    | none => rw [e] at q1; exact q1.elim
    | some p =>
      obtain ⟨tot, s2⟩ := p
      rw [e] at q1
      dsimp only at q1
      split at q1
      · rename_i hl
        exact comp_ok hw E1 R1 w1 hD e hl fun H2 μ2 acc ev R2 hH ra => q1 (.ref D) H2 _ (ev.adopt hD R2.mu_new) (R2.adoptO (fun z => R1.za D z hD) ⟨acc, hH, ra⟩) ⟨D, rfl, by unfold MP.ext; rw [if_pos rfl]⟩
      · exact q1.elim
end
end MP

set_option Elab.async false
set_option linter.all false
set_option maxRecDepth 100000
set_option maxHeartbeats 4000000
namespace MP
open PySem PySem.Spec PyProof.Rows L2

section
variable {X : Cx} {Γ : Ct} {W : WX} {a b c e : Expr} {f g h h' : FE} {pos : Pos} {x y : Str} {i j : Nat}
/-- a < b < c as a test -/
theorem mt_chain {op op' : CmpOp} {r r' : R2} {o o' : O2} (ho : OpR X (compareOp op) r) (ho' : OpR X (compareOp op') r') (hs : Op2 Γ r o) (hs' : Op2 Γ r' o') (hm : lastMarks [op, op'] [b, c] = false)
    (ha : ME X Γ W a f) (hb : ME X Γ W b g) (hc : ME X Γ W c h') : MT X Γ W (.Compare a [op, op'] [b, c] pos) (mTest (mChain o o' f g h')) := by
  have key : ∀ σ H (Q : VK), rdE Γ W (mChain o o' f g h') σ H Q → tChain r r' (rdE Γ W f) (rdE Γ W g) (rdE Γ W h') σ H Q := fun σ H Q ⟨μ, Z, ρ, s, hE, hR, q⟩ => eE hE hR q fun x s1 u H1 μ1 e1 hE1 R1 r1 q1 => eE hE1 R1 q1 fun y s2 v H2 μ2 e2 hE2 R2 r2 q2 => by
    cases hw : o s2 x y with
    | none => rw [hw] at q2; exact q2.elim
    | some w =>
      rw [hw] at q2
      refine hs H2 μ2 Z s2 x y w u v _ R2 (r1.mono e2) r2 hw fun z H3 e3 R3 r3 => ?_
      cases w with
      | bl k =>
        refine ⟨k, r3, ?_⟩
        cases k with
        | true =>
          rw [if_pos rfl]
          exact eE (hE2.mono e3) R3 (PostE.evo e3 q2) fun z' s3 v3 H4 μ4 e4 hE4 R4 r4 q4 => by
            obtain ⟨w', hw', k'⟩ := ofE q4
            exact hs' H4 μ4 Z s3 y z' w' v v3 Q R4 ((r2.mono e3).mono e4) r4 hw' k'
        | false =>
          rw [if_neg Bool.false_ne_true]
          exact okE R3 (w := .bl false) rfl (PostE.evo e3 q2)
      | _ => exact q2.elim
  refine PT.imp (pt_chain ho ho' ha hb hc hm) fun σ H Q ⟨μ, Z, ρ, s, hE, hR, q⟩ => key σ H _ ?_
  refine ⟨μ, Z, ρ, s, hE, hR, ?_⟩
  have q' : PostT Γ W H μ Z σ Q ((mChain o o' f g h' ρ s).bind fun x s1 => match x with
      | .bl b => .ok b s1
      | _ => .no) := q
  revert q'
  cases mChain o o' f g h' ρ s with
  | ok w s1 =>
    intro q' v H' μ' ev R' rv
    cases w with
    | bl b => exact ⟨b, rv, okT R' (PostT.evo ev q')⟩
    | _ => exact q'.elim
  | er x s1 => exact id
  | no => exact id

/-! ### two names at once -/
def mPar (i j : Nat) (fa : FA) : FS := fun ρ s => (fa ρ s).thenC ρ fun ws s1 => match ws with
  | [v, w] => .nx ((ρ.set i (some v)).set j (some w)) s1
  | _ => .no
theorem ms_par {px py pt : Pos} {kt k2 pt2} {fa : FA} (hc : X.calm = true) (hN : X.N.Nodup) (hi : X.N[i]? = some x) (hj : X.N[j]? = some y) (hij : i ≠ j)
    (hx : X.env.scope.names.lookup x = some .local) (hy : X.env.scope.names.lookup y = some .local) (ha : MA X Γ W [a, b] fa)
    (hw : swappedStores [.Tuple [.Name x px, .Name y py] kt pt] (.Tuple [a, b] k2 pt2) X.env = pure (some [x, y]))
    (hs : swapsWithSole [.Tuple [.Name x px, .Name y py] kt pt] (.Tuple [a, b] k2 pt2) pos.line X.env = pure false := by rfl) :
    MS X Γ W (.Assign [.Tuple [.Name x px, .Name y py] kt pt] (.Tuple [a, b] k2 pt2) pos) (mPar i j fa) :=
  PS.imp (ps_par hc hN hi hj hij hx hy ha hw hs) fun D σ H ⟨μ, Z, ρ, s, hE, hR, q⟩ => aS hE hR q fun ws s1 vs H1 μ1 ev E1 R1 r1 q1 => by
    match ws, q1, r1 with
    | [v, w], q1, r1 =>
      obtain ⟨x1, xs, rfl, ra, rb⟩ := r1
      obtain ⟨x2, xs, rfl, rb, rfl⟩ := rb
      exact ⟨x1, x2, rfl, q1 _ H1 μ1 .refl R1 ((E1.set i ra).set j rb)⟩
    | [], q1, _ => exact q1.elim
    | [_], q1, _ => exact q1.elim
    | _ :: _ :: _ :: _, q1, _ => exact q1.elim

/-! ### what is never come to -/
def mStuck : FS := fun _ _ => .no
theorem ms_stuck {st : Stmt} : MS X Γ W st mStuck := PS.imp ps_never fun D σ H ⟨μ, Z, ρ, s, hE, hR, q⟩ => q.elim
theorem mb_stuck {sts : List Stmt} : MB X Γ W sts mStuck := PSs.imp pss_never fun D σ H ⟨μ, Z, ρ, s, hE, hR, q⟩ => q.elim

theorem tk0 {X : Cx} : Takes X W0 := fun u s' ⟨_, _, _, _, _, _, _, _, _, _, _, _, _, _, _, _, w⟩ => w.elim
theorem me_globJ {x : Str} {i : Int} {pos : Pos} (hg : Gl X x) (hm : ∃ t, X.mg x = some (.int i t)) (hd : (x == ("__debug__" : Str)) = false := by decide) : ME X Γ W (.Name x pos) (mK (.int i)) := by
  obtain ⟨t, h⟩ := hm
  exact me_globI hg h hd
theorem go_name {i : Nat} : GOk Γ (gName i) (gN i) := fun H μ Z ρ ρ' s σ w v Q hE hR r e k => by
  cases e
  exact k _ (hE.set i r)
theorem ms_set {i : Nat} {x : Str} {pos' : Pos} (hN : X.N.Nodup) (hi : X.N[i]? = some x) (hx : Loc X.env.scope x) (he : ME X Γ W e f) (hs : swapsWith e (some (.Name x pos')) pos.line X.env = pure false := by rfl) (hf : X.fn x = true ∨ X.env.scope.names.lookup x = some .local := by first | exact .inl rfl | exact .inr rfl | assumption) :
    MS X Γ W (.Assign [.Name x pos'] e pos) (mAsg f (gN i)) := ms_asg (ps_set hN hi hx he hs hf) go_name
theorem mgs_cons' {tg : Expr} {tgs : List Expr} {g : TG} {gs : TGs} {fg : FG} {fgs : List Dv → Env → Sto → Option Env} (h1 : MG X Γ tg g fg) (h2 : MGs X Γ tgs gs fgs)
    (hs : (assignEach (tg :: tgs) X.env).map (·.2) = assign tg X.env :: (assignEach tgs X.env).map (·.2) := by rfl) : MGs X Γ (tg :: tgs) (gCons g gs) (gsC fg fgs) := mgs_cons h1 h2 (pgs_cons h1.1 h2.1 hs)
theorem mg_tup' {tgs : List Expr} {kk n : Nat} {gs : TGs} {fgs : List Dv → Env → Sto → Option Env} (hK : Γ.K = X.K) (hc : X.calm = true) (h : MGs X Γ tgs gs fgs)
    (hn : (assignEach tgs X.env).length = n := by rfl) (hst : (assignEach tgs X.env).findIdx? (·.1) = none := by rfl) : MG X Γ (.Tuple tgs kk pos) (gTup X.K n gs) (gT n fgs) := mg_tup hK.symm (pg_tup hc h.1 hn hst) h.2
theorem ms_setT {tg e : Expr} {g : TG} {fg : FG} (he : ME X Γ W e f) (hg : MG X Γ tg g fg) (hs : swapsWithSole [tg] e pos.line X.env = pure false := by rfl) (hw : swappedStores [tg] e X.env = pure none := by rfl)
    (h1 : (assignEach [tg] X.env).map (·.2) = [assign tg X.env] := by rfl) : MS X Γ W (.Assign [tg] e pos) (mAsg f fg) := ms_asg (ps_asg he hg.1 hs hw h1) hg.2

/-! ### how many -/
def FA.Len (fa : FA) (n : Nat) : Prop := ∀ ρ s ws s', fa ρ s = .ok ws s' → ws.length = n
theorem len_nil : FA.Len mNil 0 := fun ρ s ws s' q => by cases q; rfl
theorem len_cons {fa : FA} {n : Nat} (q : fa.Len n) : FA.Len (mCons f fa) (n + 1) := fun ρ s ws s' p => by
  unfold mCons at p
  cases h1 : f ρ s with
  | ok w s1 =>
    rw [h1] at p
    have p2 : (fa ρ s1).bind (fun xs s2 => R.ok (w :: xs) s2) = .ok ws s' := p
    cases h2 : fa ρ s1 with
    | ok xs s2 =>
      rw [h2] at p2
      cases p2
      rw [List.length_cons, q ρ s1 xs _ h2]
    | er z s2 => rw [h2] at p2; cases p2
    | no => rw [h2] at p2; cases p2
  | er z s1 => rw [h1] at p; cases p
  | no => rw [h1] at p; cases p
end

/-! ### a def that may be called -/
/-- what a call of x must know -/
def Cal (P : Program) (w : World) (mg : Str → Option Value) (base : Heap) (Γ : Ct) (k : Nat) (x : Str) (ps : List Str) (den : Fn) : Prop :=
  ∃ (f : Addr) (fd : FuncData), FnG P w mg base Γ k f fd ps den ∧ mg x = some (.ref f) ∧ PySem.W.keepIn Γ.K (.ref f) = true ∧ Binds Γ.K fd ps []
section
variable {X : Cx} {Γ : Ct} {W : WX} {k k' : Nat} {ps : List Str} {den : Fn} {x : Str} {p pos : Pos} {e : Expr} {es : List Expr} {fa : FA}
theorem FnG.up {P : Program} {w : World} {mg : Str → Option Value} {base : Heap} {f : Addr} {fd : FuncData} (hk : k ≤ k') (F : FnG P w mg base Γ k f fd ps den) : FnG P w mg base Γ k' f fd ps den :=
  ⟨fun A outer s H args us vs Q E room => F.run A outer s H args us vs Q E (room.mono hk)⟩
theorem Cal.up {P : Program} {w : World} {mg : Str → Option Value} {base : Heap} (hk : k ≤ k') (F : Cal P w mg base Γ k x ps den) : Cal P w mg base Γ k' x ps den := by
  obtain ⟨f, fd, h1, h2⟩ := F
  exact ⟨f, fd, h1.up hk, h2⟩
theorem me_cal (C : Cal X.prog X.w X.mg X.base Γ k x ps den) (hK : Γ.K = X.K) (hr : Room k X.A) (hg : X.A.guards = some []) (tk : Takes X W) (hgl : Gl X x) (ha : MA X Γ W (e :: es) fa) (n : Nat) (hl : FA.Len fa n) (hn : n = ps.length) (hnl : (e :: es).length = n) (hdb : (x == ("__debug__" : Str)) = false := by decide)
    (he : starEach (e :: es) X.env = (false, eval e X.env) :: starEach es X.env := by rfl) (hpl : (backTo pos (starEach es X.env)).any (·.1) = false := by rfl) :
    ME X Γ W (.Call (.Name x p) (e :: es) [] pos) (mCall den fa) := by
  obtain ⟨f, fd, F, hm, hk, hb⟩ := C
  have := me_call (ds := []) (dvs := []) (dws := []) (pos := pos) (p := p) F hK hr hg hgl hm (hK ▸ hk) (hK ▸ hb) .nil (fun _ _ _ => rfl) n (by simpa using hn) hnl tk ha hl hdb he hpl
  have e1 : mCall (fun ws => den (ws ++ [])) fa = mCall den fa := by
    congr 1
    funext ws
    rw [List.append_nil]
  rwa [e1] at this
end
end MP

set_option Elab.async false
set_option linter.all false
set_option maxRecDepth 100000
set_option maxHeartbeats 4000000
namespace MP
open PySem PySem.Spec PyProof.Rows L2

/-! ### sorted and sum of a tuple -/
abbrev bare : Obj := seqObj "list" #[] 0
abbrev grown (h : Heap) (vs : List Value) : Heap := (h.push bare).update h.objs.size (Obj.mapSeq (· ++ vs.toArray))
section
variable {P : Program} {w : World} {A : Around} {E : Value → Shared → Prop} {s : Shared} {t : Addr} {vs : List Value}
theorem gather_tup {Q : List Value → Shared → Prop} (ht : IsTup s.heap t vs.toArray) (hz : vs.length ≤ sizeLine) (h : Q vs { s with heap := grown s.heap vs }) : wpAny (model P w) A (collect (.ref t)) Q E s := by
  obtain ⟨o, e1, e2, n, e3⟩ := id ht
  have m1 : (s.heap.push bare).get? s.heap.objs.size = some bare := Heap.get?_push_size _ rfl
  have m2 : (s.heap.push bare).get? t = some o := Heap.get?_push_of_some _ e1
  unfold collect
  apply wpAny_bind
  apply wpAny_runValue
  apply codeAny_builtin entry_proto_collect'
  apply wpAny_bind
  apply wpAny_newList (h := ?_) (Nat.zero_le _)
  refine wpAny_pure ⟨Code.quiet_builtin _ (by decide +kernel), codeAny_builtin entry_list_iadd' ?_⟩
  show wpAny _ _ (Builtin.List.listExtendWith _ _ _) _ _ _
  unfold Builtin.List.listExtendWith
  apply wpAny_bind
  refine wpAny_typeOf (T := "tuple") ⟨o, m2, e2⟩ ?_
  have tt : (Value.type "tuple" == Value.type "tuple") = true := by rfl
  rw [if_pos (by rw [tt, Bool.or_true])]
  apply wpAny_bind
  apply listItems_at m2 e3
  apply wpAny_bind
  apply listItems_at (xs := #[]) (n := 0) m1 rfl
  rw [if_neg (fun z => by simp at z)]
  apply wpAny_bind
  refine listUpdate_at (xs := #[]) (n := 0) m1 rfl (wpAny_pure ?_) (Nat.zero_le _) (by simp only [Array.size_append, List.size_toArray, List.length_nil]; omega)
  dsimp only
  apply wpAny_bind
  refine wpAny_load (get?_update_seq m1 _) ?_
  refine wpAny_pure (cast ?_ h)
  congr 1
  simp
theorem sorted_tup {lt : Value → Value → Bool} {Q : Value → Shared → Prop} (O : SrtO.Swo lt) (ht : IsTup s.heap t vs.toArray) (hz : vs.length ≤ sizeLine)
    (hS : 2 ≤ vs.length → ∀ (h1 : Heap) (a : Addr), SrtO.SortableO P w A.in1.in1 { s with heap := h1 } a vs lt)
    (h : ∀ out : List Value, SrtO.Srtd lt out → SrtO.Stb lt out vs → Q (.ref (s.heap.objs.size + 1)) { s with heap := sortedAll s.heap vs out.toArray }) :
    wpAny (model P w) A (call (.builtin "sorted") [.ref t]) Q E s := by
  apply Calls.call_function_entry kind_sorted plain_sorted entry_sorted (args_sorted1 _)
  unfold Builtin.«sorted»
  apply wpAny_bind (m := checkCount "sorted" 1 1 _)
  apply wpAny_pure
  apply wpAny_bind
  apply gather_tup ht hz
  apply wpAny_bind
  refine wpAny_newList ?_ hz
  have n1 : (grown s.heap vs).objs.size = s.heap.objs.size + 1 := (Heap.size_update _ _ _).trans (size_push' _ _)
  dsimp only
  rw [n1]
  have n2 : ((grown s.heap vs).push (seqObj "list" vs.toArray 0)).get? (s.heap.objs.size + 1) = some (seqObj "list" vs.toArray 0) := n1 ▸ Heap.get?_push_size _ rfl
  apply wpAny_bind
  apply wpAny_holding
  refine wpAny_call_entry slot_list_sort ⟨_, n2, rfl⟩ entry_list_sort ?_ (args_list_sort _)
  exact SrtO.list_sort_ord O n2 hz (fun h2 => hS h2 _ _) fun out a b => ⟨_, rfl, wpAny_pure ⟨_, rfl, h out a b⟩⟩
end
section
variable {X : Cx} {Γ : Ct}
def rSortedTI (K : PySem.W.Frag) : List V → Hp → VK → Prop := fun vs H Q => ∃ (a : Addr) (ns : List Int), vs = [V.ref a] ∧ SqT K H a (ns.map V.int) ∧
  ∀ (ms : List Int) (p : Addr), ms.Perm ns → ms.Pairwise (· ≤ ·) → H p = none → Q (.ref p) (upd H p (.lst (ms.map V.int)))
theorem cr_sortedTI : CallR X (.builtin "sorted") (rSortedTI X.K) := by
  intro pins s σ H vs us Q I r h
  obtain ⟨a, ns, rfl, ht, q⟩ := h
  obtain ⟨its, rv, it, hz⟩ := I.tuple ht
  rw [Vals.ref1 r]
  have ia := rv.ints
  have hz' : its.length ≤ sizeLine := by rw [← rv.length]; exact hz
  refine sorted_tup SrtO.swo_int it hz' (fun h2 _ _ => SrtO.ints_sortable ia h2) fun out h1 h2 => ?_
  obtain ⟨k1, k2, k3⟩ := SrtO.ints_out ia h1 h2
  obtain ⟨ep, at1⟩ := sortedAll_at s.heap its out.toArray
  have hl : ((out.map SrtO.iv).map V.int).length ≤ sizeLine := by
    rw [List.length_map] at hz ⊢
    rwa [k2.length_eq]
  refine ⟨.ref _, upd H (s.heap.objs.size + 1) (.lst ((out.map SrtO.iv).map V.int)), I.laid (t' := s.toks) (fun _ _ e => sortedAll_old e) (Nat.le_succ _) ?_, rfl, q _ _ k2 k3 (I.hok.fresh (Nat.le_succ _))⟩
  exact ⟨hl, out, ep, vals_of_ints k1, at1⟩
theorem IsTup.isTuple {h : Heap} {a : Addr} {xs : Array Value} (x : IsTup h a xs) : h.IsTuple a xs := by
  obtain ⟨o, e1, e2, n, e3⟩ := x
  exact ⟨o, e1, e2, n, e3⟩
theorem cr_sumT (hc : X.calm = true) : CallR X (.builtin "sum") (fun vs H Q => ∃ (a : Addr) (ns : List Int), vs = [V.ref a] ∧ SqT X.K H a (ns.map V.int) ∧ Q (.int ns.sum) H) := by
  intro pins s σ H vs us Q I r h
  obtain ⟨a, ns, rfl, ht, q⟩ := h
  obtain ⟨its, rv, it, hz⟩ := I.tuple ht
  rw [Vals.ref1 r]
  obtain ⟨xs, e⟩ := rv.ints.allInts.items
  have hn : numsOf (intItems xs).toList = ns := by rw [← e]; exact rv.ints.numsOf
  rw [nums_intItems] at hn
  rw [e] at it
  refine PySem.call_sum_walkG ?_
  have tu := IsTup.isTuple it
  obtain ⟨_, e0, _⟩ := id tu
  have lt := Heap.lt_size e0
  refine wpAny_pyIter_tuple tu ⟨s.heap.objs.size, _, _, _, _, _, numAt xs, rfl, Walks.tuple (A := X.A.in1) (I.ok.hd hc) _ a (Nat.ne_of_lt lt) (intItems xs), ⟨⟨_, Heap.get?_push_size _ rfl, rfl, rfl⟩, tu.push _⟩, fun b hb => ?_, fun _ _ => intItems_at, fun h' tk t' hk => ?_⟩
  · have : (s.heap.push { cls := .type "tuple_iterator", data := .fields #[.ref a, .int 0 0] }).objs.size = s.heap.objs.size + 1 := Heap.size_push _ _
    dsimp only
    rw [this]
    rcases List.mem_cons.mp hb with rfl | hb
    · exact Nat.lt_succ_self _
    · rw [List.mem_singleton.mp hb]; exact Nat.lt_succ_of_lt lt
  · refine ⟨.int _, H, I.kept (t' := tk) (h' := h') fun b o eb => hk b o (fun z => ?_) (Heap.get?_push_of_some _ eb), ⟨_, rfl⟩, ?_⟩
    · rw [List.mem_singleton.mp z] at eb
      exact Nat.lt_irrefl _ (Heap.lt_size eb)
    · have hs : (intItems xs).size = xs.size := by simp [intItems]
      rw [hs, preSum_eq, List.take_of_length_le (by simp), hn]
      exact q
def orN (o o' : ON) : ON := fun s xs => match o s xs with
  | some w => some w
  | none => o' s xs
def sortTD : ON := fun _ xs => match xs with
  | [.tup ws] => (intsOf ws).map fun ns => .lst ((srt ns).map .int)
  | _ => none
def sumTD : ON := fun _ xs => match xs with
  | [.tup ws] => (intsOf ws).map fun ns => .int ns.sum
  | _ => none
def sortedA : ON := orN sortedD sortTD
def sumA : ON := orN sumD sumTD
theorem sSortT (hK : Γ.K = X.K) : OpN Γ (rSortedTI X.K) sortTD := fun H μ Z s xs w vs Q hR rx e k => by
  rw [← hK]
  unfold sortTD at e
  split at e
  · rename_i ws
    cases q2 : intsOf ws with
    | none => rw [q2] at e; cases e
    | some ns =>
      rw [q2] at e
      cases e
      obtain ⟨v, rfl, a, ys, rfl, h2, h3⟩ := one rx
      rw [intsOf_ok q2] at h3
      have h4 := h3.ints
      subst h4
      refine ⟨a, ns, rfl, h2.sq, fun ms p hp hs hn => ?_⟩
      rw [srt_uniq hp hs]
      exact k _ _ (Evo.laid hn) (hR.laid hn) (new_lst hR hn (RVs.of_ints _))
  · cases e
theorem sSumT (hK : Γ.K = X.K) : OpN Γ (fun vs H Q => ∃ (a : Addr) (ns : List Int), vs = [V.ref a] ∧ SqT X.K H a (ns.map V.int) ∧ Q (.int ns.sum) H) sumTD := fun H μ Z s xs w vs Q hR rx e k => by
  rw [← hK]
  unfold sumTD at e
  split at e
  · rename_i ws
    cases q2 : intsOf ws with
    | none => rw [q2] at e; cases e
    | some ns =>
      rw [q2] at e
      cases e
      obtain ⟨v, rfl, a, ys, rfl, h2, h3⟩ := one rx
      rw [intsOf_ok q2] at h3
      have h4 := h3.ints
      subst h4
      exact ⟨a, ns, rfl, h2.sq, k _ H .refl hR rfl⟩
  · cases e
theorem cr_sortedA : CallR X (.builtin "sorted") (fun x H Q => rSortedI X.K x H Q ∨ rSortedTI X.K x H Q) := CallR.or2 cr_sortedI cr_sortedTI
theorem sSortedA (hK : Γ.K = X.K) : OpN Γ (fun x H Q => rSortedI X.K x H Q ∨ rSortedTI X.K x H Q) sortedA := OpN.or (sSorted hK) (sSortT hK)
def rSumA (K : PySem.W.Frag) : List V → Hp → VK → Prop := fun x H Q => rSum K x H Q ∨ ∃ (a : Addr) (ns : List Int), x = [V.ref a] ∧ SqT K H a (ns.map V.int) ∧ Q (.int ns.sum) H
theorem cr_sumA (hc : X.calm = true) : CallR X (.builtin "sum") (rSumA X.K) := CallR.or2 (cr_sum hc) (cr_sumT hc)
theorem sSumA (hK : Γ.K = X.K) : OpN Γ (rSumA X.K) sumA := OpN.or (sSum hK) (sSumT hK)
end
end MP

set_option Elab.async false
set_option linter.all false
set_option maxRecDepth 100000
set_option maxHeartbeats 4000000
/-! what the combinators come to: rules for simp -/
namespace MP
open PySem PySem.Spec PyProof.Rows L2
section
variable {α β : Type} {a : α} {s s1 s2 : Sto} {ρ : Env} {x : Ex} {w v : Dv} {f g h : FE} {t u : FT} {c c' : FS} {fa : FA} {b : Bool} {o o' : O2}
@[simp] theorem bind_ok {k : α → Sto → R β} : (R.ok a s).bind k = k a s := rfl
@[simp] theorem bind_er {k : α → Sto → R β} : (R.er x s : R α).bind k = .er x s := rfl
@[simp] theorem bind_no {k : α → Sto → R β} : (R.no : R α).bind k = .no := rfl
@[simp] theorem then_ok {k : α → Sto → C} : (R.ok a s).thenC ρ k = k a s := rfl
@[simp] theorem then_er {k : α → Sto → C} : (R.er x s : R α).thenC ρ k = .er x ρ s := rfl
@[simp] theorem then_no {k : α → Sto → C} : (R.no : R α).thenC ρ k = .no := rfl
@[simp] theorem of_some : R.of (some a) s = .ok a s := rfl
@[simp] theorem of_none : (R.of none s : R α) = .no := rfl
@[simp] theorem var_0 : mVar 0 (some w :: ρ) s = .ok w s := rfl
@[simp] theorem var_s {y : Option Dv} {i : Nat} : mVar (i + 1) (y :: ρ) s = mVar i ρ s := by unfold mVar; rw [List.getElem?_cons_succ]
@[simp] theorem k_ev : mK w ρ s = .ok w s := rfl
@[simp] theorem bin_ev : mBin o f g ρ s = (f ρ s).bind fun x s1 => (g ρ s1).bind fun y s2 => R.of (o s2 x y) s2 := rfl
@[simp] theorem un_ev {o : O1} : mUn o f ρ s = (f ρ s).bind fun x s1 => R.of (o s1 x) s1 := rfl
@[simp] theorem blt_ev {o : ON} : mBlt o fa ρ s = (fa ρ s).bind fun ws s1 => R.of (o s1 ws) s1 := rfl
@[simp] theorem call_ev {d : Fn} : mCall d fa ρ s = (fa ρ s).bind d := rfl
@[simp] theorem nil_ev : mNil ρ s = .ok [] s := rfl
@[simp] theorem cons_ev : mCons f fa ρ s = (f ρ s).bind fun x s1 => (fa ρ s1).bind fun xs s2 => .ok (x :: xs) s2 := rfl
def chainK (o : Option Dv) (s : Sto) (k : R Dv) : R Dv := match o with
  | some (.bl true) => k
  | some (.bl false) => .ok (.bl false) s
  | _ => .no
@[simp] theorem chainK_bl {k : R Dv} : chainK (some (.bl b)) s k = if b = true then k else .ok (.bl false) s := by cases b <;> rfl
@[simp] theorem chain_ev : mChain o o' f g h ρ s = (f ρ s).bind fun x s1 => (g ρ s1).bind fun y s2 => chainK (o s2 x y) s2 ((h ρ s2).bind fun z s3 => R.of (o' s3 y z) s3) := rfl
def andK (d : Dv) (s : Sto) (k : R Dv) : R Dv := match d with
  | .bl true => k
  | .bl false => .ok (.bl false) s
  | _ => .no
@[simp] theorem andK_bl {k : R Dv} : andK (.bl b) s k = if b = true then k else .ok (.bl false) s := by cases b <;> rfl
@[simp] theorem andV_ev : mAndV f g ρ s = (f ρ s).bind fun x s1 => andK x s1 (g ρ s1) := rfl
def orK (d : Dv) (s : Sto) (k : R Dv) : R Dv := match d with
  | .bl true => .ok (.bl true) s
  | .bl false => k
  | _ => .no
@[simp] theorem orK_bl {k : R Dv} : orK (.bl b) s k = if b = true then .ok (.bl true) s else k := by cases b <;> rfl
@[simp] theorem orV_ev : mOrV f g ρ s = (f ρ s).bind fun x s1 => orK x s1 (g ρ s1) := by
  unfold mOrV
  congr 1
  funext x s1
  cases x with
  | bl b => cases b <;> rfl
  | _ => rfl
def notK (d : Dv) (s : Sto) : R Dv := match d with
  | .bl b => .ok (.bl (!b)) s
  | _ => .no
@[simp] theorem notK_bl : notK (.bl b) s = .ok (.bl (!b)) s := rfl
@[simp] theorem notV_ev : mNotV f ρ s = (f ρ s).bind notK := rfl
def testK (d : Dv) (s : Sto) : R Bool := match d with
  | .bl b => .ok b s
  | _ => .no
@[simp] theorem testK_bl : testK (.bl b) s = .ok b s := rfl
@[simp] theorem test_ev : mTest f ρ s = (f ρ s).bind testK := rfl
@[simp] theorem and_ev : mAnd t u ρ s = (t ρ s).bind fun c s1 => if c = true then u ρ s1 else .ok false s1 := rfl
@[simp] theorem or_ev : mOr t u ρ s = (t ρ s).bind fun c s1 => if c = true then .ok true s1 else u ρ s1 := rfl
@[simp] theorem not_ev : mNot t ρ s = (t ρ s).bind fun c s1 => .ok (!c) s1 := rfl
@[simp] theorem if_ev : mIf t f g ρ s = (t ρ s).bind fun c s1 => if c = true then f ρ s1 else g ρ s1 := rfl
@[simp] theorem tup_ev : mTup fa ρ s = (fa ρ s).bind fun ws s1 => if ws.length ≤ lim then .ok (.tup ws) s1 else .no := rfl
@[simp] theorem lst_ev : mLst fa ρ s = (fa ρ s).bind fun ws s1 => if ws.length ≤ lim then .ok (.lst ws) s1 else .no := rfl
@[simp] theorem lstM_ev : mLstM fa ρ s = (fa ρ s).bind fun ws s1 => if ws.length ≤ lim then .ok (.ref s1.length) (s1 ++ [.lst ws]) else .no := rfl
/-- what follows -/
def seqK (c : C) (k : FS) : C := match c with
  | .nx ρ s => k ρ s
  | c => c
@[simp] theorem seqK_nx {k : FS} : seqK (.nx ρ s) k = k ρ s := rfl
@[simp] theorem seqK_rt {k : FS} : seqK (.rt w s) k = .rt w s := rfl
@[simp] theorem seqK_bk {k : FS} : seqK (.bk ρ s) k = .bk ρ s := rfl
@[simp] theorem seqK_ct {k : FS} : seqK (.ct ρ s) k = .ct ρ s := rfl
@[simp] theorem seqK_er {k : FS} : seqK (.er x ρ s) k = .er x ρ s := rfl
@[simp] theorem seqK_no {k : FS} : seqK .no k = .no := rfl
@[simp] theorem seq_ev : mSeq c c' ρ s = seqK (c ρ s) c' := by
  unfold mSeq seqK
  cases c ρ s <;> rfl
@[simp] theorem next_ev : mNext ρ s = .nx ρ s := rfl
@[simp] theorem break_ev : mBreak ρ s = .bk ρ s := rfl
@[simp] theorem cont_ev : mCont ρ s = .ct ρ s := rfl
@[simp] theorem ret_ev : mRet f ρ s = (f ρ s).thenC ρ fun w s1 => .rt w s1 := rfl
@[simp] theorem retN_ev : mRetN ρ s = .rt .non s := rfl
@[simp] theorem expr_ev : mExpr f ρ s = (f ρ s).thenC ρ fun _ s1 => .nx ρ s1 := rfl
@[simp] theorem ifS_ev : mIfS t c c' ρ s = (t ρ s).thenC ρ fun b s1 => if b = true then c ρ s1 else c' ρ s1 := rfl
@[simp] theorem asgN_ev {i : Nat} : mAsg f (gN i) ρ s = (f ρ s).thenC ρ fun w s1 => .nx (ρ.set i (some w)) s1 := rfl
@[simp] theorem par_ev {i j : Nat} : mPar i j (mCons f (mCons g mNil)) ρ s = (f ρ s).thenC ρ fun v s1 => (g ρ s1).thenC ρ fun w s2 => .nx ((ρ.set i (some v)).set j (some w)) s2 := by
  unfold mPar mCons mNil
  cases f ρ s with
  | ok v s1 =>
    simp only [bind_ok, then_ok]
    cases g ρ s1 <;> rfl
  | er _ _ => rfl
  | no => rfl
theorem finW_le {n : Nat} (hn : s.length ≤ n) : finW n w s = .ok w s := by unfold finW; rw [if_pos hn]
@[simp] theorem finC_rt : finC s.length (.rt w s) = .ok w s := finW_le (Nat.le_refl _)
@[simp] theorem finC_nx : finC s.length (.nx ρ s) = .ok .non s := finW_le (Nat.le_refl _)
@[simp] theorem den_ev {n : Nat} {d : FS} {ws : List Dv} : denOf n d ws s = finC s.length (d (startD n ws) s) := rfl
@[simp] theorem start_ev {n : Nat} {ws : List Dv} : startD n ws = ws.map some ++ List.replicate (n - ws.length) none := rfl
@[simp] theorem cmp_ev {p : Int → Int → Bool} {i j : Int} : cmpD p s (.int i) (.int j) = some (.bl (p i j)) := rfl
@[simp] theorem sub_ev {i j : Int} : subD s (.int i) (.int j) = some (.int (i - j)) := rfl
@[simp] theorem neg_ev {i : Int} : negD s (.int i) = some (.int (-i)) := rfl
@[simp] theorem isi_ii {i : Int} : isiD s [.int i, .ty "int"] = some (.bl true) := rfl
@[simp] theorem isi_ib {i : Int} : isiD s [.int i, .ty "bool"] = some (.bl false) := rfl
@[simp] theorem isi_tt {ws : List Dv} : isiD s [.tup ws, .ty "tuple"] = some (.bl true) := rfl
@[simp] theorem isi_it {i : Int} : isiD s [.int i, .ty "tuple"] = some (.bl false) := rfl
@[simp] theorem len_tup {ws : List Dv} : lenD s [.tup ws] = some (.int ws.length) := rfl
@[simp] theorem len_lst {ws : List Dv} : lenD s [.lst ws] = some (.int ws.length) := rfl
@[simp] theorem len_sq {ws : List Dv} : lenD s [.sq ws] = some (.int ws.length) := rfl
abbrev tI (ns : List Int) : Dv := .tup (ns.map .int)
abbrev lI (ns : List Int) : Dv := .lst (ns.map .int)
section
variable {s : Sto} {ns ms : List Int} {ρ : Env} {ws : List Dv} {i j : Int} {f : FE}
@[simp] theorem sorted_TI : sortedA s [.tup (ns.map .int)] = some (.lst ((srt ns).map .int)) := by
  show (match sortedD s [.tup (ns.map .int)] with | some w => some w | none => sortTD s [.tup (ns.map .int)]) = _
  rw [show sortedD s [.tup (ns.map .int)] = none from rfl]
  show (intsOf (ns.map .int)).map _ = _
  rw [intsOf_map]
  rfl
@[simp] theorem sorted_LI : sortedA s [.lst (ns.map .int)] = some (.lst ((srt ns).map .int)) := by
  have : sortedD s [.lst (ns.map .int)] = some (.lst ((srt ns).map .int)) := by
    show (intsOf (ns.map .int)).map _ = _
    rw [intsOf_map]
    rfl
  show (match sortedD s [.lst (ns.map .int)] with | some w => some w | none => sortTD s [.lst (ns.map .int)]) = _
  rw [this]
@[simp] theorem sum_LI : sumA s [.lst (ns.map .int)] = some (.int ns.sum) := by
  have : sumD s [.lst (ns.map .int)] = some (.int ns.sum) := by
    show (intsOf (ns.map .int)).map _ = _
    rw [intsOf_map]
    rfl
  show (match sumD s [.lst (ns.map .int)] with | some w => some w | none => sumTD s [.lst (ns.map .int)]) = _
  rw [this]
@[simp] theorem sum_TI : sumA s [.tup (ns.map .int)] = some (.int ns.sum) := by
  show (match sumD s [.tup (ns.map .int)] with | some w => some w | none => sumTD s [.tup (ns.map .int)]) = _
  rw [show sumD s [.tup (ns.map .int)] = none from rfl]
  show (intsOf (ns.map .int)).map _ = _
  rw [intsOf_map]
  rfl
@[simp] theorem sl_tup {lo hi : Option Int} : slA s (.tup ws) lo hi = some (.tup (cutD ws lo hi)) := rfl
@[simp] theorem sl_lst {lo hi : Option Int} : slA s (.lst ws) lo hi = some (.lst (cutD ws lo hi)) := rfl
theorem cut_last {k : Nat} (h : k ≤ ws.length) (h0 : 0 < k) : cutD ws (some (-(k : Int))) none = ws.drop (ws.length - k) := by
  unfold cutD
  rw [HT.sIx_none]
  have e : HT.sIx ws.length 0 (some (-(k : Int))) = ws.length - k := by
    show (if -(k : Int) < 0 then (-(k : Int) + (ws.length : Int)).toNat else min (-(k : Int)).toNat ws.length) = _
    rw [if_pos (by omega)]
    omega
  rw [e]
  exact List.take_of_length_le (by rw [List.length_drop]; omega)
theorem cut_to {k : Nat} : cutD ws none (some (k : Int)) = ws.take k := by
  unfold cutD
  rw [HT.sIx_none, HT.sIx_nat, Nat.sub_zero, List.drop_zero, ← List.take_take, List.take_length]
theorem cut_mid {a b : Nat} (ha : a ≤ ws.length) (hb : b ≤ ws.length) : cutD ws (some (a : Int)) (some (b : Int)) = (ws.drop a).take (b - a) := by
  unfold cutD
  rw [HT.sIx_nat, HT.sIx_nat, Nat.min_eq_left ha, Nat.min_eq_left hb]
@[simp] theorem part_ev : mPart f ρ s = (f ρ s).bind fun x s1 => match x with
  | .int i => .ok (some i) s1
  | _ => .no := rfl
@[simp] theorem nopart_ev : mNoPart ρ s = .ok none s := rfl
@[simp] theorem sl_ev {op : OS} {lo hi : FO} : mSl op f lo hi ρ s = (f ρ s).bind fun x s1 => (lo ρ s1).bind fun l s2 => (hi ρ s2).bind fun u s3 => R.of (op s3 x l u) s3 := rfl
@[simp] theorem add_ii : addD s (.int i) (.int j) = some (.int (i + j)) := rfl
theorem mul_ii (h : cm i j = true) : mulD s (.int i) (.int j) = some (.int (i * j)) := by
  show (if cm i j = true then _ else _) = _
  rw [if_pos h]
theorem cm_l (h : -(2 ^ 64) < i ∧ i < 2 ^ 64) : cm i j = true := decide_eq_true (.inl h)
theorem cm_r (h : -(2 ^ 64) < j ∧ j < 2 ^ 64) : cm i j = true := decide_eq_true (.inr h)
@[simp] theorem int_i : intD s [.int i] = some (.int i) := rfl
@[simp] theorem int_b {b : Bool} : intD s [.bl b] = some (.int (if b then 1 else 0)) := rfl
theorem range1_ok {fa : FA} {s1 : Sto} (h : fa ρ s = .ok [.int j] s1) (hj : okR j = true) : iRange1 fa ρ s = .ok { ws := rng 0 j.toNat } s1 := by
  unfold iRange1
  rw [h, bind_ok]
  exact if_pos hj
theorem range2_ok {fa : FA} {s1 : Sto} (h : fa ρ s = .ok [.int i, .int j] s1) (hi : okR i = true) (hj : okR j = true) : iRange2 fa ρ s = .ok { ws := rng i (j - i).toNat } s1 := by
  unfold iRange2
  rw [h, bind_ok]
  exact if_pos ⟨hi, hj⟩
theorem rng_ev {lo : Int} {n : Nat} : rng lo n = (List.range n).map fun i : Nat => Dv.int (lo + (i : Int)) := by unfold rng; rfl
theorem okR_s {i : Int} (h : -1000000 ≤ i) (h2 : i ≤ 1000000) : okR i = true := decide_eq_true ⟨by omega, by omega⟩
@[simp] theorem tuple_lst : tupleD s [.lst ws] = some (.tup ws) := rfl
@[simp] theorem tuple_tup : tupleD s [.tup ws] = some (.tup ws) := rfl
theorem ix_tup {k : Nat} {w : Dv} (h : ws[k]? = some w) : ixA s (.tup ws) (.int (k : Int)) = some w := by
  have e : ixT s (.tup ws) (.int (k : Int)) = some w := atI_nat h
  show (match (match ixL s (.tup ws) (.int (k : Int)) with | some w => some w | none => ixT s (.tup ws) (.int (k : Int))) with | some w => some w | none => ixD s (.tup ws) (.int (k : Int))) = _
  rw [show ixL s (.tup ws) (.int (k : Int)) = none from rfl, e]
theorem ix_lst {k : Nat} {w : Dv} (h : ws[k]? = some w) : ixA s (.lst ws) (.int (k : Int)) = some w := by
  have e : ixL s (.lst ws) (.int (k : Int)) = some w := atI_nat h
  show (match (match ixL s (.lst ws) (.int (k : Int)) with | some w => some w | none => ixT s (.lst ws) (.int (k : Int))) with | some w => some w | none => ixD s (.lst ws) (.int (k : Int))) = _
  rw [e]
theorem zip_ints : ∀ (ns ms : List Int), zipD (ns.map .int) (ms.map .int) = (ns.zip ms).map fun p => .tup [.int p.1, .int p.2]
  | [], _ => by simp [zipD]
  | _ :: _, [] => by simp [zipD]
  | a :: r, b :: t => by simp [zipD, zip_ints r t]
end
section
open Classical
variable {vs : List Nat} {g : FG} {tt : FT} {elt : FE} {ρ : Env} {s : Sto}
@[simp] theorem yes_ev : mYes ρ s = .ok true s := rfl
theorem compL_map {φ : Dv → Dv} : ∀ {xs : List Dv}, (∀ x ∈ xs, ∃ ρ1, g x (wipeD ρ vs) s = some ρ1 ∧ elt ρ1 s = .ok (φ x) s) → compL none vs g mYes elt ρ xs s = some (xs.map φ, s)
  | [], _ => by unfold compL; rw [if_pos (.inl rfl)]; rfl
  | x :: xs, h => by
    obtain ⟨ρ1, h1, h2⟩ := h x List.mem_cons_self
    unfold compL
    rw [if_pos (.inl rfl), h1]
    simp only [yes_ev, h2]
    rw [compL_map fun y hy => h y (List.mem_cons_of_mem _ hy)]
    rfl
theorem comp_map {f : FI} {xs : List Dv} (φ : Dv → Dv) (hf : f ρ s = .ok { ws := xs } s) (hl : xs.length ≤ lim) (h : ∀ x ∈ xs, ∃ ρ1, g x (wipeD ρ vs) s = some ρ1 ∧ elt ρ1 s = .ok (φ x) s) : mComp f vs g mYes elt ρ s = .ok (.lst (xs.map φ)) s := by
  unfold mComp
  rw [hf, bind_ok]
  dsimp only
  rw [compL_map h]
  dsimp only
  rw [if_pos (by rw [List.length_map]; exact hl)]
theorem comp_mapA {α : Type} {f : FI} {l : List α} {e : α → Dv} (φ : α → Dv) (hf : f ρ s = .ok { ws := l.map e } s) (hl : l.length ≤ lim) (h : ∀ a ∈ l, ∃ ρ1, g (e a) (wipeD ρ vs) s = some ρ1 ∧ elt ρ1 s = .ok (φ a) s) : mComp f vs g mYes elt ρ s = .ok (.lst (l.map φ)) s := by
  have key : ∀ {l : List α}, (∀ a ∈ l, ∃ ρ1, g (e a) (wipeD ρ vs) s = some ρ1 ∧ elt ρ1 s = .ok (φ a) s) → compL none vs g mYes elt ρ (l.map e) s = some (l.map φ, s) := fun {l} => by
    induction l with
    | nil => intro _; rw [List.map_nil]; simp [compL]
    | cons a l ih =>
      intro h
      obtain ⟨ρ1, h1, h2⟩ := h a List.mem_cons_self
      rw [List.map_cons]
      unfold compL
      rw [if_pos (.inl rfl), h1]
      simp only [yes_ev, h2]
      rw [ih fun b hb => h b (List.mem_cons_of_mem _ hb)]
      rfl
  unfold mComp
  rw [hf, bind_ok]
  dsimp only
  rw [key h]
  dsimp only
  rw [if_pos (by rw [List.length_map]; exact hl)]
/-- a loop that only goes on: nothing but the names changes -/
theorem forL_fold {body : FS} {step : Env → Dv → Env} {I : Env → Prop} : ∀ {xs : List Dv} {ρ : Env}, I ρ → (∀ ρ x, x ∈ xs → I ρ → ∃ ρ1, g x ρ s = some ρ1 ∧ body ρ1 s = .nx (step ρ x) s ∧ I (step ρ x)) → forL none g body xs ρ s = .nx (xs.foldl step ρ) s
  | [], ρ, _, _ => by unfold forL; rw [if_pos (.inl rfl)]; rfl
  | x :: xs, ρ, hI, h => by
    obtain ⟨ρ1, h1, h2, h3⟩ := h ρ x List.mem_cons_self hI
    unfold forL
    rw [if_pos (.inl rfl), h1]
    simp only [h2]
    exact forL_fold h3 fun ρ y hy => h ρ y (List.mem_cons_of_mem _ hy)
/-- a comprehension, turn by turn: J i acc stands when i turns are done -/
theorem compL_ix {xs : List Dv} (J : Nat → List Dv → Sto → Prop) (h : ∀ i x acc s, xs[i]? = some x → J i acc s → ∃ ρ1 y s2, g x (wipeD ρ vs) s = some ρ1 ∧ elt ρ1 s = .ok y s2 ∧ J (i + 1) (acc ++ [y]) s2) :
    ∀ {k : Nat} {ys acc : List Dv} {s : Sto}, ys = xs.drop k → k ≤ xs.length → J k acc s → ∃ zs s', compL none vs g mYes elt ρ ys s = some (zs, s') ∧ zs.length = ys.length ∧ J xs.length (acc ++ zs) s'
  | k, [], acc, s, e, hk, j => by
    have : k = xs.length := by
      have := congrArg List.length e
      rw [List.length_drop, List.length_nil] at this
      omega
    subst this
    exact ⟨[], s, by unfold compL; rw [if_pos (.inl rfl)], rfl, by rw [List.append_nil]; exact j⟩
  | k, x :: ys, acc, s, e, hk, j => by
    have hx : xs[k]? = some x := by
      have := congrArg (·[0]?) e
      simpa using this.symm
    have hy : ys = xs.drop (k + 1) := by
      have := congrArg List.tail e
      simpa using this
    have hlt : k < xs.length := (List.getElem?_eq_some_iff.mp hx).1
    obtain ⟨ρ1, y, s2, h1, h2, h3⟩ := h k x acc s hx j
    obtain ⟨zs, s', h4, h5, h6⟩ := compL_ix J h hy hlt h3
    refine ⟨y :: zs, s', ?_, by rw [List.length_cons, h5, List.length_cons], ?_⟩
    · unfold compL
      rw [if_pos (.inl rfl), h1]
      simp only [yes_ev, h2, h4]
      rfl
    · rw [List.append_assoc] at h6
      exact h6
theorem comp_ix {f : FI} {xs : List Dv} {s1 : Sto} (J : Nat → List Dv → Sto → Prop) (hf : f ρ s = .ok { ws := xs } s1) (hl : xs.length ≤ lim) (j : J 0 [] s1)
    (h : ∀ i x acc s, xs[i]? = some x → J i acc s → ∃ ρ1 y s2, g x (wipeD ρ vs) s = some ρ1 ∧ elt ρ1 s = .ok y s2 ∧ J (i + 1) (acc ++ [y]) s2) : ∃ zs s', mComp f vs g mYes elt ρ s = .ok (.lst zs) s' ∧ zs.length = xs.length ∧ J xs.length zs s' := by
  obtain ⟨zs, s', h1, h2, h3⟩ := compL_ix J h (k := 0) (ys := xs) (acc := []) rfl (Nat.zero_le _) j
  refine ⟨zs, s', ?_, h2, h3⟩
  unfold mComp
  rw [hf, bind_ok]
  dsimp only
  rw [h1]
  dsimp only
  rw [if_pos (by rw [h2]; exact hl)]
/-- a loop, turn by turn: J i stands when i turns are done -/
theorem forL_ix {body : FS} {xs : List Dv} (J : Nat → Env → Sto → Prop) (h : ∀ i x ρ s, xs[i]? = some x → J i ρ s → ∃ ρ1 ρ2 s2, g x ρ s = some ρ1 ∧ (body ρ1 s = .nx ρ2 s2 ∨ body ρ1 s = .ct ρ2 s2) ∧ J (i + 1) ρ2 s2) :
    ∀ {k : Nat} {ys : List Dv} {ρ : Env} {s : Sto}, ys = xs.drop k → k ≤ xs.length → J k ρ s → ∃ ρ' s', forL none g body ys ρ s = .nx ρ' s' ∧ J xs.length ρ' s'
  | k, [], ρ, s, e, hk, j => by
    have : k = xs.length := by
      have := congrArg List.length e
      rw [List.length_drop, List.length_nil] at this
      omega
    subst this
    exact ⟨ρ, s, by unfold forL; rw [if_pos (.inl rfl)], j⟩
  | k, x :: ys, ρ, s, e, hk, j => by
    have hx : xs[k]? = some x := by
      have := congrArg (·[0]?) e
      simpa using this.symm
    have hy : ys = xs.drop (k + 1) := by
      have := congrArg List.tail e
      simpa using this
    have hlt : k < xs.length := (List.getElem?_eq_some_iff.mp hx).1
    obtain ⟨ρ1, ρ2, s2, h1, h2, h3⟩ := h k x ρ s hx j
    obtain ⟨ρ', s', h4, h5⟩ := forL_ix J h hy hlt h3
    refine ⟨ρ', s', ?_, h5⟩
    unfold forL
    rw [if_pos (.inl rfl), h1]
    rcases h2 with h2 | h2 <;> (simp only [h2]; exact h4)
theorem for_ix {F : FI} {body : FS} {xs : List Dv} {s1 : Sto} (J : Nat → Env → Sto → Prop) (hF : F ρ s = .ok { ws := xs } s1) (j : J 0 ρ s1) (h : ∀ i x ρ s, xs[i]? = some x → J i ρ s → ∃ ρ1 ρ2 s2, g x ρ s = some ρ1 ∧ (body ρ1 s = .nx ρ2 s2 ∨ body ρ1 s = .ct ρ2 s2) ∧ J (i + 1) ρ2 s2) :
    ∃ ρ' s', mFor F g body ρ s = .nx ρ' s' ∧ J xs.length ρ' s' := by
  obtain ⟨ρ', s', h1, h2⟩ := forL_ix J h (k := 0) (ys := xs) rfl (Nat.zero_le _) j
  refine ⟨ρ', s', ?_, h2⟩
  unfold mFor
  rw [hF]
  exact h1
end
end
end MP

set_option Elab.async false
set_option linter.all false
set_option maxRecDepth 100000
set_option maxHeartbeats 400000
/-! the facts on layers: an index is the sum of those of its layers -/
namespace MP
open PySem PySem.Spec PyProof.Rows L2
def dot (rs ls : List Int) : Int := ((rs.zip ls).map fun p => p.1 * p.2).sum
theorem dot_nil {ls : List Int} : dot [] ls = 0 := by simp [dot]
theorem dot_nil' : ∀ {rs : List Int}, dot rs [] = 0 := by intro rs; simp [dot]
theorem dot_cons {a b : Int} {rs ls : List Int} : dot (a :: rs) (b :: ls) = a * b + dot rs ls := by simp [dot]
def at1 (lev n : Int) : Int := if lev ≤ n then 1 else 0
/-- the levels of an ascending row, each with how far it is above the one ahead -/
def lv : Int → List Int → List (Int × Int)
  | _, [] => []
  | b, a :: r => (a, a - b) :: lv a r
theorem lv_low {n : Int} : ∀ {b : Int} {l : List Int}, (∀ a ∈ l, n < a) → ((lv b l).map fun p => p.2 * at1 p.1 n).sum = 0
  | _, [], _ => rfl
  | b, a :: r, h => by
    have h1 := h a List.mem_cons_self
    show (a - b) * at1 a n + ((lv a r).map fun p => p.2 * at1 p.1 n).sum = 0
    rw [lv_low fun c hc => h c (List.mem_cons_of_mem _ hc)]
    unfold at1
    rw [if_neg (by omega)]
    omega
theorem lv_sum {n : Int} : ∀ {b : Int} {l : List Int}, l.Pairwise (· < ·) → (n ∈ l ∨ (n = b ∧ ∀ a ∈ l, b < a)) → ((lv b l).map fun p => p.2 * at1 p.1 n).sum = n - b
  | b, [], _, h => by
    rcases h with h | ⟨h, _⟩
    · cases h
    · rw [h]; show (0 : Int) = _; omega
  | b, a :: r, hs, h => by
    obtain ⟨h1, h2⟩ := List.pairwise_cons.mp hs
    show (a - b) * at1 a n + ((lv a r).map fun p => p.2 * at1 p.1 n).sum = n - b
    rcases h with h | ⟨rfl, h⟩
    · rcases List.mem_cons.mp h with rfl | h
      · rw [lv_sum h2 (.inr ⟨rfl, h1⟩)]
        unfold at1
        rw [if_pos (Int.le_refl _)]
        omega
      · rw [lv_sum h2 (.inl h)]
        unfold at1
        rw [if_pos (Int.le_of_lt (h1 n h))]
        omega
    · rw [lv_low fun c hc => ?_]
      · have := h a List.mem_cons_self
        unfold at1
        rw [if_neg (by omega)]
        omega
      · rcases List.mem_cons.mp (List.mem_cons_of_mem a hc) with e | e
        · have := h a List.mem_cons_self; have := h1 c hc; omega
        · have := h c (List.mem_cons_of_mem _ hc); exact this
theorem sum_map_mul {α : Type} (k : Int) (f : α → Int) : ∀ l : List α, (l.map fun a => k * f a).sum = k * (l.map f).sum
  | [] => by simp
  | a :: l => by simp [sum_map_mul k f l, Int.mul_add]
theorem sum_map_add {α : Type} (f g : α → Int) : ∀ l : List α, (l.map fun a => f a + g a).sum = (l.map f).sum + (l.map g).sum
  | [] => by simp
  | a :: l => by simp [sum_map_add f g l]; omega
theorem sum_zero {α : Type} : ∀ l : List α, (l.map fun _ => (0 : Int)).sum = 0
  | [] => rfl
  | _ :: l => by simp [sum_zero l]
/-- each result is what its levels tell; so is each sum of them -/
theorem dot_levels {L : List (Int × Int)} : ∀ {rs ls : List Int}, (∀ n ∈ ls, (L.map fun p => p.2 * at1 p.1 n).sum = n) → (L.map fun p => p.2 * dot rs (ls.map (at1 p.1))).sum = dot rs ls
  | [], ls, _ => by
    simp only [dot_nil, Int.mul_zero]
    exact sum_zero L
  | a :: rs, [], _ => by
    simp only [List.map_nil, dot_nil', Int.mul_zero]
    exact sum_zero L
  | a :: rs, b :: ls, h => by
    have ih := dot_levels (L := L) (rs := rs) (ls := ls) fun n hn => h n (List.mem_cons_of_mem _ hn)
    have hb := h b List.mem_cons_self
    simp only [List.map_cons, dot_cons]
    rw [show (fun p : Int × Int => p.2 * (a * at1 p.1 b + dot rs (ls.map (at1 p.1)))) = fun p => a * (p.2 * at1 p.1 b) + p.2 * dot rs (ls.map (at1 p.1)) from funext fun p => by rw [Int.mul_add, Int.mul_left_comm]]
    rw [sum_map_add, sum_map_mul, hb, ih]
theorem at1_mono {lev a b : Int} (h : a ≤ b) : at1 lev a ≤ at1 lev b := by unfold at1; split <;> split <;> omega
theorem srt_at1 (lev : Int) (ns : List Int) : srt (ns.map (at1 lev)) = (srt ns).map (at1 lev) := by
  refine (srt_uniq (l := ns.map (at1 lev)) ((srt_perm ns).map _) ?_).symm
  rw [List.pairwise_map]
  exact (srt_sorted ns).imp fun h => at1_mono h
def last (k : Nat) (ns : List Int) : List Int := ns.drop (ns.length - k)
def idx (rs ns : List Int) : Int := dot rs (srt (last rs.length ns))
theorem last_map (f : Int → Int) (k : Nat) (ns : List Int) : last k (ns.map f) = (last k ns).map f := by
  unfold last
  rw [List.length_map, List.map_drop]
def levels (ns : List Int) : List (Int × Int) := lv 0 ((usrt ns).filter fun a => decide (0 < a))
/-- an index is the sum of those of the layers -/
theorem idx_levels {rs ns : List Int} (h0 : ∀ n ∈ ns, 0 ≤ n) : ((levels ns).map fun p => p.2 * idx rs (ns.map (at1 p.1))).sum = idx rs ns := by
  unfold idx
  simp only [last_map, srt_at1]
  refine dot_levels fun n hn => ?_
  have hm : n ∈ ns := List.mem_of_mem_drop ((srt_perm (last rs.length ns)).mem_iff.mp hn)
  obtain ⟨u1, u2⟩ := usrt_spec (srt ns) (srt_sorted ns)
  have us : ((usrt ns).filter fun a => decide (0 < a)).Pairwise (· < ·) := u1.filter _
  unfold levels
  rw [lv_sum us ?_, Int.sub_zero]
  have hn0 := h0 n hm
  by_cases hp : 0 < n
  · left
    exact List.mem_filter.mpr ⟨(u2 n).mpr ((srt_perm ns).mem_iff.mpr hm), decide_eq_true hp⟩
  · right
    refine ⟨by omega, fun a ha => of_decide_eq_true (List.mem_filter.mp ha).2⟩
end MP
namespace MP
theorem ucons_len (a : Int) (r : List Int) : (ucons a r).length ≤ r.length + 1 := by
  unfold ucons
  cases r with
  | nil => exact Nat.le_refl _
  | cons b t => dsimp only; split <;> simp
theorem usrt_len (ns : List Int) : (usrt ns).length ≤ ns.length := by
  have key : ∀ l : List Int, (l.foldr ucons []).length ≤ l.length := fun l => by
    induction l with
    | nil => exact Nat.le_refl _
    | cons a l ih => exact Nat.le_trans (ucons_len a _) (Nat.succ_le_succ ih)
  exact Nat.le_trans (key _) (Nat.le_of_eq (srt_perm ns).length_eq)
end MP

set_option Elab.async false
set_option linter.all false
set_option maxRecDepth 100000
set_option maxHeartbeats 400000
/-! rows of ints, and rows of such: what repr and == say of them -/
namespace MP
open PySem PySem.Spec PyProof.Rows L2
/-- a thing of at most n parts, at most k deep -/
structure Pl (n k : Nat) (w : Dv) (d : PyData) : Prop where
  to : toD0 w = some d
  lay : d.canLay0 = true
  shw : d.showable = true
  nod : d.hasDict = false
  deep : d.depth ≤ k
  len : d.shown.length + 2 ≤ 2000 * n
structure Pls (n k : Nat) (ws : List Dv) (ds : List PyData) : Prop where
  to : toDs ws = some ds
  lay : PyData.canLayAll0 ds = true
  shw : PyData.showableAll ds = true
  nod : PyData.hasDictAll ds = false
  deep : PyData.depthAll ds ≤ k
  len : piled (PyData.shownAll ds) ≤ 2000 * n
def Sm (i : Int) : Prop := i.natAbs < 2 ^ 300
theorem Sm.of {i : Int} (h : -1000000000000 ≤ i) (h2 : i ≤ 1000000000000) : Sm i := by
  have h3 : i.natAbs ≤ 1000000000000 := by omega
  exact Nat.lt_of_le_of_lt h3 (Nat.lt_of_lt_of_le (by decide : 1000000000000 < 2 ^ 40) (Nat.pow_le_pow_right (by decide) (by decide)))
theorem Sm.log {i : Int} (h : Sm i) : i.natAbs.log2 < 1920 := by
  by_cases h0 : i.natAbs = 0
  · rw [h0]; decide
  · exact (Nat.log2_lt h0).mpr (Nat.lt_of_lt_of_le h (Nat.pow_le_pow_right (by decide) (by decide)))
variable {n m k j : Nat} {w : Dv} {d : PyData} {ws us : List Dv} {ds es : List PyData} {i : Int} {ns : List Int} {s : Sto}
theorem pl_int (h : Sm i) : Pl 1 0 (.int i) (.int i) where
  to := rfl
  lay := by simp only [PyData.canLay0]
  shw := by
    simp only [PyData.showable]
    exact decide_eq_true h.log
  nod := by simp only [PyData.hasDict]
  deep := by simp only [PyData.depth]; exact Nat.le_refl _
  len := by
    have := int_text_len_1921 h.log
    simp only [PyData.shown]
    exact Nat.le_trans (Nat.add_le_add_right this 2) (by decide)
theorem pls_nil : Pls 0 k [] [] where
  to := rfl
  lay := by simp only [PyData.canLayAll0]
  shw := by simp only [PyData.showableAll]
  nod := by simp only [PyData.hasDictAll]
  deep := by simp only [PyData.depthAll]; exact Nat.zero_le _
  len := by simp only [PyData.shownAll, piled_nil]; exact Nat.zero_le _
theorem pls_cons (h : Pl n k w d) (t : Pls m k ws ds) : Pls (n + m) k (w :: ws) (d :: ds) where
  to := by simp only [toDs, h.to, t.to]
  lay := by simp only [PyData.canLayAll0, h.lay, t.lay]; rfl
  shw := by simp only [PyData.showableAll, h.shw, t.shw]; rfl
  nod := by simp only [PyData.hasDictAll, h.nod, t.nod]; rfl
  deep := by simp only [PyData.depthAll]; exact Nat.max_le.mpr ⟨h.deep, t.deep⟩
  len := by
    have h1 := h.len
    have h2 := t.len
    simp only [PyData.shownAll, piled_cons]
    omega
theorem Pl.mono (h : Pl n k w d) (hn : n ≤ m) (hk : k ≤ j) : Pl m j w d := ⟨h.to, h.lay, h.shw, h.nod, Nat.le_trans h.deep hk, Nat.le_trans h.len (Nat.mul_le_mul_left _ hn)⟩
theorem Pls.mono (h : Pls n k ws ds) (hn : n ≤ m) (hk : k ≤ j) : Pls m j ws ds := ⟨h.to, h.lay, h.shw, h.nod, Nat.le_trans h.deep hk, Nat.le_trans h.len (Nat.mul_le_mul_left _ hn)⟩
theorem listText_len : ∀ ts : List Str, (listText ts).length ≤ piled ts + 2
  | [] => by decide
  | t :: r => by
    unfold listText
    rw [strLen_append]
    show (textFrom 1 (("[" : Str) ++ ("" : String) ++ t) r).length + 1 ≤ _
    rw [textFrom_length_pos _ _ _ (by decide), strLen_append, strLen_append, piled_cons]
    show 1 + 0 + t.length + piled r + 1 ≤ _
    omega
theorem tupleText_len (ts : List Str) : (tupleText ts).length ≤ piled ts + 3 := by
  unfold tupleText
  rw [strLen_append, strLen_append]
  have e1 : ((("(" : String) : Str)).length = 1 := rfl
  have e3 : (((if ts.length == 1 then ",)" else ")" : String) : Str)).length ≤ 2 := by split <;> decide
  rw [e1]
  by_cases h : ts = []
  · subst h
    show 1 + 0 + _ ≤ _
    omega
  · have := join_length_add ts h
    omega
theorem pl_lst (h : Pls n k ws ds) : Pl (n + 1) (k + 1) (.lst ws) (.list ds) where
  to := by simp only [toD0, h.to]; rfl
  lay := by simp only [PyData.canLay0, h.lay]
  shw := by simp only [PyData.showable, h.shw]
  nod := by simp only [PyData.hasDict, h.nod]
  deep := by simp only [PyData.depth]; exact Nat.succ_le_succ h.deep
  len := by
    have h1 := h.len
    have h2 := listText_len (PyData.shownAll ds)
    simp only [PyData.shown]
    omega
theorem pl_sq (h : Pls n k ws ds) : Pl (n + 1) (k + 1) (.sq ws) (.list ds) where
  to := by simp only [toD0, h.to]; rfl
  lay := (pl_lst h).lay
  shw := (pl_lst h).shw
  nod := (pl_lst h).nod
  deep := (pl_lst h).deep
  len := (pl_lst h).len
theorem pl_tup (h : Pls n k ws ds) : Pl (n + 1) (k + 1) (.tup ws) (.tuple ds) where
  to := by simp only [toD0, h.to]; rfl
  lay := by simp only [PyData.canLay0, h.lay]
  shw := by simp only [PyData.showable, h.shw]
  nod := by simp only [PyData.hasDict, h.nod]
  deep := by simp only [PyData.depth]; exact Nat.succ_le_succ h.deep
  len := by
    have h1 := h.len
    have h2 := tupleText_len (PyData.shownAll ds)
    simp only [PyData.shown]
    omega
theorem pls_ints : ∀ {ns : List Int}, (∀ i ∈ ns, Sm i) → Pls ns.length 0 (ns.map .int) (ns.map .int)
  | [], _ => pls_nil
  | a :: ns, h => by
    have := pls_cons (pl_int (h a List.mem_cons_self)) (pls_ints fun i hi => h i (List.mem_cons_of_mem _ hi))
    rw [Nat.add_comm] at this
    exact this
theorem pl_tI (h : ∀ i ∈ ns, Sm i) : Pl (ns.length + 1) 1 (tI ns) (.tuple (ns.map .int)) := pl_tup (pls_ints h)
theorem pl_lI (h : ∀ i ∈ ns, Sm i) : Pl (ns.length + 1) 1 (lI ns) (.list (ns.map .int)) := pl_lst (pls_ints h)
theorem repr_pl (hd : disp w = true) (ht : toD s w = toD0 w) (h : Pl n k w d) (hn : n ≤ 8000) (hk : k ≤ 60) : reprD s [w] = some (.str d.shown) := by
  show (if disp w = true then match toD s w with
      | some d => if d.showable = true ∧ d.hasDict = false ∧ d.depth ≤ 60 ∧ d.shown.length ≤ lim then some (Dv.str d.shown) else none
      | none => none
    else none) = _
  rw [if_pos hd, ht, h.to]
  have h1 := h.len
  exact if_pos ⟨h.shw, h.nod, Nat.le_trans h.deep hk, by unfold lim; omega⟩
theorem repr_lst (h : Pl n k (.lst ws) d) (hn : n ≤ 8000) (hk : k ≤ 60) : reprD s [.lst ws] = some (.str d.shown) := repr_pl rfl rfl h hn hk
theorem repr_tup (h : Pl n k (.tup ws) d) (hn : n ≤ 8000) (hk : k ≤ 60) : reprD s [.tup ws] = some (.str d.shown) := repr_pl rfl rfl h hn hk
theorem eq_ss {a b : Str} : eqD s (.str a) (.str b) = some (.bl (decide (a = b))) := by
  have e : decide (V.str a = V.str b) = decide (a = b) := by
    by_cases h : a = b
    · rw [h, decide_eq_true rfl, decide_eq_true rfl]
    · rw [decide_eq_false h, decide_eq_false fun z => h (V.str.inj z)]
  show (some (decide (V.str a = V.str b))).map Dv.bl = _
  rw [e]
  rfl
theorem ne_ss {a b : Str} : neD s (.str a) (.str b) = some (.bl (!decide (a = b))) := by
  have e : decide (V.str a = V.str b) = decide (a = b) := by
    by_cases h : a = b
    · rw [h, decide_eq_true rfl, decide_eq_true rfl]
    · rw [decide_eq_false h, decide_eq_false fun z => h (V.str.inj z)]
  show (some (decide (V.str a = V.str b))).map (fun b => Dv.bl (!b)) = _
  rw [e]
  rfl
theorem eq_refl_ss {a : Str} : eqD s (.str a) (.str a) = some (.bl true) := by rw [eq_ss, decide_eq_true rfl]
theorem ne_refl_ss {a : Str} : neD s (.str a) (.str a) = some (.bl false) := by rw [ne_ss, decide_eq_true rfl]; rfl
/-- ints of any size -/
theorem toDs_ints : ∀ ns : List Int, toDs (ns.map .int) = some (ns.map .int)
  | [] => rfl
  | a :: ns => by
    rw [List.map_cons]
    simp only [toDs, toD0, toDs_ints ns]
    rfl
theorem lay_ints : ∀ ns : List Int, PyData.canLayAll0 (ns.map .int) = true
  | [] => by simp only [List.map_nil, PyData.canLayAll0]
  | a :: ns => by simp only [List.map_cons, PyData.canLayAll0, PyData.canLay0, lay_ints ns]; rfl
theorem deep_ints : ∀ ns : List Int, PyData.depthAll (ns.map .int) = 0
  | [] => by simp only [List.map_nil, PyData.depthAll]
  | a :: ns => by simp only [List.map_cons, PyData.depthAll, PyData.depth, deep_ints ns]; rfl
theorem shaped_list_ints : SeqAt.shaped (.list (ns.map .int)) = true := by
  unfold SeqAt.shaped
  simp only [PyData.canLay0, lay_ints, PyData.depth, deep_ints]
  rfl
theorem eqv_ints : ∀ ns ms : List Int, PyData.eqvAll (ns.map .int) (ms.map .int) = decide (ns = ms)
  | [], [] => by simp [PyData.eqvAll]
  | [], _ :: _ => by simp [PyData.eqvAll]
  | _ :: _, [] => by simp [PyData.eqvAll]
  | a :: ns, b :: ms => by
    rw [List.map_cons, List.map_cons]
    simp only [PyData.eqvAll, PyData.eqv, eqv_ints ns ms]
    by_cases h : a = b <;> by_cases h2 : ns = ms <;> simp [h, h2]
theorem eqB_lI {ms : List Int} : eqB s (lI ns) (lI ms) = some (decide (ns = ms)) := by
  have e1 : toD s (lI ns) = some (.list (ns.map .int)) := by
    show (toDs (ns.map .int)).map PyData.list = _
    rw [toDs_ints]; rfl
  have e2 : toD s (lI ms) = some (.list (ms.map .int)) := by
    show (toDs (ms.map .int)).map PyData.list = _
    rw [toDs_ints]; rfl
  show (match toD s (lI ns), toD s (lI ms) with
    | some d, some e => if SeqAt.shaped d = true ∧ SeqAt.shaped e = true then some (PyData.eqv d e) else none
    | _, _ => none) = _
  rw [e1, e2]
  dsimp only
  rw [if_pos ⟨shaped_list_ints, shaped_list_ints⟩]
  simp only [PyData.eqv, eqv_ints]
theorem eq_lI {ms : List Int} : eqD s (lI ns) (lI ms) = some (.bl (decide (ns = ms))) := by
  unfold eqD
  rw [eqB_lI]
  rfl
theorem ne_lI {ms : List Int} : neD s (lI ns) (lI ms) = some (.bl (!decide (ns = ms))) := by
  unfold neD
  rw [eqB_lI]
  rfl

/-! what a law does with repr -/
theorem repr_ne {f g : FE} {ρ : Env} {s1 s2 : Sto} {t : Str} {w' : Dv} (h1 : f ρ s = .ok w s1) (h2 : g ρ s1 = .ok w' s2) (r1 : reprD s1 [w] = some (.str t)) (r2 : reprD s2 [w'] = some (.str t)) : mTest (mBin neD (mBlt reprD (mCons f mNil)) (mBlt reprD (mCons g mNil))) ρ s = .ok false s2 := by
  rw [test_ev, bin_ev, blt_ev, cons_ev, h1, bind_ok, nil_ev, bind_ok, bind_ok, r1, of_some, bind_ok, blt_ev, cons_ev, h2, bind_ok, nil_ev, bind_ok, bind_ok, r2, of_some, bind_ok, ne_refl_ss, of_some, bind_ok, testK_bl]
theorem repr_eq {f g : FE} {ρ : Env} {s1 s2 : Sto} {t : Str} {w' : Dv} (h1 : f ρ s = .ok w s1) (h2 : g ρ s1 = .ok w' s2) (r1 : reprD s1 [w] = some (.str t)) (r2 : reprD s2 [w'] = some (.str t)) : mBin eqD (mBlt reprD (mCons f mNil)) (mBlt reprD (mCons g mNil)) ρ s = .ok (.bl true) s2 := by
  rw [bin_ev, blt_ev, cons_ev, h1, bind_ok, nil_ev, bind_ok, bind_ok, r1, of_some, bind_ok, blt_ev, cons_ev, h2, bind_ok, nil_ev, bind_ok, bind_ok, r2, of_some, bind_ok, eq_refl_ss, of_some]
/-- the branch that is not taken -/
theorem ifS_f {t : FT} {c c' : FS} {ρ : Env} {s1 : Sto} (h : t ρ s = .ok false s1) : mIfS t c c' ρ s = c' ρ s1 := by
  rw [ifS_ev, h, then_ok, if_neg (by decide)]
theorem ifS_t {t : FT} {c c' : FS} {ρ : Env} {s1 : Sto} (h : t ρ s = .ok true s1) : mIfS t c c' ρ s = c ρ s1 := by
  rw [ifS_ev, h, then_ok, if_pos rfl]
theorem mul_lst1 {x : Dv} {k : Nat} (h : k ≤ 1000000) : mulD s (.lst [x]) (.int (k : Int)) = some (.lst (List.replicate k x)) := by
  unfold mulD
  dsimp only [lstOf]
  rw [if_pos ⟨by omega, by omega, by unfold lim; simp; omega⟩, Int.toNat_natCast, List.flatten_replicate_singleton]
theorem mul_tup1 {x : Dv} {k : Nat} (h : k ≤ 1000000) : mulD s (.tup [x]) (.int (k : Int)) = some (.tup (List.replicate k x)) := by
  unfold mulD
  dsimp only
  rw [if_pos ⟨by omega, by omega, by unfold lim; simp; omega⟩, Int.toNat_natCast, List.flatten_replicate_singleton]
theorem lst_v {fa : FA} {ρ : Env} {s1 : Sto} {ws : List Dv} (h : fa ρ s = .ok ws s1) (hl : ws.length ≤ 1000000) : mLst fa ρ s = .ok (.lst ws) s1 := by
  rw [lst_ev, h, bind_ok, if_pos (by unfold lim; omega)]
theorem tup_v {fa : FA} {ρ : Env} {s1 : Sto} {ws : List Dv} (h : fa ρ s = .ok ws s1) (hl : ws.length ≤ 1000000) : mTup fa ρ s = .ok (.tup ws) s1 := by
  rw [tup_ev, h, bind_ok, if_pos (by unfold lim; omega)]
theorem cons_v {f : FE} {fa : FA} {ρ : Env} {s1 s2 : Sto} {w : Dv} {ws : List Dv} (h : f ρ s = .ok w s1) (h2 : fa ρ s1 = .ok ws s2) : mCons f fa ρ s = .ok (w :: ws) s2 := by
  rw [cons_ev, h, bind_ok, h2, bind_ok]
theorem call_v {d : Fn} {fa : FA} {ρ : Env} {s1 : Sto} {ws : List Dv} {r : R Dv} (h : fa ρ s = .ok ws s1) (h2 : d ws s1 = r) : mCall d fa ρ s = r := by
  rw [call_ev, h, bind_ok, h2]
theorem bin_v {o : O2} {f g : FE} {ρ : Env} {s1 s2 : Sto} {x y z : Dv} (h : f ρ s = .ok x s1) (h2 : g ρ s1 = .ok y s2) (h3 : o s2 x y = some z) : mBin o f g ρ s = .ok z s2 := by
  rw [bin_ev, h, bind_ok, h2, bind_ok, h3, of_some]
theorem blt_v {o : ON} {fa : FA} {ρ : Env} {s1 : Sto} {ws : List Dv} {z : Dv} (h : fa ρ s = .ok ws s1) (h3 : o s1 ws = some z) : mBlt o fa ρ s = .ok z s1 := by
  rw [blt_ev, h, bind_ok, h3, of_some]
theorem asg_v {f : FE} {i : Nat} {ρ : Env} {s1 : Sto} {w : Dv} (h : f ρ s = .ok w s1) : mAsg f (gN i) ρ s = .nx (ρ.set i (some w)) s1 := by
  rw [asgN_ev, h, then_ok]
theorem ret_v {f : FE} {ρ : Env} {s1 : Sto} {w : Dv} (h : f ρ s = .ok w s1) : mRet f ρ s = .rt w s1 := by
  rw [ret_ev, h, then_ok]
theorem seq_nx {c c' : FS} {ρ ρ1 : Env} {s1 : Sto} {r : C} (h : c ρ s = .nx ρ1 s1) (h2 : c' ρ1 s1 = r) : mSeq c c' ρ s = r := by
  rw [seq_ev, h, seqK_nx, h2]
theorem seq_rt {c c' : FS} {ρ : Env} {s1 : Sto} {w : Dv} (h : c ρ s = .rt w s1) : mSeq c c' ρ s = .rt w s1 := by
  rw [seq_ev, h, seqK_rt]
theorem test_v {f : FE} {ρ : Env} {s1 : Sto} {b : Bool} (h : f ρ s = .ok (.bl b) s1) : mTest f ρ s = .ok b s1 := by
  rw [test_ev, h, bind_ok, testK_bl]
section
open Classical
variable {vs : List Nat} {g : FG} {tt : FT} {elt : FE} {ρ : Env}
/-- a comprehension with a test that changes nothing -/
theorem comp_filt {α : Type} {f : FI} {l : List α} {e : α → Dv} (φ : α → Dv) (t : α → Bool) (hf : f ρ s = .ok { ws := l.map e } s) (hl : l.length ≤ lim) (h : ∀ a ∈ l, ∃ ρ1, g (e a) (wipeD ρ vs) s = some ρ1 ∧ tt ρ1 s = .ok (t a) s ∧ (t a = true → elt ρ1 s = .ok (φ a) s)) : mComp f vs g tt elt ρ s = .ok (.lst ((l.filter t).map φ)) s := by
  have key : ∀ {l : List α}, (∀ a ∈ l, ∃ ρ1, g (e a) (wipeD ρ vs) s = some ρ1 ∧ tt ρ1 s = .ok (t a) s ∧ (t a = true → elt ρ1 s = .ok (φ a) s)) → compL none vs g tt elt ρ (l.map e) s = some ((l.filter t).map φ, s) := fun {l} => by
    induction l with
    | nil => intro _; rw [List.map_nil]; simp [compL]
    | cons a l ih =>
      intro h
      obtain ⟨ρ1, h1, h2, h3⟩ := h a List.mem_cons_self
      rw [List.map_cons]
      unfold compL
      rw [if_pos (.inl rfl), h1]
      simp only [h2]
      cases q : t a with
      | true =>
        rw [List.filter_cons_of_pos q]
        simp only [h3 q]
        rw [ih fun b hb => h b (List.mem_cons_of_mem _ hb)]
        rfl
      | false =>
        rw [List.filter_cons_of_neg (by rw [q]; decide)]
        exact ih fun b hb => h b (List.mem_cons_of_mem _ hb)
  unfold mComp
  rw [hf, bind_ok]
  dsimp only
  rw [key h]
  dsimp only
  rw [if_pos (by rw [List.length_map]; exact Nat.le_trans (List.length_filter_le _ _) hl)]
end
end MP

set_option Elab.async false
set_option linter.all false
set_option maxRecDepth 100000
set_option maxHeartbeats 4000000
/-! max of a list of ints, with default= too; a try that runs through -/
namespace MP
open PySem PySem.Spec PyProof.Rows L2
def maxO (d : Int) : List Int → Int
  | [] => d
  | n :: ns => ns.foldl max n
theorem foldl_max_le : ∀ (ns : List Int) (n : Int), n ≤ ns.foldl max n ∧ ∀ m ∈ ns, m ≤ ns.foldl max n
  | [], n => ⟨Int.le_refl _, fun _ h => nomatch h⟩
  | a :: ns, n => by
    obtain ⟨h1, h2⟩ := foldl_max_le ns (max n a)
    refine ⟨Int.le_trans (by omega : n ≤ max n a) h1, fun m hm => ?_⟩
    rcases List.mem_cons.mp hm with rfl | hm
    · exact Int.le_trans (by omega : m ≤ max n m) h1
    · exact h2 m hm
theorem foldl_max_mem : ∀ (ns : List Int) (n : Int), ns.foldl max n ∈ n :: ns
  | [], n => List.mem_cons_self
  | a :: ns, n => by
    have := foldl_max_mem ns (max n a)
    show ns.foldl max (max n a) ∈ _
    rcases List.mem_cons.mp this with h | h
    · rw [h]
      by_cases q : n ≤ a
      · rw [show max n a = a by omega]; exact List.mem_cons_of_mem _ List.mem_cons_self
      · rw [show max n a = n by omega]; exact List.mem_cons_self
    · exact List.mem_cons_of_mem _ (List.mem_cons_of_mem _ h)
theorem maxO_uniq {d m : Int} {ns : List Int} (h : m ∈ ns) (h2 : ∀ y ∈ ns, y ≤ m) : m = maxO d ns := by
  cases ns with
  | nil => cases h
  | cons a ns =>
    have h3 := h2 _ (foldl_max_mem ns a)
    obtain ⟨h4, h5⟩ := foldl_max_le ns a
    show m = ns.foldl max a
    rcases List.mem_cons.mp h with rfl | h
    · omega
    · have := h5 m h; omega
section
variable {X : Cx} {Γ : Ct} {W : WX}
def rMaxDef (K : PySem.W.Frag) : List V → List V → Hp → VK → Prop := fun vs zs H Q => ∃ (a : Addr) (ns : List Int) (d : Int), vs = [V.ref a] ∧ zs = [V.int d] ∧ SqL K H a (ns.map V.int) ∧ Q (.int (maxO d ns)) H
theorem cr_maxDef (hc : X.calm = true) (hu : X.A.units + 64 < cLine) : CallRK X (.builtin "max") [Str.ofString "default"] (rMaxDef X.K) := by
  intro pins s σ H vs zs us ws Q I r rz h
  obtain ⟨a, ns, d, rfl, rfl, hs, q⟩ := h
  obtain ⟨its, rv, hl, _⟩ := I.list hs
  rw [Vals.ref1 r]
  obtain ⟨w1, rfl, e1⟩ := vals1 rz
  have hd : PyData.depthAll (ns.map .int) = 0 := deep_ints ns
  refine PySem.W.max_list_default (xs := ns.map .int) (I.ok.hd hc) hl.isList (IntsAre.reads _ rv.ints) ?_ (by rw [hd]; omega) (fun h0 h' tk hk => ?_) fun y ys i v h' tk bs hx hv hr hk => ?_
  · constructor
    · intro x hx y hy
      obtain ⟨i, _, rfl⟩ := List.mem_map.mp hx
      obtain ⟨j, _, rfl⟩ := List.mem_map.mp hy
      simp [PySem.W.alike]
    · intro x hx
      obtain ⟨i, _, rfl⟩ := List.mem_map.mp hx
      intro z; cases z
  · have : ns = [] := by simpa using h0
    subst this
    exact ⟨.int d, H, I.kept hk, e1, q⟩
  · cases ns with
    | nil => cases hx
    | cons n ns =>
      cases hx
      rw [PySem.W.maxD_ints] at hr
      cases hr
      exact ⟨.int _, H, I.kept hk, ⟨_, rfl⟩, q⟩
/-- max(x, default=d) -/
def maxDefD : O2 := fun s x y => match y with
  | .int d => match lstOf s x with
    | some ws => (intsOf ws).map fun ns => .int (maxO d ns)
    | none => none
  | _ => none
theorem me_maxDef {e e2 : Expr} {f g : FE} {p pos kp : Pos} (hK : Γ.K = X.K) (hc : X.calm = true) (hu : X.A.units + 64 < cLine) (hg : Gl X "max") (hm : X.mg "max" = none) (ha : ME X Γ W e f) (hb : ME X Γ W e2 g)
    (he : backTo pos (starEach [e] X.env) = (false, eval e X.env) :: backTo pos (starEach [] X.env) := by rfl) (he' : starEach [e] X.env = (false, eval e X.env) :: starEach [] X.env := by rfl) (hpl : (backTo pos (starEach [e] X.env)).any (·.1) = false := by rfl)
    (hall : (backToKw pos (keywordEach [⟨some "default", e2, kp⟩] X.env)).all (·.1.isSome) = true := by rfl) (hnone : (backToKw pos (keywordEach [⟨some "default", e2, kp⟩] X.env)).any (·.1.isNone) = false := by rfl) (hks : (backToKw pos (keywordEach [⟨some "default", e2, kp⟩] X.env)).filterMap (·.1) = [Str.ofString "default"] := by rfl) :
    ME X Γ W (.Call (.Name "max" p) [e] [⟨some "default", e2, kp⟩] pos) (mBin maxDefD f g) :=
  PE.imp (pe_callBK (cr_maxDef hc hu) hg hm (by decide +kernel) (pa_cons ha pa_nil he') (pk_cons hb pk_nil) (by decide) (by decide) he hpl hall hnone hks) fun σ H Q ⟨μ, Z, ρ, s, hE, hR, q⟩ =>
    eE hE hR q fun x s1 u H1 μ1 e1 hE1 R1 r1 q1 => eE hE1 R1 q1 fun y s2 v H2 μ2 e2 hE2 R2 r2 q2 => by
      obtain ⟨w, hw, k⟩ := ofE q2
      unfold maxDefD at hw
      split at hw
      · rename_i d
        split at hw
        · rename_i ws ql
          cases qi : intsOf ws with
          | none => rw [qi] at hw; cases hw
          | some ns =>
            rw [qi] at hw
            cases hw
            obtain ⟨a, ys, rfl, h2, h3⟩ := lstOf_ok R2 (r1.mono e2) ql
            rw [intsOf_ok qi] at h3
            have h4 := h3.ints
            subst h4
            refine ⟨a, ns, d, rfl, ?_, SqL.of h2, k _ H2 .refl R2 rfl⟩
            rw [show v = .int d from r2]
        · cases hw
      · cases hw
/-- max(x), some ints -/
def maxLD : ON := fun s xs => match xs with
  | [x] => match lstOf s x with
    | some ws => match intsOf ws with
      | some (n :: ns) => some (.int (maxO 0 (n :: ns)))
      | _ => none
    | none => none
  | _ => none
theorem sMaxL (hK : Γ.K = X.K) : OpN Γ (rMax X.K) maxLD := fun H μ Z s xs w vs Q hR rx e k => by
  rw [← hK]
  unfold maxLD at e
  split at e
  · rename_i y
    split at e
    · rename_i ws q
      split at e
      · rename_i n ns q2
        cases e
        obtain ⟨v, rfl, r1⟩ := one rx
        obtain ⟨a, ys, rfl, h2, h3⟩ := lstOf_ok hR r1 q
        rw [intsOf_ok q2] at h3
        have h4 := h3.ints
        subst h4
        refine ⟨a, n :: ns, rfl, SqL.of h2, Nat.succ_pos _, fun m hm h => ?_⟩
        rw [maxO_uniq (d := 0) hm h]
        exact k _ H .refl hR rfl
      · cases e
    · cases e
  · cases e
/-- a try whose body raises nothing -/
def mTryN (c : FS) : FS := fun ρ s => match c ρ s with
  | .er _ _ _ => .no
  | r => r
theorem ms_tryN {body : List Stmt} {h₀ : ExceptHandler} {hs : List ExceptHandler} {pos : Pos} {c : FS} (hb : MB X.nox Γ W0 body c) : MS X Γ W (.Try body (h₀ :: hs) [] [] pos) (mTryN c) :=
  PS.imp (ps_try_thru0 hb) fun D σ H ⟨μ, Z, ρ, s, hE, hR, q⟩ => by
    refine ⟨μ, Z, ρ, s, hE, hR, ?_⟩
    unfold mTryN at q
    cases e : c ρ s with
    | er x ρ' s' => rw [e] at q; exact q.elim
    | nx _ _ => rw [e] at q; exact q
    | rt _ _ => rw [e] at q; exact q
    | bk _ _ => rw [e] at q; exact q
    | ct _ _ => rw [e] at q; exact q
    | no => rw [e] at q; exact q
end
end MP

set_option Elab.async false
set_option linter.all false
set_option maxRecDepth 100000
set_option maxHeartbeats 4000000
/-! list(zip(x, y)) of two tuples -/
namespace MPZ
open PySem PySem.W
section
variable {prog : Program} {w : World} {A : Around} {E : Value → Shared → Prop} {s : Shared} {z TI TO T i1 i2 l1 l2 : Addr} {f : Bool} {oT : Obj} {k1 k2 : Nat} {xs ys : Array Value}
/-- a zip that goes on while its last tuple is still held -/
structure On (h : Heap) (z TI i1 i2 l1 l2 : Addr) (k1 k2 : Nat) (xs ys : Array Value) : Prop where
  tI : PySem.IsPair h TI (.ref i1) (.ref i2)
  a : h.IsTupleIter i1 l1 k1
  b : h.IsTupleIter i2 l2 k2
  la : h.IsTuple l1 xs
  lb : h.IsTuple l2 ys
theorem held_item {x y : Value} {Q : Value → Shared → Prop} (D : ZipApart z TI TO i1 i2 l1 l2) (hz : IsZipHeld s.heap z TI TO T f) (hT : s.heap.get? T = some oT) (o : On s.heap z TI i1 i2 l1 l2 k1 k2 xs ys) (hx : xs[k1]? = some x) (hy : ys[k2]? = some y)
    (hQ : ∀ g, IsZipHeld g z TI TO T true → g.IsTupleIter i1 l1 (k1 + 1) → g.IsTupleIter i2 l2 (k2 + 1) → PySem.IsPair g s.heap.objs.size x y → g.objs.size = s.heap.objs.size + 1 →
      (∀ c u, c ≠ z → c ≠ i1 → c ≠ i2 → s.heap.get? c = some u → g.get? c = some u) → Q (.ref s.heap.objs.size) { s with heap := g }) :
    wpAny (model prog w) A (Builtin.«zip.__next__» ⟨[.ref z], []⟩) (fun fin s' => ∃ v, fin = .done (.ret v) ∧ Q v s') E s := by
  obtain ⟨tI, a, b, la, lb⟩ := o
  show wpAny _ _ (field (.ref z) 2 >>= _) _ _ _; refine wpAny_bind (wpAny_field hz rfl (x := .bool false) rfl ?_)
  show wpAny _ _ (field (.ref z) 3 >>= _) _ _ _; refine wpAny_bind (wpAny_field hz rfl (x := .ref TI) rfl ?_)
  refine wpAny_bind (wpAny_seqItems tI rfl ?_); show wpAny _ _ (Builtin.SmallTypes.ownedTupleIsFree (.ref z) >>= _) _ _ _
  refine wpAny_bind (wpAny_tupleHeld_zip hz hT fun g1 z1 s1 => ?_); simp only [Bool.false_eq_true, if_false]
  refine wpAny_bind ?_; rw [← Array.forIn_toList]; simp only [List.forIn_cons, List.forIn_nil]
  refine wpAny_bind (wpAny_bind (wpAny_holding ?_)); show wpAny _ _ (Builtin.SmallTypes.nextOf (.ref i1) >>= _) _ _ _
  refine wpAny_bind (RZ.nextOf_tuple_item (s := { s with heap := g1 }) (a.extBut s1.extBut D.i1z) (la.extBut s1.extBut D.l1z) hx fun g2 a2 s2 => wpAny_pure ?_)
  refine wpAny_pure ?_; refine wpAny_bind (wpAny_bind (wpAny_holding ?_)); show wpAny _ _ (Builtin.SmallTypes.nextOf (.ref i2) >>= _) _ _ _
  refine wpAny_bind (RZ.nextOf_tuple_item (s := { s with heap := g2 }) ((b.extBut s1.extBut D.i2z).extBut s2.extBut D.i12.symm) ((lb.extBut s1.extBut D.l2z).extBut s2.extBut D.l2i1) hy fun g3 b3 s3 => wpAny_pure ?_)
  refine wpAny_pure (wpAny_pure ?_); show wpAny _ _ (newTuple [x, y] >>= _) _ _ _; refine wpAny_bind (wpAny_newTuple ?_)
  have sz : g3.objs.size = s.heap.objs.size := by rw [s3.1, s2.1, s1.1]
  have z3 : IsZipHeld g3 z TI TO T true := s3.extBut _ _ D.i2z.symm (s2.extBut _ _ D.i1z.symm z1)
  have a3 : g3.IsTupleIter i1 l1 (k1 + 1) := a2.extBut s3.extBut D.i12
  have p3 : PySem.IsPair (g3.push { cls := .type "tuple", data := .seq #[x, y] }) g3.objs.size x y := Heap.get?_push_size _ rfl
  have n3 : (g3.push { cls := .type "tuple", data := .seq #[x, y] }).objs.size = g3.objs.size + 1 := Heap.size_push ..
  refine wpAny_pure ⟨_, rfl, ?_⟩; show Q (.ref g3.objs.size) _; rw [sz] at p3 n3 ⊢
  exact hQ _ (Heap.get?_push_of_some _ z3) (a3.at fun u e => Heap.get?_push_of_some _ e) (b3.at fun u e => Heap.get?_push_of_some _ e) p3 n3 fun c u c1 c2 c3 e => Heap.get?_push_of_some _ (s3.extBut _ _ c3 (s2.extBut _ _ c2 (s1.extBut _ _ c1 e)))
theorem held_end {Q : Fin → Shared → Prop} (hh : A.handled = none) (D : ZipApart z TI TO i1 i2 l1 l2) (hz : IsZipHeld s.heap z TI TO T f) (hT : s.heap.get? T = some oT) (o : On s.heap z TI i1 i2 l1 l2 k1 k2 xs ys) (hend : xs[k1]? = none ∨ ys[k2]? = none)
    (hE : ∀ g e, (∀ c u, c ≠ z → c ≠ i1 → c ≠ i2 → s.heap.get? c = some u → g.get? c = some u) → (∃ u, g.get? e = some u ∧ u.cls = .type "StopIteration") → E (.ref e) { s with heap := g }) :
    wpAny (model prog w) A (Builtin.«zip.__next__» ⟨[.ref z], []⟩) Q E s := by
  obtain ⟨tI, a, b, la, lb⟩ := o
  show wpAny _ _ (field (.ref z) 2 >>= _) _ _ _; refine wpAny_bind (wpAny_field hz rfl (x := .bool false) rfl ?_)
  show wpAny _ _ (field (.ref z) 3 >>= _) _ _ _; refine wpAny_bind (wpAny_field hz rfl (x := .ref TI) rfl ?_)
  refine wpAny_bind (wpAny_seqItems tI rfl ?_); show wpAny _ _ (Builtin.SmallTypes.ownedTupleIsFree (.ref z) >>= _) _ _ _
  refine wpAny_bind (wpAny_tupleHeld_zip hz hT fun g1 z1 s1 => ?_); simp only [Bool.false_eq_true, if_false]
  refine wpAny_bind ?_; rw [← Array.forIn_toList]; simp only [List.forIn_cons, List.forIn_nil]
  refine wpAny_bind (wpAny_bind (wpAny_holding ?_)); show wpAny _ _ (Builtin.SmallTypes.nextOf (.ref i1) >>= _) _ _ _
  cases hx : xs[k1]? with
  | none =>
    refine wpAny_bind (RZ.nextOf_tuple_end (s := { s with heap := g1 }) hh (a.extBut s1.extBut D.i1z) (la.extBut s1.extBut D.l1z) hx fun g2 e s2 he => ?_)
    exact hE g2 e (fun c u c1 c2 _ q => s2 _ _ c2 (s1.extBut _ _ c1 q)) he
  | some x =>
    have hy : ys[k2]? = none := hend.elim (fun q => by rw [hx] at q; cases q) id
    refine wpAny_bind (RZ.nextOf_tuple_item (s := { s with heap := g1 }) (a.extBut s1.extBut D.i1z) (la.extBut s1.extBut D.l1z) hx fun g2 a2 s2 => wpAny_pure ?_)
    refine wpAny_pure ?_; refine wpAny_bind (wpAny_bind (wpAny_holding ?_)); show wpAny _ _ (Builtin.SmallTypes.nextOf (.ref i2) >>= _) _ _ _
    refine wpAny_bind (RZ.nextOf_tuple_end (s := { s with heap := g2 }) hh ((b.extBut s1.extBut D.i2z).extBut s2.extBut D.i12.symm) ((lb.extBut s1.extBut D.l2z).extBut s2.extBut D.l2i1) hy fun g3 e s3 he => ?_)
    exact hE g3 e (fun c u c1 c2 c3 q => s3 _ _ c3 (s2.extBut _ _ c2 (s1.extBut _ _ c1 q))) he
theorem next_held {x y : Value} {Q : Option Value → Shared → Prop} (D : ZipApart z TI TO i1 i2 l1 l2) (hz : IsZipHeld s.heap z TI TO T f) (hT : s.heap.get? T = some oT) (o : On s.heap z TI i1 i2 l1 l2 k1 k2 xs ys) (hx : xs[k1]? = some x) (hy : ys[k2]? = some y)
    (hQ : ∀ g, IsZipHeld g z TI TO T true → g.IsTupleIter i1 l1 (k1 + 1) → g.IsTupleIter i2 l2 (k2 + 1) → PySem.IsPair g s.heap.objs.size x y → g.objs.size = s.heap.objs.size + 1 →
      (∀ c u, c ≠ z → c ≠ i1 → c ≠ i2 → s.heap.get? c = some u → g.get? c = some u) → Q (some (.ref s.heap.objs.size)) { s with heap := g }) : wpAny (model prog w) A (pyNext (.ref z)) Q E s := by
  have hTy : s.TypeIs (.ref z) "zip" := ⟨_, hz, rfl⟩
  unfold pyNext; exact wpAny_bind (wpAny_attempt (wpAny_callSpecial?_slot (name := Str.ofString "__next__") hTy F.slot_zip_next (wpAny_call_entry F.slot_zip_next hTy F.entry_zip_next (held_item D hz hT o hx hy fun g q1 q2 q3 q4 q5 q6 => wpAny_pure (hQ g q1 q2 q3 q4 q5 q6)) (F.args_zip_next_1 _))))
theorem done_held {Q : Option Value → Shared → Prop} (hh : A.handled = none) (D : ZipApart z TI TO i1 i2 l1 l2) (hz : IsZipHeld s.heap z TI TO T f) (hT : s.heap.get? T = some oT) (o : On s.heap z TI i1 i2 l1 l2 k1 k2 xs ys) (hend : xs[k1]? = none ∨ ys[k2]? = none)
    (hQ : ∀ g, (∀ c u, c ≠ z → c ≠ i1 → c ≠ i2 → s.heap.get? c = some u → g.get? c = some u) → Q none { s with heap := g }) : wpAny (model prog w) A (pyNext (.ref z)) Q E s := by
  have hTy : s.TypeIs (.ref z) "zip" := ⟨_, hz, rfl⟩
  unfold pyNext; refine wpAny_bind (wpAny_attempt (wpAny_callSpecial?_slot (name := Str.ofString "__next__") hTy F.slot_zip_next (wpAny_call_entry F.slot_zip_next hTy F.entry_zip_next (held_end hh D hz hT o hend fun g e hk he => ?_) (F.args_zip_next_1 _))))
  obtain ⟨u, hu, hc⟩ := he
  exact wpAny_bind (wpAny_isInstance (T := "StopIteration") (b := true) ⟨u, hu, hc⟩ isSubtype_stop (wpAny_pure (hQ _ hk)))

/-- where a zip of two tuples stands -/
structure Zst (h : Heap) (z TI TO i1 i2 l1 l2 S : Addr) (k : Nat) (xs ys : Array Value) : Prop where
  on : On h z TI i1 i2 l1 l2 k k xs ys
  st : (PySem.IsZip h z TI TO .none ∧ PySem.IsPair h TO .none .none) ∨ ∃ T f oT, IsZipHeld h z TI TO T f ∧ h.get? T = some oT ∧ T ≠ z ∧ T ≠ i1 ∧ T ≠ i2 ∧ T ≠ S
variable {S : Addr} {k : Nat}
theorem On.mv {h g : Heap} (o : On h z TI i1 i2 l1 l2 k1 k2 xs ys) (D : ZipApart z TI TO i1 i2 l1 l2) (ga : g.IsTupleIter i1 l1 (k1 + 1)) (gb : g.IsTupleIter i2 l2 (k2 + 1)) (hk : ∀ c u, c ≠ z → c ≠ TO → c ≠ i1 → c ≠ i2 → h.get? c = some u → g.get? c = some u) : On g z TI i1 i2 l1 l2 (k1 + 1) (k2 + 1) xs ys where
  tI := hk _ _ D.TIz D.TITO D.TIi1 D.TIi2 o.tI
  a := ga
  b := gb
  la := let ⟨u, e, q⟩ := o.la; ⟨u, hk _ _ D.l1z D.l1TO D.l1i1 D.l1i2 e, q⟩
  lb := let ⟨u, e, q⟩ := o.lb; ⟨u, hk _ _ D.l2z D.l2TO D.l2i1 D.l2i2 e, q⟩
theorem zst_item {x y : Value} {Q : Option Value → Shared → Prop} (D : ZipApart z TI TO i1 i2 l1 l2) (zs : Zst s.heap z TI TO i1 i2 l1 l2 S k xs ys) (hS : S < s.heap.objs.size) (hx : xs[k]? = some x) (hy : ys[k]? = some y)
    (hQ : ∀ g, Zst g z TI TO i1 i2 l1 l2 S (k + 1) xs ys → PySem.IsPair g s.heap.objs.size x y → g.objs.size = s.heap.objs.size + 1 → (∀ c u, c ≠ z → c ≠ TO → c ≠ i1 → c ≠ i2 → s.heap.get? c = some u → g.get? c = some u) → Q (some (.ref s.heap.objs.size)) { s with heap := g }) :
    wpAny (model prog w) A (pyNext (.ref z)) Q E s := by
  obtain ⟨on, st⟩ := zs
  have lt1 : i1 < s.heap.objs.size := let ⟨_, e, _⟩ := on.a; Heap.lt_size e
  have lt2 : i2 < s.heap.objs.size := let ⟨_, e, _⟩ := on.b; Heap.lt_size e
  rcases st with ⟨hz, hTO⟩ | ⟨T, f, oT, hz, hT, n1, n2, n3, n4⟩
  · refine RZ.pyNext_zipT_item D hz on.tI hTO on.a on.b on.la on.lb hx hy fun g q1 _ q3 q4 q5 q6 q7 => hQ g ⟨on.mv D q3 q4 q7, .inr ⟨_, false, _, q1, q5, ?_, Nat.ne_of_gt lt1, Nat.ne_of_gt lt2, Nat.ne_of_gt hS⟩⟩ q5 q6 q7
    exact Nat.ne_of_gt (Heap.lt_size hz)
  · exact next_held D hz hT on hx hy fun g q1 q3 q4 q5 q6 q7 => hQ g ⟨on.mv D q3 q4 fun c u c1 _ c3 c4 e => q7 c u c1 c3 c4 e, .inr ⟨T, true, oT, q1, q7 _ _ n1 n2 n3 hT, n1, n2, n3, n4⟩⟩ q5 q6 fun c u c1 _ c3 c4 e => q7 c u c1 c3 c4 e
theorem zst_end {Q : Option Value → Shared → Prop} (hh : A.handled = none) (D : ZipApart z TI TO i1 i2 l1 l2) (zs : Zst s.heap z TI TO i1 i2 l1 l2 S k xs ys) (hend : xs[k]? = none ∨ ys[k]? = none)
    (hQ : ∀ g, (∀ c u, c ≠ z → c ≠ TO → c ≠ i1 → c ≠ i2 → s.heap.get? c = some u → g.get? c = some u) → Q none { s with heap := g }) : wpAny (model prog w) A (pyNext (.ref z)) Q E s := by
  obtain ⟨on, st⟩ := zs
  rcases st with ⟨hz, hTO⟩ | ⟨T, f, oT, hz, hT, _⟩
  · exact RZ.pyNext_zipT_end hh D hz on.tI hTO on.a on.b on.la on.lb hend hQ
  · exact done_held hh D hz hT on hend fun g q => hQ g fun c u c1 _ c3 c4 e => q c u c1 c3 c4 e
theorem Zst.up {h g : Heap} (zs : Zst h z TI TO i1 i2 l1 l2 S k xs ys) (lt : z < S ∧ TI < S ∧ TO < S ∧ i1 < S ∧ i2 < S ∧ l1 < S ∧ l2 < S) (hk : ∀ c u, c ≠ S → h.get? c = some u → g.get? c = some u) : Zst g z TI TO i1 i2 l1 l2 S k xs ys := by
  obtain ⟨⟨tI, a, b, la, lb⟩, st⟩ := zs
  obtain ⟨n1, n2, n3, n4, n5, n6, n7⟩ := lt
  refine ⟨⟨hk _ _ (Nat.ne_of_lt n2) tI, a.at fun u e => hk _ u (Nat.ne_of_lt n4) e, b.at fun u e => hk _ u (Nat.ne_of_lt n5) e, (let ⟨u, e, q⟩ := la; ⟨u, hk _ _ (Nat.ne_of_lt n6) e, q⟩), (let ⟨u, e, q⟩ := lb; ⟨u, hk _ _ (Nat.ne_of_lt n7) e, q⟩)⟩, ?_⟩
  rcases st with ⟨hz, hTO⟩ | ⟨T, f, oT, hz, hT, m1, m2, m3, m4⟩
  · exact .inl ⟨hk _ _ (Nat.ne_of_lt n1) hz, hk _ _ (Nat.ne_of_lt n3) hTO⟩
  · exact .inr ⟨T, f, oT, hk _ _ (Nat.ne_of_lt n1) hz, hk _ _ m4 hT, m1, m2, m3, m4⟩
/-- the pairs, as new tuples above lo -/
structure Prs (xs ys : Array Value) (lo : Addr) (h : Heap) (as : List Addr) : Prop where
  rise : as.Pairwise (· < ·)
  over : ∀ a ∈ as, lo < a
  pair : ∀ (j : Nat) (a : Addr), as[j]? = some a → ∃ x y, xs[j]? = some x ∧ ys[j]? = some y ∧ PySem.IsPair h a x y
theorem Prs.low {lo lo' : Addr} {h : Heap} {as : List Addr} (p : Prs xs ys lo h as) (hl : lo' ≤ lo) : Prs xs ys lo' h as := ⟨p.rise, fun a ha => Nat.lt_of_le_of_lt hl (p.over a ha), p.pair⟩
theorem Prs.keep {lo : Addr} {h g : Heap} {as : List Addr} (p : Prs xs ys lo h as) (hk : ∀ b u, lo < b → h.get? b = some u → g.get? b = some u) : Prs xs ys lo g as :=
  ⟨p.rise, p.over, fun j a q => let ⟨x, y, e1, e2, e3⟩ := p.pair j a q; ⟨x, y, e1, e2, hk a _ (p.over a (List.mem_of_getElem? q)) e3⟩⟩
end
section
variable {prog : Program} {w : World} {A : Around} {s : Shared} {R : Result → Shared → Prop} {z TI TO i1 i2 l1 l2 S : Addr} {xs ys : Array Value}
abbrev Lst (h : Heap) (S : Addr) (acc : Array Value) (c : Nat) : Prop := h.get? S = some { cls := .type "list", dict := none, data := .seq acc c, slots := #[] }
theorem zip_loop (hh : A.handled = none) (D : ZipApart z TI TO i1 i2 l1 l2) (lt : z < S ∧ TI < S ∧ TO < S ∧ i1 < S ∧ i2 < S ∧ l1 < S ∧ l2 < S) (he : xs.size = ys.size) (hn : xs.size ≤ sizeLine) (res : Value) {h1 : Heap}
    (hR : ∀ g tk acc c as, (∀ b u, b ≠ S → b ≠ z → b ≠ TO → b ≠ i1 → b ≠ i2 → h1.get? b = some u → g.get? b = some u) → Lst g S acc c → as.length = xs.size → Prs xs ys S g as → acc.toList = as.map Value.ref → R (.ok (.ret res)) { s with heap := g, toks := tk }) :
    ∀ (k i : Nat) (h : Heap) (tk c : Nat) (acc : Array Value) (as : List Addr), xs.size - i = k → i ≤ xs.size → Zst h z TI TO i1 i2 l1 l2 S i xs ys → (∀ b u, b ≠ S → b ≠ z → b ≠ TO → b ≠ i1 → b ≠ i2 → h1.get? b = some u → h.get? b = some u) →
      Lst h S acc c → acc.toList = as.map Value.ref → as.length = i → Prs xs ys S h as → codeAny (model prog w) A (.builtin "list.extend.loop" ⟨[.ref S, .ref z, res], []⟩) R { s with heap := h, toks := tk } := by
  obtain ⟨n1, n2, n3, n4, n5, n6, n7⟩ := id lt
  intro k
  induction k with
  | zero =>
    intro i h tk c acc as hk hi zs keep hS hacc hl P
    refine codeAny_builtin PySem.F.entry_extend_loop ?_; rw [Around.under_plainId PySem.F.plain_extend_loop _]
    show wpAny _ A.in1 (pyNext (.ref z) >>= _) _ _ _
    refine wpAny_bind (zst_end (s := { s with heap := h, toks := tk }) (A := A.in1) hh D zs (.inl (Array.getElem?_eq_none (by omega))) fun g hg => ?_)
    exact wpAny_pure (hR g tk acc c as (fun b u b1 b2 b3 b4 b5 e => hg b u b2 b3 b4 b5 (keep b u b1 b2 b3 b4 b5 e)) (hg S _ (Nat.ne_of_gt n1) (Nat.ne_of_gt n3) (Nat.ne_of_gt n4) (Nat.ne_of_gt n5) hS) (by omega)
      (P.keep fun b u q e => hg b u (Nat.ne_of_gt (Nat.lt_trans n1 q)) (Nat.ne_of_gt (Nat.lt_trans n3 q)) (Nat.ne_of_gt (Nat.lt_trans n4 q)) (Nat.ne_of_gt (Nat.lt_trans n5 q)) e) hacc)
  | succ k ih =>
    intro i h tk c acc as hk hi zs keep hS hacc hl P
    have hlt : i < xs.size := by omega
    have hsz : acc.size = i := by rw [← Array.length_toList, hacc, List.length_map, hl]
    refine codeAny_builtin PySem.F.entry_extend_loop ?_; rw [Around.under_plainId PySem.F.plain_extend_loop _]
    show wpAny _ A.in1 (pyNext (.ref z) >>= _) _ _ _
    refine wpAny_bind (zst_item (s := { s with heap := h, toks := tk }) (S := S) D zs (Heap.lt_size hS) (Array.getElem?_eq_getElem hlt) (Array.getElem?_eq_getElem (by omega)) fun g zg hp hg kg => ?_)
    dsimp only at hp hg kg ⊢
    have hSg := kg S _ (Nat.ne_of_gt n1) (Nat.ne_of_gt n3) (Nat.ne_of_gt n4) (Nat.ne_of_gt n5) hS
    have hSl : S < h.objs.size := Heap.lt_size hS
    have up : ∀ b u, b ≠ S → g.get? b = some u → (g.update S (Obj.mapSeq (·.push (Value.ref h.objs.size)))).get? b = some u := fun b u hb e => (Heap.get?_update_other _ _ (Ne.symm hb)).trans e
    show wpAny _ A.in1 (updateSeq S (·.push (Value.ref h.objs.size)) >>= _) _ _ _
    refine wpAny_bind (wpAny_updateSeq hSg rfl (wpAny_pure ⟨plainId_quiet PySem.F.plain_extend_loop _, ih (i + 1) _ tk _ (acc.push (Value.ref h.objs.size)) (as ++ [h.objs.size]) (by omega) hlt (zg.up lt up)
      (fun b u b1 b2 b3 b4 b5 e => up b u b1 (kg b u b2 b3 b4 b5 (keep b u b1 b2 b3 b4 b5 e))) (Heap.get?_update_self _ hSg rfl) (by rw [Array.toList_push, hacc, List.map_append]; rfl) (by rw [List.length_append, hl]; rfl) ⟨?_, ?_, ?_⟩⟩) (by rw [hsz]; omega) (by rw [Array.size_push]; omega))
    · refine List.pairwise_append.mpr ⟨P.rise, List.pairwise_singleton _ _, fun a ha b hb => ?_⟩
      rw [List.mem_singleton.mp hb]
      obtain ⟨j, hj⟩ := List.mem_iff_getElem?.mp ha
      obtain ⟨_, _, _, _, e⟩ := P.pair j a hj
      exact Heap.lt_size e
    · intro a ha
      rcases List.mem_append.mp ha with ha | ha
      · exact P.over a ha
      · rw [List.mem_singleton.mp ha]; exact hSl
    · intro j b hj
      rcases Nat.lt_trichotomy j as.length with q | q | q
      · rw [List.getElem?_append_left q] at hj
        obtain ⟨x, y, e1, e2, e3⟩ := P.pair j b hj
        have hb := P.over b (List.mem_of_getElem? hj)
        exact ⟨x, y, e1, e2, up b _ (Nat.ne_of_gt hb) (kg b _ (Nat.ne_of_gt (Nat.lt_trans n1 hb)) (Nat.ne_of_gt (Nat.lt_trans n3 hb)) (Nat.ne_of_gt (Nat.lt_trans n4 hb)) (Nat.ne_of_gt (Nat.lt_trans n5 hb)) e3)⟩
      · subst q
        have hb : h.objs.size = b := by simpa using hj
        subst hb
        exact ⟨_, _, by rw [hl]; exact Array.getElem?_eq_getElem hlt, by rw [hl]; exact Array.getElem?_eq_getElem (by omega), up _ _ (Nat.ne_of_gt hSl) hp⟩
      · have : (as ++ [h.objs.size])[j]? = none := List.getElem?_eq_none (by rw [List.length_append, List.length_singleton]; omega)
        rw [this] at hj; cases hj
theorem zip_len : typeLookup (.type "zip") "__len__" = pure none := am_miss_of_fast (by decide +kernel)
theorem zip_hint : typeLookup (.type "zip") "__length_hint__" = pure none := am_miss_of_fast (by decide +kernel)
theorem Zst.ty {h : Heap} {k : Nat} (zs : Zst h z TI TO i1 i2 l1 l2 S k xs ys) {s : Shared} (e : s.heap = h) : s.TypeIs (.ref z) "zip" := by
  subst e
  rcases zs.st with ⟨hz, _⟩ | ⟨_, _, _, hz, _⟩
  · exact ⟨_, hz, rfl⟩
  · exact ⟨_, hz, rfl⟩
theorem zip_extend (hh : A.handled = none) (D : ZipApart z TI TO i1 i2 l1 l2) (lt : z < S ∧ TI < S ∧ TO < S ∧ i1 < S ∧ i2 < S ∧ l1 < S ∧ l2 < S) (he : xs.size = ys.size) (hn : xs.size ≤ sizeLine) (res : Value) (c0 : Nat)
    (hz : PySem.IsZip s.heap z TI TO .none) (zs : Zst s.heap z TI TO i1 i2 l1 l2 S 0 xs ys) (hS : s.heap.get? S = some { cls := .type "list", data := .seq #[] c0 })
    (hR : ∀ g tk acc c as, (∀ b u, b ≠ S → b ≠ z → b ≠ TO → b ≠ i1 → b ≠ i2 → s.heap.get? b = some u → g.get? b = some u) → Lst g S acc c → as.length = xs.size → Prs xs ys S g as → acc.toList = as.map Value.ref → R (.ok (.ret res)) { s with heap := g, toks := tk }) :
    wpAny (model prog w) A.in1 (Builtin.List.listExtendWith (.ref S) (.ref z) res) (fun fin s' => match fin with | .done f => R (.ok f) s' | .again c' => c'.quiet = true ∧ codeAny (model prog w) A c' R s') (fun e s' => R (.error e) s') s := by
  have key : ∀ (h : Heap) (c1 tk : Nat), (∀ b u, b ≠ S → s.heap.get? b = some u → h.get? b = some u) → h.get? S = some { cls := .type "list", data := .seq #[] c1 } → codeAny (model prog w) A (.builtin "list.extend.loop" ⟨[.ref S, .ref z, res], []⟩) R { s with heap := h, toks := tk } := fun h c1 tk hk h1 =>
    zip_loop (s := s) (h1 := s.heap) hh D lt he hn res hR xs.size 0 h tk c1 #[] [] (Nat.sub_zero _) (Nat.zero_le _) (zs.up lt hk) (fun b u b1 _ _ _ _ e => hk b u b1 e) h1 rfl rfl ⟨List.Pairwise.nil, (fun _ ha => nomatch ha), (fun j a hj => by simp at hj)⟩
  unfold Builtin.List.listExtendWith
  refine wpAny_bind (wpAny_typeOf (T := "zip") (zs.ty rfl) ?_)
  have g1 : Builtin.List.listSameRef (.ref S) (.ref z) = false := by simp [Builtin.List.listSameRef, Nat.ne_of_gt lt.1]
  have g2 : (Value.type "zip" == Value.type "list") = false := by decide
  have g3 : (Value.type "zip" == Value.type "tuple") = false := by decide
  simp only [g1, g2, g3, Bool.or_false, Bool.false_eq_true, if_false]
  refine wpAny_bind (wpAny_pyIter_zip hz ?_); refine wpAny_bind (wpAny_holding ?_); unfold Builtin.List.listLengthHint
  refine wpAny_bind (wpAny_specialOf (zs.ty rfl) zip_len ?_)
  show wpAny _ A.in1 (specialOf (Value.ref z) (Str.ofString "__length_hint__") >>= _) _ _ _
  refine wpAny_bind (wpAny_specialOf (zs.ty rfl) zip_hint ?_); refine wpAny_pure ?_
  show wpAny _ A.in1 (rule "list.extend.makes-room" >>= fun _ => Builtin.List.listTouch (.ref S) >>= fun _ => again (.builtin "list.extend.loop" ⟨[.ref S, .ref z, res], []⟩)) _ _ _
  refine wpAny_bind (wpAny_rule ?_); refine wpAny_bind ?_
  show wpAny _ A.in1 (updateSeq S (·.push .none) >>= fun _ => updateSeq S (·.pop)) _ _ _
  refine wpAny_bind (wpAny_updateSeq hS rfl ?_)
  have q2 := Heap.get?_update_self (Obj.mapSeq (·.push Value.none)) hS rfl
  refine wpAny_updateSeq (hz := by seq_fits) q2 rfl ?_
  have q3 := Heap.get?_update_self (Obj.mapSeq (·.pop)) q2 rfl
  refine wpAny_pure ⟨plainId_quiet PySem.F.plain_extend_loop _, key _ _ _ (fun b u hb e => ?_) q3⟩
  exact (Heap.get?_update_other _ _ (Ne.symm hb)).trans ((Heap.get?_update_other _ _ (Ne.symm hb)).trans e)
theorem zip_init (hh : A.handled = none) (D : ZipApart z TI TO i1 i2 l1 l2) (lt : z < S ∧ TI < S ∧ TO < S ∧ i1 < S ∧ i2 < S ∧ l1 < S ∧ l2 < S) (he : xs.size = ys.size) (hn : xs.size ≤ sizeLine)
    (hz : PySem.IsZip s.heap z TI TO .none) (zs : Zst s.heap z TI TO i1 i2 l1 l2 S 0 xs ys) (hS : s.heap.get? S = some { cls := .type "list", data := .seq #[] })
    (hR : ∀ g tk acc c as, (∀ b u, b ≠ S → b ≠ z → b ≠ TO → b ≠ i1 → b ≠ i2 → s.heap.get? b = some u → g.get? b = some u) → Lst g S acc c → as.length = xs.size → Prs xs ys S g as → acc.toList = as.map Value.ref → R (.ok (.ret .none)) { s with heap := g, toks := tk }) :
    wpAny (model prog w) A.in1 (Builtin.«list.__init__» ⟨[.ref S, .ref z], []⟩) (fun fin s' => match fin with | .done f => R (.ok f) s' | .again c' => c'.quiet = true ∧ codeAny (model prog w) A c' R s') (fun e s' => R (.error e) s') s := by
  show wpAny _ _ (do let old ← Builtin.List.listItems (.ref S); Builtin.List.listUpdate (.ref S) (fun _ => #[]); letGo old.toList.reverse; Builtin.List.listExtendWith (.ref S) (.ref z) .none) _ _ s
  refine wpAny_bind ?_; unfold Builtin.List.listItems; refine wpAny_bind (wpAny_seqItems hS rfl (wpAny_pure ?_))
  show wpAny _ _ (updateSeq S (fun _ => #[]) >>= fun _ => letGo (#[] : Array Value).toList.reverse >>= fun _ => Builtin.List.listExtendWith (.ref S) (.ref z) .none) _ _ s
  refine wpAny_bind (wpAny_updateSeq hS rfl ?_)
  have q2 := Heap.get?_update_self (Obj.mapSeq (fun _ => (#[] : Array Value))) hS rfl
  have oth : ∀ b u, b ≠ S → s.heap.get? b = some u → (s.heap.update S (Obj.mapSeq (fun _ => (#[] : Array Value)))).get? b = some u := fun b u hb e => (Heap.get?_update_other _ _ (Ne.symm hb)).trans e
  refine wpAny_bind (wpAny_letGo ?_)
  exact zip_extend hh D lt he hn .none _ (oth _ _ (Nat.ne_of_lt lt.1) hz) (zs.up lt oth) q2 fun g tk acc c as hk => hR g tk acc c as fun b u b1 b2 b3 b4 b5 e => hk b u b1 b2 b3 b4 b5 (oth b u b1 e)
theorem zip_call {E : Value → Shared → Prop} {Q : Value → Shared → Prop} (hh : A.handled = none) (D : ZipApart z TI TO i1 i2 l1 l2) (lt : z < s.heap.objs.size ∧ TI < s.heap.objs.size ∧ TO < s.heap.objs.size ∧ i1 < s.heap.objs.size ∧ i2 < s.heap.objs.size ∧ l1 < s.heap.objs.size ∧ l2 < s.heap.objs.size) (he : xs.size = ys.size) (hn : xs.size ≤ sizeLine)
    (hz : PySem.IsZip s.heap z TI TO .none) (hTO : PySem.IsPair s.heap TO .none .none) (on : On s.heap z TI i1 i2 l1 l2 0 0 xs ys)
    (hQ : ∀ g tk acc c as, (∀ b u, b ≠ z → b ≠ TO → b ≠ i1 → b ≠ i2 → s.heap.get? b = some u → g.get? b = some u) → Lst g s.heap.objs.size acc c → as.length = xs.size → Prs xs ys s.heap.objs.size g as → acc.toList = as.map Value.ref → Q (.ref s.heap.objs.size) { s with heap := g, toks := tk }) :
    wpAny (model prog w) A (call (.type "list") [.ref z]) Q E s := by
  refine callType_codes (Q₁ := fun obj u => obj = .ref s.heap.objs.size ∧ u = { s with heap := s.heap.push { cls := .type "list", data := .seq #[] } }) PySem.F.called_list (PySem.F.typeCall_list_1 _) PySem.F.entry_list_init (code_list_new _ ⟨rfl, rfl⟩) fun obj u hu => ?_
  obtain ⟨rfl, rfl⟩ := hu
  have hS : (s.heap.push { cls := .type "list", data := .seq #[] }).get? s.heap.objs.size = some { cls := .type "list", data := .seq #[] } := Heap.get?_push_size _ rfl
  have up : ∀ b u, s.heap.get? b = some u → (s.heap.push { cls := .type "list", data := .seq #[] }).get? b = some u := fun b u e => Heap.get?_push_of_some _ e
  have zs : Zst (s.heap.push { cls := .type "list", data := .seq #[] }) z TI TO i1 i2 l1 l2 s.heap.objs.size 0 xs ys :=
    ⟨⟨up _ _ on.tI, on.a.at fun u e => up _ u e, on.b.at fun u e => up _ u e, (let ⟨u, e, q⟩ := on.la; ⟨u, up _ _ e, q⟩), (let ⟨u, e, q⟩ := on.lb; ⟨u, up _ _ e, q⟩)⟩, .inl ⟨up _ _ hz, up _ _ hTO⟩⟩
  refine ⟨⟨_, hS, rfl⟩, PySem.F.args_list_init_2 _ _, zip_init (A := A.in1) hh D lt he hn (up _ _ hz) zs hS fun g tk acc c as hk hL hl hP hacc => ?_⟩
  exact ⟨rfl, hQ g tk acc c as (fun b u b2 b3 b4 b5 e => hk b u (Nat.ne_of_lt (Heap.lt_size e)) b2 b3 b4 b5 (up b u e)) hL hl hP hacc⟩
end
end MPZ

set_option Elab.async false
set_option linter.all false
set_option maxRecDepth 100000
set_option maxHeartbeats 4000000
/-! list(zip(x, y)) of two tuples, as a rule over the data -/
namespace MP
open PySem PySem.Spec PyProof.Rows L2
def updP (H : Hp) : List Addr → List (List V) → Hp
  | a :: as, p :: ps => updP (upd H a (.tup p)) as ps
  | _, _ => H
theorem Un.more {fs ex : List Addr} {H H1 : Hp} {h h' : Heap} {a : Addr} {o : HO} (u : Un fs ex H H1 h h') (hp : h.objs.size ≤ a) (hn : H1 a = none) : Un fs ex H (upd H1 a o) h h' where
  keep := u.keep
  slot := u.slot
  free := fun b ob q n hx => by rw [upd_ne (Nat.ne_of_lt (Nat.lt_of_lt_of_le (Heap.lt_size q) hp))]; exact u.free b ob q n hx
  there := u.there
  tups := fun b xs q => by rw [upd_ne (ne_of_none (u.tups b xs q) hn)]; exact u.tups b xs q
  frzs := fun b ob xs q => by rw [upd_ne (ne_of_none (u.frzs b ob xs q) hn)]; exact u.frzs b ob xs q
  tbls := fun b ps q => by
    obtain ⟨m, e⟩ := u.tbls b ps q
    exact ⟨m, by rw [upd_ne (ne_of_none e hn)]; exact e⟩
theorem HOk.more {P : Program} {w : World} {H : Hp} {h : Heap} {a : Addr} {o : HO} (x : HOk P w H h) (hn : H a = none) (new : ObjOk P w (upd H a o) h a o) : HOk P w (upd H a o) h := fun b u e => by
  by_cases hb : b = a
  · subst hb
    rw [upd_same] at e
    cases e
    exact new
  · rw [upd_ne hb] at e
    exact (x b u e).stay (fun _ _ _ q => q) (fun c q => (upd_ne (ne_of_none q hn)).trans q) fun c ps q => (upd_ne (ne_of_none q hn)).trans q
/-- new tuples are laid, one after another -/
theorem lays {P : Program} {w : World} {fs ex : List Addr} {h h' : Heap} {H : Hp} : ∀ {as : List Addr} {ps : List (List V)} {H1 : Hp}, Un fs ex H H1 h h' → HOk P w H1 h' → as.length = ps.length → (∀ a ∈ as, h.objs.size ≤ a ∧ H1 a = none) → as.Pairwise (· < ·) →
    (∀ (j : Nat) (a : Addr) (p : List V), as[j]? = some a → ps[j]? = some p → ObjOk P w H1 h' a (.tup p)) → Un fs ex H (updP H1 as ps) h h' ∧ HOk P w (updP H1 as ps) h' ∧ ∀ b, b ∉ as → updP H1 as ps b = H1 b
  | [], _, H1, u, k, _, _, _, _ => ⟨u, k, fun _ _ => rfl⟩
  | a :: as, [], H1, u, k, hl, _, _, _ => by cases hl
  | a :: as, p :: ps, H1, u, k, hl, hn, hw, ho => by
    obtain ⟨w1, w2⟩ := List.pairwise_cons.mp hw
    have ha := hn a List.mem_cons_self
    have o1 : ObjOk P w (upd H1 a (.tup p)) h' a (.tup p) := ho 0 a p rfl rfl
    have k1 : HOk P w (upd H1 a (.tup p)) h' := HOk.more k ha.2 o1
    obtain ⟨q1, q2, q3⟩ := lays (as := as) (ps := ps) (Un.more u ha.1 ha.2) k1 (Nat.succ.inj hl) (fun b hb => ⟨(hn b (List.mem_cons_of_mem _ hb)).1, by rw [upd_ne (Nat.ne_of_gt (w1 b hb))]; exact (hn b (List.mem_cons_of_mem _ hb)).2⟩) w2
      fun j b r e1 e2 => ho (j + 1) b r e1 e2
    refine ⟨q1, q2, fun b hb => ?_⟩
    show updP (upd H1 a (.tup p)) as ps b = H1 b
    rw [q3 b fun z => hb (List.mem_cons_of_mem _ z)]
    exact upd_ne fun z => hb (z ▸ List.mem_cons_self)
def prs : List V → List V → List (List V)
  | a :: r, b :: t => [a, b] :: prs r t
  | _, _ => []
theorem prs_len : ∀ {xs ys : List V}, xs.length = ys.length → (prs xs ys).length = xs.length
  | [], [], _ => rfl
  | a :: r, b :: t, h => by show (prs r t).length + 1 = _; rw [prs_len (Nat.succ.inj h)]; rfl
theorem prs_get : ∀ {xs ys : List V} {j : Nat} {p : List V}, (prs xs ys)[j]? = some p → ∃ x y, xs[j]? = some x ∧ ys[j]? = some y ∧ p = [x, y]
  | [], _, j, _, h => by simp [prs] at h
  | _ :: _, [], j, _, h => by simp [prs] at h
  | a :: r, b :: t, 0, _, h => by cases h; exact ⟨a, b, rfl, rfl, rfl⟩
  | a :: r, b :: t, j + 1, _, h => prs_get (xs := r) (ys := t) (j := j) h
def tLZ (K : PySem.W.Frag) (t : TA) : TE := fun σ H Q => t σ H fun vs H1 => ∃ (a b : Addr) (xs ys : List V), vs = [V.ref a, V.ref b] ∧ SqT K H1 a xs ∧ SqT K H1 b ys ∧ xs.length = ys.length ∧
  ∀ (as : List Addr) (S : Addr), as.length = xs.length → as.Pairwise (· < ·) → (∀ c ∈ as, H1 c = none ∧ S < c) → H1 S = none → Q (.ref S) (upd (updP H1 as (prs xs ys)) S (.lst (as.map V.ref)))
section
variable {X : Cx} {t : TA} {e : Expr} {es : List Expr} {p p2 pos pos2 : Pos}
theorem vals_refs : ∀ as : List Addr, Vals (as.map V.ref) (as.map Value.ref)
  | [] => .nil
  | a :: as => .cons rfl (vals_refs as)
theorem apart {N a b : Nat} (ha : a < N) (hb : b < N) : ZipApart (N + 4) (N + 2) (N + 3) N (N + 1) a b := by
  constructor <;> (intro z; have z' : (_ : Nat) = (_ : Nat) := z; omega)
theorem pe_listZip (hc : X.calm = true) (hg : Gl X "list") (hm : X.mg "list" = none) (hg2 : Gl X "zip") (hm2 : X.mg "zip" = none) (ha : PA X (e :: es) t)
    (he : starEach (e :: es) X.env = (false, eval e X.env) :: starEach es X.env := by rfl) (hpl : (backTo pos2 (starEach es X.env)).any (·.1) = false := by rfl)
    (he' : starEach [.Call (.Name "zip" p2) (e :: es) [] pos2] X.env = (false, eval (.Call (.Name "zip" p2) (e :: es) [] pos2) X.env) :: starEach [] X.env := by rfl) (hpl' : (backTo pos (starEach [] X.env)).any (·.1) = false := by rfl) :
    PE X (.Call (.Name "list" p) [.Call (.Name "zip" p2) (e :: es) [] pos2] [] pos) (tLZ X.K t) := by
  refine ⟨fun pins s σ H Q I h => ?_⟩
  refine wpAny_Call_Name_kw (ld_blt I hg hm (u := .type "list") (by decide +kernel) ?_ (by decide) (by decide))
  refine callWith_type1 ?_ he' hpl'
  rw [he']
  refine Calls.spliced_cons ?_
  refine wpAny_Call_Name_kw (ld_blt I hg2 hm2 (u := .type "zip") (by decide +kernel) ?_ (by decide) (by decide))
  refine callWith_type1 (thn (ha.run pos2 pins s σ H _ I h) fun us s1 ⟨vs, H1, I1, r1, q1⟩ => ?_) he hpl
  obtain ⟨a, b, xs, ys, rfl, hx, hy, hl, q⟩ := q1
  obtain ⟨u1, u2, rfl, e1, e2⟩ := vals2 r1
  obtain rfl : u1 = Value.ref a := e1
  obtain rfl : u2 = Value.ref b := e2
  obtain ⟨its, rx, px, zx⟩ := I1.tuple hx
  obtain ⟨jts, ry, py, zy⟩ := I1.tuple hy
  have la : a < s1.heap.objs.size := px.lt
  have lb : b < s1.heap.objs.size := py.lt
  refine RZ.call_zipT (xs := its.toArray) (ys := jts.toArray) px py fun g z1 z2 z3 z4 z5 z6 z7 => ?_
  refine Calls.spliced_nil ?_
  have l1 := rx.length
  have l2 := ry.length
  have D : ZipApart (s1.heap.objs.size + 4) (s1.heap.objs.size + 2) (s1.heap.objs.size + 3) s1.heap.objs.size (s1.heap.objs.size + 1) a b := apart la lb
  have hg6 : ∀ k, k < 5 → s1.heap.objs.size + k < g.objs.size := fun k hk => by rw [z6]; omega
  refine MPZ.zip_call (s := { s1 with heap := g }) (xs := its.toArray) (ys := jts.toArray) (I1.ok.hd hc) D ⟨hg6 4 (by omega), hg6 2 (by omega), hg6 3 (by omega), hg6 0 (by omega), hg6 1 (by omega), Nat.lt_trans la (hg6 0 (by omega)), Nat.lt_trans lb (hg6 0 (by omega))⟩
    (by rw [List.size_toArray, List.size_toArray]; omega) (by rw [List.size_toArray]; omega) z1 z3 ⟨z2, z4, z5, (let ⟨o, e, w⟩ := px; ⟨o, z7 _ _ e, w⟩), (let ⟨o, e, w⟩ := py; ⟨o, z7 _ _ e, w⟩)⟩ fun h' tk acc c as hk hL hal hP hacc => ?_
  dsimp only at hk hL hP ⊢
  rw [List.size_toArray] at hal
  have keep : ∀ b u, s1.heap.get? b = some u → h'.get? b = some u := fun b u e => by
    have hb : (b : Nat) < s1.heap.objs.size := Heap.lt_size e
    exact hk b u (Nat.ne_of_lt (Nat.lt_of_lt_of_le hb (Nat.le_add_right _ _))) (Nat.ne_of_lt (Nat.lt_of_lt_of_le hb (Nat.le_add_right _ _))) (Nat.ne_of_lt hb) (Nat.ne_of_lt (Nat.lt_of_lt_of_le hb (Nat.le_add_right _ _))) (z7 b u e)
  have sS : s1.heap.objs.size ≤ g.objs.size := by rw [z6]; omega
  have fr : ∀ c ∈ as, s1.heap.objs.size ≤ c ∧ H1 c = none := fun c hc => by
    have := hP.over c hc
    have hle : s1.heap.objs.size ≤ c := Nat.le_trans sS (Nat.le_of_lt this)
    exact ⟨hle, I1.hok.fresh hle⟩
  have hpl2 : as.length = (prs xs ys).length := by rw [prs_len hl]; omega
  obtain ⟨U, K, O⟩ := lays (P := X.prog) (w := X.w) (fs := X.fs) (ex := []) (H := H1) (as := as) (ps := prs xs ys) (Un.kept keep) (I1.hok.kept keep) hpl2 fr hP.rise fun j a' p' g1 g2 => by
    obtain ⟨x, y, f1, f2, f3⟩ := hP.pair j a' g1
    obtain ⟨vx, vy, v1, v2, rfl⟩ := prs_get g2
    obtain ⟨ux, w1, w2⟩ := rx.get v1
    obtain ⟨uy, w3, w4⟩ := ry.get v2
    have ex : x = ux := by
      have : its[j]? = some x := by simpa using f1
      rw [w1] at this; cases this; rfl
    have ey : y = uy := by
      have : jts[j]? = some y := by simpa using f2
      rw [w3] at this; cases this; rfl
    subst ex ey
    exact ⟨by show 2 ≤ sizeLine; rw [sizeLine_eq]; decide, [x, y], .cons w2 (.cons w4 .nil), ⟨_, f3, rfl, _, rfl⟩⟩
  have nS : H1 g.objs.size = none := I1.hok.fresh sS
  have hS : g.objs.size ∉ as := fun z => Nat.lt_irrefl _ (hP.over _ z)
  have nS2 : updP H1 as (prs xs ys) g.objs.size = none := by rw [O _ hS]; exact nS
  have oS : ObjOk X.prog X.w (upd (updP H1 as (prs xs ys)) g.objs.size (.lst (as.map V.ref))) h' g.objs.size (.lst (as.map V.ref)) := by
    refine ⟨by rw [List.length_map]; omega, as.map Value.ref, c, vals_refs as, ?_⟩
    have : acc = (as.map Value.ref).toArray := by rw [← hacc]
    rw [← this]
    exact hL
  refine ⟨.ref g.objs.size, _, I1.un (t' := tk) (Un.more U sS nS2) (HOk.more K nS2 oS), rfl, ?_⟩
  exact q as g.objs.size (by omega) hP.rise (fun c hc => ⟨(fr c hc).2, hP.over c hc⟩) nS
end
theorem updP_ne {b : Addr} : ∀ {as : List Addr} {ps : List (List V)} {H : Hp}, b ∉ as → updP H as ps b = H b
  | [], ps, H, _ => rfl
  | _ :: _, [], H, _ => rfl
  | a :: as, p :: ps, H, h => by
    show updP (upd H a (.tup p)) as ps b = _
    rw [updP_ne fun z => h (List.mem_cons_of_mem _ z)]
    exact upd_ne fun z => h (z ▸ List.mem_cons_self)
section
variable {Γ : Ct} {μ : Mu} {Z : Zs} {s : Sto}
theorem lays_rv : ∀ {ws us : List Dv} {xs ys : List V} {as : List Addr} {H : Hp}, Rep Γ H μ Z s → RVs Γ H μ Z ws xs → RVs Γ H μ Z us ys → ws.length = us.length → as.length = ws.length → (∀ c ∈ as, H c = none) → as.Pairwise (· < ·) →
    Evo H μ (updP H as (prs xs ys)) μ ∧ Rep Γ (updP H as (prs xs ys)) μ Z s ∧ RVs Γ (updP H as (prs xs ys)) μ Z (zipD ws us) (as.map V.ref)
  | [], us, xs, ys, as, H, R, r, r2, hl, ha, hn, hw => by
    cases as with
    | cons _ _ => cases ha
    | nil =>
      have : updP H [] (prs xs ys) = H := by unfold updP; rfl
      rw [this]
      exact ⟨.refl, R, by show RVs Γ H μ Z [] []; exact RVs.nil⟩
  | w :: ws, [], xs, ys, as, H, R, r, r2, hl, ha, hn, hw => by cases hl
  | w :: ws, u :: us, xs, ys, as, H, R, r, r2, hl, ha, hn, hw => by
    cases as with
    | nil => cases ha
    | cons a as =>
      obtain ⟨x, xs, rfl, rx, r⟩ := r
      obtain ⟨y, ys, rfl, ry, r2⟩ := r2
      obtain ⟨w1, w2⟩ := List.pairwise_cons.mp hw
      have na := hn a List.mem_cons_self
      have e1 : Evo H μ (upd H a (.tup [x, y])) μ := Evo.laid na
      have q1 := new_tup R na (RVs.cons rx (RVs.cons ry RVs.nil))
      obtain ⟨e2, R2, r3⟩ := lays_rv (ws := ws) (us := us) (xs := xs) (ys := ys) (as := as) (R.laid (o := .tup [x, y]) na) (RVs.mono e1 ws r) (RVs.mono e1 us r2) (Nat.succ.inj hl) (Nat.succ.inj ha)
        (fun c hc => by rw [upd_ne (Nat.ne_of_gt (w1 c hc))]; exact hn c (List.mem_cons_of_mem _ hc)) w2
      exact ⟨e1.trans e2, R2, RVs.cons (RV.mono e2 (.tup [w, u]) q1) r3⟩
end
def listZipD : ON := fun _ xs => match xs with
  | [.tup a, .tup b] => if a.length = b.length then some (.lst (zipD a b)) else none
  | _ => none
section
variable {X : Cx} {Γ : Ct} {W : WX}
theorem me_listZip {e : Expr} {es : List Expr} {fa : FA} {p p2 pos pos2 : Pos} (hK : Γ.K = X.K) (hc : X.calm = true) (hg : Gl X "list") (hm : X.mg "list" = none) (hg2 : Gl X "zip") (hm2 : X.mg "zip" = none) (ha : MA X Γ W (e :: es) fa)
    (he : starEach (e :: es) X.env = (false, eval e X.env) :: starEach es X.env := by rfl) (hpl : (backTo pos2 (starEach es X.env)).any (·.1) = false := by rfl)
    (he' : starEach [.Call (.Name "zip" p2) (e :: es) [] pos2] X.env = (false, eval (.Call (.Name "zip" p2) (e :: es) [] pos2) X.env) :: starEach [] X.env := by rfl) (hpl' : (backTo pos (starEach [] X.env)).any (·.1) = false := by rfl) :
    ME X Γ W (.Call (.Name "list" p) [.Call (.Name "zip" p2) (e :: es) [] pos2] [] pos) (mBlt listZipD fa) :=
  PE.imp (pe_listZip hc hg hm hg2 hm2 ha he hpl he' hpl') fun σ H Q ⟨μ, Z, ρ, s, hE, hR, q⟩ => by
    refine aE hE hR q fun ws s1 vs H1 μ1 e1 E1 R1 r1 q1 => ?_
    obtain ⟨w, hw, k⟩ := ofE q1
    unfold listZipD at hw
    split at hw
    · rename_i a b
      split at hw
      · rename_i hl
        cases hw
        obtain ⟨v1, vs, rfl, ra, r2⟩ := r1
        obtain ⟨v2, vs, rfl, rb, r3⟩ := r2
        cases r3
        obtain ⟨pa, xs, rfl, ha1, ha2⟩ := ra
        obtain ⟨pb, ys, rfl, hb1, hb2⟩ := rb
        have l1 := RVs.len ha2
        have l2 := RVs.len hb2
        refine ⟨pa, pb, xs, ys, rfl, hK ▸ ha1.sq, hK ▸ hb1.sq, by omega, fun as S hal hw hn nS => ?_⟩
        obtain ⟨e2, R2, r4⟩ := lays_rv (as := as) R1 ha2 hb2 hl (by omega) (fun c hc => (hn c hc).1) hw
        have nS2 : updP H1 as (prs xs ys) S = none := by rw [updP_ne fun z => Nat.lt_irrefl _ (hn S z).2]; exact nS
        exact k _ _ (e2.trans (Evo.laid nS2)) (R2.laid nS2) (new_lst R2 nS2 r4)
      · cases hw
    · cases hw
end
end MP

set_option Elab.async false
set_option linter.all false
set_option maxRecDepth 100000
set_option maxHeartbeats 4000000
/-! exceptions held as values: isinstance, their field -/
namespace MP
open PySem PySem.Spec PyProof.Rows L2
section
variable {X : Cx} {a C dx : Addr} {H : Hp}
theorem exK_at {P : Program} {w : World} {h : Heap} (ok : HOk P w H h) (e : H a = some (ExK a C dx)) : ∃ oe vs, h.get? a = some oe ∧ oe.cls = .ref C ∧ oe.dict = some dx ∧ oe.data = .fields vs := by
  obtain ⟨⟨oe, vs, h1, h2, h3⟩, _⟩ := ok a _ e
  exact ⟨oe, vs, h1, h2.1, h2.2, h3⟩
theorem exK_inst {P : Program} {w : World} {h : Heap} {fs : List (Str × V)} (ok : HOk P w H h) (e : H a = some (ExK a C dx)) (ed : H dx = some (.xd fs)) : ∃ (oe od : Obj) (mA : Str → Option Value), PySem.W.InstAt h a oe C (some od) ∧ (∀ y, PySem.W.lookIn y od = some (mA y)) ∧ ∀ f, RelO (fs.lookup f) (mA f) := by
  obtain ⟨oe, vs, h1, h2, h3, h4⟩ := exK_at ok e
  obtain ⟨mA, hns, hr⟩ := (show ObjOk P w H h dx (.xd fs) from ok dx _ ed)
  obtain ⟨od, ho, hl⟩ := lookIn_ns hns
  obtain ⟨oc, od', oda, osl⟩ := oe
  dsimp only at h2 h3 h4
  subst h2 h3 h4
  exact ⟨_, od, mA, ⟨h1, rfl, rfl, ho⟩, hl, hr⟩
/-- a held exception: of an own class with a field, or a bare one -/
def Held (H : Hp) (a C : Addr) : Prop := (∃ dx fs, H a = some (ExK a C dx) ∧ H dx = some (.xd fs)) ∨ H a = some (ExO (.ref C) a)
theorem held_inst {P : Program} {w : World} {h : Heap} (ok : HOk P w H h) (e : Held H a C) : ∃ oe od, PySem.W.InstAt h a oe C od := by
  rcases e with ⟨dx, fs, e, ed⟩ | e
  · obtain ⟨oe, od, _, q, _⟩ := exK_inst ok e ed
    exact ⟨oe, _, q⟩
  · obtain ⟨⟨oe, vs, h1, h2, h3, _⟩, _⟩ := ok a _ e
    obtain ⟨oc, od, oda, osl⟩ := oe
    obtain ⟨h2, h4⟩ := h2
    dsimp only at h2 h3 h4
    subst h2 h3 h4
    exact ⟨_, none, h1, rfl, rfl, trivial⟩
def rIsK (K : PySem.W.Frag) : List V → Hp → VK → Prop := fun xs H Q => ∃ (a C : Addr) (c : V) (u : Value) (b : Bool), xs = [.ref a, c] ∧ Held H a C ∧ ExcC K C ∧ ClsV c u ∧ PySem.W.kitOne K (.ref C) u = some b ∧ Q (.bl b) H
theorem call_isK : CallR X (.builtin "isinstance") (rIsK X.K) := by
  intro pins s σ H xs us Q I r h
  obtain ⟨a, C, c, u, b, rfl, e, T, k, hk, q⟩ := h
  obtain ⟨u1, u2, rfl, r1, r2⟩ := vals2 r
  have e2 := k.eq r2
  subst e2
  obtain rfl : u1 = Value.ref a := r1
  obtain ⟨oe, od, J⟩ := held_inst I.hok e
  exact PySem.W.kia_one (PySem.W.kitx_exc (gt := none) (by obtain ⟨cd, hc, _⟩ := PySem.W.any_some T.hd; rw [hc]; rfl) T.hg T.hk T.hs T.ha T.hn T.ht T.hm) I.kIn J hk (fun z => nomatch z) fun tk => ⟨.bl b, H, I.tok tk, rfl, q⟩
/-- e.f of a held exception -/
def tXk (K : PySem.W.Frag) (f : Str) (te : TE) : TE := fun σ H Q => te σ H fun x H1 => ∃ (a C dx : Addr) (fs : List (Str × V)) (v : V), x = .ref a ∧ H1 a = some (ExK a C dx) ∧ H1 dx = some (.xd fs) ∧ fs.lookup f = some v ∧ XfC K C ∧ PySem.W.findIn K (.ref C) f = some none ∧ Q v H1
theorem pe_xk {e : Expr} {te : TE} {pos : Pos} {n : Str} (he : PE X e te) (hb : attributeBase e n X.env (eval e X.env) = eval e X.env := by rfl) : PE X (.Attribute e n pos) (tXk X.K n te) := by
  refine ⟨fun pins s σ H Q I h => ?_⟩
  refine attr_of hb (thn (he.run pins s σ H _ I h) fun u s1 ⟨x, H1, I1, rx, a, C, dx, fs, v, ex, ea, ed, l, T, hno, q⟩ => ?_)
  subst ex
  obtain rfl : u = Value.ref a := rx
  obtain ⟨oe, od, mA, J, hl, hr⟩ := exK_inst I1.hok ea ed
  obtain ⟨u, hu, ru⟩ := RelO.some_of (v := v) (o := mA n) (by rw [← l]; exact hr n)
  exact HandSPX.exc_get I1.kIn J T.ga T.gg T.exC (PySem.W.findObj_own T.hdC hno rfl (by rw [hl, hu])) (handed_of ru) ⟨v, H1, I1.tok _, ru, q⟩
end
/-! ### over the data: class 0 stands over 1 to 7, over ValueError; class 8 over LookupError -/
def under (c j : Nat) : Bool := decide (c = j) || (decide (j = 0) && decide (c ≤ 7))
def underT (c : Nat) (n : String) : Option Bool := if n = "ValueError" then some (decide (c ≤ 7)) else if n = "LookupError" then some (decide (c = 8)) else none
/-- what is known of the classes -/
structure XcI (Γ : Ct) : Prop where
  is : ∀ c, c < 9 → ExcC Γ.K (Γ.cls c)
  own : ∀ c j, c < 9 → j < 9 → PySem.W.kitOne Γ.K (.ref (Γ.cls c)) (.ref (Γ.cls j)) = some (under c j)
  bas : ∀ c n b, c < 9 → underT c n = some b → PySem.W.kitOne Γ.K (.ref (Γ.cls c)) (.type n) = some b
def exCls : Dv → Option Nat
  | .exc c _ _ => if c < 9 then some c else none
  | .exn c => if c < 9 then some c else none
  | _ => none
def isxD : ON := fun _ xs => match xs with
  | [x, .cl j] => match exCls x with
    | some c => if j < 9 then some (.bl (under c j)) else none
    | none => none
  | [x, .ty n] => match exCls x with
    | some c => (underT c n).map .bl
    | none => none
  | _ => none
section
variable {X : Cx} {Γ : Ct}
theorem held_of {H : Hp} {μ : Mu} {Z : Zs} {x : Dv} {v : V} {c : Nat} (r : RV Γ H μ Z x v) (e : exCls x = some c) : ∃ a, v = .ref a ∧ Held H a (Γ.cls c) ∧ c < 9 := by
  cases x with
  | exc c' f w =>
    unfold exCls at e
    dsimp only at e
    split at e
    · rename_i hc
      cases e
      obtain ⟨a, dx, y, h1, h2, _, h4, _⟩ := r
      exact ⟨a, h1, .inl ⟨dx, _, h2, h4⟩, hc⟩
    · cases e
  | exn c' =>
    unfold exCls at e
    dsimp only at e
    split at e
    · rename_i hc
      cases e
      obtain ⟨a, h1, h2, _⟩ := r
      exact ⟨a, h1, .inr h2, hc⟩
    · cases e
  | _ => cases e
theorem sIsK (hK : Γ.K = X.K) (T : XcI Γ) : OpN Γ (rIsK X.K) isxD := fun H μ Z s xs w vs Q hR rx e k => by
  rw [← hK]
  unfold isxD at e
  split at e
  · rename_i x j
    split at e
    · rename_i c qc
      split at e
      · rename_i hj
        cases e
        obtain ⟨v, u, rfl, r1, r2⟩ := two rx
        obtain ⟨a, rfl, hh, hc⟩ := held_of r1 qc
        exact ⟨a, _, u, .ref (Γ.cls j), _, rfl, hh, T.is c hc, by rw [show u = _ from r2]; exact .own _, T.own c j hc hj, k _ H .refl hR rfl⟩
      · cases e
    · cases e
  · rename_i x n
    split at e
    · rename_i c qc
      cases q2 : underT c n with
      | none => rw [q2] at e; cases e
      | some b =>
        rw [q2] at e
        cases e
        obtain ⟨v, u, rfl, r1, r2⟩ := two rx
        obtain ⟨a, rfl, hh, hc⟩ := held_of r1 qc
        exact ⟨a, _, u, .type n, b, rfl, hh, T.is c hc, by rw [show u = _ from r2]; exact .ty n, T.bas c n b hc q2, k _ H .refl hR rfl⟩
    · cases e
  · cases e
/-- isinstance, of data and of exceptions -/
def isiA : ON := fun s xs => match isiD s xs with
  | some w => some w
  | none => isxD s xs
theorem cr_isiA : CallR X (.builtin "isinstance") (fun x H Q => rIsi X.K x H Q ∨ rIsK X.K x H Q) := CallR.or2 call_isi call_isK
theorem sIsiA (hK : Γ.K = X.K) (T : XcI Γ) : OpN Γ (fun x H Q => rIsi X.K x H Q ∨ rIsK X.K x H Q) isiA := OpN.or (sIsi hK) (sIsK hK T)
/-- e.f -/
def fldD (f : Str) : O1 := fun _ x => match x with
  | .exc c g w => if c < 9 ∧ f = g then some w else none
  | _ => none
structure XcF (Γ : Ct) (f : Str) : Prop where
  no : ∀ c, c < 9 → PySem.W.findIn Γ.K (.ref (Γ.cls c)) f = some none
theorem me_fld {W : WX} {e : Expr} {g : FE} {pos : Pos} {n : Str} (hK : Γ.K = X.K) (T : XcI Γ) (F : XcF Γ n) (he : ME X Γ W e g) (hb : attributeBase e n X.env (eval e X.env) = eval e X.env := by rfl) : ME X Γ W (.Attribute e n pos) (mUn (fldD n) g) :=
  PE.imp (pe_xk he hb) fun σ H Q ⟨μ, Z, ρ, s, hE, hR, q⟩ => eE hE hR q fun x s1 u H1 μ1 e1 hE1 R1 r1 q1 => by
    obtain ⟨w, hw, k⟩ := ofE q1
    unfold fldD at hw
    split at hw
    · rename_i c f' w'
      split at hw
      · rename_i hc
        cases hw
        obtain ⟨hc, rfl⟩ := hc
        obtain ⟨a, dx, y, rfl, h2, _, h4, _, h6⟩ := r1
        have t := T.is c hc
        exact ⟨a, Γ.cls c, dx, _, y, rfl, h2, h4, by simp [List.lookup], hK ▸ ⟨t.hg, t.hk, t.hs, t.hd⟩, hK ▸ F.no c hc, k _ H1 .refl R1 h6⟩
      · cases hw
    · cases hw
/-- a class by its name -/
theorem me_cls {W : WX} {x : Str} {pos : Pos} {j : Nat} (hg : Gl X x) (hm : X.mg x = some (.ref (Γ.cls j))) (hdb : (x == ("__debug__" : Str)) = false := by decide) : ME X Γ W (.Name x pos) (mK (.cl j)) := by
  refine ⟨fun pins s σ H Q I h => ?_⟩
  obtain ⟨μ, Z, ρ, st, hE, hR, q⟩ := h
  exact ld_glob I hg hm ⟨.ref (Γ.cls j), H, I.tok _, rfl, q _ H μ .refl hR rfl⟩ hdb
end
end MP

set_option Elab.async false
set_option linter.all false
set_option maxRecDepth 100000
set_option maxHeartbeats 4000000
/-! raise C(e), C an own class whose __init__ keeps one field -/
namespace MP
open PySem PySem.Spec PyProof.Rows L2
/-- what __init__ does -/
def spI (C : Addr) (f : Str) : Sp := fun vs H Q _ => ∃ (a : Addr) (v : V), vs = [.ref a, v] ∧ H a = some (exo a C none) ∧ ∀ dx, H dx = none → dx ≠ a → Q .non (upd (upd H dx (exd dx [(f, v)])) a (exo a C (some dx)))
theorem init_fn {CX : CXT} {P : Program} {w : World} {K : PySem.W.Frag} {mg : Str → Option Value} {base : Heap} {fI : Addr} {name qual f : Str} {params : Arguments} {scope : Scope} {dV kV doc pm cdv ct oc : Value} {an od : Option Addr} {osl : Array (Option Value)} {p1 p2 p3 p4 : Pos}
    (lk : K.lookup fI = some ⟨oc, od, .func (PySem.W.fnOf name qual params [.Assign [.Attribute (.Name "self" p1) f p2] (.Name f p3) p4] scope dV kV doc pm an cdv ct), osl⟩) (hcd : PySem.W.codeIn K cdv qual = true) (S : FnScope ["self", f] ["self", f] scope)
    {C : Addr} (t1 : OexC K C) (t2 : PySem.W.findIn K (.ref C) f = some none)
    (v0 : Vis scope "self") (v1 : Vis scope f) (d1 : (f == ("__debug__" : Str)) = false) (d2 : (f == ("__classdict__" : Str)) = false) : FnOk P w K mg base CX 1 fI (PySem.W.fnOf name qual params [.Assign [.Attribute (.Name "self" p1) f p2] (.Name f p3) p4] scope dV kV doc pm an cdv ct) ["self", f] (spI C f) :=
  fn_of (k := 0) lk hcd S (fun vs H Q E ⟨_, _, e, _⟩ => by rw [e]; rfl) fun A outer s H vs Q E hr ⟨a, v, ev, ea, q⟩ => by
    subst ev
    refine ⟨_, pss_one (ps_ost (pe_var (i := 0) rfl v0 (by decide) (by decide)) (pe_var (i := 1) rfl v1 d1 d2)), ?_⟩
    exact ⟨v, rfl, .ref a, rfl, a, C, rfl, t1, t2, .inl ⟨ea, fun dx hn hd => q dx hn hd⟩⟩
/-- what is known of an own class that is raised -/
structure XcR (P : Program) (w : World) (K : PySem.W.Frag) (mg : Str → Option Value) (base : Heap) (C : Addr) (x f : Str) : Prop where
  ox : OexC K C
  no : PySem.W.findIn K (.ref C) f = some none
  gC : mg x = some (.ref C)
  init : ∃ (fI : Addr) (fd : FuncData), PySem.W.findIn K (.ref C) "__init__" = some (some (.ref fI)) ∧ PySem.W.typeIn K (.ref fI) = some (.type "function") ∧ FnOk P w K mg base (L2.CX P w) 1 fI fd ["self", f] (spI C f) ∧ L2.Binds K fd ["self", f] []
/-- raise C(e) -/
def mRaise (c : Nat) (f : Str) (g : FE) : FS := fun ρ s => (g ρ s).thenC ρ fun w s1 => .er ⟨c, f, w⟩ ρ s1
section
variable {X : Cx} {Γ : Ct} {W : WX}
theorem ms_raise {e : Expr} {g : FE} {x f : Str} {c : Nat} {p pos pos' : Pos} (hK : Γ.K = X.K) (T : XcR X.prog X.w X.K X.mg X.base (Γ.cls c) x f) (hr : Room 2 X.A) (hc : X.calm = true) (tk : Takes X W) (hg : Gl X x) (ha : ME X Γ W e g)
    (hdb : (x == ("__debug__" : Str)) = false := by decide) (he : starEach [e] X.env = (false, eval e X.env) :: starEach [] X.env := by rfl) (hpl : (backTo pos (starEach [] X.env)).any (·.1) = false := by rfl) :
    MS X Γ W (.Raise (some (.Call (.Name x p) [e] [] pos)) none pos') (mRaise c f g) := by
  obtain ⟨fI, fd, iC, tI, F1, hb⟩ := T.init
  have hx : Passes (L2.CX X.prog X.w) X (fun _ _ _ => False) := passes_call (W := W0) tk0 fun _ _ _ _ h => h
  refine PS.imp (ps_raise hc tk (pmk_oex T.ox iC tI F1 hr hb .nil hx hg T.gC (pa_cons ha pa_nil he) hdb he hpl)) fun D σ H ⟨μ, Z, ρ, s, hE, hR, q⟩ => ?_
  refine eS hE hR q fun y s1 v H1 μ1 ev E1 R1 r1 q1 => ⟨by show 1 ≤ 1000; decide, fun a na => ⟨a, v, rfl, upd_same, fun dx hdx hda => ⟨rfl, dx, [(f, v)], upd_same, ?_, ?_, ?_⟩⟩⟩
  · rw [upd_ne hda, upd_same]
  · rwa [upd_ne hda] at hdx
  · have nd : H1 dx = none := by rwa [upd_ne hda] at hdx
    have eH : upd (del (upd (upd (upd H1 a (exo a (Γ.cls c) none)) dx (exd dx [(f, v)])) a (exo a (Γ.cls c) (some dx))) a) dx (.xd [(f, v)]) = upd H1 dx (.xd [(f, v)]) := by
      funext b
      by_cases h1 : b = dx
      · subst h1
        rw [upd_same, upd_same]
      · rw [upd_ne h1, upd_ne h1]
        by_cases h2 : b = a
        · subst h2
          rw [del_same]
          exact na.symm
        · rw [del_ne h2, upd_ne h2, upd_ne h1, upd_ne h2]
    rw [eH]
    have e2 : Evo H1 μ1 (upd H1 dx (.xd [(f, v)])) μ1 := Evo.laid nd
    exact q1 _ _ σ _ μ1 e2 (R1.laid nd) (E1.mono e2) ⟨rfl, dx, v, rfl, upd_same, R1.fz nd, r1.mono e2⟩
end
end MP

set_option Elab.async false
set_option linter.all false
set_option maxRecDepth 100000
set_option maxHeartbeats 4000000
/-! try: .. except (A, B) as n: suite, the exception being kept as a value -/
namespace MP
open PySem PySem.Spec PyProof.Rows L2
theorem flying_up {B h g : Heap} {l : List PySem.Env} {a : Addr} {Z : Obj → Prop} (fl : HandSPX.FlyingZ B l a Z h) (k : ∀ b o, h.get? b = some o → g.get? b = some o) : HandSPX.FlyingZ B l a Z g := by
  obtain ⟨f1, f2, f3, oe, vs, T, oT, ts, q1, q2, q3, q4, q5, q6, q7, q8, q9⟩ := fl
  exact ⟨fun b o e => k b o (f1 b o e), f2, Heap.FunFrames.of_keeps (fun b o e _ => ⟨o, k b o e, rfl⟩) f3, oe, vs, T, oT, ts, k _ _ q1, q2, q3, q4, q5, q6, k _ _ q7, q8, q9⟩
theorem exK_ok {P : Program} {w : World} {H : Hp} {h : Heap} {a C dd : Addr} {oe : Obj} {vs : Array Value} (e : h.get? a = some oe) (z : Zc (.ref C) (some dd) oe) (d : oe.data = .fields vs) : ObjOk P w H h a (ExK a C dd) :=
  ⟨⟨oe, vs, e, z, d⟩, ⟨oe, e⟩, fun h1 h2 ⟨o, v, q1, q2, q3⟩ k => ⟨o, v, k _ q1, q2, q3⟩⟩
section
variable {X : Cx} {pins : List (Addr × Obj)} {σ : L2.St} {H : Hp} {sI s s' : Shared} {B : Heap}
/-- on the ground again, the exception's object being known from now on -/
theorem landedK {a : Addr} {u : HO} (I : Inv X pins σ H sI) (nb : ∀ b o, sI.heap.get? b = some o → b ∉ frs X.stack → B.get? b = some o) (st : B.StaysIn s'.heap) (up : sI.heap.UpToSlots s'.heap) (os : s'.os = sI.os) (ag : AllBare s'.gens)
    (na : H a = none) (ng : sI.heap.get? a = none) (new : ObjOk X.prog X.w (upd H a u) s'.heap a u) : Inv X pins σ (upd H a u) s' := by
  have nf : ∀ b ∈ frs X.stack, ∀ o, sI.heap.get? b = some o → ∃ sl, s'.heap.get? b = some { o with slots := sl } := fun b hb o e => by
    obtain ⟨_, o', e', hd⟩ := I.stack.mem hb
    rw [e] at e'; cases e'; exact up b o e hd
  have ne : ∀ b o, sI.heap.get? b = some o → b ≠ a := fun b o e z => by rw [z, ng] at e; cases e
  have J := I.call (ch := []) (h' := s'.heap) (g' := s'.gens) (t' := s'.toks) (d' := s'.drawn) (H' := upd H a u)
    ⟨fun b o e _ hb _ => st b o (nb b o e hb), fun b o e _ hb _ => nf b hb o e, fun b o e n _ => by rw [upd_ne (ne b o e)]; exact n, fun b o e _ => by
      by_cases hb : b ∈ frs X.stack
      · exact let ⟨sl, q⟩ := nf b hb o e; ⟨_, q⟩
      · exact ⟨o, st b o (nb b o e hb)⟩, fun b xs e => by rw [upd_ne (ne_of_none e na)]; exact e, fun b o xs e => by rw [upd_ne (ne_of_none e na)]; exact e, fun b ps e => ⟨#[], by rw [upd_ne (ne_of_none e na), e]; simp⟩⟩
    (HOk.more ((I.inGround nb).kept st) na new) ag (fun _ z => nomatch z)
  obtain ⟨a1, a2, a3, a4, a5⟩ := s'
  have e5 : a5 = sI.os := os
  subst e5; exact J
theorem toSuite (I : Inv X pins σ H s) (a : Addr) : Inv (X.suite a (X.pn ++ pins)) [] σ H s :=
  ⟨I.ok.suite _ _, I.os, I.bare, I.base, I.loc, I.cell, I.free, I.freeC, fun p hp => I.pin p (List.append_nil (X.pn ++ pins) ▸ hp), I.hok, I.len⟩
theorem ofSuite {a : Addr} {pn' : List (Addr × Obj)} (I : Inv (X.suite a (X.pn ++ pins)) pn' σ H s) (ok : X.Ok) : Inv X pins σ H s :=
  ⟨ok, I.os, I.bare, I.base, I.loc, I.cell, I.free, I.freeC, fun p hp => I.pin p (List.mem_append.mpr (.inl hp)), I.hok, I.len⟩
end
/-- what the clause wishes of an exception of the body -/
def wKeep (K : PySem.W.Frag) (c1 c2 : Value) (i : Nat) (ts : TS) (Wout : WX) (D : Ends) : WX := fun cls d σ H => ∃ b, PySem.W.exmAny K cls [c1, c2] = some b ∧
  (b = true → ∃ C dd, cls = .ref C ∧ d = some dd ∧ ∀ a, H a = none → ts { nx := fun σ' H' => D.nx (σ'.set i none) H', rt := D.rt, bk := fun σ' H' => D.bk (σ'.set i none) H', ct := fun σ' H' => D.ct (σ'.set i none) H' } (σ.set i (some (.ref a))) (upd H a (ExK a C dd))) ∧ (b = false → Wout cls d σ H)
section
variable {X : Cx} {x1 x2 n : Str} {c1 c2 : Value} {i kk : Nat} {body suite : List Stmt} {b0 : Stmt} {p1 p2 tp pos pos' : Pos} {tb : WX → TS} {ts : TS} {Wout : WX}
theorem ps_try_keep (hs : X.stack = X.env :: X.outer) (hf : X.env.frame = some X.env.locals) (hN : X.N.Nodup) (hi : X.N[i]? = some n) (hln : X.env.kindOf n = some .local) (n1 : Names X x1 c1) (n2 : Names X x2 c2) (tk : Takes X Wout)
    (hb : ∀ (W : WX) (pn : List (Addr × Obj)) (xe : Value → Shared → Prop), Takes (X.tr pn xe) W → PassesOwn (model X.prog X.w) X.A X.env xe → PSs (X.tr pn xe) body (tb W)) (hsu : ∀ (a : Addr) (pn : List (Addr × Obj)), PSs (X.suite a pn) (b0 :: suite) ts) :
    PS X (.Try body [.ExceptHandler (some (.Tuple [.Name x1 p1, .Name x2 p2] kk tp)) (some n) (b0 :: suite) pos'] [] [] pos) (fun D σ H => tb (wKeep X.K c1 c2 i ts Wout D) D σ H) := by
  refine ⟨fun pins s σ H D I h => ?_⟩
  have ok := I.ok
  have hfr : X.A.frames = some (X.env :: X.outer) := ok.frames.trans (congrArg some hs)
  have hloc : Loc X.env.scope n := .inl hln
  refine wpAny_Try_except (wpAny_mono ((hb (wKeep X.K c1 c2 i ts Wout D) (X.pn ++ pins) (fun e u1 => wpAny (model X.prog X.w) X.A (noteFrame e X.env) (fun _ u2 => wpAny (model X.prog X.w) X.A (setFlight e none) (fun _ u3 =>
    wpAny (model X.prog X.w) X.A (handleBy e X.env [.ExceptHandler (some (.Tuple [.Name x1 p1, .Name x2 p2] kk tp)) (some n) (b0 :: suite) pos']) (SP X pins D) X.xe u3) X.xe u2) X.xe u1) (fun u s' xx => ?_) PassesOwn.looking).run [] s σ H D (I.toTry _) h) (fun f s1 hsp => ?_) (fun e s1 he => he))
  · obtain ⟨a, B, sI, pins', σ', H', cls, d, rfl, J', nb, up, sky, na, os, ag, b, hb1, hyes, hno⟩ := xx
    have J : Inv X pins σ' H' sI := J'.ofTry ok
    show wpAny (model X.prog X.w) X.A (noteFrame (.ref a) X.env) _ _ _
    refine Sky.land Zc.steady hfr hf (by rw [← hs]; exact sky) fun h3 fl3 up3 => ?_
    have J3 : Inv X pins σ' H' { s' with heap := h3 } := J.landed nb fl3.1 (up.trans up3) os ag
    obtain ⟨oe3, vs3, he3, hz3, hd3⟩ := fl3.there
    have nfr : a ∉ frs (X.env :: X.outer) := fun hm => by
      obtain ⟨_, o', e', hnf⟩ := fl3.2.2.1.mem hm
      rw [he3] at e'; cases e'; exact hnf _ hd3
    have ng : sI.heap.get? a = none := by
      cases q : sI.heap.get? a with
      | none => rfl
      | some o => have := nb a o q (by rw [hs]; exact nfr); rw [fl3.2.1] at this; cases this
    have nL : a ≠ X.env.locals := fun z => nfr (List.mem_filterMap.mpr ⟨X.env, List.mem_cons_self, by rw [hf, z]⟩)
    have nF : a ∉ X.fs := fun hm => nfr (by
      obtain ⟨e, he, q⟩ := List.mem_filterMap.mp hm
      exact List.mem_filterMap.mpr ⟨e, List.mem_cons_of_mem _ he, q⟩)
    have S3 := J3.suite he3 hd3 na nL nF
    have load : ∀ {y : Str} {c : Value} {py : Pos} {Q E : Value → Shared → Prop}, Names X y c → Q c { s' with heap := h3 } → wpAny (model X.prog X.w) (X.A.mark (some (.ref a))) (eval (.Name y py) X.env) Q E { s' with heap := h3 } := fun {y c py Q E} hc q => by
      obtain ⟨g1, g2, g3 | ⟨g3, g4, g5⟩⟩ := hc
      · exact ld_glob (X := X.suite a ((a, oe3) :: (X.pn ++ pins))) S3 g1 g3 q g2
      · exact ld_blt (X := X.suite a ((a, oe3) :: (X.pn ++ pins))) S3 g1 g3 g4 q g5 g2
    refine wpAny_handleBy_cons (codeAny_handlers_test ?_) (by intro q; cases q)
    refine wpAny_Tuple_spliced (Calls.spliced_cons (load n1 (Calls.spliced_cons (load n2 (Calls.spliced_nil ⟨by show 2 ≤ sizeLine; rw [sizeLine_eq]; decide, ?_⟩)))))
    have kp : ∀ b o, h3.get? b = some o → (h3.push { cls := .type "tuple", data := .seq [c1, c2].toArray }).get? b = some o := fun b o e => Heap.get?_push_of_some _ e
    have fl3' := flying_up fl3 kp
    have LT : PySem.W.Looks (model X.prog X.w) (h3.push { cls := .type "tuple", data := .seq [c1, c2].toArray }) (typeOf (.ref a)) cls := fun A Q E s k q => wpAny_typeOf_ref (k _ _ (kp _ _ he3)) (by rw [hz3.1]; exact q)
    have LM := PySem.W.exm_tup2 (M := model X.prog X.w) (J3.kIn.keeps kp) LT (Heap.get?_push_size _ rfl) hb1
    refine LM.here ?_
    have upk : sI.heap.UpToSlots (h3.push { cls := .type "tuple", data := .seq [c1, c2].toArray }) := (up.trans up3).trans (Heap.UpToSlots.of_keeps kp)
    cases b with
    | true =>
      obtain ⟨C, dd, rfl, rfl, hy2⟩ := hyes rfl
      refine codeAny_handlers_suite_as (HandSPX.lands_againZ fl3' fun h4 fl4 up4 => ?_)
      obtain ⟨oe4, vs4, he4, hz4, hd4⟩ := fl4.there
      have J4 : Inv X pins σ' (upd H' a (ExK a C dd)) { s' with heap := h4 } := landedK J nb fl4.1 (upk.trans up4) os ag na ng (exK_ok he4 hz4 hd4)
      refine store_ok (X := X.suite a (X.pn ++ pins)) (v := .ref a) (toSuite J4 a) hN hi hloc rfl (fun s5 S5 => ?_) (.inr hln)
      refine wpAny_mono ((hsu a (X.pn ++ pins)).run [] s5 _ _ _ S5 (hy2 a na)) (fun f s6 hsp => ?_) (fun _ _ z => False.elim z)
      have fin : ∀ {σ6 : L2.St} {H6 : Hp} {Q : Shared → Prop}, Inv (X.suite a (X.pn ++ pins)) [] σ6 H6 s6 → (∀ s7, Inv X pins (σ6.set i none) H6 s7 → Q s7) → wpAny (model X.prog X.w) X.A (do bindName X.env n .none; unbindBehindTheSuite X.env n pos') (fun _ s7 => Q s7) X.xe s6 := fun S6 hq => gone_ok (ofSuite S6 ok) hN hi hln hq
      cases f with
      | next => exact let ⟨σ6, H6, S6, q6⟩ := hsp; fin S6 fun s7 J7 => ⟨_, _, J7, q6⟩
      | brk => exact let ⟨σ6, H6, S6, q6⟩ := hsp; fin S6 fun s7 J7 => ⟨_, _, J7, q6⟩
      | cont => exact let ⟨σ6, H6, S6, q6⟩ := hsp; fin S6 fun s7 J7 => ⟨_, _, J7, q6⟩
      | ret u => exact let ⟨v6, σ6, H6, S6, r6, q6⟩ := hsp; fin S6 fun s7 J7 => ⟨_, _, _, J7, r6, q6⟩
    | false =>
      show wpAny _ X.A (handleBy (.ref a) X.env []) _ _ _
      refine wpAny_handleBy_nil ?_
      obtain ⟨_, _, _, oe, vs, T, oT, t', he, hz, hd, hT, hr⟩ := id fl3'
      unfold PySem.passOn
      refine wpAny_bind (wpAny_field he hd hT ?_)
      rw [if_neg (show ¬ ((Value.ref T == Value.none) = true) by simp)]
      have fin : wpAny (model X.prog X.w) X.A (setFlight (.ref a) X.env.frame) (fun _ u => wpAny (model X.prog X.w) X.A (throw (.ref a) : Sem Flow) (SP X pins D) X.xe u) X.xe { s' with heap := h3.push { cls := .type "tuple", data := .seq [c1, c2].toArray } } := by
        rw [hf]
        exact HandSPX.setFlight_upZ fl3' fun h4 hh4 up4 => wpAny_throw (tk _ _ ⟨a, B, sI, pins, σ', H', cls, d, rfl, J, nb, upk.trans up4, .inr (.inr (by rw [hs]; exact hh4)), na, os, ag, hno rfl⟩)
      first
        | exact wpAny_bind (wpAny_pure (wpAny_bind fin))
        | exact wpAny_bind fin
  · cases f with
    | next => exact let ⟨σ', H', J', q⟩ := hsp; wpAny_execs_nil ⟨σ', H', J'.ofTry ok, q⟩
    | brk => exact let ⟨σ', H', J', q⟩ := hsp; ⟨σ', H', J'.ofTry ok, q⟩
    | cont => exact let ⟨σ', H', J', q⟩ := hsp; ⟨σ', H', J'.ofTry ok, q⟩
    | ret u => exact let ⟨v, σ', H', J', r, q⟩ := hsp; ⟨v, σ', H', J'.ofTry ok, r, q⟩
end
end MP

set_option Elab.async false
set_option linter.all false
set_option maxRecDepth 100000
set_option maxHeartbeats 4000000
/-! try: .. except (A, B) as n: suite over the data -/
namespace MP
open PySem PySem.Spec PyProof.Rows L2
/-- the name of the exception goes behind the suite; the suite raises nothing -/
def delC (i : Nat) : C → C
  | .nx ρ s => .nx (ρ.set i none) s
  | .bk ρ s => .bk (ρ.set i none) s
  | .ct ρ s => .ct (ρ.set i none) s
  | .rt w s => .rt w s
  | .er _ _ _ => .no
  | .no => .no
def mTryKeep (i : Nat) (c su : FS) : FS := fun ρ s => match c ρ s with
  | .er x ρ1 s1 => if x.c < 9 then delC i (su (ρ1.set i (some (.exc x.c x.f x.w))) s1) else .no
  | r => r
section
variable {X : Cx} {Γ : Ct} {Wout : WX}
theorem ms_tryKeep {x1 x2 n : Str} {c1 c2 : Value} {i kk : Nat} {body suite : List Stmt} {b0 : Stmt} {p1 p2 tp pos pos' : Pos} {c su : FS} (hs : X.stack = X.env :: X.outer) (hf : X.env.frame = some X.env.locals) (hN : X.N.Nodup) (hi : X.N[i]? = some n) (hln : X.env.kindOf n = some .local)
    (n1 : Names X x1 c1) (n2 : Names X x2 c2) (tk : Takes X Wout) (hex : ∀ c, c < 9 → PySem.W.exmAny X.K (.ref (Γ.cls c)) [c1, c2] = some true)
    (hb : ∀ (W : WX) (pn : List (Addr × Obj)) (xe : Value → Shared → Prop), Takes (X.tr pn xe) W → MB (X.tr pn xe) Γ W body c) (hsu : ∀ (a : Addr) (pn : List (Addr × Obj)), MB (X.suite a pn) Γ W0 (b0 :: suite) su) :
    MS X Γ Wout (.Try body [.ExceptHandler (some (.Tuple [.Name x1 p1, .Name x2 p2] kk tp)) (some n) (b0 :: suite) pos'] [] [] pos) (mTryKeep i c su) := by
  refine PS.imp (ps_try_keep (tb := fun W => rdS Γ W c) (ts := rdS Γ W0 su) hs hf hN hi hln n1 n2 tk (fun W pn xe t _ => hb W pn xe t) hsu) fun D σ H ⟨μ, Z, ρ, s, hE, hR, q⟩ => ⟨μ, Z, ρ, s, hE, hR, ?_⟩
  unfold mTryKeep at q
  cases e : c ρ s with
  | nx ρ' s' => rw [e] at q; exact q
  | rt w s' => rw [e] at q; exact q
  | bk ρ' s' => rw [e] at q; exact q
  | ct ρ' s' => rw [e] at q; exact q
  | no => rw [e] at q; exact q
  | er x ρ1 s1 =>
    rw [e] at q
    dsimp only at q
    split at q
    · rename_i hx
      intro cls d σ' H' μ' ev R' E' rx
      obtain ⟨r1, dd, v, r2, r3, r4, r5⟩ := rx
      subst r1 r2
      refine ⟨true, hex x.c hx, fun _ => ⟨_, _, rfl, rfl, fun a na => ?_⟩, fun z => nomatch z⟩
      have ea : Evo H' μ' (upd H' a (ExK a (Γ.cls x.c) dd)) μ' := Evo.laid na
      have nd : dd ≠ a := fun z => by rw [z, na] at r3; cases r3
      refine ⟨μ', Z, ρ1.set i (some (.exc x.c x.f x.w)), s1, RE.set i (E'.mono ea) ⟨a, dd, v, rfl, upd_same, R'.fz na, by rw [upd_ne nd]; exact r3, r4, r5.mono ea⟩, R'.laid na, ?_⟩
      cases e2 : su (ρ1.set i (some (.exc x.c x.f x.w))) s1 with
      | nx ρ2 s2 => rw [e2] at q; exact fun σ2 H2 μ2 ev2 R2 E2 => q _ _ _ (ev.trans (ea.trans ev2)) R2 (E2.del i)
      | bk ρ2 s2 => rw [e2] at q; exact fun σ2 H2 μ2 ev2 R2 E2 => q _ _ _ (ev.trans (ea.trans ev2)) R2 (E2.del i)
      | ct ρ2 s2 => rw [e2] at q; exact fun σ2 H2 μ2 ev2 R2 E2 => q _ _ _ (ev.trans (ea.trans ev2)) R2 (E2.del i)
      | rt w s2 => rw [e2] at q; exact fun v2 H2 μ2 ev2 R2 r2 => q _ _ _ (ev.trans (ea.trans ev2)) R2 r2
      | er _ _ _ => rw [e2] at q; exact q.elim
      | no => rw [e2] at q; exact q.elim
    · exact q.elim
end
end MP

set_option Elab.async false
set_option linter.all false
set_option maxRecDepth 100000
set_option maxHeartbeats 4000000
/-! lambdas: what is made, how it is called -/
namespace MP
open PySem PySem.Spec PyProof.Rows L2
/-- the names of a lambda: captured ones, globals, and of its own none but what its maker has not -/
structure LamN (N : List Str) (sc scope : Scope) : Prop where
  kind : scope.kind = .function
  co : scope.isCoroutine = false
  gen : scope.isGenerator = false
  cell : ∀ y ∈ scope.names, y.2 ≠ .cell
  own : ∀ y ∈ scope.names, y.2 = .local → y.1 ∉ N
  free : ∀ y ∈ scope.names, y.2 = .free → sc.names.lookup y.1 = some .cell ∨ sc.names.lookup y.1 = some .free
def lamNB (N : List Str) (sc scope : Scope) : Bool :=
  decide (scope.kind = .function) && (!scope.isCoroutine && (!scope.isGenerator && scope.names.all fun y => match y.2 with
    | .cell => false
    | .local => !N.contains y.1
    | .free => decide (sc.names.lookup y.1 = some .cell) || decide (sc.names.lookup y.1 = some .free)
    | _ => true))
theorem lamN_by {N : List Str} {sc scope : Scope} (h : lamNB N sc scope = true) : LamN N sc scope := by
  unfold lamNB at h
  rw [Bool.and_eq_true, Bool.and_eq_true, Bool.and_eq_true, Bool.not_eq_true', Bool.not_eq_true', List.all_eq_true] at h
  obtain ⟨h1, h2, h3, h4⟩ := h
  refine ⟨of_decide_eq_true h1, h2, h3, fun y hy e => ?_, fun y hy e hm => ?_, fun y hy e => ?_⟩
  · have := h4 y hy; rw [e] at this; cases this
  · have := h4 y hy
    rw [e] at this
    have : N.contains y.1 = false := by simpa using this
    rw [List.contains_iff_mem.mpr hm] at this
    cases this
  · have := h4 y hy
    rw [e] at this
    dsimp only at this
    rw [Bool.or_eq_true, decide_eq_true_eq, decide_eq_true_eq] at this
    exact this
theorem LamN.has {N : List Str} {X : Cx} {scope : Scope} (L : LamN N X.env.scope scope) (ok : X.Ok) : ∀ y ∈ scope.names, y.2 = .free → ∃ c, X.env.cells.lookup y.1 = some c := fun y hy e => ok.has _ (L.free y hy e)
section
variable {X : Cx} {pins : List (Addr × Obj)} {σ : L2.St} {H HZ : Hp} {s s1 : Shared}
/-- a lambda's body begins -/
theorem lamN_start {A : Around} {outer : List PySem.Env} {E : XK} {scope : Scope} {f c' : Addr} {h₁ : Heap} {tk : Nat} {binds : List (Str × Value)} (I : Inv X pins σ H s) (L : LamN X.N X.env.scope scope) (e0 : Env0 X.prog X.w X.K X.mg X.base A outer s1 HZ) (hd : A.handled = none)
    (un : Un (frs X.stack) [] H HZ s.heap s1.heap) (hns : h₁.Ns s1.heap.objs.size fun y => binds.reverse.lookup y) (kp : ∀ b o, s1.heap.get? b = some o → h₁.get? b = some o) :
    Inv (LamX.lamCx X A outer s1 HZ E scope f c') [] σ HZ { s1 with heap := h₁, toks := tk } := by
  have here := L.has I.ok
  have inj : ∀ {y : Str} {c : Addr}, (cloFrom X.env.cells scope.names []).lookup y = some c → (y, NameKind.free) ∈ scope.names ∧ X.env.cells.lookup y = some c := fun {y c} e => by
    rcases cloFrom_mem (PySem.mem_of_lookup e) with hm | ⟨h1, h2⟩
    · cases hm
    · obtain ⟨c1, hc⟩ := here _ h1 rfl
      have hc : X.env.cells.lookup y = some c1 := hc
      rw [hc] at h2
      exact ⟨h1, by rw [hc]; exact congrArg some h2.symm⟩
  have found : ∀ {y : Str}, scope.names.lookup y = some .free → ∃ c, (cloFrom X.env.cells scope.names []).lookup y = some c := fun {y} hl => mem_lookup (cloFrom_has (cells := X.env.cells) (acc := []) (PySem.mem_of_lookup hl))
  have cellNow : ∀ {c : Addr} {v : Option Value}, H c = none → s.heap.IsCell c v → h₁.IsCell c v := fun {c v} n ⟨o, ho, hd⟩ => by
    obtain ⟨sl, q⟩ := un.any ho n (by simp)
    exact ⟨_, kp _ _ q, hd⟩
  have noX : ∀ b : Addr, b ∉ (LamX.lamCx X A outer s1 HZ E scope f c').ex := fun b z => absurd (show b ∈ ([] : List Addr) from z) (by simp)
  have okL : (LamX.lamCx X A outer s1 HZ E scope f c').Ok := {
    mod := e0.mod
    kind := L.kind
    glob := rfl
    blt := rfl
    above := Nat.le_refl _
    inj := fun x y c e1 e2 => I.ok.inj x y c (inj e1).2 (inj e2).2
    has := fun x hx => by
      rcases (show scope.names.lookup x = some .cell ∨ scope.names.lookup x = some .free from hx) with q | q
      · exact absurd rfl (L.cell _ (PySem.mem_of_lookup q))
      · exact found q
    cab := fun x c z _ => nomatch (show false = true from z)
    hd := fun _ => hd
    frames := Around.frames_deeper e0.frames
    stk := .inr ⟨rfl, rfl⟩
    exf := fun b z => absurd z (noX b)
    bs := e0.bs
    bsz := e0.bsz
    noex := fun b _ _ => noX b
    exfs := fun b z => absurd z (noX b)
    funs := e0.funs
    frf := e0.frf }
  refine { ok := okL, os := rfl, bare := e0.bare, base := Un.kept kp, loc := ⟨_, hns, fun i y v e1 e2 e3 => ?_⟩, cell := fun y c e => ?_, free := e0.hok.fresh (Nat.le_refl _), freeC := fun y c e => ?_, pin := fun q hq => absurd (show q ∈ ([] : List (Addr × Obj)) ++ [] from hq) (by simp), hok := e0.hok.kept kp, len := I.len }
  · have e1 : X.N[i]? = some y := e1
    rcases (show Vis scope y from e3) with k | k | k
    · exact absurd (List.mem_of_getElem? e1) (L.own _ (PySem.mem_of_lookup k) rfl)
    · exact absurd rfl (L.cell _ (PySem.mem_of_lookup k))
    · have hk := L.free _ (PySem.mem_of_lookup k) rfl
      obtain ⟨m, hn, hl⟩ := I.loc
      obtain ⟨w', r, q⟩ := hl i y v e1 e2 (hk.elim (fun z => .inr (.inl z)) fun z => .inr (.inr z))
      obtain ⟨c2, h2⟩ := found k
      refine ⟨w', r, .inr ⟨.inr k, c2, h2, ?_⟩⟩
      rcases q with ⟨z, _⟩ | ⟨_, c3, e', z⟩
      · have z : X.env.scope.names.lookup y = some .local := z
        rcases hk with q | q <;> rw [show X.env.scope.names.lookup y = _ from q] at z <;> cases z
      · have e4 := (inj h2).2
        rw [e4] at e'
        cases e'
        exact cellNow (I.freeC y _ e4) z
  · obtain ⟨w', z⟩ := I.cell y c (inj e).2
    exact ⟨w', cellNow (I.freeC y c (inj e).2) z⟩
  · obtain ⟨v, o, ho, hd⟩ := I.cell y c (inj e).2
    exact un.free c o ho (I.freeC y c (inj e).2) (by simp)
end
end MP

set_option Elab.async false
set_option linter.all false
set_option maxRecDepth 100000
set_option maxHeartbeats 4000000
/-! lambdas over the data -/
namespace MP
open PySem PySem.Spec PyProof.Rows L2
/-! ### what a lambda holds -/
def selW (ρ : Env) : List Dv := ρ.filterMap id
def selV : Env → L2.St → List V
  | some _ :: ρ, some v :: σ => v :: selV ρ σ
  | none :: ρ, _ :: σ => selV ρ σ
  | _, _ => []
section
variable {Γ : Ct} {H H0 : Hp} {μ μ0 : Mu} {Z Z0 : Zs}
theorem re_cons {x : Option Dv} {y : Option V} {ρ : Env} {σ : L2.St} : RE Γ H μ Z (x :: ρ) (y :: σ) ↔ (∀ w, x = some w → ∃ v, y = some v ∧ RV Γ H μ Z w v) ∧ RE Γ H μ Z ρ σ := by
  constructor
  · rintro ⟨h1, h2⟩
    refine ⟨fun w e => ?_, by simpa using h1, fun i w e => ?_⟩
    · obtain ⟨v, q1, q2⟩ := h2 0 w (by rw [e]; rfl)
      exact ⟨v, by simpa using q1, q2⟩
    · obtain ⟨v, q1, q2⟩ := h2 (i + 1) w (by simpa using e)
      exact ⟨v, by simpa using q1, q2⟩
  · rintro ⟨h1, h2, h3⟩
    refine ⟨by simpa using h2, fun i w e => ?_⟩
    cases i with
    | zero =>
      obtain ⟨v, q1, q2⟩ := h1 w (by simpa using e)
      exact ⟨v, by rw [q1]; rfl, q2⟩
    | succ i =>
      obtain ⟨v, q1, q2⟩ := h3 i w (by simpa using e)
      exact ⟨v, by simpa using q1, q2⟩
theorem sel_of : ∀ {ρ : Env} {σ : L2.St}, RE Γ H μ Z ρ σ → RVs Γ H μ Z (selW ρ) (selV ρ σ)
  | [], _, _ => rfl
  | x :: ρ, [], h => by cases h.1
  | none :: ρ, y :: σ, h => (sel_of (ρ := ρ) (σ := σ) (re_cons.mp h).2 : RVs Γ H μ Z (selW ρ) (selV ρ σ))
  | some w :: ρ, y :: σ, h => by
    obtain ⟨h1, h2⟩ := re_cons.mp h
    obtain ⟨v, q1, q2⟩ := h1 w rfl
    subst q1
    exact RVs.cons q2 (sel_of (ρ := ρ) (σ := σ) h2)
theorem of_sel : ∀ {ρ : Env} {σ : L2.St}, RE Γ H0 μ0 Z0 ρ σ → RVs Γ H μ Z (selW ρ) (selV ρ σ) → RE Γ H μ Z ρ σ
  | [], _, h, _ => ⟨h.1, fun i w e => by cases e⟩
  | x :: ρ, [], h, _ => by cases h.1
  | none :: ρ, y :: σ, h, r => re_cons.mpr ⟨fun w e => (nomatch e), of_sel (ρ := ρ) (σ := σ) (re_cons.mp h).2 r⟩
  | some w :: ρ, y :: σ, h, r => by
    obtain ⟨h1, h2⟩ := re_cons.mp h
    obtain ⟨v, q1, q2⟩ := h1 w rfl
    subst q1
    obtain ⟨x, xs, e, r1, r2⟩ := (show ∃ x xs, v :: selV ρ σ = x :: xs ∧ RV Γ H μ Z w x ∧ RVs Γ H μ Z (selW ρ) xs from r)
    cases e
    exact re_cons.mpr ⟨fun w' e => by cases e; exact ⟨v, rfl, r1⟩, of_sel (ρ := ρ) (σ := σ) h2 r2⟩
end
abbrev lamFd (q : Str) (params : Arguments) (body : Expr) (scope : Scope) (cl : List (Str × Addr)) (dV doc pm : Value) (c' : Addr) (ctv : Value) : FuncData := PySem.W.kdv_fn "<lambda>" q params (.expr body) scope cl dV doc pm (.ref c') ctv
abbrev lamObj (q : Str) (params : Arguments) (body : Expr) (scope : Scope) (cl : List (Str × Addr)) (dV doc pm : Value) (c' : Addr) (ctv : Value) : Obj := { cls := .type "function", data := .func (lamFd q params body scope cl dV doc pm c' ctv) }
/-- a lambda on its way, made ahead of the state s0 under the frames outer: what holds of it and what its call does -/
structure Thk (P : Program) (w : World) (Γ : Ct) (mg : Str → Option Value) (base : Heap) (kk : Nat) (outer : List PySem.Env) (s0 : Shared) (H0 : Hp) (f c' : Addr) (q : Str) (ws : List Dv) (vs : List V) (g : Sto → R Dv) : Prop where
  fn : ∀ (s1 : Shared) (HZ : Hp), Un (frs outer) [] H0 HZ s0.heap s1.heap → PySem.W.FnAt f s1.heap
  run : ∀ (A : Around) (outer1 : List PySem.Env) (s1 : Shared) (HZ : Hp) (Q : VK) (E : XK) (μ : Mu) (Z : Zs) (st : Sto), Room kk A → A.guards = some [] → Env0 P w Γ.K mg base A outer1 s1 HZ → Un (frs outer) [] H0 HZ s0.heap s1.heap →
    HZ c' = some (LamX.CodeO c' q) → RVs Γ HZ μ Z ws vs → Rep Γ HZ μ Z st → PostE Γ (fun c d _ H => E c d H) HZ μ Z [] Q (g st) → codeAny (model P w) A (.call (.ref f) ⟨[], []⟩) (CR (L2.CX P w) outer1 P w HZ s1 Q E) s1
theorem un_comp {fs : List Addr} {L : Addr} {H H1 H2 : Hp} {h h1 h2 : Heap} (u : Un fs [] H H1 h h1) (v : Un (L :: fs) [] H1 H2 h1 h2) (hL : h.objs.size ≤ L) : Un fs [] H H2 h h2 where
  keep := fun b o q n hb hx => v.keep b o (u.keep b o q n hb hx) (u.free b o q n hx) (fun z => (List.mem_cons.mp z).elim (fun e => Nat.lt_irrefl _ (Nat.lt_of_lt_of_le (Heap.lt_size q) (by rw [e]; exact hL))) hb) hx
  slot := fun b o q n hb hx => by
    obtain ⟨sl, e1⟩ := u.slot b o q n hb hx
    obtain ⟨sl2, e2⟩ := v.slot b _ e1 (u.free b o q n hx) (List.mem_cons_of_mem _ hb) hx
    exact ⟨sl2, e2⟩
  free := fun b o q n hx => by
    obtain ⟨o1, e1⟩ := u.there b o q hx
    exact v.free b o1 e1 (u.free b o q n hx) hx
  there := fun b o q hx => by
    obtain ⟨o1, e1⟩ := u.there b o q hx
    exact v.there b o1 e1 hx
  tups := fun b xs q => v.tups b xs (u.tups b xs q)
  frzs := fun b o xs q => v.frzs b o xs (u.frzs b o xs q)
  tbls := fun b ps q => by
    obtain ⟨m1, e1⟩ := u.tbls b ps q
    obtain ⟨m2, e2⟩ := v.tbls b _ e1
    exact ⟨m1 ++ m2, by rw [e2, Array.append_assoc]⟩
/-- one frame deeper -/
theorem Thk.deeper {P : Program} {w : World} {Γ : Ct} {mg : Str → Option Value} {base : Heap} {kk : Nat} {outer : List PySem.Env} {s0 s' : Shared} {H0 H' : Hp} {f c' : Addr} {q : Str} {ws : List Dv} {vs : List V} {g : Sto → R Dv} {env : PySem.Env} {L : Addr}
    (T : Thk P w Γ mg base kk outer s0 H0 f c' q ws vs g) (hf : env.frame = some L) (hL : s0.heap.objs.size ≤ L) (u : Un (frs outer) [] H0 H' s0.heap s'.heap) : Thk P w Γ mg base kk (env :: outer) s' H' f c' q ws vs g := by
  have e : frs (env :: outer) = L :: frs outer := by unfold frs; rw [List.filterMap_cons, hf]
  exact ⟨fun s1 HZ v => T.fn s1 HZ (un_comp u (e ▸ v) hL), fun A outer1 s1 HZ Q E μ Z st h1 h2 h3 v => T.run A outer1 s1 HZ Q E μ Z st h1 h2 h3 (un_comp u (e ▸ v) hL)⟩
theorem Thk.up {P : Program} {w : World} {Γ : Ct} {mg : Str → Option Value} {base : Heap} {kk k2 : Nat} {outer : List PySem.Env} {s0 : Shared} {H0 : Hp} {f c' : Addr} {q : Str} {ws : List Dv} {vs : List V} {g : Sto → R Dv} (T : Thk P w Γ mg base kk outer s0 H0 f c' q ws vs g) (h : kk ≤ k2) : Thk P w Γ mg base k2 outer s0 H0 f c' q ws vs g :=
  ⟨T.fn, fun A outer1 s1 HZ Q E μ Z st hr => T.run A outer1 s1 HZ Q E μ Z st (hr.mono h)⟩
section
variable {X : Cx} {Γ : Ct} {pins : List (Addr × Obj)} {σ : L2.St} {H : Hp} {s : Shared} {μ : Mu} {Z : Zs} {ρ : Env} {k : Nat}
/-- a lambda that was made -/
theorem thk_of {scope : Scope} {params : Arguments} {body : Expr} {f c' : Addr} {dV doc pm ctv : Value} {tl : List (Addr × Obj)} {gb : FE} (I : Inv X pins σ H s) (hK : Γ.K = X.K) (L : LamN X.N X.env.scope scope)
    (hf : s.heap.get? f = some (lamObj (X.env.qual ++ "<lambda>") params body scope (cloFrom X.env.cells scope.names []) dV doc pm c' ctv)) (hfn : H f = none) (hfr : f ∉ frs X.stack) (htl : ∀ p ∈ tl, s.heap.get? p.1 = some p.2 ∧ H p.1 = none ∧ p.1 ∉ frs X.stack)
    (hbd : ∀ s1 : Shared, (∀ p ∈ tl, s1.heap.get? p.1 = some p.2) → ∃ binds, BindsTo s1 (lamFd (X.env.qual ++ "<lambda>") params body scope (cloFrom X.env.cells scope.names []) dV doc pm c' ctv) ⟨[], []⟩ binds ∧ ∀ y ∈ binds, scope.names.lookup y.1 = some .local)
    (hE : RE Γ H μ Z ρ σ)
    (hbody : ∀ (A : Around) (outer : List PySem.Env) (s : Shared) (H : Hp) (E : XK) (W : WX), Room k (A.deeper (LamX.lamEnv X scope s.heap.objs.size f c')) → (A.deeper (LamX.lamEnv X scope s.heap.objs.size f c')).guards = some [] → Takes (LamX.lamCx X A outer s H E scope f c') W → ME (LamX.lamCx X A outer s H E scope f c') Γ W body gb) :
    Thk X.prog X.w Γ X.mg X.base (k + 1) X.stack s H f c' (X.env.qual ++ "<lambda>") (selW ρ) (selV ρ σ) (gb ρ) := by
  have now : ∀ (s1 : Shared) (HZ : Hp), Un (frs X.stack) [] H HZ s.heap s1.heap → s1.heap.get? f = some (lamObj (X.env.qual ++ "<lambda>") params body scope (cloFrom X.env.cells scope.names []) dV doc pm c' ctv) := fun s1 HZ un => un.keep f _ hf hfn hfr (by simp)
  refine ⟨fun s1 HZ un => ⟨_, _, _, _, now s1 HZ un⟩, fun A outer1 s1 HZ Q E μ1 Z1 st room guards e0 un hc rws hR post => ?_⟩
  rw [hK] at e0
  obtain ⟨binds, hb, hl⟩ := hbd s1 fun p hp => un.keep p.1 _ (htl p hp).1 (htl p hp).2.1 (htl p hp).2.2 (by simp)
  obtain ⟨⟨oc, vs, t, hoc, hdc, hvc⟩, _, _⟩ := e0.hok c' _ hc
  refine PySem.W.kla_callFunE room.depth (now s1 HZ un) rfl L.co L.gen rfl ⟨c', oc, vs, t, rfl, hoc, hdc, hvc⟩ (hb _ _ _ _ ?_)
  refine wpAny_newFunctionEnv L.cell hl (fun h₁ hns hsb => ⟨(e0.mod.nolimit.keeps fun b o e => (e0.bs b o e).1).fresh _ hsb, ?_⟩) L.kind
  show codeAny _ _ (.expr body (LamX.lamEnv X scope s1.heap.objs.size f c')) _ _
  have kp : ∀ b o, s1.heap.get? b = some o → h₁.get? b = some o := fun b o e => hsb.extBut b o (Nat.ne_of_lt (Heap.lt_size e)) (Heap.get?_push_of_some _ e)
  have J := lamN_start (E := E) (f := f) (c' := c') (tk := s1.toks + binds.length) I L e0 room.hd un hns kp
  have tk : Takes (LamX.lamCx X A outer1 s1 HZ E scope f c') (fun cls d _ H' => E cls d H') := takes_of rfl rfl rfl rfl
  have post' : PostE Γ (fun c d _ H => E c d H) HZ μ1 Z1 σ Q (gb ρ st) := by
    revert post
    cases gb ρ st with
    | ok w s' => exact id
    | er x s' => exact id
    | no => exact id
  refine PySem.W.kla_codeExpr (wpAny_mono ((hbody A outer1 s1 HZ E _ (room.deeper _) (by show (A.deeper _).guards = _; rw [← guards]; rfl) tk).run [] _ σ HZ Q J ⟨μ1, Z1, ρ, st, of_sel hE rws, hR, post'⟩) (fun v s' hq => ?_) fun e s' hq => hq)
  obtain ⟨w', H', J', rv, q⟩ := hq
  exact ⟨w', H', J'.os, J'.bare, J'.base, J'.hok, rv, q⟩
end
end MP

set_option Elab.async false
set_option linter.all false
set_option maxRecDepth 100000
set_option maxHeartbeats 4000000
/-! a lambda is made -/
namespace MP
open PySem PySem.Spec PyProof.Rows L2
/-- the table behind the making -/
def Made (H H1 : Hp) (P : Addr) (ps : Array Value) (pos : Pos) (c' : Addr) (q : Str) : Prop :=
  (H1 = H ∧ codeAmong pos ps.toList = some (.ref c')) ∨ (H c' = none ∧ H1 = upd (upd H P (.tbl (ps ++ #[rawInt pos.line, rawInt pos.col, .ref c']))) c' (LamX.CodeO c' q))
section
variable {X : Cx} {pins : List (Addr × Obj)} {σ : L2.St} {H : Hp} {s : Shared}
theorem Inv.outFrs (I : Inv X pins σ H s) {f : Addr} (hf : s.heap.objs.size ≤ f) : f ∉ frs X.stack := fun z => by
  rcases List.mem_cons.mp (I.stkSub _ z) with e | e
  · exact absurd I.lt (by rw [← e]; exact Nat.not_lt.mpr hf)
  · exact I.nofs hf e
theorem lam_tail {c P : Addr} {ps : Array Value} {params : Arguments} {body : Expr} {scope : Scope} {pos : Pos} {dV : Value} {Q E : Value → Shared → Prop} (I : Inv X pins σ H s) (TB : LamX.TabB X.base X.mg c P) (hcode : X.env.code = .ref c)
    (hP : H P = some (.tbl ps)) (ht : TriplesOk ps.toList) (ha : ∀ (pos : Pos) (cv : Value), codeAmong pos ps.toList = some cv → ∃ c, cv = .ref c ∧ H c = some (LamX.CodeO c (X.env.qual ++ "<lambda>")))
    (hfree : ∀ y ∈ scope.names, y.2 = .free → ∃ c, X.env.cells.lookup y.1 = some c)
    (h : ∀ (f c' : Addr) (doc ctv : Value) (H1 : Hp) (s' : Shared), Inv X pins σ H1 s' → Made H H1 P ps pos c' (X.env.qual ++ "<lambda>") → (∀ b o, b ≠ P → s.heap.get? b = some o → s'.heap.get? b = some o) →
      s'.heap.get? f = some (lamObj (X.env.qual ++ "<lambda>") params body scope (cloFrom X.env.cells scope.names []) dV doc ((X.mg "__name__").getD .none) c' ctv) → H1 f = none → s.heap.objs.size ≤ f → H1 c' = some (LamX.CodeO c' (X.env.qual ++ "<lambda>")) → Q (.ref f) s') :
    wpAny (model X.prog X.w) X.A (makeTail "<lambda>" (X.env.qual ++ "<lambda>") params (.expr body) scope X.env dV .none none pos pos.line) Q E s := by
  have bP : s.heap.BuiltinsAt X.mg P := TB.bm.keeps I.bk
  have hP' : s.heap.get? P = some { cls := .none, data := .fields ps } := I.hok P _ hP
  cases hc : codeAmong pos ps.toList with
  | none =>
    refine PySem.W.kdv_makeTail (mg := X.mg) (c := c) (P := P) (ps := ps) (closure_ok hfree) I.ok.glob (I.mod.glob.keeps I.bk) hcode (TB.code.keeps I.bk) hP' ht hc TB.gP bP fun c' ctv doc h' tk hx hge hlt hrec htb => ?_
    obtain ⟨c2, oc, vs, t, e2, hoc, hd, hv⟩ := hrec
    cases e2
    have nC : H c' = none := I.hok.fresh hge
    have hsz : s.heap.objs.size ≤ h'.objs.size := Nat.le_trans hge (Nat.le_of_lt hlt)
    have I1 := LamX.inv_table (t' := tk) (more := #[rawInt pos.line, rawInt pos.col, .ref c']) (q := X.env.qual ++ "<lambda>") (h' := h'.push (lamObj (X.env.qual ++ "<lambda>") params body scope (cloFrom X.env.cells scope.names []) dV doc ((X.mg "__name__").getD .none) c' ctv)) I hP
      (fun b o hb e => Heap.get?_push_of_some _ (hx b o hb e)) (Heap.get?_push_of_some _ htb) hge ⟨oc, vs, t, Heap.get?_push_of_some _ hoc, hd, hv⟩
    refine h h'.objs.size c' doc ctv _ _ I1 (.inr ⟨nC, rfl⟩) (fun b o hb e => Heap.get?_push_of_some _ (hx b o hb e)) (Heap.get?_push_size _ rfl) ?_ hsz upd_same
    rw [upd_ne (Nat.ne_of_gt hlt), upd_ne (Nat.ne_of_gt (Nat.lt_of_lt_of_le (Heap.lt_size hP') hsz))]
    exact I.hok.fresh hsz
  | some cv =>
    obtain ⟨c', e, hco⟩ := ha pos cv hc
    subst e
    refine PySem.W.kdv_makeTailHit (mg := X.mg) (c := c) (P := P) (ps := ps) (closure_ok hfree) I.ok.glob (I.mod.glob.keeps I.bk) hcode (TB.code.keeps I.bk) hP' ht hc bP fun ctv doc h' tk hx hsz => ?_
    have I1 : Inv X pins σ H { s with heap := h'.push (lamObj (X.env.qual ++ "<lambda>") params body scope (cloFrom X.env.cells scope.names []) dV doc ((X.mg "__name__").getD .none) c' ctv), toks := tk } := I.kept fun b o e => Heap.get?_push_of_some _ (hx b o e)
    exact h h'.objs.size c' doc ctv H _ I1 (.inl ⟨rfl, hc⟩) (fun b o _ e => Heap.get?_push_of_some _ (hx b o e)) (Heap.get?_push_size _ rfl) (I.hok.fresh hsz) hsz hco
/-- the ways a lambda's parameters are filled up: none, or one with a whole number for its default -/
def LamP (params : Arguments) (scope : Scope) : Prop :=
  (∀ env : PySem.Env, defaultsOf params env = ([], [])) ∧ (∀ (q : Str) (b : Expr) (cl : List (Str × Addr)) (doc pm : Value) (c' : Addr) (ctv : Value), bindArgs (lamFd q params b scope cl .none doc pm c' ctv) ⟨[], []⟩ = pure []) ∨
  (∃ (a : Str) (i : Int) (j : Nat) (p : Pos), params.defaults = [.Constant (.int i) j p] ∧ params.kw_defaults = [] ∧ scope.names.lookup a = some .local ∧
    ∀ (q : Str) (b : Expr) (cl : List (Str × Addr)) (t : Addr) (doc pm : Value) (c' : Addr) (ctv : Value), ∃ k : Option (Array Value) → Sem (List (Str × Value)), bindArgs (lamFd q params b scope cl (.ref t) doc pm c' ctv) ⟨[], []⟩ = seqItems? (.ref t) >>= k ∧ ∀ v, k (some #[v]) = pure [(a, v)])
/-- the lambda is made; tl: what it holds of its defaults -/
theorem lam_made {c P : Addr} {ps : Array Value} {params : Arguments} {body : Expr} {scope : Scope} {pos : Pos} {Q E : Value → Shared → Prop} (hp : LamP params scope) (I : Inv X pins σ H s) (TB : LamX.TabB X.base X.mg c P) (hcode : X.env.code = .ref c)
    (hP : H P = some (.tbl ps)) (ht : TriplesOk ps.toList) (ha : ∀ (pos : Pos) (cv : Value), codeAmong pos ps.toList = some cv → ∃ c, cv = .ref c ∧ H c = some (LamX.CodeO c (X.env.qual ++ "<lambda>")))
    (hfree : ∀ y ∈ scope.names, y.2 = .free → ∃ c, X.env.cells.lookup y.1 = some c)
    (h : ∀ (f c' : Addr) (dV doc ctv : Value) (tl : List (Addr × Obj)) (H1 : Hp) (s' : Shared), Inv X pins σ H1 s' → Made H H1 P ps pos c' (X.env.qual ++ "<lambda>") →
      s'.heap.get? f = some (lamObj (X.env.qual ++ "<lambda>") params body scope (cloFrom X.env.cells scope.names []) dV doc ((X.mg "__name__").getD .none) c' ctv) → H1 f = none → s.heap.objs.size ≤ f → H1 c' = some (LamX.CodeO c' (X.env.qual ++ "<lambda>")) →
      (∀ p ∈ tl, s'.heap.get? p.1 = some p.2 ∧ H1 p.1 = none ∧ s.heap.objs.size ≤ p.1 ∧ ∀ v, p.2.data ≠ .cell v) →
      (∀ s1 : Shared, (∀ p ∈ tl, s1.heap.get? p.1 = some p.2) → ∃ binds, BindsTo s1 (lamFd (X.env.qual ++ "<lambda>") params body scope (cloFrom X.env.cells scope.names []) dV doc ((X.mg "__name__").getD .none) c' ctv) ⟨[], []⟩ binds ∧ ∀ y ∈ binds, scope.names.lookup y.1 = some .local) → Q (.ref f) s') :
    wpAny (model X.prog X.w) X.A (eval (.Lambda params body scope pos) X.env) Q E s := by
  rcases hp with ⟨hd, hb⟩ | ⟨a, i, j, p, hd, hk, hl, hb⟩
  · refine PySem.W.kla_eval (hd X.env) ?_
    rw [makeFunction_eq]
    simp only [List.zip_nil_right, List.filterMap_nil, List.isEmpty_nil, if_true, pure_bind]
    exact lam_tail I TB hcode hP ht ha hfree fun f c' doc ctv H1 s' I1 m _ h1 h2 h3 h4 => h f c' .none doc ctv [] H1 s' I1 m h1 h2 h3 h4 (fun p hp => nomatch hp) fun s1 _ => ⟨[], .of_eq (hb _ _ _ _ _ _ _), fun y hy => nomatch hy⟩
  · refine PySem.W.kdv_lam (by rw [hd]; rfl) hk ?_
    rw [hd]
    refine PySem.W.kdv_all1 (wpAny_Constant_int (PySem.W.kdv_all0 ?_))
    rw [makeFunction_eq]
    simp only [List.zip_nil_right, List.filterMap_nil, List.isEmpty_nil, List.isEmpty_cons, if_true, pure_bind, Bool.false_eq_true, if_false]
    refine wpAny_bind (wpAny_newTextTuple ?_)
    have I2 := I.tok (s.toks + 1)
    refine lam_tail (I2.kept (t' := s.toks + 1) fun b u e => Heap.get?_push_of_some _ e) TB hcode hP ht ha hfree fun f c' doc ctv H1 s' I1 m kp h1 h2 h3 h4 => ?_
    have hsz : s.heap.get? s.heap.objs.size = none := by
      cases e : s.heap.get? s.heap.objs.size with
      | none => rfl
      | some o => exact absurd (Heap.lt_size e) (Nat.lt_irrefl _)
    have hnP : s.heap.objs.size ≠ P := fun z => by
      have := I.hok P _ hP
      rw [← z] at this
      rw [show s.heap.get? _ = some _ from this] at hsz
      cases hsz
    have at1 := kp _ _ hnP (Heap.get?_push_size s.heap rfl)
    have hH : H s.heap.objs.size = none := I.hok.fresh (Nat.le_refl _)
    have hnc : s.heap.objs.size ≠ c' := fun z => by
      obtain ⟨⟨oc, vs, t, q1, q2, _⟩, _⟩ := I1.hok c' _ h4
      rw [← z, at1] at q1
      cases q1
      cases q2
    refine h f c' _ doc ctv [(s.heap.objs.size, PySem.W.kdv_tup [Value.int i s.toks])] H1 s' I1 m h1 h2 (Nat.le_trans (by rw [Heap.size_push]; exact Nat.le_succ _) h3) h4 (fun p hp => ?_) fun s1 hs => ?_
    · rw [List.mem_singleton] at hp
      subst hp
      refine ⟨at1, ?_, Nat.le_refl _, fun v z => by cases z⟩
      rcases m with ⟨e, _⟩ | ⟨_, e⟩
      · rw [e]; exact hH
      · rw [e, upd_ne hnc, upd_ne hnP]; exact hH
    · obtain ⟨k, k1, k2⟩ := hb (X.env.qual ++ "<lambda>") body (cloFrom X.env.cells scope.names []) s.heap.objs.size doc ((X.mg "__name__").getD .none) c' ctv
      exact ⟨_, BindsTo.of_defaults rfl (hs _ (List.mem_singleton.mpr rfl)) rfl k1 (k2 _), fun y hy => by rw [List.mem_singleton] at hy; subst hy; exact hl⟩
end
/-- the store behind the making -/
theorem made_rep {Γ : Ct} {H H1 : Hp} {μ : Mu} {Z : Zs} {st : Sto} {nt n : Nat} {P c' : Addr} {ps : Array Value} {pos : Pos} {q : Str} (hR : Rep Γ H μ Z st) (hn : μ nt = some P) (he : st[nt]? = some (.tab n q)) (hP : H P = some (.tbl ps)) (m : Made H H1 P ps pos c' q) :
    Evo H μ H1 μ ∧ Rep Γ H1 μ Z st ∧ Fz μ Z c' := by
  obtain ⟨a, g1, g2, g3, ps0, g4, g5, g6⟩ := hR.at nt _ he
  rw [hn] at g1
  cases g1
  rw [hP] at g4
  cases g4
  rcases m with ⟨e, hc⟩ | ⟨nC, e⟩
  · subst e
    obtain ⟨c, e1, _, e3⟩ := g6 pos _ hc
    cases e1
    exact ⟨Evo.refl, hR, e3⟩
  · subst e
    have fzc := hR.fz nC
    have nPc : P ≠ c' := ne_of_none hP nC
    have ev : Evo H μ (upd (upd H P (.tbl (ps ++ #[rawInt pos.line, rawInt pos.col, .ref c']))) c' (LamX.CodeO c' q)) μ := {
      keep := fun a o h k => by rw [upd_ne (ne_of_none h nC), upd_ne fun z => k nt (by rw [z]; exact hn)]; exact h
      mu := fun _ _ h => h
      new := fun _ _ h => .inl h
      stay := fun m a h k => by
        by_cases h1 : a = c'
        · rw [h1, upd_same]; intro z; cases z
        · rw [upd_ne h1]
          by_cases h2 : a = P
          · rw [h2, upd_same]; intro z; cases z
          · rw [upd_ne h2]; exact k }
    refine ⟨ev, ⟨fun k o eo => ?_, hR.inj, hR.dom, fun a z => ev.alive (hR.za a z)⟩, fzc⟩
    obtain ⟨a, k1, k2, k3⟩ := hR.at k o eo
    refine ⟨a, k1, k2, ?_⟩
    have nac : a ≠ c' := fun z => hR.alive k1 (by rw [z]; exact nC)
    by_cases hk : a = P
    · subst hk
      have := hR.inj _ _ _ k1 hn
      subst this
      rw [he] at eo
      cases eo
      refine ⟨g3, _, by rw [upd_ne nPc, upd_same], ?_, fun p' cv hcv => ?_⟩
      · rw [Array.toList_append]
        exact PySem.TriplesOk_snoc _ _ _ _ g5
      · rw [Array.toList_append] at hcv
        rcases LamX.among_app _ g5 hcv with z | z
        · obtain ⟨c0, e1, e2, e3⟩ := g6 p' cv z
          exact ⟨c0, e1, ev.keep _ _ e2 e3.1, e3⟩
        · exact ⟨c', z, upd_same, fzc⟩
    · exact k3.mono' ev (by rw [upd_ne nac, upd_ne hk])
end MP

set_option Elab.async false
set_option linter.all false
set_option maxRecDepth 100000
set_option maxHeartbeats 4000000
/-! defs that get a lambda; x(lambda: ..) -/
namespace MP
open PySem PySem.Spec PyProof.Rows L2
/-- what a def promises that gets a lambda for its first argument -/
def spL (P : Program) (w : World) (Γ : Ct) (mg : Str → Option Value) (base : Heap) (kk : Nat) (ps : List Str) (den : (Sto → R Dv) → Fn) (outer : List PySem.Env) (s : Shared) (vs : List V) (H : Hp) (Q : VK) (E : XK) : Prop :=
  vs.length = ps.length ∧ ∃ f c q ws vs0 g μ Z st wa, Thk P w Γ mg base kk outer s H f c q ws vs0 g ∧ Rep Γ H μ Z st ∧ RVs Γ H μ Z (.clo f c q ws vs0 :: wa) vs ∧ PostE Γ (fun c d _ H => E c d H) H μ Z [] Q (den g wa st)
structure FnL (P : Program) (w : World) (mg : Str → Option Value) (base : Heap) (Γ : Ct) (k kk : Nat) (f : Addr) (fd : FuncData) (ps : List Str) (den : (Sto → R Dv) → Fn) : Prop where
  run : ∀ (A : Around) (outer : List PySem.Env) (s : Shared) (H : Hp) (args : Args) (us : List Value) (vs : List V) (Q : VK) (E : XK), Room k A → A.guards = some [] → Env0 P w Γ.K mg base A outer s H → BindsTo s fd args (ps.zip us) → Vals vs us → spL P w Γ mg base kk ps den outer s vs H Q E →
    codeAny (model P w) A (.call (.ref f) args) (CR (L2.CX P w) outer P w H s Q E) s
/-- a def that gets a lambda keeps what its body's reading says -/
theorem ok_fnL {P : Program} {w : World} {mg : Str → Option Value} {base : Heap} {Γ : Ct} {x qual : Str} {st : Stmt} {f : Addr} {fd : FuncData} {N ps : List Str} {k kk : Nat} {c : Dv → (Sto → R Dv) → FS} {den : (Sto → R Dv) → Fn} (F : Fun Γ.K x qual st f fd) (S : FnScope N ps (defScope st))
    (hbody : ∀ (cdv : Value) (A : Around) (outer : List PySem.Env) (s : Shared) (H : Hp) (E : XK) (W : WX) (f' c' : Addr) (q : Str) (ws : List Dv) (vs : List V) (g : Sto → R Dv), Thk P w Γ mg base kk outer s H f' c' q ws vs g → Room k (A.deeper (envF qual st s f cdv)) → (A.deeper (envF qual st s f cdv)).guards = some [] → Takes (cxF Γ P w mg base N qual st f cdv A outer s H E) W →
      MB (cxF Γ P w mg base N qual st f cdv A outer s H E) Γ W (defBody st) (c (.clo f' c' q ws vs) g))
    (hden : ∀ (cl : Dv) (g : Sto → R Dv) (wa : List Dv) (s : Sto), finC s.length (c cl g (startD N.length (cl :: wa)) s) = den g wa s) : FnL P w mg base Γ (k + 1) kk f fd ps den := by
  obtain ⟨oc, od, kV, doc, pm, an, cdv, ct, osl, rfl, lk, hcd⟩ := F.ex
  refine ⟨fun A outer s H args us vs Q E room guards e0 binds rel ⟨hlen, f', c', q, ws, vs0, g, μ, Z, st0, wa, T, hR, rws, post⟩ => ?_⟩
  have stays : ∀ b o, base.get? b = some o → s.heap.get? b = some o := fun b o e => (e0.bs b o e).1
  have inK : Γ.K.In s.heap := e0.mod.kin.keeps stays
  have kinds : ∀ y ∈ ps.zip us, (defScope st).names.lookup y.1 = some .local ∨ ((defScope st).names.lookup y.1 = some .cell ∧ ((cellsFrom (s.heap.objs.size + 1) (defScope st).names []).lookup y.1).isSome = true) := by
    rintro ⟨n, v⟩ hy
    exact (S.par n (List.of_mem_zip hy).1).imp id fun q => ⟨q, PySem.W.cellsFrom_some _ _ _ (.inl q)⟩
  refine codeAny_call_function room.depth (inK _ _ lk) rfl S.co S.gen rfl (PySem.W.codeRec_of inK hcd) (binds _ _ _ _ ?_)
  refine wpAny_newFunctionEnv_cells S.kind kinds fun env he s1 entered => ?_
  subst he
  refine ⟨(e0.mod.nolimit.keeps stays).keeps entered.toInCall.keep, codeAny_func ?_⟩
  have I := inv_start (CX := L2.CX P w) (E := E) (cd := cdv) S room.hd e0 hlen rel entered
  have tk : Takes (cxF Γ P w mg base N qual st f cdv A outer s H E) (fun cls d _ H' => E cls d H') := takes_of rfl rfl rfl rfl
  rw [← hden (.clo f' c' q ws vs0)] at post
  have run := (hbody cdv A outer s H E _ f' c' q ws vs0 g T (room.deeper _) (by show (A.deeper _).guards = _; rw [← guards]; rfl) tk).run [] s1 (L2.start N vs) H { nx := fun _ H' => Q .non H', rt := Q } I
    ⟨μ, Z, startD N.length (.clo f' c' q ws vs0 :: wa), st0, re_start rws, hR, body_end hR post⟩
  refine wpAny_mono run (fun fl s' hs => ?_) fun e s' hs => hs
  cases fl with
  | ret u =>
    obtain ⟨v, σ', H', J, rv, q⟩ := hs
    exact ⟨v, H', J.os, J.bare, J.base, J.hok, rv, q⟩
  | next =>
    obtain ⟨σ', H', J, q⟩ := hs
    exact ⟨V.non, H', J.os, J.bare, J.base, J.hok, rfl, q⟩
  | brk => exact hs.elim fun _ z => z.elim fun _ z => z.2.elim
  | cont => exact hs.elim fun _ z => z.elim fun _ z => z.2.elim
section
variable {X : Cx} {Γ : Ct} {W : WX} {k kk : Nat} {f : Addr} {fd : FuncData} {ps : List Str} {den : (Sto → R Dv) → Fn} {x a : Str} {i : Nat} {p p1 p2 pos lpos : Pos} {es : List Expr} {fa : FA}
open Classical in
/-- a(): the lambda that the name holds -/
noncomputable def mThk (i : Nat) (cl : Dv) (g : Sto → R Dv) : FE := fun ρ s => if ρ[i]? = some (some cl) then g s else .no
theorem me_thk {f' c' : Addr} {q : Str} {ws : List Dv} {vs : List V} {g : Sto → R Dv} (T : Thk X.prog X.w Γ X.mg X.base kk X.outer X.s_0 X.H_0 f' c' q ws vs g) (hK : Γ.K = X.K) (hex : X.ex = []) (hr : Room kk X.A) (hg : X.A.guards = some []) (tk : Takes X W)
    (hN : X.N[i]? = some a) (hv : Vis X.env.scope a) (hd : (a == ("__debug__" : Str)) = false := by decide) (hcd : (a == ("__classdict__" : Str)) = false := by decide) :
    ME X Γ W (.Call (.Name a p1) [] [] p2) (mThk i (.clo f' c' q ws vs) g) := by
  refine ⟨fun pins s σ H Q I ⟨μ, Z, ρ, st, hE, hR, post⟩ => ?_⟩
  unfold mThk at post
  split at post
  · rename_i hi
    obtain ⟨v, hs, ev, hc, _, rws⟩ := hE.2 i _ hi
    subst ev
    refine wpAny_Call_Name_kw (thn ((pe_var (pos := p1) (i := i) hN hv hd hcd).run pins s σ H (fun v H1 => v = .ref f' ∧ H1 = H) I ⟨.ref f', hs, rfl, rfl⟩) fun u s1 ⟨v, H1, I1, r1, q1⟩ => ?_)
    obtain ⟨ev, eH⟩ := q1
    subst ev
    rw [eH] at I1
    obtain rfl : u = Value.ref f' := r1
    have un : Un (frs X.outer) [] X.H_0 H X.s_0.heap s1.heap := by have := I1.base; rw [hex] at this; exact this
    refine PySem.W.callWith_F0 (T.fn s1 H un) ?_
    refine wpAny_call (codeAny_mono (T.run X.A X.stack s1 H Q (WE W σ) μ Z st hr hg (by rw [hK]; exact I1.env0) un hc rws hR (post_call post)) fun r' s' hq => ?_)
    cases r' with
    | error e => exact passAt tk σ pins H s1 e s' I1 hq
    | ok fl =>
      cases fl with
      | ret u => exact I1.after hq
      | next => exact hq.elim
      | brk => exact hq.elim
      | cont => exact hq.elim
  · exact post.elim
/-- a def that gets a lambda is called -/
theorem run_L {pins : List (Addr × Obj)} {σ : L2.St} {H : Hp} {s : Shared} {Q : VK} {us : List Value} {vs : List V} (F : FnL X.prog X.w X.mg X.base Γ k kk f fd ps den) (hK : Γ.K = X.K) (hr : Room k X.A) (hg : X.A.guards = some []) (hb : Binds X.K fd ps []) (tk : Takes X W)
    (I : Inv X pins σ H s) (r : Vals vs us) (h : spL X.prog X.w Γ X.mg X.base kk ps den X.stack s vs H Q (WE W σ)) : wpAny (model X.prog X.w) X.A (call (.ref f) us) (EP X pins σ Q) X.xe s := by
  have hl : (us ++ []).length = ps.length := by rw [List.append_nil]; exact r.length.symm.trans h.1
  have hb' := hb s us I.kIn hl
  rw [List.append_nil] at hb'
  refine wpAny_call (codeAny_mono (F.run X.A X.stack s H ⟨us, []⟩ us vs Q (WE W σ) hr hg (by rw [hK]; exact I.env0) hb' r h) fun r' s' hq => ?_)
  cases r' with
  | error e => exact passAt tk σ pins H s e s' I hq
  | ok fl =>
    cases fl with
    | ret u => exact I.after hq
    | next => exact hq.elim
    | brk => exact hq.elim
    | cont => exact hq.elim
open Classical in
/-- x(a, ..): the lambda is handed on -/
noncomputable def mPass (cl : Dv) (g : Sto → R Dv) (den : (Sto → R Dv) → Fn) (fa : FA) : FE := fun ρ s => (fa ρ s).bind fun ws s1 => match ws with
  | w :: wa => if w = cl then den g wa s1 else .no
  | [] => .no
open Classical in
theorem me_pass {f' c' : Addr} {q : Str} {ws : List Dv} {vs : List V} {g : Sto → R Dv} {e : Expr} (T : Thk X.prog X.w Γ X.mg X.base kk X.outer X.s_0 X.H_0 f' c' q ws vs g) (F : FnL X.prog X.w X.mg X.base Γ k kk f fd ps den) (hK : Γ.K = X.K) (hex : X.ex = []) (hs : X.stack = X.env :: X.outer) (hf : X.env.frame = some X.env.locals)
    (hr : Room k X.A) (hg : X.A.guards = some []) (hgl : Gl X x) (hm : X.mg x = some (.ref f)) (hk : PySem.W.keepIn X.K (.ref f) = true) (hb : Binds X.K fd ps []) (tk : Takes X W) (ha : MA X Γ W (e :: es) fa) (n : Nat) (hl : FA.Len fa n) (hn : n = ps.length) (hdb : (x == ("__debug__" : Str)) = false := by decide)
    (he : starEach (e :: es) X.env = (false, eval e X.env) :: starEach es X.env := by rfl) (hpl : (backTo pos (starEach es X.env)).any (·.1) = false := by rfl) :
    ME X Γ W (.Call (.Name x p) (e :: es) [] pos) (mPass (.clo f' c' q ws vs) g den fa) := by
  refine ⟨fun pins s σ H Q I ⟨μ, Z, ρ, s0, hE, hR, post⟩ => ?_⟩
  refine wpAny_Call_Name_kw (ld_glob I hgl hm ?_ hdb)
  have q' : rdA Γ W fa σ H fun us H1 => us.length = ps.length ∧ ∃ μ1 st wa, Rep Γ H1 μ1 Z st ∧ RVs Γ H1 μ1 Z (.clo f' c' q ws vs :: wa) us ∧ PostE Γ (fun c d _ H => WE W σ c d H) H1 μ1 Z [] Q (den g wa st) := by
    refine ⟨μ, Z, ρ, s0, hE, hR, ?_⟩
    unfold mPass at post
    cases e1 : fa ρ s0 with
    | ok wl s1 =>
      rw [e1] at post
      cases wl with
      | nil => exact post.elim
      | cons w wa =>
        have post2 : PostE Γ W H μ Z σ Q (if w = .clo f' c' q ws vs then den g wa s1 else .no) := post
        clear post
        split at post2
        · rename_i ew
          subst ew
          intro us H1 μ1 ev R1 r1
          exact ⟨by rw [r1.len, hl _ _ _ _ e1, hn], μ1, s1, wa, R1, r1, post_call (PostE.evo ev post2)⟩
        · exact post2.elim
    | er x1 s1 => rw [e1] at post; exact post
    | no => rw [e1] at post; exact post
  refine PySem.W.callWith_K (h₀ := X.base) I.ok.mod.kin hk (thn (ha.run pos pins s σ H _ I q') fun us s1 ⟨vl, H1, I1, r, z1, μ1, st, wa, z2, z3, z4⟩ => ⟨I1.kIn, ?_⟩) he hpl
  have un : Un (frs X.outer) [] X.H_0 H1 X.s_0.heap s1.heap := by have := I1.base; rw [hex] at this; exact this
  exact run_L F hK hr hg hb tk I1 r ⟨z1, f', c', q, ws, vs, g, μ1, Z, st, wa, hs ▸ T.deeper hf I1.ok.above un, z2, z3, z4⟩
/-- x(lambda: .., ..) -/
def mLam (nt n : Nat) (q : Str) (gb : FE) (den : (Sto → R Dv) → Fn) (fa : FA) : FE := fun ρ s => match s[nt]? with
  | some (.tab m q') => if m = n ∧ q' = q then (fa ρ s).bind fun wa s1 => den (gb ρ) wa s1 else .no
  | _ => .no
theorem me_lam {c : Addr} {nt n : Nat} {params : Arguments} {body : Expr} {scope : Scope} {gb : FE} {kb : Nat} (F : FnL X.prog X.w X.mg X.base Γ k (kb + 1) f fd ps den) (hK : Γ.K = X.K)
    (hr : Room k X.A) (hg : X.A.guards = some []) (hgl : Gl X x) (hm : X.mg x = some (.ref f)) (hk : PySem.W.keepIn X.K (.ref f) = true) (hb : Binds X.K fd ps []) (tk : Takes X W)
    (TB : LamX.TabB X.base X.mg c (Γ.tb n)) (hcode : X.env.code = .ref c) (hp : LamP params scope) (L : LamN X.N X.env.scope scope)
    (hbody : ∀ (f c' : Addr) (A : Around) (outer : List PySem.Env) (s : Shared) (H : Hp) (E : XK) (W : WX), Room kb (A.deeper (LamX.lamEnv X scope s.heap.objs.size f c')) → (A.deeper (LamX.lamEnv X scope s.heap.objs.size f c')).guards = some [] → Takes (LamX.lamCx X A outer s H E scope f c') W → ME (LamX.lamCx X A outer s H E scope f c') Γ W body gb)
    (ha : MA X Γ W es fa) (j : Nat) (hl : FA.Len fa j) (hn : j + 1 = ps.length) (hdb : (x == ("__debug__" : Str)) = false := by decide)
    (he : starEach (.Lambda params body scope lpos :: es) X.env = (false, eval (.Lambda params body scope lpos) X.env) :: starEach es X.env := by rfl) (hpl : (backTo pos (starEach es X.env)).any (·.1) = false := by rfl) :
    ME X Γ W (.Call (.Name x p) (.Lambda params body scope lpos :: es) [] pos) (mLam nt n (X.env.qual ++ "<lambda>") gb den fa) := by
  refine ⟨fun pins s σ H Q I ⟨μ, Z, ρ, s0, hE, hR, post⟩ => ?_⟩
  refine wpAny_Call_Name_kw (ld_glob I hgl hm ?_ hdb)
  unfold mLam at post
  split at post
  · rename_i m q' et
    split at post
    · rename_i hmq
      obtain ⟨h1, h2⟩ := hmq
      subst h1 h2
      obtain ⟨a, g1, g2, g3, ps0, g4, g5, g6⟩ := hR.at nt _ et
      subst g3
      refine PySem.W.callWith_K (h₀ := X.base) I.ok.mod.kin hk ?_ he hpl
      show wpAny _ _ (spliced ((false, eval (.Lambda params body scope lpos) X.env) :: backTo pos (starEach es X.env))) _ _ s
      refine Calls.spliced_cons (lam_made hp I TB hcode g4 g5 (fun p' cv e => let ⟨c0, e1, e2, _⟩ := g6 p' cv e; ⟨c0, e1, e2⟩) (L.has I.ok) fun f' c' dV doc ctv tl H1 s1 I1 m1 o1 o2 o3 o4 o5 o6 => ?_)
      obtain ⟨ev, R1, fzc⟩ := made_rep hR g1 et g4 m1
      have E1 : RE Γ H1 μ Z ρ σ := hE.mono ev
      have q' : rdA Γ W fa σ H1 fun us H2 => ∃ μ2 st wa, us.length = j ∧ Rep Γ H2 μ2 Z st ∧ RVs Γ H2 μ2 Z wa us ∧ RE Γ H2 μ2 Z ρ σ ∧ H2 c' = some (LamX.CodeO c' (X.env.qual ++ "<lambda>")) ∧ Fz μ2 Z c' ∧ PostE Γ (fun c d _ H => WE W σ c d H) H2 μ2 Z [] Q (den (gb ρ) wa st) := by
        refine ⟨μ, Z, ρ, s0, E1, R1, ?_⟩
        cases e1 : fa ρ s0 with
        | ok wl st =>
          rw [e1] at post
          have post : PostE Γ W H μ Z σ Q (den (gb ρ) wl st) := post
          intro us H2 μ2 ev2 R2 r2
          exact ⟨μ2, st, wl, by rw [r2.len, hl _ _ _ _ e1], R2, r2, E1.mono ev2, ev2.keep _ _ o4 fzc.1, ev2.fz (by rw [o4]; intro z; cases z) fzc, post_call (PostE.evo (ev.trans ev2) post)⟩
        | er x1 s1 => rw [e1] at post; exact fun cls d H' μ' ev2 => post cls d H' μ' (ev.trans ev2)
        | no => rw [e1] at post; exact post
      have pinned : ∀ p ∈ (f', lamObj (X.env.qual ++ "<lambda>") params body scope (cloFrom X.env.cells scope.names []) dV doc ((X.mg "__name__").getD .none) c' ctv) :: tl, s1.heap.get? p.1 = some p.2 ∧ H1 p.1 = none ∧ s.heap.objs.size ≤ p.1 ∧ ∀ v, p.2.data ≠ .cell v := fun p hp => by
        rcases List.mem_cons.mp hp with e | e
        · subst e
          exact ⟨o1, o2, o3, fun v z => by cases z⟩
        · exact o5 p e
      have I1' : Inv X (((f', lamObj (X.env.qual ++ "<lambda>") params body scope (cloFrom X.env.cells scope.names []) dV doc ((X.mg "__name__").getD .none) c' ctv) :: tl) ++ pins) σ H1 s1 := I1.pins_of fun p hp => by
        rcases List.mem_append.mp hp with e | e
        · obtain ⟨y1, y2, y3, y4⟩ := pinned p e
          exact ⟨y1, y2, fun z => absurd I.lt (by rw [← z]; exact Nat.not_lt.mpr y3), I.nofs y3, y4⟩
        · exact I1.pin p (List.mem_append_right _ e)
      refine thn (ha.run pos _ s1 σ H1 _ I1' q') fun us s2 ⟨vl, H2, I2', r, μ2, st, wa, z1, z2, z3, z4, z5, z6, z7⟩ => ?_
      have I2 : Inv X pins σ H2 s2 := I2'.pins_of fun p hp => I2'.pin p (List.mem_append_right _ (List.mem_append_right _ hp))
      have T : Thk X.prog X.w Γ X.mg X.base (kb + 1) X.stack s2 H2 f' c' (X.env.qual ++ "<lambda>") (selW ρ) (selV ρ σ) (gb ρ) := thk_of (tl := tl) I2 hK L (I2'.pin _ (List.mem_append_right _ (List.mem_append_left _ List.mem_cons_self))).1 (I2'.pin _ (List.mem_append_right _ (List.mem_append_left _ List.mem_cons_self))).2.1 (Inv.outFrs I o3)
        (fun p hp => ⟨(I2'.pin p (List.mem_append_right _ (List.mem_append_left _ (List.mem_cons_of_mem _ hp)))).1, (I2'.pin p (List.mem_append_right _ (List.mem_append_left _ (List.mem_cons_of_mem _ hp)))).2.1, Inv.outFrs I (o5 p hp).2.2.1⟩) o6 z4 (hbody f' c')
      refine ⟨I2.kIn, ?_⟩
      exact run_L F hK hr hg hb tk I2 (.cons (show L2.RelV (.ref f') (.ref f') from rfl) r) ⟨by rw [List.length_cons, z1, hn], f', c', _, _, _, _, μ2, Z, st, wa, T, z2, ⟨.ref f', vl, rfl, ⟨rfl, z5, z6, sel_of z4⟩, z3⟩, z7⟩
    · exact post.elim
  · exact post.elim
end
end MP

set_option Elab.async false
set_option linter.all false
set_option maxRecDepth 100000
set_option maxHeartbeats 4000000
/-! the law's call, with one table of code objects -/
namespace MP
open PySem PySem.Spec PyProof.Rows L2
section
variable {P : Program} {w : World} {Γ : Ct} {mg mb : Str → Option Value} {k : Nat} {fa a c T : Addr} {fd : FuncData} {x q : Str} {den : Fn} {s₁ : Shared} {vs : List Value} {ns : List Int}
theorem law_GT (KX : Γ.K.In s₁.heap) (hns : s₁.heap.Ns mainGlobals mg) (hb : s₁.heap.Ns builtinsNs mb) (hbb : ∀ x : Str, x ≠ "__name__" → mb x = bootBuiltins x) (hlim : s₁.heap.NoLimit) (hg : s₁.gens = #[])
    (hT : s₁.heap.get? T = some { cls := .none, data := .fields #[] }) (nT : Γ.K.lookup T = none) (hC : PySem.W.CodeHd s₁.heap c T) (hΓ : Γ.tb 0 = T)
    (hbm : ∃ (bm : Addr) (ob : Obj), mg "__builtins__" = some (.ref bm) ∧ bm ≠ builtinsNs ∧ s₁.heap.get? bm = some ob ∧ ob.cls = .type "module" ∧ ob.dict = some builtinsNs ∧ ob.data = .plain)
    (ha : s₁.heap.get? a = some { cls := .type "list", data := .seq vs.toArray }) (hi : IntsAre vs ns) (hl : ns.length ≤ sizeLine) (hr : Room k callerA)
    (F : ∀ base : Heap, Γ.K.In base → base.Ns mainGlobals mg → LamX.TabB base mg c T → FnG P w mg base Γ k fa fd [x] den) (hbind : ∀ (s : Shared) (u : Value), BindsTo s fd ⟨[u], []⟩ [(x, u)])
    (hden : ∃ s', den [.sq (ns.map .int)] [.tab 0 q] = .ok (.bl true) s') :
    codeAny (model P w) callerA (.call (.ref fa) ⟨[.ref a], []⟩) (fun r s' => r = .ok (.ret (.bool true)) ∧ OldK s₁.heap s'.heap ∧ s'.os = s₁.os ∧ AllBare s'.gens) s₁ := by
  have rv : Vals (ns.map V.int) vs := vals_ints hi
  have rl := hi.length
  let ob : Obj := { cls := .type "list", data := .seq vs.toArray }
  let tr : HO := .frz ob (.lst (ns.map V.int))
  let H : Hp := fun b => if b = a ∧ Γ.K.lookup a = none then some tr else if b = T then some (.tbl #[]) else none
  have naT : a ≠ T := fun z => by rw [z, hT] at ha; cases ha
  have HT : H T = some (.tbl #[]) := by
    show (if T = a ∧ Γ.K.lookup a = none then some tr else if T = T then some (HO.tbl #[]) else none) = _
    rw [if_neg (fun z => naT z.1.symm), if_pos rfl]
  have Hin : ∀ b o, H b = some o → ((b = a ∧ Γ.K.lookup a = none) ∧ o = tr) ∨ (b = T ∧ o = .tbl #[]) := fun b o e => by
    have e' : (if b = a ∧ Γ.K.lookup a = none then some tr else if b = T then some (HO.tbl #[]) else none) = some o := e
    split at e'
    · exact .inl ⟨by assumption, (Option.some.inj e').symm⟩
    · split at e'
      · exact .inr ⟨by assumption, (Option.some.inj e').symm⟩
      · cases e'
  have free : ∀ b, ¬ (b = a ∧ Γ.K.lookup a = none) → b ≠ T → H b = none := fun b c d => (if_neg c).trans (if_neg d)
  have hok : HOk P w H s₁.heap := fun b o e => by
    rcases Hin b o e with ⟨⟨rfl, _⟩, rfl⟩ | ⟨rfl, rfl⟩
    · exact ⟨ha, by rw [List.length_map]; exact hl, vs, _, rv, ha⟩
    · exact hT
  let base := hidT s₁.heap H
  have keeps : ∀ {b : Addr} {o : Obj}, s₁.heap.get? b = some o → (∀ (u : Array Value) (n : Nat), o.data ≠ .seq u n) → o.cls ≠ .none → base.get? b = some o := fun {b o} e h1 h2 => hidT_get e (free b (fun z => by
    rw [z.1, ha] at e
    cases e
    exact h1 _ _ rfl) fun z => by
    rw [z, hT] at e
    cases e
    exact h2 rfl)
  have dictIn : ∀ {b : Addr} {m : Str → Option Value}, s₁.heap.Ns b m → base.Ns b m := fun {b m} ⟨o, es, ep, e, d, r⟩ => by
    refine ⟨o, es, ep, hidT_get e (free b (fun z => ?_) fun z => ?_), d, r⟩
    · rw [z.1, ha] at e
      cases e
      cases d
    · rw [z, hT] at e
      cases e
      cases d
  have kIn : Γ.K.In base := fun b o e => hidT_get (KX b o e) (free b (fun z => by
    rw [z.1, z.2] at e
    cases e) fun z => by
    rw [z, nT] at e
    cases e)
  have gM : base.Ns mainGlobals mg := dictIn hns
  have md : Mod Γ.K mg base := ⟨kIn, gM, ⟨mb, dictIn hb, hbb⟩, let ⟨mc, h1, h2⟩ := hlim; ⟨mc, dictIn h1, h2⟩⟩
  have gT : mainGlobals ≠ T := fun z => by
    obtain ⟨o, es, ep, e, d, _⟩ := hns
    rw [z, hT] at e
    cases e
    cases d
  have TB : LamX.TabB base mg c T := by
    refine ⟨?_, ?_, gT⟩
    · obtain ⟨o, us, file, tf, flags, tg, inF, text, tt, e1, r1, r2, r⟩ := hC
      exact ⟨o, us, file, tf, flags, tg, inF, text, tt, keeps e1 (fun u n z => by rw [r2] at z; cases z) (fun z => by rw [r1] at z; cases z), r1, r2, r⟩
    · obtain ⟨bm, o, b1, b2, b3, b4, b5, b6⟩ := hbm
      refine ⟨bm, o, b1, b2, fun z => ?_, fun z => ?_, keeps b3 (fun u n z => by rw [b6] at z; cases z) (fun z => by rw [b4] at z; cases z), b4, b5, b6⟩
      · obtain ⟨o2, es, ep, e, d, _⟩ := hns
        rw [z, e] at b3
        cases b3
        rw [b6] at d
        cases d
      · rw [z, hT] at b3
        cases b3
        cases b6
  have e0 : Env0 P w Γ.K mg base callerA [] s₁ H :=
    { frames := rfl, mod := md, bs := fun b o e => of_hidT e, bsz := Nat.le_of_eq (hidT_size _ _), funs := trivial, frf := fun b hb => (nomatch hb), hok := hok, bare := .of_eq hg }
  obtain ⟨s', hd⟩ := hden
  let μ : Mu := fun n => if n = 0 then some T else none
  have μin : ∀ {n : Nat} {b : Addr}, μ n = some b → n = 0 ∧ b = T := fun {n b} z => by
    have z : (if n = 0 then some T else none) = some b := z
    split at z
    · exact ⟨by assumption, (Option.some.inj z).symm⟩
    · cases z
  have rs : RV Γ H μ (fun _ => False) (.sq (ns.map .int)) (.ref a) := by
    refine ⟨a, _, rfl, ?_, RVs.of_ints ns⟩
    cases hk : Γ.K.lookup a with
    | none => exact .inl ⟨.inr ⟨ob, if_pos ⟨rfl, hk⟩⟩, ⟨fun n z => naT (μin z).2, id⟩⟩
    | some o =>
      have e := KX a o hk
      rw [ha] at e
      cases e
      exact .inr ⟨_, vs.toArray, _, hk, rfl, rfl, rfl, by rw [List.size_toArray, rl]; exact hl, by simpa using rv⟩
  have rep : Rep Γ H μ (fun _ => False) [.tab 0 q] := ⟨fun n o e => by
    cases n with
    | zero =>
      cases e
      exact ⟨T, rfl, id, hΓ.symm, #[], HT, trivial, fun pos cv z => by simp [codeAmong] at z⟩
    | succ n => simp at e, fun n m b e1 e2 => (μin e1).1.trans (μin e2).1.symm, fun n b e => by rw [(μin e).1]; exact Nat.zero_lt_one, fun b z => z.elim⟩
  refine codeAny_mono ((F base kIn gM TB).run callerA [] s₁ H ⟨[.ref a], []⟩ [.ref a] [.ref a] (fun v _ => v = .bl true) (fun _ _ _ => False) hr rfl e0 (hbind s₁ (.ref a)) (.cons rfl .nil)
    ⟨rfl, μ, _, _, [.sq (ns.map .int)], rep, RVs.cons rs rfl, by rw [hd]; exact fun v H' μ' _ _ r => r⟩) fun r s2 h => ?_
  cases r with
  | error e =>
    obtain ⟨_, _, _, _, _, _, _, _, _, _, _, _, z⟩ := h
    exact z.elim
  | ok fl =>
    cases fl with
    | next => exact h.elim
    | brk => exact h.elim
    | cont => exact h.elim
    | ret u =>
      obtain ⟨v, H', os, bare, un, hok', rv', q'⟩ := h
      obtain rfl : v = .bl true := q'
      obtain rfl : u = Value.bool true := rv'
      have key : ∀ b o, b ≠ T → s₁.heap.get? b = some o → s2.heap.get? b = some o := fun b o nb e => by
        cases qb : H b with
        | none => exact un.keep b o e qb (fun z => nomatch z) (fun z => nomatch z)
        | some u =>
          rcases Hin b u qb with ⟨⟨rfl, _⟩, rfl⟩ | ⟨z, _⟩
          · obtain ⟨e2, _⟩ := hok' b _ (un.frzs b ob _ qb)
            rw [ha] at e
            cases e
            exact e2
          · exact absurd z nb
      obtain ⟨more, z⟩ := un.tbls T #[] HT
      have grown : s2.heap.get? T = some { cls := .none, data := .fields (#[] ++ more) } := hok' T _ z
      refine ⟨rfl, ⟨fun b o e => ?_, fun b o e => ?_⟩, os, bare⟩
      · by_cases h : b = T
        · subst h
          rw [hT] at e
          cases e
          exact .inr (.inl ⟨(hC.tab hT).isCodeTable, rfl, #[], more, rfl, grown⟩)
        · exact .inl (key b o h e)
      · by_cases h : b = T
        · exact ⟨_, h ▸ grown⟩
        · exact ⟨o, key b o h e⟩
/-- what the head leaves to be shown; y: the def that makes lambdas -/
theorem walk_GT {l : PySem.W.OpenLaw} {n k : Nat} {q : Program} {loose : List Str} {XP : (Str → Option Value) → Heap → Prop} {YP : World → Heap → Prop} {d dy : DefRec} {Kf : Params → PySem.W.Frag} {x y qt : Str} (hn : l.most = some n) (hn2 : n ≤ sizeLine) (hdf : d.params.defaults = []) (hr : Room k callerA)
    (hY : ∀ (w : World) (h : Heap), YP w h → (Kf w.params).In h) (hy : (recsOf q).find? (fun e => e.name == y) = some dy)
    (F : ∀ (w : World) (mg : Str → Option Value) (fa : Addr) (h : Heap), (Kf w.params).In h → h.Ns mainGlobals mg → mg d.name = some (.ref fa) →
      ∃ (Γ : Ct) (fd : FuncData) (den : Fn) (c T : Addr), Γ.K = Kf w.params ∧ Γ.tb 0 = T ∧ PySem.W.tabIn Γ.K y = some (c, T) ∧ Γ.K.lookup T = none ∧ (∀ (s : Shared) (u : Value), BindsTo s fd ⟨[u], []⟩ [(x, u)]) ∧
        (∀ base : Heap, Γ.K.In base → base.Ns mainGlobals mg → LamX.TabB base mg c T → FnG l.prog w mg base Γ k fa fd [x] den) ∧
        ∀ ns : List Int, ns.length ≤ n → ∃ s', den [.sq (ns.map .int)] [.tab 0 qt] = .ok (.bl true) s') :
    PySem.W.WalkO q loose XP YP l.row.toRowW d [] (fun f vs => PySem.call f vs) := by
  refine Att.attach_call hn hdf fun w s₀ s₁ mg mb fa o pm cd doc a vs ns G Y ho hd hcd hmg hobj hints hlen hg => ?_
  have KX := hY w _ Y
  obtain ⟨Γ, fd, den, c, T, hK, hΓ, ht, nT, hb, hF, hden⟩ := F w mg fa _ KX G.T.g hmg
  obtain ⟨hC, hT⟩ := PySem.W.tab_of G.T (hK ▸ KX) hy ht
  exact law_GT (hK ▸ KX) G.T.g G.T.b G.T.builtins G.T.nolimit hg hT nT hC hΓ G.T.bmain hobj hints (Nat.le_trans hlen hn2) hr hF hb (hden ns hlen)
end
end MP

set_option Elab.async false
set_option linter.all false
set_option maxRecDepth 100000
set_option maxHeartbeats 4000000
/-! what the printed texts of a law with lambdas and own exceptions use -/
namespace MP
open PySem PySem.Spec PyProof.Rows L2
/-- what a call of x must know, x being one that gets a lambda -/
def CalL (P : Program) (w : World) (mg : Str → Option Value) (base : Heap) (Γ : Ct) (k kk : Nat) (x : Str) (ps : List Str) (den : (Sto → R Dv) → Fn) : Prop :=
  ∃ (f : Addr) (fd : FuncData), FnL P w mg base Γ k kk f fd ps den ∧ mg x = some (.ref f) ∧ PySem.W.keepIn Γ.K (.ref f) = true ∧ Binds Γ.K fd ps []
section
variable {X : Cx} {Γ : Ct} {W : WX} {k : Nat} {ps : List Str} {den : (Sto → R Dv) → Fn} {x : Str} {p pos lpos : Pos} {e : Expr} {es : List Expr} {fa : FA}
theorem me_lamC {c : Addr} {nt n : Nat} {params : Arguments} {body : Expr} {scope : Scope} {gb : FE} {kb : Nat} (C : CalL X.prog X.w X.mg X.base Γ k (kb + 1) x ps den) (hK : Γ.K = X.K)
    (hr : Room k X.A) (hg : X.A.guards = some []) (tk : Takes X W) (hgl : Gl X x) (TB : LamX.TabB X.base X.mg c (Γ.tb n)) (hcode : X.env.code = .ref c) (hp : LamP params scope) (L : LamN X.N X.env.scope scope)
    (hbody : ∀ (f c' : Addr) (A : Around) (outer : List PySem.Env) (s : Shared) (H : Hp) (E : XK) (W : WX), Room kb (A.deeper (LamX.lamEnv X scope s.heap.objs.size f c')) → (A.deeper (LamX.lamEnv X scope s.heap.objs.size f c')).guards = some [] → Takes (LamX.lamCx X A outer s H E scope f c') W → ME (LamX.lamCx X A outer s H E scope f c') Γ W body gb)
    (ha : MA X Γ W es fa) (j : Nat) (hl : FA.Len fa j) (hn : j + 1 = ps.length) (hdb : (x == ("__debug__" : Str)) = false := by decide)
    (he : starEach (.Lambda params body scope lpos :: es) X.env = (false, eval (.Lambda params body scope lpos) X.env) :: starEach es X.env := by rfl) (hpl : (backTo pos (starEach es X.env)).any (·.1) = false := by rfl) :
    ME X Γ W (.Call (.Name x p) (.Lambda params body scope lpos :: es) [] pos) (mLam nt n (X.env.qual ++ "<lambda>") gb den fa) := by
  obtain ⟨f, fd, F, hm, hk, hb⟩ := C
  exact me_lam F hK hr hg hgl hm (hK ▸ hk) (hK ▸ hb) tk TB hcode hp L hbody ha j hl hn hdb he hpl
theorem me_passC {kk : Nat} {f' c' : Addr} {q : Str} {ws : List Dv} {vs : List V} {g : Sto → R Dv} (C : CalL X.prog X.w X.mg X.base Γ k kk x ps den) (T : Thk X.prog X.w Γ X.mg X.base kk X.outer X.s_0 X.H_0 f' c' q ws vs g) (hK : Γ.K = X.K) (hex : X.ex = []) (hs : X.stack = X.env :: X.outer) (hf : X.env.frame = some X.env.locals)
    (hr : Room k X.A) (hg : X.A.guards = some []) (tk : Takes X W) (hgl : Gl X x) (ha : MA X Γ W (e :: es) fa) (n : Nat) (hl : FA.Len fa n) (hn : n = ps.length) (hdb : (x == ("__debug__" : Str)) = false := by decide)
    (he : starEach (e :: es) X.env = (false, eval e X.env) :: starEach es X.env := by rfl) (hpl : (backTo pos (starEach es X.env)).any (·.1) = false := by rfl) :
    ME X Γ W (.Call (.Name x p) (e :: es) [] pos) (mPass (.clo f' c' q ws vs) g den fa) := by
  obtain ⟨f, fd, F, hm, hk, hb⟩ := C
  exact me_pass T F hK hex hs hf hr hg hgl hm (hK ▸ hk) (hK ▸ hb) tk ha n hl hn hdb he hpl
end
/-- ok_fn, the def's code object being told -/
theorem ok_fnC {P : Program} {w : World} {mg : Str → Option Value} {base : Heap} {Γ : Ct} {x qual : Str} {st : Stmt} {f : Addr} {fd : FuncData} {N ps : List Str} {k : Nat} {c : FS} {c0 : Addr} (F : Fun Γ.K x qual st f fd) (hc : fd.code = .ref c0) (S : FnScope N ps (defScope st))
    (hbody : ∀ (A : Around) (outer : List PySem.Env) (s : Shared) (H : Hp) (E : XK) (W : WX), Room k (A.deeper (envF qual st s f (.ref c0))) → (A.deeper (envF qual st s f (.ref c0))).guards = some [] → Takes (cxF Γ P w mg base N qual st f (.ref c0) A outer s H E) W →
      MB (cxF Γ P w mg base N qual st f (.ref c0) A outer s H E) Γ W (defBody st) c) : FnG P w mg base Γ (k + 1) f fd ps (denOf N.length c) := by
  obtain ⟨oc, od, kV, doc, pm, an, cdv, ct, osl, e, lk, hcd⟩ := F.ex
  subst e
  have hc : cdv = .ref c0 := hc
  subst hc
  refine ⟨fun A outer s H args us vs Q E room guards e0 binds rel ⟨hlen, μ, Z, st0, ws, hR, rws, post⟩ => ?_⟩
  have stays : ∀ b o, base.get? b = some o → s.heap.get? b = some o := fun b o e => (e0.bs b o e).1
  have inK : Γ.K.In s.heap := e0.mod.kin.keeps stays
  have kinds : ∀ y ∈ ps.zip us, (defScope st).names.lookup y.1 = some .local ∨ ((defScope st).names.lookup y.1 = some .cell ∧ ((cellsFrom (s.heap.objs.size + 1) (defScope st).names []).lookup y.1).isSome = true) := by
    rintro ⟨n, v⟩ hy
    exact (S.par n (List.of_mem_zip hy).1).imp id fun q => ⟨q, PySem.W.cellsFrom_some _ _ _ (.inl q)⟩
  refine codeAny_call_function room.depth (inK _ _ lk) rfl S.co S.gen rfl (PySem.W.codeRec_of inK hcd) (binds _ _ _ _ ?_)
  refine wpAny_newFunctionEnv_cells S.kind kinds fun env he s1 entered => ?_
  subst he
  refine ⟨(e0.mod.nolimit.keeps stays).keeps entered.toInCall.keep, codeAny_func ?_⟩
  have I := inv_start (CX := L2.CX P w) (E := E) (cd := .ref c0) S room.hd e0 hlen rel entered
  have tk : Takes (cxF Γ P w mg base N qual st f (.ref c0) A outer s H E) (fun cls d _ H' => E cls d H') := takes_of rfl rfl rfl rfl
  have run := (hbody A outer s H E _ (room.deeper _) (by show (A.deeper _).guards = _; rw [← guards]; rfl) tk).run [] s1 (L2.start N vs) H { nx := fun _ H' => Q .non H', rt := Q } I
    ⟨μ, Z, startD N.length ws, st0, re_start rws, hR, body_end hR post⟩
  refine wpAny_mono run (fun fl s' hs => ?_) fun e s' hs => hs
  cases fl with
  | ret u =>
    obtain ⟨v, σ', H', J, rv, q⟩ := hs
    exact ⟨v, H', J.os, J.bare, J.base, J.hok, rv, q⟩
  | next =>
    obtain ⟨σ', H', J, q⟩ := hs
    exact ⟨V.non, H', J.os, J.bare, J.base, J.hok, rfl, q⟩
  | brk => exact hs.elim fun _ z => z.elim fun _ z => z.2.elim
  | cont => exact hs.elim fun _ z => z.elim fun _ z => z.2.elim
/-! ### facts of the classes -/
section
variable {K : PySem.W.Frag} {c j : Addr} {b : Bool}
theorem kitCls_of {t : Value} (h1 : PySem.W.isClsIn K j = true) (h2 : PySem.W.typeIn K (.ref j) = some (.type "type")) (h3 : PySem.W.subIn K t (.ref j) = some b) : PySem.W.kitCls K t (.ref j) = some b := by
  have e2 : ((PySem.W.clsIn K j).isSome && PySem.W.typeIn K (.ref j) == some (.type "type")) = true := by
    have h1' : (PySem.W.clsIn K j).isSome = true := h1
    rw [h1', h2] <;> rfl
  show (if ((PySem.W.clsIn K j).isSome && PySem.W.typeIn K (.ref j) == some (.type "type")) = true then PySem.W.subIn K t (.ref j) else none) = some b
  rw [if_pos e2]
  exact h3
theorem kitOne_of (h1 : PySem.W.isClsIn K j = true) (h2 : PySem.W.typeIn K (.ref j) = some (.type "type")) (hs : PySem.W.subIn K (.ref j) (.ref j) = some true) (h3 : PySem.W.subIn K (.ref c) (.ref j) = some b) : PySem.W.kitOne K (.ref c) (.ref j) = some b := by
  unfold PySem.W.kitOne
  split
  · rename_i h
    have : Value.ref c = Value.ref j := beq_iff_eq.mp h
    cases this
    rw [h3] at hs
    exact hs.symm
  · exact kitCls_of h1 h2 h3
theorem exmAny_of {c0 c8 : Addr} {b0 b8 : Bool} (a1 : PySem.W.isClsIn K c0 = true) (a2 : PySem.W.typeIn K (.ref c0) = some (.type "type")) (a3 : PySem.W.subIn K (.ref c0) (.type "BaseException") = some true) (b1 : PySem.W.isClsIn K c8 = true) (b2 : PySem.W.typeIn K (.ref c8) = some (.type "type")) (b3 : PySem.W.subIn K (.ref c8) (.type "BaseException") = some true)
    (h0 : PySem.W.subIn K (.ref c) (.ref c0) = some b0) (h8 : PySem.W.subIn K (.ref c) (.ref c8) = some b8) : PySem.W.exmAny K (.ref c) [.ref c0, .ref c8] = some (b0 || (b8 || false)) := by
  have e1 : PySem.W.exmOne K (.ref c) (.ref c0) = some b0 := by
    have e : (PySem.W.subIn K (.ref c0) (.type "BaseException") == some true) = true := by rw [a3]; rfl
    unfold PySem.W.exmOne
    rw [if_pos e]
    exact kitCls_of a1 a2 h0
  have e2 : PySem.W.exmOne K (.ref c) (.ref c8) = some b8 := by
    have e : (PySem.W.subIn K (.ref c8) (.type "BaseException") == some true) = true := by rw [b3]; rfl
    unfold PySem.W.exmOne
    rw [if_pos e]
    exact kitCls_of b1 b2 h8
  show (match PySem.W.exmOne K (.ref c) (.ref c0), PySem.W.exmAny K (.ref c) [.ref c8] with | some b, some d => some (b || d) | _, _ => none) = _
  have e3 : PySem.W.exmAny K (.ref c) [.ref c8] = some (b8 || false) := by
    show (match PySem.W.exmOne K (.ref c) (.ref c8), PySem.W.exmAny K (.ref c) [] with | some b, some d => some (b || d) | _, _ => none) = _
    rw [e2]
    rfl
  rw [e1, e3]
theorem tabIn_of {x : Str} {f T : Addr} {oc oc2 : Value} {od od2 : Option Addr} {sl sl2 : Array (Option Value)} {fd : FuncData} {vs : Array Value} (h1 : PySem.W.nsIn K mainGlobals x = some (some (.ref f))) (h2 : K.lookup f = some ⟨oc, od, .func fd, sl⟩) (h3 : fd.code = .ref c)
    (h4 : K.lookup c = some ⟨oc2, od2, .fields vs, sl2⟩) (h5 : vs[11]? = some (.ref T)) : PySem.W.tabIn K x = some (c, T) := by
  unfold PySem.W.tabIn
  rw [h1]
  dsimp only
  rw [h2]
  dsimp only
  rw [h3]
  dsimp only
  rw [h4]
  dsimp only
  rw [h5]
end
/-- what is known of a class of exceptions -/
structure ClsF (K : PySem.W.Frag) (C : Addr) : Prop where
  e : ExcC K C
  is : PySem.W.isClsIn K C = true
  ty : PySem.W.typeIn K (.ref C) = some (.type "type")
end MP

set_option Elab.async false
set_option linter.all false
set_option maxRecDepth 100000
set_option maxHeartbeats 4000000
/-! facts of the nine classes, put together -/
namespace MP
open PySem PySem.Spec PyProof.Rows L2
theorem forall9 {p : Nat → Prop} (h0 : p 0) (h1 : p 1) (h2 : p 2) (h3 : p 3) (h4 : p 4) (h5 : p 5) (h6 : p 6) (h7 : p 7) (h8 : p 8) : ∀ c, c < 9 → p c := fun c h => by
  match c, h with
  | 0, _ => exact h0
  | 1, _ => exact h1
  | 2, _ => exact h2
  | 3, _ => exact h3
  | 4, _ => exact h4
  | 5, _ => exact h5
  | 6, _ => exact h6
  | 7, _ => exact h7
  | 8, _ => exact h8
  | c + 9, h => exact absurd h (by omega)
theorem kitTy_of {K : PySem.W.Frag} {c : Addr} {T : String} {b : Bool} (hm : PySem.W.kitMeta T = true) (h : PySem.W.subIn K (.ref c) (.type T) = some b) : PySem.W.kitOne K (.ref c) (.type T) = some b := by
  unfold PySem.W.kitOne
  split
  · rename_i h
    have : Value.ref c = Value.type T := beq_iff_eq.mp h
    cases this
  · show (if PySem.W.kitMeta T = true then PySem.W.subIn K (.ref c) (.type T) else none) = some b
    rw [if_pos hm]
    exact h
section
variable {Γ : Ct} (e : ∀ c, c < 9 → ClsF Γ.K (Γ.cls c)) (s : ∀ c, c < 9 → ∀ j, j < 9 → PySem.W.subIn Γ.K (.ref (Γ.cls c)) (.ref (Γ.cls j)) = some (under c j))
include e s
theorem xci_of (v : ∀ c, c < 9 → PySem.W.subIn Γ.K (.ref (Γ.cls c)) (.type "ValueError") = some (decide (c ≤ 7))) (w : ∀ c, c < 9 → PySem.W.subIn Γ.K (.ref (Γ.cls c)) (.type "LookupError") = some (decide (c = 8))) : XcI Γ where
  is := fun c h => (e c h).e
  own := fun c j hc hj => kitOne_of (e j hj).is (e j hj).ty ((s j hj j hj).trans (by unfold under; simp)) (s c hc j hj)
  bas := fun c n b hc h => by
    unfold underT at h
    split at h
    · rename_i hn
      subst hn
      cases h
      exact kitTy_of (by rfl) (v c hc)
    · split at h
      · rename_i hn
        subst hn
        cases h
        exact kitTy_of (by rfl) (w c hc)
      · cases h
theorem ex_of : ∀ c, c < 9 → PySem.W.exmAny Γ.K (.ref (Γ.cls c)) [.ref (Γ.cls 0), .ref (Γ.cls 8)] = some true := fun c h => by
  have h0 : 0 < 9 := by decide
  have h8 : 8 < 9 := by decide
  rw [exmAny_of (e 0 h0).is (e 0 h0).ty (e 0 h0).e.hs (e 8 h8).is (e 8 h8).ty (e 8 h8).e.hs (s c h 0 h0) (s c h 8 h8)]
  refine congrArg some ?_
  revert c
  exact forall9 rfl rfl rfl rfl rfl rfl rfl rfl rfl
end
/-- what raising a class wants -/
theorem xcr_of {P : Program} {w : World} {K : PySem.W.Frag} {mg : Str → Option Value} {base : Heap} {C fI : Addr} {x qual f : Str} {params : Arguments} {scope : Scope} {dV kV doc pm cdv ct oc : Value} {an od : Option Addr} {osl : Array (Option Value)} {p1 p2 p3 p4 : Pos}
    (ox : OexC K C) (no : PySem.W.findIn K (.ref C) f = some none) (gC : mg x = some (.ref C)) (iC : PySem.W.findIn K (.ref C) "__init__" = some (some (.ref fI))) (tI : PySem.W.typeIn K (.ref fI) = some (.type "function"))
    (lk : K.lookup fI = some ⟨oc, od, .func (PySem.W.fnOf "__init__" qual params [.Assign [.Attribute (.Name "self" p1) f p2] (.Name f p3) p4] scope dV kV doc pm an cdv ct), osl⟩) (hcd : PySem.W.codeIn K cdv qual = true) (S : FnScope ["self", f] ["self", f] scope)
    (v0 : Vis scope "self") (v1 : Vis scope f) (d1 : (f == ("__debug__" : Str)) = false) (d2 : (f == ("__classdict__" : Str)) = false)
    (hb : ∀ us : List Value, us.length = (["self", f] : List Str).length → bindArgs (PySem.W.fnOf "__init__" qual params [.Assign [.Attribute (.Name "self" p1) f p2] (.Name f p3) p4] scope dV kV doc pm an cdv ct) ⟨us, []⟩ = pure ((["self", f] : List Str).zip us)) : XcR P w K mg base C x f :=
  ⟨ox, no, gC, fI, _, iC, tI, init_fn lk hcd S ox no v0 v1 d1 d2, L2.Binds.all hb⟩
end MP

set_option Elab.async false
set_option linter.all false
set_option maxRecDepth 100000
set_option maxHeartbeats 4000000
/-! rules for simp: exceptions, lambdas, isinstance of more things -/
namespace MP
open PySem PySem.Spec PyProof.Rows L2
section
variable {s s1 : Sto} {ρ : Env} {w v : Dv} {f g : FE} {fa : FA} {c su : FS} {ws : List Dv} {i n : Nat} {j : Int} {b : Bool} {y : Str} {ks : List Key}
@[simp] theorem isA_ii : isiA s [.int j, .ty "int"] = some (.bl true) := rfl
@[simp] theorem isA_ib : isiA s [.int j, .ty "bool"] = some (.bl false) := rfl
@[simp] theorem isA_it : isiA s [.int j, .ty "tuple"] = some (.bl false) := rfl
@[simp] theorem isA_bi : isiA s [.bl b, .ty "int"] = some (.bl true) := rfl
@[simp] theorem isA_bb : isiA s [.bl b, .ty "bool"] = some (.bl true) := rfl
@[simp] theorem isA_bt : isiA s [.bl b, .ty "tuple"] = some (.bl false) := rfl
@[simp] theorem isA_ni : isiA s [.non, .ty "int"] = some (.bl false) := rfl
@[simp] theorem isA_nt : isiA s [.non, .ty "tuple"] = some (.bl false) := rfl
@[simp] theorem isA_si : isiA s [.str y, .ty "int"] = some (.bl false) := rfl
@[simp] theorem isA_st : isiA s [.str y, .ty "tuple"] = some (.bl false) := rfl
@[simp] theorem isA_tt : isiA s [.tup ws, .ty "tuple"] = some (.bl true) := rfl
@[simp] theorem isA_ti : isiA s [.tup ws, .ty "int"] = some (.bl false) := rfl
@[simp] theorem isA_lt : isiA s [.lst ws, .ty "tuple"] = some (.bl false) := rfl
@[simp] theorem isA_li : isiA s [.lst ws, .ty "int"] = some (.bl false) := rfl
theorem isA_ex {k j : Nat} (hk : k < 9) (hj : j < 9) : isiA s [.exc k y w, .cl j] = some (.bl (under k j)) := by
  show (match isiD s [.exc k y w, .cl j] with | some w => some w | none => isxD s [.exc k y w, .cl j]) = _
  show isxD s [.exc k y w, .cl j] = _
  unfold isxD exCls
  dsimp only
  rw [if_pos hk]
  dsimp only
  rw [if_pos hj]
theorem fld_ex {k : Nat} (hk : k < 9) : fldD y s (.exc k y w) = some w := by
  unfold fldD
  dsimp only
  rw [if_pos ⟨hk, rfl⟩]
@[simp] theorem raise_ev {k : Nat} : mRaise k y f ρ s = (f ρ s).thenC ρ fun w s1 => .er ⟨k, y, w⟩ ρ s1 := rfl
@[simp] theorem finC_er {x : Ex} : finC s.length (.er x ρ s) = .er x s := by
  show finX s.length x s = _
  unfold finX
  rw [if_pos (Nat.le_refl _)]
theorem try_nx {ρ' : Env} (h : c ρ s = .nx ρ' s1) : mTryKeep i c su ρ s = .nx ρ' s1 := by unfold mTryKeep; rw [h]
theorem try_er {x : Ex} {ρ' : Env} (h : c ρ s = .er x ρ' s1) (hx : x.c < 9) : mTryKeep i c su ρ s = delC i (su (ρ'.set i (some (.exc x.c x.f x.w))) s1) := by
  unfold mTryKeep
  rw [h]
  exact if_pos hx
@[simp] theorem thk_ev {cl : Dv} {t : Sto → R Dv} : mThk 0 cl t (some cl :: ρ) s = t s := by unfold mThk; exact if_pos rfl
@[simp] theorem pass_ev {cl : Dv} {t : Sto → R Dv} {den : (Sto → R Dv) → Fn} : mPass cl t den (mCons (mVar 0) fa) (some cl :: ρ) s = (fa (some cl :: ρ) s).bind fun wa s1 => den t wa s1 := by
  unfold mPass mCons
  rw [var_0, bind_ok]
  cases fa (some cl :: ρ) s with
  | ok wa s1 => exact if_pos rfl
  | er _ _ => rfl
  | no => rfl
theorem lam_ev {nt m : Nat} {q : Str} {gb : FE} {den : (Sto → R Dv) → Fn} (h : s[nt]? = some (.tab m q)) : mLam nt m q gb den fa ρ s = (fa ρ s).bind fun wa s1 => den (gb ρ) wa s1 := by
  unfold mLam
  rw [h]
  exact if_pos ⟨rfl, rfl⟩
end
end MP

set_option Elab.async false
set_option linter.all false
set_option maxRecDepth 100000
set_option maxHeartbeats 4000000
/-! repr of scalars, of tuples of them, of an empty dict -/
namespace MP
open PySem PySem.Spec PyProof.Rows L2
mutual
def toX : Dv → Option PyData
  | .non => some .none | .bl b => some (.bool b) | .int i => some (.int i) | .str x => some (.str x)
  | .tup ws => (toXs ws).map .tuple
  | .dct ks ws => match ks, ws with
    | [], [] => some (.dict [])
    | _, _ => none
  | _ => none
def toXs : List Dv → Option (List PyData)
  | [] => some []
  | w :: ws => match toX w, toXs ws with
    | some d, some ds => some (d :: ds)
    | _, _ => none
end
section
variable {X : Cx} {Γ : Ct} {pins : List (Addr × Obj)} {σ : L2.St} {H : Hp} {s : Shared} {μ : Mu} {Z : Zs}
mutual
theorem rx_reads (I : Inv X pins σ H s) (hK : Γ.K = X.K) : ∀ (w : Dv) {v : V} {u : Value} {d : PyData}, RV Γ H μ Z w v → L2.RelV v u → toX w = some d → ∃ as, Reads s.heap u d as ∧ sysModules ∉ as
  | .non, _, _, _, r, ru, e => by cases e; rw [show _ = _ from r] at ru; cases ru; exact ⟨_, Reads.none, fun z => nomatch z⟩
  | .bl b, _, _, _, r, ru, e => by cases e; rw [show _ = _ from r] at ru; cases ru; exact ⟨_, Reads.bool b, fun z => nomatch z⟩
  | .int i, _, _, _, r, ru, e => by cases e; rw [show _ = _ from r] at ru; obtain ⟨t, rfl⟩ := ru; exact ⟨_, Reads.int i t, fun z => nomatch z⟩
  | .str x, _, _, _, r, ru, e => by cases e; rw [show _ = _ from r] at ru; obtain ⟨t, rfl⟩ := ru; exact ⟨_, Reads.str x t, fun z => nomatch z⟩
  | .tup ws, _, _, _, r, ru, e => by
    obtain ⟨a, xs, rfl, h2, h3⟩ := r
    cases ru
    cases q : toXs ws with
    | none => unfold toX at e; rw [q] at e; cases e
    | some ds =>
      unfold toX at e
      rw [q] at e
      cases e
      have hs := h2.sq
      rw [hK] at hs
      obtain ⟨its, rv, ⟨o, ho, hc, n, hd⟩, _⟩ := I.tuple hs
      obtain ⟨as, hr, hn⟩ := rxs_reads I hK ws h3 rv q
      exact ⟨_, Reads.tuple ho hc hd hr, hn⟩
  | .ty _, _, _, _, _, _, e => by cases e
  | .cl _, _, _, _, _, _, e => by cases e
  | .ref _, _, _, _, _, _, e => by cases e
  | .lst _, _, _, _, _, _, e => by cases e
  | .sq _, _, _, _, _, _, e => by cases e
  | .exc _ _ _, _, _, _, _, _, e => by cases e
  | .exn _, _, _, _, _, _, e => by cases e
  | .clo _ _ _ _ _, _, _, _, _, _, e => by cases e
  | .dct ks ws, _, _, _, r, ru, e => by
    unfold toX at e
    split at e
    · cases e
      obtain ⟨a, kvs, rfl, h1, _, h3, _⟩ := r
      cases ru
      have hk : kvs = [] := by cases kvs with
        | nil => rfl
        | cons _ _ => cases h3
      subst hk
      obtain ⟨_, hsm, vs, kv, o, es, ep, ho, hx, hd, _, hp, _⟩ := I.hok a _ h1
      cases kv
      have he : es.toList = [] := by
        generalize es.toList = l at hp
        cases hp
        rfl
      refine ⟨_, Reads.dict (as := []) (bs := []) ho hx.1 hd (by rw [he]; exact ReadsAll.nil) (by rw [he]; exact ReadsAll.nil), ?_⟩
      intro hm
      simp at hm
      rw [← hm] at hsm
      simp at hsm
    · cases e
theorem rxs_reads (I : Inv X pins σ H s) (hK : Γ.K = X.K) : ∀ (ws : List Dv) {vs : List V} {us : List Value} {ds : List PyData}, RVs Γ H μ Z ws vs → Vals vs us → toXs ws = some ds → ∃ as, ReadsAll s.heap us ds as ∧ sysModules ∉ as
  | [], _, _, _, r, ru, e => by
    cases e
    rw [show _ = _ from r] at ru
    cases ru
    exact ⟨_, ReadsAll.nil, fun z => nomatch z⟩
  | w :: ws, _, _, _, r, ru, e => by
    obtain ⟨x, xs, rfl, r1, r2⟩ := r
    cases ru with
    | cons u1 u2 =>
      unfold toXs at e
      split at e
      · rename_i d ds q1 q2
        cases e
        obtain ⟨as, h1, n1⟩ := rx_reads I hK w r1 u1 q1
        obtain ⟨bs, h2, n2⟩ := rxs_reads I hK ws r2 u2 q2
        exact ⟨_, ReadsAll.cons h1 h2, fun z => (List.mem_append.mp z).elim n1 n2⟩
      · cases e
end
def rReprX (K : PySem.W.Frag) : List V → Hp → VK → Prop := fun xs H Q => ∃ (x : V) (d : PyData), xs = [x] ∧ (∀ (X : Cx) (pins : List (Addr × Obj)) (σ : L2.St) (s : Shared) (u : Value), X.K = K → Inv X pins σ H s → L2.RelV x u → ∃ as, Reads s.heap u d as ∧ sysModules ∉ as) ∧
  d.showable = true ∧ d.depth ≤ 60 ∧ d.shown.length ≤ sizeLine ∧ Q (.str d.shown) H
theorem call_reprX (hg : X.A.guards = some []) (hu : X.A.units + 64 < cLine) : CallR X (.builtin "repr") (rReprX X.K) := by
  intro pins s σ H xs us Q I r h
  obtain ⟨x, d, rfl, hr, h1, h3, h4, q⟩ := h
  obtain ⟨u, rfl, ru⟩ := vals1 r
  obtain ⟨as, rd, hn⟩ := hr X pins σ s u rfl I ru
  have big : ∀ (a : Addr), u = .ref a → wpAny (model X.prog X.w) X.A (call (.builtin "repr") [u]) (EP X pins σ Q) X.xe s := fun a e => by
    subst e
    exact repr_of_reads' rd h1 (fun _ => hn) hg (by omega) (fun _ _ z => z) (fun h' u tk k => ⟨.str d.shown, H, I.kept (t' := tk) k, ⟨u, rfl⟩, q⟩) h4
  cases rd with
  | none => exact PySem.P.repr_of_none ⟨.str _, H, I.tok _, ⟨_, rfl⟩, q⟩
  | bool b => exact PySem.P.repr_of_bool ⟨.str _, H, I.tok _, ⟨_, rfl⟩, q⟩
  | int i t => exact PySem.P.repr_of_int (of_decide_eq_true h1) ⟨.str _, H, I.tok _, ⟨_, rfl⟩, q⟩
  | str x t => exact PySem.P.repr_of_str ⟨.str _, H, I.tok _, ⟨_, rfl⟩, q⟩ h4
  | list _ _ _ _ => exact big _ rfl
  | tuple _ _ _ _ => exact big _ rfl
  | dict _ _ _ _ _ => exact big _ rfl
def reprXD : ON := fun _ xs => match xs with
  | [x] => match toX x with
    | some d => if d.showable = true ∧ d.depth ≤ 60 ∧ d.shown.length ≤ lim then some (.str d.shown) else none
    | none => none
  | _ => none
theorem sReprX (hK : Γ.K = X.K) : OpN Γ (rReprX X.K) reprXD := fun H μ Z s xs w vs Q hR rx e k => by
  unfold reprXD at e
  split at e
  · rename_i x
    split at e
    · rename_i d q
      split at e
      · rename_i hc
        cases e
        obtain ⟨v, rfl, r1⟩ := one rx
        exact ⟨v, d, rfl, fun X' pins σ s u hX I ru => rx_reads I (hK.trans hX.symm) x r1 ru q, hc.1, hc.2.1, lim_ok hc.2.2, k _ H .refl hR rfl⟩
      · cases e
    · cases e
  · cases e
/-- repr of lists and tuples without dicts, or of what is without lists -/
def reprA : ON := fun s xs => match reprD s xs with
  | some w => some w
  | none => reprXD s xs
theorem cr_reprA (hg : X.A.guards = some []) (hu : X.A.units + 64 < cLine) : CallR X (.builtin "repr") (fun x H Q => rRepr X.K x H Q ∨ rReprX X.K x H Q) := CallR.or2 (call_repr hg hu) (call_reprX hg hu)
theorem sReprA (hK : Γ.K = X.K) : OpN Γ (fun x H Q => rRepr X.K x H Q ∨ rReprX X.K x H Q) reprA := OpN.or (sRepr hK) (sReprX hK)
/-- {} as a thing that nobody changes -/
theorem me_dct0 {W : WX} {pos : Pos} : ME X Γ W (.Dict [] [] pos) (mK (.dct [] [])) :=
  PE.imp pe_dnewK fun σ H Q ⟨μ, Z, ρ, s, hE, hR, q⟩ p hp => q (.ref p) _ μ (Evo.laid hp) (hR.laid hp) ⟨p, [], rfl, upd_same, hR.fz hp, rfl, rfl⟩
end
end MP

set_option Elab.async false
set_option linter.all false
set_option maxRecDepth 100000
set_option maxHeartbeats 400000
/-! things with {} in them: what repr says of them; sums of rows -/
namespace MP
open PySem PySem.Spec PyProof.Rows L2
structure PlX (n k : Nat) (w : Dv) (d : PyData) : Prop where
  to : toX w = some d
  shw : d.showable = true
  deep : d.depth ≤ k
  len : d.shown.length + 2 ≤ 2000 * n
structure PlsX (n k : Nat) (ws : List Dv) (ds : List PyData) : Prop where
  to : toXs ws = some ds
  shw : PyData.showableAll ds = true
  deep : PyData.depthAll ds ≤ k
  len : piled (PyData.shownAll ds) ≤ 2000 * n
variable {n m k j : Nat} {w : Dv} {d : PyData} {ws us : List Dv} {ds es : List PyData} {i : Int} {ns : List Int} {s : Sto}
theorem plx_int (h : Sm i) : PlX 1 0 (.int i) (.int i) := ⟨rfl, (pl_int h).shw, (pl_int h).deep, (pl_int h).len⟩
theorem plx_non : PlX 1 0 .non .none := ⟨rfl, by decide +kernel, by decide +kernel, by decide +kernel⟩
theorem plx_bl {b : Bool} : PlX 1 0 (.bl b) (.bool b) := by cases b <;> exact ⟨rfl, by decide +kernel, by decide +kernel, by decide +kernel⟩
theorem plx_dct : PlX 1 1 (.dct [] []) (.dict []) := ⟨rfl, by decide +kernel, by decide +kernel, by decide +kernel⟩
theorem plsx_nil : PlsX 0 k [] [] where
  to := rfl
  shw := by simp only [PyData.showableAll]
  deep := by simp only [PyData.depthAll]; exact Nat.zero_le _
  len := by simp only [PyData.shownAll, piled_nil]; exact Nat.zero_le _
theorem plsx_cons (h : PlX n k w d) (t : PlsX m k ws ds) : PlsX (n + m) k (w :: ws) (d :: ds) where
  to := by simp only [toXs, h.to, t.to]
  shw := by simp only [PyData.showableAll, h.shw, t.shw]; rfl
  deep := by simp only [PyData.depthAll]; exact Nat.max_le.mpr ⟨h.deep, t.deep⟩
  len := by
    have h1 := h.len
    have h2 := t.len
    simp only [PyData.shownAll, piled_cons]
    omega
theorem PlX.mono (h : PlX n k w d) (hn : n ≤ m) (hk : k ≤ j) : PlX m j w d := ⟨h.to, h.shw, Nat.le_trans h.deep hk, Nat.le_trans h.len (Nat.mul_le_mul_left _ hn)⟩
theorem PlsX.mono (h : PlsX n k ws ds) (hn : n ≤ m) (hk : k ≤ j) : PlsX m j ws ds := ⟨h.to, h.shw, Nat.le_trans h.deep hk, Nat.le_trans h.len (Nat.mul_le_mul_left _ hn)⟩
theorem plx_tup (h : PlsX n k ws ds) : PlX (n + 1) (k + 1) (.tup ws) (.tuple ds) where
  to := by simp only [toX, h.to]; rfl
  shw := by simp only [PyData.showable, h.shw]
  deep := by simp only [PyData.depth]; have := h.deep; omega
  len := by
    have h1 := tupleText_len (PyData.shownAll ds)
    have h2 := h.len
    simp only [PyData.shown]
    omega
theorem plsx_app : ∀ {ws : List Dv} {n : Nat} {ds : List PyData}, PlsX n k ws ds → PlsX m k us es → PlsX (n + m) k (ws ++ us) (ds ++ es)
  | [], n, ds, h, h2 => by
    have e := h.to
    cases e
    exact h2.mono (Nat.le_add_left _ _) (Nat.le_refl _)
  | w :: ws, n, ds, h, h2 => by
    obtain ⟨ho, hs, hd, hl⟩ := h
    unfold toXs at ho
    split at ho
    · rename_i d ds' q1 q2
      cases ho
      simp only [PyData.showableAll, Bool.and_eq_true] at hs
      simp only [PyData.depthAll] at hd
      simp only [PyData.shownAll, piled_cons] at hl
      have ih := plsx_app (n := n) (ws := ws) (ds := ds') ⟨q2, hs.2, by omega, by omega⟩ h2
      refine ⟨?_, ?_, ?_, ?_⟩
      · show (match toX w, toXs (ws ++ us) with | some d, some ds => some (d :: ds) | _, _ => none) = _
        rw [q1, ih.to]
        rfl
      · show PyData.showableAll (d :: (ds' ++ es)) = true
        simp only [PyData.showableAll, hs.1, ih.shw]; rfl
      · show PyData.depthAll (d :: (ds' ++ es)) ≤ k
        have := ih.deep
        simp only [PyData.depthAll]; omega
      · show piled (PyData.shownAll (d :: (ds' ++ es))) ≤ _
        have e1 : ∀ (a b : List PyData), piled (PyData.shownAll (a ++ b)) = piled (PyData.shownAll a) + piled (PyData.shownAll b) := fun a => by
          induction a with
          | nil => intro b; simp [PyData.shownAll, piled_nil]
          | cons x a iha => intro b; simp only [List.cons_append, PyData.shownAll, piled_cons, iha]; omega
        have h3 := h2.len
        simp only [PyData.shownAll, piled_cons, e1]
        omega
    · cases ho
theorem pls_app : ∀ {ws : List Dv} {n : Nat} {ds : List PyData}, Pls n k ws ds → Pls m k us es → Pls (n + m) k (ws ++ us) (ds ++ es)
  | [], n, ds, h, h2 => by
    have e := h.to
    cases e
    exact h2.mono (Nat.le_add_left _ _) (Nat.le_refl _)
  | w :: ws, n, ds, h, h2 => by
    obtain ⟨ho, ha, hs, hz, hd, hl⟩ := h
    unfold toDs at ho
    split at ho
    · rename_i d ds' q1 q2
      cases ho
      simp only [PyData.showableAll, Bool.and_eq_true] at hs
      simp only [PyData.canLayAll0, Bool.and_eq_true] at ha
      simp only [PyData.hasDictAll, Bool.or_eq_false_iff] at hz
      simp only [PyData.depthAll] at hd
      simp only [PyData.shownAll, piled_cons] at hl
      have ih := pls_app (n := n) (ws := ws) (ds := ds') ⟨q2, ha.2, hs.2, hz.2, by omega, by omega⟩ h2
      refine ⟨?_, ?_, ?_, ?_, ?_, ?_⟩
      · show (match toD0 w, toDs (ws ++ us) with | some d, some ds => some (d :: ds) | _, _ => none) = _
        rw [q1, ih.to]
        rfl
      · show PyData.canLayAll0 (d :: (ds' ++ es)) = true
        simp only [PyData.canLayAll0, ha.1, ih.lay]; rfl
      · show PyData.showableAll (d :: (ds' ++ es)) = true
        simp only [PyData.showableAll, hs.1, ih.shw]; rfl
      · show PyData.hasDictAll (d :: (ds' ++ es)) = false
        simp only [PyData.hasDictAll, hz.1, ih.nod]; rfl
      · show PyData.depthAll (d :: (ds' ++ es)) ≤ k
        have := ih.deep
        simp only [PyData.depthAll]; omega
      · show piled (PyData.shownAll (d :: (ds' ++ es))) ≤ _
        have e1 : ∀ (a b : List PyData), piled (PyData.shownAll (a ++ b)) = piled (PyData.shownAll a) + piled (PyData.shownAll b) := fun a => by
          induction a with
          | nil => intro b; simp [PyData.shownAll, piled_nil]
          | cons x a iha => intro b; simp only [List.cons_append, PyData.shownAll, piled_cons, iha]; omega
        have h3 := h2.len
        simp only [PyData.shownAll, piled_cons, e1]
        omega
    · cases ho
theorem plsx_ints : ∀ {ns : List Int}, (∀ i ∈ ns, Sm i) → PlsX ns.length 0 (ns.map .int) (ns.map .int)
  | [], _ => plsx_nil
  | a :: ns, h => by
    have := plsx_cons (plx_int (h a List.mem_cons_self)) (plsx_ints fun i hi => h i (List.mem_cons_of_mem _ hi))
    rw [Nat.add_comm] at this
    exact this
theorem reprX_pl (h : PlX n k w d) (hn : n ≤ 8000) (hk : k ≤ 60) : reprXD s [w] = some (.str d.shown) := by
  have h1 := h.len
  show (match toX w with
      | some d => if d.showable = true ∧ d.depth ≤ 60 ∧ d.shown.length ≤ lim then some (Dv.str d.shown) else none
      | none => none) = _
  rw [h.to]
  exact if_pos ⟨h.shw, Nat.le_trans h.deep hk, by unfold lim; omega⟩
theorem reprD_str {w r : Dv} (h : reprD s [w] = some r) : ∃ t, r = .str t := by
  unfold reprD at h
  dsimp only at h
  split at h
  · split at h
    · split at h
      · cases h; exact ⟨_, rfl⟩
      · cases h
    · cases h
  · cases h
/-- repr says something -/
def Sh (w : Dv) : Prop := ∀ s : Sto, ∃ t, reprA s [w] = some (.str t)
theorem sh_x (h : PlX n k w d) (hn : n ≤ 8000) (hk : k ≤ 60) : Sh w := fun s => by
  unfold reprA
  cases q : reprD s [w] with
  | some r => obtain ⟨t, rfl⟩ := reprD_str q; exact ⟨t, rfl⟩
  | none => exact ⟨_, reprX_pl h hn hk⟩
theorem sh_d {t : Str} (h : ∀ s : Sto, reprD s [w] = some (.str t)) : Sh w := fun s => ⟨t, by unfold reprA; rw [h s]⟩
theorem sh_tup (h : Pl n k (.tup ws) d) (hn : n ≤ 8000) (hk : k ≤ 60) : Sh (.tup ws) := sh_d fun s => repr_tup h hn hk
theorem sh_lst (h : Pl n k (.lst ws) d) (hn : n ≤ 8000) (hk : k ≤ 60) : Sh (.lst ws) := sh_d fun s => repr_lst h hn hk
end MP

set_option Elab.async false
set_option linter.all false
set_option maxRecDepth 100000
set_option maxHeartbeats 400000
/-! more rules to evaluate by -/
namespace MP
open PySem PySem.Spec PyProof.Rows L2
section
variable {s s1 s2 s3 : Sto} {ρ : Env} {f g : FE} {fa : FA} {lo hi : FO} {x w y : Dv} {ws us : List Dv} {a b : Option Int} {i j : Int} {k : Nat} {t : FT} {bb : Bool}
theorem sl_v {op : OS} (h : f ρ s = .ok x s1) (hl : lo ρ s1 = .ok a s2) (hh : hi ρ s2 = .ok b s3) (e : op s3 x a b = some w) : mSl op f lo hi ρ s = .ok w s3 := by
  rw [sl_ev, h, bind_ok, hl, bind_ok, hh, bind_ok, e, of_some]
theorem part_v (h : f ρ s = .ok (.int i) s1) : mPart f ρ s = .ok (some i) s1 := by rw [part_ev, h, bind_ok]
theorem cut_from : cutD ws (some (k : Int)) none = ws.drop k := by
  unfold cutD
  rw [HT.sIx_nat, HT.sIx_none]
  by_cases h : k ≤ ws.length
  · rw [Nat.min_eq_left h]
    exact List.take_of_length_le (by rw [List.length_drop]; omega)
  · rw [Nat.min_eq_right (by omega), List.drop_length, List.drop_of_length_le (by omega)]
    simp
theorem add_tup (h : ws.length + us.length ≤ 1000000) : addD s (.tup ws) (.tup us) = some (.tup (ws ++ us)) := by
  show (if ws.length + us.length ≤ lim then some (Dv.tup (ws ++ us)) else none) = _
  rw [if_pos (by unfold lim; omega)]
theorem add_lst (h : ws.length + us.length ≤ 1000000) : addD s (.lst ws) (.lst us) = some (.lst (ws ++ us)) := by
  show (if ws.length + us.length ≤ lim then some (Dv.lst (ws ++ us)) else none) = _
  rw [if_pos (by unfold lim; omega)]
theorem un_v {o : O1} (h : f ρ s = .ok x s1) (e : o s1 x = some w) : mUn o f ρ s = .ok w s1 := by rw [un_ev, h, bind_ok, e, of_some]
theorem if_vt {g' : FE} {r : R Dv} (h : t ρ s = .ok true s1) (h2 : f ρ s1 = r) : mIf t f g' ρ s = r := by rw [if_ev, h, bind_ok, if_pos rfl, h2]
theorem if_vf {g' : FE} {r : R Dv} (h : t ρ s = .ok false s1) (h2 : f ρ s1 = r) : mIf t g' f ρ s = r := by rw [if_ev, h, bind_ok, if_neg Bool.false_ne_true, h2]
theorem not_v (h : t ρ s = .ok bb s1) : mNot t ρ s = .ok (!bb) s1 := by rw [not_ev, h, bind_ok]
theorem ne_of_eq {x y : Dv} {c : Bool} (h : eqD s x y = some (.bl c)) : neD s x y = some (.bl (!c)) := by
  unfold neD
  unfold eqD at h
  cases q : eqB s x y with
  | none => rw [q] at h; cases h
  | some c' => rw [q] at h; cases h; rfl
end
end MP
namespace MP
open PySem PySem.Spec PyProof.Rows L2
mutual
theorem eqv_refl : ∀ d : PyData, d.hasDict = false → PyData.eqv d d = true
  | .none, _ => by simp only [PyData.eqv]
  | .bool b, _ => by simp only [PyData.eqv]; cases b <;> rfl
  | .int i, _ => by simp only [PyData.eqv]; exact beq_self_eq_true i
  | .str x, _ => by simp only [PyData.eqv]; exact beq_self_eq_true x
  | .list xs, h => by simp only [PyData.eqv]; exact eqvs_refl xs (by simpa only [PyData.hasDict] using h)
  | .tuple xs, h => by simp only [PyData.eqv]; exact eqvs_refl xs (by simpa only [PyData.hasDict] using h)
  | .dict _, h => by simp [PyData.hasDict] at h
theorem eqvs_refl : ∀ ds : List PyData, PyData.hasDictAll ds = false → PyData.eqvAll ds ds = true
  | [], _ => by simp only [PyData.eqvAll]
  | d :: ds, h => by
    simp only [PyData.hasDictAll, Bool.or_eq_false_iff] at h
    simp only [PyData.eqvAll, eqv_refl d h.1, eqvs_refl ds h.2]; rfl
end
section
variable {n m k j : Nat} {w v : Dv} {d e : PyData} {s : Sto} {ws us : List Dv}
theorem shaped_pl (h : Pl n k w d) (hk : k ≤ 64) : SeqAt.shaped d = true := by
  unfold SeqAt.shaped
  rw [h.lay, decide_eq_true (Nat.le_trans h.deep hk)]
  rfl
/-- == of two rows or lists -/
theorem eq_pl (hw : flat w = none) (ht : toD s w = toD0 w) (hv : toD s v = toD0 v) (h : Pl n k w d) (h2 : Pl m j v e) (hk : k ≤ 64) (hj : j ≤ 64) : eqD s w v = some (.bl (PyData.eqv d e)) := by
  unfold eqD eqB
  rw [hw]
  dsimp only
  rw [ht, hv, h.to, h2.to]
  dsimp only
  rw [if_pos ⟨shaped_pl h hk, shaped_pl h2 hj⟩]
  rfl
theorem eq_tt (h : Pl n k (.tup ws) d) (h2 : Pl m j (.tup us) e) (hk : k ≤ 64) (hj : j ≤ 64) : eqD s (.tup ws) (.tup us) = some (.bl (PyData.eqv d e)) := eq_pl rfl rfl rfl h h2 hk hj
theorem eq_ll (h : Pl n k (.lst ws) d) (h2 : Pl m j (.lst us) e) (hk : k ≤ 64) (hj : j ≤ 64) : eqD s (.lst ws) (.lst us) = some (.bl (PyData.eqv d e)) := eq_pl rfl rfl rfl h h2 hk hj
theorem eq_t_refl (h : Pl n k (.tup ws) d) (hk : k ≤ 64) : eqD s (.tup ws) (.tup ws) = some (.bl true) := by rw [eq_tt h h hk hk, eqv_refl d h.nod]
theorem eq_l_refl (h : Pl n k (.lst ws) d) (hk : k ≤ 64) : eqD s (.lst ws) (.lst ws) = some (.bl true) := by rw [eq_ll h h hk hk, eqv_refl d h.nod]
theorem pls_len {ds : List PyData} : ∀ {ws : List Dv}, toDs ws = some ds → ds.length = ws.length
  | [], h => by cases h; rfl
  | w :: ws, h => by
    unfold toDs at h
    split at h
    · rename_i d ds' q1 q2
      cases h
      rw [List.length_cons, List.length_cons, pls_len q2]
    · cases h
theorem eq_t_nil (h : Pl n k (.tup ws) d) (hk : k ≤ 64) : eqD s (.tup ws) (.tup []) = some (.bl (decide (ws = []))) := by
  rw [eq_tt h (pl_tup (pls_nil (k := 0))) hk (by decide)]
  have ht := h.to
  have : ∃ ds, toDs ws = some ds ∧ d = .tuple ds := by
    simp only [toD0] at ht
    cases q : toDs ws with
    | none => rw [q] at ht; cases ht
    | some ds => rw [q] at ht; cases ht; exact ⟨ds, rfl, rfl⟩
  obtain ⟨ds, q, rfl⟩ := this
  have hl := pls_len q
  cases ws with
  | nil => cases q; rfl
  | cons w ws =>
    cases ds with
    | nil => simp at hl
    | cons a b => rfl
theorem eq_l_nil (h : Pl n k (.lst ws) d) (hk : k ≤ 64) : eqD s (.lst ws) (.lst []) = some (.bl (decide (ws = []))) := by
  rw [eq_ll h (pl_lst (pls_nil (k := 0))) hk (by decide)]
  have ht := h.to
  have : ∃ ds, toDs ws = some ds ∧ d = .list ds := by
    simp only [toD0] at ht
    cases q : toDs ws with
    | none => rw [q] at ht; cases ht
    | some ds => rw [q] at ht; cases ht; exact ⟨ds, rfl, rfl⟩
  obtain ⟨ds, q, rfl⟩ := this
  have hl := pls_len q
  cases ws with
  | nil => cases q; rfl
  | cons w ws =>
    cases ds with
    | nil => simp at hl
    | cons a b => rfl
end
end MP
namespace MP
open PySem PySem.Spec PyProof.Rows L2
section
variable {n : Nat} {c c' : FS} {ρ ρ1 : Env} {s s1 : Sto} {r : R Dv} {w : Dv} {x : Ex}
theorem fin_nx (h : c ρ s = .nx ρ1 s1) (k : finC n (c' ρ1 s1) = r) : finC n (mSeq c c' ρ s) = r := by rw [seq_nx h rfl]; exact k
theorem fin_rtS (h : c ρ s = .rt w s1) (k : finC n (.rt w s1) = r) : finC n (mSeq c c' ρ s) = r := by rw [seq_rt h]; exact k
theorem seq_er (h : c ρ s = .er x ρ1 s1) : mSeq c c' ρ s = .er x ρ1 s1 := by
  unfold mSeq
  rw [h]
theorem fin_erS (h : c ρ s = .er x ρ1 s1) (k : finC n (.er x ρ1 s1) = r) : finC n (mSeq c c' ρ s) = r := by rw [seq_er h]; exact k
theorem fin_v {d : FS} (h : d ρ s = .rt w s1) (k : finC n (.rt w s1) = r) : finC n (d ρ s) = r := by rw [h]; exact k
end
end MP
namespace MP
open PySem PySem.Spec PyProof.Rows L2
section
variable {t u : FT} {ρ : Env} {s s1 : Sto} {r : R Bool}
theorem or_t (h : t ρ s = .ok true s1) : mOr t u ρ s = .ok true s1 := by unfold mOr; rw [h, bind_ok]; exact if_pos rfl
theorem or_f (h : t ρ s = .ok false s1) (h2 : u ρ s1 = r) : mOr t u ρ s = r := by unfold mOr; rw [h, bind_ok, if_neg Bool.false_ne_true, h2]
theorem and_t (h : t ρ s = .ok true s1) (h2 : u ρ s1 = r) : mAnd t u ρ s = r := by unfold mAnd; rw [h, bind_ok, if_pos rfl, h2]
theorem and_f (h : t ρ s = .ok false s1) : mAnd t u ρ s = .ok false s1 := by unfold mAnd; rw [h, bind_ok]; exact if_neg Bool.false_ne_true
theorem not_vt (h : t ρ s = .ok true s1) : mNot t ρ s = .ok false s1 := not_v h
theorem not_vf (h : t ρ s = .ok false s1) : mNot t ρ s = .ok true s1 := not_v h
theorem forL_er {g : FG} {body : FS} {ρ ρ1 ρ2 : Env} {s s2 : Sto} {w : Dv} {ws : List Dv} {x : Ex} (h1 : g w ρ s = some ρ1) (h2 : body ρ1 s = .er x ρ2 s2) : forL none g body (w :: ws) ρ s = .er x ρ2 s2 := by
  rw [forL, if_pos (.inl rfl), h1]
  dsimp only
  rw [h2]
end
end MP
namespace MP
open PySem PySem.Spec PyProof.Rows L2
section
variable {ρ : Env} {s s1 s2 : Sto} {f : FE} {fa : FA} {x : Ex} {d : Fn} {o : ON} {g : FG} {w : Dv} {k : Nat}
theorem cons_er (h : f ρ s = .er x s1) : mCons f fa ρ s = .er x s1 := by unfold mCons; rw [h]; rfl
theorem cons_er2 (h : f ρ s = .ok w s1) (h2 : fa ρ s1 = .er x s2) : mCons f fa ρ s = .er x s2 := by unfold mCons; rw [h, bind_ok, h2]; rfl
theorem call_er (h : fa ρ s = .er x s1) : mCall d fa ρ s = .er x s1 := by unfold mCall; rw [h]; rfl
theorem blt_er (h : fa ρ s = .er x s1) : mBlt o fa ρ s = .er x s1 := by unfold mBlt; rw [h]; rfl
theorem ret_er (h : f ρ s = .er x s1) : mRet f ρ s = .er x ρ s1 := by unfold mRet; rw [h]; rfl
theorem expr_er (h : f ρ s = .er x s1) : mExpr f ρ s = .er x ρ s1 := by unfold mExpr; rw [h]; rfl
theorem asg_er (h : f ρ s = .er x s1) : mAsg f g ρ s = .er x ρ s1 := by unfold mAsg; rw [h]; rfl
theorem expr_v (h : f ρ s = .ok w s1) : mExpr f ρ s = .nx ρ s1 := by unfold mExpr; rw [h]; rfl
theorem asg_gv {ρ' : Env} (h : f ρ s = .ok w s1) (h2 : g w ρ s1 = some ρ') : mAsg f g ρ s = .nx ρ' s1 := by unfold mAsg; rw [h, then_ok, h2]
theorem mul_lst {ws : List Dv} (h : ws.length * k ≤ 1000000) (hk : k ≤ 1000000) : mulD s (.lst ws) (.int (k : Int)) = some (.lst (List.replicate k ws).flatten) := by
  unfold mulD
  dsimp only [lstOf]
  rw [if_pos ⟨by omega, by omega, by rw [Int.toNat_natCast]; unfold lim; omega⟩, Int.toNat_natCast]
end
end MP

set_option Elab.async false
set_option linter.all false
set_option maxRecDepth 100000
set_option maxHeartbeats 4000000
/-! the law's call, with some tables of code objects: one for each def that makes lambdas -/
namespace MP
open PySem PySem.Spec PyProof.Rows L2
theorem fnG_none {P : Program} {w : World} {mg : Str → Option Value} {base : Heap} {Γ : Ct} {k : Nat} {f : Addr} {fd : FuncData} {ps : List Str} : FnG P w mg base Γ k f fd ps (fun _ _ => .no) :=
  ⟨fun _ _ _ _ _ _ _ _ _ _ _ _ _ _ ⟨_, _, _, _, _, _, _, post⟩ => post.elim⟩
/-- a table: where the code object of its def stands, where the table, the lambdas' name -/
structure Tb where
  c : Addr
  T : Addr
  q : Str
def tabsOf : Nat → List Tb → Sto
  | _, [] => []
  | i, t :: r => .tab i t.q :: tabsOf (i + 1) r
theorem tabsOf_len : ∀ (i : Nat) (r : List Tb), (tabsOf i r).length = r.length
  | _, [] => rfl
  | i, t :: r => by simp [tabsOf, tabsOf_len (i + 1) r]
theorem tabsOf_get : ∀ {i n : Nat} {r : List Tb} {o : Ob}, (tabsOf i r)[n]? = some o → ∃ t, r[n]? = some t ∧ o = .tab (i + n) t.q
  | i, n, [], o, h => by simp [tabsOf] at h
  | i, 0, t :: r, o, h => by
    simp [tabsOf] at h
    exact ⟨t, rfl, h.symm⟩
  | i, n + 1, t :: r, o, h => by
    have h' : (tabsOf (i + 1) r)[n]? = some o := by simpa [tabsOf] using h
    obtain ⟨t', h1, h2⟩ := tabsOf_get h'
    exact ⟨t', by simpa using h1, by rw [h2]; congr 1; omega⟩
def Ts (tabs : List Tb) : List Addr := tabs.map (·.T)
section
variable {P : Program} {w : World} {Γ : Ct} {mg mb : Str → Option Value} {k : Nat} {fa a : Addr} {fd : FuncData} {x : Str} {den : Fn} {s₁ : Shared} {vs : List Value} {ns : List Int} {tabs : List Tb}
theorem law_GTs (KX : Γ.K.In s₁.heap) (hns : s₁.heap.Ns mainGlobals mg) (hb : s₁.heap.Ns builtinsNs mb) (hbb : ∀ x : Str, x ≠ "__name__" → mb x = bootBuiltins x) (hlim : s₁.heap.NoLimit) (hg : s₁.gens = #[])
    (hT : ∀ t ∈ tabs, s₁.heap.get? t.T = some { cls := .none, data := .fields #[] } ∧ Γ.K.lookup t.T = none ∧ PySem.W.CodeHd s₁.heap t.c t.T) (hΓ : ∀ (i : Nat) (t : Tb), tabs[i]? = some t → Γ.tb i = t.T) (nd : (Ts tabs).Nodup)
    (hbm : ∃ (bm : Addr) (ob : Obj), mg "__builtins__" = some (.ref bm) ∧ bm ≠ builtinsNs ∧ s₁.heap.get? bm = some ob ∧ ob.cls = .type "module" ∧ ob.dict = some builtinsNs ∧ ob.data = .plain)
    (ha : s₁.heap.get? a = some { cls := .type "list", data := .seq vs.toArray }) (hi : IntsAre vs ns) (hl : ns.length ≤ sizeLine) (hr : Room k callerA)
    (F : ∀ base : Heap, Γ.K.In base → base.Ns mainGlobals mg → (∀ t ∈ tabs, LamX.TabB base mg t.c t.T) → FnG P w mg base Γ k fa fd [x] den) (hbind : ∀ (s : Shared) (u : Value), BindsTo s fd ⟨[u], []⟩ [(x, u)])
    (hden : ∃ s', den [.sq (ns.map .int)] (tabsOf 0 tabs) = .ok (.bl true) s') :
    codeAny (model P w) callerA (.call (.ref fa) ⟨[.ref a], []⟩) (fun r s' => r = .ok (.ret (.bool true)) ∧ OldK s₁.heap s'.heap ∧ s'.os = s₁.os ∧ AllBare s'.gens) s₁ := by
  have rv : Vals (ns.map V.int) vs := vals_ints hi
  have rl := hi.length
  let ob : Obj := { cls := .type "list", data := .seq vs.toArray }
  let tr : HO := .frz ob (.lst (ns.map V.int))
  let H : Hp := fun b => if b = a ∧ Γ.K.lookup a = none then some tr else if b ∈ Ts tabs then some (.tbl #[]) else none
  have inT : ∀ {b : Addr}, b ∈ Ts tabs → ∃ t ∈ tabs, t.T = b := fun h => List.mem_map.mp h
  have atT : ∀ {b : Addr}, b ∈ Ts tabs → s₁.heap.get? b = some { cls := .none, data := .fields #[] } := fun h => by
    obtain ⟨t, h1, rfl⟩ := inT h
    exact (hT t h1).1
  have nT : ∀ {b : Addr}, b ∈ Ts tabs → Γ.K.lookup b = none := fun h => by
    obtain ⟨t, h1, rfl⟩ := inT h
    exact (hT t h1).2.1
  have naT : ∀ {b : Addr}, b ∈ Ts tabs → a ≠ b := fun h z => by rw [z, atT h] at ha; cases ha
  have HT : ∀ {b : Addr}, b ∈ Ts tabs → H b = some (.tbl #[]) := fun {b} h => by
    show (if b = a ∧ Γ.K.lookup a = none then some tr else if b ∈ Ts tabs then some (HO.tbl #[]) else none) = _
    rw [if_neg (fun z => naT h z.1.symm), if_pos h]
  have Hin : ∀ b o, H b = some o → ((b = a ∧ Γ.K.lookup a = none) ∧ o = tr) ∨ (b ∈ Ts tabs ∧ o = .tbl #[]) := fun b o e => by
    have e' : (if b = a ∧ Γ.K.lookup a = none then some tr else if b ∈ Ts tabs then some (HO.tbl #[]) else none) = some o := e
    split at e'
    · exact .inl ⟨by assumption, (Option.some.inj e').symm⟩
    · split at e'
      · exact .inr ⟨by assumption, (Option.some.inj e').symm⟩
      · cases e'
  have free : ∀ b, ¬ (b = a ∧ Γ.K.lookup a = none) → b ∉ Ts tabs → H b = none := fun b c d => (if_neg c).trans (if_neg d)
  have hok : HOk P w H s₁.heap := fun b o e => by
    rcases Hin b o e with ⟨⟨rfl, _⟩, rfl⟩ | ⟨h, rfl⟩
    · exact ⟨ha, by rw [List.length_map]; exact hl, vs, _, rv, ha⟩
    · exact atT h
  let base := hidT s₁.heap H
  have keeps : ∀ {b : Addr} {o : Obj}, s₁.heap.get? b = some o → (∀ (u : Array Value) (n : Nat), o.data ≠ .seq u n) → o.cls ≠ .none → base.get? b = some o := fun {b o} e h1 h2 => hidT_get e (free b (fun z => by
    rw [z.1, ha] at e
    cases e
    exact h1 _ _ rfl) fun z => by
    rw [atT z] at e
    cases e
    exact h2 rfl)
  have dictIn : ∀ {b : Addr} {m : Str → Option Value}, s₁.heap.Ns b m → base.Ns b m := fun {b m} ⟨o, es, ep, e, d, r⟩ => by
    refine ⟨o, es, ep, hidT_get e (free b (fun z => ?_) fun z => ?_), d, r⟩
    · rw [z.1, ha] at e
      cases e
      cases d
    · rw [atT z] at e
      cases e
      cases d
  have kIn : Γ.K.In base := fun b o e => hidT_get (KX b o e) (free b (fun z => by
    rw [z.1, z.2] at e
    cases e) fun z => by
    rw [nT z] at e
    cases e)
  have gM : base.Ns mainGlobals mg := dictIn hns
  have md : Mod Γ.K mg base := ⟨kIn, gM, ⟨mb, dictIn hb, hbb⟩, let ⟨mc, h1, h2⟩ := hlim; ⟨mc, dictIn h1, h2⟩⟩
  have gT : ∀ {b : Addr}, b ∈ Ts tabs → mainGlobals ≠ b := fun h z => by
    obtain ⟨o, es, ep, e, d, _⟩ := hns
    rw [z, atT h] at e
    cases e
    cases d
  have TB : ∀ t ∈ tabs, LamX.TabB base mg t.c t.T := fun t ht => by
    have htT : t.T ∈ Ts tabs := List.mem_map.mpr ⟨t, ht, rfl⟩
    refine ⟨?_, ?_, gT htT⟩
    · obtain ⟨o, us, file, tf, flags, tg, inF, text, tt, e1, r1, r2, r⟩ := (hT t ht).2.2
      exact ⟨o, us, file, tf, flags, tg, inF, text, tt, keeps e1 (fun u n z => by rw [r2] at z; cases z) (fun z => by rw [r1] at z; cases z), r1, r2, r⟩
    · obtain ⟨bm, o, b1, b2, b3, b4, b5, b6⟩ := hbm
      refine ⟨bm, o, b1, b2, fun z => ?_, fun z => ?_, keeps b3 (fun u n z => by rw [b6] at z; cases z) (fun z => by rw [b4] at z; cases z), b4, b5, b6⟩
      · obtain ⟨o2, es, ep, e, d, _⟩ := hns
        rw [z, e] at b3
        cases b3
        rw [b6] at d
        cases d
      · rw [z, atT htT] at b3
        cases b3
        cases b6
  have e0 : Env0 P w Γ.K mg base callerA [] s₁ H :=
    { frames := rfl, mod := md, bs := fun b o e => of_hidT e, bsz := Nat.le_of_eq (hidT_size _ _), funs := trivial, frf := fun b hb => (nomatch hb), hok := hok, bare := .of_eq hg }
  obtain ⟨s', hd⟩ := hden
  let μ : Mu := fun n => (Ts tabs)[n]?
  have μin : ∀ {n : Nat} {b : Addr}, μ n = some b → b ∈ Ts tabs := fun {n b} z => List.mem_of_getElem? z
  have rs : RV Γ H μ (fun _ => False) (.sq (ns.map .int)) (.ref a) := by
    refine ⟨a, _, rfl, ?_, RVs.of_ints ns⟩
    cases hk : Γ.K.lookup a with
    | none => exact .inl ⟨.inr ⟨ob, if_pos ⟨rfl, hk⟩⟩, ⟨fun n z => naT (μin z) rfl, id⟩⟩
    | some o =>
      have e := KX a o hk
      rw [ha] at e
      cases e
      exact .inr ⟨_, vs.toArray, _, hk, rfl, rfl, rfl, by rw [List.size_toArray, rl]; exact hl, by simpa using rv⟩
  have rep : Rep Γ H μ (fun _ => False) (tabsOf 0 tabs) := ⟨fun n o e => by
    obtain ⟨t, h1, rfl⟩ := tabsOf_get e
    have h2 : t.T ∈ Ts tabs := List.mem_map.mpr ⟨t, List.mem_of_getElem? h1, rfl⟩
    refine ⟨t.T, ?_, id, ?_, #[], HT h2, trivial, fun pos cv z => by simp [codeAmong] at z⟩
    · show (Ts tabs)[n]? = some t.T
      unfold Ts
      rw [List.getElem?_map, h1]
      rfl
    · rw [Nat.zero_add]
      exact (hΓ n t h1).symm, fun n m b e1 e2 => by
      have h1 := (List.getElem?_eq_some_iff.mp e1)
      have h2 := (List.getElem?_eq_some_iff.mp e2)
      obtain ⟨l1, g1⟩ := h1
      obtain ⟨l2, g2⟩ := h2
      exact (List.getElem_inj nd).mp (g1.trans g2.symm), fun n b e => by
      obtain ⟨l1, _⟩ := List.getElem?_eq_some_iff.mp e
      rw [tabsOf_len]
      unfold Ts at l1
      rw [List.length_map] at l1
      exact l1, fun b z => z.elim⟩
  refine codeAny_mono ((F base kIn gM TB).run callerA [] s₁ H ⟨[.ref a], []⟩ [.ref a] [.ref a] (fun v _ => v = .bl true) (fun _ _ _ => False) hr rfl e0 (hbind s₁ (.ref a)) (.cons rfl .nil)
    ⟨rfl, μ, _, _, [.sq (ns.map .int)], rep, RVs.cons rs rfl, by rw [hd]; exact fun v H' μ' _ _ r => r⟩) fun r s2 h => ?_
  cases r with
  | error e =>
    obtain ⟨_, _, _, _, _, _, _, _, _, _, _, _, z⟩ := h
    exact z.elim
  | ok fl =>
    cases fl with
    | next => exact h.elim
    | brk => exact h.elim
    | cont => exact h.elim
    | ret u =>
      obtain ⟨v, H', os, bare, un, hok', rv', q'⟩ := h
      obtain rfl : v = .bl true := q'
      obtain rfl : u = Value.bool true := rv'
      have key : ∀ b o, b ∉ Ts tabs → s₁.heap.get? b = some o → s2.heap.get? b = some o := fun b o nb e => by
        cases qb : H b with
        | none => exact un.keep b o e qb (fun z => nomatch z) (fun z => nomatch z)
        | some u =>
          rcases Hin b u qb with ⟨⟨rfl, _⟩, rfl⟩ | ⟨z, _⟩
          · obtain ⟨e2, _⟩ := hok' b _ (un.frzs b ob _ qb)
            rw [ha] at e
            cases e
            exact e2
          · exact absurd z nb
      have grown : ∀ b, b ∈ Ts tabs → ∃ more, s2.heap.get? b = some { cls := .none, data := .fields (#[] ++ more) } := fun b h => by
        obtain ⟨more, z⟩ := un.tbls b #[] (HT h)
        exact ⟨more, hok' b _ z⟩
      refine ⟨rfl, ⟨fun b o e => ?_, fun b o e => ?_⟩, os, bare⟩
      · by_cases h : b ∈ Ts tabs
        · obtain ⟨t, ht, rfl⟩ := inT h
          obtain ⟨more, g⟩ := grown _ h
          rw [atT h] at e
          cases e
          exact .inr (.inl ⟨((hT t ht).2.2.tab (hT t ht).1).isCodeTable, rfl, #[], more, rfl, g⟩)
        · exact .inl (key b o h e)
      · by_cases h : b ∈ Ts tabs
        · obtain ⟨more, g⟩ := grown _ h
          exact ⟨_, g⟩
        · exact ⟨o, key b o h e⟩
/-- what the head leaves to be shown; ys: the defs that make lambdas -/
theorem walk_GTs {l : PySem.W.OpenLaw} {n k : Nat} {q : Program} {loose : List Str} {XP : (Str → Option Value) → Heap → Prop} {YP : World → Heap → Prop} {d : DefRec} {Kf : Params → PySem.W.Frag} {x : Str} {ys qs : List Str} (hn : l.most = some n) (hn2 : n ≤ sizeLine) (hdf : d.params.defaults = []) (hr : Room k callerA)
    (hY : ∀ (w : World) (h : Heap), YP w h → (Kf w.params).In h) (hy : ∀ y ∈ ys, ∃ dy, (recsOf q).find? (fun e => e.name == y) = some dy)
    (F : ∀ (w : World) (mg : Str → Option Value) (fa : Addr) (h : Heap), (Kf w.params).In h → h.Ns mainGlobals mg → mg d.name = some (.ref fa) →
      ∃ (Γ : Ct) (fd : FuncData) (den : Fn) (tabs : List Tb), Γ.K = Kf w.params ∧ (∀ (i : Nat) (t : Tb), tabs[i]? = some t → Γ.tb i = t.T) ∧ (Ts tabs).Nodup ∧ (∀ t ∈ tabs, ∃ y ∈ ys, PySem.W.tabIn Γ.K y = some (t.c, t.T) ∧ Γ.K.lookup t.T = none) ∧ tabs.map (·.q) = qs ∧ (∀ (s : Shared) (u : Value), BindsTo s fd ⟨[u], []⟩ [(x, u)]) ∧
        (∀ base : Heap, Γ.K.In base → base.Ns mainGlobals mg → (∀ t ∈ tabs, LamX.TabB base mg t.c t.T) → FnG l.prog w mg base Γ k fa fd [x] den) ∧
        ∀ ns : List Int, ns.length ≤ n → ∃ s', den [.sq (ns.map .int)] (tabsOf 0 (qs.map fun q => ⟨0, 0, q⟩)) = .ok (.bl true) s') :
    PySem.W.WalkO q loose XP YP l.row.toRowW d [] (fun f vs => PySem.call f vs) := by
  refine Att.attach_call hn hdf fun w s₀ s₁ mg mb fa o pm cd doc a vs ns G Y ho hd hcd hmg hobj hints hlen hg => ?_
  have KX := hY w _ Y
  obtain ⟨Γ, fd, den, tabs, hK, hΓ, nd, ht, hq, hb, hF, hden⟩ := F w mg fa _ KX G.T.g hmg
  have et : ∀ (i : Nat) (r : List Tb), tabsOf i ((r.map (·.q)).map fun q => ⟨0, 0, q⟩) = tabsOf i r := fun i r => by
    induction r generalizing i with
    | nil => rfl
    | cons t r ih => simp only [List.map_cons, tabsOf, ih]
  refine law_GTs (hK ▸ KX) G.T.g G.T.b G.T.builtins G.T.nolimit hg (fun t h => ?_) hΓ nd G.T.bmain hobj hints (Nat.le_trans hlen hn2) hr hF hb (by
    obtain ⟨s', e⟩ := hden ns hlen
    rw [← hq, et] at e
    exact ⟨s', e⟩)
  obtain ⟨y, hy1, h1, h2⟩ := ht t h
  obtain ⟨dy, hy2⟩ := hy y hy1
  obtain ⟨hC, hT⟩ := PySem.W.tab_of G.T (hK ▸ KX) hy2 h1
  exact ⟨hT, h2, hC⟩
end
end MP

set_option Elab.async false
set_option linter.all false
set_option maxRecDepth 100000
set_option maxHeartbeats 4000000
/-! try: .. except A: suite, without a name -/
namespace MP
open PySem PySem.Spec PyProof.Rows L2
def mTryOnly (j : Nat) (c su : FS) : FS := fun ρ s => match c ρ s with
  | .er x ρ1 s1 => if x.c < 9 ∧ j < 9 then if under x.c j = true then (match su ρ1 s1 with
      | .er _ _ _ => .no
      | r => r) else .er x ρ1 s1 else .no
  | r => r
section
variable {X : Cx} {Γ : Ct} {Wout : WX}
theorem ms_tryOnly {x1 : Str} {j : Nat} {body suite : List Stmt} {b0 : Stmt} {p1 pos pos' : Pos} {c su : FS} (hs : X.stack = X.env :: X.outer) (hf : X.env.frame = some X.env.locals)
    (n1 : Names X x1 (.ref (Γ.cls j))) (tk : Takes X Wout) (hex : ∀ c, c < 9 → ∀ j, j < 9 → PySem.W.exmOne X.K (.ref (Γ.cls c)) (.ref (Γ.cls j)) = some (under c j))
    (hb : ∀ (W : WX) (pn : List (Addr × Obj)) (xe : Value → Shared → Prop), Takes (X.tr pn xe) W → MB (X.tr pn xe) Γ W body c) (hsu : ∀ (a : Addr) (pn : List (Addr × Obj)), MB (X.suite a pn) Γ W0 (b0 :: suite) su) :
    MS X Γ Wout (.Try body [.ExceptHandler (some (.Name x1 p1)) none (b0 :: suite) pos'] [] [] pos) (mTryOnly j c su) := by
  refine PS.imp (ps_try_only (tb := fun W => rdS Γ W c) (ts := fun _ _ _ => rdS Γ W0 su) hs hf n1 tk (fun W pn xe t _ => hb W pn xe t) fun a oe cls d pn _ _ => hsu a ((a, oe) :: pn)) fun D σ H ⟨μ, Z, ρ, s, hE, hR, q⟩ => ⟨μ, Z, ρ, s, hE, hR, ?_⟩
  unfold mTryOnly at q
  cases e : c ρ s with
  | nx ρ' s' => rw [e] at q; exact q
  | rt w s' => rw [e] at q; exact q
  | bk ρ' s' => rw [e] at q; exact q
  | ct ρ' s' => rw [e] at q; exact q
  | no => rw [e] at q; exact q
  | er x ρ1 s1 =>
    rw [e] at q
    dsimp only at q
    split at q
    · rename_i hx
      intro cls d σ' H' μ' ev R' E' rx
      have rx0 := rx
      obtain ⟨r1, dd, v, r2, r3, r4, r5⟩ := rx
      subst r1 r2
      refine ⟨under x.c j, hex x.c hx.1 j hx.2, fun hu a na => ?_, fun hu => ?_⟩
      · rw [if_pos hu] at q
        refine ⟨μ', Z, ρ1, s1, E', R', ?_⟩
        cases e2 : su ρ1 s1 with
        | nx ρ2 s2 => rw [e2] at q; exact fun σ2 H2 μ2 ev2 R2 E2 => q _ _ _ (ev.trans ev2) R2 E2
        | bk ρ2 s2 => rw [e2] at q; exact fun σ2 H2 μ2 ev2 R2 E2 => q _ _ _ (ev.trans ev2) R2 E2
        | ct ρ2 s2 => rw [e2] at q; exact fun σ2 H2 μ2 ev2 R2 E2 => q _ _ _ (ev.trans ev2) R2 E2
        | rt w s2 => rw [e2] at q; exact fun v2 H2 μ2 ev2 R2 r2 => q _ _ _ (ev.trans ev2) R2 r2
        | er _ _ _ => rw [e2] at q; exact q.elim
        | no => rw [e2] at q; exact q.elim
      · rw [if_neg (by rw [hu]; exact Bool.false_ne_true)] at q
        exact q _ _ _ _ _ ev R' E' rx0
    · exact q.elim
end
theorem ex1_of {Γ : Ct} (e : ∀ c, c < 9 → ClsF Γ.K (Γ.cls c)) (s : ∀ c, c < 9 → ∀ j, j < 9 → PySem.W.subIn Γ.K (.ref (Γ.cls c)) (.ref (Γ.cls j)) = some (under c j)) : ∀ c, c < 9 → ∀ j, j < 9 → PySem.W.exmOne Γ.K (.ref (Γ.cls c)) (.ref (Γ.cls j)) = some (under c j) := fun c hc j hj => by
  unfold PySem.W.exmOne
  rw [(e j hj).e.hs]
  rw [if_pos (by rfl)]
  exact kitCls_of (e j hj).is (e j hj).ty (s c hc j hj)
section
variable {ρ ρ' : Env} {s s1 : Sto} {c su : FS} {j : Nat} {x : Ex} {w : Dv}
theorem tryO_rt (h : c ρ s = .rt w s1) : mTryOnly j c su ρ s = .rt w s1 := by unfold mTryOnly; rw [h]
theorem tryO_nx (h : c ρ s = .nx ρ' s1) : mTryOnly j c su ρ s = .nx ρ' s1 := by unfold mTryOnly; rw [h]
theorem tryO_er (h : c ρ s = .er x ρ' s1) (hx : x.c < 9) (hj : j < 9) (hu : under x.c j = true) : mTryOnly j c su ρ s = (match su ρ' s1 with
      | .er _ _ _ => .no
      | r => r) := by
  unfold mTryOnly
  rw [h]
  dsimp only
  rw [if_pos ⟨hx, hj⟩, if_pos hu]
end
end MP

set_option Elab.async false
set_option linter.all false
set_option maxRecDepth 100000
set_option maxHeartbeats 4000000
/-! == of two lists of unlike lengths, whatever they hold -/
namespace MP
open PySem PySem.Spec PyProof.Rows L2
def rLen (K : PySem.W.Frag) (b : Bool) : R2 := fun x y H Q => ∃ p q xs ys, x = .ref p ∧ y = .ref q ∧ SqL K H p xs ∧ SqL K H q ys ∧ xs.length ≠ ys.length ∧ Q (.bl b) H
section
variable {X : Cx} {Γ : Ct}
theorem op_eqLen (hu : X.A.units + 64 < cLine) : OpR X (compareOp .Eq) (rLen X.K false) := by
  intro pins s σ H x y v u Q I rx ry h
  obtain ⟨p, q, xs, ys, rfl, rfl, hp, hq, hl, k⟩ := h
  cases rx
  cases ry
  obtain ⟨us, r1, p1, _⟩ := I.list hp
  obtain ⟨ws, r2, p2, _⟩ := I.list hq
  refine SeqAt.RcAt.lists_lengths p1.isList p2.isList ?_ (by omega) _ _ _ _ ⟨.bl false, H, I, rfl, k⟩
  have h1 := r1.length
  have h2 := r2.length
  simp
  omega
theorem op_neLen (hu : X.A.units + 64 < cLine) : OpR X (compareOp .NotEq) (rLen X.K true) := by
  intro pins s σ H x y v u Q I rx ry h
  obtain ⟨p, q, xs, ys, rfl, rfl, hp, hq, hl, k⟩ := h
  cases rx
  cases ry
  obtain ⟨us, r1, p1, _⟩ := I.list hp
  obtain ⟨ws, r2, p2, _⟩ := I.list hq
  refine SeqAt.RcNeAt.lists_lengths p1.isList p2.isList ?_ (by omega) _ _ _ _ ⟨.bl true, H, I, rfl, k⟩
  have h1 := r1.length
  have h2 := r2.length
  simp
  omega
def lenO (b : Bool) : O2 := fun s x y => match lstOf s x, lstOf s y with
  | some ws, some us => if ws.length = us.length then none else some (.bl b)
  | _, _ => none
theorem sLenO {b : Bool} : Op2 Γ (rLen Γ.K b) (lenO b) := fun H μ Z s x y w u v Q hR r1 r2 e k => by
  unfold lenO at e
  split at e
  · rename_i ws us q1 q2
    split at e
    · cases e
    · rename_i hl
      cases e
      obtain ⟨p, xs, rfl, h1, h2⟩ := lstOf_ok hR r1 q1
      obtain ⟨q, ys, rfl, h3, h4⟩ := lstOf_ok hR r2 q2
      exact ⟨p, q, xs, ys, rfl, rfl, SqL.of h1, SqL.of h3, by rw [h2.len, h4.len]; exact hl, k _ H .refl hR rfl⟩
  · cases e
theorem Op2.or {r r' : R2} {o o' : O2} (h : Op2 Γ r o) (h' : Op2 Γ r' o') : Op2 Γ (fun x y H Q => r x y H Q ∨ r' x y H Q) (orO o o') := fun H μ Z s x y w u v Q hR r1 r2 e k => by
  unfold orO at e
  cases q : o s x y with
  | some z => rw [q] at e; cases e; exact .inl (h H μ Z s x y w u v Q hR r1 r2 q k)
  | none => rw [q] at e; exact .inr (h' H μ Z s x y w u v Q hR r1 r2 e k)
def eqL : O2 := orO eqD (lenO false)
def neL : O2 := orO neD (lenO true)
theorem opEqL (hu : X.A.units + 64 < cLine) : OpR X (compareOp .Eq) (fun x y H Q => rEqM X.K x y H Q ∨ rLen X.K false x y H Q) := OpR.or2 (opEq hu) (op_eqLen hu)
theorem opNeL (hu : X.A.units + 64 < cLine) : OpR X (compareOp .NotEq) (fun x y H Q => rNeM X.K x y H Q ∨ rLen X.K true x y H Q) := OpR.or2 (opNe hu) (op_neLen hu)
theorem sEqL : Op2 Γ (fun x y H Q => rEqM Γ.K x y H Q ∨ rLen Γ.K false x y H Q) eqL := Op2.or sEq sLenO
theorem sNeL : Op2 Γ (fun x y H Q => rNeM Γ.K x y H Q ∨ rLen Γ.K true x y H Q) neL := Op2.or sNe sLenO
theorem eqL_of {s : Sto} {x y : Dv} {w : Dv} (h : eqD s x y = some w) : eqL s x y = some w := by unfold eqL orO; rw [h]
theorem neL_of {s : Sto} {x y : Dv} {w : Dv} (h : neD s x y = some w) : neL s x y = some w := by unfold neL orO; rw [h]
/-- a list beside the empty one -/
theorem eqL_nil {s : Sto} {ws : List Dv} : eqL s (.lst ws) (.lst []) = some (.bl (decide (ws = []))) := by
  cases ws with
  | nil => exact eqL_of (eq_l_refl (pl_lst (pls_nil (k := 0))) (by decide))
  | cons w ws =>
    have e : lenO false s (.lst (w :: ws)) (.lst []) = some (.bl false) := rfl
    have e2 : flat (.lst (w :: ws)) = none := rfl
    unfold eqL orO
    cases q : eqD s (.lst (w :: ws)) (.lst []) with
    | none => exact e
    | some z =>
      unfold eqD eqB at q
      rw [e2] at q
      dsimp only at q
      cases q1 : toD s (.lst (w :: ws)) with
      | none => rw [q1] at q; cases q
      | some d =>
        rw [q1] at q
        have q2 : toD s (.lst []) = some (.list []) := rfl
        rw [q2] at q
        dsimp only at q
        split at q
        · have q3 : toD0 (.lst (w :: ws)) = some d := q1
          simp only [toD0] at q3
          cases q4 : toDs (w :: ws) with
          | none => rw [q4] at q3; cases q3
          | some ds =>
            rw [q4] at q3
            cases q3
            have := pls_len q4
            cases ds with
            | nil => simp at this
            | cons a b => cases q; simp [PyData.eqv, PyData.eqvAll]
        · cases q
theorem neL_nil {s : Sto} {ws : List Dv} : neL s (.lst ws) (.lst []) = some (.bl (!decide (ws = []))) := by
  have h := eqL_nil (s := s) (ws := ws)
  cases ws with
  | nil => exact neL_of (ne_of_eq (eq_l_refl (pl_lst (pls_nil (k := 0))) (by decide)))
  | cons w ws =>
    have e : lenO true s (.lst (w :: ws)) (.lst []) = some (.bl true) := rfl
    unfold neL orO
    cases q : neD s (.lst (w :: ws)) (.lst []) with
    | none => exact e
    | some z =>
      unfold neD at q
      unfold eqL orO eqD at h
      cases q5 : eqB s (.lst (w :: ws)) (.lst []) with
      | none => rw [q5] at q; cases q
      | some c =>
        rw [q5] at h q
        cases h
        cases q
        rfl
end
end MP

set_option Elab.async false
set_option linter.all false
set_option maxRecDepth 100000
set_option maxHeartbeats 4000000
/-! enumerate from a number on -/
namespace MP
open PySem PySem.Spec PyProof.Rows L2
section
variable {M : Model} {A : Around} {E : Value → Shared → Prop} {s : Shared} {env : PySem.Env}
theorem cw_type_kw {pos : Pos} {T : String} {e : Expr} {rest : List Expr} {kws : List Keyword} {Q : Value → Shared → Prop}
    (h : wpAny M A (spliced (backTo pos (starEach (e :: rest) env))) (fun vs s1 => wpAny M A (evalAll ((backToKw pos (keywordEach kws env)).map (·.2))) (fun zs s2 => wpAny M A (call (.type T) vs (((backToKw pos (keywordEach kws env)).filterMap (·.1)).zip zs)) Q E s2) E s1) E s)
    (h1 : backTo pos (starEach (e :: rest) env) = (false, eval e env) :: backTo pos (starEach rest env)) (h2 : (backTo pos (starEach (e :: rest) env)).any (·.1) = false)
    (h3 : (backToKw pos (keywordEach kws env)).all (·.1.isSome) = true) (h4 : (backToKw pos (keywordEach kws env)).any (·.1.isNone) = false) :
    wpAny M A (callWith pos (.type T) [] (backTo pos (starEach (e :: rest) env)) (backToKw pos (keywordEach kws env))) Q E s := by
  have hev : wpAny M A (evalArgs (.type T) true (backTo pos (starEach (e :: rest) env)) (backToKw pos (keywordEach kws env))) (fun a s1 => wpAny M A (call (.type T) ([] ++ a.pos) a.kw) Q E s1) E s := by
    rw [h1] at h ⊢
    exact evalArgs_kwB h3 h
  unfold callWith
  refine wpAny_bind (wpAny_holding (wpAny_mono hev (fun a s1 k1 => wpAny_bind (wpAny_standAt ?_)) fun _ _ z => z))
  simp only [h2, h4, Bool.or_false]
  refine wpAny_bind (wpAny_pure ?_)
  exact wpAny_bind (wpAny_mono k1 (fun r s2 k2 => wpAny_bind (wpAny_holding (wpAny_point (wpAny_pure k2)))) fun _ _ z => z)
end
def JEnumK (K : PySem.W.Frag) (t : Bool) (a : Addr) (b : Int) : It :=
  ⟨fun i H => ∃ (xs : List V) (x : V), SqX K H t a xs ∧ xs[i]? = some x,
   fun i H v H' => ∃ T x, v = .ref T ∧ H T = none ∧ H' = upd H T (.tup [.int (b + (i : Int)), x]) ∧ ∀ xs, SqX K H t a xs → xs[i]? = some x,
   fun i H => ∃ xs : List V, SqX K H t a xs ∧ xs.length = i⟩
def EnumTk (t : Bool) (a : Addr) (N : Nat) (b : Int) (i : Nat) (h : Heap) : Prop := (∃ old, IsEnum h (N + 1) N (b + (i : Int)) old) ∧ ItX h t N a i
theorem turn_enumK {P : Program} {w : World} {K : PySem.W.Frag} {elts : List Expr} {kk : Nat} {tpos : Pos} {t : Bool} {a : Addr} {N : Nat} {b : Int} (la : a < N) :
    Turn P w K (.Tuple elts kk tpos) (JEnumK K t a b) [N + 1, N] (N + 1) (EnumTk t a N b) where
  mem := by simp
  obj := fun i h st c hc => by
    obtain ⟨⟨old, he⟩, h1⟩ := st
    have e : c = N + 1 ∨ c = N := by simpa using hc
    rcases e with q | q
    · rw [q]; exact ⟨_, he, fun v q => nomatch q⟩
    · rw [q]; exact h1.obj
  keep := fun i h h' st k => by
    obtain ⟨⟨old, he⟩, h1⟩ := st
    exact ⟨⟨old, k _ (by simp) _ he⟩, h1.at fun o q => k N (by simp) o q⟩
  item := by
    intro X hP hw hK hc i pins s σ H E I hf st hg
    subst hP hw hK
    obtain ⟨xs, x, hqx, hx⟩ := hg
    obtain ⟨its, rv, p, _⟩ := hqx.has I
    obtain ⟨v1, hv1, r1⟩ := rv.get hx
    have hh : X.A.in1.handled = none := I.ok.hd hc
    have nf : N + 1 ∉ [N, a] := fun m => by
      rcases List.mem_cons.mp m with e | e
      · exact Nat.succ_ne_self N e
      · exact Nat.lt_irrefl a (Nat.lt_trans la ((List.mem_singleton.mp e) ▸ Nat.lt_succ_self N))
    have G := GoesN.enumFrom (prog := X.prog) (w := X.w) (A := X.A) (elts := elts) (x1 := kk) (pos := tpos) b (drawsX hh t N a (Nat.ne_of_lt la) its.toArray) (N + 1) (Nat.succ_ne_self N) nf (by simp)
    obtain ⟨⟨old, he⟩, h1⟩ := id st
    have l1 := (List.getElem?_eq_some_iff.mp hv1).1
    have liveX : ∀ c ∈ [N + 1, N], c < s.heap.objs.size := fun c hc => by
      have hN : N + 1 < s.heap.objs.size := Heap.lt_size he
      have e : c = N + 1 ∨ c = N := by simpa using hc
      omega
    refine turn_item (tn := EnumTk t a N b) I hf liveX G (by simpa using l1) ⟨⟨old, he⟩, h1, p⟩ (fun c hc => hc) (fun h' _ st' => show EnumTk t a N b (i + 1) h' from ⟨st'.1, st'.2.1⟩) fun v h' hY => ?_
    obtain ⟨T, tt, c1, rfl, hT, e1, ht⟩ := hY
    have e1' : its[i]? = some c1 := by simpa using e1
    rw [hv1] at e1'
    cases e1'
    exact ⟨T, [.int (b + (i : Int)), x], #[.int (b + (i : Int)) tt, v1], rfl, hT, ht, .cons ⟨tt, rfl⟩ (.cons r1 .nil), (show 2 ≤ sizeLine by rw [sizeLine_eq]; decide), T, x, rfl, I.hok.fresh hT, rfl, fun l hl => by rw [SqX.inj I hl hqx]; exact hx⟩
  done := by
    intro X hP hw hK hc i pins s σ H E I hf st hg
    subst hP hw hK
    obtain ⟨xs, hqx, hend⟩ := hg
    obtain ⟨its, rv, p, _⟩ := hqx.has I
    have hh : X.A.in1.handled = none := I.ok.hd hc
    have nf : N + 1 ∉ [N, a] := fun m => by
      rcases List.mem_cons.mp m with e | e
      · exact Nat.succ_ne_self N e
      · exact Nat.lt_irrefl a (Nat.lt_trans la ((List.mem_singleton.mp e) ▸ Nat.lt_succ_self N))
    have G := GoesN.enumFrom (prog := X.prog) (w := X.w) (A := X.A) (elts := elts) (x1 := kk) (pos := tpos) b (drawsX hh t N a (Nat.ne_of_lt la) its.toArray) (N + 1) (Nat.succ_ne_self N) nf (by simp)
    obtain ⟨⟨old, he⟩, h1⟩ := id st
    have l1 := rv.length
    have hn : its.toArray.size = i := by simp; omega
    rw [hn] at G
    exact G.stops s (fun s1 => Inv X pins σ H s1) E ⟨⟨old, he⟩, h1, p⟩ fun h' tk hk _ => I.turnedL (ch := [N + 1, N]) (fun c o hb q => hk c o hb q) hf
  self := fun A i s Q E st h => let ⟨⟨_, he⟩, _⟩ := st; wpAny_pyIter_enum he h
section
variable {X : Cx} {Γ : Ct} {W : WX}
def iEnumKG (K : PySem.W.Frag) (b : Int) (ta : TA) : TI := fun σ H R => ta σ H fun vs H1 => ∃ t a xs, vs = [.ref a] ∧ SqX K H1 t a xs ∧ R (JEnumK K t a b) H1
theorem pi_enumK {e : Expr} {ta : TA} {b : Int} {k2 : Nat} {p p2 kp pos tpos : Pos} {elts : List Expr} {kk : Nat} (h0 : -(2 ^ 63) ≤ b) (h1 : b < 2 ^ 63) (hg : Gl X "enumerate") (hm : X.mg "enumerate" = none) (ha : PA X [e] ta) (hs : backTo pos (starEach [e] X.env) = (false, eval e X.env) :: backTo pos (starEach [] X.env) := by rfl) (hpl : (backTo pos (starEach [e] X.env)).any (·.1) = false := by rfl)
    (hall : (backToKw pos (keywordEach [⟨some "start", .Constant (.int b) k2 p2, kp⟩] X.env)).all (·.1.isSome) = true := by rfl) (hnone : (backToKw pos (keywordEach [⟨some "start", .Constant (.int b) k2 p2, kp⟩] X.env)).any (·.1.isNone) = false := by rfl)
    (hks : (backToKw pos (keywordEach [⟨some "start", .Constant (.int b) k2 p2, kp⟩] X.env)).filterMap (·.1) = [Str.ofString "start"] := by rfl) :
    PI X (.Tuple elts kk tpos) (.Call (.Name "enumerate" p) [e] [⟨some "start", .Constant (.int b) k2 p2, kp⟩] pos) (iEnumKG X.K b ta) := by
  refine ⟨fun pins s σ H R I h => ?_⟩
  refine wpAny_Call_Name_kw (ld_blt I hg hm boot_enumerate ?_ (by decide) (by decide))
  refine cw_type_kw (thn (ha.run pos pins s σ H _ I h) fun us s1 ⟨vs, H1, I1, r1, q1⟩ => ?_) hs hpl hall hnone
  obtain ⟨t, a, xs, rfl, hqx, q⟩ := q1
  obtain ⟨v, rfl, rfl⟩ : ∃ v, us = [v] ∧ v = Value.ref a := by
    cases r1 with
    | cons r rr => cases rr; exact ⟨_, rfl, r⟩
  refine PyProof.Rows.kws_cons (thn ((pe_int (X := X) (i := b)).run pins s1 σ H1 (fun y H2 => y = .int b ∧ H2 = H1) I1 ⟨rfl, rfl⟩) fun z s2 ⟨y, H2, I2, ry, ey, eh⟩ => ?_)
  subst ey eh
  obtain ⟨tk, rfl⟩ := ry
  refine PyProof.Rows.kws_nil ?_
  rw [hks]
  obtain ⟨its, rv, p1, la⟩ := hqx.has I2
  refine enum_begins_start (beginsX t a its.toArray) p1 h0 h1 fun h' he h1 _ hk => wpAny_pyIter_enum he ?_
  have I3 : Inv X pins σ H2 { s2 with heap := h' } := I2.kept (t' := s2.toks) hk
  refine ⟨_, [s2.heap.objs.size + 1, s2.heap.objs.size], _, _, H2, rfl, I3, turn_enumK la, ⟨⟨.none, by rw [show b + ((0 : Nat) : Int) = b by omega]; exact he⟩, ?_⟩, fun c hc => ?_, q⟩
  · unfold ItX
    cases t with
    | true => exact ⟨_, h1, rfl, rfl⟩
    | false => exact ⟨_, h1, rfl, rfl⟩
  · have e' : c = s2.heap.objs.size + 1 ∨ c = s2.heap.objs.size := by simpa using hc
    have hle : s2.heap.objs.size ≤ c := by rcases e' with z | z <;> (rw [z]; first | exact Nat.le_refl _ | exact Nat.le_add_right _ _)
    exact I2.fpOk hle (I2.hok.fresh hle)
def enumF (b : Int) : Nat → List Dv → List Dv
  | _, [] => []
  | n, a :: r => .tup [.int (b + (n : Nat)), a] :: enumF b (n + 1) r
theorem enumF_len {b : Int} : ∀ (n : Nat) (l : List Dv), (enumF b n l).length = l.length
  | _, [] => rfl
  | n, a :: r => by simp [enumF, enumF_len (n + 1) r]
theorem enumF_get {b : Int} : ∀ {l : List Dv} {n i : Nat} {w : Dv}, (enumF b n l)[i]? = some w → ∃ x, l[i]? = some x ∧ w = .tup [.int (b + ((n + i : Nat) : Int)), x]
  | [], _, _, _, h => by simp [enumF] at h
  | a :: r, n, 0, w, h => by
    simp [enumF] at h
    exact ⟨a, rfl, by rw [← h]; rfl⟩
  | a :: r, n, i + 1, w, h => by
    have h' : (enumF b (n + 1) r)[i]? = some w := by simpa [enumF] using h
    obtain ⟨x, h1, h2⟩ := enumF_get h'
    exact ⟨x, by simpa using h1, by rw [h2]; congr 4; omega⟩
def iEnumF (b : Int) (fa : FA) : FI := fun ρ s => (fa ρ s).bind fun ws s1 => match ws with
  | [x] => match plainOf x with
    | some (_, a) => .ok { ws := enumF b 0 a } s1
    | _ => .no
  | _ => .no
theorem mi_enumF {e : Expr} {fa : FA} {b : Int} {k2 : Nat} {p p2 kp pos tpos : Pos} {elts : List Expr} {kk : Nat} (h0 : -(2 ^ 63) ≤ b) (h1 : b < 2 ^ 63) (hK : Γ.K = X.K) (hg : Gl X "enumerate") (hm : X.mg "enumerate" = none) (ha : MA X Γ W [e] fa) (hs : backTo pos (starEach [e] X.env) = (false, eval e X.env) :: backTo pos (starEach [] X.env) := by rfl) (hpl : (backTo pos (starEach [e] X.env)).any (·.1) = false := by rfl)
    (hall : (backToKw pos (keywordEach [⟨some "start", .Constant (.int b) k2 p2, kp⟩] X.env)).all (·.1.isSome) = true := by rfl) (hnone : (backToKw pos (keywordEach [⟨some "start", .Constant (.int b) k2 p2, kp⟩] X.env)).any (·.1.isNone) = false := by rfl)
    (hks : (backToKw pos (keywordEach [⟨some "start", .Constant (.int b) k2 p2, kp⟩] X.env)).filterMap (·.1) = [Str.ofString "start"] := by rfl) :
    MI X Γ W (.Tuple elts kk tpos) (.Call (.Name "enumerate" p) [e] [⟨some "start", .Constant (.int b) k2 p2, kp⟩] pos) (iEnumF b fa) :=
  PI.imp (pi_enumK h0 h1 hg hm ha hs hpl hall hnone hks) fun σ H Q ⟨μ, Z, ρ, s, hE, hR, q⟩ => iA hE hR q fun ws s1 vs H1 μ1 e1 E1 R1 r1 q1 => by
    split at q1
    · rename_i x
      split at q1
      · rename_i t a qx
        obtain ⟨v, rfl, rx⟩ := one r1
        obtain ⟨pa, xs, rfl, r2, k2⟩ := plain_ok rx qx
        rw [← hK]
        refine ⟨t, pa, xs, rfl, k2 _ _ Evo.refl.z, q1 _ _ _ .refl R1 fun H' μ' Z' s' ev hR' hy hz _ => ⟨⟨xs, k2 _ _ ev, by rw [enumF_len, r2.len]⟩, fun i w hi => ?_⟩⟩
        obtain ⟨x', g1, rfl⟩ := enumF_get hi
        obtain ⟨ux, h1, h2⟩ := r2.get g1
        refine ⟨⟨xs, ux, k2 _ _ ev, h1⟩, fun z H'' hq => ?_⟩
        obtain ⟨T, zx, rfl, hT, rfl, j1⟩ := hq
        have e3 := j1 xs (k2 _ _ ev)
        rw [h1] at e3
        cases e3
        rw [Nat.zero_add]
        exact ⟨Evo.laid hT, hR'.laid hT, new_tup hR' hT (RVs.cons (w := .int (b + (i : Int))) rfl (RVs.cons ((RV.strong hz _ h2).monoZ (ev.more hy)) RVs.nil))⟩
      · exact q1.elim
    · exact q1.elim
end
end MP

set_option Elab.async false
set_option linter.all false
set_option maxRecDepth 100000
set_option maxHeartbeats 4000000
/-! texts -/
namespace MP
open PySem PySem.Spec PyProof.Rows L2
def strsOf : List Dv → Option (List Str)
  | [] => some []
  | .str x :: r => (strsOf r).map (x :: ·)
  | _ => none
section
variable {X : Cx} {Γ : Ct} {W : WX} {H : Hp} {μ : Mu} {Z : Zs} {s : Sto}
theorem strsOf_ok : ∀ {ws : List Dv} {vs : List V} {ys : List Str}, RVs Γ H μ Z ws vs → strsOf ws = some ys → vs = ys.map V.str
  | [], _, _, r, e => by cases e; exact r
  | w :: ws, _, ys, r, e => by
    obtain ⟨x, xs, rfl, h1, h2⟩ := r
    cases w with
    | str y =>
      simp only [strsOf] at e
      cases q : strsOf ws with
      | none => rw [q] at e; cases e
      | some zs =>
        rw [q] at e
        cases e
        rw [show x = .str y from h1, strsOf_ok h2 q]
        rfl
    | _ => cases e
theorem strs_map : ∀ ys : List Str, strsOf (ys.map .str) = some ys
  | [] => rfl
  | y :: ys => by
    show (strsOf (ys.map .str)).map (y :: ·) = _
    rw [strs_map ys]
    rfl
theorem rvs_strs : ∀ ys : List Str, RVs Γ H μ Z (ys.map .str) (ys.map V.str)
  | [] => rfl
  | y :: ys => ⟨_, _, rfl, rfl, rvs_strs ys⟩
/-! ### methods of texts -/
def mStr1 (o : O2) (f g : FE) : FE := fun ρ s => (f ρ s).bind fun x s1 => match x with
  | .str a => (g ρ s1).bind fun y s2 => R.of (o s2 (.str a) y) s2
  | _ => .no
theorem me_m1 {id : String} {name : Str} {a b : Expr} {f g : FE} {o : O2} {apos pos : Pos} {r : V → List V → Hp → VK → Prop} (slot : Slot "str" name id) (ty : typeOf (.builtin id) = pure (.type "method_descriptor")) (rule : MtR X id r) (hs : Op2 Γ (fun x y H Q => r x [y] H Q) o) (ha : ME X Γ W a f) (hb : ME X Γ W b g)
    (hse : starEach [b] X.env = [(false, eval b X.env)] := by rfl) (hbase : attributeBase a name X.env (eval a X.env) = eval a X.env := by rfl) (hline : (apos.endLine == pos.line) = true := by rfl) :
    ME X Γ W (.Call (.Attribute a name apos) [b] [] pos) (mStr1 o f g) :=
  PE.imp (pe_m1 slot ty rule ha hb hse hbase hline) fun σ H Q ⟨μ, Z, ρ, s, hE, hR, q⟩ => eE hE hR q fun x s1 u H1 μ1 e1 hE1 R1 r1 q1 => by
    cases x with
    | str a => exact ⟨⟨a, r1⟩, eE hE1 R1 q1 fun y s2 v H2 μ2 e2 hE2 R2 r2 q2 => by
        obtain ⟨w, hw, k⟩ := ofE q2
        exact hs H2 μ2 Z s2 (.str a) y w u v Q R2 (r1.mono e2) r2 hw k⟩
    | _ => exact q1.elim
def spD : O2 := fun _ x y => match x, y with
  | .str a, .str b => if (b.length == 0) = false ∧ a.length ≤ 1000000 then some (.lst ((Txt.split a b).map .str)) else none
  | _, _ => none
theorem sSplit : Op2 Γ (fun x y H Q => ∃ a b, x = .str a ∧ [y] = [.str b] ∧ (b.length == 0) = false ∧ a.length + 2 ≤ sizeLine ∧ rNewStrs (Txt.split a b) H Q) spD := fun H μ Z s x y w u v Q hR r1 r2 e k => by
  unfold spD at e
  split at e
  · rename_i a b
    split at e
    · rename_i hc
      cases e
      rw [show u = .str a from r1, show v = .str b from r2]
      refine ⟨a, b, rfl, rfl, hc.1, by have := hc.2; rw [sizeLine_eq]; omega, fun p hp => ?_⟩
      exact k _ _ (Evo.laid hp) (hR.laid hp) (new_lst hR hp (rvs_strs _))
    · cases e
  · cases e
def jnD : O2 := fun s x y => match x, (seqOf s y).bind strsOf with
  | .str a, some ys => if (ys.map (·.length)).sum + ys.length * a.length ≤ 1000000 then some (.str (Txt.join a ys)) else none
  | _, _ => none
theorem sJoin : Op2 Γ (fun x y H Q => ∃ a p, ∃ ys : List Str, x = .str a ∧ [y] = [.ref p] ∧ (SqL Γ.K H p (ys.map V.str) ∨ SqT Γ.K H p (ys.map V.str)) ∧
    (ys.map (·.length)).sum + ys.length * a.length ≤ 16777216 ∧ Q (.str (Txt.join a ys)) H) jnD := fun H μ Z s x y w u v Q hR r1 r2 e k => by
  unfold jnD at e
  split at e
  · rename_i a ys q
    split at e
    · rename_i hc
      cases e
      cases q1 : seqOf s y with
      | none => rw [q1] at q; cases q
      | some ws =>
        rw [q1] at q
        obtain ⟨p, xs, rfl, h2, h3⟩ := seqOf_ok hR r2 q1
        rw [strsOf_ok h3 q] at h2
        exact ⟨a, p, ys, r1, rfl, h2, by omega, k _ H .refl hR rfl⟩
    · cases e
  · cases e
def rpD : O2 := fun _ x y => match x, y with
  | .str a, .str b => if a.length ≤ 1000000 then some (.str (Txt.removeprefix a b)) else none
  | _, _ => none
theorem sRmp : Op2 Γ (fun x y H Q => ∃ a b, x = .str a ∧ [y] = [.str b] ∧ a.length ≤ sizeLine ∧ Q (.str (Txt.removeprefix a b)) H) rpD := fun H μ Z s x y w u v Q hR r1 r2 e k => by
  unfold rpD at e
  split at e
  · rename_i a b
    split at e
    · rename_i hc
      cases e
      exact ⟨a, b, r1, by rw [show v = .str b from r2], by rw [sizeLine_eq]; omega, k _ H .refl hR rfl⟩
    · cases e
  · cases e
/-! ### str(i), int(text), all -/
def strD : ON := fun _ xs => match xs with
  | [.int i] => if i.natAbs < 2 ^ 60 then some (.str (toString i)) else none
  | _ => none
theorem sStrI : OpN Γ (fun xs H Q => ∃ i, xs = [.int i] ∧ i.natAbs.log2 < 1920 ∧ Q (.str (toString i)) H) strD := fun H μ Z s xs w vs Q hR rx e k => by
  unfold strD at e
  split at e
  · rename_i i
    split at e
    · rename_i hc
      cases e
      obtain ⟨v, rfl, r1⟩ := one rx
      rw [show v = .int i from r1]
      refine ⟨i, rfl, ?_, k _ H .refl hR rfl⟩
      by_cases h0 : i.natAbs = 0
      · rw [h0]; decide
      · exact Nat.lt_trans ((Nat.log2_lt h0).mpr hc) (by decide)
    · cases e
  · cases e
def intA : ON := fun s xs => match intD s xs with
  | some w => some w
  | none => match xs with
    | [.str a] => match PySem.intText? a with
      | some n => if a.length ≤ 640 then some (.int n) else none
      | none => none
    | _ => none
abbrev rIntA : List V → Hp → VK → Prop := fun xs H Q => ((∃ i, xs = [.int i] ∧ Q (.int i) H) ∨ ∃ k, xs = [.bl k] ∧ Q (.int (if k then 1 else 0)) H) ∨ (∃ a n, xs = [.str a] ∧ PySem.intText? a = some n ∧ a.length ≤ 640 ∧ Q (.int n) H)
theorem call_intA : CallR X (.type "int") rIntA := CallR.or2 call_int1 call_int_str
theorem sIntA : OpN Γ rIntA intA := fun H μ Z s xs w vs Q hR rx e k => by
  unfold intA at e
  split at e
  · rename_i w' q
    cases e
    exact .inl (sInt H μ Z s xs w vs Q hR rx q k)
  · split at e
    · rename_i a _
      split at e
      · rename_i n q
        split at e
        · rename_i hl
          cases e
          obtain ⟨v, rfl, r1⟩ := one rx
          rw [show v = .str a from r1]
          exact .inr ⟨a, n, rfl, q, hl, k _ H .refl hR rfl⟩
        · cases e
      · cases e
    · cases e
def blOf : Dv → Option Bool
  | .bl b => some b
  | _ => none
def blsOf : List Dv → Option (List Bool)
  | [] => some []
  | .bl b :: r => (blsOf r).map (b :: ·)
  | _ => none
theorem blsOf_ok : ∀ {ws : List Dv} {vs : List V} {bs : List Bool}, RVs Γ H μ Z ws vs → blsOf ws = some bs → vs = bs.map V.bl
  | [], _, _, r, e => by cases e; exact r
  | w :: ws, _, bs, r, e => by
    obtain ⟨x, xs, rfl, h1, h2⟩ := r
    cases w with
    | bl y =>
      simp only [blsOf] at e
      cases q : blsOf ws with
      | none => rw [q] at e; cases e
      | some zs =>
        rw [q] at e
        cases e
        rw [show x = .bl y from h1, blsOf_ok h2 q]
        rfl
    | _ => cases e
theorem bls_map : ∀ ys : List Bool, blsOf (ys.map .bl) = some ys
  | [] => rfl
  | y :: ys => by
    show (blsOf (ys.map .bl)).map (y :: ·) = _
    rw [bls_map ys]
    rfl
def allD : ON := fun s xs => match xs with
  | [x] => match (lstOf s x).bind blsOf with
    | some bs => some (.bl (bs.all id))
    | none => none
  | _ => none
theorem sAll (hK : Γ.K = X.K) : OpN Γ (rAll X.K) allD := fun H μ Z s xs w vs Q hR rx e k => by
  rw [← hK]
  unfold allD at e
  split at e
  · rename_i x
    split at e
    · rename_i bs q
      cases e
      obtain ⟨v, rfl, r1⟩ := one rx
      cases q1 : lstOf s x with
      | none => rw [q1] at q; cases q
      | some ws =>
        rw [q1] at q
        obtain ⟨p, xs, rfl, h2, h3⟩ := lstOf_ok hR r1 q1
        rw [blsOf_ok h3 q] at h2
        exact ⟨p, bs, rfl, SqL.of h2, k _ H .refl hR rfl⟩
    · cases e
  · cases e
/-! ### a sign in a text; a text walked; a sign of a text -/
def inD : O2 := fun _ x y => match x, y with
  | .str a, .str z => match a.cps.toList with
    | [c] => some (.bl (decide (c ∈ z.cps.toList)))
    | _ => none
  | _, _ => none
theorem sInS : Op2 Γ (fun x y H Q => ∃ (c : Nat) (z : Str), x = .str ⟨#[c]⟩ ∧ y = .str z ∧ Q (.bl (decide (c ∈ z.cps.toList))) H) inD := fun H μ Z s x y w u v Q hR r1 r2 e k => by
  unfold inD at e
  split at e
  · rename_i a z
    split at e
    · rename_i c q
      cases e
      have ea : a = ⟨#[c]⟩ := by
        cases a with
        | mk cs =>
          congr 1
          exact Array.toList_inj.mp q
      subst ea
      exact ⟨c, z, r1, r2, k _ H .refl hR rfl⟩
    · cases e
  · cases e
def iStrD (f : FE) : FI := fun ρ s => (f ρ s).bind fun w s1 => match w with
  | .str x => .ok { ws := x.cps.toList.map fun c => .str ⟨#[c]⟩ } s1
  | _ => .no
theorem mi_str {tg e : Expr} {f : FE} (ha : ME X Γ W e f) : MI X Γ W tg e (iStrD f) :=
  PI.imp (pi_str ha) fun σ H Q ⟨μ, Z, ρ, s, hE, hR, q⟩ => iI hE hR q fun x s1 v H1 μ1 e1 hE1 R1 r1 q1 => by
    cases x with
    | str y =>
      refine ⟨y, r1, q1 _ _ _ .refl R1 fun H' μ' Z' s' ev hR' hy hz _ => ⟨by rw [List.length_map]; simp [Its], fun i w hi => ?_⟩⟩
      rw [List.getElem?_map] at hi
      cases q2 : y.cps.toList[i]? with
      | none => rw [q2] at hi; cases hi
      | some c =>
        rw [q2] at hi
        cases hi
        have q3 : y.cps[i]? = some c := by rw [← Array.getElem?_toList]; exact q2
        refine ⟨by have := (Array.getElem?_eq_some_iff.mp q3).1; exact this, fun z H'' hq => ?_⟩
        obtain ⟨rfl, c', h1, rfl⟩ := hq
        rw [q3] at h1
        cases h1
        exact ⟨.refl, hR', rfl⟩
    | _ => exact q1.elim
def ixS : O2 := fun _ x y => match x, y with
  | .str z, .int i => if z.length ≤ 1000000 then (match atI z.cps.toList i with
    | some c => some (.str ⟨#[c]⟩)
    | none => none) else none
  | _, _ => none
theorem sIxS : Op2 Γ rIxS ixS := fun H μ Z s x y w u v Q hR r1 r2 e k => by
  unfold ixS at e
  split at e
  · rename_i z i
    split at e
    · rename_i hl
      split at e
      · rename_i c q
        cases e
        exact ⟨z, i, c, r1, r2, by rw [sizeLine_eq]; omega, q, k _ H .refl hR rfl⟩
      · cases e
    · cases e
  · cases e
theorem me_ixS {a b : Expr} {f g : FE} {pos : Pos} (ha : ME X Γ W a f) (hb : ME X Γ W b g) (hs : PlainIx b) : ME X Γ W (.Subscript a b pos) (mBin ixS f g) :=
  PE.imp (pe_ix ix_str ha hb hs) fun σ H Q ⟨μ, Z, ρ, s, hE, hR, q⟩ => eE hE hR q fun x s1 u H1 μ1 e1 hE1 R1 r1 q1 => eE hE1 R1 q1 fun y s2 v H2 μ2 e2 hE2 R2 r2 q2 => by
    obtain ⟨w, hw, k⟩ := ofE q2
    exact sIxS H2 μ2 Z s2 x y w u v Q R2 (r1.mono e2) r2 hw k
/-- f'a{b}' -/
def fmtD : Dv → Option Str
  | .str y => if y.length ≤ 1000000 then some y else none
  | .int i => if i.natAbs < 2 ^ 60 then some (toString i) else none
  | _ => none
def mFmt2 (a : Str) (g : FE) : FE := fun ρ s => if a.length ≤ 1000000 then (g ρ s).bind fun x s1 => match fmtD x with
  | some y => if (a ++ y).length ≤ 10000000 then .ok (.str (a ++ y)) s1 else .no
  | none => .no else .no
theorem str_e0 (a : Str) : Str.empty ++ a = a := by
  cases a with
  | mk cs =>
    show (⟨#[] ++ cs⟩ : Str) = _
    rw [Array.empty_append]
theorem me_fmt2 {a : Str} {k : Nat} {e : Expr} {g : FE} {p1 p2 pos : Pos} (hb : ME X Γ W e g) : ME X Γ W (.JoinedStr [.Constant (.str a) k p1, .FormattedValue e (-1) none p2] pos) (mFmt2 a g) :=
  PE.imp (pe_joined (.cons pe_str (.cons (pe_fmt hb) .nil))) fun σ H Q ⟨μ, Z, ρ, s, hE, hR, q⟩ => by
    unfold mFmt2 at q
    split at q
    · rename_i ha
      refine ⟨a, rfl, by rw [str_e0, sizeLine_eq]; omega, ?_⟩
      rw [str_e0]
      refine eE hE hR q fun x s1 u H1 μ1 e1 hE1 R1 r1 q1 => ?_
      unfold fmtD at q1
      cases x with
      | str y =>
        dsimp only at q1
        split at q1
        · rename_i y' e
          split at e
          · rename_i hy
            cases e
            split at q1
            · rename_i hl
              exact .inl ⟨y, r1, by rw [sizeLine_eq]; omega, y, rfl, by rw [sizeLine_eq]; omega, q1 _ _ _ .refl R1 rfl⟩
            · exact q1.elim
          · cases e
        · exact q1.elim
      | int i =>
        dsimp only at q1
        split at q1
        · rename_i y' e
          split at e
          · rename_i hy
            cases e
            split at q1
            · rename_i hl
              refine .inr ⟨i, r1, ?_, toString i, rfl, by rw [sizeLine_eq]; omega, q1 _ _ _ .refl R1 rfl⟩
              by_cases h0 : i.natAbs = 0
              · rw [h0]; decide
              · exact Nat.lt_trans ((Nat.log2_lt h0).mpr hy) (by decide)
            · exact q1.elim
          · cases e
        · exact q1.elim
      | _ => exact q1.elim
    · exact q.elim
end
end MP
namespace MP
open PySem PySem.Spec PyProof.Rows L2
section
variable {X : Cx} {Γ : Ct} {W : WX}
theorem me_globS {x y : Str} {pos : Pos} (hg : Gl X x) (hm : ∃ t, X.mg x = some (.str y t)) (hd : (x == ("__debug__" : Str)) = false := by decide) : ME X Γ W (.Name x pos) (mK (.str y)) := by
  obtain ⟨t, h⟩ := hm
  exact PE.imp (pe_glob (v := .str y) hg h ⟨t, rfl⟩ hd) fun σ H Q ⟨μ, Z, ρ, s, hE, hR, q⟩ => q (.str y) H μ .refl hR rfl
end
end MP

set_option Elab.async false
set_option linter.all false
set_option maxRecDepth 100000
set_option maxHeartbeats 400000
/-! facts of texts: ints in decimal, words -/
namespace MP
open PySem PySem.Spec PyProof.Rows L2 TL PySem.NumText
abbrev Wi (i : Int) : Str := Str.ofString (toString i)
/-- the signs of a number -/
def dg (i : Int) : List Nat := if 0 ≤ i then numL i.toNat else 45 :: numL (-i).toNat
theorem tl_W (i : Int) : tl (Wi i) = dg i := by
  unfold dg
  by_cases h : 0 ≤ i
  · rw [if_pos h]
    obtain ⟨n, rfl⟩ : ∃ n : Nat, i = n := ⟨i.toNat, by omega⟩
    rw [Int.toNat_natCast]
    exact tl_num n
  · rw [if_neg h]
    obtain ⟨n, rfl⟩ : ∃ n : Nat, i = Int.negSucc n := ⟨(-i - 1).toNat, by omega⟩
    have e1 : (-(Int.negSucc n)).toNat = n + 1 := by omega
    rw [e1]
    have e2 : tl (Str.ofString (toString ((n + 1 : Nat) : Int))) = numL (n + 1) := tl_num (n + 1)
    have e3 : (toString (Int.negSucc n) : String) = "-" ++ toString ((n + 1 : Nat) : Int) := rfl
    show tl (Str.ofString (toString (Int.negSucc n))) = _
    rw [e3, tl_ofString, String.toList_append, List.map_append, ← tl_ofString, ← tl_ofString, e2]
    rfl
theorem dg_ne (i : Int) : dg i ≠ [] := by
  unfold dg
  split
  · exact numL_ne _
  · simp
theorem dg_mem {i : Int} {c : Nat} (h : c ∈ dg i) : c = 45 ∨ (48 ≤ c ∧ c ≤ 57) := by
  unfold dg at h
  split at h
  · exact .inr (numL_digits _ c h)
  · rcases List.mem_cons.mp h with h | h
    · exact .inl h
    · exact .inr (numL_digits _ c h)
theorem dg_free {i : Int} {c : Nat} (h : c ≠ 45) (h2 : c < 48 ∨ 57 < c) : c ∉ dg i := fun hm => by
  rcases dg_mem hm with q | q
  · exact h q
  · omega
theorem numL_head {n : Nat} (h : 0 < n) : ∃ c r, numL n = c :: r ∧ c ≠ 48 ∧ 48 ≤ c ∧ c ≤ 57 := by
  induction n using Nat.strongRecOn with
  | _ n ih =>
    by_cases hn : n < 10
    · exact ⟨48 + n, [], numL_lt hn, by omega, by omega, by omega⟩
    · obtain ⟨c, r, h1, h2, h3⟩ := ih (n / 10) (by omega) (by omega)
      exact ⟨c, r ++ [48 + n % 10], by rw [numL_step (by omega), h1]; rfl, h2, h3⟩
theorem int_W {i : Int} (h : (dg i).length ≤ 600) : PySem.intText? (Wi i) = some i := by
  have e := tl_W i
  have hl : (Wi i).length ≤ 600 := by rw [len_tl, e]; exact h
  unfold dg at e
  by_cases h0 : 0 ≤ i
  · rw [if_pos h0] at e
    have q := intText_digits (x := Wi i) (by rw [show (Wi i).cps.toList = numL i.toNat from e]; exact numL_digits _) (by rw [show (Wi i).cps.toList = numL i.toNat from e]; exact numL_ne _) (by omega)
    rw [show (Wi i).cps.toList = numL i.toNat from e, numL_val] at q
    rw [q]
    congr 1
    omega
  · rw [if_neg h0] at e
    rw [intText_neg (cs := numL (-i).toNat) e (numL_digits _) (numL_ne _) (by omega), numL_val]
    congr 1
    omega
theorem rmp_W (i : Int) : tl (Txt.removeprefix (Wi i) "-") = numL i.natAbs := by
  have e := tl_W i
  have es : PySem.Builtin.Str.subAt (Wi i) "-" 0 = decide (i < 0) := by
    rw [PySem.StrLaws.subAt_eq, List.drop_zero]
    rw [show (Wi i).cps.toList = dg i from e, show (Str.ofString "-").cps.toList = [45] from by decide +kernel, show (Str.ofString "-").length = 1 from by decide +kernel]
    unfold dg
    by_cases h0 : 0 ≤ i
    · rw [if_pos h0, decide_eq_false (by omega)]
      have hd := numL_digits i.toNat
      have hn := numL_ne i.toNat
      cases q : numL i.toNat with
      | nil => exact absurd q hn
      | cons c r =>
        rw [q] at hd
        have := hd c List.mem_cons_self
        show ([c] == [45]) = false
        simp
        omega
    · rw [if_neg h0, decide_eq_true (by omega)]
      rfl
  unfold Txt.removeprefix
  rw [es]
  by_cases h0 : 0 ≤ i
  · rw [decide_eq_false (by omega)]
    show tl (Wi i) = _
    rw [e]
    unfold dg
    rw [if_pos h0]
    congr 1
    omega
  · rw [decide_eq_true (by omega), if_pos rfl]
    unfold Txt.affix
    have hl : (Wi i).length = (dg i).length := by rw [len_tl, e]
    have hd : dg i = 45 :: numL (-i).toNat := if_neg h0
    have h1 : (Str.ofString "-").length = 1 := by decide +kernel
    rw [h1]
    dsimp only
    have hne : ¬ ((Wi i).length - 1 == (Wi i).length) = true := by
      rw [hl, hd]
      simp
    rw [if_neg hne, tl_strSub_end, e, hd]
    show numL (-i).toNat = _
    congr 1
    omega
theorem eqS {s : Sto} {a b : Str} : eqD s (.str a) (.str b) = some (.bl (decide (a = b))) := eq_ss
theorem numL_len2 {n k : Nat} (hk : 0 < k) (h : n < 10 ^ k) : 1 ≤ (numL n).length ∧ (numL n).length ≤ k := ⟨by
  have := numL_ne n
  cases q : numL n with
  | nil => exact absurd q this
  | cons a b => simp, numL_len hk h⟩
theorem dg_len {i : Int} {k : Nat} (hk : 0 < k) (h : i.natAbs < 10 ^ k) : (dg i).length ≤ k + 1 := by
  unfold dg
  split
  · have := numL_len hk (n := i.toNat) (by omega)
    omega
  · have := numL_len hk (n := (-i).toNat) (by omega)
    simp only [List.length_cons]
    omega
/-! ### repr of texts -/
theorem str_ok {x : Str} (hc : ∀ c ∈ tl x, c < 128) : PyData.strOk x = true := by
  unfold PyData.strOk
  rw [← Array.all_toList, List.all_eq_true]
  intro c h
  exact decide_eq_true (Nat.lt_trans (hc c h) (by decide))
theorem pl_text {x : Str} (hc : ∀ c ∈ tl x, c < 128) (hl : x.length ≤ 190000) : Pl (x.length / 100 + 1) 0 (.str x) (.str x) where
  to := rfl
  lay := by simp only [PyData.canLay0]; exact str_ok hc
  shw := by simp only [PyData.showable]
  nod := by simp only [PyData.hasDict]
  deep := by simp only [PyData.depth]; exact Nat.le_refl _
  len := by
    have := PySem.StrLaws.reprText_len x fun c h => Nat.lt_trans (hc c h) (by decide)
    simp only [PyData.shown]
    omega
end MP

set_option Elab.async false
set_option linter.all false
set_option maxRecDepth 100000
set_option maxHeartbeats 400000
/-! parts of texts, a text some times, a sign not in a text -/
namespace MP
open PySem PySem.Spec PyProof.Rows L2
section
variable {X : Cx} {Γ : Ct} {W : WX} {e : Expr} {f : FE} {pos p2 : Pos} {lo hi : Option Expr} {flo fhi : FO}
def slS : OS := fun _ x a b => match x with
  | .str z => if z.length ≤ 1000000 then some (.str (cutS z a b)) else none
  | _ => none
theorem me_slS (ha : ME X Γ W e f) (hl : MO X Γ W lo flo) (hh : MO X Γ W hi fhi) : ME X Γ W (.Subscript e (.Slice lo hi none p2) pos) (mSl slS f flo fhi) :=
  PE.imp (pe_slice sl_str ha hl hh) fun σ H Q ⟨μ, Z, ρ, s, hE, hR, q⟩ => eE hE hR q fun x s1 u H1 μ1 e1 hE1 R1 r1 q1 => oE hE1 R1 q1 fun l s2 H2 μ2 e2 hE2 R2 q2 => oE hE2 R2 q2 fun h s3 H3 μ3 e3 hE3 R3 q3 => by
    obtain ⟨w, hw, k⟩ := ofE q3
    unfold slS at hw
    split at hw
    · rename_i z
      split at hw
      · rename_i hz
        cases hw
        exact ⟨z, (r1.mono e2).mono e3, by rw [sizeLine_eq]; omega, k _ H3 .refl R3 rfl⟩
      · cases hw
    · cases hw
theorem op_mul_str : OpR X (binaryOp .Mult) (fun x y H Q => ∃ z n, x = .str z ∧ y = .int n ∧ MulOk z n ∧ Q (.str (Txt.mul z n)) H) := by
  intro pins s σ H x y v u Q I rx ry h
  obtain ⟨z, n, rfl, rfl, hz, q⟩ := h
  obtain ⟨t, rfl⟩ := rx
  obtain ⟨t', rfl⟩ := ry
  exact SB.mul hz fun t' tk => ⟨.str (Txt.mul z n), H, I.tok _, ⟨_, rfl⟩, q⟩
theorem mul_few {z : Str} {n : Int} (h0 : 0 ≤ n) (h4 : n ≤ 4) (hz : z.length ≤ 1000000) : MulOk z n := by
  have ht : ∀ k : Nat, k ≤ 4 → Builtin.Str.tooLong (z.length * k) = false := fun k hk => by
    refine decide_eq_false ?_
    rw [sizeLine_eq]
    have : z.length * k ≤ 1000000 * 4 := Nat.mul_le_mul hz hk
    omega
  obtain rfl | rfl | rfl | rfl | rfl : n = 0 ∨ n = 1 ∨ n = 2 ∨ n = 3 ∨ n = 4 := by omega
  all_goals exact ⟨by decide, fun _ _ => by omega, fun _ _ => ht _ (by first | exact (by decide : (0 : Int).toNat ≤ 4) | exact (by decide : (1 : Int).toNat ≤ 4) | exact (by decide : (2 : Int).toNat ≤ 4) | exact (by decide : (3 : Int).toNat ≤ 4) | exact (by decide : (4 : Int).toNat ≤ 4))⟩
def mulS : O2 := fun _ x y => match x, y with
  | .str z, .int n => if 0 ≤ n ∧ n ≤ 4 ∧ z.length ≤ 1000000 then some (.str (Txt.mul z n)) else none
  | _, _ => none
theorem sMulS : Op2 Γ (fun x y H Q => ∃ z n, x = .str z ∧ y = .int n ∧ MulOk z n ∧ Q (.str (Txt.mul z n)) H) mulS := fun H μ Z s x y w u v Q hR r1 r2 e k => by
  unfold mulS at e
  split at e
  · rename_i z n
    split at e
    · rename_i hc
      cases e
      exact ⟨z, n, r1, r2, mul_few hc.1 hc.2.1 hc.2.2, k _ H .refl hR rfl⟩
    · cases e
  · cases e
def ninD : O2 := fun _ x y => match x, y with
  | .str a, .str z => match a.cps.toList with
    | [c] => some (.bl (!decide (c ∈ z.cps.toList)))
    | _ => none
  | _, _ => none
theorem sNinS : Op2 Γ (fun x y H Q => ∃ (c : Nat) (z : Str), x = .str ⟨#[c]⟩ ∧ y = .str z ∧ Q (.bl (!decide (c ∈ z.cps.toList))) H) ninD := fun H μ Z s x y w u v Q hR r1 r2 e k => by
  unfold ninD at e
  split at e
  · rename_i a z
    split at e
    · rename_i c q
      cases e
      have ea : a = ⟨#[c]⟩ := by
        cases a with
        | mk cs =>
          congr 1
          exact Array.toList_inj.mp q
      subst ea
      exact ⟨c, z, r1, r2, k _ H .refl hR rfl⟩
    · cases e
  · cases e
/-! ### three names at once -/
def mPar3 (i j l : Nat) (fa : FA) : FS := fun ρ s => (fa ρ s).thenC ρ fun ws s1 => match ws with
  | [v, w, u] => .nx (((ρ.set i (some v)).set j (some w)).set l (some u)) s1
  | _ => .no
variable {x y z : Str} {i j l : Nat} {a b c : Expr}
theorem ms_par3 {px py pz pt : Pos} {kt k2 pt2} {fa : FA} (hc : X.calm = true) (hN : X.N.Nodup) (hi : X.N[i]? = some x) (hj : X.N[j]? = some y) (hl : X.N[l]? = some z) (hij : i ≠ j ∧ i ≠ l ∧ j ≠ l)
    (hx : X.env.scope.names.lookup x = some .local) (hy : X.env.scope.names.lookup y = some .local) (hz : X.env.scope.names.lookup z = some .local) (ha : MA X Γ W [a, b, c] fa)
    (hw : swappedStores [.Tuple [.Name x px, .Name y py, .Name z pz] kt pt] (.Tuple [a, b, c] k2 pt2) X.env = pure (some [x, y, z]))
    (hs : swapsWithSole [.Tuple [.Name x px, .Name y py, .Name z pz] kt pt] (.Tuple [a, b, c] k2 pt2) pos.line X.env = pure false := by rfl) :
    MS X Γ W (.Assign [.Tuple [.Name x px, .Name y py, .Name z pz] kt pt] (.Tuple [a, b, c] k2 pt2) pos) (mPar3 i j l fa) :=
  PS.imp (ps_par3 hc hN hi hj hl hij.1 hij.2.1 hij.2.2 hx hy hz ha hw hs) fun D σ H ⟨μ, Z, ρ, s, hE, hR, q⟩ => aS hE hR q fun ws s1 vs H1 μ1 ev E1 R1 r1 q1 => by
    match ws, q1, r1 with
    | [v, w, u], q1, r1 =>
      obtain ⟨x1, xs, rfl, ra, rb⟩ := r1
      obtain ⟨x2, xs, rfl, rb, rc⟩ := rb
      obtain ⟨x3, xs, rfl, rc, rfl⟩ := rc
      exact ⟨x1, x2, x3, rfl, q1 _ H1 μ1 .refl R1 (((E1.set i ra).set j rb).set l rc)⟩
    | [], q1, _ => exact q1.elim
    | [_], q1, _ => exact q1.elim
    | [_, _], q1, _ => exact q1.elim
    | _ :: _ :: _ :: _ :: _, q1, _ => exact q1.elim
end
end MP

set_option Elab.async false
set_option linter.all false
set_option maxRecDepth 100000
set_option maxHeartbeats 4000000
/-! comprehensions whose item may raise (within a def's own suite) -/
namespace MP
open PySem PySem.Spec PyProof.Rows L2
open Sem (wp)
/-! ### an exception that a call let out -/
def XF (X : Cx) (W : WX) (u : Value) (s' : Shared) : Prop :=
  ∃ (a : Addr) (B : Heap) (sI : Shared) (pins : List (Addr × Obj)) (σ : L2.St) (H : Hp) (cls : Value) (d : Option Addr),
    u = .ref a ∧ Inv X pins σ H sI ∧ (∀ b o, sI.heap.get? b = some o → b ∉ frs X.stack → B.get? b = some o) ∧ sI.heap.UpToSlots s'.heap ∧
      HandSPX.FlyingZ B X.stack a (Zc cls d) s'.heap ∧ H a = none ∧ s'.os = sI.os ∧ AllBare s'.gens ∧ W cls d σ H
def TakesF (X : Cx) (W : WX) : Prop := ∀ u s', XF X W u s' → X.xe u s'
section
variable {X : Cx} {pins : List (Addr × Obj)} {σ : L2.St} {H : Hp} {sI s s' : Shared} {B : Heap} {W : WX} {E : XK}
theorem XF.of_call (I : Inv X pins σ H s) (hW : ∀ cls d H', E cls d H' → W cls d σ H') {u : Value} (c : L2.CX X.prog X.w X.stack H s E u s') : XF X W u s' := by
  obtain ⟨a, B, H', cls, d, rfl, fl, hok, ub, na, os, ag, hE⟩ := c
  obtain ⟨G, g1, g2⟩ := restrict s'.heap fun b => (B.get? b).isSome || decide (b ∈ frs X.stack)
  have st : B.StaysIn s'.heap := fl.1
  have gB : ∀ b o, B.get? b = some o → G.get? b = some o := fun b o e => by
    rw [g1 b (by simp [e])]
    exact st b o e
  have gF : ∀ b, b ∈ frs X.stack → G.get? b = s'.heap.get? b := fun b hb => g1 b (by simp [hb])
  have og : ∀ b o, G.get? b = some o → s'.heap.get? b = some o ∧ ((B.get? b).isSome = true ∨ b ∈ frs X.stack) := fun b o e => by
    cases q : ((B.get? b).isSome || decide (b ∈ frs X.stack)) with
    | false => rw [g2 b q] at e; cases e
    | true =>
      rw [g1 b q] at e
      exact ⟨e, by simpa [Bool.or_eq_true] using q⟩
  refine ⟨a, B, { s with heap := G, gens := s'.gens, drawn := s'.drawn, toks := s'.toks }, pins, σ, H', cls, d, rfl, ?_, fun b o e hb => ?_, Heap.UpToSlots.of_keeps fun b o e => (og b o e).1, fl, na, os, ag, hW _ _ _ hE⟩
  · refine I.call (ch := []) ⟨fun b o e n hb _ => gB b o (ub.keep b o e n hb), fun b o e n hb _ => ?_, fun b o e n _ => ub.free b o e n, fun b o e _ => ?_, ub.tups, ub.frzs, ub.tbls⟩ (hok.kept gB) ag (fun _ z => nomatch z)
    · obtain ⟨sl, q⟩ := ub.slot b o e hb
      exact ⟨sl, by rw [gF b hb]; exact q⟩
    · by_cases hb : b ∈ frs X.stack
      · obtain ⟨sl, q⟩ := ub.slot b o e hb
        exact ⟨_, by rw [gF b hb]; exact q⟩
      · obtain ⟨o', q⟩ := ub.there b o e hb
        exact ⟨o', gB b o' q⟩
  · obtain ⟨e', h⟩ := og b o e
    rcases h with h | h
    · obtain ⟨o', q⟩ := Option.isSome_iff_exists.mp h
      have z := st b o' q
      rw [e'] at z; cases z
      exact q
    · exact absurd h hb
end
/-! ### the call of a def, the exception taken so -/
section
variable {X : Cx} {Γ : Ct} {W : WX} {k : Nat} {f : Addr} {fd : FuncData} {ps : List Str} {den : Fn} {x : Str} {p pos : Pos} {e : Expr} {es : List Expr} {fa : FA}
theorem run_GF {pins : List (Addr × Obj)} {σ : L2.St} {H : Hp} {s : Shared} {Q : VK} {us : List Value} {vs : List V} (F : FnG X.prog X.w X.mg X.base Γ k f fd ps den) (hK : Γ.K = X.K) (hr : Room k X.A) (hg : X.A.guards = some []) (hb : Binds X.K fd ps []) (tk : TakesF X W)
    (I : Inv X pins σ H s) (r : Vals vs us) (h : spM Γ ps den (vs ++ []) H Q (WE W σ)) : wpAny (model X.prog X.w) X.A (call (.ref f) us) (EP X pins σ Q) X.xe s := by
  have r2 : Vals (vs ++ []) (us ++ []) := r.append .nil
  have hl : (us ++ []).length = ps.length := r2.length.symm.trans h.1
  refine wpAny_call (codeAny_mono (F.run X.A X.stack s H ⟨us, []⟩ (us ++ []) (vs ++ []) Q (WE W σ) hr hg (by rw [hK]; exact I.env0) (hb s us I.kIn hl) r2 h) fun r' s' hq => ?_)
  cases r' with
  | error e => exact tk e s' (XF.of_call I (fun _ _ _ h => h) hq)
  | ok fl =>
    cases fl with
    | ret u => exact I.after hq
    | next => exact hq.elim
    | brk => exact hq.elim
    | cont => exact hq.elim
theorem me_calF (C : Cal X.prog X.w X.mg X.base Γ k x ps den) (hK : Γ.K = X.K) (hr : Room k X.A) (hg : X.A.guards = some []) (tk : TakesF X W) (hgl : Gl X x) (ha : MA X Γ W (e :: es) fa) (n : Nat) (hl : FA.Len fa n) (hn : n = ps.length) (hnl : (e :: es).length = n) (hdb : (x == ("__debug__" : Str)) = false := by decide)
    (he : starEach (e :: es) X.env = (false, eval e X.env) :: starEach es X.env := by rfl) (hpl : (backTo pos (starEach es X.env)).any (·.1) = false := by rfl) :
    ME X Γ W (.Call (.Name x p) (e :: es) [] pos) (mCall den fa) := by
  obtain ⟨f, fd, F, hm, hk, hb⟩ := C
  refine ⟨fun pins s σ H Q I ⟨μ, Z, ρ, s0, hE, hR, q⟩ => ?_⟩
  refine wpAny_Call_Name_kw (ld_glob I hgl hm ?_ hdb)
  have q' : rdA Γ W fa σ H fun vs H1 => spM Γ ps den (vs ++ []) H1 Q (WE W σ) := by
    refine ⟨μ, Z, ρ, s0, hE, hR, ?_⟩
    unfold mCall at q
    cases e1 : fa ρ s0 with
    | ok ws s1 =>
      rw [e1] at q
      have q2 : PostE Γ W H μ Z σ Q (den ws s1) := q
      intro vs H1 μ1 ev R1 r1
      refine ⟨?_, μ1, Z, s1, ws, R1, by rw [List.append_nil]; exact r1, post_call (PostE.evo ev q2)⟩
      rw [List.append_nil, r1.len, hl _ _ _ _ e1, hn]
    | er x1 s1 => rw [e1] at q; exact q
    | no => rw [e1] at q; exact q
  refine PySem.W.callWith_K (h₀ := X.base) I.ok.mod.kin (hK ▸ hk) (thn (ha.run pos pins s σ H _ I q') fun us s1 ⟨vs, H1, I1, r, z⟩ => ⟨I1.kIn, ?_⟩) he hpl
  exact run_GF F hK hr hg (hK ▸ hb) tk I1 r z
end
/-! ### the block -/
abbrev blkX (X : Cx) (s : Shared) (H : Hp) (scope : Scope) (cenv : PySem.Env) (fp : List Addr) (xe : Value → Shared → Prop) : Cx := { X.blk s H scope cenv fp with xe := xe }
theorem Inv.xe' {X : Cx} {pins : List (Addr × Obj)} {σ : L2.St} {H : Hp} {s : Shared} (I : Inv X pins σ H s) (xe : Value → Shared → Prop) : Inv { X with xe := xe } pins σ H s := by
  cases I with
  | mk ok =>
    refine ⟨?_, ?_, ?_, ?_, ?_, ?_, ?_, ?_, ?_, ?_, ?_⟩ <;> first | assumption | skip
    cases ok
    constructor <;> assumption
section
variable {M : Model} {A : Around} {E : Value → Shared → Prop} {s : Shared} {env : PySem.Env}
def cpX (M : Model) (A : Around) (E : Value → Shared → Prop) (Q : Value → Shared → Prop) (acc : Value) (cenv : PySem.Env) (r : Result) (s' : Shared) : Prop :=
  match r with
  | .ok _ => ∃ m, s'.heap.Ns cenv.locals m ∧ ∀ h', Heap.SameBut cenv.locals s'.heap h' → Q acc { s' with heap := h' }
  | .error x => ∃ m, s'.heap.Ns cenv.locals m ∧ ∀ h', Heap.SameBut cenv.locals s'.heap h' → wpAny M A (PySem.passOn "comprehension.variables-let-go" x cenv : Sem Value) (fun _ _ => False) E { s' with heap := h' }
theorem comp_freeX {e : Expr} {scope : Scope} {pos : Pos} {newAcc first : Sem Value} {g : Comprehension} {gs : List Comprehension} {cl : List (Str × Addr)}
    {Q : Value → Shared → Prop}
    (hcl : clausesOf e = g :: gs) (hs : ∀ x, foldedSetIterable g.iter env x = pure x) (hclos : closureFor scope env = pure cl)
    (hkind : scope.kind = .function) (hnames : ∀ x ∈ scope.names, x.2 = .local → scope.names.lookup x.1 = some .local)
    (h : wpAny M A first (fun x s₁ => wpAny M A (pyIter x) (fun it s₂ => wpAny M A newAcc (fun acc s₃ =>
      wpAny M A (newFunctionEnv scope env.globals cl [] env.qual none .none (some env)) (fun cenv s₄ =>
        codeAny M A (.compStart e 0 it acc { cenv with scope := relabel scope env }) (cpX M A E Q acc { cenv with scope := relabel scope env }) s₄) E s₃) E s₂) E s₁) E s) :
    wpAny M A (comprehension e scope env pos newAcc false first none) Q E s := by
  unfold comprehension
  rw [hclos, hcl]
  refine wpAny_bind (wpAny_mono h (fun x s₁ h₁ => wpAny_bind (wpAny_standAt (wpAny_bind (wpAny_of_eq (hs x) (wpAny_bind (wpAny_holding (wpAny_mono h₁ (fun it s₂ h₂ =>
    wpAny_standIf (wpAny_bind (wpAny_mono h₂ (fun acc s₃ h₃ => wpAny_bind (wpAny_pure (wpAny_bind (wpAny_mono h₃ (fun cenv s₄ h₄ => ?_) fun _ _ h' => h')))) fun _ _ h' => h')))
      fun _ _ h' => h'))))))) fun _ _ h' => h')
  dsimp only
  have hv : ∀ x ∈ (scope.names.filter fun x => (x.2 == .local || x.2 == .cell) && x.1 != (".0" : Str)).reverse, x.2 = .local →
      Env.kindOf { cenv with scope := relabel scope env } x.1 = some .local := fun x hx hl => lookup_relabel_local (hnames x (List.mem_filter.mp (List.mem_reverse.mp hx)).1 hl)
  refine wpAny_holding (wpAny_bind (wpAny_attempt (wpAny_holding (wpAny_run (codeAny_mono h₄ fun r s' hr => ?_)))))
  cases r with
  | ok f =>
    obtain ⟨m, hn, hr⟩ := hr
    exact wpAny_bind (wpAny_holding (wpAny_comp_letGo (cenv := { cenv with scope := relabel scope env }) hkind _ s' m hv hn fun h' m' _ hs' => wpAny_pure (hr h' hs')))
  | error x =>
    obtain ⟨m, hn, hr⟩ := hr
    exact wpAny_bind (wpAny_holding (wpAny_comp_letGo (cenv := { cenv with scope := relabel scope env }) hkind _ s' m hv hn fun h' m' _ hs' => wpAny_mono (hr h' hs') (fun _ _ f => f.elim) fun _ _ y => y))
end
section
variable {X : Cx} {pins : List (Addr × Obj)} {σ : L2.St} {H3 : Hp} {s3 s' : Shared} {W : WX} {scope : Scope} {ce : PySem.Env} {fp : List Addr} {xe : Value → Shared → Prop} {Q : Value → Shared → Prop} {acc : Value}
/-- out of the block -/
theorem err_out (hst : X.stack = X.env :: X.outer) (hf : X.env.frame = some X.env.locals) (tk : Takes X W) (I3 : Inv X pins σ H3 s3) (f3 : ∀ b ∈ fp, FpOk X pins H3 b ∧ b < s3.heap.objs.size)
    (cL : ce.locals = s3.heap.objs.size) (cF : ce.frame = X.env.frame) {e : Value} (x : XF (blkX X s3 H3 scope ce fp xe) (fun c d _ H => W c d σ H) e s') :
    notedBy (model X.prog X.w) X.A ce (fun e s'' => cpX (model X.prog X.w) X.A X.xe Q acc ce (.error e) s'') e s' := by
  obtain ⟨a, B, sI, pins', σ', H', cls, d, rfl, II, nb, up, fl, na, os, ag, w⟩ := x
  have e1 : noteFrame (.ref a) ce = noteFrame (.ref a) X.env := by
    unfold noteFrame PySem.frameOf
    rw [cF]
  unfold notedBy
  rw [e1]
  have hfr : X.A.frames = some (X.env :: X.outer) := by rw [← hst]; exact I3.ok.frames
  have fl : HandSPX.FlyingZ B (X.env :: X.outer) a (Zc cls d) s'.heap := hst ▸ fl
  refine HandSPX.looks_onZ Zc.steady hfr hf fl fun h1 hh up1 => ?_
  obtain ⟨k1, k2, k3, k4⟩ := hh
  obtain ⟨m, hn, _⟩ := II.loc
  have hn : sI.heap.Ns ce.locals m := hn
  refine ⟨m, (up.trans up1).ns hn, fun h2 sb => ?_⟩
  -- the block's names are no frame
  have nfr : ce.locals ∉ frs X.stack := fun z => by
    obtain ⟨_, o, e, _⟩ := Heap.FunFrames.mem (II.ok.funs : s3.heap.FunFrames X.base X.stack) z
    have := Heap.lt_size e
    rw [cL] at this
    exact Nat.lt_irrefl _ this
  obtain ⟨oC, hoC⟩ : ∃ o, sI.heap.get? ce.locals = some o := by
    obtain ⟨o, _, _, h, _⟩ := id hn
    exact ⟨o, h⟩
  have bC : B.get? ce.locals = some oC := nb _ _ hoC nfr
  obtain ⟨B2, b1, b2⟩ := restrict B fun b => decide (b ≠ ce.locals)
  have b1 : ∀ b, b ≠ ce.locals → B2.get? b = B.get? b := fun b hb => b1 b (decide_eq_true hb)
  have b2 : B2.get? ce.locals = none := b2 _ (by simp)
  have inB : ∀ b o, B2.get? b = some o → b ≠ ce.locals ∧ B.get? b = some o := fun b o e => by
    by_cases z : b = ce.locals
    · rw [z, b2] at e; cases e
    · exact ⟨z, by rw [← b1 b z]; exact e⟩
  have ne_of : ∀ b, B.get? b = none → b ≠ ce.locals := fun b e z => by rw [z, bC] at e; cases e
  have st2 : B2.StaysIn h2 := fun b o e => by
    obtain ⟨z, e⟩ := inB b o e
    exact (sb.2 b z).trans (k1 b o e)
  obtain ⟨oe, vs, T, oT, ts, he, hz, hd, hv1, hnT, hTe, hT, hdT, h3⟩ := k4
  have na2 : a ≠ ce.locals := ne_of _ k2
  have nT2 : T ≠ ce.locals := ne_of _ hnT
  have tr2 : HandSPX.TracedZ h2 B2 a (Zc cls d) (rawInt X.env.locals) := ⟨oe, vs, T, oT, ts, (sb.2 a na2).trans he, hz, hd, hv1, by rw [b1 T nT2]; exact hnT, hTe, (sb.2 T nT2).trans hT, hdT, h3⟩
  have ff2 : h2.FunFrames B2 (X.env :: X.outer) := by
    have q : ∀ (l : List PySem.Env), (∀ b ∈ frs l, b ≠ ce.locals) → h1.FunFrames B l → h2.FunFrames B2 l := fun l => by
      induction l with
      | nil => intro _ _; trivial
      | cons env rest ih =>
        intro hne hl
        obtain ⟨z1, ⟨L, o, z2, z3, z4, z5⟩, z6⟩ := hl
        have hL : L ≠ ce.locals := hne L (List.mem_filterMap.mpr ⟨env, List.mem_cons_self, z2⟩)
        exact ⟨z1, ⟨L, o, z2, by rw [b1 L hL]; exact z3, (sb.2 L hL).trans z4, z5⟩, ih (fun b hb => hne b (by
          obtain ⟨v, m1, m2⟩ := List.mem_filterMap.mp hb
          exact List.mem_filterMap.mpr ⟨v, List.mem_cons_of_mem _ m1, m2⟩)) z6⟩
    exact q _ (fun b hb z => nfr (by rw [hst, ← z]; exact hb)) k3
  unfold PySem.passOn
  refine wpAny_bind (wpAny_field ((sb.2 a na2).trans he) hd hv1 ?_)
  rw [if_neg (show ¬ ((Value.ref T == Value.none) = true) from by simp)]
  refine wpAny_bind ?_
  rw [cF, hf]
  refine HandSPX.setFlight_anyZ (fr := some X.env.locals) st2 ff2 tr2 fun h4 g1 g2 g3 g4 => ?_
  refine wpAny_throw ?_
  refine tk _ _ ?_
  -- the state without the exception, without the block's names
  obtain ⟨G, q1, q2⟩ := restrict sI.heap fun b => decide (b ≠ ce.locals)
  have q1 : ∀ b, b ≠ ce.locals → G.get? b = sI.heap.get? b := fun b hb => q1 b (decide_eq_true hb)
  have q2 : G.get? ce.locals = none := q2 _ (by simp)
  have inG : ∀ b o, G.get? b = some o → b ≠ ce.locals ∧ sI.heap.get? b = some o := fun b o e => by
    by_cases z : b = ce.locals
    · rw [z, q2] at e; cases e
    · exact ⟨z, by rw [← q1 b z]; exact e⟩
  have IX : Inv X pins σ H' sI := I3.call' (ch := fp) II.os II.base II.hok II.bare fun b hb => ⟨(f3 b hb).1.2.2.2.1, (f3 b hb).1.2.1, (f3 b hb).1.2.2.2.2.1, (f3 b hb).1.2.2.2.2.2⟩
  have nC : H' ce.locals = none := II.free
  have fC : FpOk X pins H' ce.locals := I3.fpOk (by rw [cL]; exact Nat.le_refl _) nC
  obtain ⟨f0, f1, f2, f3', f4, f5⟩ := fC
  refine ⟨a, B2, { sI with heap := G, toks := sI.toks }, pins, σ, H', cls, d, rfl, IX.turned (t' := sI.toks) (fun b o hb e => (q1 b hb).trans e) f0 f1 f3' f4 f5, fun b o e hb => ?_, fun b o e hnf => ?_, .inr (.inr ⟨g1, by rw [b1 a na2]; exact k2, hst ▸ g2, g3⟩), na, os, ag, w⟩
  · obtain ⟨z, e⟩ := inG b o e
    rw [b1 b z]
    exact nb b o e hb
  · obtain ⟨z, e⟩ := inG b o e
    obtain ⟨sl, e2⟩ := (up.trans up1) b o e hnf
    exact g4 b _ ((sb.2 b z).trans e2) hnf |>.imp fun _ h => h
end
/-! ### the rule (its walk goes as HandS.Comp's, with a way out for the item's exception) -/
section
variable {X : Cx}
abbrev oX (E : XK) : WX := fun c d _ H => E c d H
/-- [elt for target in iter if ..], the item may raise -/
def tLcX (W : WX) (wi : TI) (g : TG) (tt : TT) (te : XK → TE) (vs : List Nat) : TE := fun σ H Q => tLc wi g tt (te fun c d H' => W c d σ H') vs σ H Q
theorem pe_lcX {elt tg iter : Expr} {ifs : List Expr} {scope : Scope} {own : List (Str × Nat)} {pos : Pos} {wi : TI} {g : TG} {tt : TT} {te : XK → TE} {W : WX} (hst : X.stack = X.env :: X.outer) (hf : X.env.frame = some X.env.locals) (tk : Takes X W)
    (hc : X.calm = true) (hN : X.N.Nodup) (hi : PI X tg iter wi) (ok : BlkOk X.N X.env.scope scope own)
    (hg : ∀ (s : Shared) (H : Hp) (C : Addr) (cl : List (Str × Addr)) (fp : List Addr) (xe : Value → Shared → Prop), PG (blkX X s H scope (compEnvC scope cl C X.env) fp xe) tg g)
    (ht : ∀ (s : Shared) (H : Hp) (C : Addr) (cl : List (Str × Addr)) (fp : List Addr) (xe : Value → Shared → Prop), PTs (blkX X s H scope (compEnvC scope cl C X.env) fp xe) ifs tt)
    (he : ∀ (s : Shared) (H : Hp) (C : Addr) (cl : List (Str × Addr)) (fp : List Addr) (xe : Value → Shared → Prop) (E : XK), TakesF (blkX X s H scope (compEnvC scope cl C X.env) fp xe) (oX E) → PE (blkX X s H scope (compEnvC scope cl C X.env) fp xe) elt (te E))
    (hs : ∀ x, foldedSetIterable iter X.env x = pure x := by intro _; rfl) :
    PE X (.ListComp elt [⟨tg, iter, ifs, 0⟩] scope pos) (tLcX W wi g tt te (own.map (·.2))) := by
  refine ⟨fun pins s σ H Q I h => ?_⟩
  rw [eval_ListComp]
  have free : ∀ y ∈ scope.names, y.2 = .free → ∃ c, X.env.cells.lookup y.1 = some c := fun y hy e => I.ok.has _ (ok.free y hy e)
  refine comp_freeX rfl hs (closure_ok free) ok.kind (fun y hy e => by rw [ok.uniq y hy, e]) (thn (hi.run pins s σ H _ I h) fun xv s1 hx => thn hx fun itv s2 ⟨it, fp, tn, J, H2, e, I2, T, st2, f2, q⟩ => ?_)
  subst e
  refine wpAny_newObj_type (newEnv_comp ?_) (by show 0 ≤ sizeLine; decide)
  generalize hD : s2.heap.objs.size = D
  have hDn : H2 D = none := I2.hok.fresh (Nat.le_of_eq hD)
  obtain ⟨Wn, ⟨m0, w0⟩, turn⟩ := q D hDn
  generalize hs3 : ({ s2 with heap := s2.heap.push { cls := .type "list", data := .seq ([] : List Value).toArray } } : Shared) = s3
  have h3 : s3.heap = s2.heap.push { cls := .type "list", data := .seq ([] : List Value).toArray } := by rw [← hs3]
  have I3 : Inv X pins σ (upd H2 D (.lst [])) s3 := by
    rw [← hs3]
    refine I2.laid (t' := s2.toks) (fun b o e => Heap.get?_push_of_some _ e) (Nat.le_of_eq hD) ⟨Nat.zero_le _, [], 0, .nil, ?_⟩
    rw [← hD]
    exact Heap.get?_push_size _ rfl
  have sz : ∀ b ∈ fp, b < s2.heap.objs.size := fun b hb => by
    obtain ⟨o, e, _⟩ := T.obj _ _ st2 b hb
    exact Heap.lt_size e
  have f3 : ∀ b ∈ fp, FpOk X pins (upd H2 D (.lst [])) b ∧ b < s3.heap.objs.size := fun b hb => by
    have hlt := sz b hb
    refine ⟨⟨?_, (f2 b hb).2⟩, by rw [h3, Heap.size_push]; exact Nat.lt_succ_of_lt hlt⟩
    rw [upd_ne (by rw [← hD]; exact Nat.ne_of_lt hlt)]
    exact (f2 b hb).1
  have st3 : tn 0 s3.heap := T.keep _ _ _ st2 fun b _ o e => by rw [h3]; exact Heap.get?_push_of_some _ e
  have I4 := block_start I3 ok hN f3
  show codeAny _ _ (.compStart (.ListComp elt [⟨tg, iter, ifs, 0⟩] scope pos) 0 (.ref it) (.ref D) (compEnvC scope (cellsFrom (s3.heap.objs.size + 1) scope.names (cloFrom X.env.cells scope.names [])) s3.heap.objs.size X.env))
    (cpX (model X.prog X.w) X.A X.xe (EP X pins σ Q) (.ref D) (compEnvC scope (cellsFrom (s3.heap.objs.size + 1) scope.names (cloFrom X.env.cells scope.names [])) s3.heap.objs.size X.env)) { s3 with heap := pushCells (s3.heap.push { cls := .type "dict", data := .dict #[] }) scope.names }
  have nfp : ∀ b ∈ fp, (upd H2 D (.lst [])) b = none := fun b hb => (f3 b hb).1.1
  generalize hH3 : upd H2 D (.lst []) = H3 at I3 I4 w0 nfp f3
  generalize hcl : cellsFrom (s3.heap.objs.size + 1) scope.names (cloFrom X.env.cells scope.names []) = cl at I4 ⊢
  -- the way out
  obtain ⟨xb, hxb⟩ : ∃ xb, xb = XF (blkX X s3 H3 scope (compEnvC scope cl s3.heap.objs.size X.env) fp fun _ _ => False) (fun c d _ H => W c d σ H) := ⟨_, rfl⟩
  have I4 := Inv.xe' I4 xb
  have pg := hg s3 H3 s3.heap.objs.size cl fp xb
  have pt := ht s3 H3 s3.heap.objs.size cl fp xb
  have pe := he s3 H3 s3.heap.objs.size cl fp xb (fun c d H' => W c d σ H') (fun u s' x => by
    rw [hxb]
    obtain ⟨a, B, sI, pins', σ', H', cls, d, x1, x2, x3⟩ := x
    exact ⟨a, B, sI, pins', σ', H', cls, d, x1, Inv.xe' x2 _, x3⟩)
  have out : ∀ e s', xb e s' → notedBy (model X.prog X.w) X.A (compEnvC scope cl s3.heap.objs.size X.env) (fun e s'' => cpX (model X.prog X.w) X.A X.xe (EP X pins σ Q) (.ref D) (compEnvC scope cl s3.heap.objs.size X.env) (.error e) s'') e s' := fun e s' x => by
    rw [hxb] at x
    exact err_out (ce := compEnvC scope cl s3.heap.objs.size X.env) hst hf tk I3 f3 rfl rfl x
  generalize hce : compEnvC scope cl s3.heap.objs.size X.env = ce at I4 pg pt pe out ⊢
  have cL : ce.locals = s3.heap.objs.size := by subst hce; rfl
  generalize hs4 : ({ s3 with heap := pushCells (s3.heap.push { cls := .type "dict", data := .dict #[] }) scope.names } : Shared) = s4 at I4 ⊢
  have st4 : tn 0 s4.heap := T.keep _ _ _ st3 fun b _ o e => by rw [← hs4]; exact pushCells_keeps _ _ _ _ (Heap.get?_push_of_some _ e)
  have stat : ∀ {σ' : L2.St} {H' : Hp} {s' : Shared}, Inv (blkX X s3 H3 scope ce fp xb) [] σ' H' s' → (∀ b ∈ fp, H' b = none) → ∀ b ∈ fp, FpOk (blkX X s3 H3 scope ce fp xb) [] H' b := fun {σ' H' s'} I' hn b hb =>
    ⟨hn b hb, (I'.ok.exf b hb).1, I'.ok.exfs b hb, .inl hb, fun x c e => (I'.ok.exf b hb).2 x c e, fun p hp => absurd (show p ∈ ([] : List (Addr × Obj)) ++ [] from hp) (by simp)⟩
  have loop : codeAny (model X.prog X.w) X.A (.compLoop (.ListComp elt [⟨tg, iter, ifs, 0⟩] scope pos) 0 (.ref it) (.ref D) ce) (cpX (model X.prog X.w) X.A X.xe (EP X pins σ Q) (.ref D) ce) s4 := by
    refine compLoop_any (fun n s' => ∃ i H', Inv (blkX X s3 H3 scope ce fp xb) [] (wipe σ (own.map (·.2))) H' s' ∧ tn i s'.heap ∧ (∀ b ∈ fp, H' b = none) ∧ Wn i n H') ?_ m0 ⟨0, H3, I4, st4, nfp, w0⟩
    rintro n s5 ⟨i, H5, I5, st5, n5, w5⟩
    rcases turn i n H5 w5 with ⟨stop, qq⟩ | ⟨go, Nx, hNx, step⟩
    · refine thnF (T.done (blkX X s3 H3 scope ce fp xb) rfl rfl rfl hc i [] s5 _ H5 (fun _ _ => False) I5 (stat I5 n5) st5 stop) fun r s6 ⟨hr, I6⟩ => ?_
      subst hr
      have I7 : Inv X pins σ H5 s6 := I3.call' (ch := fp) I6.os I6.base I6.hok I6.bare fun b hb => ⟨(f3 b hb).1.2.2.2.1, (f3 b hb).1.2.1, (f3 b hb).1.2.2.2.2.1, (f3 b hb).1.2.2.2.2.2⟩
      have nC : H5 ce.locals = none := I6.free
      obtain ⟨m, hn, _⟩ := I6.loc
      have hn : s6.heap.Ns ce.locals m := hn
      obtain ⟨f0, f1, f2, f3', f4, f5⟩ := I3.fpOk (H' := H5) (b := ce.locals) (by rw [cL]; exact Nat.le_refl _) nC
      exact ⟨m, hn, fun h'' sb => ⟨.ref D, H5, I7.turned (t' := s6.toks) (fun b o hb e => (sb.2 b hb).trans e) f0 f1 f3' f4 f5, rfl, qq⟩⟩
    · refine thnF (T.item (blkX X s3 H3 scope ce fp xb) rfl rfl rfl hc i [] s5 _ H5 (fun _ _ => False) I5 (stat I5 n5) st5 go) fun r s6 ⟨u, hr, h6⟩ => ?_
      subst hr
      refine thnF h6 fun _ s7 ⟨x, H7, I7, r7, y7, st7, n7⟩ => ?_
      have I7' := I7.pinned (stat I7 n7) (T.obj _ _ st7)
      refine wpAny_mono (pg.run _ s7 _ H7 x u _ I7' r7 (step x H7 y7)) (fun _ s8 ⟨σ8, H8, I8, hw8, q8⟩ => ?_) out
      refine wpAny_mono (pt.run _ s8 σ8 H8 _ I8 q8) (fun b s9 ⟨H9, I9, q9⟩ => ?_) out
      have fin : ∀ {s' : Shared} {H' : Hp}, Inv (blkX X s3 H3 scope ce fp xb) ([] ++ pinsAt fp s7.heap) σ8 H' s' → Nx H' → ∃ m, m < n ∧ ∃ i H', Inv (blkX X s3 H3 scope ce fp xb) [] (wipe σ (own.map (·.2))) H' s' ∧ tn i s'.heap ∧ (∀ b ∈ fp, H' b = none) ∧ Wn i m H' := fun {s' H'} I' nx => by
        obtain ⟨m', hm, w'⟩ := hNx H' nx
        have pin' : ∀ b ∈ fp, ∀ o, s7.heap.get? b = some o → s'.heap.get? b = some o ∧ H' b = none := fun b hb o e =>
          let z := I'.pin (b, o) (List.mem_append_right _ (List.mem_append_right _ (mem_pinsAt hb e)))
          ⟨z.1, z.2.1⟩
        have hl : (wipe σ (own.map (·.2))).length = σ8.length := by rw [← hw8, wipe_length]
        refine ⟨m', hm, i + 1, H', (I'.unpinned (pins := [])).weak hl (fun j v e => ?_), T.keep _ _ _ st7 fun b hb o e => (pin' b hb o e).1, fun b hb => ?_, w'⟩
        · rw [← hw8] at e
          exact (wipe_some e).1
        · obtain ⟨o, e, _⟩ := T.obj _ _ st7 b hb
          exact (pin' b hb o e).2
      cases b with
      | false =>
        simp only [Bool.false_eq_true, if_false] at q9 ⊢
        exact fin I9 q9
      | true =>
        simp only [if_true] at q9 ⊢
        refine wpAny_mono (pe.run _ s9 σ8 H9 _ I9 q9) (fun z s10 ⟨yv, H10, I10, r10, ac, hD10, hz10, nx⟩ => ?_) out
        exact app_ok (X := blkX X s3 H3 scope ce fp xb) I10 hD10 hz10 r10 fun s11 I11 => fin I11 nx
  exact codeAny_compStart_list loop (T.self X.A 0 _ _ _ st4 loop)
end
end MP

set_option Elab.async false
set_option linter.all false
set_option maxRecDepth 100000
set_option maxHeartbeats 4000000
/-! comprehensions whose item may raise, over plain data -/
namespace MP
open PySem PySem.Spec PyProof.Rows L2
section
noncomputable def compX (ow : Option (Nat × List Dv)) (vs : List Nat) (g : FG) (tt : FT) (elt : FE) (ρ : Env) : List Dv → Sto → R (List Dv)
  | [], s => if ow.isNone = true ∨ stB s ow = true then .ok [] s else .no
  | w :: ws, s => if ow.isNone = true ∨ stB s ow = true then match g w (wipeD ρ vs) s with
    | none => .no
    | some ρ1 => match tt ρ1 s with
      | .ok true s2 => match elt ρ1 s2 with
        | .ok y s3 => match compX ow vs g tt elt ρ ws s3 with
          | .ok r s4 => .ok (y :: r) s4
          | .er x s4 => .er x s4
          | .no => .no
        | .er x s3 => .er x s3
        | .no => .no
      | .ok false s2 => compX ow vs g tt elt ρ ws s2
      | _ => .no
    else .no
noncomputable def mCompX (f : FI) (vs : List Nat) (g : FG) (tt : FT) (elt : FE) : FE := fun ρ s => (f ρ s).bind fun r s1 => if r.ws.length ≤ lim then (match compX r.ow vs g tt elt ρ r.ws s1 with
  | .ok ws s2 => .ok (.lst ws) s2
  | .er x s2 => .er x s2
  | .no => .no) else .no
def preX (wa : List Dv) : R (List Dv) → R (List Dv)
  | .ok r s => .ok (wa ++ r) s
  | .er x s => .er x s
  | .no => .no
variable {X : Cx} {Γ : Ct} {W : WX}
theorem RX.weak {H : Hp} {μ : Mu} {Z Z' : Zs} {x : Ex} {c : Value} {d : Option Addr} (h : ∀ a, Z a → Z' a) (r : RX Γ H μ Z' x c d) : RX Γ H μ Z x c d := by
  obtain ⟨h1, dd, v, h2, h3, h4, h5⟩ := r
  exact ⟨h1, dd, v, h2, h3, h4.weak h, RV.weak h x.w h5⟩
theorem compX_ok {H1 : Hp} {μ1 : Mu} {Z : Zs} {σ : L2.St} {ρ : Env} {s1 : Sto} {g : TG} {fg : FG} {tt : FT} {elt : FE} {vs : List Nat} {ow : Option (Nat × List Dv)} {ws : List Dv} {tot : R (List Dv)} {J : It} {Qd : Hp → Prop} {D : Addr} {E : XK} (hg : GWk Γ g fg vs) (hE : RE Γ H1 μ1 Z ρ σ) (hR : Rep Γ H1 μ1 Z s1) (hw : Walks Γ Z H1 μ1 ow J ws) (hD : H1 D = none)
    (q : compX ow vs fg tt elt ρ ws s1 = tot) (hl : ws.length ≤ lim) (hno : tot ≠ .no)
    (fin : ∀ r s2 H μ acc, tot = .ok r s2 → Evo H1 μ1 H μ → Rep Γ H μ (hid D Z) s2 → H D = some (.lst acc) → RVs Γ H μ (hid D Z) r acc → Qd H)
    (err : ∀ x s2 cls d H μ, tot = .er x s2 → Evo H1 μ1 H μ → Rep Γ H μ (hid D Z) s2 → RX Γ H μ (hid D Z) x cls d → E cls d H) :
    ∃ Wn : Nat → Nat → Hp → Prop, (∃ m, Wn 0 m (upd H1 D (.lst []))) ∧ ∀ i m H, Wn i m H → (J.stop i H ∧ Qd H) ∨ (J.go i H ∧ ∃ Nx : Hp → Prop, (∀ H', Nx H' → ∃ m', m' < m ∧ Wn (i + 1) m' H') ∧
      ∀ x H', J.yld i H x H' → g x (L2.wipe σ vs) H' fun σ2 H2 => L2.wipe σ2 vs = L2.wipe σ vs ∧ rdT Γ W0 tt σ2 H2 fun b H3 =>
        if b = true then rdE Γ (oX E) elt σ2 H3 fun y H4 => ∃ acc, H4 D = some (.lst acc) ∧ acc.length < sizeLine ∧ Nx (upd H4 D (.lst (acc ++ [y]))) else Nx H3) := by
  let P : Nat → Hp → Prop := fun i H => ∃ μ s wa acc, Evo H1 μ1 H μ ∧ Rep Γ H μ (hid D Z) s ∧ H D = some (.lst acc) ∧ RVs Γ H μ (hid D Z) wa acc ∧ preX wa (compX ow vs fg tt elt ρ (ws.drop i) s) = tot ∧ wa.length ≤ i
  have pre0 : ∀ r : R (List Dv), preX [] r = r := fun r => by cases r <;> rfl
  have pre1 : ∀ (wa : List Dv) (y : Dv) (r : R (List Dv)), preX wa (match r with | .ok r s4 => .ok (y :: r) s4 | .er x s4 => .er x s4 | .no => .no) = preX (wa ++ [y]) r := fun wa y r => by
    cases r with
    | ok r s => simp [preX]
    | er x s => rfl
    | no => rfl
  refine ⟨fun i m H => m = ws.length - i ∧ i ≤ ws.length ∧ P i H, ⟨ws.length, by omega, Nat.zero_le _, μ1, s1, [], [], Evo.laid hD, hR.hide hD, upd_same, rfl, by rw [pre0]; exact q, Nat.zero_le _⟩, ?_⟩
  rintro i m H ⟨rfl, hi, μ, s, wa, acc, ev, R, hH, ra, qr, hwl⟩
  have hz : ∀ a, hid D Z a → Z a ∨ H1 a = none := fun a z => z.elim (fun e => .inr (e ▸ hD)) .inl
  have E1 : RE Γ H μ (hid D Z) ρ σ := ⟨hE.1, fun j w e => by
    obtain ⟨v, g1, g2⟩ := hE.2 j w e
    exact ⟨v, g1, (RV.strong hz w g2).mono ev⟩⟩
  by_cases hlt : i < ws.length
  · have hd : ws.drop i = ws[i] :: ws.drop (i + 1) := List.drop_eq_getElem_cons hlt
    rw [hd] at qr
    simp only [compX] at qr
    split at qr
    · rename_i hst
      obtain ⟨_, hgo⟩ := hw H μ (hid D Z) s ev.z R (fun a z => .inr z) hz (st_of hst)
      obtain ⟨h1, h2⟩ := hgo i ws[i] (List.getElem?_eq_getElem hlt)
      refine .inr ⟨h1, P (i + 1), fun H' p => ⟨_, by omega, rfl, hlt, p⟩, fun x H' hy => ?_⟩
      obtain ⟨e2, R2, r2⟩ := h2 x H' hy
      cases eg : fg ws[i] (wipeD ρ vs) s with
      | none => rw [eg] at qr; exact absurd qr.symm hno
      | some ρ2 =>
        rw [eg] at qr
        dsimp only at qr
        refine hg H' μ (hid D Z) (wipeD ρ vs) ρ2 s (L2.wipe σ vs) ws[i] x _ ((E1.mono e2).wipe vs) R2 r2 eg fun σ2 E2 hwp => ⟨hwp.trans (wipe_wipe σ vs), μ, hid D Z, ρ2, s, E2, R2, ?_⟩
        cases et : tt ρ2 s with
        | no => rw [et] at qr; exact absurd qr.symm hno
        | er x3 s3 => rw [et] at qr; exact absurd qr.symm hno
        | ok b s3 =>
          rw [et] at qr
          intro H3 μ3 e3 R3
          have hH3 : H3 D = some (.lst acc) := e3.keep _ _ (e2.keep _ _ hH fun n hn => R.notZ hn (.inl rfl)) fun n hn => R2.notZ hn (.inl rfl)
          have ra3 : RVs Γ H3 μ3 (hid D Z) wa acc := (ra.mono e2).mono e3
          cases b with
          | false =>
            rw [if_neg Bool.false_ne_true]
            exact ⟨μ3, s3, wa, acc, (ev.trans e2).trans e3, R3, hH3, ra3, qr, by omega⟩
          | true =>
            rw [if_pos rfl]
            dsimp only at qr
            refine ⟨μ3, hid D Z, ρ2, s3, E2.mono e3, R3, ?_⟩
            cases ee : elt ρ2 s3 with
            | no => rw [ee] at qr; exact absurd qr.symm hno
            | er x4 s4 =>
              rw [ee] at qr
              exact fun cls d H4 μ4 e4 R4 r4 => err x4 s4 cls d H4 μ4 qr.symm (((ev.trans e2).trans e3).trans e4) R4 r4
            | ok y s4 =>
              rw [ee] at qr
              dsimp only at qr
              rw [pre1] at qr
              intro v H4 μ4 e4 R4 r4
              have hH4 : H4 D = some (.lst acc) := e4.keep _ _ hH3 fun n hn => R3.notZ hn (.inl rfl)
              have hlen : acc.length < sizeLine := by
                have := ra.len
                exact lim_lt (by omega)
              exact ⟨acc, hH4, hlen, μ4, s4, wa ++ [y], acc ++ [v], (((ev.trans e2).trans e3).trans e4).hid hD, R4.updZ, upd_same, RVs.append (RVs.updZ wa (ra3.mono e4)) (RVs.cons (RV.updZ y r4) rfl), qr, by rw [List.length_append]; simp; omega⟩
    · exact absurd qr.symm hno
  · have he : i = ws.length := by omega
    subst he
    rw [List.drop_length] at qr
    simp only [compX] at qr
    split at qr
    · rename_i hst
      obtain ⟨hs, _⟩ := hw H μ (hid D Z) _ ev.z R (fun a z => .inr z) hz (st_of hst)
      refine .inl ⟨hs, fin wa s H μ acc ?_ ev R hH ra⟩
      rw [← qr]
      simp [preX]
    · exact absurd qr.symm hno
theorem me_compX {elt tg iter : Expr} {ifs : List Expr} {scope : Scope} {own : List (Str × Nat)} {pos : Pos} {f : FI} {g : TG} {fg : FG} {tt : FT} {fe : FE} (hst : X.stack = X.env :: X.outer) (hf : X.env.frame = some X.env.locals) (tk : Takes X W)
    (hc : X.calm = true) (hN : X.N.Nodup) (hi : MI X Γ W tg iter f) (ok : BlkOk X.N X.env.scope scope own)
    (hg : ∀ (s : Shared) (H : Hp) (C : Addr) (cl : List (Str × Addr)) (fp : List Addr) (xe : Value → Shared → Prop), PG (blkX X s H scope (compEnvC scope cl C X.env) fp xe) tg g) (hw : GWk Γ g fg (own.map (·.2)))
    (ht : ∀ (s : Shared) (H : Hp) (C : Addr) (cl : List (Str × Addr)) (fp : List Addr) (xe : Value → Shared → Prop), MTs (blkX X s H scope (compEnvC scope cl C X.env) fp xe) Γ ifs tt)
    (he : ∀ (s : Shared) (H : Hp) (C : Addr) (cl : List (Str × Addr)) (fp : List Addr) (xe : Value → Shared → Prop) (W : WX), TakesF (blkX X s H scope (compEnvC scope cl C X.env) fp xe) W → ME (blkX X s H scope (compEnvC scope cl C X.env) fp xe) Γ W elt fe) (hs : ∀ x, foldedSetIterable iter X.env x = pure x := by intro _; rfl) :
    ME X Γ W (.ListComp elt [⟨tg, iter, ifs, 0⟩] scope pos) (mCompX f (own.map (·.2)) fg tt fe) :=
  PE.imp (pe_lcX (te := fun E => rdE Γ (oX E) fe) hst hf tk hc hN hi ok hg ht (fun s H C cl fp xe E tk => he s H C cl fp xe _ tk) hs) fun σ H Q ⟨μ, Z, ρ, s, hE, hR, q⟩ => iE hE hR q fun r s1 J H1 μ1 e1 E1 R1 w1 q1 D hD => by
    split at q1
    · rename_i hl
      refine compX_ok hw E1 R1 w1 hD rfl hl (fun z => by rw [z] at q1; exact q1.elim) (fun tot s2 H2 μ2 acc e ev R2 hH ra => ?_) fun x s2 cls d H2 μ2 e ev R2 rx => ?_
      · rw [e] at q1
        exact fin_lst R1 hD ev R2 hH ra q1
      · rw [e] at q1
        exact q1 cls d H2 μ2 ev (R2.weak fun a z => .inr z) (rx.weak fun a z => .inr z)
    · exact q1.elim
end
end MP

set_option Elab.async false
set_option linter.all false
set_option maxRecDepth 100000
set_option maxHeartbeats 400000
/-! any text of signs below 128: its parts, its words read as ints -/
namespace MP
open PySem PySem.Spec PyProof.Rows L2 TL PySem.NumText
structure Tx (n : Nat) (x : Str) : Prop where
  low : ∀ c ∈ tl x, c < 128
  len : x.length ≤ n
theorem Tx.mono {n m : Nat} {x : Str} (h : Tx n x) (k : n ≤ m) : Tx m x := ⟨h.low, Nat.le_trans h.len k⟩
theorem spl1 {s : Nat} : ∀ (l acc : List Nat), spl [s] 0 acc l ≠ [] ∧ (spl [s] 0 acc l).length ≤ l.length + 1 ∧ ∀ p ∈ spl [s] 0 acc l, p.length ≤ acc.length + l.length ∧ ∀ c ∈ p, c ∈ acc ∨ c ∈ l
  | [], acc => ⟨by simp [spl], by simp [spl], fun p hp => by
      have : p = acc := by simpa [spl] using hp
      subst this
      exact ⟨Nat.le_refl _, fun c hc => .inl hc⟩⟩
  | c :: r, acc => by
    cases h : pre [s] (c :: r) with
    | true =>
      obtain ⟨h1, h2, h3⟩ := spl1 (s := s) r []
      rw [spl_hit h]
      refine ⟨by simp, by simp only [List.length_cons]; exact Nat.succ_le_succ h2, fun p hp => ?_⟩
      rcases List.mem_cons.mp hp with rfl | hp
      · exact ⟨Nat.le_add_right _ _, fun c hc => .inl hc⟩
      · obtain ⟨q1, q2⟩ := h3 p hp
        refine ⟨by simp only [List.length_cons, List.length_nil] at q1 ⊢; omega, fun d hd => .inr ?_⟩
        rcases q2 d hd with z | z
        · cases z
        · exact List.mem_cons_of_mem _ z
    | false =>
      obtain ⟨h1, h2, h3⟩ := spl1 (s := s) r (acc ++ [c])
      rw [spl_miss h]
      refine ⟨h1, by simp only [List.length_cons]; omega, fun p hp => ?_⟩
      obtain ⟨q1, q2⟩ := h3 p hp
      refine ⟨by simp only [List.length_cons, List.length_append, List.length_nil] at q1 ⊢; omega, fun d hd => ?_⟩
      rcases q2 d hd with z | z
      · rcases List.mem_append.mp z with z | z
        · exact .inl z
        · exact .inr (by rw [List.mem_singleton.mp z]; exact List.mem_cons_self)
      · exact .inr (List.mem_cons_of_mem _ z)
theorem split_tx {n s : Nat} {x y : Str} (ey : tl y = [s]) (hk : y.cps.all (· < 256) = true) (h : Tx n x) : Txt.split x y ≠ [] ∧ (Txt.split x y).length ≤ n + 1 ∧ ∀ w ∈ Txt.split x y, Tx n w := by
  have e := split_spl x y (by rw [ey]; simp) (kind_ok hk)
  rw [ey] at e
  obtain ⟨h1, h2, h3⟩ := spl1 (s := s) (tl x) []
  rw [← e] at h1 h2 h3
  have hl := h.len
  rw [len_tl] at hl
  refine ⟨fun z => h1 (by rw [z]; rfl), by rw [List.length_map] at h2; omega, fun w hw => ?_⟩
  obtain ⟨q1, q2⟩ := h3 (tl w) (List.mem_map.mpr ⟨w, hw, rfl⟩)
  refine ⟨fun c hc => ?_, by rw [len_tl]; simp only [List.length_nil] at q1; omega⟩
  rcases q2 c hc with z | z
  · cases z
  · exact h.low c z
theorem pls_strs : ∀ {xs : List Str}, (∀ x ∈ xs, Tx 190000 x) → ∃ n ds, Pls n 0 (xs.map Dv.str) ds
  | [], _ => ⟨_, _, pls_nil⟩
  | x :: xs, h => by
    obtain ⟨n, ds, q⟩ := pls_strs fun y hy => h y (List.mem_cons_of_mem _ hy)
    have hx := h x List.mem_cons_self
    exact ⟨_, _, pls_cons (pl_text hx.low hx.len) q⟩
theorem eq_strs_nil {s : Sto} {xs : List Str} (h : ∀ x ∈ xs, Tx 190000 x) : eqD s (.lst (xs.map .str)) (.lst []) = some (.bl (decide (xs = []))) := by
  obtain ⟨n, ds, q⟩ := pls_strs h
  rw [eq_l_nil (pl_lst q) (by decide)]
  congr 2
  simp
/-! ### a word as an int -/
def figL : List Nat → List Nat
  | 45 :: r => r
  | l => l
abbrev isDg (c : Nat) : Bool := decide (48 ≤ c ∧ c ≤ 57)
/-- is_number -/
def numB (k : Nat) (w : Str) : Bool := decide (1 ≤ (figL (tl w)).length) && decide ((figL (tl w)).length ≤ k) && (figL (tl w)).all isDg && (decide ((figL (tl w)).head? ≠ some 48) || decide (w = ("0" : Str)))
theorem sub_dash (w : Str) : PySem.Builtin.Str.subAt w "-" 0 = decide ((tl w).head? = some 45) := by
  rw [PySem.StrLaws.subAt_eq, List.drop_zero]
  rw [show w.cps.toList = tl w from rfl, show (Str.ofString "-").cps.toList = [45] from by decide +kernel, show (Str.ofString "-").length = 1 from by decide +kernel]
  cases tl w with
  | nil => decide
  | cons c r =>
    show ([c] == [45]) = _
    by_cases h : c = 45
    · subst h; rfl
    · rw [decide_eq_false (by simpa using h)]
      simpa using h
theorem figL_head {l : List Nat} (h : l.head? ≠ some 45) : figL l = l := by
  unfold figL
  split
  · exact absurd rfl h
  · rfl
theorem rmp_fig (w : Str) : tl (Txt.removeprefix w "-") = figL (tl w) := by
  unfold Txt.removeprefix
  rw [sub_dash]
  by_cases h : (tl w).head? = some 45
  · obtain ⟨r, hr⟩ : ∃ r, tl w = 45 :: r := by
      cases q : tl w with
      | nil => rw [q] at h; cases h
      | cons c r => rw [q] at h; injection h with h; exact ⟨r, by rw [h]⟩
    rw [decide_eq_true h, if_pos rfl]
    unfold Txt.affix
    rw [show (Str.ofString "-").length = 1 from by decide +kernel]
    dsimp only
    rw [if_neg (by rw [len_tl, hr]; simp), tl_strSub_end, hr]
    rfl
  · rw [decide_eq_false h, if_neg Bool.false_ne_true, figL_head h]
    rfl
theorem tl_cutS (z : Str) (a b : Option Int) : tl (cutS z a b) = ((tl z).drop (HT.sIx z.length 0 a)).take (HT.sIx z.length z.length b - HT.sIx z.length 0 a) := by
  show ((z.cps.toList.drop (HT.sIx z.length 0 a)).take (HT.sIx z.length z.length b - HT.sIx z.length 0 a)).toArray.toList = _
  rfl
theorem cutS_to (z : Str) (k : Nat) : tl (cutS z none (some (k : Int))) = (tl z).take k := by
  rw [tl_cutS, HT.sIx_nat, HT.sIx_none, List.drop_zero, Nat.sub_zero, len_tl]
  by_cases h : k ≤ (tl z).length
  · rw [Nat.min_eq_left h]
  · rw [Nat.min_eq_right (by omega), List.take_length, List.take_of_length_le (by omega)]
theorem cutS_from (z : Str) (k : Nat) : tl (cutS z (some (k : Int)) none) = (tl z).drop k := by
  rw [tl_cutS, HT.sIx_nat, HT.sIx_none, len_tl]
  by_cases h : k ≤ (tl z).length
  · rw [Nat.min_eq_left h]
    exact List.take_of_length_le (by rw [List.length_drop]; omega)
  · rw [Nat.min_eq_right (by omega), List.drop_length, List.drop_of_length_le (by omega)]
    simp
theorem str_inj {a b : Str} (h : tl a = tl b) : a = b := by
  cases a with
  | mk x =>
    cases b with
    | mk y =>
      congr 1
      exact Array.toList_inj.mp h
/-- the int of a word that passes -/
def vl (w : Str) : Int := (PySem.intText? w).getD 0
theorem digs_val {l : List Nat} (h : ∀ c ∈ l, 48 ≤ c ∧ c ≤ 57) : digitsVal l < 10 ^ l.length := by
  have key : ∀ (l : List Nat) (a : Nat), (∀ c ∈ l, 48 ≤ c ∧ c ≤ 57) → l.foldl (fun acc c => acc * 10 + (c - 48)) a < (a + 1) * 10 ^ l.length := fun l => by
    induction l with
    | nil => intro a _; simp
    | cons c r ih =>
      intro a h
      have hc := h c List.mem_cons_self
      have := ih (a * 10 + (c - 48)) fun d hd => h d (List.mem_cons_of_mem _ hd)
      rw [List.foldl_cons, List.length_cons, Nat.pow_succ]
      refine Nat.lt_of_lt_of_le this ?_
      rw [Nat.mul_comm (10 ^ r.length) 10, ← Nat.mul_assoc]
      exact Nat.mul_le_mul_right _ (by omega)
  have := key l 0 h
  rw [Nat.zero_add, Nat.one_mul] at this
  exact this
theorem vl_ok {k : Nat} {w : Str} (hk : k ≤ 100) (h : numB k w = true) : PySem.intText? w = some (vl w) ∧ (vl w).natAbs < 10 ^ k ∧ w.length ≤ k + 1 := by
  unfold numB at h
  simp only [Bool.and_eq_true, decide_eq_true_eq, List.all_eq_true] at h
  obtain ⟨⟨⟨h1, h2⟩, h3⟩, _⟩ := h
  have hp : ∀ j, j ≤ k → 10 ^ j ≤ 10 ^ k := fun j hj => Nat.pow_le_pow_right (by decide) hj
  by_cases hd : (tl w).head? = some 45
  · obtain ⟨r, hr⟩ : ∃ r, tl w = 45 :: r := by
      cases q : tl w with
      | nil => rw [q] at hd; cases hd
      | cons c r => rw [q] at hd; injection hd with hd; exact ⟨r, by rw [hd]⟩
    rw [hr] at h1 h2 h3
    have e : figL (45 :: r) = r := rfl
    rw [e] at h1 h2 h3
    have hne : r ≠ [] := fun z => by rw [z] at h1; simp at h1
    have hwl : w.length = r.length + 1 := by rw [len_tl, hr, List.length_cons]
    have q := intText_neg (x := w) (cs := r) hr h3 hne (by omega)
    have hv : vl w = -(digitsVal r : Int) := by unfold vl; rw [q]; rfl
    refine ⟨by rw [hv]; exact q, ?_, by rw [len_tl, hr, List.length_cons]; omega⟩
    rw [hv, Int.natAbs_neg, Int.natAbs_natCast]
    exact Nat.lt_of_lt_of_le (digs_val h3) (hp _ h2)
  · rw [figL_head hd] at h1 h2 h3
    have hne : tl w ≠ [] := fun z => by rw [z] at h1; simp at h1
    have q := intText_digits (x := w) h3 hne (by rw [len_tl]; omega)
    have hv : vl w = (digitsVal (tl w) : Int) := by unfold vl; rw [q]; rfl
    refine ⟨by rw [hv]; exact q, ?_, by rw [len_tl]; omega⟩
    rw [hv, Int.natAbs_natCast]
    exact Nat.lt_of_lt_of_le (digs_val h3) (hp _ h2)
end MP

set_option Elab.async false
set_option linter.all false
set_option maxRecDepth 100000
set_option maxHeartbeats 4000000
namespace MP.Raw
open PySem Builtin Builtin.ObjectAttr
/-! a call of an own exception class with keywords, down to its __init__ -/
section
variable {M : Model} {A : Around} {E : Value → Shared → Prop} {h : Heap} {g : Array GenState} {d : Drawn} {t : Nat} {os : OsState}
variable {nm q : Str} {C N : Addr} {bs bm bmB : List Value} {hdct : Bool} {sn : List Str} {sub : List Value} {ab : Bool} {col : Option Bool} {dd : Option Addr} {k0 k1 k2 k3 k5 : Option Value} {B newId initId : String}
theorem kw_check (Fb : ExcBaseFacts B newId initId bmB) (hin : ∀ Y : String, bm.contains (.type Y) = bmB.contains (.type Y)) {f : Str} {v : Value} {Q : Unit → Shared → Prop}
    (hC : h.get? C = some (excClassObj nm q C N bs bm hdct sn sub ab col dd k0 k1 k2 k3 k5 newId)) (hQ : Q () ⟨h, g, d, t, os⟩) :
    wpAny M A (checkBuiltinCall newId ⟨[.ref C], [(f, v)]⟩) Q E ⟨h, g, d, t, os⟩ := by
  have has : (Value.ref C :: bm).contains (.type B) = true := by
    rw [List.contains_cons, hin, Fb.hasB]
    exact Bool.or_true _
  have st := Fb.noStar
  simp only [checkBuiltinCall, Fb.newKind, Fb.newSplit, Fb.newRow]
  repeat (first | refine wpAny_loadPart_at hC ?_ | (refine wpAny_isSubtype_exc hC ?_; rw [has]) | refine wpAny_staticBase_exc hC ?_ | refine wpAny_madeBy_exc hC ?_ | simp only [bne_self_eq_false, Bool.false_eq_true, if_false] | wp_step)
  exact hQ
end
section
variable {prog : Program} {w : World} {A : Around} {E : Value → Shared → Prop} {R : Result → Shared → Prop} {h : Heap} {g : Array GenState} {d : Drawn} {t : Nat} {os : OsState}
variable {nm q : Str} {C N : Addr} {bs bm bmB : List Value} {hdct : Bool} {sn : List Str} {sub : List Value} {ab : Bool} {col : Option Bool} {dd : Option Addr} {k0 k1 k2 k3 k5 : Option Value} {B newId initId : String}
/-- the two new objects: the args, none, and the exception -/
abbrev kwH (h : Heap) (C : Addr) : Heap := (h.push (PySem.W.kdv_tup [])).push (PySem.HandSPX.excO C h.objs.size)
theorem kw_new (Fb : ExcBaseFacts B newId initId bmB) (hin : ∀ Y : String, bm.contains (.type Y) = bmB.contains (.type Y)) {f : Str} {v : Value}
    (hC : h.get? C = some (excClassObj nm q C N bs bm hdct sn sub ab col dd k0 k1 k2 k3 k5 newId)) (hQ : R (.ok (.ret (.ref (h.objs.size + 1)))) ⟨kwH h C, g, d, t, os⟩) :
    codeAny (model prog w) A (.builtin newId ⟨[.ref C], [(f, v)]⟩) R ⟨h, g, d, t, os⟩ := by
  have en := Fb.ends
  have h1 : (Value.ref C :: bm).contains (.type B) = true := by
    rw [List.contains_cons, hin, Fb.hasB]
    exact Bool.or_true _
  have h2 : (Value.ref C :: bm).contains (.type "AttributeError") = false := by
    rw [List.contains_cons, hin, Fb.noAttr]
    rfl
  have h3 : (Value.ref C :: bm).contains (.type "NameError") = false := by
    rw [List.contains_cons, hin, Fb.noName]
    rfl
  have hz : ([] : List Value).length ≤ sizeLine := Nat.zero_le _
  refine codeAny_builtinAt Fb.entry ?_
  unfold Builtin.«BaseException.__new__»
  refine wpAt_bind ?_
  show wpAt _ _ _ (stack >>= _) _ _ _
  refine wpAt_bind (wpAt_stack fun pp low => wpAt_of_wpAny ?_)
  wp_walk
  refine wpAt_of_wpAny ?_
  rw [Fb.owner]
  repeat (first | with_reducible refine wpAny_madeHere_exc Fb.canon hC ?_ | with_reducible refine wpAny_loadPart_at hC ?_ | (with_reducible refine wpAny_isSubtype_exc hC ?_; first | rw [h1] | rw [h2] | rw [h3]) | wp_step)
  show R _ _
  rw [Heap.size_push]
  exact hQ
theorem kw_type (Fb : ExcBaseFacts B newId initId bmB) (hin : ∀ Y : String, bm.contains (.type Y) = bmB.contains (.type Y)) {f : Str} {v : Value} {fI : Addr} {Q : Fin → Shared → Prop}
    (hC : h.get? C = some (excClassObj nm q C N bs bm hdct sn sub ab col dd k0 k1 k2 k3 k5 newId))
    (hi : PySem.W.Looks (model prog w) h (typeLookup (.ref C) "__init__") (some (.ref fI))) (hb : ∀ self, PySem.W.Looks (model prog w) h (bindSpecial (.ref fI) self) (.ref fI, [self]))
    (hq : codeAny (model prog w) A (.call (.ref fI) ⟨[.ref (h.objs.size + 1)], [(f, v)]⟩) (fun r s' => match r with | .ok (.ret u) => u = .none ∧ Q (.done (.ret (.ref (h.objs.size + 1)))) s' | .ok _ => False | .error e => E e s') ⟨kwH h C, g, d, t, os⟩) :
    wpAny (model prog w) A (Builtin.«type.__call__» ⟨[.ref C], [(f, v)]⟩) Q E ⟨h, g, d, t, os⟩ := by
  repeat (first | with_reducible refine wpAny_loadPart_at hC ?_ | with_reducible refine wpAny_madeBy_exc hC ?_ | wp_step)
  refine codeAny_call_builtin_code (Code.quiet_builtin _ Fb.quiet) (kw_check Fb hin hC ?_)
  refine kw_new Fb hin hC ?_
  show wpAny _ _ _ _ _ _
  have up : ∀ b o, h.get? b = some o → (kwH h C).get? b = some o := fun b o z => Heap.get?_push_of_some _ (Heap.get?_push_of_some _ z)
  have hC' := up _ _ hC
  have there : (kwH h C).get? (h.objs.size + 1) = some (PySem.HandSPX.excO C h.objs.size) := by heap_get
  have self : (Value.ref C :: bm).contains (.ref C) = true := by simp
  have look1 := hi.keeps up
  have look2 := (hb (.ref (h.objs.size + 1))).keeps up
  unfold isInstance
  repeat (first | with_reducible refine wpAny_loadPart_at there ?_ | (with_reducible refine wpAny_isSubtype_exc hC' ?_; rw [self]) | wp_step)
  show wpAny _ _ (typeLookup (.ref C) _) _ _ _
  refine look1.at ?_
  refine wpAny_holding (wpAny_bind (look2.at ?_))
  refine wpAny_bind (wpAny_call (codeAny_mono hq fun r s' y => ?_))
  rcases r with e | (u | _ | _ | _) <;> first | exact y | exact y.elim | skip
  obtain ⟨rfl, y⟩ := y
  first
    | exact wpAny_pure (wpAny_pure y)
    | (wp_walk; exact y)
theorem kw_own (Fb : ExcBaseFacts B newId initId bmB) (hin : ∀ Y : String, bm.contains (.type Y) = bmB.contains (.type Y)) {f : Str} {v : Value} {fI : Addr}
    (hC : h.get? C = some (excClassObj nm q C N bs bm hdct sn sub ab col dd k0 k1 k2 k3 k5 newId))
    (hi : PySem.W.Looks (model prog w) h (typeLookup (.ref C) "__init__") (some (.ref fI))) (hb : ∀ self, PySem.W.Looks (model prog w) h (bindSpecial (.ref fI) self) (.ref fI, [self]))
    (hq : codeAny (model prog w) (A.under (.builtin "type.__call__" ⟨[.ref C], [(f, v)]⟩)) (.call (.ref fI) ⟨[.ref (h.objs.size + 1)], [(f, v)]⟩) (PySem.W.InitBack (h.objs.size + 1) R) ⟨kwH h C, g, d, t, os⟩) :
    codeAny (model prog w) A (.call (.ref C) ⟨[], [(f, v)]⟩) R ⟨h, g, d, t, os⟩ := by
  have look1 := tc_lookup
  have look2 := tc_bind (.ref C)
  have ty : (⟨h, g, d, t, os⟩ : Shared).TypeIs (.ref C) "type" := ⟨_, hC, rfl⟩
  refine codeAny_of_tree ?_
  show wpAny _ _ (callAny (.ref C) _) _ _ _
  repeat (any_goals (first | assumption | with_reducible refine wpAny_loadPart_at hC ?_ | wp_step))
  refine ⟨rfl, ?_⟩
  refine codeAny_call_builtin_at (Code.quiet_builtin _ (by decide +kernel)) entry_typeCall (wpAny_check_type_call_sub hC (kw_type Fb hin hC hi hb ?_))
  refine codeAny_mono hq fun r s' y => ?_
  rcases r with e | (u | _ | _ | _) <;> exact y
end
end MP.Raw
namespace MP
open PySem PySem.Spec PyProof.Rows L2
/-! own exceptions over any built-in one: their dict, made as values -/
structure Ox (K : PySem.W.Frag) (C : Addr) (B newId initId : String) (bmB : List Value) : Prop where
  fb : ExcBaseFacts B newId initId bmB
  sf : StoreFacts B bmB "object.__setattr__" "object"
  cls : ∃ nm q N bs bm sn sub ab col dd k0 k1 k2 k3 k5, K.lookup C = some (excClassObj nm q C N bs bm true sn sub ab col dd k0 k1 k2 k3 k5 newId) ∧ PySem.W.excTail bmB bm = true
  sa : PySem.W.findIn K (.ref C) "__setattr__" = some (some (.builtin "object.__setattr__"))
  exC : PySem.W.subIn K (.ref C) (.type "BaseException") = some true
  tyC : PySem.W.typeIn K (.ref C) = some (.type "type")
  kC : PySem.W.keepIn K (.ref C) = true
section
variable {X : Cx} {pins : List (Addr × Obj)} {σ : L2.St} {H : Hp} {s : Shared} {a C dx : Addr} {f : Str} {y : V} {u : Value} {Q : Unit → Shared → Prop} {E : Value → Shared → Prop} {A : Around} {B newId initId : String} {bmB : List Value}
theorem ox_store {hp : Heap} {g : Array GenState} {d : Drawn} {t : Nat} {os : OsState} {tk : Tok} {fv : Array Value} {R : Result → Shared → Prop} (T : Ox X.K C B newId initId bmB) (hk : X.K.In hp) (hx : hp.get? a = some { cls := .ref C, data := .fields fv })
    (hno : PySem.W.findIn X.K (.ref C) f = some none)
    (hq : ∀ h' tk' dx, (∀ b o, b ≠ a → hp.get? b = some o → h'.get? b = some o) → hp.objs.size ≤ dx → dx ≠ a → h'.get? a = some { cls := .ref C, dict := some dx, data := .fields fv } →
      h'.Ns1 dx (fun z => if z = f then some u else none) → R (.ok (.ret .none)) ⟨h', g, d, tk', os⟩) :
    codeAny (model X.prog X.w) A (.call (.builtin "object.__setattr__") ⟨[.ref a, .str f tk, u], []⟩) R ⟨hp, g, d, t, os⟩ := by
  obtain ⟨nm, q, N, bs, bm, sn, sub, ab, col, dd, k0, k1, k2, k3, k5, hC, hbm⟩ := T.cls
  have hcl : PySem.W.clsIn X.K C = some { name := nm, bases := bs, mro := .ref C :: bm, ns := N, qualname := q, hasDict := true, slotNames := sn, subclasses := sub, abstract := ab, collection := col, hasDel := false } := by
    unfold PySem.W.clsIn
    rw [hC] <;> rfl
  have ov : PySem.W.excOver X.K C bmB = true := by
    unfold PySem.W.excOver
    rw [hcl]
    simpa using hbm
  have tkr : PySem.W.takerIn X.K C f = some none := by
    unfold PySem.W.takerIn
    rw [hno]
    rfl
  have look := PySem.W.looks_clsIn (M := model X.prog X.w) hk hcl
  have apart : a ≠ hp.objs.size := Nat.ne_of_lt (Heap.lt_size hx)
  refine PySem.W.osa_openX (s := ⟨hp, g, d, t, os⟩) T.sf hk (ox := { cls := .ref C, data := .fields fv }) (od := none) ⟨hx, rfl, rfl, trivial⟩ ov tkr fun b => ?_
  show wpAny _ _ (Builtin.ObjectAttr.storeInOwnDict (.ref a) (.ref C) (.str f tk) f u b) _ _ _
  unfold Builtin.ObjectAttr.storeInOwnDict Builtin.ObjectAttr.ownDictForStores
  repeat (first | with_reducible refine PySem.HandSPX.store_in_new ?_ ?_ | with_reducible refine wpAny_loadPart_at hx ?_ | with_reducible refine look.at ?_ | wp_step)
  · exact ⟨_, #[], _, (Heap.get?_update_ne _ _ _ _ apart.symm).trans (Heap.get?_push_at rfl rfl), rfl, fun e he => absurd he (by simp), fun _ => rfl⟩
  · intro h' tk' ns' same
    have hx' : (hp.push { cls := .type "dict", data := .dict #[] }).get? a = some { cls := .ref C, data := .fields fv } := Heap.get?_push_of_some _ hx
    refine hq h' tk' hp.objs.size (fun b o hb ho => ?_) (Nat.le_refl _) apart.symm ?_ ns'
    · have nb : b ≠ hp.objs.size := Nat.ne_of_lt (Heap.lt_size ho)
      exact (same.2 b nb).trans ((Heap.get?_update_ne _ _ _ _ hb).trans (Heap.get?_push_of_some _ ho))
    · exact (same.2 a apart).trans (Heap.get?_update_self _ hx' rfl)
end
end MP

set_option Elab.async false
set_option linter.all false
set_option maxRecDepth 100000
set_option maxHeartbeats 4000000
namespace MP
open PySem PySem.Spec PyProof.Rows L2
/-! own exceptions as values: C(e), C(f=e); raise C(e) over any base -/
section
variable {X : Cx} {pins : List (Addr × Obj)} {σ : L2.St} {H : Hp} {s : Shared} {a C dx : Addr} {f : Str} {y : V} {u : Value} {Q : Unit → Shared → Prop} {E : Value → Shared → Prop} {A : Around} {B newId initId : String} {bmB : List Value}
theorem ox_new (T : Ox X.K C B newId initId bmB) (I : Inv X pins σ H s) (e : H a = some (exo a C none)) (hno : PySem.W.findIn X.K (.ref C) f = some none) (ry : RelV y u)
    (h : ∀ dx s', H dx = none → dx ≠ a → Inv X pins σ (upd (upd H dx (exd dx [(f, y)])) a (exo a C (some dx))) s' → Q () s') : wpAny (model X.prog X.w) A (setAttr (.ref a) f u) Q E s := by
  obtain ⟨t1, ho⟩ := exo_at I.hok e
  obtain ⟨hp, g, d, t, os⟩ := s
  refine PySem.W.set_plain I.kIn (ox := { cls := .ref C, dict := none, data := .fields #[.ref t1, .none, .none, .none, .bool false, .none] }) (od := none) ⟨ho, rfl, rfl, trivial⟩ T.sa ?_
  refine ox_store T I.kIn ho hno (fun h' tk' dx k dn dne hx hn => ?_)
  have nx : H dx = none := I.hok.fresh dn
  have n1 : ∀ {b : Addr} {o : Obj}, hp.get? b = some o → b ≠ dx := fun {b o} z => Nat.ne_of_lt (Nat.lt_of_lt_of_le (Heap.lt_size z) dn)
  have n2 : ∀ {b : Addr}, H b = none → b ≠ a := fun {b} n z => by rw [z, e] at n; cases n
  have up : Un X.fs [] H (upd (upd H dx (exd dx [(f, y)])) a (exo a C (some dx))) hp h' := {
    keep := fun b o z n _ _ => k b o (n2 n) z
    slot := fun b o z n _ _ => ⟨o.slots, k b o (n2 n) z⟩
    free := fun b o z n _ => by rw [upd_ne (n2 n), upd_ne (n1 z)]; exact n
    there := fun b o z _ => by
      by_cases hb : b = a
      · rw [hb]; exact ⟨_, hx⟩
      · exact ⟨o, k b o hb z⟩
    tups := fun b xs z => by rw [upd_ne (at_ne e z exo_tup), upd_ne (ne_of_none z nx)]; exact z
    frzs := fun b o v z => by rw [upd_ne (at_ne e z exo_frz), upd_ne (ne_of_none z nx)]; exact z
    tbls := fun b ps z => ⟨#[], by rw [upd_ne (at_ne e z exo_tbl), upd_ne (ne_of_none z nx), z]; simp⟩ }
  refine h dx _ nx dne (I.un (t' := tk') up fun b o z => ?_)
  by_cases hb : b = a
  · subst hb
    rw [upd_same] at z
    cases z
    exact exo_ok hx
  · rw [upd_ne hb] at z
    by_cases hd : b = dx
    · subst hd
      rw [upd_same] at z
      cases z
      exact exd_ok hn (relO_put (fs := []) ry fun _ => True.intro)
    · rw [upd_ne hd] at z
      refine (I.hok b o z).stay (fun c v hc w => k c v ?_ w) (fun c hc => ?_) (fun c xs hc => ?_)
      · rcases hc with hc | hc
        · rw [hc]; exact hb
        · exact at_ne e hc exo_own
      · rw [upd_ne (at_ne e hc exo_own), upd_ne (ne_of_none hc nx)]; exact hc
      · rw [upd_ne (at_ne e hc exo_tup), upd_ne (ne_of_none hc nx)]; exact hc
def tOx (K : PySem.W.Frag) (f : Str) (to te : TE) : TS := fun D σ H => te σ H fun y H1 => to σ H1 fun x H2 => ∃ (a C : Addr) (B newId initId : String) (bmB : List Value), x = .ref a ∧ Ox K C B newId initId bmB ∧ PySem.W.findIn K (.ref C) f = some none ∧
  H2 a = some (exo a C none) ∧ ∀ dx, H2 dx = none → dx ≠ a → D.nx σ (upd (upd H2 dx (exd dx [(f, y)])) a (exo a C (some dx)))
theorem ps_ox {o e : Expr} {to te : TE} {p' pos : Pos} (ho : PE X o to) (he : PE X e te) (hs : swapsWith e (some (.Attribute o f p')) pos.line X.env = pure false := by rfl) : PS X (.Assign [.Attribute o f p'] e pos) (tOx X.K f to te) := by
  refine ⟨fun pins s σ H D I h => plainObj_wpAny_Assign_Attribute (thn (he.run pins s σ H _ I h) fun v s1 ⟨y, H1, I1, r1, q1⟩ => thn (ho.run pins s1 σ H1 _ I1 q1) fun u s2 ⟨x, H2, I2, r2, a, C, B, newId, initId, bmB, ex, T, hno, ea, q⟩ => ?_) hs⟩
  subst ex
  obtain rfl : u = Value.ref a := r2
  exact ox_new T I2 ea hno r1 fun dx s' n ne J => ⟨σ, _, J, q dx n ne⟩
end
theorem init_ox {CX : CXT} {P : Program} {w : World} {K : PySem.W.Frag} {mg : Str → Option Value} {base : Heap} {fI : Addr} {name qual f : Str} {params : Arguments} {scope : Scope} {dV kV doc pm cdv ct oc : Value} {an od : Option Addr} {osl : Array (Option Value)} {p1 p2 p3 p4 : Pos}
    {B newId initId : String} {bmB : List Value}
    (lk : K.lookup fI = some ⟨oc, od, .func (PySem.W.fnOf name qual params [.Assign [.Attribute (.Name "self" p1) f p2] (.Name f p3) p4] scope dV kV doc pm an cdv ct), osl⟩) (hcd : PySem.W.codeIn K cdv qual = true) (S : FnScope ["self", f] ["self", f] scope)
    {C : Addr} (t1 : Ox K C B newId initId bmB) (t2 : PySem.W.findIn K (.ref C) f = some none)
    (v0 : Vis scope "self") (v1 : Vis scope f) (d1 : (f == ("__debug__" : Str)) = false) (d2 : (f == ("__classdict__" : Str)) = false) : FnOk P w K mg base CX 1 fI (PySem.W.fnOf name qual params [.Assign [.Attribute (.Name "self" p1) f p2] (.Name f p3) p4] scope dV kV doc pm an cdv ct) ["self", f] (spI C f) :=
  fn_of (k := 0) lk hcd S (fun vs H Q E ⟨_, _, e, _⟩ => by rw [e]; rfl) fun A outer s H vs Q E hr ⟨a, v, ev, ea, q⟩ => by
    subst ev
    refine ⟨_, pss_one (ps_ox (pe_var (i := 0) rfl v0 (by decide) (by decide)) (pe_var (i := 1) rfl v1 d1 d2)), ?_⟩
    exact ⟨v, rfl, .ref a, rfl, a, C, B, newId, initId, bmB, rfl, t1, t2, ea, fun dx hn hd => q dx hn hd⟩
/-- what is known of an own class that is made -/
structure XgR (P : Program) (w : World) (K : PySem.W.Frag) (mg : Str → Option Value) (base : Heap) (C : Addr) (x f : Str) : Prop where
  ox : ∃ (B newId initId : String) (bmB : List Value), Ox K C B newId initId bmB
  no : PySem.W.findIn K (.ref C) f = some none
  gC : mg x = some (.ref C)
  init : ∃ (fI : Addr) (fd : FuncData), PySem.W.findIn K (.ref C) "__init__" = some (some (.ref fI)) ∧ PySem.W.typeIn K (.ref fI) = some (.type "function") ∧ FnOk P w K mg base (L2.CX P w) 1 fI fd ["self", f] (spI C f) ∧
    (∀ (s : Shared) (u v : Value), BindsTo s fd ⟨[u, v], []⟩ [("self", u), (f, v)]) ∧ (∀ (s : Shared) (u v : Value), BindsTo s fd ⟨[u], [(f, v)]⟩ [("self", u), (f, v)])
section
variable {X : Cx} {Γ : Ct} {W : WX} {pins : List (Addr × Obj)} {σ : L2.St} {H : Hp} {C : Addr} {x f : Str}
/-- the exception and its dict, seen from where it was made -/
theorem ox_land {hp hp2 h2 : Heap} {g1 g2 : Array GenState} {d1 d2 : Drawn} {t1 t2 : Nat} {os1 os2 : OsState} {H1 H2 : Hp} {a d : Addr} {v : V} (T : Raises X (.ref C)) (I1 : Inv X pins σ H1 ⟨hp, g1, d1, t1, os1⟩)
    (ha : hp.objs.size ≤ a) (k : ∀ b o, hp.get? b = some o → hp2.get? b = some o) (un : Un (frs X.stack) [] (upd H1 a (exo a C none)) H2 hp2 h2) (hok : HOk X.prog X.w H2 h2) (ho : os2 = os1) (hb : AllBare g2)
    (eH : H2 = upd (upd (upd H1 a (exo a C none)) d (exd d [(f, v)])) a (exo a C (some d))) (hd1 : H1 d = none) (hda : d ≠ a) :
    H1 a = none ∧ Inv X pins σ (upd (upd H1 d (.xd [(f, v)])) a (ExK a C d)) ⟨h2, g2, d2, t2, os2⟩ ∧ MkP X pins σ (fun cls dd H' => cls = .ref C ∧ dd = some d ∧ H' = upd H1 d (.xd [(f, v)])) (.ref a) ⟨h2, g2, d2, t2, os2⟩ := by
  have na : H1 a = none := I1.hok.fresh ha
  have ea : H2 a = some (exo a C (some d)) := by rw [eH, upd_same]
  have ed : H2 d = some (exd d [(f, v)]) := by rw [eH, upd_ne hda, upd_same]
  have eq : upd (del H2 a) d (.xd [(f, v)]) = upd H1 d (.xd [(f, v)]) := by
    funext b
    by_cases h1 : b = d
    · subst h1
      rw [upd_same, upd_same]
    · rw [upd_ne h1, upd_ne h1]
      by_cases h2 : b = a
      · subst h2
        rw [del_same]
        exact na.symm
      · rw [del_ne h2, eH, upd_ne h2, upd_ne h1, upd_ne h2]
  obtain ⟨t0, G, J, kG, ge, hoe, na'⟩ := mk_end0 (d2 := d2) (t2 := t2) I1 ha k un hok ho hb ea ed hd1
  rw [eq] at J na'
  refine ⟨na, ?_, mk_end T I1 ha k un hok ho hb ea ed hd1 ⟨rfl, rfl, eq⟩⟩
  exact J.laidN (a := a) (o := ExK a C d) (t' := t2) kG ge na' (exK_ok hoe ⟨rfl, rfl⟩ rfl)
/-- a call of the class, its args having been told -/
theorem ox_call (R0 : XgR X.prog X.w X.K X.mg X.base C x f) (hr : Room 2 X.A) {us : List Value} {kw : List (Str × Value)} {u : Value} {v : V} {s : Shared} {Q : Value → Shared → Prop} (hk : (us = [u] ∧ kw = []) ∨ (us = [] ∧ kw = [(f, u)])) (I : Inv X pins σ H s) (r : RelV v u)
    (h : ∀ (a d : Addr) (s' : Shared), H a = none → H d = none → d ≠ a → Inv X pins σ (upd (upd H d (.xd [(f, v)])) a (ExK a C d)) s' → MkP X pins σ (fun cls dd H' => cls = .ref C ∧ dd = some d ∧ H' = upd H d (.xd [(f, v)])) (.ref a) s' → Q (.ref a) s') :
    wpAny (model X.prog X.w) X.A (call (.ref C) us kw) Q X.xe s := by
  obtain ⟨B, newId, initId, bmB, T⟩ := R0.ox
  obtain ⟨fI, fd, iC, tI, F1, b1, b2⟩ := R0.init
  obtain ⟨nm, q, N, bs, bm, sn, sub, ab, col, dd, k0, k1, k2, k3, k5, hC, hbm⟩ := T.cls
  have hin : ∀ Y : String, bm.contains (.type Y) = bmB.contains (.type Y) := fun Y => PySem.W.excTail_contains Y _ hbm
  have hx : Passes (L2.CX X.prog X.w) X (fun _ _ _ => False) := passes_call (W := W0) tk0 fun _ _ _ _ h => h
  have end_ : ∀ (t0 : Addr) (hp2 : Heap) (a : Addr) (hp : Heap) (g : Array GenState) (dr : Drawn) (tk : Nat) (os : OsState) (args : Args) (us' : List Value) (hus : us' = [.ref a, u]) (hpos : ∀ s', BindsTo s' fd args [("self", .ref a), (f, u)]) (I : Inv X pins σ H ⟨hp, g, dr, tk, os⟩) (hsz : hp.objs.size ≤ a)
      (kk : ∀ b o, hp.get? b = some o → hp2.get? b = some o) (hget : hp2.get? a = some (PySem.HandSPX.excO C t0))
      (hq : ∀ (a d : Addr) (s' : Shared), H a = none → H d = none → d ≠ a → Inv X pins σ (upd (upd H d (.xd [(f, v)])) a (ExK a C d)) s' → MkP X pins σ (fun cls dd H' => cls = .ref C ∧ dd = some d ∧ H' = upd H d (.xd [(f, v)])) (.ref a) s' → Q (.ref a) s') (vs0 : List Value) (kw0 : List (Str × Value)),
      codeAny (model X.prog X.w) (X.A.under (.builtin "type.__call__" ⟨.ref C :: vs0, kw0⟩)) (.call (.ref fI) args) (fun r s' => match r with | .ok (.ret z) => z = .none ∧ Q (.ref a) s' | .ok _ => False | .error e => X.xe e s') ⟨hp2, g, dr, tk, os⟩ := by
    intro t0 hp2 a hp g dr tk os args us' hus hpos I hsz kk hget hq vs0 kw0
    subst hus
    have hn : H a = none := I.hok.fresh hsz
    have I2 : Inv X pins σ (upd H a (exo a C none)) ⟨hp2, g, dr, tk, os⟩ := I.laid (t' := tk) (a := a) (o := exo a C none) (h' := hp2) kk hsz (exo_ok hget)
    have r2 : Vals [V.ref a, v] [Value.ref a, u] := .cons rfl (.cons r .nil)
    refine codeAny_mono (F1.run _ X.stack _ _ args [Value.ref a, u] _ (fun z H2 => z = .non ∧ ∃ d, H2 = upd (upd (upd H a (exo a C none)) d (exd d [(f, v)])) a (exo a C (some d)) ∧ H d = none ∧ d ≠ a) (fun _ _ _ => False) (hr.make C vs0 kw0) (I2.env0.make C vs0 kw0) (hpos _) r2
      ⟨a, v, rfl, upd_same, fun dx hdx hda => ⟨rfl, dx, rfl, by rwa [upd_ne hda] at hdx, hda⟩⟩) fun r s' hq' => ?_
    cases r with
    | error er => exact (hx pins σ _ _ er s' I2 hq')
    | ok fl =>
      cases fl with
      | ret z =>
        obtain ⟨v', H2, os2, bare2, un2, hok2, rv, ev, d, eH, hd1, hda⟩ := hq'
        subst ev
        obtain ⟨h2, g2, d2, t2, os'⟩ := s'
        have eH' : H2 = upd (upd (upd H d (exd d [(f, v)])) a (exo a C none)) a (exo a C (some d)) := by
          rw [eH]
          funext b
          by_cases h1 : b = a
          · subst h1; rw [upd_same, upd_same]
          · rw [upd_ne h1, upd_ne h1, upd_ne h1]
            by_cases h2 : b = d
            · subst h2; rw [upd_same, upd_same]
            · rw [upd_ne h2, upd_ne h2, upd_ne h1]
        obtain ⟨na, J, mk⟩ := ox_land (f := f) (v := v) (raises_own T.exC T.tyC) I hsz kk un2 hok2 os2 bare2 eH hd1 hda
        exact ⟨rv, hq a d _ na hd1 hda J mk⟩
      | next => exact False.elim hq'
      | brk => exact False.elim hq'
      | cont => exact False.elim hq'
  obtain ⟨hp, g, dr, tk, os⟩ := s
  have kk : ∀ (us : List Value), ∀ b o, hp.get? b = some o → ((hp.push (PySem.W.kdv_tup us)).push (PySem.HandSPX.excO C hp.objs.size)).get? b = some o := fun us b o e => Heap.get?_push_of_some _ (Heap.get?_push_of_some _ e)
  have hget : ∀ (us : List Value), ((hp.push (PySem.W.kdv_tup us)).push (PySem.HandSPX.excO C hp.objs.size)).get? (hp.objs.size + 1) = some (PySem.HandSPX.excO C hp.objs.size) := fun us => by heap_get
  rcases hk with ⟨rfl, rfl⟩ | ⟨rfl, rfl⟩
  · exact wpAny_call (PySem.HandSPX.call_own T.fb hin (I.kIn _ _ hC) (PySem.W.looks_findIn I.kIn iC) (fun self => PySem.W.bind_fn I.kIn self tI) (by show 1 ≤ sizeLine; rw [sizeLine_eq]; decide)
      (end_ hp.objs.size _ (hp.objs.size + 1) hp g dr tk os ⟨[.ref (hp.objs.size + 1), u], []⟩ _ rfl (fun s' => b1 s' _ _) I (Nat.le_succ _) (kk [u]) (hget [u]) h [u] []))
  · exact wpAny_call (MP.Raw.kw_own T.fb hin (I.kIn _ _ hC) (PySem.W.looks_findIn I.kIn iC) (fun self => PySem.W.bind_fn I.kIn self tI)
      (end_ hp.objs.size _ (hp.objs.size + 1) hp g dr tk os ⟨[.ref (hp.objs.size + 1)], [(f, u)]⟩ _ rfl (fun s' => b2 s' _ _) I (Nat.le_succ _) (kk []) (hget []) h [] [(f, u)]))
end
end MP

set_option Elab.async false
set_option linter.all false
set_option maxRecDepth 100000
set_option maxHeartbeats 4000000
namespace MP
open PySem PySem.Spec PyProof.Rows L2
section
variable {X : Cx} {Γ : Ct} {W : WX} {C : Addr} {x f : Str} {e : Expr} {te : TE} {p pos kpos : Pos}
def tMkV (C : Addr) (f : Str) (te : TE) : TE := fun σ H Q => te σ H fun v H1 => ∀ a d, H1 a = none → H1 d = none → d ≠ a → Q (.ref a) (upd (upd H1 d (.xd [(f, v)])) a (ExK a C d))
def onlyV (P : V → Hp → Prop) : List V → Hp → Prop := fun vs H1 => match vs with
  | [v] => P v H1
  | _ => False
theorem onlyV_ok {P : V → Hp → Prop} {vs : List V} {us : List Value} {H1 : Hp} (h : onlyV P vs H1) (r : Vals vs us) : ∃ v u, us = [u] ∧ RelV v u ∧ P v H1 := by
  match vs, h with
  | [v], h =>
    obtain ⟨u, rfl, ru⟩ := vals1 r
    exact ⟨v, u, rfl, ru, h⟩
theorem pe_mk (T : XgR X.prog X.w X.K X.mg X.base C x f) (hr : Room 2 X.A) (hg : Gl X x) (ha : PE X e te)
    (hdb : (x == ("__debug__" : Str)) = false := by decide) (he : starEach [e] X.env = (false, eval e X.env) :: starEach [] X.env := by rfl) (hpl : (backTo pos (starEach [] X.env)).any (·.1) = false := by rfl) :
    PE X (.Call (.Name x p) [e] [] pos) (tMkV C f te) := by
  have kC : PySem.W.keepIn X.K (.ref C) = true := by obtain ⟨_, _, _, _, T⟩ := T.ox; exact T.kC
  refine ⟨fun pins s σ H Q I h => wpAny_Call_Name_kw (ld_glob I hg T.gC ?_ hdb)⟩
  refine PySem.W.callWith_K (h₀ := X.base) I.ok.mod.kin kC (thn ((pa_cons ha pa_nil he).run pos pins s σ H (onlyV fun v H1 => ∀ a d, H1 a = none → H1 d = none → d ≠ a → Q (.ref a) (upd (upd H1 d (.xd [(f, v)])) a (ExK a C d))) I h) fun us s1 ⟨vs, H1, I1, r1, q1⟩ => ⟨I1.kIn, ?_⟩) he hpl
  obtain ⟨v, u, rfl, ru, q⟩ := onlyV_ok q1 r1
  exact ox_call T hr (.inl ⟨rfl, rfl⟩) I1 ru fun a d s' na nd hda J _ => ⟨.ref a, _, J, rfl, q a d na nd hda⟩
theorem pe_mkK (T : XgR X.prog X.w X.K X.mg X.base C x f) (hr : Room 2 X.A) (hg : Gl X x) (ha : PE X e te)
    (hdb : (x == ("__debug__" : Str)) = false := by decide) (hall : (backToKw pos (keywordEach [⟨some f, e, kpos⟩] X.env)).all (·.1.isSome) = true := by rfl) (hks : (backToKw pos (keywordEach [⟨some f, e, kpos⟩] X.env)).filterMap (·.1) = [f] := by rfl)
    (hpl : ((backTo pos (starEach [] X.env)).any (·.1) || (backToKw pos (keywordEach [⟨some f, e, kpos⟩] X.env)).any (·.1.isNone)) = false := by rfl) :
    PE X (.Call (.Name x p) [] [⟨some f, e, kpos⟩] pos) (tMkV C f te) := by
  have kC : PySem.W.keepIn X.K (.ref C) = true := by obtain ⟨_, _, _, _, T⟩ := T.ox; exact T.kC
  refine ⟨fun pins s σ H Q I h => wpAny_Call_Name_kw (ld_glob I hg T.gC ?_ hdb)⟩
  refine PySem.W.callWith_KW0 (h₀ := X.base) I.ok.mod.kin kC hall (thn ((pk_cons ha pk_nil).run pos pins s σ H (onlyV fun v H1 => ∀ a d, H1 a = none → H1 d = none → d ≠ a → Q (.ref a) (upd (upd H1 d (.xd [(f, v)])) a (ExK a C d))) I h) fun us s1 ⟨vs, H1, I1, r1, q1⟩ => ⟨I1.kIn, ?_⟩) hpl
  obtain ⟨v, u, rfl, ru, q⟩ := onlyV_ok q1 r1
  rw [hks]
  exact ox_call T hr (.inr ⟨rfl, rfl⟩) I1 ru fun a d s' na nd hda J _ => ⟨.ref a, _, J, rfl, q a d na nd hda⟩
theorem pmk_ox (T : XgR X.prog X.w X.K X.mg X.base C x f) (hr : Room 2 X.A) (hg : Gl X x) (ha : PE X e te)
    (hdb : (x == ("__debug__" : Str)) = false := by decide) (he : starEach [e] X.env = (false, eval e X.env) :: starEach [] X.env := by rfl) (hpl : (backTo pos (starEach [] X.env)).any (·.1) = false := by rfl) :
    PMk X (.Call (.Name x p) [e] [] pos) (fun σ H Q => te σ H fun v H1 => ∀ d, H1 d = none → Q (.ref C) (some d) (upd H1 d (.xd [(f, v)]))) := by
  have kC : PySem.W.keepIn X.K (.ref C) = true := by obtain ⟨_, _, _, _, T⟩ := T.ox; exact T.kC
  intro pins s σ H Q I h
  refine wpAny_Call_Name_kw (ld_glob I hg T.gC ?_ hdb)
  refine PySem.W.callWith_K (h₀ := X.base) I.ok.mod.kin kC (thn ((pa_cons ha pa_nil he).run pos pins s σ H (onlyV fun v H1 => ∀ d, H1 d = none → Q (.ref C) (some d) (upd H1 d (.xd [(f, v)]))) I h) fun us s1 ⟨vs, H1, I1, r1, q1⟩ => ⟨I1.kIn, ?_⟩) he hpl
  obtain ⟨v, u, rfl, ru, q⟩ := onlyV_ok q1 r1
  refine ox_call T hr (.inl ⟨rfl, rfl⟩) I1 ru fun a d s' na nd hda _ mk => ?_
  obtain ⟨a', oe, vs', sI, H', cls, dd, m1, m2, m3, m4, m5, m6, m7, m8, m9, m10, m11, m12, rfl, rfl, rfl⟩ := mk
  exact ⟨a', oe, vs', sI, _, _, _, m1, m2, m3, m4, m5, m6, m7, m8, m9, m10, m11, m12, q d nd⟩
/-- C(e) as a value -/
def mMk (c : Nat) (f : Str) (g : FE) : FE := fun ρ s => (g ρ s).bind fun w s1 => .ok (.exc c f w) s1
variable {g : FE} {c : Nat} {pos' : Pos}
theorem mk_fin {H1 : Hp} {μ1 : Mu} {Z : Zs} {σ : L2.St} {s1 : Sto} {w : Dv} {v : V} {Q : VK} {a d : Addr} (R1 : Rep Γ H1 μ1 Z s1) (r1 : RV Γ H1 μ1 Z w v) (q1 : PostE Γ W H1 μ1 Z σ Q (.ok (.exc c f w) s1)) (na : H1 a = none) (nd : H1 d = none) (hda : d ≠ a) :
    Q (.ref a) (upd (upd H1 d (.xd [(f, v)])) a (ExK a (Γ.cls c) d)) := by
  have na' : upd H1 d (.xd [(f, v)]) a = none := by rw [upd_ne hda.symm]; exact na
  have e1 : Evo H1 μ1 (upd H1 d (.xd [(f, v)])) μ1 := Evo.laid nd
  have e2 : Evo (upd H1 d (.xd [(f, v)])) μ1 (upd (upd H1 d (.xd [(f, v)])) a (ExK a (Γ.cls c) d)) μ1 := Evo.laid na'
  have R2 := R1.laid (o := .xd [(f, v)]) nd
  exact q1 _ _ μ1 (e1.trans e2) (R2.laid na') ⟨a, d, v, rfl, upd_same, R1.fz na, by rw [upd_ne hda, upd_same], R1.fz nd, r1.mono (e1.trans e2)⟩
theorem me_mk (hK : Γ.K = X.K) (T : XgR X.prog X.w X.K X.mg X.base (Γ.cls c) x f) (hr : Room 2 X.A) (hg : Gl X x) (ha : ME X Γ W e g)
    (hdb : (x == ("__debug__" : Str)) = false := by decide) (he : starEach [e] X.env = (false, eval e X.env) :: starEach [] X.env := by rfl) (hpl : (backTo pos (starEach [] X.env)).any (·.1) = false := by rfl) :
    ME X Γ W (.Call (.Name x p) [e] [] pos) (mMk c f g) :=
  PE.imp (pe_mk T hr hg ha hdb he hpl) fun σ H Q ⟨μ, Z, ρ, s, hE, hR, q⟩ => eE hE hR q fun y s1 v H1 μ1 ev E1 R1 r1 q1 a d na nd hda => mk_fin R1 r1 q1 na nd hda
theorem me_mkK (hK : Γ.K = X.K) (T : XgR X.prog X.w X.K X.mg X.base (Γ.cls c) x f) (hr : Room 2 X.A) (hg : Gl X x) (ha : ME X Γ W e g)
    (hdb : (x == ("__debug__" : Str)) = false := by decide) (hall : (backToKw pos (keywordEach [⟨some f, e, kpos⟩] X.env)).all (·.1.isSome) = true := by rfl) (hks : (backToKw pos (keywordEach [⟨some f, e, kpos⟩] X.env)).filterMap (·.1) = [f] := by rfl)
    (hpl : ((backTo pos (starEach [] X.env)).any (·.1) || (backToKw pos (keywordEach [⟨some f, e, kpos⟩] X.env)).any (·.1.isNone)) = false := by rfl) :
    ME X Γ W (.Call (.Name x p) [] [⟨some f, e, kpos⟩] pos) (mMk c f g) :=
  PE.imp (pe_mkK T hr hg ha hdb hall hks hpl) fun σ H Q ⟨μ, Z, ρ, s, hE, hR, q⟩ => eE hE hR q fun y s1 v H1 μ1 ev E1 R1 r1 q1 a d na nd hda => mk_fin R1 r1 q1 na nd hda
theorem ms_raiseG (hK : Γ.K = X.K) (T : XgR X.prog X.w X.K X.mg X.base (Γ.cls c) x f) (hr : Room 2 X.A) (hc : X.calm = true) (tk : Takes X W) (hg : Gl X x) (ha : ME X Γ W e g)
    (hdb : (x == ("__debug__" : Str)) = false := by decide) (he : starEach [e] X.env = (false, eval e X.env) :: starEach [] X.env := by rfl) (hpl : (backTo pos (starEach [] X.env)).any (·.1) = false := by rfl) :
    MS X Γ W (.Raise (some (.Call (.Name x p) [e] [] pos)) none pos') (mRaise c f g) :=
  PS.imp (ps_raise hc tk (pmk_ox T hr hg ha hdb he hpl)) fun D σ H ⟨μ, Z, ρ, s, hE, hR, q⟩ => eS hE hR q fun y s1 v H1 μ1 ev E1 R1 r1 q1 d nd => by
    have e2 : Evo H1 μ1 (upd H1 d (.xd [(f, v)])) μ1 := Evo.laid nd
    exact q1 _ _ σ _ μ1 e2 (R1.laid nd) (E1.mono e2) ⟨rfl, d, v, rfl, upd_same, R1.fz nd, r1.mono e2⟩
/-- C(e), C without an __init__ of its own -/
def mMk0 (c : Nat) (g : FE) : FE := fun ρ s => (g ρ s).bind fun _ s1 => .ok (.exn c) s1
theorem me_mk0 {bmB : List Value} {B newId initId : String} (F : ExcBaseFacts B newId initId bmB) (q : PySem.W.excIn X.K (Γ.cls c) bmB newId = true) (gC : X.mg x = some (.ref (Γ.cls c))) (kC : PySem.W.keepIn X.K (.ref (Γ.cls c)) = true) (hg : Gl X x) (ha : ME X Γ W e g)
    (hs : starEach [e] X.env = (false, eval e X.env) :: starEach [] X.env := by rfl) (hdb : (x == ("__debug__" : Str)) = false := by decide) : ME X Γ W (.Call (.Name x p) [e] [] pos) (mMk0 c g) :=
  PE.imp (pe_exc1 F q gC kC hg ha hs hdb) fun σ H Q ⟨μ, Z, ρ, s, hE, hR, q⟩ => eE hE hR q fun y s1 v H1 μ1 ev E1 R1 r1 q1 a na =>
    q1 _ _ μ1 (Evo.laid na) (R1.laid na) ⟨a, rfl, upd_same, R1.fz na⟩
end
/-- what making a class wants -/
theorem xgr_of {P : Program} {w : World} {K : PySem.W.Frag} {mg : Str → Option Value} {base : Heap} {C fI : Addr} {x qual f : Str} {params : Arguments} {scope : Scope} {dV kV doc pm cdv ct oc : Value} {an od : Option Addr} {osl : Array (Option Value)} {p1 p2 p3 p4 : Pos} {B newId initId : String} {bmB : List Value}
    (ox : Ox K C B newId initId bmB) (no : PySem.W.findIn K (.ref C) f = some none) (gC : mg x = some (.ref C)) (iC : PySem.W.findIn K (.ref C) "__init__" = some (some (.ref fI))) (tI : PySem.W.typeIn K (.ref fI) = some (.type "function"))
    (lk : K.lookup fI = some ⟨oc, od, .func (PySem.W.fnOf "__init__" qual params [.Assign [.Attribute (.Name "self" p1) f p2] (.Name f p3) p4] scope dV kV doc pm an cdv ct), osl⟩) (hcd : PySem.W.codeIn K cdv qual = true) (S : FnScope ["self", f] ["self", f] scope)
    (v0 : Vis scope "self") (v1 : Vis scope f) (d1 : (f == ("__debug__" : Str)) = false) (d2 : (f == ("__classdict__" : Str)) = false)
    (b1 : ∀ u v : Value, bindArgs (PySem.W.fnOf "__init__" qual params [.Assign [.Attribute (.Name "self" p1) f p2] (.Name f p3) p4] scope dV kV doc pm an cdv ct) ⟨[u, v], []⟩ = pure [(("self" : Str), u), (f, v)])
    (b2 : ∀ u v : Value, bindArgs (PySem.W.fnOf "__init__" qual params [.Assign [.Attribute (.Name "self" p1) f p2] (.Name f p3) p4] scope dV kV doc pm an cdv ct) ⟨[u], [(f, v)]⟩ = pure [(("self" : Str), u), (f, v)]) : XgR P w K mg base C x f :=
  ⟨⟨_, _, _, _, ox⟩, no, gC, fI, _, iC, tI, init_ox lk hcd S ox no v0 v1 d1 d2, fun s u v => .of_eq (b1 u v), fun s u v => .of_eq (b2 u v)⟩
end MP

set_option Elab.async false
set_option linter.all false
set_option maxRecDepth 100000
set_option maxHeartbeats 4000000
namespace MP
open PySem PySem.Spec PyProof.Rows L2
/-! in over flat items; a dict of one number as a thing; its repr -/
def flV : Dv → Option V
  | .non => some .non | .bl b => some (.bl b) | .int i => some (.int i) | .str x => some (.str x)
  | _ => none
section
variable {X : Cx} {Γ : Ct} {W : WX} {H : Hp} {μ : Mu} {Z : Zs}
theorem flV_ok {w : Dv} {u v : V} (e : flV w = some u) (r : RV Γ H μ Z w v) : v = u ∧ flatV u = true := by
  cases w <;> first | (cases e; done) | (cases e; exact ⟨r, rfl⟩)
theorem flVs_ok : ∀ {ws : List Dv} {us vs : List V}, mapO flV ws = some us → RVs Γ H μ Z ws vs → vs = us ∧ us.all flatV = true
  | [], _, _, e, r => by cases e; exact ⟨r, rfl⟩
  | w :: ws, us, _, e, r => by
    obtain ⟨x, xs, rfl, r1, r2⟩ := r
    unfold mapO at e
    split at e
    · rename_i b bs e1 e2
      cases e
      obtain ⟨rfl, h1⟩ := flV_ok e1 r1
      obtain ⟨rfl, h2⟩ := flVs_ok e2 r2
      exact ⟨rfl, by rw [List.all_cons, h1, h2]; rfl⟩
    · cases e
def inQ (neg : Bool) : O2 := fun _ x y => match flV x, plainOf y with
  | some u, some (_, ws) => match mapO flV ws with
    | some us => some (.bl (if neg = true then !inV u us else inV u us))
    | none => none
  | _, _ => none
theorem sInQ (hK : Γ.K = X.K) {neg : Bool} : Op2 Γ (rIn X.K neg) (inQ neg) := fun H μ Z s x y w u v Q hR r1 r2 e k => by
  rw [← hK]
  unfold inQ at e
  split at e
  · rename_i u' t ws e1 e2
    split at e
    · rename_i us e3
      cases e
      obtain ⟨rfl, f1⟩ := flV_ok e1 r1
      obtain ⟨a, xs, rfl, h1, h2⟩ := plain_ok r2 e2
      obtain ⟨rfl, f2⟩ := flVs_ok e3 h1
      have hq := h2 H μ Evo.refl.z
      refine ⟨a, xs, rfl, ?_, f1, f2, k _ H .refl hR rfl⟩
      unfold SqX at hq
      split at hq
      · exact .inr hq
      · exact .inl hq
    · cases e
  · cases e
/-- {k: i} as a thing that nobody changes -/
theorem me_dct1 {k : Str} {i : Int} {j1 j2 : Nat} {p1 p2 pos : Pos} : ME X Γ W (.Dict [some (.Constant (.str k) j1 p1)] [.Constant (.int i) j2 p2] pos) (mK (.dct [.inr k] [.int i])) :=
  PE.imp (pe_disp (pps_cons pe_str pe_int pps_nil) rfl rfl (by simp) (by simp)) fun σ H Q ⟨μ, Z, ρ, s, hE, hR, q⟩ p hp => by
    refine ⟨upd_same, [(.inr k, .int i)], rfl, by simp, ?_⟩
    have e : upd (upd H p (.dK [])) p (.dK (mergeK [] [(.inr k, .int i)])) = upd H p (.dK [(.inr k, .int i)]) := by
      funext b
      by_cases hb : b = p
      · rw [hb, upd_same, upd_same]; rfl
      · rw [upd_ne hb, upd_ne hb, upd_ne hb]
    rw [e]
    exact q (.ref p) _ μ (Evo.laid hp) (hR.laid hp) ⟨p, [(.inr k, .int i)], rfl, upd_same, hR.fz hp, rfl, ⟨.int i, [], rfl, rfl, rfl⟩⟩
def reprYD : ON := fun _ xs => match xs with
  | [.dct [.inr k] [.int i]] => if (PyData.dict [(.str k, .int i)]).showable = true ∧ (PyData.dict [(.str k, .int i)]).shown.length ≤ lim then some (.str (PyData.dict [(.str k, .int i)]).shown) else none
  | _ => none
theorem sReprY (hK : Γ.K = X.K) : OpN Γ (rReprX X.K) reprYD := fun H μ Z s xs w vs Q hR rx e k => by
  unfold reprYD at e
  split at e
  · rename_i ky i
    split at e
    · rename_i hc
      cases e
      obtain ⟨v, rfl, r1⟩ := one rx
      refine ⟨v, .dict [(.str ky, .int i)], rfl, fun X' pins σ s u hX I ru => ?_, hc.1, (by simp only [PyData.depth, PyData.depthKv]; decide), lim_ok hc.2, k _ H .refl hR rfl⟩
      obtain ⟨a, kvs, rfl, h1, _, h3, h4⟩ := r1
      cases ru
      obtain ⟨x, xs', h5, h6, h7⟩ := h4
      cases kvs with
      | nil => cases h3
      | cons kv kr =>
        cases kr with
        | cons _ _ => simp at h3
        | nil =>
          obtain ⟨k1, v1⟩ := kv
          simp only [List.map_cons, List.map_nil, List.cons.injEq, and_true] at h3 h5
          subst h3
          obtain ⟨rfl, _⟩ := h5
          rw [show _ = V.int i from h6] at h1
          obtain ⟨_, hsm, ws, kv', o, es, ep, ho, hx, hd, hk, hp, _⟩ := I.hok a _ h1
          cases kv' with
          | cons q1 q2 =>
            cases q2
            rename_i q _
            obtain ⟨e1, tk, e2⟩ := q1
            obtain ⟨qa, qb⟩ := q
            dsimp only at e1 e2
            subst e1 e2
            generalize hl : es.toList = l at hp
            cases hp with
            | cons hh hv ht =>
              cases ht
              obtain ⟨tk2, e3⟩ := Value.isStrOf_shape hh
              dsimp only at hv
              refine ⟨_, Reads.dict (kvs := [(.str ky, .int i)]) (as := [] ++ []) (bs := [] ++ []) ho hx.1 hd (by rw [hl]; exact ReadsAll.cons (by show Reads _ (DictEntry.key _) _ _; rw [e3]; exact Reads.str ky tk2) ReadsAll.nil) (by rw [hl]; exact ReadsAll.cons (by show Reads _ (DictEntry.val _) _ _; rw [hv]; exact Reads.int i tk) ReadsAll.nil), ?_⟩
              intro hm
              simp at hm
              rw [← hm] at hsm
              simp at hsm
    · cases e
  · cases e
end
end MP
namespace MP
open PySem PySem.Spec PyProof.Rows L2
/-- repr of lists and tuples without dicts, of what is without lists, of a dict of one number -/
def reprB : ON := fun s xs => match reprA s xs with
  | some w => some w
  | none => reprYD s xs
theorem cr_reprB {X : Cx} (hg : X.A.guards = some []) (hu : X.A.units + 64 < cLine) : CallR X (.builtin "repr") (fun x H Q => (rRepr X.K x H Q ∨ rReprX X.K x H Q) ∨ rReprX X.K x H Q) := CallR.or2 (cr_reprA hg hu) (call_reprX hg hu)
theorem sReprB {X : Cx} {Γ : Ct} (hK : Γ.K = X.K) : OpN Γ (fun x H Q => (rRepr X.K x H Q ∨ rReprX X.K x H Q) ∨ rReprX X.K x H Q) reprB := OpN.or (sReprA hK) (sReprY hK)
end MP

set_option Elab.async false
set_option linter.all false
set_option maxRecDepth 100000
set_option maxHeartbeats 4000000
namespace MP.K01
open PySem PySem.Spec PyProof.Rows L2 MP
/-! ### the text -/
def topS (i : Nat) : Stmt := PySem.Challenge.pw_bestoflast_k01_errors.main.body.getD i (.Pass ⟨0, 0, 0, 0⟩)
structure Ns (Γ : Ct) (mg : Str → Option Value) : Prop where
  n_LookupError : mg "LookupError" = none
  n_ValueError : mg "ValueError" = none
  n_int : mg "int" = none
  n_isinstance : mg "isinstance" = none
  n_len : mg "len" = none
  n_list : mg "list" = none
  n_min : mg "min" = none
  n_range : mg "range" = none
  n_repr : mg "repr" = none
  k_ResultError : mg "ResultError" = some (.ref (Γ.cls 0))
  k_BadRule : mg "BadRule" = some (.ref (Γ.cls 1))
  k_BadRow : mg "BadRow" = some (.ref (Γ.cls 2))
  k_BadBill : mg "BadBill" = some (.ref (Γ.cls 3))
  k_BadNumber : mg "BadNumber" = some (.ref (Γ.cls 4))
  k_BadKind : mg "BadKind" = some (.ref (Γ.cls 5))
  k_BadPaper : mg "BadPaper" = some (.ref (Γ.cls 6))
  k_BadText : mg "BadText" = some (.ref (Γ.cls 7))
  k_Nothing : mg "Nothing" = some (.ref (Γ.cls 8))
  xi : XcI Γ
  f_line : XcF Γ "line"
  f_number : XcF Γ "number"
  f_part : XcF Γ "part"
  f_value : XcF Γ "value"
  ex : ∀ c, c < 9 → PySem.W.exmAny Γ.K (.ref (Γ.cls c)) [.ref (Γ.cls 0), .ref (Γ.cls 8)] = some true
  ex1 : ∀ c, c < 9 → ∀ j, j < 9 → PySem.W.exmOne Γ.K (.ref (Γ.cls c)) (.ref (Γ.cls j)) = some (under c j)
def mthS (s : Stmt) (j : Nat) : Stmt := match s with
  | .ClassDef _ _ _ b _ _ _ _ _ _ _ => b.getD j (.Pass ⟨0, 0, 0, 0⟩)
  | _ => .Pass ⟨0, 0, 0, 0⟩
abbrev sI_BadRule : Stmt := mthS (topS 2) 0
abbrev sI_BadRow : Stmt := mthS (topS 3) 0
abbrev sI_BadBill : Stmt := mthS (topS 4) 0
abbrev sI_BadNumber : Stmt := mthS (topS 5) 0
abbrev sI_BadKind : Stmt := mthS (topS 6) 0
abbrev sI_BadPaper : Stmt := mthS (topS 7) 0
abbrev sI_BadText : Stmt := mthS (topS 8) 0
abbrev sI_Nothing : Stmt := mthS (topS 9) 0
abbrev s__law_begun : Stmt := topS 11
theorem sc__law_begun : FnScope ["script", "great", "cell"] ["script"] (defScope s__law_begun) := ⟨rfl, rfl, rfl, by decide +kernel, rfl, by decide +kernel, by decide +kernel⟩
noncomputable def cF__law_begun_1 : FI := (iSeq (mVar 0))
noncomputable def ct__law_begun_1 : FG := (gN 2)
noncomputable def ci__law_begun_1 : FT := (mTest (mBin geD (mVar 2) (mBin powD (mK (.int 10)) (mK (.int 18)))))
noncomputable def ce__law_begun_1 : FE := (mVar 2)
noncomputable def d__law_begun : FS := (mSeq (mAsg (mComp cF__law_begun_1 [2] ct__law_begun_1 ci__law_begun_1 ce__law_begun_1) (gN 1))
  (mRet (mDctM [((mK (.str "cells")), (mBin addD (mBlt listD (mCons (mVar 0) mNil)) (mLst (mCons (mBlt lenD (mCons (mVar 0) mNil)) mNil)))), ((mK (.str "left")), (mIf (mTest (mBin neD (mVar 1) (mLst mNil))) (mBin ixA (mVar 1) (mK (.int 0))) (mK (.int 0)))), ((mK (.str "spot")), (mK (.int 0)))])))
noncomputable def g__law_begun : Fn := denOf 3 d__law_begun
abbrev s__law_draw : Stmt := topS 12
theorem sc__law_draw : FnScope ["m", "many", "found", "spot", "cell", "mixed"] ["m", "many"] (defScope s__law_draw) := ⟨rfl, rfl, rfl, by decide +kernel, rfl, by decide +kernel, by decide +kernel⟩
noncomputable def d__law_draw : FS := (mSeq (mIfS (mTest (mBin gtD (mBin ixA (mVar 0) (mK (.str "left"))) (mK (.int 0)))) (mSeq (mAsg (mBin modD (mBlt intD (mCons (mBin ixA (mVar 0) (mK (.str "left"))) mNil)) (mVar 1)) (gN 2))
  (mSeq (mDPut (mVar 0) (mK (.str "left")) (mBin divD (mBin ixA (mVar 0) (mK (.str "left"))) (mVar 1)))
  (mRet (mVar 2)))) mNext)
  (mSeq (mAsg (mBin addD (mBin ixA (mVar 0) (mK (.str "spot"))) (mK (.int 1))) (gN 3))
  (mSeq (mDPut (mVar 0) (mK (.str "spot")) (mVar 3))
  (mSeq (mAsg (mBin ixA (mBin ixA (mVar 0) (mK (.str "cells"))) (mBin modD (mBlt intD (mCons (mVar 3) mNil)) (mBlt lenD (mCons (mBin ixA (mVar 0) (mK (.str "cells"))) mNil)))) (gN 4))
  (mSeq (mAsg (mBin mulD (mBlt intD (mCons (mBin addD (mBin addD (mBin modD (mBlt intD (mCons (mVar 4) mNil)) (mK (.int 2147483629))) (mBin mulD (mK (.int 6133)) (mVar 3))) (mBin mulD (mBin mulD (mK (.int 23)) (mVar 3)) (mVar 3))) mNil)) (mK (.int 48271))) (gN 5))
  (mSeq (mAsg (mBin mulD (mBlt intD (mCons (mBin addD (mBin modD (mBlt intD (mCons (mVar 5) mNil)) (mK (.int 2147483647))) (mBin mulD (mK (.int 93241)) (mVar 3))) mNil)) (mK (.int 69621))) (gN 5))
  (mRet (mBin modD (mBlt intD (mCons (mBin divD (mBin modD (mBlt intD (mCons (mVar 5) mNil)) (mK (.int 2147483587))) (mK (.int 13))) mNil)) (mVar 1)))))))))
noncomputable def g__law_draw : Fn := denOf 6 d__law_draw
abbrev s__law_of : Stmt := topS 13
theorem sc__law_of : FnScope ["m", "some"] ["m", "some"] (defScope s__law_of) := ⟨rfl, rfl, rfl, by decide +kernel, rfl, by decide +kernel, by decide +kernel⟩
noncomputable def d__law_of : FS := (mRet (mBin ixA (mVar 1) (mCall (g__law_draw) (mCons (mVar 0) (mCons (mBlt lenD (mCons (mVar 1) mNil)) mNil)))))
noncomputable def g__law_of : Fn := denOf 2 d__law_of
abbrev s__law_made : Stmt := topS 14
theorem sc__law_made : FnScope ["thing", "found"] ["thing"] (defScope s__law_made) := ⟨rfl, rfl, rfl, by decide +kernel, rfl, by decide +kernel, by decide +kernel⟩
noncomputable def d__law_made : FS := (mSeq (mAsg (mLst (mCons (mTup (mCons (mK (.int 0)) (mCons (mMk 1 "number" (mVar 0)) (mCons (mMk 1 "number" (mVar 0)) mNil)))) (mCons (mTup (mCons (mK (.int 1)) (mCons (mMk 2 "number" (mVar 0)) (mCons (mMk 2 "number" (mVar 0)) mNil)))) mNil))) (gN 1))
  (mSeq (mAsg (mBin addD (mVar 1) (mLst (mCons (mTup (mCons (mK (.int 2)) (mCons (mMk 3 "part" (mVar 0)) (mCons (mMk 3 "part" (mVar 0)) mNil)))) (mCons (mTup (mCons (mK (.int 3)) (mCons (mMk 4 "value" (mVar 0)) (mCons (mMk 4 "value" (mVar 0)) mNil)))) mNil)))) (gN 1))
  (mSeq (mAsg (mBin addD (mVar 1) (mLst (mCons (mTup (mCons (mK (.int 4)) (mCons (mMk 5 "value" (mVar 0)) (mCons (mMk 5 "value" (mVar 0)) mNil)))) (mCons (mTup (mCons (mK (.int 5)) (mCons (mMk 6 "part" (mVar 0)) (mCons (mMk 6 "part" (mVar 0)) mNil)))) mNil)))) (gN 1))
  (mRet (mBin addD (mVar 1) (mLst (mCons (mTup (mCons (mK (.int 6)) (mCons (mMk 7 "line" (mVar 0)) (mCons (mMk 7 "line" (mVar 0)) mNil)))) (mCons (mTup (mCons (mK (.int 7)) (mCons (mMk 8 "value" (mVar 0)) (mCons (mMk 8 "value" (mVar 0)) mNil)))) mNil))))))))
noncomputable def g__law_made : Fn := denOf 2 d__law_made
abbrev s__law_marks : Stmt := topS 15
theorem sc__law_marks : FnScope ["error", "found"] ["error"] (defScope s__law_marks) := ⟨rfl, rfl, rfl, by decide +kernel, rfl, by decide +kernel, by decide +kernel⟩
noncomputable def d__law_marks : FS := (mSeq (mAsg (mLst (mCons (mBlt isiA (mCons (mVar 0) (mCons (mK (.cl 1)) mNil))) (mCons (mBlt isiA (mCons (mVar 0) (mCons (mK (.cl 2)) mNil))) (mCons (mBlt isiA (mCons (mVar 0) (mCons (mK (.cl 3)) mNil))) mNil)))) (gN 1))
  (mSeq (mAsg (mBin addD (mVar 1) (mLst (mCons (mBlt isiA (mCons (mVar 0) (mCons (mK (.cl 4)) mNil))) (mCons (mBlt isiA (mCons (mVar 0) (mCons (mK (.cl 5)) mNil))) (mCons (mBlt isiA (mCons (mVar 0) (mCons (mK (.cl 6)) mNil))) mNil))))) (gN 1))
  (mSeq (mAsg (mBin addD (mVar 1) (mLst (mCons (mBlt isiA (mCons (mVar 0) (mCons (mK (.cl 7)) mNil))) (mCons (mBlt isiA (mCons (mVar 0) (mCons (mK (.cl 8)) mNil))) mNil)))) (gN 1))
  (mRet (mBin addD (mVar 1) (mLst (mCons (mBlt isiA (mCons (mVar 0) (mCons (mK (.cl 0)) mNil))) (mCons (mBlt isiA (mCons (mVar 0) (mCons (mK (.ty "ValueError")) mNil))) (mCons (mBlt isiA (mCons (mVar 0) (mCons (mK (.ty "LookupError")) mNil))) mNil)))))))))
noncomputable def g__law_marks : Fn := denOf 2 d__law_marks
abbrev s__law_kept : Stmt := topS 16
theorem sc__law_kept : FnScope ["place", "error"] ["place", "error"] (defScope s__law_kept) := ⟨rfl, rfl, rfl, by decide +kernel, rfl, by decide +kernel, by decide +kernel⟩
noncomputable def d__law_kept : FS := (mSeq (mIfS (mTest (mBin ltD (mVar 0) (mK (.int 2)))) (mRet (mUn (fldD "number") (mVar 1))) mNext)
  (mSeq (mIfS (mTest (mBin (inQ false) (mVar 0) (mTup (mCons (mK (.int 2)) (mCons (mK (.int 5)) mNil))))) (mRet (mUn (fldD "part") (mVar 1))) mNext)
  (mRet (mIf (mTest (mBin eqD (mVar 0) (mK (.int 6)))) (mUn (fldD "line") (mVar 1)) (mUn (fldD "value") (mVar 1))))))
noncomputable def g__law_kept : Fn := denOf 2 d__law_kept
abbrev s_law : Stmt := topS 17
theorem sc_law : FnScope ["script", "m", "things", "lap", "thing", "place", "one", "other", "due", "error", "base", "spot"] ["script"] (defScope s_law) := ⟨rfl, rfl, rfl, by decide +kernel, rfl, by decide +kernel, by decide +kernel⟩
noncomputable def cF_law_1 : FI := (iRange1 (mCons (mK (.int 8)) mNil))
noncomputable def ct_law_1 : FG := (gN 11)
noncomputable def ci_law_1 : FT := mYes
noncomputable def ce_law_1 : FE := (mBin eqD (mVar 11) (mVar 5))
noncomputable def F_law_1 : FI := (iSeq (mTup (mCons (mVar 6) (mCons (mVar 7) mNil))))
noncomputable def t_law_1 : FG := (gN 9)
noncomputable def b_law_1 : FS := (mIfS (mOr (mTest (mBin neD (mCall (g__law_marks) (mCons (mVar 9) mNil)) (mVar 8))) (mTest (mBin neD (mBlt reprB (mCons (mCall (g__law_kept) (mCons (mVar 5) (mCons (mVar 9) mNil))) mNil)) (mBlt reprB (mCons (mVar 4) mNil))))) (mRet (mK (.bl false))) mNext)
noncomputable def F_law_2 : FI := (iSeq (mCall (g__law_made) (mCons (mVar 4) mNil)))
noncomputable def t_law_2 : FG := (gT 3 (gsC (gN 5) (gsC (gN 6) (gsC (gN 7) gs0))))
noncomputable def b_law_2 : FS := (mSeq (mAsg (mBin addD (mComp cF_law_1 [11] ct_law_1 ci_law_1 ce_law_1) (mLst (mCons (mBin ltD (mVar 5) (mK (.int 7))) (mCons (mBin ltD (mVar 5) (mK (.int 7))) (mCons (mBin eqD (mVar 5) (mK (.int 7))) mNil))))) (gN 8))
  (mFor F_law_1 t_law_1 b_law_1))
noncomputable def F_law_3 : FI := (iRange1 (mCons (mBin addD (mK (.int 4)) (mBlt min2D (mCons (mBlt lenD (mCons (mVar 0) mNil)) (mCons (mK (.int 8)) mNil)))) mNil))
noncomputable def t_law_3 : FG := (gN 3)
noncomputable def b_law_3 : FS := (mSeq (mAsg (mIf (mTest (mBin ltD (mVar 3) (mK (.int 2)))) (mBin ixA (mVar 2) (mVar 3)) (mCall (g__law_of) (mCons (mVar 1) (mCons (mVar 2) mNil)))) (gN 4))
  (mFor F_law_2 t_law_2 b_law_2))
noncomputable def d_law : FS := (mSeq (mAsg (mCall (g__law_begun) (mCons (mVar 0) mNil)) (gN 1))
  (mSeq (mAsg (mLst (mCons (mK .non) (mCons (mK (.int 0)) (mCons (mK (.bl true)) (mCons (mUn negD (mK (.int 7))) (mCons (mBin powD (mK (.int 10)) (mK (.int 30))) (mCons (mK (.str "")) (mCons (mK (.str "own")) (mCons (mK (.str "best")) (mCons (mTup mNil) (mCons (mTup (mCons (mK (.int 1)) (mCons (mK (.str "b")) mNil))) (mCons (mTup (mCons (mTup mNil) mNil)) (mCons (mLst (mCons (mK (.int 1)) (mCons (mLst (mCons (mK (.int 2)) mNil)) mNil))) (mCons (mK (.dct [] [])) (mCons (mK (.dct [.inr "a"] [.int 1])) mNil))))))))))))))) (gN 2))
  (mSeq (mFor F_law_3 t_law_3 b_law_3)
  (mSeq (mAsg (mMk0 0 (mK (.str "any"))) (gN 10))
  (mRet (mBin eqD (mCall (g__law_marks) (mCons (mVar 10) mNil)) (mBin addD (mBin mulD (mLst (mCons (mK (.bl false)) mNil)) (mK (.int 8))) (mLst (mCons (mK (.bl true)) (mCons (mK (.bl true)) (mCons (mK (.bl false)) mNil)))))))))))
noncomputable def g_law : Fn := denOf 12 d_law
section
variable {P : Program} {w : World} {mg : Str → Option Value} {base : Heap} {Γ : Ct} {f : Addr} {fd : FuncData}
theorem ok__law_begun (n : Ns Γ mg) (F : Fun Γ.K "_law_begun" "_law_begun" s__law_begun f fd) : FnG P w mg base Γ 1 f fd ["script"] g__law_begun :=
  have S := sc__law_begun
  ok_fn (N := ["script", "great", "cell"]) (c := d__law_begun) F S fun cdv A outer s H E W hr hg tk => (mb_cons (ms_setComp (i := 1) (own := [("cell", 2)]) (g := (gName 2)) rfl S.nd rfl rfl (sw_true rfl rfl rfl (by decide +kernel)) (mi_seq rfl (me_var (pv 0))) (blkOk_by (own := [("cell", 2)]) (N := ["script", "great", "cell"]) (sc := defScope s__law_begun) (by decide +kernel)) (fun _ _ _ _ _ => pg_name (i := 2) S.nd rfl (.inl rfl)) (gw_name (by decide)) (fun _ _ _ _ _ => mts_one (mt_cmp op_ge sCmp (nomark _) (me_var (pv 2)) (me_op op_pow sPow me_int me_int))) (fun _ _ _ _ _ => (me_var (pv 2))))
  (mb_one (ms_ret (me_dctM (ps := [((mK (.str "cells")), (mBin addD (mBlt listD (mCons (mVar 0) mNil)) (mLst (mCons (mBlt lenD (mCons (mVar 0) mNil)) mNil)))), ((mK (.str "left")), (mIf (mTest (mBin neD (mVar 1) (mLst mNil))) (mBin ixA (mVar 1) (mK (.int 0))) (mK (.int 0)))), ((mK (.str "spot")), (mK (.int 0)))]) (pps_cons me_str (me_op opAdd sAdd (me_callTy call_list_of (sList rfl) (by rfl) n.n_list (by decide +kernel) (ma_cons (me_var (pv 0)) ma_nil)) (me_lst (ma_cons (me_callB call_len (sLen rfl) (by rfl) n.n_len (by decide +kernel) (ma_cons (me_var (pv 0)) ma_nil)) ma_nil))) (pps_cons me_str (me_if (mt_cmp (opNe hr.units) sNe (nomark _) (me_var (pv 1)) (me_lst ma_nil)) (me_ix rfl (hu_of hr) (me_var (pv 1)) me_int (fun _ _ => rfl) (fun _ _ => rfl)) me_int) (pps_cons me_str me_int pps_nil))) rfl rfl (by decide) (by decide)))))
theorem ok__law_draw (n : Ns Γ mg) (F : Fun Γ.K "_law_draw" "_law_draw" s__law_draw f fd) : FnG P w mg base Γ 1 f fd ["m", "many"] g__law_draw :=
  have S := sc__law_draw
  ok_fn (N := ["m", "many", "found", "spot", "cell", "mixed"]) (c := d__law_draw) F S fun cdv A outer s H E W hr hg tk => (mb_cons (ms_if (mt_cmp op_gt sCmp (nomark _) (me_ix rfl (hu_of hr) (me_var (pv 0)) me_str (fun _ _ => rfl) (fun _ _ => rfl)) me_int) (mb_cons (ms_set (i := 2) S.nd rfl (.inl rfl) (me_op op_mod sMod (me_callTy call_int1 sInt (by rfl) n.n_int (by decide +kernel) (ma_cons (me_ix rfl (hu_of hr) (me_var (pv 0)) me_str (fun _ _ => rfl) (fun _ _ => rfl)) ma_nil)) (me_var (pv 1))))
  (mb_cons (ms_dput (hu_of hr) (me_var (pv 0)) me_str (me_op op_fdiv sDiv (me_ix rfl (hu_of hr) (me_var (pv 0)) me_str (fun _ _ => rfl) (fun _ _ => rfl)) (me_var (pv 1))) (by rfl))
  (mb_one (ms_ret (me_var (pv 2)))))) mb_nil)
  (mb_cons (ms_set (i := 3) S.nd rfl (.inl rfl) (me_op opAdd sAdd (me_ix rfl (hu_of hr) (me_var (pv 0)) me_str (fun _ _ => rfl) (fun _ _ => rfl)) me_int))
  (mb_cons (ms_dput (hu_of hr) (me_var (pv 0)) me_str (me_var (pv 3)) (by rfl))
  (mb_cons (ms_set (i := 4) S.nd rfl (.inl rfl) (me_ix rfl (hu_of hr) (me_ix rfl (hu_of hr) (me_var (pv 0)) me_str (fun _ _ => rfl) (fun _ _ => rfl)) (me_op op_mod sMod (me_callTy call_int1 sInt (by rfl) n.n_int (by decide +kernel) (ma_cons (me_var (pv 3)) ma_nil)) (me_callB call_len (sLen rfl) (by rfl) n.n_len (by decide +kernel) (ma_cons (me_ix rfl (hu_of hr) (me_var (pv 0)) me_str (fun _ _ => rfl) (fun _ _ => rfl)) ma_nil))) (fun _ _ => rfl) (fun _ _ => rfl)))
  (mb_cons (ms_set (i := 5) S.nd rfl (.inl rfl) (me_op opMul sMul (me_callTy call_int1 sInt (by rfl) n.n_int (by decide +kernel) (ma_cons (me_op opAdd sAdd (me_op opAdd sAdd (me_op op_mod sMod (me_callTy call_int1 sInt (by rfl) n.n_int (by decide +kernel) (ma_cons (me_var (pv 4)) ma_nil)) me_int) (me_op opMul sMul me_int (me_var (pv 3)))) (me_op opMul sMul (me_op opMul sMul me_int (me_var (pv 3))) (me_var (pv 3)))) ma_nil)) me_int))
  (mb_cons (ms_set (i := 5) S.nd rfl (.inl rfl) (me_op opMul sMul (me_callTy call_int1 sInt (by rfl) n.n_int (by decide +kernel) (ma_cons (me_op opAdd sAdd (me_op op_mod sMod (me_callTy call_int1 sInt (by rfl) n.n_int (by decide +kernel) (ma_cons (me_var (pv 5)) ma_nil)) me_int) (me_op opMul sMul me_int (me_var (pv 3)))) ma_nil)) me_int))
  (mb_one (ms_ret (me_op op_mod sMod (me_callTy call_int1 sInt (by rfl) n.n_int (by decide +kernel) (ma_cons (me_op op_fdiv sDiv (me_op op_mod sMod (me_callTy call_int1 sInt (by rfl) n.n_int (by decide +kernel) (ma_cons (me_var (pv 5)) ma_nil)) me_int) me_int) ma_nil)) (me_var (pv 1)))))))))))
theorem ok__law_of (n : Ns Γ mg) (F : Fun Γ.K "_law_of" "_law_of" s__law_of f fd) (c__law_draw : Cal P w mg base Γ 1 "_law_draw" ["m", "many"] g__law_draw) : FnG P w mg base Γ 2 f fd ["m", "some"] g__law_of :=
  have S := sc__law_of
  ok_fn (N := ["m", "some"]) (c := d__law_of) F S fun cdv A outer s H E W hr hg tk => (mb_one (ms_ret (me_ix rfl (hu_of hr) (me_var (pv 1)) (me_cal c__law_draw rfl (hr.mono (by decide)) hg tk (by rfl) (ma_cons (me_var (pv 0)) (ma_cons (me_callB call_len (sLen rfl) (by rfl) n.n_len (by decide +kernel) (ma_cons (me_var (pv 1)) ma_nil)) ma_nil)) 2 (len_cons (len_cons len_nil)) rfl rfl) (fun _ _ => rfl) (fun _ _ => rfl))))
theorem ok__law_made (n : Ns Γ mg) (F : Fun Γ.K "_law_made" "_law_made" s__law_made f fd) (y_BadRule : XgR P w Γ.K mg base (Γ.cls 1) "BadRule" "number") (y_BadRow : XgR P w Γ.K mg base (Γ.cls 2) "BadRow" "number") (y_BadBill : XgR P w Γ.K mg base (Γ.cls 3) "BadBill" "part") (y_BadNumber : XgR P w Γ.K mg base (Γ.cls 4) "BadNumber" "value") (y_BadKind : XgR P w Γ.K mg base (Γ.cls 5) "BadKind" "value") (y_BadPaper : XgR P w Γ.K mg base (Γ.cls 6) "BadPaper" "part") (y_BadText : XgR P w Γ.K mg base (Γ.cls 7) "BadText" "line") (y_Nothing : XgR P w Γ.K mg base (Γ.cls 8) "Nothing" "value") : FnG P w mg base Γ 3 f fd ["thing"] g__law_made :=
  have S := sc__law_made
  ok_fn (N := ["thing", "found"]) (c := d__law_made) F S fun cdv A outer s H E W hr hg tk => (mb_cons (ms_set (i := 1) S.nd rfl (.inl rfl) (me_lst (ma_cons (me_tup (ma_cons me_int (ma_cons (me_mk rfl y_BadRule (hr.mono (by decide)) (by rfl) (me_var (pv 0))) (ma_cons (me_mkK rfl y_BadRule (hr.mono (by decide)) (by rfl) (me_var (pv 0))) ma_nil)))) (ma_cons (me_tup (ma_cons me_int (ma_cons (me_mk rfl y_BadRow (hr.mono (by decide)) (by rfl) (me_var (pv 0))) (ma_cons (me_mkK rfl y_BadRow (hr.mono (by decide)) (by rfl) (me_var (pv 0))) ma_nil)))) ma_nil))))
  (mb_cons (ms_set (i := 1) S.nd rfl (.inl rfl) (me_op opAdd sAdd (me_var (pv 1)) (me_lst (ma_cons (me_tup (ma_cons me_int (ma_cons (me_mk rfl y_BadBill (hr.mono (by decide)) (by rfl) (me_var (pv 0))) (ma_cons (me_mkK rfl y_BadBill (hr.mono (by decide)) (by rfl) (me_var (pv 0))) ma_nil)))) (ma_cons (me_tup (ma_cons me_int (ma_cons (me_mk rfl y_BadNumber (hr.mono (by decide)) (by rfl) (me_var (pv 0))) (ma_cons (me_mkK rfl y_BadNumber (hr.mono (by decide)) (by rfl) (me_var (pv 0))) ma_nil)))) ma_nil)))))
  (mb_cons (ms_set (i := 1) S.nd rfl (.inl rfl) (me_op opAdd sAdd (me_var (pv 1)) (me_lst (ma_cons (me_tup (ma_cons me_int (ma_cons (me_mk rfl y_BadKind (hr.mono (by decide)) (by rfl) (me_var (pv 0))) (ma_cons (me_mkK rfl y_BadKind (hr.mono (by decide)) (by rfl) (me_var (pv 0))) ma_nil)))) (ma_cons (me_tup (ma_cons me_int (ma_cons (me_mk rfl y_BadPaper (hr.mono (by decide)) (by rfl) (me_var (pv 0))) (ma_cons (me_mkK rfl y_BadPaper (hr.mono (by decide)) (by rfl) (me_var (pv 0))) ma_nil)))) ma_nil)))))
  (mb_one (ms_ret (me_op opAdd sAdd (me_var (pv 1)) (me_lst (ma_cons (me_tup (ma_cons me_int (ma_cons (me_mk rfl y_BadText (hr.mono (by decide)) (by rfl) (me_var (pv 0))) (ma_cons (me_mkK rfl y_BadText (hr.mono (by decide)) (by rfl) (me_var (pv 0))) ma_nil)))) (ma_cons (me_tup (ma_cons me_int (ma_cons (me_mk rfl y_Nothing (hr.mono (by decide)) (by rfl) (me_var (pv 0))) (ma_cons (me_mkK rfl y_Nothing (hr.mono (by decide)) (by rfl) (me_var (pv 0))) ma_nil)))) ma_nil)))))))))
theorem ok__law_marks (n : Ns Γ mg) (F : Fun Γ.K "_law_marks" "_law_marks" s__law_marks f fd) : FnG P w mg base Γ 1 f fd ["error"] g__law_marks :=
  have S := sc__law_marks
  ok_fn (N := ["error", "found"]) (c := d__law_marks) F S fun cdv A outer s H E W hr hg tk => (mb_cons (ms_set (i := 1) S.nd rfl (.inl rfl) (me_lst (ma_cons (me_callB cr_isiA (sIsiA rfl n.xi) (by rfl) n.n_isinstance (by decide +kernel) (ma_cons (me_var (pv 0)) (ma_cons (me_cls (by rfl) n.k_BadRule) ma_nil))) (ma_cons (me_callB cr_isiA (sIsiA rfl n.xi) (by rfl) n.n_isinstance (by decide +kernel) (ma_cons (me_var (pv 0)) (ma_cons (me_cls (by rfl) n.k_BadRow) ma_nil))) (ma_cons (me_callB cr_isiA (sIsiA rfl n.xi) (by rfl) n.n_isinstance (by decide +kernel) (ma_cons (me_var (pv 0)) (ma_cons (me_cls (by rfl) n.k_BadBill) ma_nil))) ma_nil)))))
  (mb_cons (ms_set (i := 1) S.nd rfl (.inl rfl) (me_op opAdd sAdd (me_var (pv 1)) (me_lst (ma_cons (me_callB cr_isiA (sIsiA rfl n.xi) (by rfl) n.n_isinstance (by decide +kernel) (ma_cons (me_var (pv 0)) (ma_cons (me_cls (by rfl) n.k_BadNumber) ma_nil))) (ma_cons (me_callB cr_isiA (sIsiA rfl n.xi) (by rfl) n.n_isinstance (by decide +kernel) (ma_cons (me_var (pv 0)) (ma_cons (me_cls (by rfl) n.k_BadKind) ma_nil))) (ma_cons (me_callB cr_isiA (sIsiA rfl n.xi) (by rfl) n.n_isinstance (by decide +kernel) (ma_cons (me_var (pv 0)) (ma_cons (me_cls (by rfl) n.k_BadPaper) ma_nil))) ma_nil))))))
  (mb_cons (ms_set (i := 1) S.nd rfl (.inl rfl) (me_op opAdd sAdd (me_var (pv 1)) (me_lst (ma_cons (me_callB cr_isiA (sIsiA rfl n.xi) (by rfl) n.n_isinstance (by decide +kernel) (ma_cons (me_var (pv 0)) (ma_cons (me_cls (by rfl) n.k_BadText) ma_nil))) (ma_cons (me_callB cr_isiA (sIsiA rfl n.xi) (by rfl) n.n_isinstance (by decide +kernel) (ma_cons (me_var (pv 0)) (ma_cons (me_cls (by rfl) n.k_Nothing) ma_nil))) ma_nil)))))
  (mb_one (ms_ret (me_op opAdd sAdd (me_var (pv 1)) (me_lst (ma_cons (me_callB cr_isiA (sIsiA rfl n.xi) (by rfl) n.n_isinstance (by decide +kernel) (ma_cons (me_var (pv 0)) (ma_cons (me_cls (by rfl) n.k_ResultError) ma_nil))) (ma_cons (me_callB cr_isiA (sIsiA rfl n.xi) (by rfl) n.n_isinstance (by decide +kernel) (ma_cons (me_var (pv 0)) (ma_cons (me_ty (by rfl) n.n_ValueError (by decide +kernel)) ma_nil))) (ma_cons (me_callB cr_isiA (sIsiA rfl n.xi) (by rfl) n.n_isinstance (by decide +kernel) (ma_cons (me_var (pv 0)) (ma_cons (me_ty (by rfl) n.n_LookupError (by decide +kernel)) ma_nil))) ma_nil))))))))))
theorem ok__law_kept (n : Ns Γ mg) (F : Fun Γ.K "_law_kept" "_law_kept" s__law_kept f fd) : FnG P w mg base Γ 1 f fd ["place", "error"] g__law_kept :=
  have S := sc__law_kept
  ok_fn (N := ["place", "error"]) (c := d__law_kept) F S fun cdv A outer s H E W hr hg tk => (mb_cons (ms_if (mt_cmp op_lt sCmp (nomark _) (me_var (pv 0)) me_int) (mb_one (ms_ret (me_fld rfl n.xi n.f_number (me_var (pv 1))))) mb_nil)
  (mb_cons (ms_if (mt_cmp op_in_seq (sInQ rfl) (by rfl) (me_var (pv 0)) (me_tup (ma_cons me_int (ma_cons me_int ma_nil)))) (mb_one (ms_ret (me_fld rfl n.xi n.f_part (me_var (pv 1))))) mb_nil)
  (mb_one (ms_ret (me_if (mt_cmp (opEq hr.units) sEq (nomark _) (me_var (pv 0)) me_int) (me_fld rfl n.xi n.f_line (me_var (pv 1))) (me_fld rfl n.xi n.f_value (me_var (pv 1))))))))
theorem ok_law (n : Ns Γ mg) (F : Fun Γ.K "law" "law" s_law f fd) (q_ResultError : PySem.W.excIn Γ.K (Γ.cls 0) PySem.HandSPX.veTail "ValueError.__new__" = true) (kk_ResultError : PySem.W.keepIn Γ.K (.ref (Γ.cls 0)) = true) (c__law_begun : Cal P w mg base Γ 1 "_law_begun" ["script"] g__law_begun) (c__law_of : Cal P w mg base Γ 2 "_law_of" ["m", "some"] g__law_of) (c__law_made : Cal P w mg base Γ 3 "_law_made" ["thing"] g__law_made) (c__law_marks : Cal P w mg base Γ 1 "_law_marks" ["error"] g__law_marks) (c__law_kept : Cal P w mg base Γ 1 "_law_kept" ["place", "error"] g__law_kept) : FnG P w mg base Γ 4 f fd ["script"] g_law :=
  have S := sc_law
  ok_fn (N := ["script", "m", "things", "lap", "thing", "place", "one", "other", "due", "error", "base", "spot"]) (c := d_law) F S fun cdv A outer s H E W hr hg tk => (mb_cons (ms_set (i := 1) S.nd rfl (.inl rfl) (me_cal c__law_begun rfl (hr.mono (by decide)) hg tk (by rfl) (ma_cons (me_var (pv 0)) ma_nil) 1 (len_cons len_nil) rfl rfl))
  (mb_cons (ms_set (i := 2) S.nd rfl (.inl rfl) (me_lst (ma_cons me_non (ma_cons me_int (ma_cons me_bl (ma_cons (me_un un_neg sNeg me_int) (ma_cons (me_op op_pow sPow me_int me_int) (ma_cons me_str (ma_cons me_str (ma_cons me_str (ma_cons (me_tup ma_nil) (ma_cons (me_tup (ma_cons me_int (ma_cons me_str ma_nil))) (ma_cons (me_tup (ma_cons (me_tup ma_nil) ma_nil)) (ma_cons (me_lst (ma_cons me_int (ma_cons (me_lst (ma_cons me_int ma_nil)) ma_nil))) (ma_cons me_dct0 (ma_cons me_dct1 ma_nil))))))))))))))))
  (mb_cons (ms_for (passes_of rfl) rfl (mi_range1 (by rfl) n.n_range (ma_cons (me_op opAdd sAdd me_int (me_callB (call_min2 rfl) sMin2 (by rfl) n.n_min (by decide +kernel) (ma_cons (me_callB call_len (sLen rfl) (by rfl) n.n_len (by decide +kernel) (ma_cons (me_var (pv 0)) ma_nil)) (ma_cons me_int ma_nil)))) ma_nil)) (mg_name (pg_name (i := 3) S.nd rfl (.inl rfl))) (mb_cons (ms_set (i := 4) S.nd rfl (.inl rfl) (me_if (mt_cmp op_lt sCmp (nomark _) (me_var (pv 3)) me_int) (me_ix rfl (hu_of hr) (me_var (pv 2)) (me_var (pv 3)) (fun _ _ => rfl) (fun _ _ => rfl)) (me_cal c__law_of rfl (hr.mono (by decide)) hg tk (by rfl) (ma_cons (me_var (pv 1)) (ma_cons (me_var (pv 2)) ma_nil)) 2 (len_cons (len_cons len_nil)) rfl rfl)))
  (mb_one (ms_for (passes_of rfl) rfl (mi_seq rfl (me_cal c__law_made rfl (hr.mono (by decide)) hg tk (by rfl) (ma_cons (me_var (pv 4)) ma_nil) 1 (len_cons len_nil) rfl rfl)) (mg_tup' rfl rfl (mgs_cons' (mg_name (pg_name (i := 5) S.nd rfl (.inr rfl))) (mgs_cons' (mg_name (pg_name (i := 6) S.nd rfl (.inl rfl))) (mgs_cons' (mg_name (pg_name (i := 7) S.nd rfl (.inl rfl))) mgs_nil)))) (mb_cons (ms_set (i := 8) S.nd rfl (.inl rfl) (me_op opAdd sAdd (me_comp (own := [("spot", 11)]) (g := (gName 11)) rfl S.nd (mi_range1 (by rfl) n.n_range (ma_cons me_int ma_nil)) (blkOk_by (own := [("spot", 11)]) (N := ["script", "m", "things", "lap", "thing", "place", "one", "other", "due", "error", "base", "spot"]) (sc := defScope s_law) (by decide +kernel)) (fun _ _ _ _ _ => pg_name (i := 11) S.nd rfl (.inl rfl)) (gw_name (by decide)) (fun _ _ _ _ _ => mts_nil) (fun _ _ _ _ _ => (me_cmp (opEq hr.units) sEq (nomark _) (me_var (pv 11)) (me_var (pv 5))))) (me_lst (ma_cons (me_cmp op_lt sCmp (nomark _) (me_var (pv 5)) me_int) (ma_cons (me_cmp op_lt sCmp (nomark _) (me_var (pv 5)) me_int) (ma_cons (me_cmp (opEq hr.units) sEq (nomark _) (me_var (pv 5)) me_int) ma_nil))))))
  (mb_one (ms_for (passes_of rfl) rfl (mi_seq rfl (me_tup (ma_cons (me_var (pv 6)) (ma_cons (me_var (pv 7)) ma_nil)))) (mg_name (pg_name (i := 9) S.nd rfl (.inl rfl))) (mb_one (ms_if (mt_w (mw_or (mt_cmp (opNe hr.units) sNe (nomark _) (me_cal c__law_marks rfl (hr.mono (by decide)) hg tk (by rfl) (ma_cons (me_var (pv 9)) ma_nil) 1 (len_cons len_nil) rfl rfl) (me_var (pv 8))) (mw_or1 (mt_cmp (opNe hr.units) sNe (nomark _) (me_callB (cr_reprB hg hr.units) (sReprB rfl) (by rfl) n.n_repr (by decide +kernel) (ma_cons (me_cal c__law_kept rfl (hr.mono (by decide)) hg tk (by rfl) (ma_cons (me_var (pv 5)) (ma_cons (me_var (pv 9)) ma_nil)) 2 (len_cons (len_cons len_nil)) rfl rfl) ma_nil)) (me_callB (cr_reprB hg hr.units) (sReprB rfl) (by rfl) n.n_repr (by decide +kernel) (ma_cons (me_var (pv 4)) ma_nil)))))) (mb_one (ms_ret me_bl)) mb_nil)))))))))
  (mb_cons (ms_set (i := 10) S.nd rfl (.inl rfl) (me_mk0 PySem.F.excBase_ValueError q_ResultError n.k_ResultError kk_ResultError (by rfl) me_str))
  (mb_one (ms_ret (me_cmp (opEq hr.units) sEq (nomark _) (me_cal c__law_marks rfl (hr.mono (by decide)) hg tk (by rfl) (ma_cons (me_var (pv 10)) ma_nil) 1 (len_cons len_nil) rfl rfl) (me_op opAdd sAdd (me_op opMul sMul (me_lst (ma_cons me_bl ma_nil)) me_int) (me_lst (ma_cons me_bl (ma_cons me_bl (ma_cons me_bl ma_nil))))))))))))
end
theorem all_mk {l : PySem.W.OpenLaw} {w : World} {K : PySem.W.Frag} {h : Heap} {mg : Str → Option Value} {fa : Addr} (X : K.In h) (G : h.Ns mainGlobals mg) (hfa : mg "law" = some (.ref fa))
    {cc0 cc1 cc2 cc3 cc4 cc5 cc6 cc7 cc8 : Addr}
    {f0 : Addr} {od0 an0 : Option Addr} {sl0 : Array (Option Value)} {oc0 kV0 dc0 pm0 cd0 ct0 : Value}
    {f1 : Addr} {od1 an1 : Option Addr} {sl1 : Array (Option Value)} {oc1 kV1 dc1 pm1 cd1 ct1 : Value}
    {f2 : Addr} {od2 an2 : Option Addr} {sl2 : Array (Option Value)} {oc2 kV2 dc2 pm2 cd2 ct2 : Value}
    {f3 : Addr} {od3 an3 : Option Addr} {sl3 : Array (Option Value)} {oc3 kV3 dc3 pm3 cd3 ct3 : Value}
    {f4 : Addr} {od4 an4 : Option Addr} {sl4 : Array (Option Value)} {oc4 kV4 dc4 pm4 cd4 ct4 : Value}
    {f5 : Addr} {od5 an5 : Option Addr} {sl5 : Array (Option Value)} {oc5 kV5 dc5 pm5 cd5 ct5 : Value}
    {f6 : Addr} {od6 an6 : Option Addr} {sl6 : Array (Option Value)} {oc6 kV6 dc6 pm6 cd6 ct6 : Value}
    {nm1 qn1 : Str} {N1 : Addr} {bs1 bm1 sb1 : List Value} {sn1 : List Str} {ab1 : Bool} {col1 : Option Bool} {dd1 : Option Addr} {ma1 mb1 mc1 md1 me1 : Option Value} {fI1 : Addr} {odI1 anI1 : Option Addr} {slI1 : Array (Option Value)} {ocI1 kVI1 dcI1 pmI1 cdI1 ctI1 : Value}
    {nm2 qn2 : Str} {N2 : Addr} {bs2 bm2 sb2 : List Value} {sn2 : List Str} {ab2 : Bool} {col2 : Option Bool} {dd2 : Option Addr} {ma2 mb2 mc2 md2 me2 : Option Value} {fI2 : Addr} {odI2 anI2 : Option Addr} {slI2 : Array (Option Value)} {ocI2 kVI2 dcI2 pmI2 cdI2 ctI2 : Value}
    {nm3 qn3 : Str} {N3 : Addr} {bs3 bm3 sb3 : List Value} {sn3 : List Str} {ab3 : Bool} {col3 : Option Bool} {dd3 : Option Addr} {ma3 mb3 mc3 md3 me3 : Option Value} {fI3 : Addr} {odI3 anI3 : Option Addr} {slI3 : Array (Option Value)} {ocI3 kVI3 dcI3 pmI3 cdI3 ctI3 : Value}
    {nm4 qn4 : Str} {N4 : Addr} {bs4 bm4 sb4 : List Value} {sn4 : List Str} {ab4 : Bool} {col4 : Option Bool} {dd4 : Option Addr} {ma4 mb4 mc4 md4 me4 : Option Value} {fI4 : Addr} {odI4 anI4 : Option Addr} {slI4 : Array (Option Value)} {ocI4 kVI4 dcI4 pmI4 cdI4 ctI4 : Value}
    {nm5 qn5 : Str} {N5 : Addr} {bs5 bm5 sb5 : List Value} {sn5 : List Str} {ab5 : Bool} {col5 : Option Bool} {dd5 : Option Addr} {ma5 mb5 mc5 md5 me5 : Option Value} {fI5 : Addr} {odI5 anI5 : Option Addr} {slI5 : Array (Option Value)} {ocI5 kVI5 dcI5 pmI5 cdI5 ctI5 : Value}
    {nm6 qn6 : Str} {N6 : Addr} {bs6 bm6 sb6 : List Value} {sn6 : List Str} {ab6 : Bool} {col6 : Option Bool} {dd6 : Option Addr} {ma6 mb6 mc6 md6 me6 : Option Value} {fI6 : Addr} {odI6 anI6 : Option Addr} {slI6 : Array (Option Value)} {ocI6 kVI6 dcI6 pmI6 cdI6 ctI6 : Value}
    {nm7 qn7 : Str} {N7 : Addr} {bs7 bm7 sb7 : List Value} {sn7 : List Str} {ab7 : Bool} {col7 : Option Bool} {dd7 : Option Addr} {ma7 mb7 mc7 md7 me7 : Option Value} {fI7 : Addr} {odI7 anI7 : Option Addr} {slI7 : Array (Option Value)} {ocI7 kVI7 dcI7 pmI7 cdI7 ctI7 : Value}
    {nm8 qn8 : Str} {N8 : Addr} {bs8 bm8 sb8 : List Value} {sn8 : List Str} {ab8 : Bool} {col8 : Option Bool} {dd8 : Option Addr} {ma8 mb8 mc8 md8 me8 : Option Value} {fI8 : Addr} {odI8 anI8 : Option Addr} {slI8 : Array (Option Value)} {ocI8 kVI8 dcI8 pmI8 cdI8 ctI8 : Value}
    (a0 : PySem.W.nsIn K mainGlobals "_law_begun" = some (some (.ref f0)))
    (l0 : K.lookup f0 = some ⟨oc0, od0, .func (PySem.W.fnOf "_law_begun" "_law_begun" (defArgs s__law_begun) (defBody s__law_begun) (defScope s__law_begun) .none kV0 dc0 pm0 an0 cd0 ct0), sl0⟩)
    (c0 : PySem.W.codeIn K cd0 "_law_begun" = true)
    (k0 : PySem.W.keepIn K (.ref f0) = true)
    (a1 : PySem.W.nsIn K mainGlobals "_law_draw" = some (some (.ref f1)))
    (l1 : K.lookup f1 = some ⟨oc1, od1, .func (PySem.W.fnOf "_law_draw" "_law_draw" (defArgs s__law_draw) (defBody s__law_draw) (defScope s__law_draw) .none kV1 dc1 pm1 an1 cd1 ct1), sl1⟩)
    (c1 : PySem.W.codeIn K cd1 "_law_draw" = true)
    (k1 : PySem.W.keepIn K (.ref f1) = true)
    (a2 : PySem.W.nsIn K mainGlobals "_law_of" = some (some (.ref f2)))
    (l2 : K.lookup f2 = some ⟨oc2, od2, .func (PySem.W.fnOf "_law_of" "_law_of" (defArgs s__law_of) (defBody s__law_of) (defScope s__law_of) .none kV2 dc2 pm2 an2 cd2 ct2), sl2⟩)
    (c2 : PySem.W.codeIn K cd2 "_law_of" = true)
    (k2 : PySem.W.keepIn K (.ref f2) = true)
    (a3 : PySem.W.nsIn K mainGlobals "_law_made" = some (some (.ref f3)))
    (l3 : K.lookup f3 = some ⟨oc3, od3, .func (PySem.W.fnOf "_law_made" "_law_made" (defArgs s__law_made) (defBody s__law_made) (defScope s__law_made) .none kV3 dc3 pm3 an3 cd3 ct3), sl3⟩)
    (c3 : PySem.W.codeIn K cd3 "_law_made" = true)
    (k3 : PySem.W.keepIn K (.ref f3) = true)
    (a4 : PySem.W.nsIn K mainGlobals "_law_marks" = some (some (.ref f4)))
    (l4 : K.lookup f4 = some ⟨oc4, od4, .func (PySem.W.fnOf "_law_marks" "_law_marks" (defArgs s__law_marks) (defBody s__law_marks) (defScope s__law_marks) .none kV4 dc4 pm4 an4 cd4 ct4), sl4⟩)
    (c4 : PySem.W.codeIn K cd4 "_law_marks" = true)
    (k4 : PySem.W.keepIn K (.ref f4) = true)
    (a5 : PySem.W.nsIn K mainGlobals "_law_kept" = some (some (.ref f5)))
    (l5 : K.lookup f5 = some ⟨oc5, od5, .func (PySem.W.fnOf "_law_kept" "_law_kept" (defArgs s__law_kept) (defBody s__law_kept) (defScope s__law_kept) .none kV5 dc5 pm5 an5 cd5 ct5), sl5⟩)
    (c5 : PySem.W.codeIn K cd5 "_law_kept" = true)
    (k5 : PySem.W.keepIn K (.ref f5) = true)
    (a6 : PySem.W.nsIn K mainGlobals "law" = some (some (.ref f6)))
    (l6 : K.lookup f6 = some ⟨oc6, od6, .func (PySem.W.fnOf "law" "law" (defArgs s_law) (defBody s_law) (defScope s_law) .none kV6 dc6 pm6 an6 cd6 ct6), sl6⟩)
    (c6 : PySem.W.codeIn K cd6 "law" = true)
    (k6 : PySem.W.keepIn K (.ref f6) = true)
    (z0 : PySem.W.nsIn K mainGlobals "LookupError" = some none)
    (z1 : PySem.W.nsIn K mainGlobals "ValueError" = some none)
    (z2 : PySem.W.nsIn K mainGlobals "int" = some none)
    (z3 : PySem.W.nsIn K mainGlobals "isinstance" = some none)
    (z4 : PySem.W.nsIn K mainGlobals "len" = some none)
    (z5 : PySem.W.nsIn K mainGlobals "list" = some none)
    (z6 : PySem.W.nsIn K mainGlobals "min" = some none)
    (z7 : PySem.W.nsIn K mainGlobals "range" = some none)
    (z8 : PySem.W.nsIn K mainGlobals "repr" = some none)
    (ka0 : PySem.W.nsIn K mainGlobals "ResultError" = some (some (.ref cc0)))
    (ka1 : PySem.W.nsIn K mainGlobals "BadRule" = some (some (.ref cc1)))
    (ka2 : PySem.W.nsIn K mainGlobals "BadRow" = some (some (.ref cc2)))
    (ka3 : PySem.W.nsIn K mainGlobals "BadBill" = some (some (.ref cc3)))
    (ka4 : PySem.W.nsIn K mainGlobals "BadNumber" = some (some (.ref cc4)))
    (ka5 : PySem.W.nsIn K mainGlobals "BadKind" = some (some (.ref cc5)))
    (ka6 : PySem.W.nsIn K mainGlobals "BadPaper" = some (some (.ref cc6)))
    (ka7 : PySem.W.nsIn K mainGlobals "BadText" = some (some (.ref cc7)))
    (ka8 : PySem.W.nsIn K mainGlobals "Nothing" = some (some (.ref cc8)))
    (kg0 : PySem.W.findIn K (.ref cc0) "__getattribute__" = some (some (.builtin "BaseException.__getattribute__")))
    (kk0 : PySem.W.findIn K (.ref cc0) "__getattr__" = some none)
    (ks0 : PySem.W.subIn K (.ref cc0) (.type "BaseException") = some true)
    (kd0 : PySem.W.hasDictIn K cc0 = true)
    (kc0 : PySem.W.findIn K (.ref cc0) "__class__" = some (some (.builtin "object.__class__")))
    (km0 : PySem.W.mroIn K cc0 (.type "object") = some true)
    (ki0 : PySem.W.isClsIn K cc0 = true)
    (ky0 : PySem.W.typeIn K (.ref cc0) = some (.type "type"))
    (kv0 : PySem.W.subIn K (.ref cc0) (.type "ValueError") = some true)
    (kw0 : PySem.W.subIn K (.ref cc0) (.type "LookupError") = some false)
    (kf0_line : PySem.W.findIn K (.ref cc0) "line" = some none)
    (kf0_number : PySem.W.findIn K (.ref cc0) "number" = some none)
    (kf0_part : PySem.W.findIn K (.ref cc0) "part" = some none)
    (kf0_value : PySem.W.findIn K (.ref cc0) "value" = some none)
    (s0_0 : PySem.W.subIn K (.ref cc0) (.ref cc0) = some true)
    (s0_1 : PySem.W.subIn K (.ref cc0) (.ref cc1) = some false)
    (s0_2 : PySem.W.subIn K (.ref cc0) (.ref cc2) = some false)
    (s0_3 : PySem.W.subIn K (.ref cc0) (.ref cc3) = some false)
    (s0_4 : PySem.W.subIn K (.ref cc0) (.ref cc4) = some false)
    (s0_5 : PySem.W.subIn K (.ref cc0) (.ref cc5) = some false)
    (s0_6 : PySem.W.subIn K (.ref cc0) (.ref cc6) = some false)
    (s0_7 : PySem.W.subIn K (.ref cc0) (.ref cc7) = some false)
    (s0_8 : PySem.W.subIn K (.ref cc0) (.ref cc8) = some false)
    (kg1 : PySem.W.findIn K (.ref cc1) "__getattribute__" = some (some (.builtin "BaseException.__getattribute__")))
    (kk1 : PySem.W.findIn K (.ref cc1) "__getattr__" = some none)
    (ks1 : PySem.W.subIn K (.ref cc1) (.type "BaseException") = some true)
    (kd1 : PySem.W.hasDictIn K cc1 = true)
    (kc1 : PySem.W.findIn K (.ref cc1) "__class__" = some (some (.builtin "object.__class__")))
    (km1 : PySem.W.mroIn K cc1 (.type "object") = some true)
    (ki1 : PySem.W.isClsIn K cc1 = true)
    (ky1 : PySem.W.typeIn K (.ref cc1) = some (.type "type"))
    (kv1 : PySem.W.subIn K (.ref cc1) (.type "ValueError") = some true)
    (kw1 : PySem.W.subIn K (.ref cc1) (.type "LookupError") = some false)
    (kf1_line : PySem.W.findIn K (.ref cc1) "line" = some none)
    (kf1_number : PySem.W.findIn K (.ref cc1) "number" = some none)
    (kf1_part : PySem.W.findIn K (.ref cc1) "part" = some none)
    (kf1_value : PySem.W.findIn K (.ref cc1) "value" = some none)
    (s1_0 : PySem.W.subIn K (.ref cc1) (.ref cc0) = some true)
    (s1_1 : PySem.W.subIn K (.ref cc1) (.ref cc1) = some true)
    (s1_2 : PySem.W.subIn K (.ref cc1) (.ref cc2) = some false)
    (s1_3 : PySem.W.subIn K (.ref cc1) (.ref cc3) = some false)
    (s1_4 : PySem.W.subIn K (.ref cc1) (.ref cc4) = some false)
    (s1_5 : PySem.W.subIn K (.ref cc1) (.ref cc5) = some false)
    (s1_6 : PySem.W.subIn K (.ref cc1) (.ref cc6) = some false)
    (s1_7 : PySem.W.subIn K (.ref cc1) (.ref cc7) = some false)
    (s1_8 : PySem.W.subIn K (.ref cc1) (.ref cc8) = some false)
    (kg2 : PySem.W.findIn K (.ref cc2) "__getattribute__" = some (some (.builtin "BaseException.__getattribute__")))
    (kk2 : PySem.W.findIn K (.ref cc2) "__getattr__" = some none)
    (ks2 : PySem.W.subIn K (.ref cc2) (.type "BaseException") = some true)
    (kd2 : PySem.W.hasDictIn K cc2 = true)
    (kc2 : PySem.W.findIn K (.ref cc2) "__class__" = some (some (.builtin "object.__class__")))
    (km2 : PySem.W.mroIn K cc2 (.type "object") = some true)
    (ki2 : PySem.W.isClsIn K cc2 = true)
    (ky2 : PySem.W.typeIn K (.ref cc2) = some (.type "type"))
    (kv2 : PySem.W.subIn K (.ref cc2) (.type "ValueError") = some true)
    (kw2 : PySem.W.subIn K (.ref cc2) (.type "LookupError") = some false)
    (kf2_line : PySem.W.findIn K (.ref cc2) "line" = some none)
    (kf2_number : PySem.W.findIn K (.ref cc2) "number" = some none)
    (kf2_part : PySem.W.findIn K (.ref cc2) "part" = some none)
    (kf2_value : PySem.W.findIn K (.ref cc2) "value" = some none)
    (s2_0 : PySem.W.subIn K (.ref cc2) (.ref cc0) = some true)
    (s2_1 : PySem.W.subIn K (.ref cc2) (.ref cc1) = some false)
    (s2_2 : PySem.W.subIn K (.ref cc2) (.ref cc2) = some true)
    (s2_3 : PySem.W.subIn K (.ref cc2) (.ref cc3) = some false)
    (s2_4 : PySem.W.subIn K (.ref cc2) (.ref cc4) = some false)
    (s2_5 : PySem.W.subIn K (.ref cc2) (.ref cc5) = some false)
    (s2_6 : PySem.W.subIn K (.ref cc2) (.ref cc6) = some false)
    (s2_7 : PySem.W.subIn K (.ref cc2) (.ref cc7) = some false)
    (s2_8 : PySem.W.subIn K (.ref cc2) (.ref cc8) = some false)
    (kg3 : PySem.W.findIn K (.ref cc3) "__getattribute__" = some (some (.builtin "BaseException.__getattribute__")))
    (kk3 : PySem.W.findIn K (.ref cc3) "__getattr__" = some none)
    (ks3 : PySem.W.subIn K (.ref cc3) (.type "BaseException") = some true)
    (kd3 : PySem.W.hasDictIn K cc3 = true)
    (kc3 : PySem.W.findIn K (.ref cc3) "__class__" = some (some (.builtin "object.__class__")))
    (km3 : PySem.W.mroIn K cc3 (.type "object") = some true)
    (ki3 : PySem.W.isClsIn K cc3 = true)
    (ky3 : PySem.W.typeIn K (.ref cc3) = some (.type "type"))
    (kv3 : PySem.W.subIn K (.ref cc3) (.type "ValueError") = some true)
    (kw3 : PySem.W.subIn K (.ref cc3) (.type "LookupError") = some false)
    (kf3_line : PySem.W.findIn K (.ref cc3) "line" = some none)
    (kf3_number : PySem.W.findIn K (.ref cc3) "number" = some none)
    (kf3_part : PySem.W.findIn K (.ref cc3) "part" = some none)
    (kf3_value : PySem.W.findIn K (.ref cc3) "value" = some none)
    (s3_0 : PySem.W.subIn K (.ref cc3) (.ref cc0) = some true)
    (s3_1 : PySem.W.subIn K (.ref cc3) (.ref cc1) = some false)
    (s3_2 : PySem.W.subIn K (.ref cc3) (.ref cc2) = some false)
    (s3_3 : PySem.W.subIn K (.ref cc3) (.ref cc3) = some true)
    (s3_4 : PySem.W.subIn K (.ref cc3) (.ref cc4) = some false)
    (s3_5 : PySem.W.subIn K (.ref cc3) (.ref cc5) = some false)
    (s3_6 : PySem.W.subIn K (.ref cc3) (.ref cc6) = some false)
    (s3_7 : PySem.W.subIn K (.ref cc3) (.ref cc7) = some false)
    (s3_8 : PySem.W.subIn K (.ref cc3) (.ref cc8) = some false)
    (kg4 : PySem.W.findIn K (.ref cc4) "__getattribute__" = some (some (.builtin "BaseException.__getattribute__")))
    (kk4 : PySem.W.findIn K (.ref cc4) "__getattr__" = some none)
    (ks4 : PySem.W.subIn K (.ref cc4) (.type "BaseException") = some true)
    (kd4 : PySem.W.hasDictIn K cc4 = true)
    (kc4 : PySem.W.findIn K (.ref cc4) "__class__" = some (some (.builtin "object.__class__")))
    (km4 : PySem.W.mroIn K cc4 (.type "object") = some true)
    (ki4 : PySem.W.isClsIn K cc4 = true)
    (ky4 : PySem.W.typeIn K (.ref cc4) = some (.type "type"))
    (kv4 : PySem.W.subIn K (.ref cc4) (.type "ValueError") = some true)
    (kw4 : PySem.W.subIn K (.ref cc4) (.type "LookupError") = some false)
    (kf4_line : PySem.W.findIn K (.ref cc4) "line" = some none)
    (kf4_number : PySem.W.findIn K (.ref cc4) "number" = some none)
    (kf4_part : PySem.W.findIn K (.ref cc4) "part" = some none)
    (kf4_value : PySem.W.findIn K (.ref cc4) "value" = some none)
    (s4_0 : PySem.W.subIn K (.ref cc4) (.ref cc0) = some true)
    (s4_1 : PySem.W.subIn K (.ref cc4) (.ref cc1) = some false)
    (s4_2 : PySem.W.subIn K (.ref cc4) (.ref cc2) = some false)
    (s4_3 : PySem.W.subIn K (.ref cc4) (.ref cc3) = some false)
    (s4_4 : PySem.W.subIn K (.ref cc4) (.ref cc4) = some true)
    (s4_5 : PySem.W.subIn K (.ref cc4) (.ref cc5) = some false)
    (s4_6 : PySem.W.subIn K (.ref cc4) (.ref cc6) = some false)
    (s4_7 : PySem.W.subIn K (.ref cc4) (.ref cc7) = some false)
    (s4_8 : PySem.W.subIn K (.ref cc4) (.ref cc8) = some false)
    (kg5 : PySem.W.findIn K (.ref cc5) "__getattribute__" = some (some (.builtin "BaseException.__getattribute__")))
    (kk5 : PySem.W.findIn K (.ref cc5) "__getattr__" = some none)
    (ks5 : PySem.W.subIn K (.ref cc5) (.type "BaseException") = some true)
    (kd5 : PySem.W.hasDictIn K cc5 = true)
    (kc5 : PySem.W.findIn K (.ref cc5) "__class__" = some (some (.builtin "object.__class__")))
    (km5 : PySem.W.mroIn K cc5 (.type "object") = some true)
    (ki5 : PySem.W.isClsIn K cc5 = true)
    (ky5 : PySem.W.typeIn K (.ref cc5) = some (.type "type"))
    (kv5 : PySem.W.subIn K (.ref cc5) (.type "ValueError") = some true)
    (kw5 : PySem.W.subIn K (.ref cc5) (.type "LookupError") = some false)
    (kf5_line : PySem.W.findIn K (.ref cc5) "line" = some none)
    (kf5_number : PySem.W.findIn K (.ref cc5) "number" = some none)
    (kf5_part : PySem.W.findIn K (.ref cc5) "part" = some none)
    (kf5_value : PySem.W.findIn K (.ref cc5) "value" = some none)
    (s5_0 : PySem.W.subIn K (.ref cc5) (.ref cc0) = some true)
    (s5_1 : PySem.W.subIn K (.ref cc5) (.ref cc1) = some false)
    (s5_2 : PySem.W.subIn K (.ref cc5) (.ref cc2) = some false)
    (s5_3 : PySem.W.subIn K (.ref cc5) (.ref cc3) = some false)
    (s5_4 : PySem.W.subIn K (.ref cc5) (.ref cc4) = some false)
    (s5_5 : PySem.W.subIn K (.ref cc5) (.ref cc5) = some true)
    (s5_6 : PySem.W.subIn K (.ref cc5) (.ref cc6) = some false)
    (s5_7 : PySem.W.subIn K (.ref cc5) (.ref cc7) = some false)
    (s5_8 : PySem.W.subIn K (.ref cc5) (.ref cc8) = some false)
    (kg6 : PySem.W.findIn K (.ref cc6) "__getattribute__" = some (some (.builtin "BaseException.__getattribute__")))
    (kk6 : PySem.W.findIn K (.ref cc6) "__getattr__" = some none)
    (ks6 : PySem.W.subIn K (.ref cc6) (.type "BaseException") = some true)
    (kd6 : PySem.W.hasDictIn K cc6 = true)
    (kc6 : PySem.W.findIn K (.ref cc6) "__class__" = some (some (.builtin "object.__class__")))
    (km6 : PySem.W.mroIn K cc6 (.type "object") = some true)
    (ki6 : PySem.W.isClsIn K cc6 = true)
    (ky6 : PySem.W.typeIn K (.ref cc6) = some (.type "type"))
    (kv6 : PySem.W.subIn K (.ref cc6) (.type "ValueError") = some true)
    (kw6 : PySem.W.subIn K (.ref cc6) (.type "LookupError") = some false)
    (kf6_line : PySem.W.findIn K (.ref cc6) "line" = some none)
    (kf6_number : PySem.W.findIn K (.ref cc6) "number" = some none)
    (kf6_part : PySem.W.findIn K (.ref cc6) "part" = some none)
    (kf6_value : PySem.W.findIn K (.ref cc6) "value" = some none)
    (s6_0 : PySem.W.subIn K (.ref cc6) (.ref cc0) = some true)
    (s6_1 : PySem.W.subIn K (.ref cc6) (.ref cc1) = some false)
    (s6_2 : PySem.W.subIn K (.ref cc6) (.ref cc2) = some false)
    (s6_3 : PySem.W.subIn K (.ref cc6) (.ref cc3) = some false)
    (s6_4 : PySem.W.subIn K (.ref cc6) (.ref cc4) = some false)
    (s6_5 : PySem.W.subIn K (.ref cc6) (.ref cc5) = some false)
    (s6_6 : PySem.W.subIn K (.ref cc6) (.ref cc6) = some true)
    (s6_7 : PySem.W.subIn K (.ref cc6) (.ref cc7) = some false)
    (s6_8 : PySem.W.subIn K (.ref cc6) (.ref cc8) = some false)
    (kg7 : PySem.W.findIn K (.ref cc7) "__getattribute__" = some (some (.builtin "BaseException.__getattribute__")))
    (kk7 : PySem.W.findIn K (.ref cc7) "__getattr__" = some none)
    (ks7 : PySem.W.subIn K (.ref cc7) (.type "BaseException") = some true)
    (kd7 : PySem.W.hasDictIn K cc7 = true)
    (kc7 : PySem.W.findIn K (.ref cc7) "__class__" = some (some (.builtin "object.__class__")))
    (km7 : PySem.W.mroIn K cc7 (.type "object") = some true)
    (ki7 : PySem.W.isClsIn K cc7 = true)
    (ky7 : PySem.W.typeIn K (.ref cc7) = some (.type "type"))
    (kv7 : PySem.W.subIn K (.ref cc7) (.type "ValueError") = some true)
    (kw7 : PySem.W.subIn K (.ref cc7) (.type "LookupError") = some false)
    (kf7_line : PySem.W.findIn K (.ref cc7) "line" = some none)
    (kf7_number : PySem.W.findIn K (.ref cc7) "number" = some none)
    (kf7_part : PySem.W.findIn K (.ref cc7) "part" = some none)
    (kf7_value : PySem.W.findIn K (.ref cc7) "value" = some none)
    (s7_0 : PySem.W.subIn K (.ref cc7) (.ref cc0) = some true)
    (s7_1 : PySem.W.subIn K (.ref cc7) (.ref cc1) = some false)
    (s7_2 : PySem.W.subIn K (.ref cc7) (.ref cc2) = some false)
    (s7_3 : PySem.W.subIn K (.ref cc7) (.ref cc3) = some false)
    (s7_4 : PySem.W.subIn K (.ref cc7) (.ref cc4) = some false)
    (s7_5 : PySem.W.subIn K (.ref cc7) (.ref cc5) = some false)
    (s7_6 : PySem.W.subIn K (.ref cc7) (.ref cc6) = some false)
    (s7_7 : PySem.W.subIn K (.ref cc7) (.ref cc7) = some true)
    (s7_8 : PySem.W.subIn K (.ref cc7) (.ref cc8) = some false)
    (kg8 : PySem.W.findIn K (.ref cc8) "__getattribute__" = some (some (.builtin "BaseException.__getattribute__")))
    (kk8 : PySem.W.findIn K (.ref cc8) "__getattr__" = some none)
    (ks8 : PySem.W.subIn K (.ref cc8) (.type "BaseException") = some true)
    (kd8 : PySem.W.hasDictIn K cc8 = true)
    (kc8 : PySem.W.findIn K (.ref cc8) "__class__" = some (some (.builtin "object.__class__")))
    (km8 : PySem.W.mroIn K cc8 (.type "object") = some true)
    (ki8 : PySem.W.isClsIn K cc8 = true)
    (ky8 : PySem.W.typeIn K (.ref cc8) = some (.type "type"))
    (kv8 : PySem.W.subIn K (.ref cc8) (.type "ValueError") = some false)
    (kw8 : PySem.W.subIn K (.ref cc8) (.type "LookupError") = some true)
    (kf8_line : PySem.W.findIn K (.ref cc8) "line" = some none)
    (kf8_number : PySem.W.findIn K (.ref cc8) "number" = some none)
    (kf8_part : PySem.W.findIn K (.ref cc8) "part" = some none)
    (kf8_value : PySem.W.findIn K (.ref cc8) "value" = some none)
    (s8_0 : PySem.W.subIn K (.ref cc8) (.ref cc0) = some false)
    (s8_1 : PySem.W.subIn K (.ref cc8) (.ref cc1) = some false)
    (s8_2 : PySem.W.subIn K (.ref cc8) (.ref cc2) = some false)
    (s8_3 : PySem.W.subIn K (.ref cc8) (.ref cc3) = some false)
    (s8_4 : PySem.W.subIn K (.ref cc8) (.ref cc4) = some false)
    (s8_5 : PySem.W.subIn K (.ref cc8) (.ref cc5) = some false)
    (s8_6 : PySem.W.subIn K (.ref cc8) (.ref cc6) = some false)
    (s8_7 : PySem.W.subIn K (.ref cc8) (.ref cc7) = some false)
    (s8_8 : PySem.W.subIn K (.ref cc8) (.ref cc8) = some true)
    (kn : PySem.W.specialIn K (.builtin "object.__class__") "__get__" = some (some (.builtin "getset_descriptor.__get__")))
    (kt : PySem.W.takesIn K (.builtin "object.__class__") = some true)
    (xq0 : PySem.W.excIn K cc0 PySem.HandSPX.veTail "ValueError.__new__" = true)
    (xk0 : PySem.W.keepIn K (.ref cc0) = true)
    (xl1 : K.lookup cc1 = some (excClassObj nm1 qn1 cc1 N1 bs1 bm1 true sn1 sb1 ab1 col1 dd1 ma1 mb1 mc1 md1 me1 "ValueError.__new__"))
    (xe1 : PySem.W.excTail PySem.HandSPX.veTail bm1 = true)
    (xs1 : PySem.W.findIn K (.ref cc1) "__setattr__" = some (some (.builtin "object.__setattr__")))
    (xk1 : PySem.W.keepIn K (.ref cc1) = true)
    (xi1 : PySem.W.findIn K (.ref cc1) "__init__" = some (some (.ref fI1)))
    (xy1 : PySem.W.typeIn K (.ref fI1) = some (.type "function"))
    (xf1 : K.lookup fI1 = some ⟨ocI1, odI1, .func (PySem.W.fnOf "__init__" "BadRule.__init__" (defArgs sI_BadRule) (defBody sI_BadRule) (defScope sI_BadRule) .none kVI1 dcI1 pmI1 anI1 cdI1 ctI1), slI1⟩)
    (xc1 : PySem.W.codeIn K cdI1 "BadRule.__init__" = true)
    (xl2 : K.lookup cc2 = some (excClassObj nm2 qn2 cc2 N2 bs2 bm2 true sn2 sb2 ab2 col2 dd2 ma2 mb2 mc2 md2 me2 "ValueError.__new__"))
    (xe2 : PySem.W.excTail PySem.HandSPX.veTail bm2 = true)
    (xs2 : PySem.W.findIn K (.ref cc2) "__setattr__" = some (some (.builtin "object.__setattr__")))
    (xk2 : PySem.W.keepIn K (.ref cc2) = true)
    (xi2 : PySem.W.findIn K (.ref cc2) "__init__" = some (some (.ref fI2)))
    (xy2 : PySem.W.typeIn K (.ref fI2) = some (.type "function"))
    (xf2 : K.lookup fI2 = some ⟨ocI2, odI2, .func (PySem.W.fnOf "__init__" "BadRow.__init__" (defArgs sI_BadRow) (defBody sI_BadRow) (defScope sI_BadRow) .none kVI2 dcI2 pmI2 anI2 cdI2 ctI2), slI2⟩)
    (xc2 : PySem.W.codeIn K cdI2 "BadRow.__init__" = true)
    (xl3 : K.lookup cc3 = some (excClassObj nm3 qn3 cc3 N3 bs3 bm3 true sn3 sb3 ab3 col3 dd3 ma3 mb3 mc3 md3 me3 "ValueError.__new__"))
    (xe3 : PySem.W.excTail PySem.HandSPX.veTail bm3 = true)
    (xs3 : PySem.W.findIn K (.ref cc3) "__setattr__" = some (some (.builtin "object.__setattr__")))
    (xk3 : PySem.W.keepIn K (.ref cc3) = true)
    (xi3 : PySem.W.findIn K (.ref cc3) "__init__" = some (some (.ref fI3)))
    (xy3 : PySem.W.typeIn K (.ref fI3) = some (.type "function"))
    (xf3 : K.lookup fI3 = some ⟨ocI3, odI3, .func (PySem.W.fnOf "__init__" "BadBill.__init__" (defArgs sI_BadBill) (defBody sI_BadBill) (defScope sI_BadBill) .none kVI3 dcI3 pmI3 anI3 cdI3 ctI3), slI3⟩)
    (xc3 : PySem.W.codeIn K cdI3 "BadBill.__init__" = true)
    (xl4 : K.lookup cc4 = some (excClassObj nm4 qn4 cc4 N4 bs4 bm4 true sn4 sb4 ab4 col4 dd4 ma4 mb4 mc4 md4 me4 "ValueError.__new__"))
    (xe4 : PySem.W.excTail PySem.HandSPX.veTail bm4 = true)
    (xs4 : PySem.W.findIn K (.ref cc4) "__setattr__" = some (some (.builtin "object.__setattr__")))
    (xk4 : PySem.W.keepIn K (.ref cc4) = true)
    (xi4 : PySem.W.findIn K (.ref cc4) "__init__" = some (some (.ref fI4)))
    (xy4 : PySem.W.typeIn K (.ref fI4) = some (.type "function"))
    (xf4 : K.lookup fI4 = some ⟨ocI4, odI4, .func (PySem.W.fnOf "__init__" "BadNumber.__init__" (defArgs sI_BadNumber) (defBody sI_BadNumber) (defScope sI_BadNumber) .none kVI4 dcI4 pmI4 anI4 cdI4 ctI4), slI4⟩)
    (xc4 : PySem.W.codeIn K cdI4 "BadNumber.__init__" = true)
    (xl5 : K.lookup cc5 = some (excClassObj nm5 qn5 cc5 N5 bs5 bm5 true sn5 sb5 ab5 col5 dd5 ma5 mb5 mc5 md5 me5 "ValueError.__new__"))
    (xe5 : PySem.W.excTail PySem.HandSPX.veTail bm5 = true)
    (xs5 : PySem.W.findIn K (.ref cc5) "__setattr__" = some (some (.builtin "object.__setattr__")))
    (xk5 : PySem.W.keepIn K (.ref cc5) = true)
    (xi5 : PySem.W.findIn K (.ref cc5) "__init__" = some (some (.ref fI5)))
    (xy5 : PySem.W.typeIn K (.ref fI5) = some (.type "function"))
    (xf5 : K.lookup fI5 = some ⟨ocI5, odI5, .func (PySem.W.fnOf "__init__" "BadKind.__init__" (defArgs sI_BadKind) (defBody sI_BadKind) (defScope sI_BadKind) .none kVI5 dcI5 pmI5 anI5 cdI5 ctI5), slI5⟩)
    (xc5 : PySem.W.codeIn K cdI5 "BadKind.__init__" = true)
    (xl6 : K.lookup cc6 = some (excClassObj nm6 qn6 cc6 N6 bs6 bm6 true sn6 sb6 ab6 col6 dd6 ma6 mb6 mc6 md6 me6 "ValueError.__new__"))
    (xe6 : PySem.W.excTail PySem.HandSPX.veTail bm6 = true)
    (xs6 : PySem.W.findIn K (.ref cc6) "__setattr__" = some (some (.builtin "object.__setattr__")))
    (xk6 : PySem.W.keepIn K (.ref cc6) = true)
    (xi6 : PySem.W.findIn K (.ref cc6) "__init__" = some (some (.ref fI6)))
    (xy6 : PySem.W.typeIn K (.ref fI6) = some (.type "function"))
    (xf6 : K.lookup fI6 = some ⟨ocI6, odI6, .func (PySem.W.fnOf "__init__" "BadPaper.__init__" (defArgs sI_BadPaper) (defBody sI_BadPaper) (defScope sI_BadPaper) .none kVI6 dcI6 pmI6 anI6 cdI6 ctI6), slI6⟩)
    (xc6 : PySem.W.codeIn K cdI6 "BadPaper.__init__" = true)
    (xl7 : K.lookup cc7 = some (excClassObj nm7 qn7 cc7 N7 bs7 bm7 true sn7 sb7 ab7 col7 dd7 ma7 mb7 mc7 md7 me7 "ValueError.__new__"))
    (xe7 : PySem.W.excTail PySem.HandSPX.veTail bm7 = true)
    (xs7 : PySem.W.findIn K (.ref cc7) "__setattr__" = some (some (.builtin "object.__setattr__")))
    (xk7 : PySem.W.keepIn K (.ref cc7) = true)
    (xi7 : PySem.W.findIn K (.ref cc7) "__init__" = some (some (.ref fI7)))
    (xy7 : PySem.W.typeIn K (.ref fI7) = some (.type "function"))
    (xf7 : K.lookup fI7 = some ⟨ocI7, odI7, .func (PySem.W.fnOf "__init__" "BadText.__init__" (defArgs sI_BadText) (defBody sI_BadText) (defScope sI_BadText) .none kVI7 dcI7 pmI7 anI7 cdI7 ctI7), slI7⟩)
    (xc7 : PySem.W.codeIn K cdI7 "BadText.__init__" = true)
    (xl8 : K.lookup cc8 = some (excClassObj nm8 qn8 cc8 N8 bs8 bm8 true sn8 sb8 ab8 col8 dd8 ma8 mb8 mc8 md8 me8 "LookupError.__new__"))
    (xe8 : PySem.W.excTail [.type "LookupError", .type "Exception", .type "BaseException", .type "object"] bm8 = true)
    (xs8 : PySem.W.findIn K (.ref cc8) "__setattr__" = some (some (.builtin "object.__setattr__")))
    (xk8 : PySem.W.keepIn K (.ref cc8) = true)
    (xi8 : PySem.W.findIn K (.ref cc8) "__init__" = some (some (.ref fI8)))
    (xy8 : PySem.W.typeIn K (.ref fI8) = some (.type "function"))
    (xf8 : K.lookup fI8 = some ⟨ocI8, odI8, .func (PySem.W.fnOf "__init__" "Nothing.__init__" (defArgs sI_Nothing) (defBody sI_Nothing) (defScope sI_Nothing) .none kVI8 dcI8 pmI8 anI8 cdI8 ctI8), slI8⟩)
    (xc8 : PySem.W.codeIn K cdI8 "Nothing.__init__" = true)
    (hden : ∀ ns : List Int, ns.length ≤ 63 → ∃ s', g_law [.sq (ns.map .int)] [] = .ok (.bl true) s')
    : ∃ (Γ : Ct) (fd : FuncData) (den : Fn) (tabs : List Tb), Γ.K = K ∧ (∀ (i : Nat) (t : Tb), tabs[i]? = some t → Γ.tb i = t.T) ∧ (Ts tabs).Nodup ∧ (∀ t ∈ tabs, ∃ y ∈ ([] : List Str), PySem.W.tabIn Γ.K y = some (t.c, t.T) ∧ Γ.K.lookup t.T = none) ∧ tabs.map (·.q) = [] ∧ (∀ (s : Shared) (u : Value), BindsTo s fd ⟨[u], []⟩ [("script", u)]) ∧
      (∀ base : Heap, Γ.K.In base → base.Ns mainGlobals mg → (∀ t ∈ tabs, LamX.TabB base mg t.c t.T) → FnG l.prog w mg base Γ 4 fa fd ["script"] den) ∧
      ∀ ns : List Int, ns.length ≤ 63 → ∃ s', den [.sq (ns.map .int)] (tabsOf 0 (([] : List Str).map fun q => ⟨0, 0, q⟩)) = .ok (.bl true) s' := by
  have e := hfa.symm.trans (PySem.W.mg_of X G a6)
  cases e
  let Γ : Ct := ⟨K, fun n => ([cc0, cc1, cc2, cc3, cc4, cc5, cc6, cc7, cc8] : List Addr).getD n 0, fun n => ([] : List Addr).getD n 0⟩
  have CF : ∀ c, c < 9 → ClsF Γ.K (Γ.cls c) := forall9 ⟨⟨kg0, kk0, ks0, kd0, kc0, kn, kt, km0⟩, ki0, ky0⟩ ⟨⟨kg1, kk1, ks1, kd1, kc1, kn, kt, km1⟩, ki1, ky1⟩ ⟨⟨kg2, kk2, ks2, kd2, kc2, kn, kt, km2⟩, ki2, ky2⟩ ⟨⟨kg3, kk3, ks3, kd3, kc3, kn, kt, km3⟩, ki3, ky3⟩ ⟨⟨kg4, kk4, ks4, kd4, kc4, kn, kt, km4⟩, ki4, ky4⟩ ⟨⟨kg5, kk5, ks5, kd5, kc5, kn, kt, km5⟩, ki5, ky5⟩ ⟨⟨kg6, kk6, ks6, kd6, kc6, kn, kt, km6⟩, ki6, ky6⟩ ⟨⟨kg7, kk7, ks7, kd7, kc7, kn, kt, km7⟩, ki7, ky7⟩ ⟨⟨kg8, kk8, ks8, kd8, kc8, kn, kt, km8⟩, ki8, ky8⟩
  have SF : ∀ c, c < 9 → ∀ j, j < 9 → PySem.W.subIn Γ.K (.ref (Γ.cls c)) (.ref (Γ.cls j)) = some (under c j) := forall9 (forall9 s0_0 s0_1 s0_2 s0_3 s0_4 s0_5 s0_6 s0_7 s0_8) (forall9 s1_0 s1_1 s1_2 s1_3 s1_4 s1_5 s1_6 s1_7 s1_8) (forall9 s2_0 s2_1 s2_2 s2_3 s2_4 s2_5 s2_6 s2_7 s2_8) (forall9 s3_0 s3_1 s3_2 s3_3 s3_4 s3_5 s3_6 s3_7 s3_8) (forall9 s4_0 s4_1 s4_2 s4_3 s4_4 s4_5 s4_6 s4_7 s4_8) (forall9 s5_0 s5_1 s5_2 s5_3 s5_4 s5_5 s5_6 s5_7 s5_8) (forall9 s6_0 s6_1 s6_2 s6_3 s6_4 s6_5 s6_6 s6_7 s6_8) (forall9 s7_0 s7_1 s7_2 s7_3 s7_4 s7_5 s7_6 s7_7 s7_8) (forall9 s8_0 s8_1 s8_2 s8_3 s8_4 s8_5 s8_6 s8_7 s8_8)
  have n : Ns Γ mg := {
    n_LookupError := PySem.W.mg_none_of X G z0
    n_ValueError := PySem.W.mg_none_of X G z1
    n_int := PySem.W.mg_none_of X G z2
    n_isinstance := PySem.W.mg_none_of X G z3
    n_len := PySem.W.mg_none_of X G z4
    n_list := PySem.W.mg_none_of X G z5
    n_min := PySem.W.mg_none_of X G z6
    n_range := PySem.W.mg_none_of X G z7
    n_repr := PySem.W.mg_none_of X G z8
    k_ResultError := PySem.W.mg_of X G ka0
    k_BadRule := PySem.W.mg_of X G ka1
    k_BadRow := PySem.W.mg_of X G ka2
    k_BadBill := PySem.W.mg_of X G ka3
    k_BadNumber := PySem.W.mg_of X G ka4
    k_BadKind := PySem.W.mg_of X G ka5
    k_BadPaper := PySem.W.mg_of X G ka6
    k_BadText := PySem.W.mg_of X G ka7
    k_Nothing := PySem.W.mg_of X G ka8
    xi := xci_of CF SF (forall9 kv0 kv1 kv2 kv3 kv4 kv5 kv6 kv7 kv8) (forall9 kw0 kw1 kw2 kw3 kw4 kw5 kw6 kw7 kw8)
    f_line := ⟨forall9 kf0_line kf1_line kf2_line kf3_line kf4_line kf5_line kf6_line kf7_line kf8_line⟩
    f_number := ⟨forall9 kf0_number kf1_number kf2_number kf3_number kf4_number kf5_number kf6_number kf7_number kf8_number⟩
    f_part := ⟨forall9 kf0_part kf1_part kf2_part kf3_part kf4_part kf5_part kf6_part kf7_part kf8_part⟩
    f_value := ⟨forall9 kf0_value kf1_value kf2_value kf3_value kf4_value kf5_value kf6_value kf7_value kf8_value⟩
    ex := ex_of CF SF
    ex1 := ex1_of CF SF }
  let tabs : List Tb := []
  refine ⟨Γ, PySem.W.fnOf "law" "law" (defArgs s_law) (defBody s_law) (defScope s_law) .none kV6 dc6 pm6 an6 cd6 ct6, g_law, tabs, rfl, fun i t h => ?_, ?_, fun t h => ?_, rfl, fun s v => .of_eq rfl, fun base _ _ TB => ?_, hden⟩
  · match i, h with
    | n, h => cases h
  · simp [Ts, tabs]
  · simp only [tabs, List.mem_cons, List.mem_nil_iff, or_false] at h
  have Y1 : XgR l.prog w Γ.K mg base (Γ.cls 1) "BadRule" "number" := xgr_of ⟨PySem.F.excBase_ValueError, PySem.F.store_ValueError, ⟨_, _, _, _, _, _, _, _, _, _, _, _, _, _, _, xl1, xe1⟩, xs1, ks1, ky1, xk1⟩ kf1_number (PySem.W.mg_of X G ka1) xi1 xy1 xf1 xc1 ⟨rfl, rfl, rfl, by decide +kernel, rfl, by decide +kernel, by decide +kernel⟩ (.inl rfl) (.inl rfl) (by decide) (by decide) (fun _ _ => rfl) (fun _ _ => rfl)
  have Y2 : XgR l.prog w Γ.K mg base (Γ.cls 2) "BadRow" "number" := xgr_of ⟨PySem.F.excBase_ValueError, PySem.F.store_ValueError, ⟨_, _, _, _, _, _, _, _, _, _, _, _, _, _, _, xl2, xe2⟩, xs2, ks2, ky2, xk2⟩ kf2_number (PySem.W.mg_of X G ka2) xi2 xy2 xf2 xc2 ⟨rfl, rfl, rfl, by decide +kernel, rfl, by decide +kernel, by decide +kernel⟩ (.inl rfl) (.inl rfl) (by decide) (by decide) (fun _ _ => rfl) (fun _ _ => rfl)
  have Y3 : XgR l.prog w Γ.K mg base (Γ.cls 3) "BadBill" "part" := xgr_of ⟨PySem.F.excBase_ValueError, PySem.F.store_ValueError, ⟨_, _, _, _, _, _, _, _, _, _, _, _, _, _, _, xl3, xe3⟩, xs3, ks3, ky3, xk3⟩ kf3_part (PySem.W.mg_of X G ka3) xi3 xy3 xf3 xc3 ⟨rfl, rfl, rfl, by decide +kernel, rfl, by decide +kernel, by decide +kernel⟩ (.inl rfl) (.inl rfl) (by decide) (by decide) (fun _ _ => rfl) (fun _ _ => rfl)
  have Y4 : XgR l.prog w Γ.K mg base (Γ.cls 4) "BadNumber" "value" := xgr_of ⟨PySem.F.excBase_ValueError, PySem.F.store_ValueError, ⟨_, _, _, _, _, _, _, _, _, _, _, _, _, _, _, xl4, xe4⟩, xs4, ks4, ky4, xk4⟩ kf4_value (PySem.W.mg_of X G ka4) xi4 xy4 xf4 xc4 ⟨rfl, rfl, rfl, by decide +kernel, rfl, by decide +kernel, by decide +kernel⟩ (.inl rfl) (.inl rfl) (by decide) (by decide) (fun _ _ => rfl) (fun _ _ => rfl)
  have Y5 : XgR l.prog w Γ.K mg base (Γ.cls 5) "BadKind" "value" := xgr_of ⟨PySem.F.excBase_ValueError, PySem.F.store_ValueError, ⟨_, _, _, _, _, _, _, _, _, _, _, _, _, _, _, xl5, xe5⟩, xs5, ks5, ky5, xk5⟩ kf5_value (PySem.W.mg_of X G ka5) xi5 xy5 xf5 xc5 ⟨rfl, rfl, rfl, by decide +kernel, rfl, by decide +kernel, by decide +kernel⟩ (.inl rfl) (.inl rfl) (by decide) (by decide) (fun _ _ => rfl) (fun _ _ => rfl)
  have Y6 : XgR l.prog w Γ.K mg base (Γ.cls 6) "BadPaper" "part" := xgr_of ⟨PySem.F.excBase_ValueError, PySem.F.store_ValueError, ⟨_, _, _, _, _, _, _, _, _, _, _, _, _, _, _, xl6, xe6⟩, xs6, ks6, ky6, xk6⟩ kf6_part (PySem.W.mg_of X G ka6) xi6 xy6 xf6 xc6 ⟨rfl, rfl, rfl, by decide +kernel, rfl, by decide +kernel, by decide +kernel⟩ (.inl rfl) (.inl rfl) (by decide) (by decide) (fun _ _ => rfl) (fun _ _ => rfl)
  have Y7 : XgR l.prog w Γ.K mg base (Γ.cls 7) "BadText" "line" := xgr_of ⟨PySem.F.excBase_ValueError, PySem.F.store_ValueError, ⟨_, _, _, _, _, _, _, _, _, _, _, _, _, _, _, xl7, xe7⟩, xs7, ks7, ky7, xk7⟩ kf7_line (PySem.W.mg_of X G ka7) xi7 xy7 xf7 xc7 ⟨rfl, rfl, rfl, by decide +kernel, rfl, by decide +kernel, by decide +kernel⟩ (.inl rfl) (.inl rfl) (by decide) (by decide) (fun _ _ => rfl) (fun _ _ => rfl)
  have Y8 : XgR l.prog w Γ.K mg base (Γ.cls 8) "Nothing" "value" := xgr_of ⟨PySem.F.excBase_LookupError, PySem.F.store_LookupError, ⟨_, _, _, _, _, _, _, _, _, _, _, _, _, _, _, xl8, xe8⟩, xs8, ks8, ky8, xk8⟩ kf8_value (PySem.W.mg_of X G ka8) xi8 xy8 xf8 xc8 ⟨rfl, rfl, rfl, by decide +kernel, rfl, by decide +kernel, by decide +kernel⟩ (.inl rfl) (.inl rfl) (by decide) (by decide) (fun _ _ => rfl) (fun _ _ => rfl)
  have F0 := fun_mk (st := s__law_begun) l0 c0 k0
  have C0 : Cal l.prog w mg base Γ 1 "_law_begun" ["script"] g__law_begun := ⟨_, _, ok__law_begun n F0, PySem.W.mg_of X G a0, k0, F0.binds fun _ _ _ _ _ _ us hl => match us, hl with | [_], _ => rfl⟩
  have F1 := fun_mk (st := s__law_draw) l1 c1 k1
  have C1 : Cal l.prog w mg base Γ 1 "_law_draw" ["m", "many"] g__law_draw := ⟨_, _, ok__law_draw n F1, PySem.W.mg_of X G a1, k1, F1.binds fun _ _ _ _ _ _ us hl => match us, hl with | [_, _], _ => rfl⟩
  have F2 := fun_mk (st := s__law_of) l2 c2 k2
  have C2 : Cal l.prog w mg base Γ 2 "_law_of" ["m", "some"] g__law_of := ⟨_, _, ok__law_of n F2 C1, PySem.W.mg_of X G a2, k2, F2.binds fun _ _ _ _ _ _ us hl => match us, hl with | [_, _], _ => rfl⟩
  have F3 := fun_mk (st := s__law_made) l3 c3 k3
  have C3 : Cal l.prog w mg base Γ 3 "_law_made" ["thing"] g__law_made := ⟨_, _, ok__law_made n F3 Y1 Y2 Y3 Y4 Y5 Y6 Y7 Y8, PySem.W.mg_of X G a3, k3, F3.binds fun _ _ _ _ _ _ us hl => match us, hl with | [_], _ => rfl⟩
  have F4 := fun_mk (st := s__law_marks) l4 c4 k4
  have C4 : Cal l.prog w mg base Γ 1 "_law_marks" ["error"] g__law_marks := ⟨_, _, ok__law_marks n F4, PySem.W.mg_of X G a4, k4, F4.binds fun _ _ _ _ _ _ us hl => match us, hl with | [_], _ => rfl⟩
  have F5 := fun_mk (st := s__law_kept) l5 c5 k5
  have C5 : Cal l.prog w mg base Γ 1 "_law_kept" ["place", "error"] g__law_kept := ⟨_, _, ok__law_kept n F5, PySem.W.mg_of X G a5, k5, F5.binds fun _ _ _ _ _ _ us hl => match us, hl with | [_, _], _ => rfl⟩
  have F6 := fun_mk (st := s_law) l6 c6 k6
  exact ok_law n F6 xq0 xk0 C0 C2 C3 C4 C5
end MP.K01

set_option Elab.async false
set_option linter.all false
set_option maxRecDepth 100000
set_option maxHeartbeats 400000
namespace MP.K01
open PySem PySem.Spec PyProof.Rows L2 MP
abbrev kCells : Key := .inr (Str.ofString "cells")
abbrev kLeft : Key := .inr (Str.ofString "left")
abbrev kSpot : Key := .inr (Str.ofString "spot")
def St (tl : Sto) (cs : List Int) (l p : Int) : Sto := .dct [(kCells, .lst (cs.map .int)), (kLeft, .int l), (kSpot, .int p)] :: tl
theorem get_left {tl : Sto} {cs : List Int} {l p : Int} : ixA (St tl cs l p) (.ref 0) (.str "left") = some (.int l) := rfl
theorem get_spot {tl : Sto} {cs : List Int} {l p : Int} : ixA (St tl cs l p) (.ref 0) (.str "spot") = some (.int p) := rfl
theorem get_cells {tl : Sto} {cs : List Int} {l p : Int} : ixA (St tl cs l p) (.ref 0) (.str "cells") = some (.lst (cs.map .int)) := rfl
theorem put_left {tl : Sto} {cs : List Int} {l p l' : Int} {ρ : Env} {f : FE} {i : Nat} (h0 : mVar 0 ρ (St tl cs l p) = .ok (.ref 0) (St tl cs l p)) (h : f ρ (St tl cs l p) = .ok (.int l') (St tl cs l p)) : mDPut (mVar 0) (mK (.str "left")) f ρ (St tl cs l p) = .nx ρ (St tl cs l' p) := by
  unfold mDPut
  rw [h, then_ok, h0, then_ok, k_ev, then_ok]
  rfl
theorem put_spot {tl : Sto} {cs : List Int} {l p p' : Int} {ρ : Env} {f : FE} {i : Nat} (h0 : mVar 0 ρ (St tl cs l p) = .ok (.ref 0) (St tl cs l p)) (h : f ρ (St tl cs l p) = .ok (.int p') (St tl cs l p)) : mDPut (mVar 0) (mK (.str "spot")) f ρ (St tl cs l p) = .nx ρ (St tl cs l p') := by
  unfold mDPut
  rw [h, then_ok, h0, then_ok, k_ev, then_ok]
  rfl
theorem mod_ii {s : Sto} {i j : Int} (h : 0 < j) : modD s (.int i) (.int j) = some (.int (i % j)) := if_pos h
theorem div_ii {s : Sto} {i j : Int} (h : 0 < j) (h2 : j < 1073741824) : divD s (.int i) (.int j) = some (.int (i / j)) := if_pos ⟨h, h2⟩
structure Drawn (many : Int) (tl : Sto) (cs : List Int) (p : Int) (rr : R Dv) : Prop where
  ok : ∃ d l' p', rr = .ok (.int d) (St tl cs l' p') ∧ 0 ≤ d ∧ d < many ∧ 0 ≤ p' ∧ p' ≤ p + 1
theorem draw_ok {tl : Sto} {cs : List Int} {l p many : Int} (hc : cs ≠ []) (hm : 0 < many) (hm2 : many < 1073741824) (hp : 0 ≤ p) (hp2 : p < 1000000) : Drawn many tl cs p (g__law_draw [.ref 0, .int many] (St tl cs l p)) := by
  have e0 : startD 6 [.ref 0, .int many] = [some (.ref 0), some (.int many), none, none, none, none] := rfl
  have eT : ∀ ρ : Env, mTest (mBin gtD (mBin ixA (mVar 0) (mK (.str "left"))) (mK (.int 0))) (some (.ref 0) :: ρ) (St tl cs l p) = .ok (decide (0 < l)) (St tl cs l p) := fun ρ => by
    rw [test_ev, bin_ev, bin_ev, var_0, bind_ok, k_ev, bind_ok, get_left, of_some, bind_ok, k_ev, bind_ok]
    rfl
  by_cases hl : 0 < l
  · refine ⟨l % many, l / many, p, ?_, Int.emod_nonneg _ (by omega), Int.emod_lt_of_pos _ hm, hp, by omega⟩
    have e1 : mAsg (mBin modD (mBlt intD (mCons (mBin ixA (mVar 0) (mK (.str "left"))) mNil)) (mVar 1)) (gN 2) [some (.ref 0), some (.int many), none, none, none, none] (St tl cs l p) = .nx [some (.ref 0), some (.int many), some (.int (l % many)), none, none, none] (St tl cs l p) := by
      rw [asgN_ev, bin_ev, blt_ev, cons_ev, bin_ev, var_0, bind_ok, k_ev, bind_ok, get_left, of_some, bind_ok, nil_ev, bind_ok, bind_ok, int_i, of_some, bind_ok, var_s, var_0, bind_ok, mod_ii hm, of_some, then_ok]
      rfl
    have e2 : mDPut (mVar 0) (mK (.str "left")) (mBin divD (mBin ixA (mVar 0) (mK (.str "left"))) (mVar 1)) [some (.ref 0), some (.int many), some (.int (l % many)), none, none, none] (St tl cs l p) = .nx [some (.ref 0), some (.int many), some (.int (l % many)), none, none, none] (St tl cs (l / many) p) := by
      refine put_left (i := 0) rfl ?_
      rw [bin_ev, bin_ev, var_0, bind_ok, k_ev, bind_ok, get_left, of_some, bind_ok, var_s, var_0, bind_ok, div_ii hm hm2, of_some]
    unfold g__law_draw d__law_draw
    rw [den_ev, e0, seq_ev, ifS_ev, eT, then_ok, decide_eq_true hl, if_pos rfl, seq_ev, e1, seqK_nx, seq_ev, e2, seqK_nx, ret_ev, var_s, var_s, var_0, then_ok, seqK_rt]
    exact finC_rt (s := St tl cs (l / many) p)
  · have hcl : 0 < cs.length := List.length_pos_iff.mpr hc
    have hx : ((p + 1) % (cs.length : Int)).toNat < cs.length := by
      have h1 := Int.emod_lt_of_pos (p + 1) (show (0 : Int) < cs.length by omega)
      have h2 := Int.emod_nonneg (p + 1) (show (cs.length : Int) ≠ 0 by omega)
      omega
    have hy : ((((p + 1) % (cs.length : Int)).toNat : Nat) : Int) = (p + 1) % (cs.length : Int) := Int.toNat_of_nonneg (Int.emod_nonneg _ (by omega))
    generalize hq : ((p + 1) % (cs.length : Int)).toNat = q at hx hy
    let c := cs[q]
    let m1 := (c % 2147483629 + 6133 * (p + 1) + 23 * (p + 1) * (p + 1)) * 48271
    let m2 := (m1 % 2147483647 + 93241 * (p + 1)) * 69621
    refine ⟨m2 % 2147483587 / 13 % many, l, p + 1, ?_, Int.emod_nonneg _ (by omega), Int.emod_lt_of_pos _ hm, by omega, by omega⟩
    have hcq : (cs.map Dv.int)[q]? = some (.int c) := by rw [List.getElem?_map, List.getElem?_eq_getElem hx]; rfl
    have e1 : mAsg (mBin addD (mBin ixA (mVar 0) (mK (.str "spot"))) (mK (.int 1))) (gN 3) [some (.ref 0), some (.int many), none, none, none, none] (St tl cs l p) = .nx [some (.ref 0), some (.int many), none, some (.int (p + 1)), none, none] (St tl cs l p) := by
      rw [asgN_ev, bin_ev, bin_ev, var_0, bind_ok, k_ev, bind_ok, get_spot, of_some, bind_ok, k_ev, bind_ok, add_ii, of_some, then_ok]
      rfl
    have e2 : mDPut (mVar 0) (mK (.str "spot")) (mVar 3) [some (.ref 0), some (.int many), none, some (.int (p + 1)), none, none] (St tl cs l p) = .nx [some (.ref 0), some (.int many), none, some (.int (p + 1)), none, none] (St tl cs l (p + 1)) := put_spot (i := 0) rfl rfl
    have e3 : mAsg (mBin ixA (mBin ixA (mVar 0) (mK (.str "cells"))) (mBin modD (mBlt intD (mCons (mVar 3) mNil)) (mBlt lenD (mCons (mBin ixA (mVar 0) (mK (.str "cells"))) mNil)))) (gN 4) [some (.ref 0), some (.int many), none, some (.int (p + 1)), none, none] (St tl cs l (p + 1)) = .nx [some (.ref 0), some (.int many), none, some (.int (p + 1)), some (.int c), none] (St tl cs l (p + 1)) := by
      rw [asgN_ev, bin_ev, bin_ev, var_0, bind_ok, k_ev, bind_ok, get_cells, of_some, bind_ok, bin_ev, blt_ev, cons_ev, var_s, var_s, var_s, var_0, bind_ok, nil_ev, bind_ok, bind_ok, int_i, of_some, bind_ok, blt_ev, cons_ev, bin_ev, var_0, bind_ok, k_ev, bind_ok, get_cells, of_some, bind_ok, nil_ev, bind_ok, bind_ok, len_lst, of_some, bind_ok, List.length_map, mod_ii (by omega), of_some, bind_ok, ← hy, ix_lst hcq, of_some, then_ok]
      rfl
    have ee : ∀ (z : Option Dv), mBlt intD (mCons (mVar 3) mNil) [some (.ref 0), some (.int many), none, some (.int (p + 1)), some (.int c), z] (St tl cs l (p + 1)) = .ok (.int (p + 1)) (St tl cs l (p + 1)) := fun z => by
      rw [blt_ev, cons_ev, var_s, var_s, var_s, var_0, bind_ok, nil_ev, bind_ok, bind_ok, int_i, of_some]
    have v3 : ∀ (z : Option Dv), mVar 3 [some (.ref 0), some (.int many), none, some (.int (p + 1)), some (.int c), z] (St tl cs l (p + 1)) = .ok (.int (p + 1)) (St tl cs l (p + 1)) := fun z => rfl
    have v4 : ∀ (z : Option Dv), mVar 4 [some (.ref 0), some (.int many), none, some (.int (p + 1)), some (.int c), z] (St tl cs l (p + 1)) = .ok (.int c) (St tl cs l (p + 1)) := fun z => rfl
    have v5 : ∀ (z : Int), mVar 5 [some (.ref 0), some (.int many), none, some (.int (p + 1)), some (.int c), some (.int z)] (St tl cs l (p + 1)) = .ok (.int z) (St tl cs l (p + 1)) := fun z => rfl
    have v1 : ∀ (z : Option Dv), mVar 1 [some (.ref 0), some (.int many), none, some (.int (p + 1)), some (.int c), z] (St tl cs l (p + 1)) = .ok (.int many) (St tl cs l (p + 1)) := fun z => rfl
    have s5 : ∀ (z : Option Dv) (u : Int), [some (.ref 0), some (.int many), none, some (.int (p + 1)), some (.int c), z].set 5 (some (Dv.int u)) = [some (.ref 0), some (.int many), none, some (.int (p + 1)), some (.int c), some (.int u)] := fun z u => rfl
    have e4 : mAsg (mBin mulD (mBlt intD (mCons (mBin addD (mBin addD (mBin modD (mBlt intD (mCons (mVar 4) mNil)) (mK (.int 2147483629))) (mBin mulD (mK (.int 6133)) (mVar 3))) (mBin mulD (mBin mulD (mK (.int 23)) (mVar 3)) (mVar 3))) mNil)) (mK (.int 48271))) (gN 5) [some (.ref 0), some (.int many), none, some (.int (p + 1)), some (.int c), none] (St tl cs l (p + 1)) = .nx [some (.ref 0), some (.int many), none, some (.int (p + 1)), some (.int c), some (.int m1)] (St tl cs l (p + 1)) := by
      simp only [asgN_ev, bin_ev, blt_ev, cons_ev, nil_ev, v4, v3, k_ev, bind_ok, int_i, of_some, mod_ii (show (0 : Int) < 2147483629 by decide), mul_ii (cm_l (i := 6133) (j := p + 1) (by decide)), mul_ii (cm_l (i := 23) (j := p + 1) (by decide)), mul_ii (cm_r (i := 23 * (p + 1)) (j := p + 1) ⟨by omega, by omega⟩), add_ii, mul_ii (cm_r (j := 48271) (by decide)), then_ok, s5]
      rfl
    have e5 : mAsg (mBin mulD (mBlt intD (mCons (mBin addD (mBin modD (mBlt intD (mCons (mVar 5) mNil)) (mK (.int 2147483647))) (mBin mulD (mK (.int 93241)) (mVar 3))) mNil)) (mK (.int 69621))) (gN 5) [some (.ref 0), some (.int many), none, some (.int (p + 1)), some (.int c), some (.int m1)] (St tl cs l (p + 1)) = .nx [some (.ref 0), some (.int many), none, some (.int (p + 1)), some (.int c), some (.int m2)] (St tl cs l (p + 1)) := by
      simp only [asgN_ev, bin_ev, blt_ev, cons_ev, nil_ev, v5, v3, k_ev, bind_ok, int_i, of_some, mod_ii (show (0 : Int) < 2147483647 by decide), mul_ii (cm_l (i := 93241) (j := p + 1) (by decide)), add_ii, mul_ii (cm_r (j := 69621) (by decide)), then_ok, s5]
      rfl
    have e6 : mRet (mBin modD (mBlt intD (mCons (mBin divD (mBin modD (mBlt intD (mCons (mVar 5) mNil)) (mK (.int 2147483587))) (mK (.int 13))) mNil)) (mVar 1)) [some (.ref 0), some (.int many), none, some (.int (p + 1)), some (.int c), some (.int m2)] (St tl cs l (p + 1)) = .rt (.int (m2 % 2147483587 / 13 % many)) (St tl cs l (p + 1)) := by
      simp only [ret_ev, bin_ev, blt_ev, cons_ev, nil_ev, v5, v1, k_ev, bind_ok, int_i, of_some, mod_ii (show (0 : Int) < 2147483587 by decide), div_ii (show (0 : Int) < 13 by decide) (by decide), mod_ii hm, then_ok]
    unfold g__law_draw d__law_draw
    rw [den_ev, e0, seq_ev, ifS_ev, eT, then_ok, decide_eq_false hl, if_neg (by decide), next_ev, seqK_nx, seq_ev, e1, seqK_nx, seq_ev, e2, seqK_nx, seq_ev, e3, seqK_nx, seq_ev, e4, seqK_nx, seq_ev, e5, seqK_nx, e6]
    exact finC_rt (s := St tl cs l (p + 1))
end MP.K01

set_option Elab.async false
set_option linter.all false
set_option maxRecDepth 100000
set_option maxHeartbeats 400000
namespace MP.K01
open PySem PySem.Spec PyProof.Rows L2 MP
theorem eq_ii {s : Sto} {a b : Int} : eqD s (.int a) (.int b) = some (.bl (decide (a = b))) := by
  have e : decide (V.int a = V.int b) = decide (a = b) := by
    by_cases h : a = b
    · rw [h, decide_eq_true rfl, decide_eq_true rfl]
    · rw [decide_eq_false h, decide_eq_false fun z => h (V.int.inj z)]
  show (some (decide (V.int a = V.int b))).map Dv.bl = _
  rw [e]
  rfl
theorem fin_rt {n : Nat} {w : Dv} {s : Sto} (h : s.length ≤ n) : finC n (.rt w s) = .ok w s := finW_le h
theorem fin_St {tl : Sto} {cs : List Int} {l p l' p' : Int} {w : Dv} : finC (St tl cs l p).length (.rt w (St tl cs l' p')) = .ok w (St tl cs l' p') := fin_rt (Nat.le_refl _)
/-- one of some -/
theorem law_of_ok {tl : Sto} {cs : List Int} {l p : Int} {ws : List Dv} (hc : cs ≠ []) (hp : 0 ≤ p) (hp2 : p < 1000000) (hw : ws ≠ []) (hw2 : ws.length < 1000) : ∃ w l' p', w ∈ ws ∧ g__law_of [.ref 0, .lst ws] (St tl cs l p) = .ok w (St tl cs l' p') ∧ 0 ≤ p' ∧ p' ≤ p + 1 := by
  have hl : 0 < ws.length := List.length_pos_iff.mpr hw
  obtain ⟨k, l2, p2, d2, k0, k6, p20, p21⟩ := (draw_ok (l := l) hc (show (0 : Int) < ws.length by omega) (by omega) hp hp2).ok
  obtain ⟨j, rfl⟩ := Int.eq_ofNat_of_zero_le k0
  have hj : j < ws.length := by omega
  refine ⟨ws[j], l2, p2, List.getElem_mem hj, ?_, p20, p21⟩
  have e0 : startD 2 [.ref 0, .lst ws] = [some (.ref 0), some (.lst ws)] := rfl
  unfold g__law_of d__law_of
  rw [den_ev, e0, ret_ev, bin_ev, var_s, var_0, bind_ok, call_ev, cons_ev, var_0, bind_ok, cons_ev, blt_ev, cons_ev, var_s, var_0, bind_ok, nil_ev, bind_ok, bind_ok, len_lst, of_some, bind_ok, nil_ev, bind_ok, bind_ok, bind_ok, d2, bind_ok, ix_lst (List.getElem?_eq_getElem hj), of_some, then_ok]
  exact fin_St
end MP.K01

set_option Elab.async false
set_option linter.all false
set_option maxRecDepth 100000
set_option maxHeartbeats 400000
namespace MP.K01
open PySem PySem.Spec PyProof.Rows L2 MP
theorem pow_ii {s : Sto} {i j : Int} (h : 0 ≤ j ∧ j ≤ 1000000 ∧ i.natAbs < 2 ^ 64) : powD s (.int i) (.int j) = some (.int (i ^ j.toNat)) := if_pos h
theorem ge_ii {s : Sto} {i j : Int} : geD s (.int i) (.int j) = some (.bl (decide (j ≤ i))) := rfl
/-- what is begun with -/
theorem begun_ok {ns : List Int} (hn : ns.length ≤ 63) : ∃ l, g__law_begun [.sq (ns.map .int)] [] = .ok (.ref 0) (St [] (ns ++ [(ns.length : Int)]) l 0) := by
  have e0 : startD 3 [.sq (ns.map .int)] = [some (.sq (ns.map .int)), none, none] := rfl
  have e1 : mComp cF__law_begun_1 [2] ct__law_begun_1 ci__law_begun_1 ce__law_begun_1 [some (.sq (ns.map .int)), none, none] [] = .ok (lI (ns.filter fun n => decide ((10 : Int) ^ 18 ≤ n))) [] := by
    refine comp_filt (e := .int) (φ := .int) (t := fun n => decide ((10 : Int) ^ 18 ≤ n)) rfl (by unfold lim; omega) fun n _ => ⟨[some (.sq (ns.map .int)), none, some (.int n)], rfl, ?_, fun _ => ?_⟩
    · unfold ci__law_begun_1
      rw [test_ev, bin_ev, var_s, var_s, var_0, bind_ok, bin_ev, k_ev, bind_ok, k_ev, bind_ok, pow_ii ⟨by decide, by decide, by decide⟩, of_some, bind_ok, ge_ii]
      rfl
    · rfl
  obtain ⟨gs, hg⟩ : ∃ gs, gs = ns.filter fun n => decide ((10 : Int) ^ 18 ≤ n) := ⟨_, rfl⟩
  rw [← hg] at e1
  have eL : mBin addD (mBlt listD (mCons (mVar 0) mNil)) (mLst (mCons (mBlt lenD (mCons (mVar 0) mNil)) mNil)) [some (.sq (ns.map .int)), some (lI gs), none] [] = .ok (lI (ns ++ [(ns.length : Int)])) [] := by
    rw [bin_ev, blt_ev, cons_ev, var_0, bind_ok, nil_ev, bind_ok, bind_ok]
    show (R.of (some (Dv.lst (ns.map .int))) []).bind _ = _
    rw [of_some, bind_ok, lst_ev, cons_ev, blt_ev, cons_ev, var_0, bind_ok, nil_ev, bind_ok, bind_ok, len_sq, of_some, bind_ok, nil_ev, bind_ok, bind_ok, if_pos (by show 1 ≤ lim; unfold lim; decide), bind_ok]
    show R.of (if (ns.map Dv.int).length + 1 ≤ lim then some (Dv.lst (ns.map .int ++ [.int (ns.map Dv.int).length])) else none) [] = _
    rw [if_pos (by rw [List.length_map]; unfold lim; omega), List.length_map, of_some, lI, List.map_append]
    rfl
  have eG : ∃ l, mIf (mTest (mBin neD (mVar 1) (mLst mNil))) (mBin ixA (mVar 1) (mK (.int 0))) (mK (.int 0)) [some (.sq (ns.map .int)), some (lI gs), none] [] = .ok (.int l) [] := by
    have et : mTest (mBin neD (mVar 1) (mLst mNil)) [some (.sq (ns.map .int)), some (lI gs), none] [] = .ok (!decide (gs = [])) [] := by
      rw [test_ev, bin_ev, var_s, var_0, bind_ok, lst_ev, nil_ev, bind_ok, if_pos (by show 0 ≤ lim; unfold lim; decide), bind_ok]
      show (R.of (neD [] (lI gs) (lI [])) []).bind testK = _
      rw [ne_lI]
      rfl
    rw [if_ev, et, bind_ok]
    cases gs with
    | nil => exact ⟨0, rfl⟩
    | cons a r =>
      refine ⟨a, ?_⟩
      rw [if_pos (by simp), bin_ev, var_s, var_0, bind_ok, k_ev, bind_ok]
      show R.of (ixA [] (.lst (.int a :: r.map .int)) (.int ((0 : Nat) : Int))) [] = _
      rw [ix_lst (w := .int a) rfl, of_some]
  obtain ⟨l, eG⟩ := eG
  refine ⟨l, ?_⟩
  have eD : mDctM [((mK (.str "cells")), (mBin addD (mBlt listD (mCons (mVar 0) mNil)) (mLst (mCons (mBlt lenD (mCons (mVar 0) mNil)) mNil)))), ((mK (.str "left")), (mIf (mTest (mBin neD (mVar 1) (mLst mNil))) (mBin ixA (mVar 1) (mK (.int 0))) (mK (.int 0)))), ((mK (.str "spot")), (mK (.int 0)))] [some (.sq (ns.map .int)), some (lI gs), none] [] = .ok (.ref 0) (St [] (ns ++ [(ns.length : Int)]) l 0) := by
    have : mPairs [((mK (.str "cells")), (mBin addD (mBlt listD (mCons (mVar 0) mNil)) (mLst (mCons (mBlt lenD (mCons (mVar 0) mNil)) mNil)))), ((mK (.str "left")), (mIf (mTest (mBin neD (mVar 1) (mLst mNil))) (mBin ixA (mVar 1) (mK (.int 0))) (mK (.int 0)))), ((mK (.str "spot")), (mK (.int 0)))] [some (.sq (ns.map .int)), some (lI gs), none] [] = .ok [(.str "cells", lI (ns ++ [(ns.length : Int)])), (.str "left", .int l), (.str "spot", .int 0)] [] := by
      unfold mPairs
      rw [k_ev, bind_ok, eL, bind_ok]
      unfold mPairs
      rw [k_ev, bind_ok, eG, bind_ok]
      unfold mPairs
      rw [k_ev, bind_ok, k_ev, bind_ok]
      rfl
    unfold mDctM
    rw [this]
    rfl
  unfold g__law_begun d__law_begun
  rw [den_ev, e0, seq_ev, asgN_ev, e1, then_ok, seqK_nx]
  show finC 0 (mRet (mDctM _) [some (.sq (ns.map .int)), some (lI gs), none] []) = _
  rw [ret_ev, eD, then_ok]
  rfl
/-! the size of an index -/
end MP.K01

set_option Elab.async false
set_option linter.all false
set_option maxRecDepth 100000
set_option maxHeartbeats 1000000
namespace MP.K01
open PySem PySem.Spec PyProof.Rows L2 MP
/-! the eight errors, made twice each: their marks, what they keep -/
def fld : Nat → Str
  | 1 => "number" | 2 => "number" | 3 => "part" | 6 => "part" | 7 => "line" | _ => "value"
def exo (p : Nat) (w : Dv) : Dv := .exc (p + 1) (fld (p + 1)) w
def trip (w : Dv) (p : Nat) : Dv := .tup [.int p, exo p w, exo p w]
def mds (w : Dv) : List Dv := [trip w 0, trip w 1, trip w 2, trip w 3, trip w 4, trip w 5, trip w 6, trip w 7]
theorem made_ok (w : Dv) (s : Sto) : g__law_made [w] s = .ok (.lst (mds w)) s := by
  have e : d__law_made [some w, none] s = .rt (.lst (mds w)) s := rfl
  show finC s.length (d__law_made [some w, none] s) = _
  rw [e]
  exact fin_rt (Nat.le_refl _)
def mark (p : Nat) : List Dv := [.bl (p == 0), .bl (p == 1), .bl (p == 2), .bl (p == 3), .bl (p == 4), .bl (p == 5), .bl (p == 6), .bl (p == 7), .bl (decide (p < 7)), .bl (decide (p < 7)), .bl (p == 7)]
theorem forall8 {q : Nat → Prop} (h0 : q 0) (h1 : q 1) (h2 : q 2) (h3 : q 3) (h4 : q 4) (h5 : q 5) (h6 : q 6) (h7 : q 7) : ∀ p, p < 8 → q p := fun p h => by
  match p, h with
  | 0, _ => exact h0
  | 1, _ => exact h1
  | 2, _ => exact h2
  | 3, _ => exact h3
  | 4, _ => exact h4
  | 5, _ => exact h5
  | 6, _ => exact h6
  | 7, _ => exact h7
  | p + 8, h => exact absurd h (by omega)
theorem marks_ok (w : Dv) (s : Sto) : ∀ p, p < 8 → g__law_marks [exo p w] s = .ok (.lst (mark p)) s :=
  have go : ∀ p, d__law_marks [some (exo p w), none] s = .rt (.lst (mark p)) s → g__law_marks [exo p w] s = .ok (.lst (mark p)) s := fun p e => by
    show finC s.length (d__law_marks [some (exo p w), none] s) = _
    rw [e]
    exact fin_rt (Nat.le_refl _)
  forall8 (go 0 rfl) (go 1 rfl) (go 2 rfl) (go 3 rfl) (go 4 rfl) (go 5 rfl) (go 6 rfl) (go 7 rfl)
theorem kept_ok (w : Dv) (s : Sto) : ∀ p, p < 8 → g__law_kept [.int (p : Nat), exo p w] s = .ok w s :=
  have go : ∀ p : Nat, d__law_kept [some (.int p), some (exo p w)] s = .rt w s → g__law_kept [.int p, exo p w] s = .ok w s := fun p e => by
    show finC s.length (d__law_kept [some (.int p), some (exo p w)] s) = _
    rw [e]
    exact fin_rt (Nat.le_refl _)
  forall8 (go 0 rfl) (go 1 rfl) (go 2 rfl) (go 3 rfl) (go 4 rfl) (go 5 rfl) (go 6 rfl) (go 7 rfl)
theorem base_ok (s : Sto) : g__law_marks [.exn 0] s = .ok (.lst (List.replicate 8 (.bl false) ++ [.bl true, .bl true, .bl false])) s := by
  have e : d__law_marks [some (.exn 0), none] s = .rt (.lst (List.replicate 8 (.bl false) ++ [.bl true, .bl true, .bl false])) s := rfl
  show finC s.length (d__law_marks [some (.exn 0), none] s) = _
  rw [e]
  exact fin_rt (Nat.le_refl _)
/-- repr tells something, whatever the store -/
def Good (w : Dv) : Prop := ∃ t : Str, ∀ s : Sto, reprB s [w] = some (.str t)
theorem good_x {w : Dv} {d : PyData} (hd : disp w = false) (h : toX w = some d) (c : d.showable = true ∧ d.depth ≤ 60 ∧ d.shown.length ≤ lim) : Good w := ⟨d.shown, fun s => by
  have e : reprD s [w] = none := by
    show (if disp w = true then _ else none) = none
    rw [hd]
    rfl
  have e2 : reprXD s [w] = some (.str d.shown) := by
    show (match toX w with | some d => _ | none => none) = _
    rw [h]
    exact if_pos c
  unfold reprB reprA
  rw [e, e2]⟩
theorem good_d {w : Dv} {d : PyData} (hd : disp w = true) (h : ∀ s, toD s w = some d) (c : d.showable = true ∧ d.hasDict = false ∧ d.depth ≤ 60 ∧ d.shown.length ≤ lim) : Good w := ⟨d.shown, fun s => by
  have e : reprD s [w] = some (.str d.shown) := by
    show (if disp w = true then _ else none) = _
    rw [hd, if_pos rfl, h s]
    exact if_pos c
  unfold reprB reprA
  rw [e]⟩
abbrev things : List Dv := [.non, .int 0, .bl true, .int (-7), .int 1000000000000000000000000000000, .str "", .str "own", .str "best", .tup [], .tup [.int 1, .str "b"], .tup [.tup []], .lst [.int 1, .lst [.int 2]], .dct [] [], .dct [.inr "a"] [.int 1]]
theorem things_ok : ∀ w ∈ things, Good w := by
  intro w h
  simp only [things, List.mem_cons, List.mem_nil_iff, or_false] at h
  rcases h with rfl | rfl | rfl | rfl | rfl | rfl | rfl | rfl | rfl | rfl | rfl | rfl | rfl | rfl
  · exact good_x rfl rfl (by decide +kernel)
  · exact good_x rfl rfl (by decide +kernel)
  · exact good_x rfl rfl (by decide +kernel)
  · exact good_x rfl rfl (by decide +kernel)
  · exact good_x rfl rfl (by decide +kernel)
  · exact good_x rfl rfl (by decide +kernel)
  · exact good_x rfl rfl (by decide +kernel)
  · exact good_x rfl rfl (by decide +kernel)
  · exact good_d rfl (fun _ => rfl) (by decide +kernel)
  · exact good_d rfl (fun _ => rfl) (by decide +kernel)
  · exact good_d rfl (fun _ => rfl) (by decide +kernel)
  · exact good_d rfl (fun _ => rfl) (by decide +kernel)
  · exact good_x rfl rfl (by decide +kernel)
  · refine ⟨(PyData.dict [(.str "a", .int 1)]).shown, fun s => ?_⟩
    have e : reprYD s [.dct [.inr "a"] [.int 1]] = some (.str (PyData.dict [(.str "a", .int 1)]).shown) := if_pos (by decide +kernel)
    exact e
end MP.K01

set_option Elab.async false
set_option linter.all false
set_option maxRecDepth 100000
set_option maxHeartbeats 1000000
namespace MP.K01
open PySem PySem.Spec PyProof.Rows L2 MP
section
variable {x0 x1 x2 x3 x4 x5 x6 x7 x8 x9 x10 x11 : Option Dv} {s : Sto} {w : Dv}
theorem nine_ok {ρ : Env} : cF_law_1 ρ s = .ok { ws := rng 0 8 } s := range1_ok (j := 8) rfl (okR_s (by decide) (by decide))
abbrev E2 (x0 x1 x2 x3 x4 x5 x6 x7 x8 x9 x10 x11 : Option Dv) : Env := [x0, x1, x2, x3, x4, x5, x6, x7, x8, x9, x10, x11]
noncomputable abbrev dueF : FE := mBin addD (mComp cF_law_1 [11] ct_law_1 ci_law_1 ce_law_1) (mLst (mCons (mBin ltD (mVar 5) (mK (.int 7))) (mCons (mBin ltD (mVar 5) (mK (.int 7))) (mCons (mBin eqD (mVar 5) (mK (.int 7))) mNil))))
theorem due_ok : ∀ p, p < 8 → dueF (E2 x0 x1 x2 x3 x4 (some (.int (p : Nat))) x6 x7 x8 x9 x10 x11) s = .ok (.lst (mark p)) s := by
  have go : ∀ (p : Nat), compL none [11] ct_law_1 ci_law_1 ce_law_1 (E2 x0 x1 x2 x3 x4 (some (.int (p : Nat))) x6 x7 x8 x9 x10 x11) (rng 0 8) s = some ((mark p).take 8, s) →
      addD s (.lst ((mark p).take 8)) (.lst [.bl (decide ((p : Int) < 7)), .bl (decide ((p : Int) < 7)), .bl (decide ((p : Int) = 7))]) = some (.lst (mark p)) → dueF (E2 x0 x1 x2 x3 x4 (some (.int (p : Nat))) x6 x7 x8 x9 x10 x11) s = .ok (.lst (mark p)) s := fun p h ha => by
    have c : mComp cF_law_1 [11] ct_law_1 ci_law_1 ce_law_1 (E2 x0 x1 x2 x3 x4 (some (.int (p : Nat))) x6 x7 x8 x9 x10 x11) s = .ok (.lst ((mark p).take 8)) s := by
      unfold mComp
      rw [nine_ok, bind_ok]
      dsimp only
      rw [h]
      dsimp only
      exact if_pos (by show 8 ≤ 16000000; decide)
    exact bin_v c (lst_v (cons_v (bin_v rfl k_ev rfl) (cons_v (bin_v rfl k_ev rfl) (cons_v (bin_v rfl k_ev eq_ii) nil_ev))) (by show 3 ≤ _; decide)) ha
  exact forall8 (go 0 rfl rfl) (go 1 rfl rfl) (go 2 rfl rfl) (go 3 rfl rfl) (go 4 rfl rfl) (go 5 rfl rfl) (go 6 rfl rfl) (go 7 rfl rfl)
theorem pl_bl {b : Bool} : Pl 1 0 (.bl b) (.bool b) := by cases b <;> exact ⟨rfl, by decide +kernel, by decide +kernel, by decide +kernel, by decide +kernel, by decide +kernel⟩
theorem mark_refl : ∀ p, p < 8 → neD s (.lst (mark p)) (.lst (mark p)) = some (.bl false) := fun p _ => by
  have h : Pls 11 0 (mark p) [.bool (p == 0), .bool (p == 1), .bool (p == 2), .bool (p == 3), .bool (p == 4), .bool (p == 5), .bool (p == 6), .bool (p == 7), .bool (decide (p < 7)), .bool (decide (p < 7)), .bool (p == 7)] :=
    pls_cons pl_bl (pls_cons pl_bl (pls_cons pl_bl (pls_cons pl_bl (pls_cons pl_bl (pls_cons pl_bl (pls_cons pl_bl (pls_cons pl_bl (pls_cons pl_bl (pls_cons pl_bl (pls_cons pl_bl pls_nil))))))))))
  exact ne_of_eq (eq_l_refl (pl_lst h) (by decide))
theorem ne_ss {t : Str} : neD s (.str t) (.str t) = some (.bl false) := by
  have e : decide (V.str t = V.str t) = true := decide_eq_true rfl
  show (some (decide (V.str t = V.str t))).map (fun b => Dv.bl (!b)) = _
  rw [e]
  rfl
theorem turn_ok (hw : Good w) {p : Nat} (hp : p < 8) : b_law_1 (E2 x0 x1 x2 x3 (some w) (some (.int (p : Nat))) x6 x7 (some (.lst (mark p))) (some (exo p w)) x10 x11) s = .nx (E2 x0 x1 x2 x3 (some w) (some (.int (p : Nat))) x6 x7 (some (.lst (mark p))) (some (exo p w)) x10 x11) s := by
  obtain ⟨t, ht⟩ := hw
  unfold b_law_1
  refine (ifS_f (or_f (test_v (bin_v (call_v (cons_v (w := exo p w) rfl nil_ev) (marks_ok w s p hp)) (y := .lst (mark p)) rfl (mark_refl p hp)))
    (test_v (bin_v (blt_v (cons_v (call_v (cons_v (w := .int (p : Nat)) rfl (cons_v (w := exo p w) rfl nil_ev)) (kept_ok w s p hp)) nil_ev) (ht s)) (blt_v (cons_v (w := w) rfl nil_ev) (ht s)) ne_ss)))).trans next_ev
theorem place_ok (hw : Good w) {p : Nat} (hp : p < 8) : ∃ y8 y9, b_law_2 (E2 x0 x1 x2 x3 (some w) (some (.int (p : Nat))) (some (exo p w)) (some (exo p w)) x8 x9 x10 x11) s = .nx (E2 x0 x1 x2 x3 (some w) (some (.int (p : Nat))) (some (exo p w)) (some (exo p w)) y8 y9 x10 x11) s := by
  have hF : F_law_1 (E2 x0 x1 x2 x3 (some w) (some (.int (p : Nat))) (some (exo p w)) (some (exo p w)) (some (.lst (mark p))) x9 x10 x11) s = .ok { ws := [exo p w, exo p w] } s := rfl
  obtain ⟨ρ', s', f1, rfl, y9, rfl⟩ := for_ix (g := t_law_1) (body := b_law_1) (fun i ρ s' => s' = s ∧ ∃ y9, ρ = E2 x0 x1 x2 x3 (some w) (some (.int (p : Nat))) (some (exo p w)) (some (exo p w)) (some (.lst (mark p))) y9 x10 x11) hF ⟨rfl, _, rfl⟩ fun i x ρ s' hx hJ => by
    obtain ⟨rfl, y9, rfl⟩ := hJ
    have hx' : x = exo p w := by
      have := List.mem_of_getElem? hx
      simpa using this
    subst hx'
    exact ⟨_, _, _, rfl, .inl (turn_ok hw hp), rfl, _, rfl⟩
  exact ⟨some (.lst (mark p)), y9, seq_nx ((asg_v (due_ok p hp)).trans rfl) f1⟩
theorem lap_ok (hw : Good w) : ∃ y5 y6 y7 y8 y9, mFor F_law_2 t_law_2 b_law_2 (E2 x0 x1 x2 x3 (some w) x5 x6 x7 x8 x9 x10 x11) s = .nx (E2 x0 x1 x2 x3 (some w) y5 y6 y7 y8 y9 x10 x11) s := by
  have hF : F_law_2 (E2 x0 x1 x2 x3 (some w) x5 x6 x7 x8 x9 x10 x11) s = .ok { ws := mds w } s := by
    show (mCall g__law_made (mCons (mVar 4) mNil) _ s).bind _ = _
    rw [call_v (cons_v (w := w) rfl nil_ev) (made_ok w s), bind_ok]
    rfl
  obtain ⟨ρ', s', f1, rfl, y5, y6, y7, y8, y9, rfl⟩ := for_ix (g := t_law_2) (body := b_law_2) (fun i ρ s' => s' = s ∧ ∃ y5 y6 y7 y8 y9, ρ = E2 x0 x1 x2 x3 (some w) y5 y6 y7 y8 y9 x10 x11) hF ⟨rfl, _, _, _, _, _, rfl⟩ fun i x ρ s' hx hJ => by
    obtain ⟨rfl, y5, y6, y7, y8, y9, rfl⟩ := hJ
    have hi : i < 8 := (List.getElem?_eq_some_iff.mp hx).1
    have hx' : x = trip w i := by
      exact forall8 (q := fun i => (mds w)[i]? = some x → x = trip w i) (fun h => by cases h; rfl) (fun h => by cases h; rfl) (fun h => by cases h; rfl) (fun h => by cases h; rfl) (fun h => by cases h; rfl) (fun h => by cases h; rfl) (fun h => by cases h; rfl) (fun h => by cases h; rfl) i hi hx
    subst hx'
    obtain ⟨z8, z9, hb⟩ := place_ok (x0 := x0) (x1 := x1) (x2 := x2) (x3 := x3) (x8 := y8) (x9 := y9) (x10 := x10) (x11 := x11) (s := s') hw hi
    exact ⟨_, _, _, rfl, .inl hb, rfl, _, _, _, _, _, rfl⟩
  exact ⟨_, _, _, _, _, f1⟩
end
theorem fact (ns : List Int) (hn : ns.length ≤ 63) : ∃ s', g_law [.sq (ns.map .int)] [] = .ok (.bl true) s' := by
  obtain ⟨l, hb⟩ := begun_ok hn
  have hc : ns ++ [(ns.length : Int)] ≠ [] := by intro z; exact absurd (congrArg List.length z) (by simp)
  obtain ⟨cs, ecs⟩ : ∃ cs, cs = ns ++ [(ns.length : Int)] := ⟨_, rfl⟩
  rw [← ecs] at hb hc
  let sc : Option Dv := some (.sq (ns.map .int))
  have e0 : startD 12 [.sq (ns.map .int)] = E2 sc none none none none none none none none none none none := rfl
  have e1 : mAsg (mCall (g__law_begun) (mCons (mVar 0) mNil)) (gN 1) (E2 sc none none none none none none none none none none none) [] = .nx (E2 sc (some (.ref 0)) none none none none none none none none none none) (St [] cs l 0) :=
    (asg_v (call_v (cons_v (w := .sq (ns.map .int)) rfl nil_ev) hb)).trans rfl
  obtain ⟨j, hj, j0, j1⟩ : ∃ j : Int, min2D (St [] cs l 0) [.int (ns.length : Int), .int 8] = some (.int j) ∧ 0 ≤ j ∧ j ≤ 8 := by
    refine ⟨if (8 : Int) < ns.length then 8 else ns.length, rfl, ?_, ?_⟩ <;> split <;> omega
  let th : Option Dv := some (.lst things)
  have hF : F_law_3 (E2 sc (some (.ref 0)) th none none none none none none none none none) (St [] cs l 0) = .ok { ws := rng 0 (4 + j).toNat } (St [] cs l 0) :=
    range1_ok (cons_v (bin_v k_ev (blt_v (cons_v (blt_v (cons_v (w := .sq (ns.map .int)) rfl nil_ev) (len_sq.trans (by rw [List.length_map]))) (cons_v k_ev nil_ev)) hj) add_ii) nil_ev) (okR_s (by omega) (by omega))
  obtain ⟨ρ', s', f1, l', p', y3, y4, y5, y6, y7, y8, y9, rfl, g0, g1, rfl⟩ := for_ix (g := t_law_3) (body := b_law_3)
    (fun i ρ s' => ∃ l p y3 y4 y5 y6 y7 y8 y9, s' = St [] cs l p ∧ 0 ≤ p ∧ p ≤ (i : Int) ∧ ρ = E2 sc (some (.ref 0)) th y3 y4 y5 y6 y7 y8 y9 none none) hF ⟨l, 0, _, _, _, _, _, _, _, rfl, by omega, by omega, rfl⟩ fun i x ρ s' hx hJ => by
      obtain ⟨l', p', y3, y4, y5, y6, y7, y8, y9, rfl, g0, g1, rfl⟩ := hJ
      obtain ⟨hi, rfl⟩ := rng_get hx
      obtain ⟨w, l2, p2, hw, q0, q1, hs⟩ : ∃ w l2 p2, w ∈ things ∧ 0 ≤ p2 ∧ p2 ≤ p' + 1 ∧ mIf (mTest (mBin ltD (mVar 3) (mK (.int 2)))) (mBin ixA (mVar 2) (mVar 3)) (mCall (g__law_of) (mCons (mVar 1) (mCons (mVar 2) mNil))) (E2 sc (some (.ref 0)) th (some (.int (0 + (i : Int)))) y4 y5 y6 y7 y8 y9 none none) (St [] cs l' p') = .ok w (St [] cs l2 p2) := by
        have ht : mTest (mBin ltD (mVar 3) (mK (.int 2))) (E2 sc (some (.ref 0)) th (some (.int (0 + (i : Int)))) y4 y5 y6 y7 y8 y9 none none) (St [] cs l' p') = .ok (decide (0 + (i : Int) < 2)) (St [] cs l' p') := test_v (bin_v rfl k_ev rfl)
        by_cases h2 : i < 2
        · have hl : i < things.length := by show i < 14; omega
          refine ⟨things[i], l', p', List.getElem_mem hl, g0, by omega, ?_⟩
          rw [decide_eq_true (show 0 + (i : Int) < 2 by omega)] at ht
          refine if_vt ht (bin_v (x := .lst things) (y := .int (i : Nat)) rfl (by rw [Int.zero_add]; rfl) (ix_lst (List.getElem?_eq_getElem hl)))
        · rw [decide_eq_false (show ¬ 0 + (i : Int) < 2 by omega)] at ht
          obtain ⟨w, l2, p2, hw, h1, h2, h3⟩ := law_of_ok (tl := []) (l := l') (p := p') (ws := things) hc g0 (by omega) (by simp) (by decide)
          exact ⟨w, l2, p2, hw, h2, h3, if_vf ht (call_v (cons_v (w := .ref 0) rfl (cons_v (w := .lst things) rfl nil_ev)) h1)⟩
      obtain ⟨z5, z6, z7, z8, z9, hl⟩ := lap_ok (x0 := sc) (x1 := some (.ref 0)) (x2 := th) (x3 := some (.int (0 + (i : Int)))) (x5 := y5) (x6 := y6) (x7 := y7) (x8 := y8) (x9 := y9) (x10 := none) (x11 := none) (s := St [] cs l2 p2) (things_ok w hw)
      exact ⟨_, _, _, rfl, .inl (seq_nx ((asg_v hs).trans rfl) hl), l2, p2, _, _, _, _, _, _, _, rfl, q0, by omega, rfl⟩
  refine ⟨[], ?_⟩
  unfold g_law d_law
  rw [den_ev, e0]
  refine fin_nx e1 (fin_nx (ρ1 := E2 sc (some (.ref 0)) th none none none none none none none none none) rfl (fin_nx f1 (fin_nx (ρ1 := E2 sc (some (.ref 0)) th y3 y4 y5 y6 y7 y8 y9 (some (.exn 0)) none) rfl (fin_v (w := .bl true) (ret_v (bin_v (z := .bl true) (call_v (cons_v (w := .exn 0) rfl nil_ev) (base_ok _)) (y := .lst (List.replicate 8 (.bl false) ++ [.bl true, .bl true, .bl false])) rfl ?_)) ?_))))
  · exact eq_l_refl (pl_lst (pls_cons pl_bl (pls_cons pl_bl (pls_cons pl_bl (pls_cons pl_bl (pls_cons pl_bl (pls_cons pl_bl (pls_cons pl_bl (pls_cons pl_bl (pls_cons pl_bl (pls_cons pl_bl (pls_cons pl_bl pls_nil)))))))))))) (by decide)
  · rfl
end MP.K01

set_option Elab.async false
set_option linter.all false
set_option maxRecDepth 100000
open PySem PySem.W PyProof.Rows
set_option maxHeartbeats 0 in
theorem PySem.Challenge.cw_bestoflast_k01_errors_holds : PySem.Challenge.rw_bestoflast_k01_errors.Holds := by
  w_on; o_law; k_head; (case hw => w_witness2)
  k_fill
  refine MP.walk_GTs (l := PySem.Challenge.rw_bestoflast_k01_errors) (n := 63) (k := 4) (x := "script") (ys := []) (qs := []) rfl (by decide) rfl ⟨rfl, by decide, by decide⟩ (fun w h Y => PySem.W.kIn_of Y) ?Y ?F
  case Y =>
    intro y hy
    exact absurd hy (by simp)
  case F =>
    intro w mg fa h KX G hmg
    refine' MP.K01.all_mk KX G hmg ?a0 ?l0 ?c0 ?k0 ?a1 ?l1 ?c1 ?k1 ?a2 ?l2 ?c2 ?k2 ?a3 ?l3 ?c3 ?k3 ?a4 ?l4 ?c4 ?k4 ?a5 ?l5 ?c5 ?k5 ?a6 ?l6 ?c6 ?k6 ?z0 ?z1 ?z2 ?z3 ?z4 ?z5 ?z6 ?z7 ?z8 ?ka0 ?ka1 ?ka2 ?ka3 ?ka4 ?ka5 ?ka6 ?ka7 ?ka8 ?kg0 ?kk0 ?ks0 ?kd0 ?kc0 ?km0 ?ki0 ?ky0 ?kv0 ?kw0 ?kf0_line ?kf0_number ?kf0_part ?kf0_value ?s0_0 ?s0_1 ?s0_2 ?s0_3 ?s0_4 ?s0_5 ?s0_6 ?s0_7 ?s0_8 ?kg1 ?kk1 ?ks1 ?kd1 ?kc1 ?km1 ?ki1 ?ky1 ?kv1 ?kw1 ?kf1_line ?kf1_number ?kf1_part ?kf1_value ?s1_0 ?s1_1 ?s1_2 ?s1_3 ?s1_4 ?s1_5 ?s1_6 ?s1_7 ?s1_8 ?kg2 ?kk2 ?ks2 ?kd2 ?kc2 ?km2 ?ki2 ?ky2 ?kv2 ?kw2 ?kf2_line ?kf2_number ?kf2_part ?kf2_value ?s2_0 ?s2_1 ?s2_2 ?s2_3 ?s2_4 ?s2_5 ?s2_6 ?s2_7 ?s2_8 ?kg3 ?kk3 ?ks3 ?kd3 ?kc3 ?km3 ?ki3 ?ky3 ?kv3 ?kw3 ?kf3_line ?kf3_number ?kf3_part ?kf3_value ?s3_0 ?s3_1 ?s3_2 ?s3_3 ?s3_4 ?s3_5 ?s3_6 ?s3_7 ?s3_8 ?kg4 ?kk4 ?ks4 ?kd4 ?kc4 ?km4 ?ki4 ?ky4 ?kv4 ?kw4 ?kf4_line ?kf4_number ?kf4_part ?kf4_value ?s4_0 ?s4_1 ?s4_2 ?s4_3 ?s4_4 ?s4_5 ?s4_6 ?s4_7 ?s4_8 ?kg5 ?kk5 ?ks5 ?kd5 ?kc5 ?km5 ?ki5 ?ky5 ?kv5 ?kw5 ?kf5_line ?kf5_number ?kf5_part ?kf5_value ?s5_0 ?s5_1 ?s5_2 ?s5_3 ?s5_4 ?s5_5 ?s5_6 ?s5_7 ?s5_8 ?kg6 ?kk6 ?ks6 ?kd6 ?kc6 ?km6 ?ki6 ?ky6 ?kv6 ?kw6 ?kf6_line ?kf6_number ?kf6_part ?kf6_value ?s6_0 ?s6_1 ?s6_2 ?s6_3 ?s6_4 ?s6_5 ?s6_6 ?s6_7 ?s6_8 ?kg7 ?kk7 ?ks7 ?kd7 ?kc7 ?km7 ?ki7 ?ky7 ?kv7 ?kw7 ?kf7_line ?kf7_number ?kf7_part ?kf7_value ?s7_0 ?s7_1 ?s7_2 ?s7_3 ?s7_4 ?s7_5 ?s7_6 ?s7_7 ?s7_8 ?kg8 ?kk8 ?ks8 ?kd8 ?kc8 ?km8 ?ki8 ?ky8 ?kv8 ?kw8 ?kf8_line ?kf8_number ?kf8_part ?kf8_value ?s8_0 ?s8_1 ?s8_2 ?s8_3 ?s8_4 ?s8_5 ?s8_6 ?s8_7 ?s8_8 ?kn ?kt ?xq0 ?xk0 ?xl1 ?xe1 ?xs1 ?xk1 ?xi1 ?xy1 ?xf1 ?xc1 ?xl2 ?xe2 ?xs2 ?xk2 ?xi2 ?xy2 ?xf2 ?xc2 ?xl3 ?xe3 ?xs3 ?xk3 ?xi3 ?xy3 ?xf3 ?xc3 ?xl4 ?xe4 ?xs4 ?xk4 ?xi4 ?xy4 ?xf4 ?xc4 ?xl5 ?xe5 ?xs5 ?xk5 ?xi5 ?xy5 ?xf5 ?xc5 ?xl6 ?xe6 ?xs6 ?xk6 ?xi6 ?xy6 ?xf6 ?xc6 ?xl7 ?xe7 ?xs7 ?xk7 ?xi7 ?xy7 ?xf7 ?xc7 ?xl8 ?xe8 ?xs8 ?xk8 ?xi8 ?xy8 ?xf8 ?xc8  MP.K01.fact
    (case a0 => k_is)
    (case l0 => k_is)
    (case c0 => k_is)
    (case k0 => k_is)
    (case a1 => k_is)
    (case l1 => k_is)
    (case c1 => k_is)
    (case k1 => k_is)
    (case a2 => k_is)
    (case l2 => k_is)
    (case c2 => k_is)
    (case k2 => k_is)
    (case a3 => k_is)
    (case l3 => k_is)
    (case c3 => k_is)
    (case k3 => k_is)
    (case a4 => k_is)
    (case l4 => k_is)
    (case c4 => k_is)
    (case k4 => k_is)
    (case a5 => k_is)
    (case l5 => k_is)
    (case c5 => k_is)
    (case k5 => k_is)
    (case a6 => k_is)
    (case l6 => k_is)
    (case c6 => k_is)
    (case k6 => k_is)
    (case z0 => k_is)
    (case z1 => k_is)
    (case z2 => k_is)
    (case z3 => k_is)
    (case z4 => k_is)
    (case z5 => k_is)
    (case z6 => k_is)
    (case z7 => k_is)
    (case z8 => k_is)
    (case ka0 => k_is)
    (case ka1 => k_is)
    (case ka2 => k_is)
    (case ka3 => k_is)
    (case ka4 => k_is)
    (case ka5 => k_is)
    (case ka6 => k_is)
    (case ka7 => k_is)
    (case ka8 => k_is)
    (case kg0 => k_is)
    (case kk0 => k_is)
    (case ks0 => k_is)
    (case kd0 => k_is)
    (case kc0 => k_is)
    (case km0 => k_is)
    (case ki0 => k_is)
    (case ky0 => k_is)
    (case kv0 => k_is)
    (case kw0 => k_is)
    (case kf0_line => k_is)
    (case kf0_number => k_is)
    (case kf0_part => k_is)
    (case kf0_value => k_is)
    (case s0_0 => k_is)
    (case s0_1 => k_is)
    (case s0_2 => k_is)
    (case s0_3 => k_is)
    (case s0_4 => k_is)
    (case s0_5 => k_is)
    (case s0_6 => k_is)
    (case s0_7 => k_is)
    (case s0_8 => k_is)
    (case kg1 => k_is)
    (case kk1 => k_is)
    (case ks1 => k_is)
    (case kd1 => k_is)
    (case kc1 => k_is)
    (case km1 => k_is)
    (case ki1 => k_is)
    (case ky1 => k_is)
    (case kv1 => k_is)
    (case kw1 => k_is)
    (case kf1_line => k_is)
    (case kf1_number => k_is)
    (case kf1_part => k_is)
    (case kf1_value => k_is)
    (case s1_0 => k_is)
    (case s1_1 => k_is)
    (case s1_2 => k_is)
    (case s1_3 => k_is)
    (case s1_4 => k_is)
    (case s1_5 => k_is)
    (case s1_6 => k_is)
    (case s1_7 => k_is)
    (case s1_8 => k_is)
    (case kg2 => k_is)
    (case kk2 => k_is)
    (case ks2 => k_is)
    (case kd2 => k_is)
    (case kc2 => k_is)
    (case km2 => k_is)
    (case ki2 => k_is)
    (case ky2 => k_is)
    (case kv2 => k_is)
    (case kw2 => k_is)
    (case kf2_line => k_is)
    (case kf2_number => k_is)
    (case kf2_part => k_is)
    (case kf2_value => k_is)
    (case s2_0 => k_is)
    (case s2_1 => k_is)
    (case s2_2 => k_is)
    (case s2_3 => k_is)
    (case s2_4 => k_is)
    (case s2_5 => k_is)
    (case s2_6 => k_is)
    (case s2_7 => k_is)
    (case s2_8 => k_is)
    (case kg3 => k_is)
    (case kk3 => k_is)
    (case ks3 => k_is)
    (case kd3 => k_is)
    (case kc3 => k_is)
    (case km3 => k_is)
    (case ki3 => k_is)
    (case ky3 => k_is)
    (case kv3 => k_is)
    (case kw3 => k_is)
    (case kf3_line => k_is)
    (case kf3_number => k_is)
    (case kf3_part => k_is)
    (case kf3_value => k_is)
    (case s3_0 => k_is)
    (case s3_1 => k_is)
    (case s3_2 => k_is)
    (case s3_3 => k_is)
    (case s3_4 => k_is)
    (case s3_5 => k_is)
    (case s3_6 => k_is)
    (case s3_7 => k_is)
    (case s3_8 => k_is)
    (case kg4 => k_is)
    (case kk4 => k_is)
    (case ks4 => k_is)
    (case kd4 => k_is)
    (case kc4 => k_is)
    (case km4 => k_is)
    (case ki4 => k_is)
    (case ky4 => k_is)
    (case kv4 => k_is)
    (case kw4 => k_is)
    (case kf4_line => k_is)
    (case kf4_number => k_is)
    (case kf4_part => k_is)
    (case kf4_value => k_is)
    (case s4_0 => k_is)
    (case s4_1 => k_is)
    (case s4_2 => k_is)
    (case s4_3 => k_is)
    (case s4_4 => k_is)
    (case s4_5 => k_is)
    (case s4_6 => k_is)
    (case s4_7 => k_is)
    (case s4_8 => k_is)
    (case kg5 => k_is)
    (case kk5 => k_is)
    (case ks5 => k_is)
    (case kd5 => k_is)
    (case kc5 => k_is)
    (case km5 => k_is)
    (case ki5 => k_is)
    (case ky5 => k_is)
    (case kv5 => k_is)
    (case kw5 => k_is)
    (case kf5_line => k_is)
    (case kf5_number => k_is)
    (case kf5_part => k_is)
    (case kf5_value => k_is)
    (case s5_0 => k_is)
    (case s5_1 => k_is)
    (case s5_2 => k_is)
    (case s5_3 => k_is)
    (case s5_4 => k_is)
    (case s5_5 => k_is)
    (case s5_6 => k_is)
    (case s5_7 => k_is)
    (case s5_8 => k_is)
    (case kg6 => k_is)
    (case kk6 => k_is)
    (case ks6 => k_is)
    (case kd6 => k_is)
    (case kc6 => k_is)
    (case km6 => k_is)
    (case ki6 => k_is)
    (case ky6 => k_is)
    (case kv6 => k_is)
    (case kw6 => k_is)
    (case kf6_line => k_is)
    (case kf6_number => k_is)
    (case kf6_part => k_is)
    (case kf6_value => k_is)
    (case s6_0 => k_is)
    (case s6_1 => k_is)
    (case s6_2 => k_is)
    (case s6_3 => k_is)
    (case s6_4 => k_is)
    (case s6_5 => k_is)
    (case s6_6 => k_is)
    (case s6_7 => k_is)
    (case s6_8 => k_is)
    (case kg7 => k_is)
    (case kk7 => k_is)
    (case ks7 => k_is)
    (case kd7 => k_is)
    (case kc7 => k_is)
    (case km7 => k_is)
    (case ki7 => k_is)
    (case ky7 => k_is)
    (case kv7 => k_is)
    (case kw7 => k_is)
    (case kf7_line => k_is)
    (case kf7_number => k_is)
    (case kf7_part => k_is)
    (case kf7_value => k_is)
    (case s7_0 => k_is)
    (case s7_1 => k_is)
    (case s7_2 => k_is)
    (case s7_3 => k_is)
    (case s7_4 => k_is)
    (case s7_5 => k_is)
    (case s7_6 => k_is)
    (case s7_7 => k_is)
    (case s7_8 => k_is)
    (case kg8 => k_is)
    (case kk8 => k_is)
    (case ks8 => k_is)
    (case kd8 => k_is)
    (case kc8 => k_is)
    (case km8 => k_is)
    (case ki8 => k_is)
    (case ky8 => k_is)
    (case kv8 => k_is)
    (case kw8 => k_is)
    (case kf8_line => k_is)
    (case kf8_number => k_is)
    (case kf8_part => k_is)
    (case kf8_value => k_is)
    (case s8_0 => k_is)
    (case s8_1 => k_is)
    (case s8_2 => k_is)
    (case s8_3 => k_is)
    (case s8_4 => k_is)
    (case s8_5 => k_is)
    (case s8_6 => k_is)
    (case s8_7 => k_is)
    (case s8_8 => k_is)
    (case kn => k_is)
    (case kt => k_is)
    (case xq0 => first | k_exc | kx_is)
    (case xk0 => k_is)
    (case xl1 => k_is)
    (case xe1 => rfl)
    (case xs1 => k_is)
    (case xk1 => k_is)
    (case xi1 => k_is)
    (case xy1 => k_is)
    (case xf1 => k_is)
    (case xc1 => k_is)
    (case xl2 => k_is)
    (case xe2 => rfl)
    (case xs2 => k_is)
    (case xk2 => k_is)
    (case xi2 => k_is)
    (case xy2 => k_is)
    (case xf2 => k_is)
    (case xc2 => k_is)
    (case xl3 => k_is)
    (case xe3 => rfl)
    (case xs3 => k_is)
    (case xk3 => k_is)
    (case xi3 => k_is)
    (case xy3 => k_is)
    (case xf3 => k_is)
    (case xc3 => k_is)
    (case xl4 => k_is)
    (case xe4 => rfl)
    (case xs4 => k_is)
    (case xk4 => k_is)
    (case xi4 => k_is)
    (case xy4 => k_is)
    (case xf4 => k_is)
    (case xc4 => k_is)
    (case xl5 => k_is)
    (case xe5 => rfl)
    (case xs5 => k_is)
    (case xk5 => k_is)
    (case xi5 => k_is)
    (case xy5 => k_is)
    (case xf5 => k_is)
    (case xc5 => k_is)
    (case xl6 => k_is)
    (case xe6 => rfl)
    (case xs6 => k_is)
    (case xk6 => k_is)
    (case xi6 => k_is)
    (case xy6 => k_is)
    (case xf6 => k_is)
    (case xc6 => k_is)
    (case xl7 => k_is)
    (case xe7 => rfl)
    (case xs7 => k_is)
    (case xk7 => k_is)
    (case xi7 => k_is)
    (case xy7 => k_is)
    (case xf7 => k_is)
    (case xc7 => k_is)
    (case xl8 => k_is)
    (case xe8 => rfl)
    (case xs8 => k_is)
    (case xk8 => k_is)
    (case xi8 => k_is)
    (case xy8 => k_is)
    (case xf8 => k_is)
    (case xc8 => k_is)

