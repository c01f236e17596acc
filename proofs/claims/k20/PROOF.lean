import PyProof.Rows.All
import Wide.All
import OpenK.AllK
import Wide.FinOn
import HandS.ForMost
import HandS.ForExc
import HandS.WideBits
import HandS.Wide
import HandS.TupAny
import HandS.IsInst
import HandS.SortInts
import HandS.CallSlots
import HandS.MakeKw
import HandS.Flow
import HandS.ExcInit
import HandS.ExcValue
import HandS.Lambda
import HandS.TupMul
import KE.GoesNew
import KE.GoesMore
import KE.GoesEnum
import HandS.SetFor
import HandS.Strs
import HandS.Style
import KE.DataMinMax
import HandS.SortKw
import HandS.Zip
import KE.KDictZip
import HandS.ExcIs
import HandS.ExcField
import KE.KExcIs
import HandS.TryMany
import KE.KDflt
import HandS.EndTab
import HandS.TryOnly
import PyProof.EqAt
import PyProof.NeKinds
import HandS.StrMore
import HandS.FStr
import HandS.RaiseMore
import KE.GoesEnumKw
import HandS.Text
import PyProof.StrLaws
import PyProof.StrLawsRepr
import PyProof.StrBlock2
import HandS.HeadWalk
import HandS.HeadEnd
import PySem.Challenge.RW_bestoflast_k20_texts_refused
set_option Elab.async false
set_option linter.all false
set_option maxRecDepth 100000
set_option maxHeartbeats 4000000
namespace MP
open PySem PySem.Spec PyProof.Rows L2

/-! ### data -/
inductive Dv where
  | non | bl (b : Bool) | int (i : Int) | str (x : Str) | ty (n : String) | cl (c : Nat) | ref (n : Nat)
  | tup (ws : List Dv) | lst (ws : List Dv) | sq (ws : List Dv) | dct (ks : List Key) (ws : List Dv) | exc (c : Nat) (f : Str) (w : Dv) | exn (c : Nat) | clo (a c : Addr) (q : Str) (ws : List Dv) (vs : List V)
  deriving Inhabited
inductive Ob where
  | lst (ws : List Dv) | dct (kws : List (Key × Dv)) | tab (n : Nat) (q : Str)
  deriving Inhabited
abbrev Sto := List Ob
abbrev Env := List (Option Dv)
structure Ex where
  c : Nat
  f : Str
  w : Dv
inductive R (α : Type) where
  | ok (a : α) (s : Sto) | er (x : Ex) (s : Sto) | no
def R.bind {α β : Type} (r : R α) (k : α → Sto → R β) : R β := match r with
  | .ok a s => k a s | .er x s => .er x s | .no => .no
inductive C where
  | nx (ρ : Env) (s : Sto) | rt (w : Dv) (s : Sto) | bk (ρ : Env) (s : Sto) | ct (ρ : Env) (s : Sto) | er (x : Ex) (ρ : Env) (s : Sto) | no
abbrev FE := Env → Sto → R Dv
abbrev FT := Env → Sto → R Bool
abbrev FA := Env → Sto → R (List Dv)
abbrev FS := Env → Sto → C
abbrev Fn := List Dv → Sto → R Dv
def lim : Nat := 16000000

/-! ### how data lies in the heap -/
abbrev Mu := Nat → Option Addr
/-- what is fixed: the written part, the classes of exceptions, the tables of code objects -/
structure Ct where
  K : PySem.W.Frag
  cls : Nat → Addr
  tb : Nat → Addr
abbrev Zs := Addr → Prop
def Fz (μ : Mu) (Z : Zs) (a : Addr) : Prop := (∀ n, μ n ≠ some a) ∧ ¬ Z a
def KL (K : PySem.W.Frag) (a : Addr) (xs : List V) : Prop := ∃ (o : Obj) (its : Array Value) (n : Nat), K.lookup a = some o ∧ o.cls = .type "list" ∧ o.dict = none ∧ o.data = .seq its n ∧ its.size ≤ sizeLine ∧ Vals xs its.toList
def KT (K : PySem.W.Frag) (a : Addr) (xs : List V) : Prop := ∃ (o : Obj) (its : Array Value) (n : Nat), K.lookup a = some o ∧ o.cls = .type "tuple" ∧ o.data = .seq its n ∧ its.size ≤ sizeLine ∧ Vals xs its.toList
def AtL (K : PySem.W.Frag) (H : Hp) (μ : Mu) (Z : Zs) (a : Addr) (xs : List V) : Prop := (Rd H a (.lst xs) ∧ Fz μ Z a) ∨ KL K a xs
def AtT (K : PySem.W.Frag) (H : Hp) (μ : Mu) (Z : Zs) (a : Addr) (xs : List V) : Prop := (Rd H a (.tup xs) ∧ Fz μ Z a) ∨ KT K a xs
theorem AtL.sq {K : PySem.W.Frag} {H : Hp} {μ : Mu} {Z : Zs} {a : Addr} {xs : List V} (h : AtL K H μ Z a xs) : SqL K H a xs := h.elim (fun z => .inl z.1) .inr
theorem AtT.sq {K : PySem.W.Frag} {H : Hp} {μ : Mu} {Z : Zs} {a : Addr} {xs : List V} (h : AtT K H μ Z a xs) : SqT K H a xs := h.elim (fun z => .inl z.1) .inr

structure Evo (H : Hp) (μ : Mu) (H' : Hp) (μ' : Mu) : Prop where
  keep : ∀ a o, H a = some o → (∀ n, μ n ≠ some a) → H' a = some o
  mu : ∀ n a, μ n = some a → μ' n = some a
  new : ∀ n a, μ' n = some a → μ n = some a ∨ H a = none
  stay : ∀ n a, μ n = some a → H a ≠ none → H' a ≠ none
section
variable {H H1 H' : Hp} {μ μ1 μ' : Mu} {Z : Zs} {a : Addr} {o : HO} {xs : List V} {K : PySem.W.Frag}
theorem Evo.refl : Evo H μ H μ := ⟨fun _ _ h _ => h, fun _ _ h => h, fun _ _ h => .inl h, fun _ _ _ h => h⟩
theorem Evo.alive (e : Evo H μ H' μ') (h : H a ≠ none) : H' a ≠ none := by
  by_cases hm : ∃ n, μ n = some a
  · obtain ⟨n, hn⟩ := hm
    exact e.stay n a hn h
  · cases q : H a with
    | none => exact absurd q h
    | some o => rw [e.keep a o q (fun n hn => hm ⟨n, hn⟩)]; intro z; cases z
theorem Evo.fz (e : Evo H μ H' μ') (h : H a ≠ none) (f : Fz μ Z a) : Fz μ' Z a := ⟨fun n hn => by
  rcases e.new n a hn with q | q
  · exact f.1 n q
  · exact h q, f.2⟩
theorem Evo.trans (e : Evo H μ H1 μ1) (f : Evo H1 μ1 H' μ') : Evo H μ H' μ' where
  keep := fun a o h hn => by
    have h1 := e.keep a o h hn
    exact f.keep a o h1 fun n q => by
      rcases e.new n a q with z | z
      · exact hn n z
      · rw [h] at z; cases z
  mu := fun n a h => f.mu n a (e.mu n a h)
  new := fun n a h => by
    rcases f.new n a h with q | q
    · exact e.new n a q
    · right
      cases z : H a with
      | none => rfl
      | some o => exact absurd q (e.alive (by rw [z]; intro y; cases y))
  stay := fun n a h q => f.alive (e.alive q)
theorem Rd.alive (h : Rd H a o) : H a ≠ none := by
  rcases h with h | ⟨_, h⟩ <;> (rw [h]; intro z; cases z)
theorem Rd.evo (e : Evo H μ H' μ') (h : Rd H a o) (f : Fz μ Z a) : Rd H' a o := by
  rcases h with h | ⟨u, h⟩
  · exact .inl (e.keep _ _ h f.1)
  · exact .inr ⟨u, e.keep _ _ h f.1⟩
theorem AtL.mono (e : Evo H μ H' μ') (h : AtL K H μ Z a xs) : AtL K H' μ' Z a xs := h.elim (fun ⟨r, f⟩ => .inl ⟨Rd.evo e r f, e.fz (Rd.alive r) f⟩) .inr
theorem AtT.mono (e : Evo H μ H' μ') (h : AtT K H μ Z a xs) : AtT K H' μ' Z a xs := h.elim (fun ⟨r, f⟩ => .inl ⟨Rd.evo e r f, e.fz (Rd.alive r) f⟩) .inr
/-- a new object -/
theorem Evo.laid {p : Addr} (hp : H p = none) : Evo H μ (upd H p o) μ where
  keep := fun a o h _ => by rw [upd_ne (ne_of_none h hp)]; exact h
  mu := fun _ _ h => h
  new := fun _ _ h => .inl h
  stay := fun n a _ h => by
    by_cases e : a = p
    · subst e; exact absurd hp h
    · rw [upd_ne e]; exact h
end

/-- an exception of the class at C, held as a value; its dict is at dx -/
def ExK (a C dx : Addr) : HO := .ext fun h => ∃ (oe : Obj) (vs : Array Value), h.get? a = some oe ∧ Zc (.ref C) (some dx) oe ∧ oe.data = .fields vs
mutual
def RV (Γ : Ct) (H : Hp) (μ : Mu) (Z : Zs) : Dv → V → Prop
  | .non, v => v = .non
  | .bl b, v => v = .bl b
  | .int i, v => v = .int i
  | .str x, v => v = .str x
  | .ty n, v => v = .ty n
  | .cl c, v => v = .ref (Γ.cls c)
  | .ref n, v => ∃ a, v = .ref a ∧ μ n = some a
  | .tup ws, v => ∃ a xs, v = .ref a ∧ AtT Γ.K H μ Z a xs ∧ RVs Γ H μ Z ws xs
  | .lst ws, v => ∃ a xs, v = .ref a ∧ H a = some (.lst xs) ∧ Fz μ Z a ∧ RVs Γ H μ Z ws xs
  | .sq ws, v => ∃ a xs, v = .ref a ∧ AtL Γ.K H μ Z a xs ∧ RVs Γ H μ Z ws xs
  | .dct ks ws, v => ∃ a kvs, v = .ref a ∧ H a = some (.dK kvs) ∧ Fz μ Z a ∧ kvs.map (·.1) = ks ∧ RVs Γ H μ Z ws (kvs.map (·.2))
  | .exc c f w, v => ∃ a dx x, v = .ref a ∧ H a = some (ExK a (Γ.cls c) dx) ∧ Fz μ Z a ∧ H dx = some (.xd [(f, x)]) ∧ Fz μ Z dx ∧ RV Γ H μ Z w x
  | .exn c, v => ∃ a, v = .ref a ∧ H a = some (ExO (.ref (Γ.cls c)) a) ∧ Fz μ Z a
  | .clo a c q ws vs, v => v = .ref a ∧ H c = some (LamX.CodeO c q) ∧ Fz μ Z c ∧ RVs Γ H μ Z ws vs
def RVs (Γ : Ct) (H : Hp) (μ : Mu) (Z : Zs) : List Dv → List V → Prop
  | [], vs => vs = []
  | w :: ws, vs => ∃ x xs, vs = x :: xs ∧ RV Γ H μ Z w x ∧ RVs Γ H μ Z ws xs
end
section
variable {Γ : Ct} {H H1 H' : Hp} {μ μ1 μ' : Mu} {Z Z' : Zs}
mutual
theorem RV.mono (e : Evo H μ H' μ') : ∀ (w : Dv) {v : V}, RV Γ H μ Z w v → RV Γ H' μ' Z w v
  | .non, _, h => h
  | .bl _, _, h => h
  | .int _, _, h => h
  | .str _, _, h => h
  | .ty _, _, h => h
  | .cl _, _, h => h
  | .ref n, _, h => by
    obtain ⟨a, h1, h2⟩ := h
    exact ⟨a, h1, e.mu n a h2⟩
  | .tup ws, _, h => by
    obtain ⟨a, xs, h1, h2, h3⟩ := h
    exact ⟨a, xs, h1, h2.mono e, RVs.mono e ws h3⟩
  | .lst ws, _, h => by
    obtain ⟨a, xs, h1, h2, h3, h4⟩ := h
    exact ⟨a, xs, h1, e.keep _ _ h2 h3.1, e.fz (by rw [h2]; intro z; cases z) h3, RVs.mono e ws h4⟩
  | .sq ws, _, h => by
    obtain ⟨a, xs, h1, h2, h3⟩ := h
    exact ⟨a, xs, h1, h2.mono e, RVs.mono e ws h3⟩
  | .dct ks ws, _, h => by
    obtain ⟨a, kvs, h1, h2, h3, h4, h5⟩ := h
    exact ⟨a, kvs, h1, e.keep _ _ h2 h3.1, e.fz (by rw [h2]; intro z; cases z) h3, h4, RVs.mono e ws h5⟩
  | .exc c f w, _, h => by
    obtain ⟨a, dx, x, h1, h2, h3, h4, h5, h6⟩ := h
    exact ⟨a, dx, x, h1, e.keep _ _ h2 h3.1, e.fz (by rw [h2]; intro z; cases z) h3, e.keep _ _ h4 h5.1, e.fz (by rw [h4]; intro z; cases z) h5, RV.mono e w h6⟩
  | .exn c, _, h => by
    obtain ⟨a, h1, h2, h3⟩ := h
    exact ⟨a, h1, e.keep _ _ h2 h3.1, e.fz (by rw [h2]; intro z; cases z) h3⟩
  | .clo a c q ws vs, _, h => by
    obtain ⟨h1, h2, h3, h4⟩ := h
    exact ⟨h1, e.keep _ _ h2 h3.1, e.fz (by rw [h2]; intro z; cases z) h3, RVs.mono e ws h4⟩
theorem RVs.mono (e : Evo H μ H' μ') : ∀ (ws : List Dv) {vs : List V}, RVs Γ H μ Z ws vs → RVs Γ H' μ' Z ws vs
  | [], _, h => h
  | w :: ws, _, h => by
    obtain ⟨x, xs, h1, h2, h3⟩ := h
    exact ⟨x, xs, h1, RV.mono e w h2, RVs.mono e ws h3⟩
end
/-- what is hidden may change -/
structure EvoZ (Z : Zs) (H : Hp) (μ : Mu) (H' : Hp) (μ' : Mu) : Prop where
  keep : ∀ a o, H a = some o → (∀ n, μ n ≠ some a) → ¬ Z a → H' a = some o
  mu : ∀ n a, μ n = some a → μ' n = some a
  new : ∀ n a, μ' n = some a → μ n = some a ∨ H a = none
  live : ∀ a, H a ≠ none → H' a ≠ none
theorem Evo.z {H H' : Hp} {μ μ' : Mu} {Z : Zs} (e : Evo H μ H' μ') : EvoZ Z H μ H' μ' := ⟨fun a o h hn _ => e.keep a o h hn, e.mu, e.new, fun _ h => e.alive h⟩
theorem EvoZ.more {H H' : Hp} {μ μ' : Mu} {Z Z' : Zs} (h : ∀ a, Z a → Z' a) (e : EvoZ Z H μ H' μ') : EvoZ Z' H μ H' μ' := ⟨fun a o q hn z => e.keep a o q hn fun y => z (h a y), e.mu, e.new, e.live⟩
theorem EvoZ.trans {H H1 H' : Hp} {μ μ1 μ' : Mu} {Z : Zs} (e : EvoZ Z H μ H1 μ1) (f : EvoZ Z H1 μ1 H' μ') : EvoZ Z H μ H' μ' where
  keep := fun a o h hn z => by
    have h1 := e.keep a o h hn z
    exact f.keep a o h1 (fun n q => by
      rcases e.new n a q with y | y
      · exact hn n y
      · rw [h] at y; cases y) z
  mu := fun n a h => f.mu n a (e.mu n a h)
  new := fun n a h => by
    rcases f.new n a h with q | q
    · exact e.new n a q
    · right
      cases z : H a with
      | none => rfl
      | some o => exact absurd q (e.live a (by rw [z]; intro y; cases y))
  live := fun a h => f.live a (e.live a h)
theorem EvoZ.fz {H H' : Hp} {μ μ' : Mu} {Z : Zs} {a : Addr} (e : EvoZ Z H μ H' μ') (h : H a ≠ none) (f : Fz μ Z a) : Fz μ' Z a := ⟨fun n hn => by
  rcases e.new n a hn with q | q
  · exact f.1 n q
  · exact h q, f.2⟩
theorem Rd.evoZ {H H' : Hp} {μ μ' : Mu} {Z : Zs} {a : Addr} {o : HO} (e : EvoZ Z H μ H' μ') (h : Rd H a o) (f : Fz μ Z a) : Rd H' a o := by
  rcases h with h | ⟨u, h⟩
  · exact .inl (e.keep _ _ h f.1 f.2)
  · exact .inr ⟨u, e.keep _ _ h f.1 f.2⟩
theorem AtL.monoZ {K : PySem.W.Frag} {H H' : Hp} {μ μ' : Mu} {Z : Zs} {a : Addr} {xs : List V} (e : EvoZ Z H μ H' μ') (h : AtL K H μ Z a xs) : AtL K H' μ' Z a xs := h.elim (fun ⟨r, f⟩ => .inl ⟨Rd.evoZ e r f, e.fz (Rd.alive r) f⟩) .inr
theorem AtT.monoZ {K : PySem.W.Frag} {H H' : Hp} {μ μ' : Mu} {Z : Zs} {a : Addr} {xs : List V} (e : EvoZ Z H μ H' μ') (h : AtT K H μ Z a xs) : AtT K H' μ' Z a xs := h.elim (fun ⟨r, f⟩ => .inl ⟨Rd.evoZ e r f, e.fz (Rd.alive r) f⟩) .inr
/-- base, then only D changed -/
theorem Evo.thenZ {H0 H1 H' : Hp} {μ0 μ1 μ' : Mu} {D : Addr} (e : Evo H0 μ0 H1 μ1) (hD : H0 D = none) (f : EvoZ (fun a => a = D) H1 μ1 H' μ') : Evo H0 μ0 H' μ' where
  keep := fun a o h hn => by
    have h1 := e.keep a o h hn
    exact f.keep a o h1 (fun n q => by
      rcases e.new n a q with y | y
      · exact hn n y
      · rw [h] at y; cases y) (fun z => by rw [z, hD] at h; cases h)
  mu := fun n a h => f.mu n a (e.mu n a h)
  new := fun n a h => by
    rcases f.new n a h with q | q
    · exact e.new n a q
    · right
      cases z : H0 a with
      | none => rfl
      | some o => exact absurd q (e.alive (by rw [z]; intro y; cases y))
  stay := fun n a h q => f.live a (e.alive q)
theorem EvoZ.upd {H H' : Hp} {μ μ' : Mu} {D : Addr} {o : HO} (e : EvoZ (fun a => a = D) H μ H' μ') : EvoZ (fun a => a = D) H μ (upd H' D o) μ' where
  keep := fun a u h hn z => by rw [upd_ne z]; exact e.keep a u h hn z
  mu := e.mu
  new := e.new
  live := fun a h => by
    by_cases z : a = D
    · rw [z, upd_same]; intro y; cases y
    · rw [upd_ne z]; exact e.live a h
mutual
theorem RV.monoZ (e : EvoZ Z H μ H' μ') : ∀ (w : Dv) {v : V}, RV Γ H μ Z w v → RV Γ H' μ' Z w v
  | .non, _, h => h
  | .bl _, _, h => h
  | .int _, _, h => h
  | .str _, _, h => h
  | .ty _, _, h => h
  | .cl _, _, h => h
  | .ref n, _, h => by
    obtain ⟨a, h1, h2⟩ := h
    exact ⟨a, h1, e.mu n a h2⟩
  | .tup ws, _, h => by
    obtain ⟨a, xs, h1, h2, h3⟩ := h
    exact ⟨a, xs, h1, h2.monoZ e, RVs.monoZ e ws h3⟩
  | .lst ws, _, h => by
    obtain ⟨a, xs, h1, h2, h3, h4⟩ := h
    exact ⟨a, xs, h1, e.keep _ _ h2 h3.1 h3.2, e.fz (by rw [h2]; intro z; cases z) h3, RVs.monoZ e ws h4⟩
  | .sq ws, _, h => by
    obtain ⟨a, xs, h1, h2, h3⟩ := h
    exact ⟨a, xs, h1, h2.monoZ e, RVs.monoZ e ws h3⟩
  | .dct ks ws, _, h => by
    obtain ⟨a, kvs, h1, h2, h3, h4, h5⟩ := h
    exact ⟨a, kvs, h1, e.keep _ _ h2 h3.1 h3.2, e.fz (by rw [h2]; intro z; cases z) h3, h4, RVs.monoZ e ws h5⟩
  | .exc c f w, _, h => by
    obtain ⟨a, dx, x, h1, h2, h3, h4, h5, h6⟩ := h
    exact ⟨a, dx, x, h1, e.keep _ _ h2 h3.1 h3.2, e.fz (by rw [h2]; intro z; cases z) h3, e.keep _ _ h4 h5.1 h5.2, e.fz (by rw [h4]; intro z; cases z) h5, RV.monoZ e w h6⟩
  | .exn c, _, h => by
    obtain ⟨a, h1, h2, h3⟩ := h
    exact ⟨a, h1, e.keep _ _ h2 h3.1 h3.2, e.fz (by rw [h2]; intro z; cases z) h3⟩
  | .clo a c q ws vs, _, h => by
    obtain ⟨h1, h2, h3, h4⟩ := h
    exact ⟨h1, e.keep _ _ h2 h3.1 h3.2, e.fz (by rw [h2]; intro z; cases z) h3, RVs.monoZ e ws h4⟩
theorem RVs.monoZ (e : EvoZ Z H μ H' μ') : ∀ (ws : List Dv) {vs : List V}, RVs Γ H μ Z ws vs → RVs Γ H' μ' Z ws vs
  | [], _, h => h
  | w :: ws, _, h => by
    obtain ⟨x, xs, h1, h2, h3⟩ := h
    exact ⟨x, xs, h1, RV.monoZ e w h2, RVs.monoZ e ws h3⟩
end
theorem Fz.weak {a : Addr} (h : ∀ a, Z a → Z' a) (f : Fz μ Z' a) : Fz μ Z a := ⟨f.1, fun z => f.2 (h a z)⟩
mutual
theorem RV.weak (h : ∀ a, Z a → Z' a) : ∀ (w : Dv) {v : V}, RV Γ H μ Z' w v → RV Γ H μ Z w v
  | .non, _, q => q
  | .bl _, _, q => q
  | .int _, _, q => q
  | .str _, _, q => q
  | .ty _, _, q => q
  | .cl _, _, q => q
  | .ref n, _, q => q
  | .tup ws, _, q => by
    obtain ⟨a, xs, h1, h2, h3⟩ := q
    exact ⟨a, xs, h1, h2.elim (fun z => .inl ⟨z.1, z.2.weak h⟩) .inr, RVs.weak h ws h3⟩
  | .lst ws, _, q => by
    obtain ⟨a, xs, h1, h2, h3, h4⟩ := q
    exact ⟨a, xs, h1, h2, h3.weak h, RVs.weak h ws h4⟩
  | .sq ws, _, q => by
    obtain ⟨a, xs, h1, h2, h3⟩ := q
    exact ⟨a, xs, h1, h2.elim (fun z => .inl ⟨z.1, z.2.weak h⟩) .inr, RVs.weak h ws h3⟩
  | .dct ks ws, _, q => by
    obtain ⟨a, kvs, h1, h2, h3, h4, h5⟩ := q
    exact ⟨a, kvs, h1, h2, h3.weak h, h4, RVs.weak h ws h5⟩
  | .exc c f w, _, q => by
    obtain ⟨a, dx, x, h1, h2, h3, h4, h5, h6⟩ := q
    exact ⟨a, dx, x, h1, h2, h3.weak h, h4, h5.weak h, RV.weak h w h6⟩
  | .exn c, _, q => by
    obtain ⟨a, h1, h2, h3⟩ := q
    exact ⟨a, h1, h2, h3.weak h⟩
  | .clo a c _ ws vs, _, q => by
    obtain ⟨h1, h2, h3, h4⟩ := q
    exact ⟨h1, h2, h3.weak h, RVs.weak h ws h4⟩
theorem RVs.weak (h : ∀ a, Z a → Z' a) : ∀ (ws : List Dv) {vs : List V}, RVs Γ H μ Z' ws vs → RVs Γ H μ Z ws vs
  | [], _, q => q
  | w :: ws, _, q => by
    obtain ⟨x, xs, h1, h2, h3⟩ := q
    exact ⟨x, xs, h1, RV.weak h w h2, RVs.weak h ws h3⟩
end
/-- under a reserved address all may change -/
theorem Fz.evoZ {p a : Addr} (f : Fz μ (fun b => b = p ∨ Z b) a) : a ≠ p := fun e => f.2 (.inl e)
mutual
theorem RV.updZ {p : Addr} {o : HO} : ∀ (w : Dv) {v : V}, RV Γ H μ (fun b => b = p ∨ Z b) w v → RV Γ (upd H p o) μ (fun b => b = p ∨ Z b) w v
  | .non, _, q => q
  | .bl _, _, q => q
  | .int _, _, q => q
  | .str _, _, q => q
  | .ty _, _, q => q
  | .cl _, _, q => q
  | .ref n, _, q => q
  | .tup ws, _, q => by
    obtain ⟨a, xs, h1, h2, h3⟩ := q
    refine ⟨a, xs, h1, ?_, RVs.updZ ws h3⟩
    rcases h2 with ⟨h2, f⟩ | h2
    · refine .inl ⟨?_, f⟩
      unfold Rd
      rw [upd_ne f.evoZ]
      exact h2
    · exact .inr h2
  | .lst ws, _, q => by
    obtain ⟨a, xs, h1, h2, h3, h4⟩ := q
    exact ⟨a, xs, h1, by rw [upd_ne h3.evoZ]; exact h2, h3, RVs.updZ ws h4⟩
  | .sq ws, _, q => by
    obtain ⟨a, xs, h1, h2, h3⟩ := q
    refine ⟨a, xs, h1, ?_, RVs.updZ ws h3⟩
    rcases h2 with ⟨h2, f⟩ | h2
    · refine .inl ⟨?_, f⟩
      unfold Rd
      rw [upd_ne f.evoZ]
      exact h2
    · exact .inr h2
  | .dct ks ws, _, q => by
    obtain ⟨a, kvs, h1, h2, h3, h4, h5⟩ := q
    exact ⟨a, kvs, h1, by rw [upd_ne h3.evoZ]; exact h2, h3, h4, RVs.updZ ws h5⟩
  | .exc c f w, _, q => by
    obtain ⟨a, dx, x, h1, h2, h3, h4, h5, h6⟩ := q
    exact ⟨a, dx, x, h1, by rw [upd_ne h3.evoZ]; exact h2, h3, by rw [upd_ne h5.evoZ]; exact h4, h5, RV.updZ w h6⟩
  | .exn c, _, q => by
    obtain ⟨a, h1, h2, h3⟩ := q
    exact ⟨a, h1, by rw [upd_ne h3.evoZ]; exact h2, h3⟩
  | .clo a c _ ws vs, _, q => by
    obtain ⟨h1, h2, h3, h4⟩ := q
    exact ⟨h1, by rw [upd_ne h3.evoZ]; exact h2, h3, RVs.updZ ws h4⟩
theorem RVs.updZ {p : Addr} {o : HO} : ∀ (ws : List Dv) {vs : List V}, RVs Γ H μ (fun b => b = p ∨ Z b) ws vs → RVs Γ (upd H p o) μ (fun b => b = p ∨ Z b) ws vs
  | [], _, q => q
  | w :: ws, _, q => by
    obtain ⟨x, xs, h1, h2, h3⟩ := q
    exact ⟨x, xs, h1, RV.updZ w h2, RVs.updZ ws h3⟩
end
theorem RVs.nil : RVs Γ H μ Z [] [] := rfl
theorem RVs.cons {w : Dv} {ws : List Dv} {x : V} {xs : List V} (h : RV Γ H μ Z w x) (t : RVs Γ H μ Z ws xs) : RVs Γ H μ Z (w :: ws) (x :: xs) := ⟨x, xs, rfl, h, t⟩
theorem RVs.len : ∀ {ws : List Dv} {xs : List V}, RVs Γ H μ Z ws xs → xs.length = ws.length
  | [], _, h => by rw [show _ = [] from h]; rfl
  | w :: ws, _, h => by
    obtain ⟨x, xs, rfl, _, h3⟩ := h
    rw [List.length_cons, List.length_cons, RVs.len h3]
theorem RVs.get : ∀ {ws : List Dv} {xs : List V} {i : Nat} {w : Dv}, RVs Γ H μ Z ws xs → ws[i]? = some w → ∃ x, xs[i]? = some x ∧ RV Γ H μ Z w x
  | [], _, _, _, _, e => by cases e
  | a :: ws, _, 0, w, h, e => by
    obtain ⟨x, xs, rfl, h2, _⟩ := h
    cases e
    exact ⟨x, rfl, h2⟩
  | a :: ws, _, i + 1, w, h, e => by
    obtain ⟨x, xs, rfl, _, h3⟩ := h
    obtain ⟨y, e1, e2⟩ := RVs.get (i := i) (w := w) h3 (by simpa using e)
    exact ⟨y, by simpa using e1, e2⟩
theorem RVs.append : ∀ {ws us : List Dv} {xs ys : List V}, RVs Γ H μ Z ws xs → RVs Γ H μ Z us ys → RVs Γ H μ Z (ws ++ us) (xs ++ ys)
  | [], _, _, _, h, q => by rw [show _ = [] from h]; exact q
  | a :: ws, _, _, _, h, q => by
    obtain ⟨x, xs, rfl, h2, h3⟩ := h
    exact RVs.cons h2 (RVs.append h3 q)
theorem RVs.drop : ∀ {ws : List Dv} {xs : List V} (n : Nat), RVs Γ H μ Z ws xs → RVs Γ H μ Z (ws.drop n) (xs.drop n)
  | _, _, 0, h => h
  | [], _, _ + 1, h => by rw [show _ = [] from h]; exact rfl
  | _ :: ws, _, n + 1, h => by
    obtain ⟨x, xs, rfl, _, h3⟩ := h
    exact RVs.drop n h3
theorem RVs.take : ∀ {ws : List Dv} {xs : List V} (n : Nat), RVs Γ H μ Z ws xs → RVs Γ H μ Z (ws.take n) (xs.take n)
  | _, _, 0, _ => rfl
  | [], _, _ + 1, h => by rw [show _ = [] from h]; exact rfl
  | _ :: ws, _, n + 1, h => by
    obtain ⟨x, xs, rfl, h2, h3⟩ := h
    exact RVs.cons h2 (RVs.take n h3)
theorem RVs.ints : ∀ {ns : List Int} {xs : List V}, RVs Γ H μ Z (ns.map .int) xs → xs = ns.map .int
  | [], _, h => h
  | n :: ns, _, h => by
    obtain ⟨x, xs, rfl, h2, h3⟩ := h
    rw [show x = V.int n from h2, RVs.ints h3]
    rfl
theorem RVs.of_ints : ∀ (ns : List Int), RVs Γ H μ Z (ns.map .int) (ns.map .int)
  | [] => rfl
  | n :: ns => RVs.cons rfl (RVs.of_ints ns)
theorem RVs.rep {ws : List Dv} {xs : List V} (h : RVs Γ H μ Z ws xs) : ∀ k : Nat, RVs Γ H μ Z (List.replicate k ws).flatten (List.replicate k xs).flatten
  | 0 => rfl
  | k + 1 => by
    rw [List.replicate_succ, List.replicate_succ, List.flatten_cons, List.flatten_cons]
    exact RVs.append h (RVs.rep h k)
end

def RO (Γ : Ct) (H : Hp) (μ : Mu) (Z : Zs) (a : Addr) : Ob → Prop
  | .lst ws => ∃ xs, H a = some (.lst xs) ∧ RVs Γ H μ Z ws xs
  | .dct kws => ∃ kvs, H a = some (.dK kvs) ∧ kvs.map (·.1) = kws.map (·.1) ∧ RVs Γ H μ Z (kws.map (·.2)) (kvs.map (·.2))
  | .tab n q => a = Γ.tb n ∧ ∃ ps : Array Value, H a = some (.tbl ps) ∧ TriplesOk ps.toList ∧ ∀ (pos : Pos) (cv : Value), codeAmong pos ps.toList = some cv → ∃ c, cv = .ref c ∧ H c = some (LamX.CodeO c q) ∧ Fz μ Z c
theorem tab_imp {H H' : Hp} {μ μ' : Mu} {Z Z' : Zs} {a : Addr} {q : Str} (hH : H' a = H a) (k : ∀ c, H c = some (LamX.CodeO c q) → Fz μ Z c → H' c = some (LamX.CodeO c q) ∧ Fz μ' Z' c)
    (h : ∃ ps : Array Value, H a = some (.tbl ps) ∧ TriplesOk ps.toList ∧ ∀ (pos : Pos) (cv : Value), codeAmong pos ps.toList = some cv → ∃ c, cv = .ref c ∧ H c = some (LamX.CodeO c q) ∧ Fz μ Z c) :
    ∃ ps : Array Value, H' a = some (.tbl ps) ∧ TriplesOk ps.toList ∧ ∀ (pos : Pos) (cv : Value), codeAmong pos ps.toList = some cv → ∃ c, cv = .ref c ∧ H' c = some (LamX.CodeO c q) ∧ Fz μ' Z' c := by
  obtain ⟨ps, h1, h2, h3⟩ := h
  refine ⟨ps, hH.trans h1, h2, fun pos cv e => ?_⟩
  obtain ⟨c, e1, e2, e3⟩ := h3 pos cv e
  exact ⟨c, e1, k c e2 e3⟩
structure Rep (Γ : Ct) (H : Hp) (μ : Mu) (Z : Zs) (s : Sto) : Prop where
  «at» : ∀ (n : Nat) (o : Ob), s[n]? = some o → ∃ a, μ n = some a ∧ ¬ Z a ∧ RO Γ H μ Z a o
  inj : ∀ n m a, μ n = some a → μ m = some a → n = m
  dom : ∀ n a, μ n = some a → n < s.length
  za : ∀ a, Z a → H a ≠ none
def RE (Γ : Ct) (H : Hp) (μ : Mu) (Z : Zs) (ρ : Env) (σ : L2.St) : Prop := ρ.length = σ.length ∧ ∀ (i : Nat) (w : Dv), ρ[i]? = some (some w) → ∃ v, σ[i]? = some (some v) ∧ RV Γ H μ Z w v
/-- an exception on its way: its class, its dict -/
def RX (Γ : Ct) (H : Hp) (μ : Mu) (Z : Zs) (x : Ex) (cls : Value) (d : Option Addr) : Prop := cls = .ref (Γ.cls x.c) ∧ ∃ dd v, d = some dd ∧ H dd = some (.xd [(x.f, v)]) ∧ Fz μ Z dd ∧ RV Γ H μ Z x.w v
section
variable {Γ : Ct} {H H1 H' : Hp} {μ μ1 μ' : Mu} {Z Z' : Zs} {ρ : Env} {σ : L2.St} {s : Sto} {p : Addr} {o : HO}
theorem RE.mono (e : Evo H μ H' μ') (h : RE Γ H μ Z ρ σ) : RE Γ H' μ' Z ρ σ := ⟨h.1, fun i w q => by
  obtain ⟨v, h1, h2⟩ := h.2 i w q
  exact ⟨v, h1, h2.mono e⟩⟩
theorem RE.set {w : Dv} {v : V} (i : Nat) (h : RE Γ H μ Z ρ σ) (r : RV Γ H μ Z w v) : RE Γ H μ Z (ρ.set i (some w)) (σ.set i (some v)) := by
  refine ⟨by rw [List.length_set, List.length_set]; exact h.1, fun j u q => ?_⟩
  by_cases e : i = j
  · subst e
    have hl : i < ρ.length := by
      have := (List.getElem?_eq_some_iff.mp q).1
      simpa using this
    rw [List.getElem?_set_self hl] at q
    cases q
    exact ⟨v, List.getElem?_set_self (by rw [← h.1]; exact hl), r⟩
  · rw [List.getElem?_set_ne e] at q
    rw [List.getElem?_set_ne e]
    exact h.2 j u q
theorem RE.del (i : Nat) (h : RE Γ H μ Z ρ σ) : RE Γ H μ Z (ρ.set i none) (σ.set i none) := by
  refine ⟨by rw [List.length_set, List.length_set]; exact h.1, fun j u q => ?_⟩
  by_cases e : i = j
  · subst e
    have hl : i < ρ.length := by
      have := (List.getElem?_eq_some_iff.mp q).1
      simpa using this
    rw [List.getElem?_set_self hl] at q
    cases q
  · rw [List.getElem?_set_ne e] at q
    rw [List.getElem?_set_ne e]
    exact h.2 j u q
theorem RE.weak (h : ∀ a, Z a → Z' a) (r : RE Γ H μ Z' ρ σ) : RE Γ H μ Z ρ σ := ⟨r.1, fun i w q => by
  obtain ⟨v, h1, h2⟩ := r.2 i w q
  exact ⟨v, h1, h2.weak h⟩⟩
theorem RX.mono {x : Ex} {cls : Value} {d : Option Addr} (e : Evo H μ H' μ') (h : RX Γ H μ Z x cls d) : RX Γ H' μ' Z x cls d := by
  obtain ⟨h1, dd, v, h2, h3, h4, h5⟩ := h
  exact ⟨h1, dd, v, h2, e.keep _ _ h3 h4.1, e.fz (by rw [h3]; intro z; cases z) h4, h5.mono e⟩
/-- the store's objects stay where the heap grows beside them -/
theorem Rep.keep (R : Rep Γ H μ Z s) (e : Evo H μ H' μ) (h : ∀ n a, μ n = some a → H' a = H a) : Rep Γ H' μ Z s := ⟨fun n o q => by
  obtain ⟨a, h1, h2, h3⟩ := R.at n o q
  refine ⟨a, h1, h2, ?_⟩
  cases o with
  | lst ws =>
    obtain ⟨xs, h4, h5⟩ := h3
    exact ⟨xs, (h n a h1).trans h4, h5.mono e⟩
  | dct kws =>
    obtain ⟨kvs, h4, h5, h6⟩ := h3
    exact ⟨kvs, (h n a h1).trans h4, h5, h6.mono e⟩
  | tab m q => exact ⟨h3.1, tab_imp (h n a h1) (fun c e1 e2 => ⟨e.keep _ _ e1 e2.1, e.fz (by rw [e1]; intro z; cases z) e2⟩) h3.2⟩, R.inj, R.dom, fun a q => e.alive (R.za a q)⟩
theorem RO.alive {a : Addr} {o : Ob} (h : RO Γ H μ Z a o) : H a ≠ none := by
  cases o with
  | lst ws => obtain ⟨_, h, _⟩ := h; rw [h]; intro z; cases z
  | dct kws => obtain ⟨_, h, _⟩ := h; rw [h]; intro z; cases z
  | tab m q => obtain ⟨_, _, h, _⟩ := h; rw [h]; intro z; cases z
theorem Rep.alive (R : Rep Γ H μ Z s) {n : Nat} {a : Addr} (h : μ n = some a) : H a ≠ none := by
  have hl := R.dom n a h
  obtain ⟨b, h1, _, h3⟩ := R.at n _ (List.getElem?_eq_getElem hl)
  rw [h] at h1
  cases h1
  exact h3.alive
theorem Rep.notZ (R : Rep Γ H μ Z s) {n : Nat} {a : Addr} (h : μ n = some a) : ¬ Z a := by
  have hl := R.dom n a h
  obtain ⟨b, h1, h2, h3⟩ := R.at n _ (List.getElem?_eq_getElem hl)
  rw [h] at h1
  cases h1
  exact h2
theorem Rep.laid (R : Rep Γ H μ Z s) (hp : H p = none) : Rep Γ (upd H p o) μ Z s := R.keep (Evo.laid hp) fun n a h => upd_ne fun e => R.alive h (e ▸ hp)
theorem Rep.fz (R : Rep Γ H μ Z s) (hp : H p = none) : Fz μ Z p := ⟨fun n h => R.alive h hp, fun z => R.za p z hp⟩
end
end MP

set_option Elab.async false
set_option linter.all false
set_option maxRecDepth 100000
set_option maxHeartbeats 4000000
namespace MP
open PySem PySem.Spec PyProof.Rows L2

/-! ### what is wanted behind a piece -/
section
variable (Γ : Ct) (W : WX) (H : Hp) (μ : Mu) (Z : Zs) (σ : L2.St)
def PostE (Q : VK) : R Dv → Prop
  | .ok w s' => ∀ v H' μ', Evo H μ H' μ' → Rep Γ H' μ' Z s' → RV Γ H' μ' Z w v → Q v H'
  | .er x s' => ∀ cls d H' μ', Evo H μ H' μ' → Rep Γ H' μ' Z s' → RX Γ H' μ' Z x cls d → W cls d σ H'
  | .no => False
def PostT (Q : Bool → Hp → Prop) : R Bool → Prop
  | .ok b s' => ∀ H' μ', Evo H μ H' μ' → Rep Γ H' μ' Z s' → Q b H'
  | .er x s' => ∀ cls d H' μ', Evo H μ H' μ' → Rep Γ H' μ' Z s' → RX Γ H' μ' Z x cls d → W cls d σ H'
  | .no => False
def PostA (Q : List V → Hp → Prop) : R (List Dv) → Prop
  | .ok ws s' => ∀ vs H' μ', Evo H μ H' μ' → Rep Γ H' μ' Z s' → RVs Γ H' μ' Z ws vs → Q vs H'
  | .er x s' => ∀ cls d H' μ', Evo H μ H' μ' → Rep Γ H' μ' Z s' → RX Γ H' μ' Z x cls d → W cls d σ H'
  | .no => False
def PostS (D : Ends) : C → Prop
  | .nx ρ' s' => ∀ σ' H' μ', Evo H μ H' μ' → Rep Γ H' μ' Z s' → RE Γ H' μ' Z ρ' σ' → D.nx σ' H'
  | .bk ρ' s' => ∀ σ' H' μ', Evo H μ H' μ' → Rep Γ H' μ' Z s' → RE Γ H' μ' Z ρ' σ' → D.bk σ' H'
  | .ct ρ' s' => ∀ σ' H' μ', Evo H μ H' μ' → Rep Γ H' μ' Z s' → RE Γ H' μ' Z ρ' σ' → D.ct σ' H'
  | .rt w s' => ∀ v H' μ', Evo H μ H' μ' → Rep Γ H' μ' Z s' → RV Γ H' μ' Z w v → D.rt v H'
  | .er x ρ' s' => ∀ cls d σ' H' μ', Evo H μ H' μ' → Rep Γ H' μ' Z s' → RE Γ H' μ' Z ρ' σ' → RX Γ H' μ' Z x cls d → W cls d σ' H'
  | .no => False
end
def rdE (Γ : Ct) (W : WX) (f : FE) : TE := fun σ H Q => ∃ μ Z ρ s, RE Γ H μ Z ρ σ ∧ Rep Γ H μ Z s ∧ PostE Γ W H μ Z σ Q (f ρ s)
def rdT (Γ : Ct) (W : WX) (f : FT) : TT := fun σ H Q => ∃ μ Z ρ s, RE Γ H μ Z ρ σ ∧ Rep Γ H μ Z s ∧ PostT Γ W H μ Z σ Q (f ρ s)
def rdA (Γ : Ct) (W : WX) (f : FA) : TA := fun σ H Q => ∃ μ Z ρ s, RE Γ H μ Z ρ σ ∧ Rep Γ H μ Z s ∧ PostA Γ W H μ Z σ Q (f ρ s)
def rdS (Γ : Ct) (W : WX) (f : FS) : TS := fun D σ H => ∃ μ Z ρ s, RE Γ H μ Z ρ σ ∧ Rep Γ H μ Z s ∧ PostS Γ W H μ Z D (f ρ s)
def ME (X : Cx) (Γ : Ct) (W : WX) (e : Expr) (f : FE) : Prop := PE X e (rdE Γ W f)
def MT (X : Cx) (Γ : Ct) (W : WX) (e : Expr) (f : FT) : Prop := PT X e (rdT Γ W f)
def MW (X : Cx) (Γ : Ct) (W : WX) (e : Expr) (f : FT) : Prop := PW X e (rdT Γ W f)
def MA (X : Cx) (Γ : Ct) (W : WX) (es : List Expr) (f : FA) : Prop := PA X es (rdA Γ W f)
def MS (X : Cx) (Γ : Ct) (W : WX) (st : Stmt) (f : FS) : Prop := PS X st (rdS Γ W f)
def MB (X : Cx) (Γ : Ct) (W : WX) (st : List Stmt) (f : FS) : Prop := PSs X st (rdS Γ W f)
theorem PE.imp {X : Cx} {e : Expr} {t t' : TE} (h : PE X e t) (k : ∀ σ H Q, t' σ H Q → t σ H Q) : PE X e t' := ⟨fun pins s σ H Q I q => h.run pins s σ H Q I (k σ H Q q)⟩
theorem PT.imp {X : Cx} {e : Expr} {t t' : TT} (h : PT X e t) (k : ∀ σ H Q, t' σ H Q → t σ H Q) : PT X e t' := ⟨fun pins s σ H Q I q => h.run pins s σ H Q I (k σ H Q q)⟩
theorem PW.imp {X : Cx} {e : Expr} {t t' : TT} (h : PW X e t) (k : ∀ σ H Q, t' σ H Q → t σ H Q) : PW X e t' := ⟨fun wh pins s σ H Q I q => h.run wh pins s σ H Q I (k σ H Q q)⟩
theorem PA.imp {X : Cx} {e : List Expr} {t t' : TA} (h : PA X e t) (k : ∀ σ H Q, t' σ H Q → t σ H Q) : PA X e t' := ⟨fun pos pins s σ H Q I q => h.run pos pins s σ H Q I (k σ H Q q)⟩
theorem PS.imp {X : Cx} {e : Stmt} {t t' : TS} (h : PS X e t) (k : ∀ D σ H, t' D σ H → t D σ H) : PS X e t' := ⟨fun pins s σ H D I q => h.run pins s σ H D I (k D σ H q)⟩
theorem PSs.imp {X : Cx} {e : List Stmt} {t t' : TS} (h : PSs X e t) (k : ∀ D σ H, t' D σ H → t D σ H) : PSs X e t' := ⟨fun pins s σ H D I q => h.run pins s σ H D I (k D σ H q)⟩
theorem PE.or {X : Cx} {e : Expr} {t t' : TE} (h : PE X e t) (h' : PE X e t') : PE X e (fun σ H Q => t σ H Q ∨ t' σ H Q) := ⟨fun pins s σ H Q I q => q.elim (h.run pins s σ H Q I) (h'.run pins s σ H Q I)⟩
theorem OpR.or2 {X : Cx} {f : Value → Value → Sem Value} {r r' : R2} (h : OpR X f r) (h' : OpR X f r') : OpR X f (fun x y H Q => r x y H Q ∨ r' x y H Q) := fun pins s σ H x y v u Q I rx ry q => q.elim (h pins s σ H x y v u Q I rx ry) (h' pins s σ H x y v u Q I rx ry)
theorem CallR.or2 {X : Cx} {f : Value} {r r' : List V → Hp → VK → Prop} (h : CallR X f r) (h' : CallR X f r') : CallR X f (fun x H Q => r x H Q ∨ r' x H Q) := fun pins s σ H x v Q I rx q => q.elim (h pins s σ H x v Q I rx) (h' pins s σ H x v Q I rx)

def R.thenC {α : Type} (r : R α) (ρ : Env) (k : α → Sto → C) : C := match r with
  | .ok a s => k a s | .er x s => .er x ρ s | .no => .no
def R.of {α : Type} (o : Option α) (s : Sto) : R α := match o with
  | some a => .ok a s | none => .no

section
variable {Γ : Ct} {W : WX} {H H1 : Hp} {μ μ1 : Mu} {Z : Zs} {σ : L2.St} {ρ : Env} {s : Sto}
theorem PostE.evo {Q : VK} {r : R Dv} (e : Evo H μ H1 μ1) (h : PostE Γ W H μ Z σ Q r) : PostE Γ W H1 μ1 Z σ Q r := by
  cases r with
  | ok w s' => exact fun v H' μ' e' => h v H' μ' (e.trans e')
  | er x s' => exact fun c d H' μ' e' => h c d H' μ' (e.trans e')
  | no => exact h
theorem PostT.evo {Q : Bool → Hp → Prop} {r : R Bool} (e : Evo H μ H1 μ1) (h : PostT Γ W H μ Z σ Q r) : PostT Γ W H1 μ1 Z σ Q r := by
  cases r with
  | ok w s' => exact fun H' μ' e' => h H' μ' (e.trans e')
  | er x s' => exact fun c d H' μ' e' => h c d H' μ' (e.trans e')
  | no => exact h
theorem PostA.evo {Q : List V → Hp → Prop} {r : R (List Dv)} (e : Evo H μ H1 μ1) (h : PostA Γ W H μ Z σ Q r) : PostA Γ W H1 μ1 Z σ Q r := by
  cases r with
  | ok w s' => exact fun v H' μ' e' => h v H' μ' (e.trans e')
  | er x s' => exact fun c d H' μ' e' => h c d H' μ' (e.trans e')
  | no => exact h
theorem PostS.evo {D : Ends} {r : C} (e : Evo H μ H1 μ1) (h : PostS Γ W H μ Z D r) : PostS Γ W H1 μ1 Z D r := by
  cases r with
  | nx ρ' s' => exact fun v H' μ' e' => h v H' μ' (e.trans e')
  | bk ρ' s' => exact fun v H' μ' e' => h v H' μ' (e.trans e')
  | ct ρ' s' => exact fun v H' μ' e' => h v H' μ' (e.trans e')
  | rt w s' => exact fun v H' μ' e' => h v H' μ' (e.trans e')
  | er x ρ' s' => exact fun c d σ' H' μ' e' => h c d σ' H' μ' (e.trans e')
  | no => exact h

/-! an expression, then what goes on with its value -/
theorem eE {f : FE} {k : Dv → Sto → R Dv} {Q Q' : VK} (hE : RE Γ H μ Z ρ σ) (hR : Rep Γ H μ Z s) (h : PostE Γ W H μ Z σ Q ((f ρ s).bind k))
    (hk : ∀ x s1 v H1 μ1, Evo H μ H1 μ1 → RE Γ H1 μ1 Z ρ σ → Rep Γ H1 μ1 Z s1 → RV Γ H1 μ1 Z x v → PostE Γ W H1 μ1 Z σ Q (k x s1) → Q' v H1) : rdE Γ W f σ H Q' := by
  refine ⟨μ, Z, ρ, s, hE, hR, ?_⟩
  cases e : f ρ s with
  | ok x s1 =>
    rw [e] at h
    exact fun v H1 μ1 ev R1 r1 => hk x s1 v H1 μ1 ev (hE.mono ev) R1 r1 (PostE.evo ev h)
  | er x s1 => rw [e] at h; exact h
  | no => rw [e] at h; exact h.elim
theorem eT {f : FE} {k : Dv → Sto → R Bool} {Q : Bool → Hp → Prop} {Q' : VK} (hE : RE Γ H μ Z ρ σ) (hR : Rep Γ H μ Z s) (h : PostT Γ W H μ Z σ Q ((f ρ s).bind k))
    (hk : ∀ x s1 v H1 μ1, Evo H μ H1 μ1 → RE Γ H1 μ1 Z ρ σ → Rep Γ H1 μ1 Z s1 → RV Γ H1 μ1 Z x v → PostT Γ W H1 μ1 Z σ Q (k x s1) → Q' v H1) : rdE Γ W f σ H Q' := by
  refine ⟨μ, Z, ρ, s, hE, hR, ?_⟩
  cases e : f ρ s with
  | ok x s1 =>
    rw [e] at h
    exact fun v H1 μ1 ev R1 r1 => hk x s1 v H1 μ1 ev (hE.mono ev) R1 r1 (PostT.evo ev h)
  | er x s1 => rw [e] at h; exact h
  | no => rw [e] at h; exact h.elim
theorem eA {f : FE} {k : Dv → Sto → R (List Dv)} {Q : List V → Hp → Prop} {Q' : VK} (hE : RE Γ H μ Z ρ σ) (hR : Rep Γ H μ Z s) (h : PostA Γ W H μ Z σ Q ((f ρ s).bind k))
    (hk : ∀ x s1 v H1 μ1, Evo H μ H1 μ1 → RE Γ H1 μ1 Z ρ σ → Rep Γ H1 μ1 Z s1 → RV Γ H1 μ1 Z x v → PostA Γ W H1 μ1 Z σ Q (k x s1) → Q' v H1) : rdE Γ W f σ H Q' := by
  refine ⟨μ, Z, ρ, s, hE, hR, ?_⟩
  cases e : f ρ s with
  | ok x s1 =>
    rw [e] at h
    exact fun v H1 μ1 ev R1 r1 => hk x s1 v H1 μ1 ev (hE.mono ev) R1 r1 (PostA.evo ev h)
  | er x s1 => rw [e] at h; exact h
  | no => rw [e] at h; exact h.elim
theorem eS {f : FE} {k : Dv → Sto → C} {D : Ends} {Q' : VK} (hE : RE Γ H μ Z ρ σ) (hR : Rep Γ H μ Z s) (h : PostS Γ W H μ Z D ((f ρ s).thenC ρ k))
    (hk : ∀ x s1 v H1 μ1, Evo H μ H1 μ1 → RE Γ H1 μ1 Z ρ σ → Rep Γ H1 μ1 Z s1 → RV Γ H1 μ1 Z x v → PostS Γ W H1 μ1 Z D (k x s1) → Q' v H1) : rdE Γ W f σ H Q' := by
  refine ⟨μ, Z, ρ, s, hE, hR, ?_⟩
  cases e : f ρ s with
  | ok x s1 =>
    rw [e] at h
    exact fun v H1 μ1 ev R1 r1 => hk x s1 v H1 μ1 ev (hE.mono ev) R1 r1 (PostS.evo ev h)
  | er x s1 => rw [e] at h; exact fun c d H' μ' ev R' rx => h c d σ H' μ' ev R' (hE.mono ev) rx
  | no => rw [e] at h; exact h.elim
theorem tE {f : FT} {k : Bool → Sto → R Dv} {Q : VK} {Q' : Bool → Hp → Prop} (hE : RE Γ H μ Z ρ σ) (hR : Rep Γ H μ Z s) (h : PostE Γ W H μ Z σ Q ((f ρ s).bind k))
    (hk : ∀ b s1 H1 μ1, Evo H μ H1 μ1 → RE Γ H1 μ1 Z ρ σ → Rep Γ H1 μ1 Z s1 → PostE Γ W H1 μ1 Z σ Q (k b s1) → Q' b H1) : rdT Γ W f σ H Q' := by
  refine ⟨μ, Z, ρ, s, hE, hR, ?_⟩
  cases e : f ρ s with
  | ok x s1 =>
    rw [e] at h
    exact fun H1 μ1 ev R1 => hk x s1 H1 μ1 ev (hE.mono ev) R1 (PostE.evo ev h)
  | er x s1 => rw [e] at h; exact h
  | no => rw [e] at h; exact h.elim
theorem tT {f : FT} {k : Bool → Sto → R Bool} {Q Q' : Bool → Hp → Prop} (hE : RE Γ H μ Z ρ σ) (hR : Rep Γ H μ Z s) (h : PostT Γ W H μ Z σ Q ((f ρ s).bind k))
    (hk : ∀ b s1 H1 μ1, Evo H μ H1 μ1 → RE Γ H1 μ1 Z ρ σ → Rep Γ H1 μ1 Z s1 → PostT Γ W H1 μ1 Z σ Q (k b s1) → Q' b H1) : rdT Γ W f σ H Q' := by
  refine ⟨μ, Z, ρ, s, hE, hR, ?_⟩
  cases e : f ρ s with
  | ok x s1 =>
    rw [e] at h
    exact fun H1 μ1 ev R1 => hk x s1 H1 μ1 ev (hE.mono ev) R1 (PostT.evo ev h)
  | er x s1 => rw [e] at h; exact h
  | no => rw [e] at h; exact h.elim
theorem tS {f : FT} {k : Bool → Sto → C} {D : Ends} {Q' : Bool → Hp → Prop} (hE : RE Γ H μ Z ρ σ) (hR : Rep Γ H μ Z s) (h : PostS Γ W H μ Z D ((f ρ s).thenC ρ k))
    (hk : ∀ b s1 H1 μ1, Evo H μ H1 μ1 → RE Γ H1 μ1 Z ρ σ → Rep Γ H1 μ1 Z s1 → PostS Γ W H1 μ1 Z D (k b s1) → Q' b H1) : rdT Γ W f σ H Q' := by
  refine ⟨μ, Z, ρ, s, hE, hR, ?_⟩
  cases e : f ρ s with
  | ok x s1 =>
    rw [e] at h
    exact fun H1 μ1 ev R1 => hk x s1 H1 μ1 ev (hE.mono ev) R1 (PostS.evo ev h)
  | er x s1 => rw [e] at h; exact fun c d H' μ' ev R' rx => h c d σ H' μ' ev R' (hE.mono ev) rx
  | no => rw [e] at h; exact h.elim
theorem aE {f : FA} {k : List Dv → Sto → R Dv} {Q : VK} {Q' : List V → Hp → Prop} (hE : RE Γ H μ Z ρ σ) (hR : Rep Γ H μ Z s) (h : PostE Γ W H μ Z σ Q ((f ρ s).bind k))
    (hk : ∀ ws s1 vs H1 μ1, Evo H μ H1 μ1 → RE Γ H1 μ1 Z ρ σ → Rep Γ H1 μ1 Z s1 → RVs Γ H1 μ1 Z ws vs → PostE Γ W H1 μ1 Z σ Q (k ws s1) → Q' vs H1) : rdA Γ W f σ H Q' := by
  refine ⟨μ, Z, ρ, s, hE, hR, ?_⟩
  cases e : f ρ s with
  | ok x s1 =>
    rw [e] at h
    exact fun v H1 μ1 ev R1 r1 => hk x s1 v H1 μ1 ev (hE.mono ev) R1 r1 (PostE.evo ev h)
  | er x s1 => rw [e] at h; exact h
  | no => rw [e] at h; exact h.elim
theorem aA {f : FA} {k : List Dv → Sto → R (List Dv)} {Q : List V → Hp → Prop} {Q' : List V → Hp → Prop} (hE : RE Γ H μ Z ρ σ) (hR : Rep Γ H μ Z s) (h : PostA Γ W H μ Z σ Q ((f ρ s).bind k))
    (hk : ∀ ws s1 vs H1 μ1, Evo H μ H1 μ1 → RE Γ H1 μ1 Z ρ σ → Rep Γ H1 μ1 Z s1 → RVs Γ H1 μ1 Z ws vs → PostA Γ W H1 μ1 Z σ Q (k ws s1) → Q' vs H1) : rdA Γ W f σ H Q' := by
  refine ⟨μ, Z, ρ, s, hE, hR, ?_⟩
  cases e : f ρ s with
  | ok x s1 =>
    rw [e] at h
    exact fun v H1 μ1 ev R1 r1 => hk x s1 v H1 μ1 ev (hE.mono ev) R1 r1 (PostA.evo ev h)
  | er x s1 => rw [e] at h; exact h
  | no => rw [e] at h; exact h.elim
theorem aS {f : FA} {k : List Dv → Sto → C} {D : Ends} {Q' : List V → Hp → Prop} (hE : RE Γ H μ Z ρ σ) (hR : Rep Γ H μ Z s) (h : PostS Γ W H μ Z D ((f ρ s).thenC ρ k))
    (hk : ∀ ws s1 vs H1 μ1, Evo H μ H1 μ1 → RE Γ H1 μ1 Z ρ σ → Rep Γ H1 μ1 Z s1 → RVs Γ H1 μ1 Z ws vs → PostS Γ W H1 μ1 Z D (k ws s1) → Q' vs H1) : rdA Γ W f σ H Q' := by
  refine ⟨μ, Z, ρ, s, hE, hR, ?_⟩
  cases e : f ρ s with
  | ok x s1 =>
    rw [e] at h
    exact fun v H1 μ1 ev R1 r1 => hk x s1 v H1 μ1 ev (hE.mono ev) R1 r1 (PostS.evo ev h)
  | er x s1 => rw [e] at h; exact fun c d H' μ' ev R' rx => h c d σ H' μ' ev R' (hE.mono ev) rx
  | no => rw [e] at h; exact h.elim
theorem okE {w : Dv} {Q : VK} {v : V} (hR : Rep Γ H μ Z s) (r : RV Γ H μ Z w v) (h : PostE Γ W H μ Z σ Q (.ok w s)) : Q v H := h v H μ .refl hR r
theorem okT {b : Bool} {Q : Bool → Hp → Prop} (hR : Rep Γ H μ Z s) (h : PostT Γ W H μ Z σ Q (.ok b s)) : Q b H := h H μ .refl hR
/-- a value at a new address -/
theorem newE {w : Dv} {Q : VK} {p : Addr} {o : HO} (hR : Rep Γ H μ Z s) (hp : H p = none) (r : RV Γ (upd H p o) μ Z w (.ref p)) (h : PostE Γ W H μ Z σ Q (.ok w s)) : Q (.ref p) (upd H p o) := h _ _ μ (Evo.laid hp) (hR.laid hp) r
end

/-! ### names, constants -/
section
variable {X : Cx} {Γ : Ct} {W : WX}
def mVar (i : Nat) : FE := fun ρ s => match ρ[i]? with
  | some (some w) => .ok w s
  | _ => .no
def mK (w : Dv) : FE := fun _ s => .ok w s
theorem me_var {i : Nat} {e : Expr} (h : PE X e (tVar i)) : ME X Γ W e (mVar i) := PE.imp h fun σ H Q ⟨μ, Z, ρ, s, hE, hR, q⟩ => by
  unfold mVar at q
  split at q
  · rename_i w e
    obtain ⟨v, h1, h2⟩ := hE.2 i w e
    exact ⟨v, h1, okE hR h2 q⟩
  · exact q.elim
theorem me_int {i : Int} {j pos} : ME X Γ W (.Constant (.int i) j pos) (mK (.int i)) := PE.imp pe_int fun σ H Q ⟨μ, Z, ρ, s, hE, hR, q⟩ => okE (w := .int i) hR rfl q
theorem me_bl {i : Bool} {j pos} : ME X Γ W (.Constant (.bool i) j pos) (mK (.bl i)) := PE.imp pe_bl fun σ H Q ⟨μ, Z, ρ, s, hE, hR, q⟩ => okE (w := .bl i) hR rfl q
theorem me_str {i : Str} {j pos} : ME X Γ W (.Constant (.str i) j pos) (mK (.str i)) := PE.imp pe_str fun σ H Q ⟨μ, Z, ρ, s, hE, hR, q⟩ => okE (w := .str i) hR rfl q
theorem me_non {j pos} : ME X Γ W (.Constant .none j pos) (mK .non) := PE.imp pe_non fun σ H Q ⟨μ, Z, ρ, s, hE, hR, q⟩ => okE (w := .non) hR rfl q
/-- a module's constant: an int, a class -/
theorem me_globI {x : Str} {i : Int} {t : Tok} {pos : Pos} (hg : Gl X x) (hm : X.mg x = some (.int i t)) (hd : (x == ("__debug__" : Str)) = false := by decide) : ME X Γ W (.Name x pos) (mK (.int i)) :=
  PE.imp (pe_glob (v := .int i) hg hm ⟨t, rfl⟩ hd) fun σ H Q ⟨μ, Z, ρ, s, hE, hR, q⟩ => okE (w := .int i) hR rfl q
theorem me_globC {x : Str} {c : Nat} {pos : Pos} (hg : Gl X x) (hm : X.mg x = some (.ref (Γ.cls c))) (hd : (x == ("__debug__" : Str)) = false := by decide) : ME X Γ W (.Name x pos) (mK (.cl c)) :=
  PE.imp (pe_glob (v := .ref (Γ.cls c)) hg hm rfl hd) fun σ H Q ⟨μ, Z, ρ, s, hE, hR, q⟩ => okE (w := .cl c) hR rfl q
theorem me_ty {x : Str} {n : String} {pos : Pos} (hg : Gl X x) (hm : X.mg x = none) (hv : bootBuiltins x = some (.type n)) (hn : x ≠ "__name__" := by decide) (hd : (x == ("__debug__" : Str)) = false := by decide) : ME X Γ W (.Name x pos) (mK (.ty n)) :=
  PE.imp (pe_bltn (v := .ty n) hg hm hv rfl hn hd) fun σ H Q ⟨μ, Z, ρ, s, hE, hR, q⟩ => okE (w := .ty n) hR rfl q

/-! ### operators -/
abbrev O2 := Sto → Dv → Dv → Option Dv
abbrev O1 := Sto → Dv → Option Dv
def mBin (op : O2) (f g : FE) : FE := fun ρ s => (f ρ s).bind fun x s1 => (g ρ s1).bind fun y s2 => R.of (op s2 x y) s2
def mUn (op : O1) (f : FE) : FE := fun ρ s => (f ρ s).bind fun x s1 => R.of (op s1 x) s1
/-- what an operator gives: its rule r is met -/
def Op2 (Γ : Ct) (r : R2) (op : O2) : Prop := ∀ (H : Hp) (μ : Mu) (Z : Zs) (s : Sto) (x y w : Dv) (u v : V) (Q : VK), Rep Γ H μ Z s → RV Γ H μ Z x u → RV Γ H μ Z y v → op s x y = some w →
  (∀ v' H', Evo H μ H' μ → Rep Γ H' μ Z s → RV Γ H' μ Z w v' → Q v' H') → r u v H Q
def Op1 (Γ : Ct) (r : V → Hp → VK → Prop) (op : O1) : Prop := ∀ (H : Hp) (μ : Mu) (Z : Zs) (s : Sto) (x w : Dv) (u : V) (Q : VK), Rep Γ H μ Z s → RV Γ H μ Z x u → op s x = some w →
  (∀ v' H', Evo H μ H' μ → Rep Γ H' μ Z s → RV Γ H' μ Z w v' → Q v' H') → r u H Q
theorem ofE {H : Hp} {μ : Mu} {Z : Zs} {σ : L2.St} {s : Sto} {o : Option Dv} {Q : VK} (h : PostE Γ W H μ Z σ Q (R.of o s)) : ∃ w, o = some w ∧ ∀ v' H', Evo H μ H' μ → Rep Γ H' μ Z s → RV Γ H' μ Z w v' → Q v' H' := by
  cases o with
  | none => exact h.elim
  | some w => exact ⟨w, rfl, fun v' H' e R r => h v' H' μ e R r⟩
variable {a b c : Expr} {f g h' : FE} {pos : Pos}
theorem me_op {op : Operator} {r : R2} {o : O2} (ho : OpR X (binaryOp op) r) (hs : Op2 Γ r o) (ha : ME X Γ W a f) (hb : ME X Γ W b g) : ME X Γ W (.BinOp a op b pos) (mBin o f g) :=
  PE.imp (pe_op ho ha hb) fun σ H Q ⟨μ, Z, ρ, s, hE, hR, q⟩ => eE hE hR q fun x s1 u H1 μ1 e1 hE1 R1 r1 q1 => eE hE1 R1 q1 fun y s2 v H2 μ2 e2 hE2 R2 r2 q2 => by
    obtain ⟨w, hw, k⟩ := ofE q2
    exact hs H2 μ2 Z s2 x y w u v Q R2 (r1.mono e2) r2 hw k
theorem me_cmp {op : CmpOp} {r : R2} {o : O2} (ho : OpR X (compareOp op) r) (hs : Op2 Γ r o) (hm : behindInMarks op b = false) (ha : ME X Γ W a f) (hb : ME X Γ W b g) : ME X Γ W (.Compare a [op] [b] pos) (mBin o f g) :=
  PE.imp (pe_cmpR ho ha hb hm) fun σ H Q ⟨μ, Z, ρ, s, hE, hR, q⟩ => eE hE hR q fun x s1 u H1 μ1 e1 hE1 R1 r1 q1 => eE hE1 R1 q1 fun y s2 v H2 μ2 e2 hE2 R2 r2 q2 => by
    obtain ⟨w, hw, k⟩ := ofE q2
    exact hs H2 μ2 Z s2 x y w u v Q R2 (r1.mono e2) r2 hw k
theorem me_un {op : UnaryOp} {r : V → Hp → VK → Prop} {o : O1} (ho : UnR X (unaryOp op) r) (hs : Op1 Γ r o) (ha : ME X Γ W a f) : ME X Γ W (.UnaryOp op a pos) (mUn o f) :=
  PE.imp (pe_un ho ha) fun σ H Q ⟨μ, Z, ρ, s, hE, hR, q⟩ => eE hE hR q fun x s1 u H1 μ1 e1 hE1 R1 r1 q1 => by
    obtain ⟨w, hw, k⟩ := ofE q1
    exact hs H1 μ1 Z s1 x w u Q R1 r1 hw k
/-- a < b < c -/
def mChain (o o' : O2) (f g h : FE) : FE := fun ρ s => (f ρ s).bind fun x s1 => (g ρ s1).bind fun y s2 => match o s2 x y with
  | some (.bl true) => (h ρ s2).bind fun z s3 => R.of (o' s3 y z) s3
  | some (.bl false) => .ok (.bl false) s2
  | _ => .no
theorem me_chain {op op' : CmpOp} {r r' : R2} {o o' : O2} (ho : OpR X (compareOp op) r) (ho' : OpR X (compareOp op') r') (hs : Op2 Γ r o) (hs' : Op2 Γ r' o') (hm : lastMarks [op, op'] [b, c] = false)
    (ha : ME X Γ W a f) (hb : ME X Γ W b g) (hc : ME X Γ W c h') : ME X Γ W (.Compare a [op, op'] [b, c] pos) (mChain o o' f g h') :=
  PE.imp (pe_chain ho ho' ha hb hc hm) fun σ H Q ⟨μ, Z, ρ, s, hE, hR, q⟩ => eE hE hR q fun x s1 u H1 μ1 e1 hE1 R1 r1 q1 => eE hE1 R1 q1 fun y s2 v H2 μ2 e2 hE2 R2 r2 q2 => by
    cases hw : o s2 x y with
    | none => rw [hw] at q2; exact q2.elim
    | some w =>
      rw [hw] at q2
      refine hs H2 μ2 Z s2 x y w u v _ R2 (r1.mono e2) r2 hw fun z H3 e3 R3 r3 => ?_
      cases w with
      | bl k =>
        refine ⟨k, r3, ?_⟩
        cases k with
        | true =>
          rw [if_pos rfl]
          exact eE (hE2.mono e3) R3 (PostE.evo e3 q2) fun z' s3 v3 H4 μ4 e4 hE4 R4 r4 q4 => by
            obtain ⟨w', hw', k'⟩ := ofE q4
            exact hs' H4 μ4 Z s3 y z' w' v v3 Q R4 ((r2.mono e3).mono e4) r4 hw' k'
        | false =>
          rw [if_neg Bool.false_ne_true]
          exact okE R3 (w := .bl false) rfl (PostE.evo e3 q2)
      | _ => exact q2.elim

/-! ### tests -/
def mTest (f : FE) : FT := fun ρ s => (f ρ s).bind fun x s1 => match x with
  | .bl b => .ok b s1
  | _ => .no
theorem mt_of {e : Expr} (h : ∀ (t : TE), PE X e t → PT X e (tTest t)) (ha : ME X Γ W e f) : MT X Γ W e (mTest f) :=
  PT.imp (h _ ha) fun σ H Q ⟨μ, Z, ρ, s, hE, hR, q⟩ => eT hE hR q fun x s1 u H1 μ1 e1 hE1 R1 r1 q1 => by
    cases x with
    | bl b => exact ⟨b, r1, okT R1 q1⟩
    | _ => exact q1.elim
theorem mt_val {e : Expr} (ha : ME X Γ W e f) (he : ∀ whole, isTrue e X.env whole = (do let v ← whole; standAt e.pos; holding [v] (truthy v)) := by intro _; rfl) : MT X Γ W e (mTest f) :=
  mt_of (fun t h => pt_val h he) ha
theorem mt_cmp {op : CmpOp} {r : R2} {o : O2} (ho : OpR X (compareOp op) r) (hs : Op2 Γ r o) (hm : behindInMarks op b = false) (ha : ME X Γ W a f) (hb : ME X Γ W b g) : MT X Γ W (.Compare a [op] [b] pos) (mTest (mBin o f g)) :=
  PT.imp (pt_cmpR ho ha hb hm) fun σ H Q ⟨μ, Z, ρ, s, hE, hR, q⟩ => by
    have q' : PostT Γ W H μ Z σ Q ((f ρ s).bind fun x s1 => (g ρ s1).bind fun y s2 => (R.of (o s2 x y) s2).bind fun x s1 => match x with
      | .bl b => .ok b s1
      | _ => .no) := by
      unfold mTest mBin at q
      revert q
      cases f ρ s with
      | ok x s1 =>
        dsimp only [R.bind]
        cases g ρ s1 <;> exact id
      | er x s1 => exact id
      | no => exact id
    exact eT hE hR q' fun x s1 u H1 μ1 e1 hE1 R1 r1 q1 => eT hE1 R1 q1 fun y s2 v H2 μ2 e2 hE2 R2 r2 q2 => by
      cases hw : o s2 x y with
      | none => rw [hw] at q2; exact q2.elim
      | some w =>
        rw [hw] at q2
        refine hs H2 μ2 Z s2 x y w u v _ R2 (r1.mono e2) r2 hw fun z H3 e3 R3 r3 => ?_
        cases w with
        | bl k => exact ⟨k, r3, okT R3 (PostT.evo e3 q2)⟩
        | _ => exact q2.elim
def mAnd (t u : FT) : FT := fun ρ s => (t ρ s).bind fun c s1 => if c = true then u ρ s1 else .ok false s1
def mOr (t u : FT) : FT := fun ρ s => (t ρ s).bind fun c s1 => if c = true then .ok true s1 else u ρ s1
def mNot (t : FT) : FT := fun ρ s => (t ρ s).bind fun c s1 => .ok (!c) s1
variable {t u : FT} {rest : List Expr}
theorem mw_and1 (ha : MT X Γ W a t) : MW X Γ W (.BoolOp .And [a] pos) t := pw_and1 ha
theorem mw_or1 (ha : MT X Γ W a t) : MW X Γ W (.BoolOp .Or [a] pos) t := pw_or1 ha
theorem ifT {H : Hp} {μ : Mu} {Z : Zs} {σ : L2.St} {ρ : Env} {s : Sto} {Q : Bool → Hp → Prop} {v : FT} (hE : RE Γ H μ Z ρ σ) (hR : Rep Γ H μ Z s) (q : PostT Γ W H μ Z σ Q (v ρ s)) : rdT Γ W v σ H Q := ⟨μ, Z, ρ, s, hE, hR, q⟩
theorem ifE {H : Hp} {μ : Mu} {Z : Zs} {σ : L2.St} {ρ : Env} {s : Sto} {Q : VK} {v : FE} (hE : RE Γ H μ Z ρ σ) (hR : Rep Γ H μ Z s) (q : PostE Γ W H μ Z σ Q (v ρ s)) : rdE Γ W v σ H Q := ⟨μ, Z, ρ, s, hE, hR, q⟩
theorem mw_and (ha : MT X Γ W a t) (hb : MW X Γ W (.BoolOp .And (b :: rest) pos) u) : MW X Γ W (.BoolOp .And (a :: b :: rest) pos) (mAnd t u) :=
  PW.imp (pw_and ha hb) fun σ H Q ⟨μ, Z, ρ, s, hE, hR, q⟩ => tT hE hR q fun c s1 H1 μ1 e1 hE1 R1 q1 => by
    cases c with
    | true => rw [if_pos rfl] at q1 ⊢; exact ifT hE1 R1 q1
    | false => rw [if_neg Bool.false_ne_true] at q1 ⊢; exact okT R1 q1
theorem mw_or (ha : MT X Γ W a t) (hb : MW X Γ W (.BoolOp .Or (b :: rest) pos) u) : MW X Γ W (.BoolOp .Or (a :: b :: rest) pos) (mOr t u) :=
  PW.imp (pw_or ha hb) fun σ H Q ⟨μ, Z, ρ, s, hE, hR, q⟩ => tT hE hR q fun c s1 H1 μ1 e1 hE1 R1 q1 => by
    cases c with
    | true => rw [if_pos rfl] at q1 ⊢; exact okT R1 q1
    | false => rw [if_neg Bool.false_ne_true] at q1 ⊢; exact ifT hE1 R1 q1
theorem mt_w {e : Expr} (h : MW X Γ W e t) : MT X Γ W e t := PW.pt h
theorem mt_not (ha : MT X Γ W a t) : MT X Γ W (.UnaryOp .Not a pos) (mNot t) :=
  PT.imp (pt_not ha) fun σ H Q ⟨μ, Z, ρ, s, hE, hR, q⟩ => tT hE hR q fun c s1 H1 μ1 e1 hE1 R1 q1 => okT R1 q1
/-- and, or, not as values: bools -/
def mAndV (f g : FE) : FE := fun ρ s => (f ρ s).bind fun x s1 => match x with
  | .bl true => g ρ s1
  | .bl false => .ok (.bl false) s1
  | _ => .no
def mOrV (f g : FE) : FE := fun ρ s => (f ρ s).bind fun x s1 => match x with
  | .bl false => g ρ s1
  | .bl true => .ok (.bl true) s1
  | _ => .no
def mNotV (f : FE) : FE := fun ρ s => (f ρ s).bind fun x s1 => match x with
  | .bl c => .ok (.bl (!c)) s1
  | _ => .no
theorem me_one {op} (h : ME X Γ W a f) : ME X Γ W (.BoolOp op [a] pos) f := pe_one h
theorem me_and (ha : ME X Γ W a f) (hb : ME X Γ W (.BoolOp .And (b :: rest) pos) g) : ME X Γ W (.BoolOp .And (a :: b :: rest) pos) (mAndV f g) :=
  PE.imp (pe_and ha hb) fun σ H Q ⟨μ, Z, ρ, s, hE, hR, q⟩ => eE hE hR q fun x s1 u H1 μ1 e1 hE1 R1 r1 q1 => by
    cases x with
    | bl c =>
      refine ⟨c, r1, ?_⟩
      cases c with
      | true => rw [if_pos rfl]; exact ifE hE1 R1 q1
      | false => rw [if_neg Bool.false_ne_true]; exact okE (w := .bl false) R1 rfl q1
    | _ => exact q1.elim
theorem me_or (ha : ME X Γ W a f) (hb : ME X Γ W (.BoolOp .Or (b :: rest) pos) g) : ME X Γ W (.BoolOp .Or (a :: b :: rest) pos) (mOrV f g) :=
  PE.imp (pe_or ha hb) fun σ H Q ⟨μ, Z, ρ, s, hE, hR, q⟩ => eE hE hR q fun x s1 u H1 μ1 e1 hE1 R1 r1 q1 => by
    cases x with
    | bl c =>
      refine ⟨c, r1, ?_⟩
      cases c with
      | true => rw [if_pos rfl]; exact okE (w := .bl true) R1 rfl q1
      | false => rw [if_neg Bool.false_ne_true]; exact ifE hE1 R1 q1
    | _ => exact q1.elim
theorem me_not (ha : ME X Γ W a f) : ME X Γ W (.UnaryOp .Not a pos) (mNotV f) :=
  PE.imp (pe_not ha) fun σ H Q ⟨μ, Z, ρ, s, hE, hR, q⟩ => eE hE hR q fun x s1 u H1 μ1 e1 hE1 R1 r1 q1 => by
    cases x with
    | bl c => exact ⟨c, r1, okE (w := .bl (!c)) R1 rfl q1⟩
    | _ => exact q1.elim
def mIf (t : FT) (f g : FE) : FE := fun ρ s => (t ρ s).bind fun c s1 => if c = true then f ρ s1 else g ρ s1
theorem me_if {c : Expr} (hc : MT X Γ W c t) (ha : ME X Γ W a f) (hb : ME X Γ W b g) : ME X Γ W (.IfExp c a b pos) (mIf t f g) :=
  PE.imp (pe_ifExp hc ha hb) fun σ H Q ⟨μ, Z, ρ, s, hE, hR, q⟩ => tE hE hR q fun c s1 H1 μ1 e1 hE1 R1 q1 => by
    cases c with
    | true => rw [if_pos rfl] at q1 ⊢; exact ifE hE1 R1 q1
    | false => rw [if_neg Bool.false_ne_true] at q1 ⊢; exact ifE hE1 R1 q1

/-! ### argument lists, displays -/
def mNil : FA := fun _ s => .ok [] s
def mCons (f : FE) (g : FA) : FA := fun ρ s => (f ρ s).bind fun x s1 => (g ρ s1).bind fun xs s2 => .ok (x :: xs) s2
theorem ma_nil : MA X Γ W [] mNil := PA.imp pa_nil fun σ H Q ⟨μ, Z, ρ, s, hE, hR, q⟩ => q _ H μ .refl hR rfl
theorem ma_cons {e : Expr} {es : List Expr} {g : FA} (ha : ME X Γ W e f) (hr : MA X Γ W es g) (hs : starEach (e :: es) X.env = (false, eval e X.env) :: starEach es X.env := by rfl) : MA X Γ W (e :: es) (mCons f g) :=
  PA.imp (pa_cons ha hr hs) fun σ H Q ⟨μ, Z, ρ, s, hE, hR, q⟩ => eA hE hR q fun x s1 u H1 μ1 e1 hE1 R1 r1 q1 => aA hE1 R1 q1 fun ws s2 vs H2 μ2 e2 hE2 R2 r2 q2 =>
    q2 _ H2 μ2 .refl R2 (RVs.cons (r1.mono e2) r2)
def mTup (g : FA) : FE := fun ρ s => (g ρ s).bind fun ws s1 => if ws.length ≤ lim then .ok (.tup ws) s1 else .no
def mLst (g : FA) : FE := fun ρ s => (g ρ s).bind fun ws s1 => if ws.length ≤ lim then .ok (.lst ws) s1 else .no
/-- a list that will be changed: an object of the store -/
def mLstM (g : FA) : FE := fun ρ s => (g ρ s).bind fun ws s1 => if ws.length ≤ lim then .ok (.ref s1.length) (s1 ++ [.lst ws]) else .no
theorem lim_ok {n : Nat} (h : n ≤ lim) : n ≤ sizeLine := Nat.le_trans h (by rw [sizeLine_eq]; decide)
theorem lim_lt {n : Nat} (h : n ≤ lim) : n < sizeLine := Nat.lt_of_le_of_lt h (by rw [sizeLine_eq]; decide)
section
variable {H : Hp} {μ : Mu} {Z : Zs} {s : Sto} {p : Addr} {ws : List Dv} {vs : List V}
theorem new_tup (hR : Rep Γ H μ Z s) (hp : H p = none) (r : RVs Γ H μ Z ws vs) : RV Γ (upd H p (.tup vs)) μ Z (.tup ws) (.ref p) :=
  ⟨p, vs, rfl, .inl ⟨.inl upd_same, hR.fz hp⟩, r.mono (Evo.laid hp)⟩
theorem new_lst (hR : Rep Γ H μ Z s) (hp : H p = none) (r : RVs Γ H μ Z ws vs) : RV Γ (upd H p (.lst vs)) μ Z (.lst ws) (.ref p) :=
  ⟨p, vs, rfl, upd_same, hR.fz hp, r.mono (Evo.laid hp)⟩
/-- a new object of the store -/
def ext (μ : Mu) (n : Nat) (p : Addr) : Mu := fun m => if m = n then some p else μ m
theorem Evo.ext {o : HO} (hp : H p = none) (hn : μ n = none) : Evo H μ (upd H p o) (ext μ n p) where
  keep := fun a o h _ => by rw [upd_ne (ne_of_none h hp)]; exact h
  mu := fun m a h => by
    unfold MP.ext
    rw [if_neg fun e => by rw [e, hn] at h; cases h]
    exact h
  new := fun m a h => by
    unfold MP.ext at h
    split at h
    · cases h; exact .inr hp
    · exact .inl h
  stay := fun m a h q => by
    by_cases e : a = p
    · subst e; exact absurd hp q
    · rw [upd_ne e]; exact q
theorem Rep.mu_new (hR : Rep Γ H μ Z s) : μ s.length = none := by
  cases e : μ s.length with
  | none => rfl
  | some a => exact absurd (hR.dom _ _ e) (Nat.lt_irrefl _)
theorem RO.mono' {a : Addr} {o : Ob} {H' : Hp} {μ' : Mu} (e : Evo H μ H' μ') (q : H' a = H a) (h : RO Γ H μ Z a o) : RO Γ H' μ' Z a o := by
  cases o with
  | lst ws =>
    obtain ⟨xs, h4, h5⟩ := h
    exact ⟨xs, q.trans h4, h5.mono e⟩
  | dct kws =>
    obtain ⟨kvs, h4, h5, h6⟩ := h
    exact ⟨kvs, q.trans h4, h5, h6.mono e⟩
  | tab m y => exact ⟨h.1, tab_imp q (fun c e1 e2 => ⟨e.keep _ _ e1 e2.1, e.fz (by rw [e1]; intro z; cases z) e2⟩) h.2⟩
theorem Rep.push (hR : Rep Γ H μ Z s) (hp : H p = none) {o : HO} {ob : Ob} (ho : RO Γ (upd H p o) (MP.ext μ s.length p) Z p ob) : Rep Γ (upd H p o) (MP.ext μ s.length p) Z (s ++ [ob]) := by
  have ev : Evo H μ (upd H p o) (MP.ext μ s.length p) := Evo.ext hp hR.mu_new
  refine ⟨fun n o' q => ?_, fun n m a h1 h2 => ?_, fun n a h => ?_, fun a q => ev.alive (hR.za a q)⟩
  · by_cases hn : n = s.length
    · subst hn
      rw [List.getElem?_append_right (Nat.le_refl _)] at q
      simp at q
      subst q
      exact ⟨p, by unfold MP.ext; rw [if_pos rfl], fun z => hR.za p z hp, ho⟩
    · have hl : n < s.length := by
        have := (List.getElem?_eq_some_iff.mp q).1
        rw [List.length_append, List.length_singleton] at this
        omega
      rw [List.getElem?_append_left hl] at q
      obtain ⟨a, h1, h2, h3⟩ := hR.at n o' q
      exact ⟨a, ev.mu _ _ h1, h2, h3.mono' ev (upd_ne fun e => hR.alive h1 (e ▸ hp))⟩
  · unfold MP.ext at h1 h2
    split at h1 <;> split at h2
    · rename_i e1 e2; rw [e1, e2]
    · cases h1; exact absurd hp (hR.alive h2)
    · cases h2; exact absurd hp (hR.alive h1)
    · exact hR.inj _ _ _ h1 h2
  · unfold MP.ext at h
    rw [List.length_append, List.length_singleton]
    split at h
    · omega
    · have := hR.dom _ _ h
      omega
end
theorem me_tup {es : List Expr} {g : FA} {x1} (h : MA X Γ W es g) : ME X Γ W (.Tuple es x1 pos) (mTup g) :=
  PE.imp (pe_tup h) fun σ H Q ⟨μ, Z, ρ, s, hE, hR, q⟩ => aE hE hR q fun ws s1 vs H1 μ1 e1 hE1 R1 r1 q1 => by
    split at q1
    · rename_i hl
      exact ⟨by rw [r1.len]; exact lim_ok hl, fun p hp => newE R1 hp (new_tup R1 hp r1) q1⟩
    · exact q1.elim
theorem me_lst {es : List Expr} {g : FA} (h : MA X Γ W es g) : ME X Γ W (.List es pos) (mLst g) :=
  PE.imp (pe_lst h) fun σ H Q ⟨μ, Z, ρ, s, hE, hR, q⟩ => aE hE hR q fun ws s1 vs H1 μ1 e1 hE1 R1 r1 q1 => by
    split at q1
    · rename_i hl
      exact ⟨by rw [r1.len]; exact lim_ok hl, fun p hp => newE R1 hp (new_lst R1 hp r1) q1⟩
    · exact q1.elim
theorem me_lstM {es : List Expr} {g : FA} (h : MA X Γ W es g) : ME X Γ W (.List es pos) (mLstM g) :=
  PE.imp (pe_lst h) fun σ H Q ⟨μ, Z, ρ, s, hE, hR, q⟩ => aE hE hR q fun ws s1 vs H1 μ1 e1 hE1 R1 r1 q1 => by
    split at q1
    · rename_i hl
      refine ⟨by rw [r1.len]; exact lim_ok hl, fun p hp => ?_⟩
      have ev : Evo H1 μ1 (upd H1 p (.lst vs)) (ext μ1 s1.length p) := Evo.ext hp R1.mu_new
      exact q1 _ _ _ ev (R1.push hp ⟨vs, upd_same, r1.mono ev⟩) ⟨p, rfl, by unfold ext; rw [if_pos rfl]⟩
    · exact q1.elim
end
end MP

set_option Elab.async false
set_option linter.all false
set_option maxRecDepth 100000
set_option maxHeartbeats 4000000
namespace MP
open PySem PySem.Spec PyProof.Rows L2

/-! ### tuple * int, whatever the int -/
theorem tuple_mul1 (l : Addr) (items : Array Value) (n : Nat) (dd : Option Addr) (sl : Array (Option Value)) (x : Int) (u : Tok) (c0 : (decide (x < -(2 ^ 63)) || decide (x ≥ 2 ^ 63)) = false) (c1 : (items.isEmpty || x == 1) = true) :
    Meets (Builtin.«tuple.__mul__» ⟨[.ref l, .int x u], []⟩) (fun _ R s => s.heap.get? l = some { cls := .type "tuple", dict := dd, data := .seq items n, slots := sl } ∧
      R (.ok (.ret (Value.ref l))) s) :=
  .of_wp fun prog w A R s h => by
    obtain ⟨hp, g, d, tk, os⟩ := s
    obtain ⟨hl, h⟩ := h
    have f1 := AutoSeq1.idx_int
    wp_walk using wpAny_loadPart' hl
    repeat (first
      | (refine wpAny_ite_false (decide_eq_false (by rw [c0]; exact Bool.false_ne_true)) ?_; wp_walk using wpAny_loadPart' hl)
      | (refine wpAny_ite_true (decide_eq_true c1) ?_; wp_walk using wpAny_loadPart' hl))
    exact ⟨_, rfl, h⟩
theorem tuple_mul0 (l : Addr) (items : Array Value) (n : Nat) (dd : Option Addr) (sl : Array (Option Value)) (x : Int) (u : Tok) (c0 : (decide (x < -(2 ^ 63)) || decide (x ≥ 2 ^ 63)) = false) (c1 : (items.isEmpty || x == 1) = false) (c2 : (decide (x ≤ 0) || items.isEmpty) = true) :
    Meets (Builtin.«tuple.__mul__» ⟨[.ref l, .int x u], []⟩) (fun _ R s => s.heap.get? l = some { cls := .type "tuple", dict := dd, data := .seq items n, slots := sl } ∧
      R (.ok (.ret (Value.ref s.heap.objs.size))) { s with heap := s.heap.push { cls := Value.type "tuple", data := Data.seq #[] } }) :=
  .of_wp fun prog w A R s h => by
    obtain ⟨hp, g, d, tk, os⟩ := s
    obtain ⟨hl, h⟩ := h
    have f1 := AutoSeq1.idx_int
    wp_walk using wpAny_loadPart' hl
    repeat (first
      | (refine wpAny_ite_false (decide_eq_false (by rw [c0]; exact Bool.false_ne_true)) ?_; wp_walk using wpAny_loadPart' hl)
      | (refine wpAny_ite_false (decide_eq_false (by rw [c1]; exact Bool.false_ne_true)) ?_; wp_walk using wpAny_loadPart' hl)
      | (refine wpAny_ite_true (decide_eq_true c2) ?_; wp_walk using wpAny_loadPart' hl))
    exact ⟨_, rfl, h⟩
theorem tuple_mulN (l : Addr) (items : Array Value) (n : Nat) (dd : Option Addr) (sl : Array (Option Value)) (x : Int) (u : Tok) (c0 : (decide (x < -(2 ^ 63)) || decide (x ≥ 2 ^ 63)) = false) (c1 : (items.isEmpty || x == 1) = false) (c2 : (decide (x ≤ 0) || items.isEmpty) = false)
    (c3 : ¬ ((items.size : Nat) : Int) * x > (2 ^ 63 - 1) / 8) (c4 : Builtin.Tuple.tupleTooMany (((items.size : Nat) : Int) * x) = false) (hsz : (List.foldl (fun x1 x2 => x1 ++ x2) #[] (List.replicate x.toNat items)).size ≤ sizeLine) :
    Meets (Builtin.«tuple.__mul__» ⟨[.ref l, .int x u], []⟩) (fun _ R s => s.heap.get? l = some { cls := .type "tuple", dict := dd, data := .seq items n, slots := sl } ∧
      R (.ok (.ret (Value.ref s.heap.objs.size))) { s with heap := s.heap.push { cls := Value.type "tuple", data := Data.seq (List.foldl (fun x1 x2 => x1 ++ x2) #[] (List.replicate x.toNat items)) }, toks := s.toks }) := L2.tuple_mulW l items n dd sl x u c0 c1 c2 c3 c4 hsz
def rRepA (K : PySem.W.Frag) : R2 := fun x y H Q => ∃ l k xs, x = .ref l ∧ y = .int k ∧ SqT K H l xs ∧ -(2 ^ 63) ≤ k ∧ k < 2 ^ 63 ∧ xs.length * k.toNat ≤ 16000000 ∧
  (xs = [] ∨ k = 1 → Q (.ref l) H) ∧ (¬ (xs = [] ∨ k = 1) → ∀ p, H p = none → Q (.ref p) (upd H p (.tup (List.replicate k.toNat xs).flatten)))
section
variable {X : Cx}
theorem op_repA : OpR X (binaryOp .Mult) (rRepA X.K) := by
  intro pins s σ H x y v u Q I rx ry h
  obtain ⟨l, k, xs, rfl, rfl, hT, h1, h2, hz, qs, qn⟩ := h
  cases rx
  obtain ⟨t, rfl⟩ := ry
  obtain ⟨its, r, ⟨⟨cls, dd, data, sl⟩, ho, hc, n, hd⟩, hs⟩ := I.tuple hT
  simp only at hc hd
  subst hc hd
  have hle : its.length = xs.length := r.length.symm
  have hsz0 : its.toArray.size = xs.length := by rw [List.size_toArray, hle]
  have he : (its.toArray.isEmpty = true) ↔ xs = [] := by
    rw [← List.length_eq_zero_iff (l := xs), ← hle]
    clear hT r ho hs hle hsz0 qs qn hz
    cases its with
    | nil => exact ⟨fun _ => rfl, fun _ => rfl⟩
    | cons a b => exact ⟨fun z => (Bool.false_ne_true z).elim, fun z => (Nat.succ_ne_zero _ z).elim⟩
  have c0 : (decide (k < -(2 ^ 63)) || decide (k ≥ 2 ^ 63)) = false := by
    clear he qs qn
    rw [decide_eq_false (Int.not_lt.mpr h1), decide_eq_false (Int.not_le.mpr h2)] <;> rfl
  by_cases hsame : xs = [] ∨ k = 1
  · have c1 : (its.toArray.isEmpty || k == 1) = true := by
      rw [Bool.or_eq_true]
      rcases hsame with z | z
      · exact .inl (he.mpr z)
      · exact .inr (beq_iff_eq.mpr z)
    refine wpAny_binaryOp_repeat_ref (T := "tuple") (U := "int") (by decide) ⟨_, ho, rfl⟩ (fun s' => typeIs_int s' k t) noFill_tuple_mul F.fills_int_mul F.slot_int_rmul repeat_tuple F.slot_int_index.lookup
      (call_meets F.slot_int_rmul (typeIs_int s k t) F.entry_int_rmul (F.args_int_rmul_2 _ _) (int_rmul_tuple k t l its.toArray n dd sl)
        ⟨ho, rfl, ⟨_, ho, rfl⟩, call_meets F.slot_tuple_mul ⟨_, ho, rfl⟩ F.entry_tuple_mul (F.args_tuple_mul_2 _ _) (tuple_mul1 l its.toArray n dd sl k t c0 c1) ⟨ho, ?_⟩⟩)
    exact ⟨.ref l, H, I, rfl, qs hsame⟩
  · have hx : xs ≠ [] := fun z => hsame (.inl z)
    have hk : k ≠ 1 := fun z => hsame (.inr z)
    have hi : its.toArray.isEmpty = false := by
      cases e : its.toArray.isEmpty with
      | false => rfl
      | true => exact absurd (he.mp e) hx
    have c1 : (its.toArray.isEmpty || k == 1) = false := by
      rw [hi, Bool.false_or]
      exact beq_eq_false_iff_ne.mpr hk
    by_cases hk0 : k ≤ 0
    · have c2 : (decide (k ≤ 0) || its.toArray.isEmpty) = true := by rw [decide_eq_true hk0, Bool.true_or]
      have q := qn hsame
      have hk' : k.toNat = 0 := by omega
      rw [hk'] at q
      refine wpAny_binaryOp_repeat_ref (T := "tuple") (U := "int") (by decide) ⟨_, ho, rfl⟩ (fun s' => typeIs_int s' k t) noFill_tuple_mul F.fills_int_mul F.slot_int_rmul repeat_tuple F.slot_int_index.lookup
        (call_meets F.slot_int_rmul (typeIs_int s k t) F.entry_int_rmul (F.args_int_rmul_2 _ _) (int_rmul_tuple k t l its.toArray n dd sl)
          ⟨ho, rfl, ⟨_, ho, rfl⟩, call_meets F.slot_tuple_mul ⟨_, ho, rfl⟩ F.entry_tuple_mul (F.args_tuple_mul_2 _ _) (tuple_mul0 l its.toArray n dd sl k t c0 c1 c2) ⟨ho, ?_⟩⟩)
      refine ⟨.ref s.heap.objs.size, _, I.laid (t' := s.toks) (o := .tup []) (fun b ob q => Heap.get?_push_of_some _ q) (Nat.le_refl _) ?_, rfl, q _ (I.hok.fresh (Nat.le_refl _))⟩
      exact ⟨Nat.zero_le _, [], .nil, IsTup.new _ _⟩
    · have c2 : (decide (k ≤ 0) || its.toArray.isEmpty) = false := by
        rw [hi, Bool.or_false]
        exact decide_eq_false hk0
      have hkk : (k.toNat : Int) = k := Int.toNat_of_nonneg (by omega)
      have hm : ((its.toArray.size : Nat) : Int) * k ≤ 16000000 := by
        have z1 : ((xs.length * k.toNat : Nat) : Int) ≤ ((16000000 : Nat) : Int) := Int.ofNat_le.mpr hz
        rw [Int.natCast_mul, hkk] at z1
        rw [hsz0]
        exact z1
      have c4 : Builtin.Tuple.tupleTooMany (((its.toArray.size : Nat) : Int) * k) = false := by
        unfold Builtin.Tuple.tupleTooMany
        rw [sizeLine_eq]
        exact decide_eq_false (by omega)
      have flen : (List.replicate k.toNat its).flatten.length ≤ sizeLine := by
        rw [PyProof.Rows.lm_len_rep_flat, hle, sizeLine_eq, Nat.mul_comm]
        omega
      refine wpAny_binaryOp_repeat_ref (T := "tuple") (U := "int") (by decide) ⟨_, ho, rfl⟩ (fun s' => typeIs_int s' k t) noFill_tuple_mul F.fills_int_mul F.slot_int_rmul repeat_tuple F.slot_int_index.lookup
        (call_meets F.slot_int_rmul (typeIs_int s k t) F.entry_int_rmul (F.args_int_rmul_2 _ _) (int_rmul_tuple k t l its.toArray n dd sl)
          ⟨ho, rfl, ⟨_, ho, rfl⟩, call_meets F.slot_tuple_mul ⟨_, ho, rfl⟩ F.entry_tuple_mul (F.args_tuple_mul_2 _ _) (tuple_mulN l its.toArray n dd sl k t c0 c1 c2 (by omega) c4 (by rw [size_rep, List.size_toArray]; exact flen)) ⟨ho, ?_⟩⟩)
      rw [size_rep]
      refine ⟨.ref s.heap.objs.size, _, I.laid (t' := s.toks) (o := .tup (List.replicate k.toNat xs).flatten) (fun b ob q => Heap.get?_push_of_some _ q) (Nat.le_refl _) ?_, rfl, qn hsame _ (I.hok.fresh (Nat.le_refl _))⟩
      exact ⟨by rw [PyProof.Rows.lm_len_rep_flat, sizeLine_eq, Nat.mul_comm]; omega, _, r.rep k.toNat, IsTup.new _ _⟩
end

/-! ### what data is -/
def lstOf (s : Sto) : Dv → Option (List Dv)
  | .lst ws => some ws
  | .ref n => match s[n]? with
    | some (.lst ws) => some ws
    | _ => none
  | _ => none
/-- a sequence that is read -/
def seqOf (s : Sto) : Dv → Option (List Dv)
  | .tup ws => some ws
  | .sq ws => some ws
  | w => lstOf s w
def tupOf : Dv → Option (List Dv)
  | .tup ws => some ws
  | _ => none
def flat : Dv → Option V
  | .non => some .non | .bl b => some (.bl b) | .int i => some (.int i) | .str x => some (.str x)
  | _ => none
mutual
def toD0 : Dv → Option PyData
  | .non => some .none | .bl b => some (.bool b) | .int i => some (.int i) | .str x => some (.str x)
  | .tup ws => (toDs ws).map .tuple
  | .lst ws => (toDs ws).map .list
  | .sq ws => (toDs ws).map .list
  | _ => none
def toDs : List Dv → Option (List PyData)
  | [] => some []
  | w :: ws => match toD0 w, toDs ws with
    | some d, some ds => some (d :: ds)
    | _, _ => none
end
def toD (s : Sto) : Dv → Option PyData
  | .ref n => match s[n]? with
    | some (.lst ws) => (toDs ws).map .list
    | _ => none
  | w => toD0 w
section
variable {Γ : Ct} {H : Hp} {μ : Mu} {Z : Zs} {s : Sto}
theorem lstOf_ok {w : Dv} {v : V} {ws : List Dv} (hR : Rep Γ H μ Z s) (r : RV Γ H μ Z w v) (e : lstOf s w = some ws) : ∃ a xs, v = .ref a ∧ H a = some (.lst xs) ∧ RVs Γ H μ Z ws xs := by
  cases w with
  | lst us =>
    cases e
    obtain ⟨a, xs, h1, h2, _, h4⟩ := r
    exact ⟨a, xs, h1, h2, h4⟩
  | ref n =>
    simp only [lstOf] at e
    split at e
    · rename_i us q
      cases e
      obtain ⟨a, h1, h2⟩ := r
      obtain ⟨b, h3, _, xs, h4, h5⟩ := hR.at n _ q
      rw [h2] at h3
      cases h3
      exact ⟨a, xs, h1, h4, h5⟩
    · cases e
  | _ => cases e
theorem seqOf_ok {w : Dv} {v : V} {ws : List Dv} (hR : Rep Γ H μ Z s) (r : RV Γ H μ Z w v) (e : seqOf s w = some ws) : ∃ a xs, v = .ref a ∧ (SqL Γ.K H a xs ∨ SqT Γ.K H a xs) ∧ RVs Γ H μ Z ws xs := by
  cases w with
  | tup us =>
    cases e
    obtain ⟨a, xs, h1, h2, h3⟩ := r
    exact ⟨a, xs, h1, .inr h2.sq, h3⟩
  | sq us =>
    cases e
    obtain ⟨a, xs, h1, h2, h3⟩ := r
    exact ⟨a, xs, h1, .inl h2.sq, h3⟩
  | lst us =>
    obtain ⟨a, xs, h1, h2, h3⟩ := lstOf_ok hR r (show lstOf s (.lst us) = some ws from e)
    exact ⟨a, xs, h1, .inl (SqL.of h2), h3⟩
  | ref n =>
    obtain ⟨a, xs, h1, h2, h3⟩ := lstOf_ok hR r (show lstOf s (.ref n) = some ws from e)
    exact ⟨a, xs, h1, .inl (SqL.of h2), h3⟩
  | _ => cases e
theorem flat_ok {w : Dv} {v u : V} (r : RV Γ H μ Z w v) (e : flat w = some u) : v = u := by
  cases w <;> first
    | (cases e; exact r)
    | cases e
mutual
theorem toD0_ok : ∀ (w : Dv) {v : V} {d : PyData}, RV Γ H μ Z w v → toD0 w = some d → Dp Γ.K H v d
  | .non, _, _, r, e => by cases e; rw [show _ = _ from r]; exact .non
  | .bl b, _, _, r, e => by cases e; rw [show _ = _ from r]; exact .bl b
  | .int b, _, _, r, e => by cases e; rw [show _ = _ from r]; exact .int b
  | .str b, _, _, r, e => by cases e; rw [show _ = _ from r]; exact .str b
  | .tup ws, _, d, r, e => by
    obtain ⟨a, xs, rfl, h2, h3⟩ := r
    simp only [toD0] at e
    cases q : toDs ws with
    | none => rw [q] at e; cases e
    | some ds => rw [q] at e; cases e; exact .tup h2.sq (toDs_ok ws h3 q)
  | .sq ws, _, d, r, e => by
    obtain ⟨a, xs, rfl, h2, h3⟩ := r
    simp only [toD0] at e
    cases q : toDs ws with
    | none => rw [q] at e; cases e
    | some ds => rw [q] at e; cases e; exact .lst h2.sq (toDs_ok ws h3 q)
  | .lst ws, _, d, r, e => by
    obtain ⟨a, xs, rfl, h2, _, h3⟩ := r
    simp only [toD0] at e
    cases q : toDs ws with
    | none => rw [q] at e; cases e
    | some ds => rw [q] at e; cases e; exact .lst (SqL.of h2) (toDs_ok ws h3 q)
  | .ty _, _, _, _, e => by cases e
  | .cl _, _, _, _, e => by cases e
  | .ref _, _, _, _, e => by cases e
  | .dct _ _, _, _, _, e => by cases e
  | .exc _ _ _, _, _, _, e => by cases e
  | .exn _, _, _, _, e => by cases e
  | .clo _ _ _ _ _, _, _, _, e => by cases e
theorem toDs_ok : ∀ (ws : List Dv) {vs : List V} {ds : List PyData}, RVs Γ H μ Z ws vs → toDs ws = some ds → DpAll Γ.K H vs ds
  | [], _, _, r, e => by cases e; rw [show _ = _ from r]; exact .nil
  | w :: ws, _, _, r, e => by
    obtain ⟨x, xs, rfl, h2, h3⟩ := r
    simp only [toDs] at e
    split at e
    · rename_i d ds q1 q2
      cases e
      exact .cons (toD0_ok w h2 q1) (toDs_ok ws h3 q2)
    · cases e
end
theorem toD_ok {w : Dv} {v : V} {d : PyData} (hR : Rep Γ H μ Z s) (r : RV Γ H μ Z w v) (e : toD s w = some d) : Dp Γ.K H v d := by
  cases w with
  | ref n =>
    simp only [toD] at e
    split at e
    · rename_i us q
      obtain ⟨a, h1, h2⟩ := r
      obtain ⟨b, h3, _, xs, h4, h5⟩ := hR.at n _ q
      rw [h2] at h3
      cases h3
      subst h1
      cases q2 : toDs us with
      | none => rw [q2] at e; cases e
      | some ds => rw [q2] at e; cases e; exact .lst (SqL.of h4) (toDs_ok us h5 q2)
    · cases e
  | _ => exact toD0_ok _ r e
end

/-! ### the operators -/
def cm (i j : Int) : Bool := decide ((-(2 ^ 64) < i ∧ i < 2 ^ 64) ∨ (-(2 ^ 64) < j ∧ j < 2 ^ 64))
theorem cm_ok {i j : Int} (h : cm i j = true) : CMul i j := (of_decide_eq_true h : (-(2 ^ 64) < i ∧ i < 2 ^ 64) ∨ (-(2 ^ 64) < j ∧ j < 2 ^ 64))
def addD : O2 := fun s x y => match x, y with
  | .int i, .int j => some (.int (i + j))
  | .str a, .str b => if a.length + b.length ≤ lim then some (.str (a ++ b)) else none
  | .tup a, .tup b => if a.length + b.length ≤ lim then some (.tup (a ++ b)) else none
  | x, y => match lstOf s x, lstOf s y with
    | some a, some b => if a.length + b.length ≤ lim then some (.lst (a ++ b)) else none
    | _, _ => none
def subD : O2 := fun _ x y => match x, y with
  | .int i, .int j => some (.int (i - j))
  | _, _ => none
def mulD : O2 := fun s x y => match x, y with
  | .int i, .int j => if cm i j = true then some (.int (i * j)) else none
  | .tup a, .int k => if -(2 ^ 63) ≤ k ∧ k < 2 ^ 63 ∧ a.length * k.toNat ≤ lim then some (.tup (List.replicate k.toNat a).flatten) else none
  | x, .int k => match lstOf s x with
    | some a => if -(2 ^ 63) ≤ k ∧ k < 2 ^ 63 ∧ a.length * k.toNat ≤ lim then some (.lst (List.replicate k.toNat a).flatten) else none
    | none => none
  | _, _ => none
def modD : O2 := fun _ x y => match x, y with
  | .int i, .int j => if 0 < j then some (.int (i % j)) else none
  | _, _ => none
def divD : O2 := fun _ x y => match x, y with
  | .int i, .int j => if 0 < j ∧ j < 1073741824 then some (.int (i / j)) else none
  | _, _ => none
def powD : O2 := fun _ x y => match x, y with
  | .int i, .int j => if 0 ≤ j ∧ j ≤ 1000000 ∧ i.natAbs < 2 ^ 64 then some (.int (i ^ j.toNat)) else none
  | _, _ => none
def negD : O1 := fun _ x => match x with
  | .int i => some (.int (-i))
  | _ => none
def cmpD (p : Int → Int → Bool) : O2 := fun _ x y => match x, y with
  | .int i, .int j => some (.bl (p i j))
  | _, _ => none
abbrev ltD : O2 := cmpD fun i j => decide (i < j)
abbrev leD : O2 := cmpD fun i j => decide (i ≤ j)
abbrev gtD : O2 := cmpD fun i j => decide (j < i)
abbrev geD : O2 := cmpD fun i j => decide (j ≤ i)
def eqB (s : Sto) (x y : Dv) : Option Bool := match flat x, flat y with
  | some a, some b => if scal a b = true then some (decide (a = b)) else none
  | _, _ => match toD s x, toD s y with
    | some d, some e => if SeqAt.shaped d = true ∧ SeqAt.shaped e = true then some (PyData.eqv d e) else none
    | _, _ => none
def eqD : O2 := fun s x y => (eqB s x y).map .bl
def neD : O2 := fun s x y => (eqB s x y).map fun b => .bl (!b)
def isN : Dv → Option Bool
  | .non => some true
  | .bl _ => some false | .int _ => some false | .str _ => some false | .tup _ => some false | .lst _ => some false | .sq _ => some false | .dct _ _ => some false | .exc _ _ _ => some false | .exn _ => some false | .ref _ => some false | .ty _ => some false | .cl _ => some false | .clo _ _ _ _ _ => some false
def isBl (c : Bool) : Dv → Bool
  | .bl b => b == c
  | _ => false
def isD : O2 := fun _ x y => match y with
  | .non => (isN x).map .bl
  | .bl c => some (.bl (isBl c x))
  | _ => none
def isntD : O2 := fun _ x y => match y with
  | .non => (isN x).map fun b => .bl (!b)
  | .bl c => some (.bl (!isBl c x))
  | _ => none

section
variable {Γ : Ct} {X : Cx}
abbrev rAdd (K : PySem.W.Frag) : R2 := fun x y H Q => ((rI0 fun i j => .int (i + j)) x y H Q ∨ (∃ i j, x = .str i ∧ y = .str j ∧ i.length + j.length ≤ sizeLine ∧ Q (.str (i ++ j)) H)) ∨ (rCatA K x y H Q ∨ rCat x y H Q)
theorem opAdd : OpR X (binaryOp .Add) (rAdd X.K) := OpR.or2 (OpR.or2 op_add op_add_str) (OpR.or2 op_catA op_cat)
theorem sAdd : Op2 Γ (rAdd Γ.K) addD := fun H μ Z s x y w u v Q hR r1 r2 e k => by
  unfold addD at e
  split at e
  · cases e
    exact .inl (.inl ⟨_, _, r1, r2, k _ H .refl hR rfl⟩)
  · rename_i a b
    split at e
    · rename_i hl
      cases e
      exact .inl (.inr ⟨_, _, r1, r2, lim_ok hl, k _ H .refl hR rfl⟩)
    · cases e
  · rename_i a b
    split at e
    · rename_i hl
      cases e
      obtain ⟨p, xs, h1, h2, h3⟩ := id r1
      obtain ⟨p', ys, g1, g2, g3⟩ := id r2
      refine .inr (.inl ⟨p, p', xs, ys, h1, g1, h2.sq, g2.sq, by rw [h3.len, g3.len]; exact lim_ok hl, fun z => ?_, fun z z' => ?_, fun z z' q hq => ?_⟩)
      · have hn : a = [] := by
          have := h3.len
          rw [z] at this
          exact List.eq_nil_of_length_eq_zero this.symm
        rw [hn, List.nil_append] at k
        exact k _ H .refl hR (g1 ▸ r2)
      · have hn : b = [] := by
          have := g3.len
          rw [z'] at this
          exact List.eq_nil_of_length_eq_zero this.symm
        rw [hn, List.append_nil] at k
        exact k _ H .refl hR (h1 ▸ r1)
      · exact k _ _ (Evo.laid hq) (hR.laid hq) (new_tup hR hq (h3.append g3))
    · cases e
  · split at e
    · rename_i a b q1 q2
      split at e
      · rename_i hl
        cases e
        obtain ⟨p, xs, h1, h2, h3⟩ := lstOf_ok hR r1 q1
        obtain ⟨p', ys, g1, g2, g3⟩ := lstOf_ok hR r2 q2
        exact .inr (.inr ⟨p, p', xs, ys, h1, g1, h2, g2, by rw [h3.len, g3.len]; exact lim_ok hl, fun q hq => k _ _ (Evo.laid hq) (hR.laid hq) (new_lst hR hq (h3.append g3))⟩)
      · cases e
    · cases e
theorem sSub : Op2 Γ (rI0 fun i j => .int (i - j)) subD := fun H μ Z s x y w u v Q hR r1 r2 e k => by
  unfold subD at e
  split at e
  · cases e
    exact ⟨_, _, r1, r2, k _ H .refl hR rfl⟩
  · cases e
abbrev rMul (K : PySem.W.Frag) : R2 := fun x y H Q => (rI CMul fun i j => .int (i * j)) x y H Q ∨ (rRepA K x y H Q ∨ rRep x y H Q)
theorem opMul : OpR X (binaryOp .Mult) (rMul X.K) := OpR.or2 op_mul (OpR.or2 op_repA op_rep)
theorem flat_one {α : Type} (l : List α) : (List.replicate 1 l).flatten = l := by simp
theorem flat_nil {α : Type} (n : Nat) : (List.replicate n ([] : List α)).flatten = [] := by
  induction n with
  | zero => rfl
  | succ n ih => rw [List.replicate_succ, List.flatten_cons, ih]; rfl
theorem sMul : Op2 Γ (rMul Γ.K) mulD := fun H μ Z s x y w u v Q hR r1 r2 e k => by
  unfold mulD at e
  split at e
  · split at e
    · rename_i hc
      cases e
      exact .inl ⟨_, _, r1, r2, cm_ok hc, k _ H .refl hR rfl⟩
    · cases e
  · rename_i a n
    split at e
    · rename_i hl
      cases e
      obtain ⟨p, xs, h1, h2, h3⟩ := id r1
      refine .inr (.inl ⟨p, n, xs, h1, r2, h2.sq, hl.1, hl.2.1, by rw [h3.len]; exact hl.2.2, fun z => ?_, fun z q hq => ?_⟩)
      · have hn : (List.replicate n.toNat a).flatten = a := by
          rcases z with z | z
          · have h0 : a = [] := by
              have := h3.len
              rw [z] at this
              exact List.eq_nil_of_length_eq_zero this.symm
            rw [h0, flat_nil]
          · rw [z]
            exact flat_one a
        rw [hn] at k
        exact k _ H .refl hR (h1 ▸ r1)
      · exact k _ _ (Evo.laid hq) (hR.laid hq) (new_tup hR hq (h3.rep _))
    · cases e
  · rename_i n _ _
    split at e
    · rename_i a q1
      split at e
      · rename_i hl
        cases e
        obtain ⟨p, xs, h1, h2, h3⟩ := lstOf_ok hR r1 q1
        exact .inr (.inr ⟨p, n, xs, h1, r2, h2, hl.1, hl.2.1, by rw [h3.len]; exact lim_ok hl.2.2, fun q hq => k _ _ (Evo.laid hq) (hR.laid hq) (new_lst hR hq (h3.rep _))⟩)
      · cases e
    · cases e
  · cases e
theorem sMod : Op2 Γ (rI (fun _ j => 0 < j) fun i j => .int (i % j)) modD := fun H μ Z s x y w u v Q hR r1 r2 e k => by
  unfold modD at e
  split at e
  · split at e
    · rename_i hc
      cases e
      exact ⟨_, _, r1, r2, hc, k _ H .refl hR rfl⟩
    · cases e
  · cases e
theorem sDiv : Op2 Γ (rI CDiv fun i j => .int (i / j)) divD := fun H μ Z s x y w u v Q hR r1 r2 e k => by
  unfold divD at e
  split at e
  · split at e
    · rename_i hc
      cases e
      exact ⟨_, _, r1, r2, hc, k _ H .refl hR rfl⟩
    · cases e
  · cases e
theorem sPow : Op2 Γ (rI CPow fun i j => .int (i ^ j.toNat)) powD := fun H μ Z s x y w u v Q hR r1 r2 e k => by
  unfold powD at e
  split at e
  · split at e
    · rename_i hc
      cases e
      exact ⟨_, _, r1, r2, hc, k _ H .refl hR rfl⟩
    · cases e
  · cases e
theorem sNeg : Op1 Γ (rU fun i => .int (-i)) negD := fun H μ Z s x w u Q hR r1 e k => by
  unfold negD at e
  split at e
  · cases e
    exact ⟨_, r1, k _ H .refl hR rfl⟩
  · cases e
theorem sCmp {p : Int → Int → Bool} : Op2 Γ (rI0 fun i j => .bl (p i j)) (cmpD p) := fun H μ Z s x y w u v Q hR r1 r2 e k => by
  unfold cmpD at e
  split at e
  · cases e
    exact ⟨_, _, r1, r2, k _ H .refl hR rfl⟩
  · cases e
abbrev rEqM (K : PySem.W.Frag) : R2 := fun x y H Q => rEq x y H Q ∨ rEqD K x y H Q
abbrev rNeM (K : PySem.W.Frag) : R2 := fun x y H Q => rNe x y H Q ∨ rNeD K x y H Q
theorem opEq (hu : X.A.units + 64 < cLine) : OpR X (compareOp .Eq) (rEqM X.K) := OpR.or2 op_eq (op_eqD hu)
theorem opNe (hu : X.A.units + 64 < cLine) : OpR X (compareOp .NotEq) (rNeM X.K) := OpR.or2 op_ne (op_neD hu)
theorem sEq : Op2 Γ (rEqM Γ.K) eqD := fun H μ Z s x y w u v Q hR r1 r2 e k => by
  unfold eqD eqB at e
  split at e
  · rename_i a b q1 q2
    split at e
    · rename_i hs
      cases e
      rw [flat_ok r1 q1, flat_ok r2 q2]
      exact .inl ⟨hs, k _ H .refl hR rfl⟩
    · cases e
  · split at e
    · rename_i d d' q1 q2
      split at e
      · rename_i hs
        cases e
        exact .inr ⟨d, d', toD_ok hR r1 q1, toD_ok hR r2 q2, hs.1, hs.2, k _ H .refl hR rfl⟩
      · cases e
    · cases e
theorem sNe : Op2 Γ (rNeM Γ.K) neD := fun H μ Z s x y w u v Q hR r1 r2 e k => by
  unfold neD eqB at e
  split at e
  · rename_i a b q1 q2
    split at e
    · rename_i hs
      cases e
      rw [flat_ok r1 q1, flat_ok r2 q2]
      exact .inl ⟨hs, k _ H .refl hR rfl⟩
    · cases e
  · split at e
    · rename_i d d' q1 q2
      split at e
      · rename_i hs
        cases e
        exact .inr ⟨d, d', toD_ok hR r1 q1, toD_ok hR r2 q2, hs.1, hs.2, k _ H .refl hR rfl⟩
      · cases e
    · cases e
theorem isN_ok {H : Hp} {μ : Mu} {Z : Zs} {w : Dv} {v : V} {b : Bool} (r : RV Γ H μ Z w v) (e : isN w = some b) : decide (v = V.non) = b := by
  cases w with
  | non => cases e; rw [show v = _ from r]; rfl
  | bl _ => cases e; rw [show v = _ from r]; rfl
  | int _ => cases e; rw [show v = _ from r]; rfl
  | str _ => cases e; rw [show v = _ from r]; rfl
  | ty _ => cases e; rw [show v = _ from r]; rfl
  | cl _ => cases e; rw [show v = _ from r]; rfl
  | ref n => cases e; obtain ⟨_, h, _⟩ := r; rw [h]; rfl
  | tup _ => cases e; obtain ⟨_, _, h, _⟩ := r; rw [h]; rfl
  | lst _ => cases e; obtain ⟨_, _, h, _⟩ := r; rw [h]; rfl
  | sq _ => cases e; obtain ⟨_, _, h, _⟩ := r; rw [h]; rfl
  | dct _ _ => cases e; obtain ⟨_, _, h, _⟩ := r; rw [h]; rfl
  | exc _ _ _ => cases e; obtain ⟨_, _, _, h, _⟩ := r; rw [h]; rfl
  | exn _ => cases e; obtain ⟨_, h, _⟩ := r; rw [h]; rfl
  | clo _ _ _ _ _ => cases e; rw [show v = _ from r.1]; rfl
theorem isBl_ok {H : Hp} {μ : Mu} {Z : Zs} {w : Dv} {v : V} {c : Bool} (r : RV Γ H μ Z w v) : decide (v = V.bl c) = isBl c w := by
  cases w with
  | non => rw [show v = _ from r]; rfl
  | bl b => rw [show v = _ from r]; cases b <;> cases c <;> rfl
  | int _ => rw [show v = _ from r]; rfl
  | str _ => rw [show v = _ from r]; rfl
  | ty _ => rw [show v = _ from r]; rfl
  | cl _ => rw [show v = _ from r]; rfl
  | ref n => obtain ⟨_, h, _⟩ := r; rw [h]; rfl
  | tup _ => obtain ⟨_, _, h, _⟩ := r; rw [h]; rfl
  | lst _ => obtain ⟨_, _, h, _⟩ := r; rw [h]; rfl
  | sq _ => obtain ⟨_, _, h, _⟩ := r; rw [h]; rfl
  | dct _ _ => obtain ⟨_, _, h, _⟩ := r; rw [h]; rfl
  | exc _ _ _ => obtain ⟨_, _, _, h, _⟩ := r; rw [h]; rfl
  | exn _ => obtain ⟨_, h, _⟩ := r; rw [h]; rfl
  | clo _ _ _ _ _ => rw [show v = _ from r.1]; rfl
/-- x is c, c one of None, True, False -/
def rIsC (n : Bool) : R2 := fun x y H Q => (y = .non ∨ ∃ b, y = .bl b) ∧ Q (.bl (decide (x = y) != n)) H
theorem rel_bl {x : V} {v : Value} (r : RelV x v) (b : Bool) : plainIs v (.bool b) = true ∧ (v == Value.bool b) = decide (x = V.bl b) := by
  cases x with
  | bl c => cases r; cases b <;> cases c <;> exact ⟨rfl, rfl⟩
  | ref a => cases r; exact ⟨rfl, rfl⟩
  | non => cases r; exact ⟨rfl, rfl⟩
  | int i => obtain ⟨t, rfl⟩ := r; exact ⟨rfl, rfl⟩
  | str x => obtain ⟨t, rfl⟩ := r; exact ⟨rfl, rfl⟩
  | byt x => obtain ⟨t, rfl⟩ := r; exact ⟨rfl, rfl⟩
  | flt x => obtain ⟨t, rfl⟩ := r; exact ⟨rfl, rfl⟩
  | ty n => cases r; exact ⟨rfl, rfl⟩
theorem op_isC : OpR X (compareOp .Is) (rIsC false) := by
  intro pins s σ H x y v u Q I rx ry h
  obtain ⟨hy | ⟨b, hy⟩, q⟩ := h
  · subst hy
    exact op_isN pins s σ H x .non v u Q I rx ry ⟨rfl, by simpa using q⟩
  · subst hy
    cases ry
    obtain ⟨h1, h2⟩ := rel_bl rx b
    exact wpAny_is_plain h1 (fin_bl I q (by rw [h2]; simp))
theorem op_notC : OpR X (compareOp .IsNot) (rIsC true) := by
  intro pins s σ H x y v u Q I rx ry h
  obtain ⟨hy | ⟨b, hy⟩, q⟩ := h
  · subst hy
    exact op_notN pins s σ H x .non v u Q I rx ry ⟨rfl, by simpa using q⟩
  · subst hy
    cases ry
    obtain ⟨h1, h2⟩ := rel_bl rx b
    exact wpAny_isNot_plain h1 (fin_bl I q (by rw [h2]; simp))
theorem sIsC : Op2 Γ (rIsC false) isD := fun H μ Z s x y w u v Q hR r1 r2 e k => by
  unfold isD at e
  split at e
  · cases q : isN x with
    | none => rw [q] at e; cases e
    | some b =>
      rw [q] at e
      cases e
      refine ⟨.inl r2, k _ H .refl hR ?_⟩
      rw [show v = _ from r2, isN_ok r1 q]
      simp [RV]
  · rename_i c
    cases e
    refine ⟨.inr ⟨c, r2⟩, k _ H .refl hR ?_⟩
    rw [show v = _ from r2, isBl_ok r1]
    simp [RV]
  · cases e
theorem sIsntC : Op2 Γ (rIsC true) isntD := fun H μ Z s x y w u v Q hR r1 r2 e k => by
  unfold isntD at e
  split at e
  · cases q : isN x with
    | none => rw [q] at e; cases e
    | some b =>
      rw [q] at e
      cases e
      refine ⟨.inl r2, k _ H .refl hR ?_⟩
      rw [show v = _ from r2, isN_ok r1 q]
      simp [RV]
  · rename_i c
    cases e
    refine ⟨.inr ⟨c, r2⟩, k _ H .refl hR ?_⟩
    rw [show v = _ from r2, isBl_ok r1]
    simp [RV]
  · cases e
end
end MP

set_option Elab.async false
set_option linter.all false
set_option maxRecDepth 100000
set_option maxHeartbeats 4000000
namespace MP
open PySem PySem.Spec PyProof.Rows L2

/-! ### statements -/
section
variable {X : Cx} {Γ : Ct} {W : WX} {st : Stmt} {rest : List Stmt} {e : Expr} {f : FE} {c c' : FS} {t : FT} {pos : Pos}
def mNext : FS := fun ρ s => .nx ρ s
def mSeq (c c' : FS) : FS := fun ρ s => match c ρ s with
  | .nx ρ' s' => c' ρ' s'
  | r => r
theorem mb_nil : MB X Γ W [] mNext := PSs.imp pss_nil fun D σ H ⟨μ, Z, ρ, s, hE, hR, q⟩ => q σ H μ .refl hR hE
theorem goS {H : Hp} {μ : Mu} {Z : Zs} {σ : L2.St} {ρ : Env} {s : Sto} {D : Ends} (hE : RE Γ H μ Z ρ σ) (hR : Rep Γ H μ Z s) (q : PostS Γ W H μ Z D (c ρ s)) : rdS Γ W c D σ H := ⟨μ, Z, ρ, s, hE, hR, q⟩
/-- a statement, then what goes on -/
theorem sS {H : Hp} {μ : Mu} {Z : Zs} {σ : L2.St} {ρ : Env} {s : Sto} {D : Ends} {nx : L2.St → Hp → Prop} (hE : RE Γ H μ Z ρ σ) (hR : Rep Γ H μ Z s) (h : PostS Γ W H μ Z D (mSeq c c' ρ s))
    (hk : ∀ ρ1 s1 σ1 H1 μ1, Evo H μ H1 μ1 → RE Γ H1 μ1 Z ρ1 σ1 → Rep Γ H1 μ1 Z s1 → PostS Γ W H1 μ1 Z D (c' ρ1 s1) → nx σ1 H1) : rdS Γ W c { D with nx := nx } σ H := by
  refine ⟨μ, Z, ρ, s, hE, hR, ?_⟩
  unfold mSeq at h
  cases q : c ρ s with
  | nx ρ1 s1 =>
    rw [q] at h
    exact fun σ1 H1 μ1 ev R1 E1 => hk ρ1 s1 σ1 H1 μ1 ev E1 R1 (PostS.evo ev h)
  | bk ρ1 s1 => rw [q] at h; exact h
  | ct ρ1 s1 => rw [q] at h; exact h
  | rt w s1 => rw [q] at h; exact h
  | er x ρ1 s1 => rw [q] at h; exact h
  | no => rw [q] at h; exact h
theorem mb_cons (h1 : MS X Γ W st c) (h2 : MB X Γ W rest c') : MB X Γ W (st :: rest) (mSeq c c') :=
  PSs.imp (pss_cons h1 h2) fun D σ H ⟨μ, Z, ρ, s, hE, hR, q⟩ => sS hE hR q fun ρ1 s1 σ1 H1 μ1 _ E1 R1 q1 => goS E1 R1 q1
theorem mb_one (h1 : MS X Γ W st c) : MB X Γ W [st] c := pss_one h1
theorem ms_pass : MS X Γ W (.Pass pos) mNext := PS.imp ps_pass fun D σ H ⟨μ, Z, ρ, s, hE, hR, q⟩ => q σ H μ .refl hR hE
def mBreak : FS := fun ρ s => .bk ρ s
def mCont : FS := fun ρ s => .ct ρ s
theorem ms_break : MS X Γ W (.Break pos) mBreak := PS.imp ps_break fun D σ H ⟨μ, Z, ρ, s, hE, hR, q⟩ => q σ H μ .refl hR hE
theorem ms_cont : MS X Γ W (.Continue pos) mCont := PS.imp ps_continue fun D σ H ⟨μ, Z, ρ, s, hE, hR, q⟩ => q σ H μ .refl hR hE
def mExpr (f : FE) : FS := fun ρ s => (f ρ s).thenC ρ fun _ s1 => .nx ρ s1
theorem ms_expr (he : ME X Γ W e f) (hs : swapsWith e none pos.line X.env = pure false := by rfl) : MS X Γ W (.Expr e pos) (mExpr f) :=
  PS.imp (ps_expr he hs) fun D σ H ⟨μ, Z, ρ, s, hE, hR, q⟩ => eS hE hR q fun x s1 v H1 μ1 _ E1 R1 _ q1 => q1 σ H1 μ1 .refl R1 E1
def mRet (f : FE) : FS := fun ρ s => (f ρ s).thenC ρ fun w s1 => .rt w s1
theorem ms_ret (he : ME X Γ W e f) : MS X Γ W (.Return (some e) pos) (mRet f) :=
  PS.imp (ps_ret he) fun D σ H ⟨μ, Z, ρ, s, hE, hR, q⟩ => eS hE hR q fun x s1 v H1 μ1 _ E1 R1 r1 q1 => q1 v H1 μ1 .refl R1 r1
def mRetN : FS := fun _ s => .rt .non s
theorem ms_retN : MS X Γ W (.Return none pos) mRetN := PS.imp ps_retN fun D σ H ⟨μ, Z, ρ, s, hE, hR, q⟩ => q .non H μ .refl hR rfl
def mIfS (t : FT) (c c' : FS) : FS := fun ρ s => (t ρ s).thenC ρ fun b s1 => if b = true then c ρ s1 else c' ρ s1
theorem ms_if {cond : Expr} {a b : List Stmt} (hc : MT X Γ W cond t) (ha : MB X Γ W a c) (hb : MB X Γ W b c') : MS X Γ W (.If cond a b pos) (mIfS t c c') :=
  PS.imp (ps_if hc ha hb) fun D σ H ⟨μ, Z, ρ, s, hE, hR, q⟩ => tS hE hR q fun b s1 H1 μ1 _ E1 R1 q1 => by
    cases b with
    | true => rw [if_pos rfl] at q1 ⊢; exact goS E1 R1 q1
    | false => rw [if_neg Bool.false_ne_true] at q1 ⊢; exact goS E1 R1 q1

/-! ### targets -/
abbrev FG := Dv → Env → Sto → Option Env
/-- a target: what it does to the names -/
def GOk (Γ : Ct) (g : TG) (fg : FG) : Prop := ∀ (H : Hp) (μ : Mu) (Z : Zs) (ρ ρ' : Env) (s : Sto) (σ : L2.St) (w : Dv) (v : V) (Q : L2.St → Hp → Prop), RE Γ H μ Z ρ σ → Rep Γ H μ Z s → RV Γ H μ Z w v → fg w ρ s = some ρ' →
  (∀ σ', RE Γ H μ Z ρ' σ' → Q σ' H) → g v σ H Q
def GsOk (Γ : Ct) (g : TGs) (fg : List Dv → Env → Sto → Option Env) : Prop := ∀ (H : Hp) (μ : Mu) (Z : Zs) (ρ ρ' : Env) (s : Sto) (σ : L2.St) (ws : List Dv) (vs : List V) (Q : L2.St → Hp → Prop), RE Γ H μ Z ρ σ → Rep Γ H μ Z s → RVs Γ H μ Z ws vs → fg ws ρ s = some ρ' →
  (∀ σ', RE Γ H μ Z ρ' σ' → Q σ' H) → g vs σ H Q
def MG (X : Cx) (Γ : Ct) (tg : Expr) (g : TG) (fg : FG) : Prop := PG X tg g ∧ GOk Γ g fg
def MGs (X : Cx) (Γ : Ct) (tg : List Expr) (g : TGs) (fg : List Dv → Env → Sto → Option Env) : Prop := PGs X tg g ∧ GsOk Γ g fg
def gN (i : Nat) : FG := fun w ρ _ => some (ρ.set i (some w))
theorem mg_name {tg : Expr} {i : Nat} (h : PG X tg (gName i)) : MG X Γ tg (gName i) (gN i) := ⟨h, fun H μ Z ρ ρ' s σ w v Q hE hR r e k => by
  cases e
  exact k _ (hE.set i r)⟩
def gs0 : List Dv → Env → Sto → Option Env := fun ws ρ _ => match ws with
  | [] => some ρ
  | _ => none
def gsC (g : FG) (gs : List Dv → Env → Sto → Option Env) : List Dv → Env → Sto → Option Env := fun ws ρ s => match ws with
  | w :: r => (g w ρ s).bind fun ρ1 => gs r ρ1 s
  | [] => none
theorem mgs_nil : MGs X Γ [] gNil gs0 := ⟨pgs_nil, fun H μ Z ρ ρ' s σ ws vs Q hE hR r e k => by
  cases ws with
  | nil => cases e; exact ⟨r, k σ hE⟩
  | cons _ _ => cases e⟩
theorem mgs_cons {tg : Expr} {tgs : List Expr} {g : TG} {gs : TGs} {fg : FG} {fgs : List Dv → Env → Sto → Option Env} (h1 : MG X Γ tg g fg) (h2 : MGs X Γ tgs gs fgs) (h : PGs X (tg :: tgs) (gCons g gs)) : MGs X Γ (tg :: tgs) (gCons g gs) (gsC fg fgs) := ⟨h, fun H μ Z ρ ρ' s σ ws vs Q hE hR r e k => by
  cases ws with
  | nil => cases e
  | cons w ws =>
    obtain ⟨x, xs, rfl, r1, r2⟩ := r
    simp only [gsC] at e
    cases q : fg w ρ s with
    | none => rw [q] at e; cases e
    | some ρ1 =>
      rw [q] at e
      exact ⟨x, xs, rfl, h1.2 H μ Z ρ ρ1 s σ w x _ hE hR r1 q fun σ1 E1 => h2.2 H μ Z ρ1 ρ' s σ1 ws xs Q E1 hR r2 e k⟩⟩
def gT (n : Nat) (gs : List Dv → Env → Sto → Option Env) : FG := fun w ρ s => match tupOf w with
  | some ws => if ws.length = n then gs ws ρ s else none
  | none => none
theorem mg_tup {tg : Expr} {K : PySem.W.Frag} {n : Nat} {gs : TGs} {fgs : List Dv → Env → Sto → Option Env} (hK : K = Γ.K) (h : PG X tg (gTup K n gs)) (h2 : GsOk Γ gs fgs) : MG X Γ tg (gTup K n gs) (gT n fgs) := ⟨h, fun H μ Z ρ ρ' s σ w v Q hE hR r e k => by
  subst hK
  unfold gT at e
  split at e
  · rename_i ws q
    split at e
    · rename_i hl
      cases w with
      | tup us =>
        cases q
        obtain ⟨a, xs, h1, h3, h4⟩ := r
        exact ⟨a, xs, h1, h3.sq, by rw [h4.len]; exact hl, h2 H μ Z ρ ρ' s σ _ xs Q hE hR h4 e k⟩
      | _ => cases q
    · cases e
  · cases e⟩
/-- g = e -/
def mAsg (f : FE) (g : FG) : FS := fun ρ s => (f ρ s).thenC ρ fun w s1 => match g w ρ s1 with
  | some ρ' => .nx ρ' s1
  | none => .no
theorem asg_ok {g : TG} {fg : FG} {D : Ends} {σ : L2.St} {H : Hp} (hg : GOk Γ g fg) (h : rdS Γ W (mAsg f fg) D σ H) : tAsg (rdE Γ W f) g D σ H := by
  obtain ⟨μ, Z, ρ, s, hE, hR, q⟩ := h
  exact eS hE hR q fun w s1 v H1 μ1 _ E1 R1 r1 q1 => by
    split at q1
    · rename_i ρ' e
      exact hg H1 μ1 Z ρ ρ' s1 σ w v _ E1 R1 r1 e fun σ' E' => q1 σ' H1 μ1 .refl R1 E'
    · exact q1.elim
theorem ms_asg {g : TG} {fg : FG} (h : PS X st (tAsg (rdE Γ W f) g)) (hg : GOk Γ g fg) : MS X Γ W st (mAsg f fg) := PS.imp h fun D σ H => asg_ok hg

/-! ### what is walked -/
/-- the walk J yields these items -/
def Walks (Γ : Ct) (Z : Zs) (H : Hp) (μ : Mu) (ow : Option (Nat × List Dv)) (J : It) (ws : List Dv) : Prop := ∀ (H' : Hp) (μ' : Mu) (Z' : Zs) (s' : Sto), EvoZ Z H μ H' μ' → Rep Γ H' μ' Z' s' → (∀ a, Z a → Z' a) → (∀ a, Z' a → Z a ∨ H a = none) → (∀ n us, ow = some (n, us) → s'[n]? = some (.lst us)) →
  J.stop ws.length H' ∧ ∀ i w, ws[i]? = some w → J.go i H' ∧ ∀ x H'', J.yld i H' x H'' → Evo H' μ' H'' μ' ∧ Rep Γ H'' μ' Z' s' ∧ RV Γ H'' μ' Z' w x
structure Src where
  ws : List Dv
  ow : Option (Nat × List Dv) := none
abbrev FI := Env → Sto → R Src
def PostI (Γ : Ct) (W : WX) (H : Hp) (μ : Mu) (Z : Zs) (σ : L2.St) (Q : It → Hp → Prop) : R Src → Prop
  | .ok r s' => ∀ J H' μ', Evo H μ H' μ' → Rep Γ H' μ' Z s' → Walks Γ Z H' μ' r.ow J r.ws → Q J H'
  | .er x s' => ∀ cls d H' μ', Evo H μ H' μ' → Rep Γ H' μ' Z s' → RX Γ H' μ' Z x cls d → W cls d σ H'
  | .no => False
def rdI (Γ : Ct) (W : WX) (f : FI) : TI := fun σ H Q => ∃ μ Z ρ s, RE Γ H μ Z ρ σ ∧ Rep Γ H μ Z s ∧ PostI Γ W H μ Z σ Q (f ρ s)
def MI (X : Cx) (Γ : Ct) (W : WX) (tg iter : Expr) (f : FI) : Prop := PI X tg iter (rdI Γ W f)
theorem PI.imp {tg iter : Expr} {t t' : TI} (h : PI X tg iter t) (k : ∀ σ H Q, t' σ H Q → t σ H Q) : PI X tg iter t' := ⟨fun pins s σ H Q I q => h.run pins s σ H Q I (k σ H Q q)⟩
theorem PI.or {tg iter : Expr} {t t' : TI} (h : PI X tg iter t) (h' : PI X tg iter t') : PI X tg iter (fun σ H Q => t σ H Q ∨ t' σ H Q) := ⟨fun pins s σ H Q I q => q.elim (h.run pins s σ H Q I) (h'.run pins s σ H Q I)⟩
def srcOf (s : Sto) : Dv → Option Src
  | .tup ws => some { ws := ws }
  | .lst ws => some { ws := ws }
  | .sq ws => some { ws := ws }
  | .ref n => match s[n]? with
    | some (.lst ws) => some { ws := ws, ow := some (n, ws) }
    | _ => none
  | _ => none
def iSeq (f : FE) : FI := fun ρ s => (f ρ s).bind fun w s1 => R.of (srcOf s1 w) s1
mutual
theorem RV.strong {H : Hp} {μ : Mu} {Z Z' : Zs} (h : ∀ a, Z' a → Z a ∨ H a = none) : ∀ (w : Dv) {v : V}, RV Γ H μ Z w v → RV Γ H μ Z' w v
  | .non, _, q => q
  | .bl _, _, q => q
  | .int _, _, q => q
  | .str _, _, q => q
  | .ty _, _, q => q
  | .cl _, _, q => q
  | .ref n, _, q => q
  | .tup ws, _, q => by
    obtain ⟨a, xs, h1, h2, h3⟩ := q
    refine ⟨a, xs, h1, ?_, RVs.strong h ws h3⟩
    rcases h2 with ⟨h2, f⟩ | h2
    · exact .inl ⟨h2, f.1, fun z => (h a z).elim f.2 (Rd.alive h2)⟩
    · exact .inr h2
  | .sq ws, _, q => by
    obtain ⟨a, xs, h1, h2, h3⟩ := q
    refine ⟨a, xs, h1, ?_, RVs.strong h ws h3⟩
    rcases h2 with ⟨h2, f⟩ | h2
    · exact .inl ⟨h2, f.1, fun z => (h a z).elim f.2 (Rd.alive h2)⟩
    · exact .inr h2
  | .lst ws, _, q => by
    obtain ⟨a, xs, h1, h2, h3, h4⟩ := q
    exact ⟨a, xs, h1, h2, ⟨h3.1, fun z => (h a z).elim h3.2 (by rw [h2]; intro y; cases y)⟩, RVs.strong h ws h4⟩
  | .dct ks ws, _, q => by
    obtain ⟨a, kvs, h1, h2, h3, h4, h5⟩ := q
    exact ⟨a, kvs, h1, h2, ⟨h3.1, fun z => (h a z).elim h3.2 (by rw [h2]; intro y; cases y)⟩, h4, RVs.strong h ws h5⟩
  | .exc c f w, _, q => by
    obtain ⟨a, dx, x, h1, h2, h3, h4, h5, h6⟩ := q
    exact ⟨a, dx, x, h1, h2, ⟨h3.1, fun z => (h a z).elim h3.2 (by rw [h2]; intro y; cases y)⟩, h4, ⟨h5.1, fun z => (h dx z).elim h5.2 (by rw [h4]; intro y; cases y)⟩, RV.strong h w h6⟩
  | .exn c, _, q => by
    obtain ⟨a, h1, h2, h3⟩ := q
    exact ⟨a, h1, h2, ⟨h3.1, fun z => (h a z).elim h3.2 (by rw [h2]; intro y; cases y)⟩⟩
  | .clo a c _ ws vs, _, q => by
    obtain ⟨h1, h2, h3, h4⟩ := q
    exact ⟨h1, h2, ⟨h3.1, fun z => (h c z).elim h3.2 (by rw [h2]; intro y; cases y)⟩, RVs.strong h ws h4⟩
theorem RVs.strong {H : Hp} {μ : Mu} {Z Z' : Zs} (h : ∀ a, Z' a → Z a ∨ H a = none) : ∀ (ws : List Dv) {vs : List V}, RVs Γ H μ Z ws vs → RVs Γ H μ Z' ws vs
  | [], _, q => q
  | w :: ws, _, q => by
    obtain ⟨x, xs, h1, h2, h3⟩ := q
    exact ⟨x, xs, h1, RV.strong h w h2, RVs.strong h ws h3⟩
end
/-- a list, a tuple: walked -/
theorem walk_l {H : Hp} {μ : Mu} {Z : Zs} {a : Addr} {xs : List V} {ws : List Dv} (h : ∀ H' μ', EvoZ Z H μ H' μ' → SqL Γ.K H' a xs) (r : RVs Γ H μ Z ws xs) : Walks Γ Z H μ none (Itl Γ.K a) ws := fun H' μ' Z' s' ev hR hy hz _ => by
  have q := h H' μ' ev
  refine ⟨⟨xs, q, by rw [r.len]; exact Nat.le_refl _⟩, fun i w e => ?_⟩
  obtain ⟨x, e1, e2⟩ := r.get e
  refine ⟨⟨xs, x, q, e1⟩, fun y H'' hq => ?_⟩
  obtain ⟨rfl, hq⟩ := hq
  have e3 := hq xs q
  rw [e1] at e3
  cases e3
  exact ⟨.refl, hR, (RV.strong hz w e2).monoZ (ev.more hy)⟩
theorem walk_t {H : Hp} {μ : Mu} {Z : Zs} {a : Addr} {xs : List V} {ws : List Dv} (h : ∀ H' μ', EvoZ Z H μ H' μ' → SqT Γ.K H' a xs) (r : RVs Γ H μ Z ws xs) : Walks Γ Z H μ none (Itt Γ.K a) ws := fun H' μ' Z' s' ev hR hy hz _ => by
  have q := h H' μ' ev
  refine ⟨⟨xs, q, by rw [r.len]; exact Nat.le_refl _⟩, fun i w e => ?_⟩
  obtain ⟨x, e1, e2⟩ := r.get e
  refine ⟨⟨xs, x, q, e1⟩, fun y H'' hq => ?_⟩
  obtain ⟨rfl, hq⟩ := hq
  have e3 := hq xs q
  rw [e1] at e3
  cases e3
  exact ⟨.refl, hR, (RV.strong hz w e2).monoZ (ev.more hy)⟩
/-- a list of the store: walked while it stands -/
theorem walk_m {H : Hp} {μ : Mu} {Z : Zs} {a : Addr} {n : Nat} {xs : List V} {ws : List Dv} (hn : μ n = some a) (hH : H a = some (.lst xs)) (r : RVs Γ H μ Z ws xs) : Walks Γ Z H μ (some (n, ws)) (Itl Γ.K a) ws := fun H' μ' Z' s' ev hR hy hz ho => by
  obtain ⟨b, h1, _, ys, h3, h4⟩ := hR.at n _ (ho n ws rfl)
  rw [ev.mu n a hn] at h1
  cases h1
  have q : SqL Γ.K H' a ys := SqL.of h3
  refine ⟨⟨ys, q, by rw [h4.len]; exact Nat.le_refl _⟩, fun i w e => ?_⟩
  obtain ⟨x, e1, e2⟩ := h4.get e
  refine ⟨⟨ys, x, q, e1⟩, fun y H'' hq => ?_⟩
  obtain ⟨rfl, hq⟩ := hq
  have e3 := hq ys q
  rw [e1] at e3
  cases e3
  exact ⟨.refl, hR, e2⟩
theorem iI {H : Hp} {μ : Mu} {Z : Zs} {σ : L2.St} {ρ : Env} {s : Sto} {f : FE} {k : Dv → Sto → R Src} {Q : It → Hp → Prop} {Q' : VK} (hE : RE Γ H μ Z ρ σ) (hR : Rep Γ H μ Z s) (h : PostI Γ W H μ Z σ Q ((f ρ s).bind k))
    (hk : ∀ x s1 v H1 μ1, Evo H μ H1 μ1 → RE Γ H1 μ1 Z ρ σ → Rep Γ H1 μ1 Z s1 → RV Γ H1 μ1 Z x v → PostI Γ W H1 μ1 Z σ Q (k x s1) → Q' v H1) : rdE Γ W f σ H Q' := by
  refine ⟨μ, Z, ρ, s, hE, hR, ?_⟩
  cases e : f ρ s with
  | ok x s1 =>
    rw [e] at h
    refine fun v H1 μ1 ev R1 r1 => hk x s1 v H1 μ1 ev (hE.mono ev) R1 r1 ?_
    have h' : PostI Γ W H μ Z σ Q (k x s1) := h
    cases q : k x s1 with
    | ok r s' => rw [q] at h'; exact fun J H' μ' e' => h' J H' μ' (ev.trans e')
    | er y s' => rw [q] at h'; exact fun c d H' μ' e' => h' c d H' μ' (ev.trans e')
    | no => rw [q] at h'; exact h'.elim
  | er x s1 => rw [e] at h; exact h
  | no => rw [e] at h; exact h.elim
theorem iA {H : Hp} {μ : Mu} {Z : Zs} {σ : L2.St} {ρ : Env} {s : Sto} {f : FA} {k : List Dv → Sto → R Src} {Q : It → Hp → Prop} {Q' : List V → Hp → Prop} (hE : RE Γ H μ Z ρ σ) (hR : Rep Γ H μ Z s) (h : PostI Γ W H μ Z σ Q ((f ρ s).bind k))
    (hk : ∀ x s1 v H1 μ1, Evo H μ H1 μ1 → RE Γ H1 μ1 Z ρ σ → Rep Γ H1 μ1 Z s1 → RVs Γ H1 μ1 Z x v → PostI Γ W H1 μ1 Z σ Q (k x s1) → Q' v H1) : rdA Γ W f σ H Q' := by
  refine ⟨μ, Z, ρ, s, hE, hR, ?_⟩
  cases e : f ρ s with
  | ok x s1 =>
    rw [e] at h
    refine fun v H1 μ1 ev R1 r1 => hk x s1 v H1 μ1 ev (hE.mono ev) R1 r1 ?_
    have h' : PostI Γ W H μ Z σ Q (k x s1) := h
    cases q : k x s1 with
    | ok r s' => rw [q] at h'; exact fun J H' μ' e' => h' J H' μ' (ev.trans e')
    | er y s' => rw [q] at h'; exact fun c d H' μ' e' => h' c d H' μ' (ev.trans e')
    | no => rw [q] at h'; exact h'.elim
  | er x s1 => rw [e] at h; exact h
  | no => rw [e] at h; exact h.elim
theorem PostI.evo {H H1 : Hp} {μ μ1 : Mu} {Z : Zs} {σ : L2.St} {Q : It → Hp → Prop} {r : R Src} (e : Evo H μ H1 μ1) (h : PostI Γ W H μ Z σ Q r) : PostI Γ W H1 μ1 Z σ Q r := by
  cases r with
  | ok w s' => exact fun J H' μ' e' => h J H' μ' (e.trans e')
  | er x s' => exact fun c d H' μ' e' => h c d H' μ' (e.trans e')
  | no => exact h
theorem mi_seq {tg l : Expr} {f : FE} (hK : Γ.K = X.K) (hl : ME X Γ W l f) : MI X Γ W tg l (iSeq f) :=
  PI.imp (PI.or (pi_list hl) (pi_tup hl)) fun σ H Q ⟨μ, Z, ρ, s, hE, hR, q⟩ => by
    rw [← hK]
    unfold iSeq at q
    cases e : f ρ s with
    | no => rw [e] at q; exact q.elim
    | er x s1 => rw [e] at q; exact .inl ⟨μ, Z, ρ, s, hE, hR, by rw [e]; exact q⟩
    | ok x s1 =>
      rw [e] at q
      have q' : PostI Γ W H μ Z σ Q (R.of (srcOf s1 x) s1) := q
      cases x with
      | tup ws =>
        refine .inr ⟨μ, Z, ρ, s, hE, hR, ?_⟩
        rw [e]
        rintro v H1 μ1 e1 R1 ⟨a, xs, h1, h2, h3⟩
        exact ⟨a, h1, ⟨xs, h2.sq⟩, q' _ _ _ e1 R1 (walk_t (fun H' μ' ev => (h2.monoZ ev).sq) h3)⟩
      | sq ws =>
        refine .inl ⟨μ, Z, ρ, s, hE, hR, ?_⟩
        rw [e]
        rintro v H1 μ1 e1 R1 ⟨a, xs, h1, h2, h3⟩
        exact ⟨a, h1, ⟨xs, h2.sq⟩, q' _ _ _ e1 R1 (walk_l (fun H' μ' ev => (h2.monoZ ev).sq) h3)⟩
      | lst ws =>
        refine .inl ⟨μ, Z, ρ, s, hE, hR, ?_⟩
        rw [e]
        rintro v H1 μ1 e1 R1 ⟨a, xs, h1, h2, h3, h4⟩
        exact ⟨a, h1, ⟨xs, SqL.of h2⟩, q' _ _ _ e1 R1 (walk_l (fun H' μ' ev => SqL.of (ev.keep _ _ h2 h3.1 h3.2)) h4)⟩
      | ref n =>
        simp only [srcOf] at q'
        split at q'
        · rename_i us e2
          refine .inl ⟨μ, Z, ρ, s, hE, hR, ?_⟩
          rw [e]
          rintro v H1 μ1 e1 R1 ⟨a, h1, h2⟩
          obtain ⟨b, g1, _, xs, g3, g4⟩ := R1.at n _ e2
          rw [h2] at g1
          cases g1
          exact ⟨a, h1, ⟨xs, SqL.of g3⟩, q' _ _ _ e1 R1 (walk_m h2 g3 g4)⟩
        · exact q'.elim
      | _ => exact q'.elim
/-- range(n), range(a, b) -/
def rng (lo : Int) (n : Nat) : List Dv := (List.range n).map fun (i : Nat) => .int (lo + i)
theorem rng_get {lo : Int} {n i : Nat} {w : Dv} (h : (rng lo n)[i]? = some w) : i < n ∧ w = .int (lo + i) := by
  unfold rng at h
  rw [List.getElem?_map] at h
  cases e : (List.range n)[i]? with
  | none => rw [e] at h; cases h
  | some j =>
    rw [e] at h
    cases h
    obtain ⟨h1, h2⟩ := List.getElem?_eq_some_iff.mp e
    rw [List.length_range] at h1
    rw [List.getElem_range] at h2
    exact ⟨h1, by rw [h2]⟩
theorem rng_len (lo : Int) (n : Nat) : (rng lo n).length = n := by unfold rng; rw [List.length_map, List.length_range]
theorem walk_r {H : Hp} {μ : Mu} {Z : Zs} {lo : Int} {n : Nat} : Walks Γ Z H μ none (Itr lo n) (rng lo n) := fun H' μ' Z' s' ev hR hy hz _ => by
  refine ⟨by rw [rng_len]; exact Nat.le_refl n, fun i w e => ?_⟩
  obtain ⟨h1, rfl⟩ := rng_get e
  refine ⟨h1, fun x H'' hq => ?_⟩
  obtain ⟨rfl, rfl⟩ := hq
  exact ⟨.refl, hR, rfl⟩
def okR (i : Int) : Bool := decide (-(2 ^ 62) ≤ i ∧ i < 2 ^ 62)
def iRange1 (fa : FA) : FI := fun ρ s => (fa ρ s).bind fun ws s1 => match ws with
  | [.int j] => if okR j = true then .ok { ws := rng 0 j.toNat } s1 else .no
  | _ => .no
def iRange2 (fa : FA) : FI := fun ρ s => (fa ρ s).bind fun ws s1 => match ws with
  | [.int i, .int j] => if okR i = true ∧ okR j = true then .ok { ws := rng i (j - i).toNat } s1 else .no
  | _ => .no
theorem mi_range1 {tg a : Expr} {fa : FA} {p pos : Pos} (hg : Gl X "range") (hm : X.mg "range" = none) (ha : MA X Γ W [a] fa) (hs : starEach [a] X.env = [(false, eval a X.env)] := by rfl) : MI X Γ W tg (.Call (.Name "range" p) [a] [] pos) (iRange1 fa) :=
  PI.imp (pi_range1 hg hm ha hs) fun σ H Q ⟨μ, Z, ρ, s, hE, hR, q⟩ => iA hE hR q fun ws s1 vs H1 μ1 e1 E1 R1 r1 q1 => by
    split at q1
    · rename_i j
      split at q1
      · rename_i hj
        have hj' : -(2 ^ 62) ≤ j ∧ j < 2 ^ 62 := of_decide_eq_true hj
        obtain ⟨x, xs, rfl, g1, g2⟩ := r1
        rw [show x = .int j from g1, show xs = [] from g2]
        exact ⟨j, rfl, hj'.1, hj'.2, q1 _ _ _ .refl R1 walk_r⟩
      · exact q1.elim
    · exact q1.elim
theorem mi_range2 {tg a b : Expr} {fa : FA} {p pos : Pos} (hg : Gl X "range") (hm : X.mg "range" = none) (ha : MA X Γ W [a, b] fa) (hs : starEach [a, b] X.env = [(false, eval a X.env), (false, eval b X.env)] := by rfl) (hs2 : starEach [b] X.env = [(false, eval b X.env)] := by rfl) :
    MI X Γ W tg (.Call (.Name "range" p) [a, b] [] pos) (iRange2 fa) :=
  PI.imp (pi_range2 hg hm ha hs hs2) fun σ H Q ⟨μ, Z, ρ, s, hE, hR, q⟩ => iA hE hR q fun ws s1 vs H1 μ1 e1 E1 R1 r1 q1 => by
    split at q1
    · rename_i i j
      split at q1
      · rename_i hj
        have hi : -(2 ^ 62) ≤ i ∧ i < 2 ^ 62 := of_decide_eq_true hj.1
        have hj' : -(2 ^ 62) ≤ j ∧ j < 2 ^ 62 := of_decide_eq_true hj.2
        obtain ⟨x, xs, rfl, g1, y, ys, rfl, g2, g3⟩ := r1
        rw [show x = .int i from g1, show y = .int j from g2, show ys = [] from g3]
        exact ⟨i, j, rfl, ⟨hi.1, hi.2, hj'.1, hj'.2⟩, q1 _ _ _ .refl R1 walk_r⟩
      · exact q1.elim
    · exact q1.elim

/-! ### for -/
/-- whether the list that is walked stands as it did -/
def still (s : Sto) (r : Option (Nat × List Dv)) : Prop := ∀ n us, r = some (n, us) → s[n]? = some (.lst us)
open Classical in
noncomputable def stB (s : Sto) (r : Option (Nat × List Dv)) : Bool := decide (still s r)
noncomputable def forL (ow : Option (Nat × List Dv)) (g : FG) (body : FS) : List Dv → FS
  | [], ρ, s => if ow.isNone = true ∨ stB s ow = true then .nx ρ s else .no
  | w :: ws, ρ, s => if ow.isNone = true ∨ stB s ow = true then match g w ρ s with
    | none => .no
    | some ρ1 => match body ρ1 s with
      | .nx ρ2 s2 => forL ow g body ws ρ2 s2
      | .ct ρ2 s2 => forL ow g body ws ρ2 s2
      | .bk ρ2 s2 => .nx ρ2 s2
      | .rt v s2 => .rt v s2
      | .er x ρ2 s2 => .er x ρ2 s2
      | .no => .no
    else .no
noncomputable def mFor (f : FI) (g : FG) (body : FS) : FS := fun ρ s => (f ρ s).thenC ρ fun r s1 => forL r.ow g body r.ws ρ s1
open Classical in
theorem st_of {s : Sto} {ow : Option (Nat × List Dv)} (h : ow.isNone = true ∨ stB s ow = true) : still s ow := by
  rcases h with h | h
  · intro n us e
    rw [e] at h
    cases h
  · unfold stB at h
    exact of_decide_eq_true h
theorem iS {H : Hp} {μ : Mu} {Z : Zs} {σ : L2.St} {ρ : Env} {s : Sto} {f : FI} {k : Src → Sto → C} {D : Ends} {Q' : It → Hp → Prop} (hE : RE Γ H μ Z ρ σ) (hR : Rep Γ H μ Z s) (h : PostS Γ W H μ Z D ((f ρ s).thenC ρ k))
    (hk : ∀ r s1 J H1 μ1, Evo H μ H1 μ1 → RE Γ H1 μ1 Z ρ σ → Rep Γ H1 μ1 Z s1 → Walks Γ Z H1 μ1 r.ow J r.ws → PostS Γ W H1 μ1 Z D (k r s1) → Q' J H1) : rdI Γ W f σ H Q' := by
  refine ⟨μ, Z, ρ, s, hE, hR, ?_⟩
  cases e : f ρ s with
  | ok r s1 => rw [e] at h; exact fun J H1 μ1 ev R1 w => hk r s1 J H1 μ1 ev (hE.mono ev) R1 w (PostS.evo ev h)
  | er x s1 => rw [e] at h; exact fun c d H' μ' ev R' rx => h c d σ H' μ' ev R' (hE.mono ev) rx
  | no => rw [e] at h; exact h.elim
theorem for_ok {H : Hp} {μ : Mu} {Z : Zs} {σ : L2.St} {ρ : Env} {s : Sto} {D : Ends} {g : TG} {fg : FG} {body : FS} {ow : Option (Nat × List Dv)} {ws : List Dv} {J : It} (hg : GOk Γ g fg) (hE : RE Γ H μ Z ρ σ) (hR : Rep Γ H μ Z s) (hw : Walks Γ Z H μ ow J ws)
    (q : PostS Γ W H μ Z D (forL ow fg body ws ρ s)) :
    ∃ Wn : Nat → Nat → L2.St → Hp → Prop, (∃ m, Wn 0 m σ H) ∧ ∀ i m σ H, Wn i m σ H → (J.stop i H ∧ D.nx σ H) ∨ (J.go i H ∧ ∃ N : L2.St → Hp → Prop, (∀ σ' H', N σ' H' → ∃ m', m' < m ∧ Wn (i + 1) m' σ' H') ∧
      ∀ x H', J.yld i H x H' → g x σ H' fun σ2 H2 => rdS Γ W body { D with nx := N, ct := N, bk := D.nx } σ2 H2) := by
  let P : Nat → L2.St → Hp → Prop := fun i σ1 H1 => ∃ μ1 ρ1 s1, Evo H μ H1 μ1 ∧ RE Γ H1 μ1 Z ρ1 σ1 ∧ Rep Γ H1 μ1 Z s1 ∧ PostS Γ W H1 μ1 Z D (forL ow fg body (ws.drop i) ρ1 s1)
  refine ⟨fun i m σ1 H1 => m = ws.length - i ∧ i ≤ ws.length ∧ P i σ1 H1, ⟨ws.length, by omega, Nat.zero_le _, μ, ρ, s, .refl, hE, hR, q⟩, ?_⟩
  rintro i m σ1 H1 ⟨rfl, hi, μ1, ρ1, s1, ev, E1, R1, q1⟩
  by_cases hl : i < ws.length
  · have hd : ws.drop i = ws[i] :: ws.drop (i + 1) := List.drop_eq_getElem_cons hl
    rw [hd] at q1
    simp only [forL] at q1
    split at q1
    · rename_i hst
      obtain ⟨_, hgo⟩ := hw H1 μ1 Z s1 ev.z R1 (fun _ z => z) (fun a z => .inl z) (st_of hst)
      obtain ⟨h1, h2⟩ := hgo i ws[i] (List.getElem?_eq_getElem hl)
      refine .inr ⟨h1, P (i + 1), fun σ' H' p => ⟨_, by omega, rfl, hl, p⟩, fun x H' hy => ?_⟩
      obtain ⟨e2, R2, r2⟩ := h2 x H' hy
      cases eg : fg ws[i] ρ1 s1 with
      | none => rw [eg] at q1; exact q1.elim
      | some ρ2 =>
        rw [eg] at q1
        dsimp only at q1
        refine hg H' μ1 Z ρ1 ρ2 s1 σ1 ws[i] x _ (E1.mono e2) R2 r2 eg fun σ2 E2 => ⟨μ1, Z, ρ2, s1, E2, R2, ?_⟩
        cases eb : body ρ2 s1 with
        | nx ρ3 s3 => rw [eb] at q1; exact fun σ3 H3 μ3 e3 R3 E3 => ⟨μ3, ρ3, s3, (ev.trans e2).trans e3, E3, R3, PostS.evo (e2.trans e3) q1⟩
        | ct ρ3 s3 => rw [eb] at q1; exact fun σ3 H3 μ3 e3 R3 E3 => ⟨μ3, ρ3, s3, (ev.trans e2).trans e3, E3, R3, PostS.evo (e2.trans e3) q1⟩
        | bk ρ3 s3 => rw [eb] at q1; exact fun σ3 H3 μ3 e3 R3 E3 => q1 σ3 H3 μ3 (e2.trans e3) R3 E3
        | rt v s3 => rw [eb] at q1; exact fun v3 H3 μ3 e3 R3 r3 => q1 v3 H3 μ3 (e2.trans e3) R3 r3
        | er x3 ρ3 s3 => rw [eb] at q1; exact fun c d σ3 H3 μ3 e3 R3 E3 r3 => q1 c d σ3 H3 μ3 (e2.trans e3) R3 E3 r3
        | no => rw [eb] at q1; exact q1.elim
    · exact q1.elim
  · have he : i = ws.length := by omega
    subst he
    rw [List.drop_length] at q1
    simp only [forL] at q1
    split at q1
    · rename_i hst
      obtain ⟨hs, _⟩ := hw H1 μ1 Z s1 ev.z R1 (fun _ z => z) (fun a z => .inl z) (st_of hst)
      exact .inl ⟨hs, q1 σ1 H1 μ1 .refl R1 E1⟩
    · exact q1.elim
theorem ms_for {tg iter : Expr} {bd : List Stmt} {f : FI} {g : TG} {fg : FG} {body : FS} (hp : PassesOwn (model X.prog X.w) X.A X.env X.xe) (hc : X.calm = true) (hi : MI X Γ W tg iter f) (hg : MG X Γ tg g fg) (hb : MB X Γ W bd body)
    (hs : ∀ x, foldedSetIterable iter X.env x = pure x := by intro _; rfl) : MS X Γ W (.For tg iter bd [] pos) (mFor f fg body) :=
  PS.imp (ps_for hp hc hi hg.1 hb hs) fun D σ H ⟨μ, Z, ρ, s, hE, hR, q⟩ => iS hE hR q fun r s1 J H1 μ1 e1 E1 R1 w1 q1 => for_ok hg.2 E1 R1 w1 q1

/-! ### while, by a number of turns -/
def whL (t : FT) (body : FS) : Nat → FS
  | 0, _, _ => .no
  | n + 1, ρ, s => (t ρ s).thenC ρ fun b s1 => if b = true then match body ρ s1 with
      | .nx ρ2 s2 => whL t body n ρ2 s2
      | .ct ρ2 s2 => whL t body n ρ2 s2
      | .bk ρ2 s2 => .nx ρ2 s2
      | .rt v s2 => .rt v s2
      | .er x ρ2 s2 => .er x ρ2 s2
      | .no => .no
    else .nx ρ s1
theorem ms_while {cond : Expr} {bd : List Stmt} {body : FS} (n : Nat) (hp : PassesOwn (model X.prog X.w) X.A X.env X.xe) (hc : MT X Γ W cond t) (hb : MB X Γ W bd body) : MS X Γ W (.While cond bd [] pos) (whL t body n) :=
  PS.imp (ps_while hp hc hb) fun D σ H ⟨μ, Z, ρ, s, hE, hR, q⟩ => by
    refine ⟨fun m σ1 H1 => ∃ μ1 ρ1 s1, RE Γ H1 μ1 Z ρ1 σ1 ∧ Rep Γ H1 μ1 Z s1 ∧ PostS Γ W H1 μ1 Z D (whL t body m ρ1 s1), ⟨n, μ, ρ, s, hE, hR, q⟩, ?_⟩
    rintro m σ1 H1 ⟨μ1, ρ1, s1, E1, R1, q1⟩
    cases m with
    | zero => exact q1.elim
    | succ m =>
      refine tS E1 R1 q1 fun b s2 H2 μ2 e2 E2 R2 q2 => ?_
      cases b with
      | false =>
        rw [if_neg Bool.false_ne_true] at q2 ⊢
        exact q2 σ1 H2 μ2 .refl R2 E2
      | true =>
        rw [if_pos rfl] at q2 ⊢
        refine ⟨fun σ3 H3 => ∃ μ1 ρ1 s1, RE Γ H3 μ1 Z ρ1 σ3 ∧ Rep Γ H3 μ1 Z s1 ∧ PostS Γ W H3 μ1 Z D (whL t body m ρ1 s1), fun σ' H' p => ⟨m, Nat.lt_succ_self m, p⟩, μ2, Z, ρ1, s2, E2, R2, ?_⟩
        cases eb : body ρ1 s2 with
        | nx ρ3 s3 => rw [eb] at q2; exact fun σ3 H3 μ3 e3 R3 E3 => ⟨μ3, ρ3, s3, E3, R3, PostS.evo e3 q2⟩
        | ct ρ3 s3 => rw [eb] at q2; exact fun σ3 H3 μ3 e3 R3 E3 => ⟨μ3, ρ3, s3, E3, R3, PostS.evo e3 q2⟩
        | bk ρ3 s3 => rw [eb] at q2; exact fun σ3 H3 μ3 e3 R3 E3 => q2 σ3 H3 μ3 e3 R3 E3
        | rt v s3 => rw [eb] at q2; exact fun v3 H3 μ3 e3 R3 r3 => q2 v3 H3 μ3 e3 R3 r3
        | er x3 ρ3 s3 => rw [eb] at q2; exact fun c d σ3 H3 μ3 e3 R3 E3 r3 => q2 c d σ3 H3 μ3 e3 R3 E3 r3
        | no => rw [eb] at q2; exact q2.elim
end
end MP

set_option Elab.async false
set_option linter.all false
set_option maxRecDepth 100000
set_option maxHeartbeats 4000000
namespace MP
open PySem PySem.Spec PyProof.Rows L2

/-- nothing is raised here -/
abbrev W0 : WX := fun _ _ _ _ => False
section
variable {X : Cx} {Γ : Ct} {W : WX} {H H1 H' : Hp} {μ μ1 μ' : Mu} {Z Z' : Zs} {ρ : Env} {σ : L2.St} {s : Sto} {p : Addr} {o : HO}
abbrev hid (p : Addr) (Z : Zs) : Zs := fun b => b = p ∨ Z b
theorem RO.strong {a : Addr} {ob : Ob} (h : ∀ a, Z' a → Z a ∨ H a = none) (r : RO Γ H μ Z a ob) : RO Γ H μ Z' a ob := by
  cases ob with
  | lst ws =>
    obtain ⟨xs, h4, h5⟩ := r
    exact ⟨xs, h4, RVs.strong h ws h5⟩
  | dct kws =>
    obtain ⟨kvs, h4, h5, h6⟩ := r
    exact ⟨kvs, h4, h5, RVs.strong h _ h6⟩
  | tab m q => exact ⟨r.1, tab_imp rfl (fun c e1 e2 => ⟨e1, e2.1, fun z => (h c z).elim e2.2 (by rw [e1]; intro y; cases y)⟩) r.2⟩
theorem RO.weak {a : Addr} {ob : Ob} (h : ∀ a, Z a → Z' a) (r : RO Γ H μ Z' a ob) : RO Γ H μ Z a ob := by
  cases ob with
  | lst ws =>
    obtain ⟨xs, h4, h5⟩ := r
    exact ⟨xs, h4, RVs.weak h ws h5⟩
  | dct kws =>
    obtain ⟨kvs, h4, h5, h6⟩ := r
    exact ⟨kvs, h4, h5, RVs.weak h _ h6⟩
  | tab m q => exact ⟨r.1, tab_imp rfl (fun c e1 e2 => ⟨e1, e2.weak h⟩) r.2⟩
theorem Rep.weak (h : ∀ a, Z a → Z' a) (hR : Rep Γ H μ Z' s) : Rep Γ H μ Z s := ⟨fun n ob q => by
  obtain ⟨a, h1, h2, h3⟩ := hR.at n ob q
  exact ⟨a, h1, fun z => h2 (h a z), h3.weak h⟩, hR.inj, hR.dom, fun a z => hR.za a (h a z)⟩
/-- a fresh object, hidden -/
theorem Rep.hide (hR : Rep Γ H μ Z s) (hp : H p = none) : Rep Γ (upd H p o) μ (hid p Z) s := by
  have hz : ∀ a, hid p Z a → Z a ∨ H a = none := fun a z => z.elim (fun e => .inr (e ▸ hp)) .inl
  have ev : Evo H μ (upd H p o) μ := Evo.laid hp
  refine ⟨fun n ob q => ?_, hR.inj, hR.dom, fun a z => ?_⟩
  · obtain ⟨a, h1, h2, h3⟩ := hR.at n ob q
    have hne : a ≠ p := fun e => hR.alive h1 (e ▸ hp)
    exact ⟨a, h1, fun z => z.elim hne h2, (h3.strong hz).mono' ev (upd_ne hne)⟩
  · by_cases e : a = p
    · rw [e, upd_same]; intro y; cases y
    · rw [upd_ne e]
      exact hR.za a (z.resolve_left e)
theorem RE.hide (hE : RE Γ H μ Z ρ σ) (hp : H p = none) : RE Γ (upd H p o) μ (hid p Z) ρ σ := ⟨hE.1, fun i w q => by
  obtain ⟨v, h1, h2⟩ := hE.2 i w q
  exact ⟨v, h1, (RV.strong (fun a z => z.elim (fun e => .inr (e ▸ hp)) .inl) w h2).mono (Evo.laid hp)⟩⟩
theorem Evo.hid (e : Evo H μ H1 μ1) (hp : H p = none) : Evo H μ (upd H1 p o) μ1 where
  keep := fun a ob h hn => by rw [upd_ne (ne_of_none h hp)]; exact e.keep a ob h hn
  mu := e.mu
  new := e.new
  stay := fun n a h q => by
    rw [upd_ne (fun z : a = p => q (by rw [z]; exact hp))]
    exact e.stay n a h q
theorem RO.updZ {a : Addr} {ob : Ob} (hne : a ≠ p) (r : RO Γ H μ (MP.hid p Z) a ob) : RO Γ (upd H p o) μ (MP.hid p Z) a ob := by
  cases ob with
  | lst ws =>
    obtain ⟨xs, h4, h5⟩ := r
    exact ⟨xs, by rw [upd_ne hne]; exact h4, RVs.updZ ws h5⟩
  | dct kws =>
    obtain ⟨kvs, h4, h5, h6⟩ := r
    exact ⟨kvs, by rw [upd_ne hne]; exact h4, h5, RVs.updZ _ h6⟩
  | tab m q => exact ⟨r.1, tab_imp (upd_ne hne) (fun c e1 e2 => ⟨by rw [upd_ne e2.evoZ]; exact e1, e2⟩) r.2⟩
theorem Rep.updZ (hR : Rep Γ H μ (MP.hid p Z) s) : Rep Γ (upd H p o) μ (MP.hid p Z) s := ⟨fun n ob q => by
  obtain ⟨a, h1, h2, h3⟩ := hR.at n ob q
  exact ⟨a, h1, h2, h3.updZ fun e => h2 (.inl e)⟩, hR.inj, hR.dom, fun a z => by
    by_cases e : a = p
    · rw [e, upd_same]; intro y; cases y
    · rw [upd_ne e]; exact hR.za a z⟩
theorem RE.wipe (hE : RE Γ H μ Z ρ σ) : ∀ vs : List Nat, RE Γ H μ Z (vs.foldr (fun v r => r.set v none) ρ) (L2.wipe σ vs)
  | [] => hE
  | v :: vs => (RE.wipe hE vs).del v
end

/-! ### list comprehensions -/
def wipeD (ρ : Env) (vs : List Nat) : Env := vs.foldr (fun v r => r.set v none) ρ
noncomputable def compL (ow : Option (Nat × List Dv)) (vs : List Nat) (g : FG) (tt : FT) (elt : FE) (ρ : Env) : List Dv → Sto → Option (List Dv × Sto)
  | [], s => if ow.isNone = true ∨ stB s ow = true then some ([], s) else none
  | w :: ws, s => if ow.isNone = true ∨ stB s ow = true then match g w (wipeD ρ vs) s with
    | none => none
    | some ρ1 => match tt ρ1 s with
      | .ok true s2 => match elt ρ1 s2 with
        | .ok y s3 => (compL ow vs g tt elt ρ ws s3).map fun r => (y :: r.1, r.2)
        | _ => none
      | .ok false s2 => compL ow vs g tt elt ρ ws s2
      | _ => none
    else none
noncomputable def mComp (f : FI) (vs : List Nat) (g : FG) (tt : FT) (elt : FE) : FE := fun ρ s => (f ρ s).bind fun r s1 => match compL r.ow vs g tt elt ρ r.ws s1 with
  | some (ws, s2) => if ws.length ≤ lim then .ok (.lst ws) s2 else .no
  | none => .no
/-- the list made will be changed: an object of the store -/
noncomputable def mCompM (f : FI) (vs : List Nat) (g : FG) (tt : FT) (elt : FE) : FE := fun ρ s => (f ρ s).bind fun r s1 => match compL r.ow vs g tt elt ρ r.ws s1 with
  | some (ws, s2) => if ws.length ≤ lim then .ok (.ref s2.length) (s2 ++ [.lst ws]) else .no
  | none => .no
def mYes : FT := fun _ s => .ok true s
/-- a target within the block's own names -/
def GWk (Γ : Ct) (g : TG) (fg : FG) (vs : List Nat) : Prop := ∀ (H : Hp) (μ : Mu) (Z : Zs) (ρ ρ' : Env) (s : Sto) (σ : L2.St) (w : Dv) (v : V) (Q : L2.St → Hp → Prop), RE Γ H μ Z ρ σ → Rep Γ H μ Z s → RV Γ H μ Z w v → fg w ρ s = some ρ' →
  (∀ σ', RE Γ H μ Z ρ' σ' → L2.wipe σ' vs = L2.wipe σ vs → Q σ' H) → g v σ H Q
def GsWk (Γ : Ct) (g : TGs) (fg : List Dv → Env → Sto → Option Env) (vs : List Nat) : Prop := ∀ (H : Hp) (μ : Mu) (Z : Zs) (ρ ρ' : Env) (s : Sto) (σ : L2.St) (ws : List Dv) (xs : List V) (Q : L2.St → Hp → Prop), RE Γ H μ Z ρ σ → Rep Γ H μ Z s → RVs Γ H μ Z ws xs → fg ws ρ s = some ρ' →
  (∀ σ', RE Γ H μ Z ρ' σ' → L2.wipe σ' vs = L2.wipe σ vs → Q σ' H) → g xs σ H Q
theorem wipe_set (σ : L2.St) (i : Nat) (v : Option V) : ∀ vs : List Nat, i ∈ vs → L2.wipe (σ.set i v) vs = L2.wipe σ vs
  | [], h => nomatch h
  | j :: vs, h => by
    show (L2.wipe (σ.set i v) vs).set j none = (L2.wipe σ vs).set j none
    by_cases hm : i ∈ vs
    · rw [wipe_set σ i v vs hm]
    · have e : i = j := (List.mem_cons.mp h).resolve_right hm
      subst e
      have comm : ∀ (us : List Nat), i ∉ us → L2.wipe (σ.set i v) us = (L2.wipe σ us).set i v := fun us => by
        induction us with
        | nil => intro _; rfl
        | cons k us ih =>
          intro hk
          show (L2.wipe (σ.set i v) us).set k none = ((L2.wipe σ us).set k none).set i v
          rw [ih fun z => hk (List.mem_cons_of_mem _ z)]
          exact List.set_comm _ _ fun z => hk (by rw [z]; exact List.mem_cons_self)
      rw [comm vs hm, List.set_set]
theorem wipe_wipe (σ : L2.St) (vs : List Nat) : L2.wipe (L2.wipe σ vs) vs = L2.wipe σ vs := by
  have key : ∀ (us : List Nat), (∀ i ∈ us, i ∈ vs) → L2.wipe (L2.wipe σ us) vs = L2.wipe σ vs := fun us => by
    induction us with
    | nil => intro _; rfl
    | cons j us ih =>
      intro h
      show L2.wipe ((L2.wipe σ us).set j none) vs = _
      rw [wipe_set _ j none vs (h j List.mem_cons_self)]
      exact ih fun i hi => h i (List.mem_cons_of_mem _ hi)
  exact key vs fun _ h => h
section
variable {X : Cx} {Γ : Ct} {W : WX}
theorem gw_name {i : Nat} {vs : List Nat} (h : i ∈ vs) : GWk Γ (gName i) (gN i) vs := fun H μ Z ρ ρ' s σ w v Q hE hR r e k => by
  cases e
  exact k _ (hE.set i r) (wipe_set σ i (some v) vs h)
theorem gws_nil {vs : List Nat} : GsWk Γ gNil gs0 vs := fun H μ Z ρ ρ' s σ ws xs Q hE hR r e k => by
  cases ws with
  | nil => cases e; exact ⟨r, k σ hE rfl⟩
  | cons _ _ => cases e
theorem gws_cons {g : TG} {gs : TGs} {fg : FG} {fgs : List Dv → Env → Sto → Option Env} {vs : List Nat} (h1 : GWk Γ g fg vs) (h2 : GsWk Γ gs fgs vs) : GsWk Γ (gCons g gs) (gsC fg fgs) vs := fun H μ Z ρ ρ' s σ ws xs Q hE hR r e k => by
  cases ws with
  | nil => cases e
  | cons w ws =>
    obtain ⟨x, xs, rfl, r1, r2⟩ := r
    simp only [gsC] at e
    cases q : fg w ρ s with
    | none => rw [q] at e; cases e
    | some ρ1 =>
      rw [q] at e
      exact ⟨x, xs, rfl, h1 H μ Z ρ ρ1 s σ w x _ hE hR r1 q fun σ1 E1 hw => h2 H μ Z ρ1 ρ' s σ1 ws xs Q E1 hR r2 e fun σ' E' hw' => k σ' E' (hw'.trans hw)⟩
theorem gw_tup {K : PySem.W.Frag} {n : Nat} {gs : TGs} {fgs : List Dv → Env → Sto → Option Env} {vs : List Nat} (hK : K = Γ.K) (h2 : GsWk Γ gs fgs vs) : GWk Γ (gTup K n gs) (gT n fgs) vs := fun H μ Z ρ ρ' s σ w v Q hE hR r e k => by
  subst hK
  unfold gT at e
  split at e
  · rename_i ws q
    split at e
    · rename_i hl
      cases w with
      | tup us =>
        cases q
        obtain ⟨a, xs, h1, h3, h4⟩ := r
        exact ⟨a, xs, h1, h3.sq, by rw [h4.len]; exact hl, h2 H μ Z ρ ρ' s σ _ xs Q hE hR h4 e k⟩
      | _ => cases q
    · cases e
  · cases e
theorem iE {H : Hp} {μ : Mu} {Z : Zs} {σ : L2.St} {ρ : Env} {s : Sto} {f : FI} {k : Src → Sto → R Dv} {Q : VK} {Q' : It → Hp → Prop} (hE : RE Γ H μ Z ρ σ) (hR : Rep Γ H μ Z s) (h : PostE Γ W H μ Z σ Q ((f ρ s).bind k))
    (hk : ∀ r s1 J H1 μ1, Evo H μ H1 μ1 → RE Γ H1 μ1 Z ρ σ → Rep Γ H1 μ1 Z s1 → Walks Γ Z H1 μ1 r.ow J r.ws → PostE Γ W H1 μ1 Z σ Q (k r s1) → Q' J H1) : rdI Γ W f σ H Q' := by
  refine ⟨μ, Z, ρ, s, hE, hR, ?_⟩
  cases e : f ρ s with
  | ok r s1 => rw [e] at h; exact fun J H1 μ1 ev R1 w => hk r s1 J H1 μ1 ev (hE.mono ev) R1 w (PostE.evo ev h)
  | er x s1 => rw [e] at h; exact h
  | no => rw [e] at h; exact h.elim
/-- the walk of a comprehension -/
theorem comp_ok {H1 : Hp} {μ1 : Mu} {Z : Zs} {σ : L2.St} {ρ : Env} {s1 s2 : Sto} {g : TG} {fg : FG} {tt : FT} {elt : FE} {vs : List Nat} {ow : Option (Nat × List Dv)} {ws tot : List Dv} {J : It} {Qd : Hp → Prop} {D : Addr} (hg : GWk Γ g fg vs) (hE : RE Γ H1 μ1 Z ρ σ) (hR : Rep Γ H1 μ1 Z s1) (hw : Walks Γ Z H1 μ1 ow J ws) (hD : H1 D = none)
    (q : compL ow vs fg tt elt ρ ws s1 = some (tot, s2)) (hl : tot.length ≤ lim)
    (fin : ∀ H μ acc, Evo H1 μ1 H μ → Rep Γ H μ (hid D Z) s2 → H D = some (.lst acc) → RVs Γ H μ (hid D Z) tot acc → Qd H) :
    ∃ Wn : Nat → Nat → Hp → Prop, (∃ m, Wn 0 m (upd H1 D (.lst []))) ∧ ∀ i m H, Wn i m H → (J.stop i H ∧ Qd H) ∨ (J.go i H ∧ ∃ Nx : Hp → Prop, (∀ H', Nx H' → ∃ m', m' < m ∧ Wn (i + 1) m' H') ∧
      ∀ x H', J.yld i H x H' → g x (L2.wipe σ vs) H' fun σ2 H2 => L2.wipe σ2 vs = L2.wipe σ vs ∧ rdT Γ W0 tt σ2 H2 fun b H3 =>
        if b = true then rdE Γ W0 elt σ2 H3 fun y H4 => ∃ acc, H4 D = some (.lst acc) ∧ acc.length < sizeLine ∧ Nx (upd H4 D (.lst (acc ++ [y]))) else Nx H3) := by
  let P : Nat → Hp → Prop := fun i H => ∃ μ s wa acc r, Evo H1 μ1 H μ ∧ Rep Γ H μ (hid D Z) s ∧ H D = some (.lst acc) ∧ RVs Γ H μ (hid D Z) wa acc ∧ compL ow vs fg tt elt ρ (ws.drop i) s = some (r, s2) ∧ wa ++ r = tot
  refine ⟨fun i m H => m = ws.length - i ∧ i ≤ ws.length ∧ P i H, ⟨ws.length, by omega, Nat.zero_le _, μ1, s1, [], [], tot, Evo.laid hD, hR.hide hD, upd_same, rfl, q, rfl⟩, ?_⟩
  rintro i m H ⟨rfl, hi, μ, s, wa, acc, r, ev, R, hH, ra, qr, ht⟩
  have hz : ∀ a, hid D Z a → Z a ∨ H1 a = none := fun a z => z.elim (fun e => .inr (e ▸ hD)) .inl
  have E : RE Γ H μ (hid D Z) ρ σ := ⟨hE.1, fun j w e => by
    obtain ⟨v, g1, g2⟩ := hE.2 j w e
    exact ⟨v, g1, (RV.strong hz w g2).mono ev⟩⟩
  by_cases hlt : i < ws.length
  · have hd : ws.drop i = ws[i] :: ws.drop (i + 1) := List.drop_eq_getElem_cons hlt
    rw [hd] at qr
    simp only [compL] at qr
    split at qr
    · rename_i hst
      obtain ⟨_, hgo⟩ := hw H μ (hid D Z) s ev.z R (fun a z => .inr z) hz (st_of hst)
      obtain ⟨h1, h2⟩ := hgo i ws[i] (List.getElem?_eq_getElem hlt)
      refine .inr ⟨h1, P (i + 1), fun H' p => ⟨_, by omega, rfl, hlt, p⟩, fun x H' hy => ?_⟩
      obtain ⟨e2, R2, r2⟩ := h2 x H' hy
      cases eg : fg ws[i] (wipeD ρ vs) s with
      | none => rw [eg] at qr; cases qr
      | some ρ2 =>
        rw [eg] at qr
        dsimp only at qr
        refine hg H' μ (hid D Z) (wipeD ρ vs) ρ2 s (L2.wipe σ vs) ws[i] x _ ((E.mono e2).wipe vs) R2 r2 eg fun σ2 E2 hwp => ⟨hwp.trans (wipe_wipe σ vs), μ, hid D Z, ρ2, s, E2, R2, ?_⟩
        cases et : tt ρ2 s with
        | no => rw [et] at qr; cases qr
        | er x3 s3 => rw [et] at qr; cases qr
        | ok b s3 =>
          rw [et] at qr
          intro H3 μ3 e3 R3
          have hH3 : H3 D = some (.lst acc) := e3.keep _ _ (e2.keep _ _ hH fun n hn => R.notZ hn (.inl rfl)) fun n hn => R2.notZ hn (.inl rfl)
          have ra3 : RVs Γ H3 μ3 (hid D Z) wa acc := (ra.mono e2).mono e3
          cases b with
          | false =>
            rw [if_neg Bool.false_ne_true]
            exact ⟨μ3, s3, wa, acc, r, (ev.trans e2).trans e3, R3, hH3, ra3, qr, ht⟩
          | true =>
            rw [if_pos rfl]
            dsimp only at qr
            refine ⟨μ3, hid D Z, ρ2, s3, E2.mono e3, R3, ?_⟩
            cases ee : elt ρ2 s3 with
            | no => rw [ee] at qr; cases qr
            | er x4 s4 => rw [ee] at qr; cases qr
            | ok y s4 =>
              rw [ee] at qr
              dsimp only at qr
              intro v H4 μ4 e4 R4 r4
              cases ec : compL ow vs fg tt elt ρ (ws.drop (i + 1)) s4 with
              | none => rw [ec] at qr; cases qr
              | some rr =>
                rw [ec] at qr
                obtain ⟨r', s''⟩ := rr
                cases qr
                have hH4 : H4 D = some (.lst acc) := e4.keep _ _ hH3 fun n hn => R3.notZ hn (.inl rfl)
                have hlen : acc.length < sizeLine := by
                  have := ra.len
                  rw [← ht, List.length_append] at hl
                  exact lim_lt (by omega)
                refine ⟨acc, hH4, hlen, μ4, s4, wa ++ [y], acc ++ [v], r', (((ev.trans e2).trans e3).trans e4).hid hD, R4.updZ, upd_same, RVs.append (RVs.updZ wa (ra3.mono e4)) (RVs.cons (RV.updZ y r4) rfl), ec, ?_⟩
                rw [← ht]
                simp
    · cases qr
  · have he : i = ws.length := by omega
    subst he
    rw [List.drop_length] at qr
    simp only [compL] at qr
    split at qr
    · rename_i hst
      cases qr
      obtain ⟨hs, _⟩ := hw H μ (hid D Z) _ ev.z R (fun a z => .inr z) hz (st_of hst)
      rw [List.append_nil] at ht
      subst ht
      exact .inl ⟨hs, fin H μ acc ev R hH ra⟩
    · cases qr

theorem PTs.imp {ifs : List Expr} {t t' : TT} (h : PTs X ifs t) (k : ∀ σ H Q, t' σ H Q → t σ H Q) : PTs X ifs t' := ⟨fun pins s σ H Q I q => h.run pins s σ H Q I (k σ H Q q)⟩
def MTs (X : Cx) (Γ : Ct) (ifs : List Expr) (t : FT) : Prop := PTs X ifs (rdT Γ W0 t)
theorem mts_nil : MTs X Γ [] mYes := PTs.imp pts_nil fun σ H Q ⟨μ, Z, ρ, s, hE, hR, q⟩ => q H μ .refl hR
theorem mts_one {c : Expr} {t : FT} (h : MT X Γ W0 c t) : MTs X Γ [c] t := pts_one h
theorem fin_lst {H1 H : Hp} {μ1 μ : Mu} {Z : Zs} {σ : L2.St} {s1 s2 : Sto} {tot : List Dv} {acc : List V} {D : Addr} {Q : VK} (hR1 : Rep Γ H1 μ1 Z s1) (hD : H1 D = none) (ev : Evo H1 μ1 H μ) (R : Rep Γ H μ (hid D Z) s2) (hH : H D = some (.lst acc)) (ra : RVs Γ H μ (hid D Z) tot acc)
    (q : PostE Γ W H1 μ1 Z σ Q (.ok (.lst tot) s2)) : Q (.ref D) H :=
  q _ H μ ev (R.weak fun a z => .inr z) ⟨D, acc, rfl, hH, ⟨fun n hn => R.notZ hn (.inl rfl), fun z => hR1.za D z hD⟩, RVs.weak (fun a z => .inr z) tot ra⟩
theorem me_comp {elt tg iter : Expr} {ifs : List Expr} {scope : Scope} {own : List (Str × Nat)} {pos : Pos} {f : FI} {g : TG} {fg : FG} {tt : FT} {fe : FE} (hc : X.calm = true) (hN : X.N.Nodup) (hi : MI X Γ W tg iter f) (ok : BlkOk X.N X.env.scope scope own)
    (hg : ∀ (s : Shared) (H : Hp) (C : Addr) (cl : List (Str × Addr)) (fp : List Addr), PG (X.blk s H scope (compEnvC scope cl C X.env) fp) tg g) (hw : GWk Γ g fg (own.map (·.2)))
    (ht : ∀ (s : Shared) (H : Hp) (C : Addr) (cl : List (Str × Addr)) (fp : List Addr), MTs (X.blk s H scope (compEnvC scope cl C X.env) fp) Γ ifs tt)
    (he : ∀ (s : Shared) (H : Hp) (C : Addr) (cl : List (Str × Addr)) (fp : List Addr), ME (X.blk s H scope (compEnvC scope cl C X.env) fp) Γ W0 elt fe) (hs : ∀ x, foldedSetIterable iter X.env x = pure x := by intro _; rfl) :
    ME X Γ W (.ListComp elt [⟨tg, iter, ifs, 0⟩] scope pos) (mComp f (own.map (·.2)) fg tt fe) :=
  PE.imp (pe_lc hc hN hi ok hg ht he hs) fun σ H Q ⟨μ, Z, ρ, s, hE, hR, q⟩ => iE hE hR q fun r s1 J H1 μ1 e1 E1 R1 w1 q1 D hD => by
    cases e : compL r.ow (own.map (·.2)) fg tt fe ρ r.ws s1 with
    | none => rw [e] at q1; exact q1.elim
    | some p =>
      obtain ⟨tot, s2⟩ := p
      rw [e] at q1
      dsimp only at q1
      split at q1
      · rename_i hl
        exact comp_ok hw E1 R1 w1 hD e hl fun H2 μ2 acc ev R2 hH ra => fin_lst R1 hD ev R2 hH ra q1
      · exact q1.elim
theorem asg_post {H : Hp} {μ : Mu} {Z : Zs} {σ : L2.St} {ρ : Env} {s : Sto} {f : FE} {i : Nat} {D : Ends} (hE : RE Γ H μ Z ρ σ) (q : PostS Γ W H μ Z D (mAsg f (gN i) ρ s)) : PostE Γ W H μ Z σ (fun x H1 => D.nx (σ.set i (some x)) H1) (f ρ s) := by
  unfold mAsg at q
  cases e : f ρ s with
  | ok w s1 => rw [e] at q; exact fun v H1 μ1 ev R1 r1 => q _ H1 μ1 ev R1 ((hE.mono ev).set i r1)
  | er x s1 => rw [e] at q; exact fun c d H1 μ1 ev R1 r1 => q c d σ H1 μ1 ev R1 (hE.mono ev) r1
  | no => rw [e] at q; exact q
/-- name = [..] on one line -/
theorem ms_setComp {i : Nat} {y : Str} {py : Pos} {elt tg iter : Expr} {ifs : List Expr} {scope : Scope} {own : List (Str × Nat)} {pos spos : Pos} {f : FI} {g : TG} {fg : FG} {tt : FT} {fe : FE} (hc : X.calm = true) (hN : X.N.Nodup) (hy : X.N[i]? = some y) (hyl : X.env.scope.names.lookup y = some .local)
    (hsw : swapsWith (.ListComp elt [⟨tg, iter, ifs, 0⟩] scope pos) (some (.Name y py)) spos.line X.env = pure true) (hi : MI X Γ W tg iter f) (ok : BlkOk X.N X.env.scope scope own)
    (hg : ∀ (s : Shared) (H : Hp) (C : Addr) (cl : List (Str × Addr)) (fp : List Addr), PG (X.blk s H scope (compEnvC scope cl C X.env) fp) tg g) (hw : GWk Γ g fg (own.map (·.2)))
    (ht : ∀ (s : Shared) (H : Hp) (C : Addr) (cl : List (Str × Addr)) (fp : List Addr), MTs (X.blk s H scope (compEnvC scope cl C X.env) fp) Γ ifs tt)
    (he : ∀ (s : Shared) (H : Hp) (C : Addr) (cl : List (Str × Addr)) (fp : List Addr), ME (X.blk s H scope (compEnvC scope cl C X.env) fp) Γ W0 elt fe) (hs : ∀ x, foldedSetIterable iter X.env x = pure x := by intro _; rfl) :
    MS X Γ W (.Assign [.Name y py] (.ListComp elt [⟨tg, iter, ifs, 0⟩] scope pos) spos) (mAsg (mComp f (own.map (·.2)) fg tt fe) (gN i)) :=
  PS.imp (ps_setLc hc hN hy hyl hsw hi ok hg ht he hs) fun D σ H h => by
    obtain ⟨μ, Z, ρ, s, hE, hR, q⟩ := h
    replace q := asg_post hE q
    exact iE hE hR q fun r s1 J H1 μ1 e1 E1 R1 w1 q1 D hD => by
      cases e : compL r.ow (own.map (·.2)) fg tt fe ρ r.ws s1 with
      | none => rw [e] at q1; exact q1.elim
      | some p =>
        obtain ⟨tot, s2⟩ := p
        rw [e] at q1
        dsimp only at q1
        split at q1
        · rename_i hl
          exact comp_ok hw E1 R1 w1 hD e hl fun H2 μ2 acc ev R2 hH ra => fin_lst R1 hD ev R2 hH ra q1
        · exact q1.elim
end

/-! ### comprehensions of two clauses -/
section
variable {X : Cx} {Γ : Ct} {W : WX}
noncomputable def compL2 (ow : Option (Nat × List Dv)) (vs : List Nat) (g : FG) (tt : FT) (f1 : FI) (vs1 : List Nat) (g1 : FG) (tt1 : FT) (elt : FE) (ρ : Env) : List Dv → Sto → Option (List Dv × Sto)
  | [], s => if ow.isNone = true ∨ stB s ow = true then some ([], s) else none
  | w :: ws, s => if ow.isNone = true ∨ stB s ow = true then match g w (wipeD ρ vs) s with
    | none => none
    | some ρ1 => match tt ρ1 s with
      | .ok true s2 => match f1 ρ1 s2 with
        | .ok r s3 => match compL r.ow vs1 g1 tt1 elt ρ1 r.ws s3 with
          | some (ys, s4) => (compL2 ow vs g tt f1 vs1 g1 tt1 elt ρ ws s4).map fun r => (ys ++ r.1, r.2)
          | none => none
        | _ => none
      | .ok false s2 => compL2 ow vs g tt f1 vs1 g1 tt1 elt ρ ws s2
      | _ => none
    else none
noncomputable def mComp2 (f : FI) (vs : List Nat) (g : FG) (tt : FT) (f1 : FI) (vs1 : List Nat) (g1 : FG) (tt1 : FT) (elt : FE) : FE := fun ρ s => (f ρ s).bind fun r s1 => match compL2 r.ow vs g tt f1 vs1 g1 tt1 elt ρ r.ws s1 with
  | some (ws, s2) => if ws.length ≤ lim then .ok (.lst ws) s2 else .no
  | none => .no
theorem compin_ok {H1 : Hp} {μ1 : Mu} {Z : Zs} {σ : L2.St} {ρ : Env} {s1 s2 : Sto} {g : TG} {fg : FG} {tt : FT} {elt : FE} {vs : List Nat} {ow : Option (Nat × List Dv)} {ws r0 wa0 : List Dv} {acc0 : List V} {J : It} {Nx : Hp → Prop} {D : Addr} (hg : GWk Γ g fg vs) (hE : RE Γ H1 μ1 (hid D Z) ρ σ) (hR : Rep Γ H1 μ1 (hid D Z) s1) (hw : Walks Γ (hid D Z) H1 μ1 ow J ws)
    (hH : H1 D = some (.lst acc0)) (ra0 : RVs Γ H1 μ1 (hid D Z) wa0 acc0) (q : compL ow vs fg tt elt ρ ws s1 = some (r0, s2)) (hl : (wa0 ++ r0).length ≤ lim)
    (fin : ∀ H μ acc, EvoZ (fun a => a = D) H1 μ1 H μ → Rep Γ H μ (hid D Z) s2 → H D = some (.lst acc) → RVs Γ H μ (hid D Z) (wa0 ++ r0) acc → Nx H) :
    ∃ Wn : Nat → Nat → Hp → Prop, (∃ m, Wn 0 m H1) ∧ ∀ i m H, Wn i m H → (J.stop i H ∧ Nx H) ∨ (J.go i H ∧ ∃ Nx1 : Hp → Prop, (∀ H', Nx1 H' → ∃ m', m' < m ∧ Wn (i + 1) m' H') ∧
      ∀ x H', J.yld i H x H' → g x (L2.wipe σ vs) H' fun σ2 H2 => L2.wipe σ2 vs = L2.wipe σ vs ∧ rdT Γ W0 tt σ2 H2 fun b H3 =>
        if b = true then rdE Γ W0 elt σ2 H3 fun y H4 => ∃ acc, H4 D = some (.lst acc) ∧ acc.length < sizeLine ∧ Nx1 (upd H4 D (.lst (acc ++ [y]))) else Nx1 H3) := by
  have hdz : ∀ a, a = D → hid D Z a := fun a e => .inl e
  let P : Nat → Hp → Prop := fun i H => ∃ μ s wa acc r, EvoZ (fun a => a = D) H1 μ1 H μ ∧ Rep Γ H μ (hid D Z) s ∧ H D = some (.lst acc) ∧ RVs Γ H μ (hid D Z) wa acc ∧ compL ow vs fg tt elt ρ (ws.drop i) s = some (r, s2) ∧ wa ++ r = wa0 ++ r0
  refine ⟨fun i m H => m = ws.length - i ∧ i ≤ ws.length ∧ P i H, ⟨ws.length, by omega, Nat.zero_le _, μ1, s1, wa0, acc0, r0, Evo.refl.z, hR, hH, ra0, q, rfl⟩, ?_⟩
  rintro i m H ⟨rfl, hi, μ, s, wa, acc, r, ev, R, hH, ra, qr, ht⟩
  have evz := ev.more hdz
  have E : RE Γ H μ (hid D Z) ρ σ := ⟨hE.1, fun j w e => by
    obtain ⟨v, g1, g2⟩ := hE.2 j w e
    exact ⟨v, g1, g2.monoZ evz⟩⟩
  by_cases hlt : i < ws.length
  · have hd : ws.drop i = ws[i] :: ws.drop (i + 1) := List.drop_eq_getElem_cons hlt
    rw [hd] at qr
    simp only [compL] at qr
    split at qr
    · rename_i hst
      obtain ⟨_, hgo⟩ := hw H μ (hid D Z) s evz R (fun _ z => z) (fun _ z => .inl z) (st_of hst)
      obtain ⟨h1, h2⟩ := hgo i ws[i] (List.getElem?_eq_getElem hlt)
      refine .inr ⟨h1, P (i + 1), fun H' p => ⟨_, by omega, rfl, hlt, p⟩, fun x H' hy => ?_⟩
      obtain ⟨e2, R2, r2⟩ := h2 x H' hy
      cases eg : fg ws[i] (wipeD ρ vs) s with
      | none => rw [eg] at qr; cases qr
      | some ρ2 =>
        rw [eg] at qr
        dsimp only at qr
        refine hg H' μ (hid D Z) (wipeD ρ vs) ρ2 s (L2.wipe σ vs) ws[i] x _ ((E.mono e2).wipe vs) R2 r2 eg fun σ2 E2 hwp => ⟨hwp.trans (wipe_wipe σ vs), μ, hid D Z, ρ2, s, E2, R2, ?_⟩
        cases et : tt ρ2 s with
        | no => rw [et] at qr; cases qr
        | er x3 s3 => rw [et] at qr; cases qr
        | ok b s3 =>
          rw [et] at qr
          intro H3 μ3 e3 R3
          have hH3 : H3 D = some (.lst acc) := e3.keep _ _ (e2.keep _ _ hH fun n hn => R.notZ hn (.inl rfl)) fun n hn => R2.notZ hn (.inl rfl)
          have ra3 : RVs Γ H3 μ3 (hid D Z) wa acc := (ra.mono e2).mono e3
          have ev3 : EvoZ (fun a => a = D) H1 μ1 H3 μ3 := (ev.trans e2.z).trans e3.z
          cases b with
          | false =>
            rw [if_neg Bool.false_ne_true]
            exact ⟨μ3, s3, wa, acc, r, ev3, R3, hH3, ra3, qr, ht⟩
          | true =>
            rw [if_pos rfl]
            dsimp only at qr
            refine ⟨μ3, hid D Z, ρ2, s3, E2.mono e3, R3, ?_⟩
            cases ee : elt ρ2 s3 with
            | no => rw [ee] at qr; cases qr
            | er x4 s4 => rw [ee] at qr; cases qr
            | ok y s4 =>
              rw [ee] at qr
              dsimp only at qr
              intro v H4 μ4 e4 R4 r4
              cases ec : compL ow vs fg tt elt ρ (ws.drop (i + 1)) s4 with
              | none => rw [ec] at qr; cases qr
              | some rr =>
                rw [ec] at qr
                obtain ⟨r', s''⟩ := rr
                cases qr
                have hH4 : H4 D = some (.lst acc) := e4.keep _ _ hH3 fun n hn => R3.notZ hn (.inl rfl)
                have hlen : acc.length < sizeLine := by
                  have := ra.len
                  rw [← ht, List.length_append] at hl
                  exact lim_lt (by simp at hl; omega)
                refine ⟨acc, hH4, hlen, μ4, s4, wa ++ [y], acc ++ [v], r', (ev3.trans e4.z).upd, R4.updZ, upd_same, RVs.append (RVs.updZ wa (ra3.mono e4)) (RVs.cons (RV.updZ y r4) rfl), ec, ?_⟩
                rw [← ht]
                simp
    · cases qr
  · have he : i = ws.length := by omega
    subst he
    rw [List.drop_length] at qr
    simp only [compL] at qr
    split at qr
    · rename_i hst
      cases qr
      obtain ⟨hs, _⟩ := hw H μ (hid D Z) _ evz R (fun _ z => z) (fun _ z => .inl z) (st_of hst)
      rw [List.append_nil] at ht
      subst ht
      exact .inl ⟨hs, fin H μ acc ev R hH ra⟩
    · cases qr
theorem comp2_ok {H1 : Hp} {μ1 : Mu} {Z : Zs} {σ : L2.St} {ρ : Env} {s1 s2 : Sto} {g g1 : TG} {fg fg1 : FG} {tt tt1 : FT} {f1 : FI} {elt : FE} {vs vs1 : List Nat} {ow : Option (Nat × List Dv)} {ws tot : List Dv} {J : It} {Qd : Hp → Prop} {D : Addr} (hg : GWk Γ g fg vs) (hg1 : GWk Γ g1 fg1 vs1) (hE : RE Γ H1 μ1 Z ρ σ) (hR : Rep Γ H1 μ1 Z s1) (hw : Walks Γ Z H1 μ1 ow J ws) (hD : H1 D = none)
    (q : compL2 ow vs fg tt f1 vs1 fg1 tt1 elt ρ ws s1 = some (tot, s2)) (hl : tot.length ≤ lim)
    (fin : ∀ H μ acc, Evo H1 μ1 H μ → Rep Γ H μ (hid D Z) s2 → H D = some (.lst acc) → RVs Γ H μ (hid D Z) tot acc → Qd H) :
    ∃ Wn : Nat → Nat → Hp → Prop, (∃ m, Wn 0 m (upd H1 D (.lst []))) ∧ ∀ i m H, Wn i m H → (J.stop i H ∧ Qd H) ∨ (J.go i H ∧ ∃ Nx : Hp → Prop, (∀ H', Nx H' → ∃ m', m' < m ∧ Wn (i + 1) m' H') ∧
      ∀ x H', J.yld i H x H' → g x (L2.wipe σ vs) H' fun σ2 H2 => L2.wipe σ2 vs = L2.wipe σ vs ∧ rdT Γ W0 tt σ2 H2 fun b H3 =>
        if b = true then rdI Γ W0 f1 σ2 H3 fun J1 H4 => ∃ W1 : Nat → Nat → Hp → Prop, (∃ m, W1 0 m H4) ∧ ∀ j k H, W1 j k H →
          (J1.stop j H ∧ Nx H) ∨ (J1.go j H ∧ ∃ Nx1 : Hp → Prop, (∀ H', Nx1 H' → ∃ k', k' < k ∧ W1 (j + 1) k' H') ∧ ∀ x H', J1.yld j H x H' → g1 x (L2.wipe σ2 vs1) H' fun σ3 H5 => L2.wipe σ3 vs1 = L2.wipe σ2 vs1 ∧ rdT Γ W0 tt1 σ3 H5 fun b H6 =>
            if b = true then rdE Γ W0 elt σ3 H6 fun y H7 => ∃ acc, H7 D = some (.lst acc) ∧ acc.length < sizeLine ∧ Nx1 (upd H7 D (.lst (acc ++ [y]))) else Nx1 H6)
        else Nx H3) := by
  let P : Nat → Hp → Prop := fun i H => ∃ μ s wa acc r, Evo H1 μ1 H μ ∧ Rep Γ H μ (hid D Z) s ∧ H D = some (.lst acc) ∧ RVs Γ H μ (hid D Z) wa acc ∧ compL2 ow vs fg tt f1 vs1 fg1 tt1 elt ρ (ws.drop i) s = some (r, s2) ∧ wa ++ r = tot
  refine ⟨fun i m H => m = ws.length - i ∧ i ≤ ws.length ∧ P i H, ⟨ws.length, by omega, Nat.zero_le _, μ1, s1, [], [], tot, Evo.laid hD, hR.hide hD, upd_same, rfl, q, rfl⟩, ?_⟩
  rintro i m H ⟨rfl, hi, μ, s, wa, acc, r, ev, R, hH, ra, qr, ht⟩
  have hz : ∀ a, hid D Z a → Z a ∨ H1 a = none := fun a z => z.elim (fun e => .inr (e ▸ hD)) .inl
  have E : RE Γ H μ (hid D Z) ρ σ := ⟨hE.1, fun j w e => by
    obtain ⟨v, g1, g2⟩ := hE.2 j w e
    exact ⟨v, g1, (RV.strong hz w g2).mono ev⟩⟩
  by_cases hlt : i < ws.length
  · have hd : ws.drop i = ws[i] :: ws.drop (i + 1) := List.drop_eq_getElem_cons hlt
    rw [hd] at qr
    simp only [compL2] at qr
    split at qr
    · rename_i hst
      obtain ⟨_, hgo⟩ := hw H μ (hid D Z) s ev.z R (fun a z => .inr z) hz (st_of hst)
      obtain ⟨h1, h2⟩ := hgo i ws[i] (List.getElem?_eq_getElem hlt)
      refine .inr ⟨h1, P (i + 1), fun H' p => ⟨_, by omega, rfl, hlt, p⟩, fun x H' hy => ?_⟩
      obtain ⟨e2, R2, r2⟩ := h2 x H' hy
      cases eg : fg ws[i] (wipeD ρ vs) s with
      | none => rw [eg] at qr; cases qr
      | some ρ2 =>
        rw [eg] at qr
        dsimp only at qr
        refine hg H' μ (hid D Z) (wipeD ρ vs) ρ2 s (L2.wipe σ vs) ws[i] x _ ((E.mono e2).wipe vs) R2 r2 eg fun σ2 E2 hwp => ⟨hwp.trans (wipe_wipe σ vs), μ, hid D Z, ρ2, s, E2, R2, ?_⟩
        cases et : tt ρ2 s with
        | no => rw [et] at qr; cases qr
        | er x3 s3 => rw [et] at qr; cases qr
        | ok b s3 =>
          rw [et] at qr
          intro H3 μ3 e3 R3
          have hH3 : H3 D = some (.lst acc) := e3.keep _ _ (e2.keep _ _ hH fun n hn => R.notZ hn (.inl rfl)) fun n hn => R2.notZ hn (.inl rfl)
          have ra3 : RVs Γ H3 μ3 (hid D Z) wa acc := (ra.mono e2).mono e3
          cases b with
          | false =>
            rw [if_neg Bool.false_ne_true]
            exact ⟨μ3, s3, wa, acc, r, (ev.trans e2).trans e3, R3, hH3, ra3, qr, ht⟩
          | true =>
            rw [if_pos rfl]
            dsimp only at qr
            refine ⟨μ3, hid D Z, ρ2, s3, E2.mono e3, R3, ?_⟩
            cases ef : f1 ρ2 s3 with
            | no => rw [ef] at qr; cases qr
            | er x4 s4 => rw [ef] at qr; cases qr
            | ok src s4 =>
              rw [ef] at qr
              dsimp only at qr
              intro J1 H4 μ4 e4 R4 w4
              cases ec : compL src.ow vs1 fg1 tt1 elt ρ2 src.ws s4 with
              | none => rw [ec] at qr; cases qr
              | some rr =>
                rw [ec] at qr
                obtain ⟨ys, s5⟩ := rr
                dsimp only at qr
                cases ed : compL2 ow vs fg tt f1 vs1 fg1 tt1 elt ρ (ws.drop (i + 1)) s5 with
                | none => rw [ed] at qr; cases qr
                | some rr =>
                  rw [ed] at qr
                  obtain ⟨r', s''⟩ := rr
                  cases qr
                  have hH4 : H4 D = some (.lst acc) := e4.keep _ _ hH3 fun n hn => R3.notZ hn (.inl rfl)
                  have hlen : (wa ++ ys).length ≤ lim := by
                    rw [← ht] at hl
                    simp at hl ⊢
                    omega
                  exact compin_ok hg1 ((E2.mono e3).mono e4) R4 w4 hH4 (ra3.mono e4) ec hlen fun H5 μ5 acc5 e5 R5 hH5 ra5 => ⟨μ5, s5, wa ++ ys, acc5, r', (((ev.trans e2).trans e3).trans e4).thenZ hD e5, R5, hH5, ra5, ed, by rw [← ht, List.append_assoc]⟩
    · cases qr
  · have he : i = ws.length := by omega
    subst he
    rw [List.drop_length] at qr
    simp only [compL2] at qr
    split at qr
    · rename_i hst
      cases qr
      obtain ⟨hs, _⟩ := hw H μ (hid D Z) _ ev.z R (fun a z => .inr z) hz (st_of hst)
      rw [List.append_nil] at ht
      subst ht
      exact .inl ⟨hs, fin H μ acc ev R hH ra⟩
    · cases qr
theorem me_comp2 {elt tg iter tg1 iter1 : Expr} {ifs ifs1 : List Expr} {scope : Scope} {own : List (Str × Nat)} {vs1 : List Nat} {pos : Pos} {f f1 : FI} {g g1 : TG} {fg fg1 : FG} {tt tt1 : FT} {fe : FE} (hc : X.calm = true) (hN : X.N.Nodup) (hi : MI X Γ W tg iter f) (ok : BlkOk X.N X.env.scope scope own) (hv : ∀ i ∈ vs1, i ∈ own.map (·.2))
    (hg : ∀ (s : Shared) (H : Hp) (C : Addr) (cl : List (Str × Addr)) (fp : List Addr), PG (X.blk s H scope (compEnvC scope cl C X.env) fp) tg g) (hw : GWk Γ g fg (own.map (·.2)))
    (ht : ∀ (s : Shared) (H : Hp) (C : Addr) (cl : List (Str × Addr)) (fp : List Addr), MTs (X.blk s H scope (compEnvC scope cl C X.env) fp) Γ ifs tt)
    (hi1 : ∀ (s : Shared) (H : Hp) (C : Addr) (cl : List (Str × Addr)) (fp : List Addr), MI (X.blk s H scope (compEnvC scope cl C X.env) fp) Γ W0 tg1 iter1 f1)
    (hg1 : ∀ (s : Shared) (H : Hp) (C : Addr) (cl : List (Str × Addr)) (fp : List Addr), PG (X.blk s H scope (compEnvC scope cl C X.env) fp) tg1 g1) (hw1 : GWk Γ g1 fg1 vs1)
    (ht1 : ∀ (s : Shared) (H : Hp) (C : Addr) (cl : List (Str × Addr)) (fp : List Addr), MTs (X.blk s H scope (compEnvC scope cl C X.env) fp) Γ ifs1 tt1)
    (he : ∀ (s : Shared) (H : Hp) (C : Addr) (cl : List (Str × Addr)) (fp : List Addr), ME (X.blk s H scope (compEnvC scope cl C X.env) fp) Γ W0 elt fe) (hs : ∀ x, foldedSetIterable iter X.env x = pure x := by intro _; rfl) (hs1 : ∀ env x, foldedSetIterable iter1 env x = pure x := by intro _ _; rfl) :
    ME X Γ W (.ListComp elt [⟨tg, iter, ifs, 0⟩, ⟨tg1, iter1, ifs1, 0⟩] scope pos) (mComp2 f (own.map (·.2)) fg tt f1 vs1 fg1 tt1 fe) :=
  PE.imp (pe_lc2 hc hN hi ok hv hg ht hi1 hg1 ht1 he hs hs1) fun σ H Q ⟨μ, Z, ρ, s, hE, hR, q⟩ => iE hE hR q fun r s1 J H1 μ1 e1 E1 R1 w1 q1 D hD => by
    cases e : compL2 r.ow (own.map (·.2)) fg tt f1 vs1 fg1 tt1 fe ρ r.ws s1 with
    | none => rw [e] at q1; exact q1.elim
    | some p =>
      obtain ⟨tot, s2⟩ := p
      rw [e] at q1
      dsimp only at q1
      split at q1
      · rename_i hl
        exact comp2_ok hw hw1 E1 R1 w1 hD e hl fun H2 μ2 acc ev R2 hH ra => fin_lst R1 hD ev R2 hH ra q1
      · exact q1.elim
theorem ms_setComp2 {i : Nat} {y : Str} {py : Pos} {elt tg iter tg1 iter1 : Expr} {ifs ifs1 : List Expr} {scope : Scope} {own : List (Str × Nat)} {vs1 : List Nat} {pos spos : Pos} {f f1 : FI} {g g1 : TG} {fg fg1 : FG} {tt tt1 : FT} {fe : FE} (hc : X.calm = true) (hN : X.N.Nodup) (hy : X.N[i]? = some y) (hyl : X.env.scope.names.lookup y = some .local)
    (hsw : swapsWith (.ListComp elt [⟨tg, iter, ifs, 0⟩, ⟨tg1, iter1, ifs1, 0⟩] scope pos) (some (.Name y py)) spos.line X.env = pure true) (hi : MI X Γ W tg iter f) (ok : BlkOk X.N X.env.scope scope own) (hv : ∀ i ∈ vs1, i ∈ own.map (·.2))
    (hg : ∀ (s : Shared) (H : Hp) (C : Addr) (cl : List (Str × Addr)) (fp : List Addr), PG (X.blk s H scope (compEnvC scope cl C X.env) fp) tg g) (hw : GWk Γ g fg (own.map (·.2)))
    (ht : ∀ (s : Shared) (H : Hp) (C : Addr) (cl : List (Str × Addr)) (fp : List Addr), MTs (X.blk s H scope (compEnvC scope cl C X.env) fp) Γ ifs tt)
    (hi1 : ∀ (s : Shared) (H : Hp) (C : Addr) (cl : List (Str × Addr)) (fp : List Addr), MI (X.blk s H scope (compEnvC scope cl C X.env) fp) Γ W0 tg1 iter1 f1)
    (hg1 : ∀ (s : Shared) (H : Hp) (C : Addr) (cl : List (Str × Addr)) (fp : List Addr), PG (X.blk s H scope (compEnvC scope cl C X.env) fp) tg1 g1) (hw1 : GWk Γ g1 fg1 vs1)
    (ht1 : ∀ (s : Shared) (H : Hp) (C : Addr) (cl : List (Str × Addr)) (fp : List Addr), MTs (X.blk s H scope (compEnvC scope cl C X.env) fp) Γ ifs1 tt1)
    (he : ∀ (s : Shared) (H : Hp) (C : Addr) (cl : List (Str × Addr)) (fp : List Addr), ME (X.blk s H scope (compEnvC scope cl C X.env) fp) Γ W0 elt fe) (hs : ∀ x, foldedSetIterable iter X.env x = pure x := by intro _; rfl) (hs1 : ∀ env x, foldedSetIterable iter1 env x = pure x := by intro _ _; rfl) :
    MS X Γ W (.Assign [.Name y py] (.ListComp elt [⟨tg, iter, ifs, 0⟩, ⟨tg1, iter1, ifs1, 0⟩] scope pos) spos) (mAsg (mComp2 f (own.map (·.2)) fg tt f1 vs1 fg1 tt1 fe) (gN i)) :=
  PS.imp (ps_setLc2 hc hN hy hyl hsw hi ok hv hg ht hi1 hg1 ht1 he hs hs1) fun D σ H h => by
    obtain ⟨μ, Z, ρ, s, hE, hR, q⟩ := h
    replace q := asg_post hE q
    exact iE hE hR q fun r s1 J H1 μ1 e1 E1 R1 w1 q1 D hD => by
      cases e : compL2 r.ow (own.map (·.2)) fg tt f1 vs1 fg1 tt1 fe ρ r.ws s1 with
      | none => rw [e] at q1; exact q1.elim
      | some p =>
        obtain ⟨tot, s2⟩ := p
        rw [e] at q1
        dsimp only at q1
        split at q1
        · rename_i hl
          exact comp2_ok hw hw1 E1 R1 w1 hD e hl fun H2 μ2 acc ev R2 hH ra => fin_lst R1 hD ev R2 hH ra q1
        · exact q1.elim
end

/-! ### defs -/
mutual
def clean (n : Nat) : Dv → Bool
  | .ref k => decide (k < n)
  | .tup ws => cleans n ws
  | .lst ws => cleans n ws
  | .sq ws => cleans n ws
  | .dct _ ws => cleans n ws
  | .exc _ _ w => clean n w
  | .clo _ _ _ ws _ => cleans n ws
  | _ => true
def cleans (n : Nat) : List Dv → Bool
  | [] => true
  | w :: ws => clean n w && cleans n ws
end
def Ob.clean (n : Nat) : Ob → Bool
  | .lst ws => cleans n ws
  | .dct kws => cleans n (kws.map (·.2))
  | .tab _ _ => true
def mapO {α β : Type} (f : α → Option β) : List α → Option (List β)
  | [] => some []
  | a :: r => match f a, mapO f r with
    | some b, some bs => some (b :: bs)
    | _, _ => none
/-- lists of the callee's own are handed out as they stand -/
def fz : Nat → Sto → Nat → Dv → Option Dv
  | 0, _, n, w => if clean n w = true then some w else none
  | f + 1, s, n, w => if clean n w = true then some w else match w with
    | .tup ws => (mapO (fz f s n) ws).map .tup
    | .lst ws => (mapO (fz f s n) ws).map .lst
    | .ref k => match s[k]? with
      | some (.lst ws) => (mapO (fz f s n) ws).map .lst
      | _ => none
    | _ => none
/-- a def's end: what it made and nobody holds is forgotten -/
def finW (n : Nat) (w : Dv) (s : Sto) : R Dv :=
  if s.length ≤ n then .ok w s else if (s.take n).all (Ob.clean n) = true then match fz 4 s n w with
    | some w' => .ok w' (s.take n)
    | none => .ok w s
  else .ok w s
def finX (n : Nat) (x : Ex) (s : Sto) : R Dv :=
  if s.length ≤ n then .er x s else if (s.take n).all (Ob.clean n) = true then match fz 4 s n x.w with
    | some w' => .er { x with w := w' } (s.take n)
    | none => .er x s
  else .er x s
def finC (n : Nat) : C → R Dv
  | .nx _ s => finW n .non s
  | .rt w s => finW n w s
  | .er x _ s => finX n x s
  | _ => .no
def res (n : Nat) (μ : Mu) : Mu := fun m => if m < n then μ m else none
section
variable {Γ : Ct} {H : Hp} {μ : Mu} {Z : Zs} {s : Sto} {n : Nat}
theorem res_some {m : Nat} {a : Addr} (h : res n μ m = some a) : m < n ∧ μ m = some a := by
  unfold res at h
  split at h
  · exact ⟨by assumption, h⟩
  · cases h
theorem res_lt {m : Nat} {a : Addr} (h : m < n) (q : μ m = some a) : res n μ m = some a := by
  unfold res
  rw [if_pos h, q]
theorem Fz.res {a : Addr} (f : Fz μ Z a) : Fz (res n μ) Z a := ⟨fun m h => f.1 m (res_some h).2, f.2⟩
mutual
theorem RV.res : ∀ (w : Dv) {v : V}, clean n w = true → RV Γ H μ Z w v → RV Γ H (MP.res n μ) Z w v
  | .non, _, _, q => q
  | .bl _, _, _, q => q
  | .int _, _, _, q => q
  | .str _, _, _, q => q
  | .ty _, _, _, q => q
  | .cl _, _, _, q => q
  | .ref k, _, c, q => by
    obtain ⟨a, h1, h2⟩ := q
    exact ⟨a, h1, res_lt (of_decide_eq_true c) h2⟩
  | .tup ws, _, c, q => by
    obtain ⟨a, xs, h1, h2, h3⟩ := q
    exact ⟨a, xs, h1, h2.elim (fun z => .inl ⟨z.1, z.2.res⟩) .inr, RVs.res ws c h3⟩
  | .sq ws, _, c, q => by
    obtain ⟨a, xs, h1, h2, h3⟩ := q
    exact ⟨a, xs, h1, h2.elim (fun z => .inl ⟨z.1, z.2.res⟩) .inr, RVs.res ws c h3⟩
  | .lst ws, _, c, q => by
    obtain ⟨a, xs, h1, h2, h3, h4⟩ := q
    exact ⟨a, xs, h1, h2, h3.res, RVs.res ws c h4⟩
  | .dct ks ws, _, c, q => by
    obtain ⟨a, kvs, h1, h2, h3, h4, h5⟩ := q
    exact ⟨a, kvs, h1, h2, h3.res, h4, RVs.res ws c h5⟩
  | .exc cc f w, _, c, q => by
    obtain ⟨a, dx, x, h1, h2, h3, h4, h5, h6⟩ := q
    exact ⟨a, dx, x, h1, h2, h3.res, h4, h5.res, RV.res w c h6⟩
  | .exn cc, _, c, q => by
    obtain ⟨a, h1, h2, h3⟩ := q
    exact ⟨a, h1, h2, h3.res⟩
  | .clo a b _ ws vs, _, c, q => by
    obtain ⟨h1, h2, h3, h4⟩ := q
    exact ⟨h1, h2, h3.res, RVs.res ws c h4⟩
theorem RVs.res : ∀ (ws : List Dv) {vs : List V}, cleans n ws = true → RVs Γ H μ Z ws vs → RVs Γ H (MP.res n μ) Z ws vs
  | [], _, _, q => q
  | w :: ws, _, c, q => by
    obtain ⟨x, xs, h1, h2, h3⟩ := q
    have c' : clean n w = true ∧ cleans n ws = true := Bool.and_eq_true_iff.mp c
    exact ⟨x, xs, h1, RV.res w c'.1 h2, RVs.res ws c'.2 h3⟩
end
theorem mapO_ok {f : Dv → Option Dv} (hf : ∀ w w' v, f w = some w' → RV Γ H μ Z w v → RV Γ H (res n μ) Z w' v) : ∀ (ws ws' : List Dv) (vs : List V), mapO f ws = some ws' → RVs Γ H μ Z ws vs → RVs Γ H (res n μ) Z ws' vs
  | [], _, _, e, q => by cases e; exact q
  | w :: ws, _, _, e, q => by
    obtain ⟨x, xs, rfl, h2, h3⟩ := q
    simp only [mapO] at e
    split at e
    · rename_i b bs e1 e2
      cases e
      exact RVs.cons (hf _ _ _ e1 h2) (mapO_ok hf ws bs xs e2 h3)
    · cases e
theorem fz_ok (hR : Rep Γ H μ Z s) : ∀ (f : Nat) (w w' : Dv) (v : V), fz f s n w = some w' → RV Γ H μ Z w v → RV Γ H (res n μ) Z w' v := fun f => by
  induction f with
  | zero =>
    intro w w' v e q
    simp only [fz] at e
    split at e
    · cases e; exact q.res w (by assumption)
    · cases e
  | succ f ih =>
    intro w w' v e q
    simp only [fz] at e
    split at e
    · cases e; exact q.res w (by assumption)
    · rename_i hc
      split at e
      · rename_i ws
        cases em : mapO (fz f s n) ws with
        | none => rw [em] at e; cases e
        | some us =>
          rw [em] at e
          cases e
          obtain ⟨a, xs, h1, h2, h3⟩ := q
          exact ⟨a, xs, h1, h2.elim (fun z => .inl ⟨z.1, z.2.res⟩) .inr, mapO_ok (fun w w' v => ih w w' v) _ _ _ em h3⟩
      · rename_i ws
        cases em : mapO (fz f s n) ws with
        | none => rw [em] at e; cases e
        | some us =>
          rw [em] at e
          cases e
          obtain ⟨a, xs, h1, h2, h3, h4⟩ := q
          exact ⟨a, xs, h1, h2, h3.res, mapO_ok (fun w w' v => ih w w' v) _ _ _ em h4⟩
      · rename_i k
        split at e
        · rename_i ws es
          cases em : mapO (fz f s n) ws with
          | none => rw [em] at e; cases e
          | some us =>
            rw [em] at e
            cases e
            obtain ⟨a, h1, h2⟩ := q
            obtain ⟨b, g1, g2, xs, g3, g4⟩ := hR.at k _ es
            rw [h2] at g1
            cases g1
            refine ⟨a, xs, h1, g3, ⟨fun m hm => ?_, g2⟩, mapO_ok (fun w w' v => ih w w' v) _ _ _ em g4⟩
            obtain ⟨m1, m2⟩ := res_some hm
            have := hR.inj _ _ _ m2 h2
            subst this
            exact hc (decide_eq_true m1)
        · cases e
      · cases e
theorem RO.res {a : Addr} {ob : Ob} (c : ob.clean n = true) (h : RO Γ H μ Z a ob) : RO Γ H (MP.res n μ) Z a ob := by
  cases ob with
  | lst ws =>
    obtain ⟨xs, h1, h2⟩ := h
    exact ⟨xs, h1, h2.res ws c⟩
  | dct kws =>
    obtain ⟨kvs, h1, h2, h3⟩ := h
    exact ⟨kvs, h1, h2, h3.res _ c⟩
  | tab m q => exact ⟨h.1, tab_imp rfl (fun c e1 e2 => ⟨e1, e2.res⟩) h.2⟩
theorem Rep.res (hR : Rep Γ H μ Z s) (hn : n ≤ s.length) (c : (s.take n).all (Ob.clean n) = true) : Rep Γ H (MP.res n μ) Z (s.take n) := ⟨fun m ob q => by
  have hm : m < n := by
    have := (List.getElem?_eq_some_iff.mp q).1
    rw [List.length_take] at this
    omega
  have q' : s[m]? = some ob := by rw [List.getElem?_take_of_lt hm] at q; exact q
  obtain ⟨a, h1, h2, h3⟩ := hR.at m ob q'
  exact ⟨a, res_lt hm h1, h2, h3.res (List.all_eq_true.mp c ob (List.mem_of_getElem? q))⟩,
  fun m k a h1 h2 => hR.inj _ _ _ (res_some h1).2 (res_some h2).2, fun m a h => by rw [List.length_take]; have := (res_some h).1; omega, hR.za⟩
theorem Evo.res {H0 : Hp} {μ0 : Mu} (e : Evo H0 μ0 H μ) (hd : ∀ m a, μ0 m = some a → m < n) : Evo H0 μ0 H (MP.res n μ) :=
  ⟨e.keep, fun m a h => res_lt (hd m a h) (e.mu m a h), fun m a h => e.new m a (res_some h).2, e.stay⟩
end
/-- what a def promises -/
def spM (Γ : Ct) (ps : List Str) (den : Fn) : Sp := fun vs H Q E => vs.length = ps.length ∧ ∃ μ Z s ws, Rep Γ H μ Z s ∧ RVs Γ H μ Z ws vs ∧ PostE Γ (fun c d _ H => E c d H) H μ Z [] Q (den ws s)
structure FnG (P : Program) (w : World) (mg : Str → Option Value) (base : Heap) (Γ : Ct) (k : Nat) (f : Addr) (fd : FuncData) (ps : List Str) (den : Fn) : Prop where
  run : ∀ (A : Around) (outer : List PySem.Env) (s : Shared) (H : Hp) (args : Args) (us : List Value) (vs : List V) (Q : VK) (E : XK), Room k A → A.guards = some [] → Env0 P w Γ.K mg base A outer s H → BindsTo s fd args (ps.zip us) → Vals vs us → spM Γ ps den vs H Q E →
    codeAny (model P w) A (.call (.ref f) args) (CR (L2.CX P w) outer P w H s Q E) s
def startD (n : Nat) (ws : List Dv) : Env := ws.map some ++ List.replicate (n - ws.length) none
def denOf (n : Nat) (body : FS) : Fn := fun ws s => finC s.length (body (startD n ws) s)
theorem re_start {Γ : Ct} {H : Hp} {μ : Mu} {Z : Zs} {N : List Str} {ws : List Dv} {vs : List V} (r : RVs Γ H μ Z ws vs) : RE Γ H μ Z (startD N.length ws) (L2.start N vs) := by
  have hl := r.len
  refine ⟨?_, fun i w q => ?_⟩
  · unfold startD L2.start
    rw [List.length_append, List.length_append, List.length_map, List.length_map, List.length_replicate, List.length_replicate, hl]
  · unfold startD at q
    unfold L2.start
    by_cases hi : i < ws.length
    · rw [List.getElem?_append_left (by rw [List.length_map]; exact hi), List.getElem?_map] at q
      rw [List.getElem?_append_left (by rw [List.length_map, hl]; exact hi), List.getElem?_map]
      cases e : ws[i]? with
      | none => rw [e] at q; cases q
      | some u =>
        rw [e] at q
        cases q
        obtain ⟨x, h1, h2⟩ := r.get e
        exact ⟨x, by rw [h1]; rfl, h2⟩
    · rw [List.getElem?_append_right (by rw [List.length_map]; omega), List.getElem?_replicate] at q
      split at q <;> cases q
end MP

set_option Elab.async false
set_option linter.all false
set_option maxRecDepth 100000
set_option maxHeartbeats 4000000
namespace MP
open PySem PySem.Spec PyProof.Rows L2

theorem start_len {N : List Str} {vs : List V} : (L2.start N vs).length = vs.length + (N.length - vs.length) := by
  unfold L2.start
  rw [List.length_append, List.length_map, List.length_replicate]
/-- the end of a body is the end of its def -/
theorem body_end {Γ : Ct} {H : Hp} {μ : Mu} {Z : Zs} {s : Sto} {Q : VK} {E : XK} {c : C} (hR : Rep Γ H μ Z s) (q : PostE Γ (fun c d _ H => E c d H) H μ Z [] Q (finC s.length c)) :
    PostS Γ (fun c d _ H => E c d H) H μ Z { nx := fun _ H' => Q .non H', rt := Q } c := by
  have key : ∀ (w : Dv) (s' : Sto), PostE Γ (fun c d _ H => E c d H) H μ Z [] Q (finW s.length w s') → ∀ v H' μ', Evo H μ H' μ' → Rep Γ H' μ' Z s' → RV Γ H' μ' Z w v → Q v H' := fun w s' q v H' μ' ev R' r' => by
    unfold finW at q
    split at q
    · exact q v H' μ' ev R' r'
    · rename_i hl
      split at q
      · rename_i hc
        split at q
        · rename_i w' e
          exact q v H' _ (ev.res hR.dom) (R'.res (by omega) hc) (fz_ok R' 4 w w' v e r')
        · exact q v H' μ' ev R' r'
      · exact q v H' μ' ev R' r'
  cases c with
  | nx ρ' s' => exact fun σ' H' μ' ev R' _ => key .non s' q .non H' μ' ev R' rfl
  | rt w s' => exact fun v H' μ' ev R' r' => key w s' q v H' μ' ev R' r'
  | bk ρ' s' => exact q.elim
  | ct ρ' s' => exact q.elim
  | no => exact q.elim
  | er x ρ' s' =>
    intro c d σ' H' μ' ev R' _ rx
    unfold finC finX at q
    dsimp only at q
    split at q
    · exact q c d H' μ' ev R' rx
    · rename_i hl
      split at q
      · rename_i hc
        split at q
        · rename_i w' e
          obtain ⟨h1, dd, v, h2, h3, h4, h5⟩ := rx
          exact q c d H' _ (ev.res hR.dom) (R'.res (by omega) hc) ⟨h1, dd, v, h2, h3, h4.res, fz_ok R' 4 _ w' v e h5⟩
        · exact q c d H' μ' ev R' rx
      · exact q c d H' μ' ev R' rx

abbrev envF (qual : Str) (st : Stmt) (s : Shared) (f : Addr) (cdv : Value) : PySem.Env := envOfC qual (defScope st) s.heap.objs.size f cdv
abbrev cxF (Γ : Ct) (P : Program) (w : World) (mg : Str → Option Value) (base : Heap) (N : List Str) (qual : Str) (st : Stmt) (f : Addr) (cdv : Value) (A : Around) (outer : List PySem.Env) (s : Shared) (H : Hp) (E : XK) : Cx :=
  cxOf (L2.CX P w) P w Γ.K mg base N qual (defScope st) f cdv A outer s H E
/-- A def keeps what its body's reading says -/
theorem ok_fn {P : Program} {w : World} {mg : Str → Option Value} {base : Heap} {Γ : Ct} {x qual : Str} {st : Stmt} {f : Addr} {fd : FuncData} {N ps : List Str} {k : Nat} {c : FS} (F : Fun Γ.K x qual st f fd) (S : FnScope N ps (defScope st))
    (hbody : ∀ (cdv : Value) (A : Around) (outer : List PySem.Env) (s : Shared) (H : Hp) (E : XK) (W : WX), Room k (A.deeper (envF qual st s f cdv)) → (A.deeper (envF qual st s f cdv)).guards = some [] → Takes (cxF Γ P w mg base N qual st f cdv A outer s H E) W →
      MB (cxF Γ P w mg base N qual st f cdv A outer s H E) Γ W (defBody st) c) : FnG P w mg base Γ (k + 1) f fd ps (denOf N.length c) := by
  obtain ⟨oc, od, kV, doc, pm, an, cdv, ct, osl, rfl, lk, hcd⟩ := F.ex
  refine ⟨fun A outer s H args us vs Q E room guards e0 binds rel ⟨hlen, μ, Z, st0, ws, hR, rws, post⟩ => ?_⟩
  have stays : ∀ b o, base.get? b = some o → s.heap.get? b = some o := fun b o e => (e0.bs b o e).1
  have inK : Γ.K.In s.heap := e0.mod.kin.keeps stays
  have kinds : ∀ y ∈ ps.zip us, (defScope st).names.lookup y.1 = some .local ∨ ((defScope st).names.lookup y.1 = some .cell ∧ ((cellsFrom (s.heap.objs.size + 1) (defScope st).names []).lookup y.1).isSome = true) := by
    rintro ⟨n, v⟩ hy
    exact (S.par n (List.of_mem_zip hy).1).imp id fun q => ⟨q, PySem.W.cellsFrom_some _ _ _ (.inl q)⟩
  refine codeAny_call_function room.depth (inK _ _ lk) rfl S.co S.gen rfl (PySem.W.codeRec_of inK hcd) (binds _ _ _ _ ?_)
  refine wpAny_newFunctionEnv_cells S.kind kinds fun env he s1 entered => ?_
  subst he
  refine ⟨(e0.mod.nolimit.keeps stays).keeps entered.toInCall.keep, codeAny_func ?_⟩
  have I := inv_start (CX := L2.CX P w) (E := E) (cd := cdv) S room.hd e0 hlen rel entered
  have tk : Takes (cxF Γ P w mg base N qual st f cdv A outer s H E) (fun cls d _ H' => E cls d H') := takes_of rfl rfl rfl rfl
  have run := (hbody cdv A outer s H E _ (room.deeper _) (by show (A.deeper _).guards = _; rw [← guards]; rfl) tk).run [] s1 (L2.start N vs) H { nx := fun _ H' => Q .non H', rt := Q } I
    ⟨μ, Z, startD N.length ws, st0, re_start rws, hR, body_end hR post⟩
  refine wpAny_mono run (fun fl s' hs => ?_) fun e s' hs => hs
  cases fl with
  | ret u =>
    obtain ⟨v, σ', H', J, rv, q⟩ := hs
    exact ⟨v, H', J.os, J.bare, J.base, J.hok, rv, q⟩
  | next =>
    obtain ⟨σ', H', J, q⟩ := hs
    exact ⟨V.non, H', J.os, J.bare, J.base, J.hok, rfl, q⟩
  | brk => exact hs.elim fun _ z => z.elim fun _ z => z.2.elim
  | cont => exact hs.elim fun _ z => z.elim fun _ z => z.2.elim

/-! ### calls -/
section
variable {X : Cx} {Γ : Ct} {W : WX} {k : Nat} {f : Addr} {fd : FuncData} {ps : List Str} {den : Fn} {x : Str} {p pos : Pos} {e : Expr} {es : List Expr} {fa : FA}
def mCall (den : Fn) (fa : FA) : FE := fun ρ s => (fa ρ s).bind den
theorem post_call {H : Hp} {μ : Mu} {Z : Zs} {σ : L2.St} {Q : VK} {r : R Dv} (h : PostE Γ W H μ Z σ Q r) : PostE Γ (fun c d _ H' => WE W σ c d H') H μ Z [] Q r := by
  cases r with
  | ok w s => exact h
  | er x s => exact h
  | no => exact h
theorem run_G {pins : List (Addr × Obj)} {σ : L2.St} {H : Hp} {s : Shared} {Q : VK} {us : List Value} {ds : List Value} {vs dvs : List V} (F : FnG X.prog X.w X.mg X.base Γ k f fd ps den) (hK : Γ.K = X.K) (hr : Room k X.A) (hg : X.A.guards = some []) (hb : Binds X.K fd ps ds) (hd : Vals dvs ds) (tk : Takes X W)
    (I : Inv X pins σ H s) (r : Vals vs us) (h : spM Γ ps den (vs ++ dvs) H Q (WE W σ)) : wpAny (model X.prog X.w) X.A (call (.ref f) us) (EP X pins σ Q) X.xe s := by
  have r2 : Vals (vs ++ dvs) (us ++ ds) := r.append hd
  have hl : (us ++ ds).length = ps.length := r2.length.symm.trans h.1
  refine wpAny_call (codeAny_mono (F.run X.A X.stack s H ⟨us, []⟩ (us ++ ds) (vs ++ dvs) Q (WE W σ) hr hg (by rw [hK]; exact I.env0) (hb s us I.kIn hl) r2 h) fun r' s' hq => ?_)
  cases r' with
  | error e => exact passAt tk σ pins H s e s' I hq
  | ok fl =>
    cases fl with
    | ret u => exact I.after hq
    | next => exact hq.elim
    | brk => exact hq.elim
    | cont => exact hq.elim
/-- f(e, ..), f a def of the text; ds its defaults -/
theorem me_call {ds : List Value} {dvs : List V} {dws : List Dv} (F : FnG X.prog X.w X.mg X.base Γ k f fd ps den) (hK : Γ.K = X.K) (hr : Room k X.A) (hg : X.A.guards = some []) (hgl : Gl X x) (hm : X.mg x = some (.ref f)) (hk : PySem.W.keepIn X.K (.ref f) = true) (hb : Binds X.K fd ps ds) (hd : Vals dvs ds)
    (hdw : ∀ H μ Z, RVs Γ H μ Z dws dvs) (n : Nat) (hn : n + dws.length = ps.length) (hnl : (e :: es).length = n) (tk : Takes X W) (ha : MA X Γ W (e :: es) fa) (hlen : ∀ ρ s ws s', fa ρ s = .ok ws s' → ws.length = n) (hdb : (x == ("__debug__" : Str)) = false := by decide)
    (he : starEach (e :: es) X.env = (false, eval e X.env) :: starEach es X.env := by rfl) (hpl : (backTo pos (starEach es X.env)).any (·.1) = false := by rfl) :
    ME X Γ W (.Call (.Name x p) (e :: es) [] pos) (mCall (fun ws => den (ws ++ dws)) fa) := by
  refine ⟨fun pins s σ H Q I ⟨μ, Z, ρ, s0, hE, hR, q⟩ => ?_⟩
  refine wpAny_Call_Name_kw (ld_glob I hgl hm ?_ hdb)
  have q' : rdA Γ W fa σ H fun vs H1 => spM Γ ps den (vs ++ dvs) H1 Q (WE W σ) := by
    refine ⟨μ, Z, ρ, s0, hE, hR, ?_⟩
    unfold mCall at q
    cases e1 : fa ρ s0 with
    | ok ws s1 =>
      rw [e1] at q
      have q2 : PostE Γ W H μ Z σ Q (den (ws ++ dws) s1) := q
      intro vs H1 μ1 ev R1 r1
      refine ⟨?_, μ1, Z, s1, ws ++ dws, R1, r1.append (hdw H1 μ1 Z), post_call (PostE.evo ev q2)⟩
      rw [List.length_append, r1.len, hlen _ _ _ _ e1, (hdw H1 μ1 Z).len, hn]
    | er x1 s1 => rw [e1] at q; exact q
    | no => rw [e1] at q; exact q
  refine PySem.W.callWith_K (h₀ := X.base) I.ok.mod.kin hk (thn (ha.run pos pins s σ H _ I q') fun us s1 ⟨vs, H1, I1, r, z⟩ => ⟨I1.kIn, ?_⟩) he hpl
  exact run_G F hK hr hg hb hd tk I1 r z
end
end MP

set_option Elab.async false
set_option linter.all false
set_option maxRecDepth 100000
set_option maxHeartbeats 4000000
namespace MP
open PySem PySem.Spec PyProof.Rows L2

/-! ### built-in functions -/
abbrev ON := Sto → List Dv → Option Dv
def OpN (Γ : Ct) (r : List V → Hp → VK → Prop) (op : ON) : Prop := ∀ (H : Hp) (μ : Mu) (Z : Zs) (s : Sto) (xs : List Dv) (w : Dv) (vs : List V) (Q : VK), Rep Γ H μ Z s → RVs Γ H μ Z xs vs → op s xs = some w →
  (∀ v' H', Evo H μ H' μ → Rep Γ H' μ Z s → RV Γ H' μ Z w v' → Q v' H') → r vs H Q
def mBlt (op : ON) (fa : FA) : FE := fun ρ s => (fa ρ s).bind fun ws s1 => R.of (op s1 ws) s1
section
variable {X : Cx} {Γ : Ct} {W : WX} {x : Str} {p pos : Pos} {e : Expr} {es : List Expr} {fa : FA} {id T : String} {r r' : List V → Hp → VK → Prop} {op op' : ON}
theorem blt_ok {t : TE} {ta : TA} (ht : t = tCB r (rdA Γ W fa)) (hs : OpN Γ r op) (h : PE X e t) : ME X Γ W e (mBlt op fa) := by
  subst ht
  exact PE.imp h fun σ H Q ⟨μ, Z, ρ, s, hE, hR, q⟩ => aE hE hR q fun ws s1 vs H1 μ1 e1 E1 R1 r1 q1 => by
    obtain ⟨w, hw, k⟩ := ofE q1
    exact hs H1 μ1 Z s1 ws w vs Q R1 r1 hw k
theorem me_callB (hc : CallR X (.builtin id) r) (hs : OpN Γ r op) (hg : Gl X x) (hm : X.mg x = none) (hv : bootBuiltins x = some (.builtin id)) (ha : MA X Γ W (e :: es) fa) (hn : x ≠ "__name__" := by decide) (hdb : (x == ("__debug__" : Str)) = false := by decide)
    (he : starEach (e :: es) X.env = (false, eval e X.env) :: starEach es X.env := by rfl) (hpl : (backTo pos (starEach es X.env)).any (·.1) = false := by rfl) : ME X Γ W (.Call (.Name x p) (e :: es) [] pos) (mBlt op fa) :=
  blt_ok (ta := rdA Γ W fa) rfl hs (pe_callB hc hg hm hv ha hn hdb he hpl)
theorem me_callTy (hc : CallR X (.type T) r) (hs : OpN Γ r op) (hg : Gl X x) (hm : X.mg x = none) (hv : bootBuiltins x = some (.type T)) (ha : MA X Γ W (e :: es) fa) (hn : x ≠ "__name__" := by decide) (hdb : (x == ("__debug__" : Str)) = false := by decide)
    (he : starEach (e :: es) X.env = (false, eval e X.env) :: starEach es X.env := by rfl) (hpl : (backTo pos (starEach es X.env)).any (·.1) = false := by rfl) : ME X Γ W (.Call (.Name x p) (e :: es) [] pos) (mBlt op fa) :=
  blt_ok (ta := rdA Γ W fa) rfl hs (pe_callTy hc hg hm hv ha hn hdb he hpl)
theorem OpN.or (h : OpN Γ r op) (h' : OpN Γ r' op') : OpN Γ (fun x H Q => r x H Q ∨ r' x H Q) (fun s xs => match op s xs with
    | some w => some w
    | none => op' s xs) := fun H μ Z s xs w vs Q hR rx e k => by
  dsimp only at e
  split at e
  · rename_i w' e'
    cases e
    exact .inl (h H μ Z s xs _ vs Q hR rx e' k)
  · exact .inr (h' H μ Z s xs w vs Q hR rx e k)
/-- len -/
def lenD : ON := fun s xs => match xs with
  | [.str x] => if x.length ≤ lim then some (.int x.length) else none
  | [x] => (seqOf s x).map fun ws => .int ws.length
  | _ => none
theorem one {H : Hp} {μ : Mu} {Z : Zs} {x : Dv} {vs : List V} (r : RVs Γ H μ Z [x] vs) : ∃ v, vs = [v] ∧ RV Γ H μ Z x v := by
  obtain ⟨v, xs, rfl, h1, h2⟩ := r
  exact ⟨v, by rw [show xs = [] from h2], h1⟩
theorem two {H : Hp} {μ : Mu} {Z : Zs} {x y : Dv} {vs : List V} (r : RVs Γ H μ Z [x, y] vs) : ∃ v u, vs = [v, u] ∧ RV Γ H μ Z x v ∧ RV Γ H μ Z y u := by
  obtain ⟨v, xs, rfl, h1, u, ys, rfl, h2, h3⟩ := r
  exact ⟨v, u, by rw [show ys = [] from h3], h1, h2⟩
theorem sLen (hK : Γ.K = X.K) : OpN Γ (fun xs H Q => ∃ x n, xs = [x] ∧ LenV X.K x H n ∧ Q (.int n) H) lenD := fun H μ Z s xs w vs Q hR rx e k => by
  rw [← hK]
  unfold lenD at e
  split at e
  · rename_i y
    split at e
    · rename_i hl
      cases e
      obtain ⟨v, rfl, r1⟩ := one rx
      exact ⟨v, _, rfl, by rw [show v = .str y from r1]; exact ⟨lim_ok hl, rfl⟩, k _ H .refl hR rfl⟩
    · cases e
  · rename_i y _
    cases q : seqOf s y with
    | none => rw [q] at e; cases e
    | some ws =>
      rw [q] at e
      cases e
      obtain ⟨v, rfl, r1⟩ := one rx
      obtain ⟨a, ys, rfl, h2, h3⟩ := seqOf_ok hR r1 q
      refine ⟨_, ws.length, rfl, ?_, k _ H .refl hR rfl⟩
      rcases h2 with h2 | h2
      · exact .inl ⟨ys, h2, h3.len.symm⟩
      · exact .inr ⟨ys, h2, h3.len.symm⟩
  · cases e
/-- tuple(xs), list(xs) -/
def tupleD : ON := fun s xs => match xs with
  | [.tup ws] => some (.tup ws)
  | [.sq ws] => some (.tup ws)
  | [x] => (lstOf s x).map .tup
  | _ => none
theorem sTuple (hK : Γ.K = X.K) : OpN Γ (fun xs H Q => ∃ p ys, xs = [.ref p] ∧ ((SqL X.K H p ys ∧ ∀ l, H l = none → Q (.ref l) (upd H l (.tup ys))) ∨ (SqT X.K H p ys ∧ Q (.ref p) H))) tupleD := fun H μ Z s xs w vs Q hR rx e k => by
  rw [← hK]
  unfold tupleD at e
  split at e
  · cases e
    obtain ⟨v, rfl, a, ys, rfl, h2, h3⟩ := one rx
    exact ⟨a, ys, rfl, .inr ⟨h2.sq, k _ H .refl hR ⟨a, ys, rfl, h2, h3⟩⟩⟩
  · cases e
    obtain ⟨v, rfl, a, ys, rfl, h2, h3⟩ := one rx
    exact ⟨a, ys, rfl, .inl ⟨h2.sq, fun l hl => k _ _ (Evo.laid hl) (hR.laid hl) (new_tup hR hl h3)⟩⟩
  · rename_i y _ _
    cases q : lstOf s y with
    | none => rw [q] at e; cases e
    | some ws =>
      rw [q] at e
      cases e
      obtain ⟨v, rfl, r1⟩ := one rx
      obtain ⟨a, ys, rfl, h2, h3⟩ := lstOf_ok hR r1 q
      exact ⟨a, ys, rfl, .inl ⟨SqL.of h2, fun l hl => k _ _ (Evo.laid hl) (hR.laid hl) (new_tup hR hl h3)⟩⟩
  · cases e
def listD : ON := fun s xs => match xs with
  | [x] => (seqOf s x).map .lst
  | _ => none
theorem sList (hK : Γ.K = X.K) : OpN Γ (fun xs H Q => ∃ p ys, xs = [.ref p] ∧ (SqL X.K H p ys ∨ SqT X.K H p ys) ∧ ∀ l, H l = none → Q (.ref l) (upd H l (.lst ys))) listD := fun H μ Z s xs w vs Q hR rx e k => by
  rw [← hK]
  unfold listD at e
  split at e
  · rename_i y
    cases q : seqOf s y with
    | none => rw [q] at e; cases e
    | some ws =>
      rw [q] at e
      cases e
      obtain ⟨v, rfl, r1⟩ := one rx
      obtain ⟨a, ys, rfl, h2, h3⟩ := seqOf_ok hR r1 q
      exact ⟨a, ys, rfl, h2, fun l hl => k _ _ (Evo.laid hl) (hR.laid hl) (new_lst hR hl h3)⟩
  · cases e
/-- ints of a list -/
def intOf : Dv → Option Int
  | .int i => some i
  | _ => none
def intsOf (ws : List Dv) : Option (List Int) := mapO intOf ws
theorem intsOf_ok : ∀ {ws : List Dv} {ns : List Int}, intsOf ws = some ns → ws = ns.map .int
  | [], ns, e => by cases e; rfl
  | w :: ws, ns, e => by
    unfold intsOf at e
    simp only [mapO] at e
    split at e
    · rename_i b bs e1 e2
      cases e
      rw [intsOf_ok (ws := ws) (ns := bs) e2]
      cases w with
      | int i => cases e1; rfl
      | _ => cases e1
    · cases e
theorem intsOf_map : ∀ ns : List Int, intsOf (ns.map .int) = some ns
  | [] => rfl
  | n :: ns => by
    have := intsOf_map ns
    unfold intsOf at this ⊢
    rw [List.map_cons, mapO, this]
    rfl
/-- sorting by insertion -/
def ins (a : Int) : List Int → List Int
  | [] => [a]
  | b :: r => if a ≤ b then a :: b :: r else b :: ins a r
def srt : List Int → List Int
  | [] => []
  | a :: r => ins a (srt r)
theorem ins_perm (a : Int) : ∀ l : List Int, (ins a l).Perm (a :: l)
  | [] => .refl _
  | b :: r => by
    unfold ins
    split
    · exact .refl _
    · exact ((ins_perm a r).cons b).trans (.swap a b r)
theorem srt_perm : ∀ l : List Int, (srt l).Perm l
  | [] => .refl _
  | a :: r => (ins_perm a (srt r)).trans ((srt_perm r).cons a)
theorem ins_sorted (a : Int) : ∀ l : List Int, l.Pairwise (· ≤ ·) → (ins a l).Pairwise (· ≤ ·)
  | [], _ => List.pairwise_singleton _ _
  | b :: r, h => by
    unfold ins
    obtain ⟨h1, h2⟩ := List.pairwise_cons.mp h
    split
    · rename_i hab
      refine List.pairwise_cons.mpr ⟨fun c hc => ?_, h⟩
      rcases List.mem_cons.mp hc with e | e
      · rw [e]; exact hab
      · exact Int.le_trans hab (h1 c e)
    · rename_i hab
      refine List.pairwise_cons.mpr ⟨fun c hc => ?_, ins_sorted a r h2⟩
      rcases List.mem_cons.mp ((ins_perm a r).mem_iff.mp hc) with e | e
      · rw [e]; omega
      · exact h1 c e
theorem srt_sorted : ∀ l : List Int, (srt l).Pairwise (· ≤ ·)
  | [] => .nil
  | a :: r => ins_sorted a _ (srt_sorted r)
theorem sorted_eq : ∀ {l l' : List Int}, l.Perm l' → l.Pairwise (· ≤ ·) → l'.Pairwise (· ≤ ·) → l = l'
  | [], l', p, _, _ => (List.nil_perm.mp p).symm
  | a :: r, [], p, _, _ => (List.cons_ne_nil a r (List.perm_nil.mp p)).elim
  | a :: r, b :: t, p, h, h' => by
    obtain ⟨h1, h2⟩ := List.pairwise_cons.mp h
    obtain ⟨g1, g2⟩ := List.pairwise_cons.mp h'
    have hab : a = b := by
      have ha : a ∈ b :: t := p.mem_iff.mp List.mem_cons_self
      have hb : b ∈ a :: r := p.mem_iff.mpr List.mem_cons_self
      rcases List.mem_cons.mp ha with e | e
      · exact e
      · rcases List.mem_cons.mp hb with e' | e'
        · exact e'.symm
        · exact Int.le_antisymm (h1 b e') (g1 a e)
    subst hab
    rw [sorted_eq (List.perm_cons a |>.mp p) h2 g2]
theorem srt_uniq {l l' : List Int} (p : l'.Perm l) (h : l'.Pairwise (· ≤ ·)) : l' = srt l := sorted_eq (p.trans (srt_perm l).symm) h (srt_sorted l)
def sortedD : ON := fun s xs => match xs with
  | [x] => match lstOf s x with
    | some ws => (intsOf ws).map fun ns => .lst ((srt ns).map .int)
    | none => none
  | _ => none
theorem sSorted (hK : Γ.K = X.K) : OpN Γ (rSortedI X.K) sortedD := fun H μ Z s xs w vs Q hR rx e k => by
  rw [← hK]
  unfold sortedD at e
  split at e
  · rename_i y
    split at e
    · rename_i ws q
      cases q2 : intsOf ws with
      | none => rw [q2] at e; cases e
      | some ns =>
        rw [q2] at e
        cases e
        obtain ⟨v, rfl, r1⟩ := one rx
        obtain ⟨a, ys, rfl, h2, h3⟩ := lstOf_ok hR r1 q
        rw [intsOf_ok q2] at h3
        have h4 := h3.ints
        subst h4
        refine ⟨a, ns, rfl, SqL.of h2, fun ns' p hp hs hn => ?_⟩
        rw [srt_uniq hp hs]
        exact k _ _ (Evo.laid hn) (hR.laid hn) (new_lst hR hn (RVs.of_ints _))
    · cases e
  · cases e
def sumD : ON := fun s xs => match xs with
  | [x] => match lstOf s x with
    | some ws => (intsOf ws).map fun ns => .int ns.sum
    | none => none
  | _ => none
theorem sSum (hK : Γ.K = X.K) : OpN Γ (rSum X.K) sumD := fun H μ Z s xs w vs Q hR rx e k => by
  rw [← hK]
  unfold sumD at e
  split at e
  · rename_i y
    split at e
    · rename_i ws q
      cases q2 : intsOf ws with
      | none => rw [q2] at e; cases e
      | some ns =>
        rw [q2] at e
        cases e
        obtain ⟨v, rfl, r1⟩ := one rx
        obtain ⟨a, ys, rfl, h2, h3⟩ := lstOf_ok hR r1 q
        rw [intsOf_ok q2] at h3
        have h4 := h3.ints
        subst h4
        exact ⟨a, ns, rfl, SqL.of h2, k _ H .refl hR rfl⟩
    · cases e
  · cases e
def min2D : ON := fun _ xs => match xs with
  | [.int i, .int j] => some (.int (if j < i then j else i))
  | _ => none
theorem sMin2 : OpN Γ (fun xs H Q => ∃ i j, xs = [.int i, .int j] ∧ Q (.int (if j < i then j else i)) H) min2D := fun H μ Z s xs w vs Q hR rx e k => by
  unfold min2D at e
  split at e
  · rename_i i j
    cases e
    obtain ⟨v, u, rfl, r1, r2⟩ := two rx
    exact ⟨i, j, by rw [show v = _ from r1, show u = _ from r2], k _ H .refl hR rfl⟩
  · cases e
def max2D : ON := fun _ xs => match xs with
  | [.int i, .int j] => some (.int (if j > i then j else i))
  | _ => none
theorem sMax2 : OpN Γ (fun xs H Q => ∃ i j, xs = [.int i, .int j] ∧ Q (.int (if j > i then j else i)) H) max2D := fun H μ Z s xs w vs Q hR rx e k => by
  unfold max2D at e
  split at e
  · rename_i i j
    cases e
    obtain ⟨v, u, rfl, r1, r2⟩ := two rx
    exact ⟨i, j, by rw [show v = _ from r1, show u = _ from r2], k _ H .refl hR rfl⟩
  · cases e
def absD : ON := fun _ xs => match xs with
  | [.int i] => some (.int (if i < 0 then -i else i))
  | _ => none
theorem sAbs : OpN Γ (fun xs H Q => ∃ i, xs = [.int i] ∧ Q (.int (if i < 0 then -i else i)) H) absD := fun H μ Z s xs w vs Q hR rx e k => by
  unfold absD at e
  split at e
  · rename_i i
    cases e
    obtain ⟨v, rfl, r1⟩ := one rx
    exact ⟨i, by rw [show v = _ from r1], k _ H .refl hR rfl⟩
  · cases e
def intD : ON := fun _ xs => match xs with
  | [.int i] => some (.int i)
  | [.bl b] => some (.int (if b then 1 else 0))
  | _ => none
theorem sInt : OpN Γ (fun xs H Q => (∃ i, xs = [.int i] ∧ Q (.int i) H) ∨ ∃ k, xs = [.bl k] ∧ Q (.int (if k then 1 else 0)) H) intD := fun H μ Z s xs w vs Q hR rx e k => by
  unfold intD at e
  split at e
  · rename_i i
    cases e
    obtain ⟨v, rfl, r1⟩ := one rx
    exact .inl ⟨i, by rw [show v = _ from r1], k _ H .refl hR rfl⟩
  · rename_i b
    cases e
    obtain ⟨v, rfl, r1⟩ := one rx
    exact .inr ⟨b, by rw [show v = _ from r1], k _ H .refl hR rfl⟩
  · cases e
/-- isinstance of a built-in class -/
def tyName : Dv → Option String
  | .non => some "NoneType" | .bl _ => some "bool" | .int _ => some "int" | .str _ => some "str" | .tup _ => some "tuple" | .lst _ => some "list" | .dct _ _ => some "dict"
  | _ => none
def sub (a b : String) : Option Bool := match a, b with
  | "NoneType", "int" => some false | "NoneType", "bool" => some false | "NoneType", "tuple" => some false | "NoneType", "str" => some false | "NoneType", "list" => some false
  | "bool", "int" => some true | "bool", "bool" => some true | "bool", "tuple" => some false | "bool", "str" => some false | "bool", "list" => some false
  | "int", "int" => some true | "int", "bool" => some false | "int", "tuple" => some false | "int", "str" => some false | "int", "list" => some false
  | "str", "int" => some false | "str", "bool" => some false | "str", "tuple" => some false | "str", "str" => some true | "str", "list" => some false
  | "tuple", "int" => some false | "tuple", "bool" => some false | "tuple", "tuple" => some true | "tuple", "str" => some false | "tuple", "list" => some false
  | "list", "int" => some false | "list", "bool" => some false | "list", "tuple" => some false | "list", "str" => some false | "list", "list" => some true
  | "dict", "int" => some false | "dict", "bool" => some false | "dict", "tuple" => some false | "dict", "str" => some false | "dict", "list" => some false
  | _, _ => none
theorem sub_ok {a b : String} {r : Bool} (h : sub a b = some r) : kitB a b = some r := by
  unfold sub at h
  split at h <;> first
    | (cases h; decide +kernel)
    | cases h
def isiD : ON := fun _ xs => match xs with
  | [x, .ty n] => match tyName x with
    | some t => (sub t n).map .bl
    | none => none
  | _ => none
theorem tyName_ok {H : Hp} {μ : Mu} {Z : Zs} {x : Dv} {v : V} {t : String} (r : RV Γ H μ Z x v) (e : tyName x = some t) : TyX Γ.K H v (.type t) := by
  cases x with
  | non => cases e; rw [show v = _ from r]; exact .base .non
  | bl b => cases e; rw [show v = _ from r]; exact .base (.bl b)
  | int b => cases e; rw [show v = _ from r]; exact .base (.int b)
  | str b => cases e; rw [show v = _ from r]; exact .base (.str b)
  | tup ws =>
    cases e
    obtain ⟨a, xs, rfl, h2, h3⟩ := r
    rcases h2 with ⟨h2 | ⟨o, h2⟩, _⟩ | ⟨o, its, n, h2, h4, _⟩
    · exact .base (.tup h2)
    · exact .fTuple h2
    · exact .kTuple h2 h4
  | lst ws =>
    cases e
    obtain ⟨a, xs, rfl, h2, h3⟩ := r
    exact .base (.lst h2)
  | dct ks ws =>
    cases e
    obtain ⟨a, kvs, rfl, h2, h3⟩ := r
    exact .base (.dK h2)
  | _ => cases e
theorem sIsi (hK : Γ.K = X.K) : OpN Γ (rIsi X.K) isiD := fun H μ Z s xs w vs Q hR rx e k => by
  rw [← hK]
  unfold isiD at e
  split at e
  · rename_i y n
    split at e
    · rename_i t q
      cases q2 : sub t n with
      | none => rw [q2] at e; cases e
      | some b =>
        rw [q2] at e
        cases e
        obtain ⟨v, u, rfl, r1, r2⟩ := two rx
        exact ⟨v, u, .type t, .type n, b, rfl, by rw [show u = _ from r2]; exact .ty n, tyName_ok r1 q, kit_ty (sub_ok q2), k _ H .refl hR rfl⟩
    · cases e
  · cases e

/-! ### repr -/
def rRepr (K : PySem.W.Frag) : List V → Hp → VK → Prop := fun xs H Q => ∃ (x : V) (a : Addr) (d : PyData), xs = [x] ∧ x = .ref a ∧ Dp K H x d ∧ d.showable = true ∧ d.hasDict = false ∧ d.depth ≤ 60 ∧ d.shown.length ≤ sizeLine ∧ Q (.str d.shown) H
theorem call_repr (hg : X.A.guards = some []) (hu : X.A.units + 64 < cLine) : CallR X (.builtin "repr") (rRepr X.K) := by
  intro pins s σ H xs us Q I r h
  obtain ⟨x, a, d, rfl, rfl, hd, h1, h2, h3, h4, q⟩ := h
  obtain ⟨us', e, _⟩ : ∃ u, us = [u] ∧ RelV (.ref a) u := by
    cases r with
    | cons ru rn => cases rn; exact ⟨_, rfl, ru⟩
  subst e
  have er : us' = Value.ref a := by
    cases r with
    | cons ru rn => exact ru
  subst er
  obtain ⟨as, rd⟩ := hd.reads I d _ _ rfl
  exact repr_of_reads' rd h1 (fun z => by rw [h2] at z; cases z) hg (by omega) (fun _ _ z => z) (fun h' u tk k => ⟨.str d.shown, H, I.kept (t' := tk) k, ⟨u, rfl⟩, q⟩) h4
end
end MP

set_option Elab.async false
set_option linter.all false
set_option maxRecDepth 100000
set_option maxHeartbeats 4000000
namespace MP
open PySem PySem.Spec PyProof.Rows L2

section
variable {X : Cx} {Γ : Ct} {W : WX} {a b e : Expr} {f g : FE} {pos : Pos}
/-! ### one of two operators -/
def orO (o o' : O2) : O2 := fun s x y => match o s x y with
  | some w => some w
  | none => o' s x y
theorem bin_or {o o' : O2} (h : ME X Γ W e (mBin o f g)) (h' : ME X Γ W e (mBin o' f g)) : ME X Γ W e (mBin (orO o o') f g) :=
  PE.imp (PE.or h h') fun σ H Q ⟨μ, Z, ρ, s, hE, hR, q⟩ => by
    have key : PostE Γ W H μ Z σ Q (mBin o f g ρ s) ∨ PostE Γ W H μ Z σ Q (mBin o' f g ρ s) := by
      unfold mBin at q ⊢
      revert q
      cases f ρ s with
      | no => exact .inl
      | er x s1 => exact .inl
      | ok x s1 =>
        dsimp only [R.bind]
        cases g ρ s1 with
        | no => exact .inl
        | er y s2 => exact .inl
        | ok y s2 =>
          dsimp only
          intro q
          unfold orO at q
          cases e1 : o s2 x y with
          | some w => rw [e1] at q; exact .inl q
          | none => rw [e1] at q; exact .inr q
    exact key.imp (fun z => ⟨μ, Z, ρ, s, hE, hR, z⟩) fun z => ⟨μ, Z, ρ, s, hE, hR, z⟩

/-! ### subscripts -/
theorem RVs.at {H : Hp} {μ : Mu} {Z : Zs} {ws : List Dv} {xs : List V} {i : Int} {w : Dv} (r : RVs Γ H μ Z ws xs) (e : atI ws i = some w) : ∃ x, atI xs i = some x ∧ RV Γ H μ Z w x := by
  unfold atI at e ⊢
  rw [r.len]
  cases q : ixN ws.length i with
  | none => rw [q] at e; cases e
  | some j =>
    rw [q] at e
    exact r.get e
def lstOrSq (s : Sto) : Dv → Option (List Dv)
  | .sq ws => some ws
  | w => lstOf s w
def ixL : O2 := fun s x y => match y with
  | .int i => (lstOrSq s x).bind fun ws => atI ws i
  | _ => none
def ixT : O2 := fun _ x y => match y with
  | .int i => (tupOf x).bind fun ws => atI ws i
  | _ => none
theorem lstOrSq_ok {H : Hp} {μ : Mu} {Z : Zs} {s : Sto} {w : Dv} {v : V} {ws : List Dv} (hR : Rep Γ H μ Z s) (r : RV Γ H μ Z w v) (e : lstOrSq s w = some ws) : ∃ a xs, v = .ref a ∧ SqL Γ.K H a xs ∧ RVs Γ H μ Z ws xs := by
  unfold lstOrSq at e
  split at e
  · cases e
    obtain ⟨a, xs, h1, h2, h3⟩ := r
    exact ⟨a, xs, h1, h2.sq, h3⟩
  · obtain ⟨a, xs, h1, h2, h3⟩ := lstOf_ok hR r e
    exact ⟨a, xs, h1, SqL.of h2, h3⟩
theorem tupOf_ok {H : Hp} {μ : Mu} {Z : Zs} {w : Dv} {v : V} {ws : List Dv} (r : RV Γ H μ Z w v) (e : tupOf w = some ws) : ∃ a xs, v = .ref a ∧ SqT Γ.K H a xs ∧ RVs Γ H μ Z ws xs := by
  cases w with
  | tup us =>
    cases e
    obtain ⟨a, xs, h1, h2, h3⟩ := r
    exact ⟨a, xs, h1, h2.sq, h3⟩
  | _ => cases e
theorem sIxL : Op2 Γ (rIxL Γ.K) ixL := fun H μ Z s x y w u v Q hR r1 r2 e k => by
  unfold ixL at e
  split at e
  · rename_i i
    cases q : lstOrSq s x with
    | none => rw [q] at e; cases e
    | some ws =>
      rw [q] at e
      obtain ⟨p, xs, h1, h2, h3⟩ := lstOrSq_ok hR r1 q
      obtain ⟨z, g1, g2⟩ := h3.at e
      exact ⟨p, xs, i, z, h1, r2, h2, g1, k _ H .refl hR g2⟩
  · cases e
theorem sIxT : Op2 Γ (rIxT Γ.K) ixT := fun H μ Z s x y w u v Q hR r1 r2 e k => by
  unfold ixT at e
  split at e
  · rename_i i
    cases q : tupOf x with
    | none => rw [q] at e; cases e
    | some ws =>
      rw [q] at e
      obtain ⟨p, xs, h1, h2, h3⟩ := tupOf_ok r1 q
      obtain ⟨z, g1, g2⟩ := h3.at e
      exact ⟨p, xs, i, z, h1, r2, h2, g1, k _ H .refl hR g2⟩
  · cases e
/-- dicts of the store -/
def keyOf : Dv → Option Key
  | .int i => some (.inl i)
  | .str x => some (.inr x)
  | _ => none
def valD (kws : List (Key × Dv)) (k : Key) : Option Dv := (kws.find? fun p => decide (p.1 = k)).map (·.2)
def putD (kws : List (Key × Dv)) (k : Key) (w : Dv) : List (Key × Dv) :=
  if (kws.any fun p => decide (p.1 = k)) = true then kws.map (fun p => if p.1 = k then (p.1, w) else p) else kws ++ [(k, w)]
def dctOf (s : Sto) : Dv → Option (List (Key × Dv))
  | .ref n => match s[n]? with
    | some (.dct kws) => some kws
    | _ => none
  | _ => none
def ixD : O2 := fun s x y => match dctOf s x, keyOf y with
  | some kws, some k => valD kws k
  | _, _ => none
theorem keyOf_ok {H : Hp} {μ : Mu} {Z : Zs} {w : Dv} {v : V} {k : Key} (r : RV Γ H μ Z w v) (e : keyOf w = some k) : v = kV k := by
  cases w with
  | int i => cases e; exact r
  | str x => cases e; exact r
  | _ => cases e
theorem valD_ok {H : Hp} {μ : Mu} {Z : Zs} {k : Key} {w : Dv} : ∀ {kws : List (Key × Dv)} {kvs : List (Key × V)}, kvs.map (·.1) = kws.map (·.1) → RVs Γ H μ Z (kws.map (·.2)) (kvs.map (·.2)) → valD kws k = some w → ∃ v, valV kvs k = some v ∧ RV Γ H μ Z w v
  | [], kvs, _, _, e => by cases e
  | p :: kws, [], h, _, e => by cases h
  | p :: kws, q :: kvs, h, r, e => by
    obtain ⟨h1, h2⟩ := List.cons.inj h
    obtain ⟨x, xs, h3, r1, r2⟩ := r
    obtain ⟨h4, h5⟩ := List.cons.inj h3
    subst h4
    by_cases hk : p.1 = k
    · have e1 : valD (p :: kws) k = some p.2 := by simp [valD, List.find?_cons, hk]
      rw [e1] at e
      cases e
      exact ⟨q.2, valV_pos (show q.1 = k from h1.trans hk), r1⟩
    · have e1 : valD (p :: kws) k = valD kws k := by simp [valD, List.find?_cons, hk]
      rw [e1] at e
      obtain ⟨v, g1, g2⟩ := valD_ok (kvs := kvs) h2 (h5 ▸ r2) e
      exact ⟨v, by rw [valV_neg (show ¬ q.1 = k from fun z => hk (h1.symm.trans z))]; exact g1, g2⟩
theorem putD_ok {H : Hp} {μ : Mu} {Z : Zs} {k : Key} {w : Dv} {v : V} (rw' : RV Γ H μ Z w v) {kws : List (Key × Dv)} {kvs : List (Key × V)} (h : kvs.map (·.1) = kws.map (·.1)) (r : RVs Γ H μ Z (kws.map (·.2)) (kvs.map (·.2))) :
    (putK kvs k v).map (·.1) = (putD kws k w).map (·.1) ∧ RVs Γ H μ Z ((putD kws k w).map (·.2)) ((putK kvs k v).map (·.2)) := by
  have hany : ∀ (kws : List (Key × Dv)) (kvs : List (Key × V)), kvs.map (·.1) = kws.map (·.1) → (kvs.any fun p => decide (p.1 = k)) = (kws.any fun p => decide (p.1 = k)) := fun kws => by
    induction kws with
    | nil => intro kvs h; cases kvs with
      | nil => rfl
      | cons _ _ => cases h
    | cons p kws ih => intro kvs h; cases kvs with
      | nil => cases h
      | cons q kvs =>
        obtain ⟨h1, h2⟩ := List.cons.inj h
        have h1' : q.1 = p.1 := h1
        rw [List.any_cons, List.any_cons, ih kvs h2, h1']
  have hmap : ∀ (kws : List (Key × Dv)) (kvs : List (Key × V)), kvs.map (·.1) = kws.map (·.1) → RVs Γ H μ Z (kws.map (·.2)) (kvs.map (·.2)) →
      (kvs.map (fun p => if p.1 = k then (p.1, v) else p)).map (·.1) = (kws.map (fun p => if p.1 = k then (p.1, w) else p)).map (·.1) ∧ RVs Γ H μ Z ((kws.map (fun p => if p.1 = k then (p.1, w) else p)).map (·.2)) ((kvs.map (fun p => if p.1 = k then (p.1, v) else p)).map (·.2)) := fun kws => by
    induction kws with
    | nil => intro kvs h r; cases kvs with
      | nil => exact ⟨rfl, rfl⟩
      | cons _ _ => cases h
    | cons p kws ih => intro kvs h r; cases kvs with
      | nil => cases h
      | cons q kvs =>
        obtain ⟨h1, h2⟩ := List.cons.inj h
        obtain ⟨x, xs, h3, r1, r2⟩ := r
        obtain ⟨h4, h5⟩ := List.cons.inj h3
        have h1' : q.1 = p.1 := h1
        subst h4
        obtain ⟨i1, i2⟩ := ih kvs h2 (h5 ▸ r2)
        by_cases hk : p.1 = k
        · have e1 : (if q.1 = k then (q.1, v) else q) = (q.1, v) := if_pos (h1'.trans hk)
          have e2 : (if p.1 = k then (p.1, w) else p) = (p.1, w) := if_pos hk
          have m1 : ((q :: kvs).map fun p => if p.1 = k then (p.1, v) else p) = (q.1, v) :: kvs.map fun p => if p.1 = k then (p.1, v) else p := by rw [List.map_cons, e1]
          have m2 : ((p :: kws).map fun p => if p.1 = k then (p.1, w) else p) = (p.1, w) :: kws.map fun p => if p.1 = k then (p.1, w) else p := by rw [List.map_cons, e2]
          rw [m1, m2]
          exact ⟨by rw [List.map_cons, List.map_cons, i1, h1'], RVs.cons rw' i2⟩
        · have e1 : (if q.1 = k then (q.1, v) else q) = q := if_neg fun z => hk (h1'.symm.trans z)
          have e2 : (if p.1 = k then (p.1, w) else p) = p := if_neg hk
          have m1 : ((q :: kvs).map fun p => if p.1 = k then (p.1, v) else p) = q :: kvs.map fun p => if p.1 = k then (p.1, v) else p := by rw [List.map_cons, e1]
          have m2 : ((p :: kws).map fun p => if p.1 = k then (p.1, w) else p) = p :: kws.map fun p => if p.1 = k then (p.1, w) else p := by rw [List.map_cons, e2]
          rw [m1, m2]
          exact ⟨by rw [List.map_cons, List.map_cons, i1, h1'], RVs.cons r1 i2⟩
  unfold putK putD
  rw [hany kws kvs h]
  split
  · exact hmap kws kvs h r
  · rw [List.map_append, List.map_append, List.map_append, List.map_append, h]
    exact ⟨rfl, r.append (RVs.cons rw' rfl)⟩
theorem dctOf_ok {H : Hp} {μ : Mu} {Z : Zs} {s : Sto} {w : Dv} {v : V} {kws : List (Key × Dv)} (hR : Rep Γ H μ Z s) (r : RV Γ H μ Z w v) (e : dctOf s w = some kws) : ∃ a kvs, v = .ref a ∧ H a = some (.dK kvs) ∧ kvs.map (·.1) = kws.map (·.1) ∧ RVs Γ H μ Z (kws.map (·.2)) (kvs.map (·.2)) := by
  cases w with
  | ref n =>
    simp only [dctOf] at e
    split at e
    · rename_i us q
      cases e
      obtain ⟨a, h1, h2⟩ := r
      obtain ⟨b', h3, _, kvs, h4, h5, h6⟩ := hR.at n _ q
      rw [h2] at h3
      cases h3
      exact ⟨a, kvs, h1, h4, h5, h6⟩
    · cases e
  | _ => cases e
theorem sIxD : Op2 Γ (fun x y H Q => ∃ a v, x = .ref a ∧ DGet H a y (some v) ∧ Q v H) ixD := fun H μ Z s x y w u v Q hR r1 r2 e k => by
  unfold ixD at e
  split at e
  · rename_i kws kk q1 q2
    obtain ⟨p, kvs, h1, h2, h3, h4⟩ := dctOf_ok hR r1 q1
    obtain ⟨z, g1, g2⟩ := valD_ok h3 h4 e
    refine ⟨p, z, h1, ?_, k _ H .refl hR g2⟩
    rw [keyOf_ok r2 q2, ← g1]
    exact DGet.k h2
  · cases e
theorem me_ixL (hK : Γ.K = X.K) (ha : ME X Γ W a f) (hb : ME X Γ W b g) (hs : PlainIx b) : ME X Γ W (.Subscript a b pos) (mBin ixL f g) :=
  PE.imp (pe_ix ix_list ha hb hs) fun σ H Q ⟨μ, Z, ρ, s, hE, hR, q⟩ => eE hE hR q fun x s1 u H1 μ1 e1 hE1 R1 r1 q1 => eE hE1 R1 q1 fun y s2 v H2 μ2 e2 hE2 R2 r2 q2 => by
    obtain ⟨w, hw, k⟩ := ofE q2
    rw [← hK]
    exact sIxL H2 μ2 Z s2 x y w u v Q R2 (r1.mono e2) r2 hw k
theorem me_ixT (hK : Γ.K = X.K) (ha : ME X Γ W a f) (hb : ME X Γ W b g) (hs : PlainIx b) : ME X Γ W (.Subscript a b pos) (mBin ixT f g) :=
  PE.imp (pe_ix ix_tup ha hb hs) fun σ H Q ⟨μ, Z, ρ, s, hE, hR, q⟩ => eE hE hR q fun x s1 u H1 μ1 e1 hE1 R1 r1 q1 => eE hE1 R1 q1 fun y s2 v H2 μ2 e2 hE2 R2 r2 q2 => by
    obtain ⟨w, hw, k⟩ := ofE q2
    rw [← hK]
    exact sIxT H2 μ2 Z s2 x y w u v Q R2 (r1.mono e2) r2 hw k
theorem me_ixD (hu : X.A.units + 1 < cLine) (ha : ME X Γ W a f) (hb : ME X Γ W b g) (hs : NoSl b) : ME X Γ W (.Subscript a b pos) (mBin ixD f g) :=
  PE.imp (pe_dget hu ha hb hs) fun σ H Q ⟨μ, Z, ρ, s, hE, hR, q⟩ => eE hE hR q fun x s1 u H1 μ1 e1 hE1 R1 r1 q1 => eE hE1 R1 q1 fun y s2 v H2 μ2 e2 hE2 R2 r2 q2 => by
    obtain ⟨w, hw, k⟩ := ofE q2
    exact sIxD H2 μ2 Z s2 x y w u v Q R2 (r1.mono e2) r2 hw k
/-- a[b]: of a list, a tuple, a dict -/
def ixA : O2 := orO (orO ixL ixT) ixD
theorem me_ix (hK : Γ.K = X.K) (hu : X.A.units + 1 < cLine) (ha : ME X Γ W a f) (hb : ME X Γ W b g) (hs : PlainIx b) (hs' : NoSl b) : ME X Γ W (.Subscript a b pos) (mBin ixA f g) :=
  bin_or (bin_or (me_ixL hK ha hb hs) (me_ixT hK ha hb hs)) (me_ixD hu ha hb hs')

/-! ### slices -/
abbrev FO := Env → Sto → R (Option Int)
def PostO (Γ : Ct) (W : WX) (H : Hp) (μ : Mu) (Z : Zs) (σ : L2.St) (Q : Option Int → Hp → Prop) : R (Option Int) → Prop
  | .ok b s' => ∀ H' μ', Evo H μ H' μ' → Rep Γ H' μ' Z s' → Q b H'
  | .er x s' => ∀ cls d H' μ', Evo H μ H' μ' → Rep Γ H' μ' Z s' → RX Γ H' μ' Z x cls d → W cls d σ H'
  | .no => False
def rdO (Γ : Ct) (W : WX) (f : FO) : TO := fun σ H Q => ∃ μ Z ρ s, RE Γ H μ Z ρ σ ∧ Rep Γ H μ Z s ∧ PostO Γ W H μ Z σ Q (f ρ s)
def MO (X : Cx) (Γ : Ct) (W : WX) (e : Option Expr) (f : FO) : Prop := PO X e (rdO Γ W f)
theorem PO.imp {e : Option Expr} {t t' : TO} (h : PO X e t) (k : ∀ σ H Q, t' σ H Q → t σ H Q) : PO X e t' := ⟨fun pins s σ H Q I q => h.run pins s σ H Q I (k σ H Q q)⟩
def mPart (f : FE) : FO := fun ρ s => (f ρ s).bind fun x s1 => match x with
  | .int i => .ok (some i) s1
  | _ => .no
def mNoPart : FO := fun _ s => .ok none s
theorem mo_none : MO X Γ W none mNoPart := PO.imp po_none fun σ H Q ⟨μ, Z, ρ, s, hE, hR, q⟩ => q H μ .refl hR
theorem mo_some (h : ME X Γ W e f) : MO X Γ W (some e) (mPart f) := PO.imp (po_some h) fun σ H Q ⟨μ, Z, ρ, s, hE, hR, q⟩ => by
  refine ⟨μ, Z, ρ, s, hE, hR, ?_⟩
  unfold mPart at q
  cases e1 : f ρ s with
  | no => rw [e1] at q; exact q.elim
  | er x s1 => rw [e1] at q; exact q
  | ok x s1 =>
    rw [e1] at q
    intro v H1 μ1 ev R1 r1
    cases x with
    | int i => exact ⟨i, r1, q H1 μ1 ev R1⟩
    | _ => exact q.elim
abbrev OS := Sto → Dv → Option Int → Option Int → Option Dv
def mSl (op : OS) (f : FE) (lo hi : FO) : FE := fun ρ s => (f ρ s).bind fun x s1 => (lo ρ s1).bind fun l s2 => (hi ρ s2).bind fun u s3 => R.of (op s3 x l u) s3
theorem oE {H : Hp} {μ : Mu} {Z : Zs} {σ : L2.St} {ρ : Env} {s : Sto} {fo : FO} {k : Option Int → Sto → R Dv} {Q : VK} {Q' : Option Int → Hp → Prop} (hE : RE Γ H μ Z ρ σ) (hR : Rep Γ H μ Z s) (h : PostE Γ W H μ Z σ Q ((fo ρ s).bind k))
    (hk : ∀ b s1 H1 μ1, Evo H μ H1 μ1 → RE Γ H1 μ1 Z ρ σ → Rep Γ H1 μ1 Z s1 → PostE Γ W H1 μ1 Z σ Q (k b s1) → Q' b H1) : rdO Γ W fo σ H Q' := by
  refine ⟨μ, Z, ρ, s, hE, hR, ?_⟩
  cases e : fo ρ s with
  | ok x s1 =>
    rw [e] at h
    exact fun H1 μ1 ev R1 => hk x s1 H1 μ1 ev (hE.mono ev) R1 (PostE.evo ev h)
  | er x s1 => rw [e] at h; exact h
  | no => rw [e] at h; exact h.elim
def cutD (ws : List Dv) (lo hi : Option Int) : List Dv := (ws.drop (HT.sIx ws.length 0 lo)).take (HT.sIx ws.length ws.length hi - HT.sIx ws.length 0 lo)
theorem cut_ok {H : Hp} {μ : Mu} {Z : Zs} {ws : List Dv} {xs : List V} (r : RVs Γ H μ Z ws xs) (lo hi : Option Int) : RVs Γ H μ Z (cutD ws lo hi) (cutV xs lo hi) := by
  unfold cutD cutV
  rw [r.len]
  exact (r.drop _).take _
def slL : OS := fun s x lo hi => (lstOrSq s x).map fun ws => .lst (cutD ws lo hi)
def slT : OS := fun _ x lo hi => (tupOf x).map fun ws => .tup (cutD ws lo hi)
variable {lo hi : Option Expr} {flo fhi : FO} {p2 : Pos}
theorem me_slL (hK : Γ.K = X.K) (ha : ME X Γ W e f) (hl : MO X Γ W lo flo) (hh : MO X Γ W hi fhi) : ME X Γ W (.Subscript e (.Slice lo hi none p2) pos) (mSl slL f flo fhi) :=
  PE.imp (pe_slice sl_list ha hl hh) fun σ H Q ⟨μ, Z, ρ, s, hE, hR, q⟩ => eE hE hR q fun x s1 u H1 μ1 e1 hE1 R1 r1 q1 => oE hE1 R1 q1 fun l s2 H2 μ2 e2 hE2 R2 q2 => oE hE2 R2 q2 fun h s3 H3 μ3 e3 hE3 R3 q3 => by
    obtain ⟨w, hw, k⟩ := ofE q3
    unfold slL at hw
    cases q : lstOrSq s3 x with
    | none => rw [q] at hw; cases hw
    | some ws =>
      rw [q] at hw
      cases hw
      obtain ⟨p, xs, h1, h2, h3⟩ := lstOrSq_ok R3 ((r1.mono e2).mono e3) q
      exact ⟨p, xs, h1, hK ▸ h2, fun l' hl' => k _ _ (Evo.laid hl') (R3.laid hl') (new_lst R3 hl' (cut_ok h3 l h))⟩
theorem cut_all {ws : List Dv} {lo hi : Option Int} (h1 : HT.sIx ws.length 0 lo = 0) (h2 : HT.sIx ws.length ws.length hi = ws.length) : cutD ws lo hi = ws := by
  unfold cutD
  rw [h1, h2, List.drop_zero, Nat.sub_zero, List.take_length]
theorem me_slT (hK : Γ.K = X.K) (ha : ME X Γ W e f) (hl : MO X Γ W lo flo) (hh : MO X Γ W hi fhi) : ME X Γ W (.Subscript e (.Slice lo hi none p2) pos) (mSl slT f flo fhi) :=
  PE.imp (pe_slice sl_tupA ha hl hh) fun σ H Q ⟨μ, Z, ρ, s, hE, hR, q⟩ => eE hE hR q fun x s1 u H1 μ1 e1 hE1 R1 r1 q1 => oE hE1 R1 q1 fun l s2 H2 μ2 e2 hE2 R2 q2 => oE hE2 R2 q2 fun h s3 H3 μ3 e3 hE3 R3 q3 => by
    obtain ⟨w, hw, k⟩ := ofE q3
    unfold slT at hw
    have r3 := (r1.mono e2).mono e3
    cases q : tupOf x with
    | none => rw [q] at hw; cases hw
    | some ws =>
      rw [q] at hw
      cases hw
      have hx : x = .tup ws := by cases x <;> cases q <;> rfl
      subst hx
      obtain ⟨p, xs, h1, h2, h3⟩ := id r3
      refine ⟨p, xs, h1, hK ▸ h2.sq, fun ⟨z1, z2⟩ => ?_, fun _ l' hl' => k _ _ (Evo.laid hl') (R3.laid hl') (new_tup R3 hl' (cut_ok h3 l h))⟩
      rw [h3.len] at z1 z2
      refine k _ H3 .refl R3 ?_
      show RV Γ H3 μ3 Z (.tup (cutD ws l h)) _
      rw [cut_all z1 z2, ← h1]
      exact r3
def orS (o o' : OS) : OS := fun s x l u => match o s x l u with
  | some w => some w
  | none => o' s x l u
theorem sl_or {o o' : OS} (h : ME X Γ W e (mSl o f flo fhi)) (h' : ME X Γ W e (mSl o' f flo fhi)) : ME X Γ W e (mSl (orS o o') f flo fhi) :=
  PE.imp (PE.or h h') fun σ H Q ⟨μ, Z, ρ, s, hE, hR, q⟩ => by
    have key : PostE Γ W H μ Z σ Q (mSl o f flo fhi ρ s) ∨ PostE Γ W H μ Z σ Q (mSl o' f flo fhi ρ s) := by
      unfold mSl at q ⊢
      revert q
      cases f ρ s with
      | no => exact .inl
      | er x s1 => exact .inl
      | ok x s1 =>
        dsimp only [R.bind]
        cases flo ρ s1 with
        | no => exact .inl
        | er y s2 => exact .inl
        | ok y s2 =>
          dsimp only
          cases fhi ρ s2 with
          | no => exact .inl
          | er y s3 => exact .inl
          | ok z s3 =>
            dsimp only
            intro q
            unfold orS at q
            cases e1 : o s3 x y z with
            | some w => rw [e1] at q; exact .inl q
            | none => rw [e1] at q; exact .inr q
    exact key.imp (fun z => ⟨μ, Z, ρ, s, hE, hR, z⟩) fun z => ⟨μ, Z, ρ, s, hE, hR, z⟩
def slA : OS := orS slL slT
theorem me_sl (hK : Γ.K = X.K) (ha : ME X Γ W e f) (hl : MO X Γ W lo flo) (hh : MO X Γ W hi fhi) : ME X Γ W (.Subscript e (.Slice lo hi none p2) pos) (mSl slA f flo fhi) := sl_or (me_slL hK ha hl hh) (me_slT hK ha hl hh)

/-! ### the store is written -/
theorem Evo.put {H : Hp} {μ : Mu} {n : Nat} {p : Addr} {o : HO} (hn : μ n = some p) : Evo H μ (upd H p o) μ where
  keep := fun a ob h hm => by rw [upd_ne (fun z : a = p => hm n (by rw [z]; exact hn))]; exact h
  mu := fun _ _ h => h
  new := fun _ _ h => .inl h
  stay := fun m a h q => by
    by_cases z : a = p
    · rw [z, upd_same]; intro y; cases y
    · rw [upd_ne z]; exact q
theorem Rep.put {H : Hp} {μ : Mu} {Z : Zs} {s : Sto} {n : Nat} {p : Addr} {o : HO} {ob : Ob} (hR : Rep Γ H μ Z s) (hn : μ n = some p) (ho : RO Γ (upd H p o) μ Z p ob) : Rep Γ (upd H p o) μ Z (s.set n ob) := by
  have ev : Evo H μ (upd H p o) μ := Evo.put hn
  refine ⟨fun m ob' q => ?_, hR.inj, fun m a h => by rw [List.length_set]; exact hR.dom m a h, fun a z => ev.alive (hR.za a z)⟩
  by_cases hm : n = m
  · subst hm
    have hl : n < s.length := hR.dom n p hn
    rw [List.getElem?_set_self hl] at q
    cases q
    exact ⟨p, hn, hR.notZ hn, ho⟩
  · rw [List.getElem?_set_ne hm] at q
    obtain ⟨a, h1, h2, h3⟩ := hR.at m ob' q
    exact ⟨a, h1, h2, h3.mono' ev (upd_ne (fun z : a = p => hm (hR.inj n m p hn (by rw [← z]; exact h1))))⟩
/-- xs.append(e) -/
def mApp (f g : FE) : FE := fun ρ s => (f ρ s).bind fun x s1 => match x with
  | .ref n => match s1[n]? with
    | some (.lst _) => (g ρ s1).bind fun y s2 => match s2[n]? with
      | some (.lst ws) => if ws.length < lim then .ok .non (s2.set n (.lst (ws ++ [y]))) else .no
      | _ => .no
    | _ => .no
  | _ => .no
theorem me_app (h : PE X e (tBM Γ.K "list" rAppend (rdE Γ W f) (tCons (rdE Γ W g) tNil))) : ME X Γ W e (mApp f g) :=
  PE.imp h fun σ H Q ⟨μ, Z, ρ, s, hE, hR, q⟩ => eE hE hR q fun x s1 u H1 μ1 e1 hE1 R1 r1 q1 => by
    cases x with
    | ref n =>
      dsimp only at q1
      split at q1
      · rename_i us q0
        obtain ⟨p, h1, h2⟩ := r1
        obtain ⟨p', g1, _, xs, g3, g4⟩ := R1.at n _ q0
        rw [h2] at g1
        cases g1
        subst h1
        refine ⟨.inl ⟨rfl, xs, SqL.of g3⟩, ?_⟩
        refine eE hE1 R1 q1 fun y s2 v H2 μ2 e2 hE2 R2 r2 q2 => ?_
        split at q2
        · rename_i ws q3
          split at q2
          · rename_i hl
            obtain ⟨p'', k1, _, ys, k3, k4⟩ := R2.at n _ q3
            rw [e2.mu _ _ h2] at k1
            cases k1
            refine ⟨p, ys, v, rfl, rfl, k3, by rw [k4.len]; exact Nat.lt_of_lt_of_le hl (lim_ok (Nat.le_refl _)), ?_⟩
            have ev : Evo H2 μ2 (upd H2 p (.lst (ys ++ [v]))) μ2 := Evo.put (e2.mu _ _ h2)
            exact q2 .non _ μ2 ev (R2.put (e2.mu _ _ h2) ⟨_, upd_same, (k4.append (RVs.cons r2 RVs.nil)).mono ev⟩) rfl
          · exact q2.elim
        · exact q2.elim
      · exact q1.elim
    | _ => exact q1.elim
/-- d[k] = e -/
def mDPut (fo fi fv : FE) : FS := fun ρ s => (fv ρ s).thenC ρ fun v s1 => (fo ρ s1).thenC ρ fun x s2 => (fi ρ s2).thenC ρ fun y s3 => match x, keyOf y with
  | .ref n, some k => match s3[n]? with
    | some (.dct kws) => if kws.length < lim then .nx ρ (s3.set n (.dct (putD kws k v))) else .no
    | _ => .no
  | _, _ => .no
theorem map_len {α β γ : Type} {l : List (α × β)} {l' : List (α × γ)} (h : l.map (·.1) = l'.map (·.1)) : l.length = l'.length := by
  have := congrArg List.length h
  rw [List.length_map, List.length_map] at this
  exact this
theorem ms_dput {o i value : Expr} {pos' : Pos} {fo fi fv : FE} (hu : X.A.units + 1 < cLine) (ho : ME X Γ W o fo) (hi : ME X Γ W i fi) (hv : ME X Γ W value fv) (hs : swapsWith value (some (.Subscript o i pos')) pos.line X.env = pure false) :
    MS X Γ W (.Assign [.Subscript o i pos'] value pos) (mDPut fo fi fv) :=
  PS.imp (ps_dput hu ho hi hv hs) fun D σ H ⟨μ, Z, ρ, s, hE, hR, q⟩ => eS hE hR q fun v s1 uv H1 μ1 e1 hE1 R1 r1 q1 => eS hE1 R1 q1 fun x s2 ux H2 μ2 e2 hE2 R2 r2 q2 => eS hE2 R2 q2 fun y s3 uy H3 μ3 e3 hE3 R3 r3 q3 => by
    split at q3
    · rename_i n k hk
      split at q3
      · rename_i kws q0
        split at q3
        · rename_i hl
          obtain ⟨p, h1, h2⟩ := r2.mono e3
          obtain ⟨p', g1, _, kvs, g3, g4, g5⟩ := R3.at n _ q0
          rw [h2] at g1
          cases g1
          have rv := (r1.mono e2).mono e3
          obtain ⟨k1, k2⟩ := putD_ok (k := k) rv g4 g5
          have ev : Evo H3 μ3 (upd H3 p (.dK (putK kvs k uv))) μ3 := Evo.put h2
          refine ⟨p, upd H3 p (.dK (putK kvs k uv)), h1, .inl ⟨kvs, k, g3, keyOf_ok r3 hk, by rw [map_len g4]; exact Nat.lt_of_lt_of_le hl (lim_ok (Nat.le_refl _)), rfl⟩, ?_⟩
          exact q3 σ _ μ3 ev (R3.put h2 ⟨_, upd_same, k1, k2.mono ev⟩) (hE3.mono ev)
        · exact q3.elim
      · exact q3.elim
    · exact q3.elim
end
end MP

set_option Elab.async false
set_option linter.all false
set_option maxRecDepth 100000
set_option maxHeartbeats 4000000
namespace MP
open PySem PySem.Spec PyProof.Rows L2

/-! ### the law's call -/
section
variable {P : Program} {w : World} {Γ : Ct} {mg mb : Str → Option Value} {k : Nat} {fa a : Addr} {fd : FuncData} {x : Str} {den : Fn} {s₁ : Shared} {vs : List Value} {ns : List Int}
theorem law_G (KX : Γ.K.In s₁.heap) (hns : s₁.heap.Ns mainGlobals mg) (hb : s₁.heap.Ns builtinsNs mb) (hbb : ∀ x : Str, x ≠ "__name__" → mb x = bootBuiltins x) (hlim : s₁.heap.NoLimit) (hg : s₁.gens = #[])
    (ha : s₁.heap.get? a = some { cls := .type "list", data := .seq vs.toArray }) (hi : IntsAre vs ns) (hl : ns.length ≤ sizeLine) (hr : Room k callerA)
    (F : ∀ base : Heap, Γ.K.In base → base.Ns mainGlobals mg → FnG P w mg base Γ k fa fd [x] den) (hbind : ∀ (s : Shared) (u : Value), BindsTo s fd ⟨[u], []⟩ [(x, u)])
    (hden : ∃ s', den [.sq (ns.map .int)] [] = .ok (.bl true) s') :
    codeAny (model P w) callerA (.call (.ref fa) ⟨[.ref a], []⟩) (fun r s' => r = .ok (.ret (.bool true)) ∧ OldK s₁.heap s'.heap ∧ s'.os = s₁.os ∧ AllBare s'.gens) s₁ := by
  have rv : Vals (ns.map V.int) vs := vals_ints hi
  have rl := hi.length
  let ob : Obj := { cls := .type "list", data := .seq vs.toArray }
  let tr : HO := .frz ob (.lst (ns.map V.int))
  let H : Hp := fun b => if b = a ∧ Γ.K.lookup a = none then some tr else none
  have Hin : ∀ b o, H b = some o → (b = a ∧ Γ.K.lookup a = none) ∧ o = tr := fun b o e => by
    by_cases c : b = a ∧ Γ.K.lookup a = none
    · have e' : (if b = a ∧ Γ.K.lookup a = none then some tr else none) = some o := e
      rw [if_pos c] at e'
      exact ⟨c, (Option.some.inj e').symm⟩
    · have e' : (if b = a ∧ Γ.K.lookup a = none then some tr else none) = some o := e
      rw [if_neg c] at e'
      cases e'
  have free : ∀ b, ¬ (b = a ∧ Γ.K.lookup a = none) → H b = none := fun b c => if_neg c
  have hok : HOk P w H s₁.heap := fun b o e => by
    obtain ⟨⟨rfl, _⟩, rfl⟩ := Hin b o e
    exact ⟨ha, by rw [List.length_map]; exact hl, vs, _, rv, ha⟩
  let base := hidT s₁.heap H
  have dictIn : ∀ {b : Addr} {m : Str → Option Value}, s₁.heap.Ns b m → base.Ns b m := fun {b m} ⟨o, es, ep, e, d, r⟩ => by
    refine ⟨o, es, ep, hidT_get e (free b fun c => ?_), d, r⟩
    rw [c.1, ha] at e
    cases e
    cases d
  have kIn : Γ.K.In base := fun b o e => hidT_get (KX b o e) (free b fun c => by
    rw [c.1, c.2] at e
    cases e)
  have gM : base.Ns mainGlobals mg := dictIn hns
  have md : Mod Γ.K mg base := ⟨kIn, gM, ⟨mb, dictIn hb, hbb⟩, let ⟨mc, h1, h2⟩ := hlim; ⟨mc, dictIn h1, h2⟩⟩
  have e0 : Env0 P w Γ.K mg base callerA [] s₁ H :=
    { frames := rfl, mod := md, bs := fun b o e => of_hidT e, bsz := Nat.le_of_eq (hidT_size _ _), funs := trivial, frf := fun b hb => (nomatch hb), hok := hok, bare := .of_eq hg }
  obtain ⟨s', hd⟩ := hden
  have rs : RV Γ H (fun _ => none) (fun _ => False) (.sq (ns.map .int)) (.ref a) := by
    refine ⟨a, _, rfl, ?_, RVs.of_ints ns⟩
    cases hk : Γ.K.lookup a with
    | none => exact .inl ⟨.inr ⟨ob, if_pos ⟨rfl, hk⟩⟩, ⟨fun n z => (nomatch z), id⟩⟩
    | some o =>
      have e := KX a o hk
      rw [ha] at e
      cases e
      exact .inr ⟨_, vs.toArray, _, hk, rfl, rfl, rfl, by rw [List.size_toArray, rl]; exact hl, by simpa using rv⟩
  have rep : Rep Γ H (fun _ => none) (fun _ => False) [] := ⟨fun n o e => (by cases e), fun n m b e => (nomatch e), fun n b e => (nomatch e), fun b z => z.elim⟩
  refine codeAny_mono ((F base kIn gM).run callerA [] s₁ H ⟨[.ref a], []⟩ [.ref a] [.ref a] (fun v _ => v = .bl true) (fun _ _ _ => False) hr rfl e0 (hbind s₁ (.ref a)) (.cons rfl .nil)
    ⟨rfl, _, _, _, [.sq (ns.map .int)], rep, RVs.cons rs rfl, by rw [hd]; exact fun v H' μ' _ _ r => r⟩) fun r s2 h => ?_
  cases r with
  | error e =>
    obtain ⟨_, _, _, _, _, _, _, _, _, _, _, _, z⟩ := h
    exact z.elim
  | ok fl =>
    cases fl with
    | next => exact h.elim
    | brk => exact h.elim
    | cont => exact h.elim
    | ret u =>
      obtain ⟨v, H', os, bare, un, hok', rv', q⟩ := h
      obtain rfl : v = .bl true := q
      obtain rfl : u = Value.bool true := rv'
      refine ⟨rfl, OldK.of_keep fun b o e => ?_, os, bare⟩
      cases q : H b with
      | none => exact un.keep b o e q (fun z => nomatch z) (fun z => nomatch z)
      | some u =>
        obtain ⟨⟨rfl, _⟩, rfl⟩ := Hin b u q
        obtain ⟨e2, _⟩ := hok' b _ (un.frzs b ob _ q)
        rw [ha] at e
        cases e
        exact e2
/-- what the head leaves to be shown -/
theorem walk_G {l : PySem.W.OpenLaw} {n k : Nat} {q : Program} {loose : List Str} {XP : (Str → Option Value) → Heap → Prop} {YP : World → Heap → Prop} {d : DefRec} {Kf : Params → PySem.W.Frag} {x : Str} (hn : l.most = some n) (hn2 : n ≤ sizeLine) (hdf : d.params.defaults = []) (hr : Room k callerA)
    (hY : ∀ (w : World) (h : Heap), YP w h → (Kf w.params).In h)
    (F : ∀ (w : World) (mg : Str → Option Value) (fa : Addr) (h : Heap), (Kf w.params).In h → h.Ns mainGlobals mg → mg d.name = some (.ref fa) →
      ∃ (Γ : Ct) (fd : FuncData) (den : Fn), Γ.K = Kf w.params ∧ (∀ (s : Shared) (u : Value), BindsTo s fd ⟨[u], []⟩ [(x, u)]) ∧ (∀ base : Heap, Γ.K.In base → base.Ns mainGlobals mg → FnG l.prog w mg base Γ k fa fd [x] den) ∧
        ∀ ns : List Int, ns.length ≤ n → ∃ s', den [.sq (ns.map .int)] [] = .ok (.bl true) s') :
    PySem.W.WalkO q loose XP YP l.row.toRowW d [] (fun f vs => PySem.call f vs) := by
  refine Att.attach_call hn hdf fun w s₀ s₁ mg mb fa o pm cd doc a vs ns G Y ho hd hcd hmg hobj hints hlen hg => ?_
  have KX := hY w _ Y
  obtain ⟨Γ, fd, den, hK, hb, hF, hden⟩ := F w mg fa _ KX G.T.g hmg
  exact law_G (hK ▸ KX) G.T.g G.T.b G.T.builtins G.T.nolimit hg hobj hints (Nat.le_trans hlen hn2) hr hF hb (hden ns hlen)
end
end MP

set_option Elab.async false
set_option linter.all false
set_option maxRecDepth 100000
set_option maxHeartbeats 4000000
namespace MP
open PySem PySem.Spec PyProof.Rows L2

/-! ### zip and enumerate over lists and tuples in any mix -/
def SqX (K : PySem.W.Frag) (H : Hp) (t : Bool) (a : Addr) (xs : List V) : Prop := if t = true then SqT K H a xs else SqL K H a xs
def ItX (h : Heap) (t : Bool) (it a : Addr) (i : Nat) : Prop := if t = true then h.IsTupleIter it a i else h.IsListIter it a i
def HasX (h : Heap) (t : Bool) (a : Addr) (its : Array Value) : Prop := if t = true then h.IsTuple a its else h.IsList a its
theorem ItX.at {h h' : Heap} {t : Bool} {it a : Addr} {i : Nat} (x : ItX h t it a i) (k : ∀ o, h.get? it = some o → h'.get? it = some o) : ItX h' t it a i := by
  unfold ItX at x ⊢
  cases t with
  | true => rw [if_pos rfl] at x ⊢; exact x.at k
  | false => rw [if_neg Bool.false_ne_true] at x ⊢; exact x.at k
theorem ItX.obj {h : Heap} {t : Bool} {it a : Addr} {i : Nat} (x : ItX h t it a i) : ∃ o, h.get? it = some o ∧ ∀ v, o.data ≠ .cell v := by
  unfold ItX at x
  cases t with
  | true => rw [if_pos rfl] at x; obtain ⟨o, e, _, d⟩ := x; exact ⟨o, e, fun v q => by rw [d] at q; cases q⟩
  | false => rw [if_neg Bool.false_ne_true] at x; obtain ⟨o, e, _, d⟩ := x; exact ⟨o, e, fun v q => by rw [d] at q; cases q⟩
theorem drawsX {prog : Program} {w : World} {A : Around} (hh : A.handled = none) (t : Bool) (it a : Addr) (hne : a ≠ it) (items : Array Value) :
    Draws prog w A it [it, a] items.size (fun i v => items[i]? = some v) (fun i h => ItX h t it a i ∧ HasX h t a items) := by
  unfold ItX HasX
  cases t with
  | true => exact Draws.tuple hh it a hne items
  | false => exact Draws.list hh it a hne items
theorem beginsX (t : Bool) (a : Addr) (items : Array Value) : Begins (.ref a) { cls := .type (if t = true then "tuple_iterator" else "list_iterator"), data := .fields #[.ref a, .int 0 0] } fun h => HasX h t a items := by
  unfold HasX
  cases t with
  | true => exact begins_tuple a items
  | false => exact begins_list a items
theorem SqX.has {X : Cx} {pins : List (Addr × Obj)} {σ : L2.St} {H : Hp} {s : Shared} {t : Bool} {a : Addr} {xs : List V} (I : Inv X pins σ H s) (h : SqX X.K H t a xs) : ∃ its : List Value, Vals xs its ∧ HasX s.heap t a its.toArray ∧ a < s.heap.objs.size := by
  unfold SqX at h
  unfold HasX
  cases t with
  | true =>
    rw [if_pos rfl] at h
    obtain ⟨its, r, p, _⟩ := I.tuple h
    exact ⟨its, r, p, p.lt⟩
  | false =>
    rw [if_neg Bool.false_ne_true] at h
    obtain ⟨its, r, p, _⟩ := I.list h
    exact ⟨its, r, p.isList, p.lt⟩
theorem SqX.inj {X : Cx} {pins : List (Addr × Obj)} {σ : L2.St} {H : Hp} {s : Shared} {t : Bool} {a : Addr} {xs ys : List V} (I : Inv X pins σ H s) (h : SqX X.K H t a xs) (h' : SqX X.K H t a ys) : xs = ys := by
  unfold SqX at h h'
  cases t with
  | true => rw [if_pos rfl] at h h'; exact I.tuple_inj h h'
  | false => rw [if_neg Bool.false_ne_true] at h h'; exact I.list_inj h h'
/-- an iterator of new tuples, by the library's own walk: a turn of ours -/
theorem turn_item {X : Cx} {tg : Expr} {it : Addr} {fp fp' wr : List Addr} {n i : Nat} {Y : Nat → Heap → Value → Heap → Prop} {St tn : Nat → Heap → Prop} {pins : List (Addr × Obj)} {s : Shared} {σ : L2.St} {H : Hp} {E : Value → Shared → Prop} {J : It} (I : Inv X pins σ H s) (hf : ∀ b ∈ fp, FpOk X pins H b) (live : ∀ b ∈ fp, b < s.heap.objs.size)
    (G : GoesN X.prog X.w X.A tg it fp' wr n Y St) (hi : i < n) (hst : St i s.heap) (hw : ∀ b ∈ wr, b ∈ fp) (next : ∀ h', (∀ b o, b ∉ wr → s.heap.get? b = some o → h'.get? b = some o) → St (i + 1) h' → tn (i + 1) h')
    (yl : ∀ v h', Y i s.heap v h' → ∃ T vals us, v = .ref T ∧ s.heap.objs.size ≤ T ∧ h'.IsTuple T us ∧ Vals vals us.toList ∧ vals.length ≤ sizeLine ∧ J.yld i H (.ref T) (upd H T (.tup vals))) :
    wpAny (model X.prog X.w) X.A (pyNext (.ref it)) (fun r s1 => ∃ u, r = some u ∧
      wpAny (model X.prog X.w) X.A (letOwnedTupleGo tg (.ref it) u) (fun _ s2 => ∃ x H', Inv X pins σ H' s2 ∧ RelV x u ∧ J.yld i H x H' ∧ tn (i + 1) s2.heap ∧ ∀ b ∈ fp, H' b = none) E s1) E s := by
  refine G.goes i s (fun u s2 => ∃ x H', Inv X pins σ H' s2 ∧ RelV x u ∧ J.yld i H x H' ∧ tn (i + 1) s2.heap ∧ ∀ b ∈ fp, H' b = none) E hi hst fun v h' tk hY st' hk _ => ?_
  obtain ⟨T, vals, us, rfl, hT, ht, rv, hl, hy⟩ := yl v h' hY
  have new : ObjOk X.prog X.w (upd H T (.tup vals)) h' T (.tup vals) := ⟨hl, us.toList, rv, by rw [Array.toArray_toList]; exact ht⟩
  have J1 : Inv X pins σ (upd H T (.tup vals)) { s with heap := h', toks := tk } := I.turnedNew (ch := fp) (fun b o hb q => hk b o (fun z => hb (hw b z)) q) hf hT new
  refine ⟨.ref T, _, J1, rfl, hy, next h' hk st', fun b hb => ?_⟩
  rw [upd_ne (Nat.ne_of_lt (Nat.lt_of_lt_of_le (live b hb) hT))]
  exact (hf b hb).1
def JZip (K : PySem.W.Frag) (t u : Bool) (a b : Addr) : It :=
  ⟨fun i H => ∃ (xs ys : List V) (x y : V), SqX K H t a xs ∧ SqX K H u b ys ∧ xs[i]? = some x ∧ ys[i]? = some y,
   fun i H v H' => ∃ T x y, v = .ref T ∧ H T = none ∧ H' = upd H T (.tup [x, y]) ∧ (∀ xs, SqX K H t a xs → xs[i]? = some x) ∧ ∀ ys, SqX K H u b ys → ys[i]? = some y,
   fun i H => ∃ xs ys : List V, SqX K H t a xs ∧ SqX K H u b ys ∧ min xs.length ys.length = i⟩
def ZipTn (t u : Bool) (a b : Addr) (N : Nat) (i : Nat) (h : Heap) : Prop := IsZip h (N + 4) (N + 2) (N + 3) .none ∧ IsTupOf2 h (N + 2) (.ref N) (.ref (N + 1)) ∧ (∃ x y, IsTupOf2 h (N + 3) x y) ∧ ItX h t N a i ∧ ItX h u (N + 1) b i
theorem turn_zipX {P : Program} {w : World} {K : PySem.W.Frag} {elts : List Expr} {kk : Nat} {tpos : Pos} {t u : Bool} {a b : Addr} {N : Nat} (la : a < N) (lb : b < N) :
    Turn P w K (.Tuple elts kk tpos) (JZip K t u a b) [N + 4, N + 2, N + 3, N, N + 1] (N + 4) (ZipTn t u a b N) where
  mem := by simp
  obj := fun i h st c hc => by
    obtain ⟨hz, hTI, ⟨x, y, hTO⟩, h1, h2⟩ := st
    have e : c = N + 4 ∨ c = N + 2 ∨ c = N + 3 ∨ c = N ∨ c = N + 1 := by simpa using hc
    rcases e with q | q | q | q | q
    · rw [q]; exact ⟨_, hz, fun v q => nomatch q⟩
    · rw [q]; exact ⟨_, hTI, fun v q => nomatch q⟩
    · rw [q]; exact ⟨_, hTO, fun v q => nomatch q⟩
    · rw [q]; exact h1.obj
    · rw [q]; exact h2.obj
  keep := fun i h h' st k => by
    obtain ⟨hz, hTI, ⟨x, y, hTO⟩, h1, h2⟩ := st
    exact ⟨k _ (by simp) _ hz, k _ (by simp) _ hTI, ⟨x, y, k _ (by simp) _ hTO⟩, h1.at fun o q => k N (by simp) o q, h2.at fun o q => k (N + 1) (by simp) o q⟩
  item := by
    intro X hP hw hK hc i pins s σ H E I hf st hg
    subst hP hw hK
    obtain ⟨xs, ys, x, y, hqx, hqy, hx, hy⟩ := hg
    obtain ⟨its, rv, p, _⟩ := hqx.has I
    obtain ⟨its2, rv2, p2, _⟩ := hqy.has I
    obtain ⟨v1, hv1, r1⟩ := rv.get hx
    obtain ⟨v2, hv2, r2⟩ := rv2.get hy
    have hh : X.A.in1.handled = none := I.ok.hd hc
    have sep := zip_sep2 (N := N) (fp1 := [a]) (fp2 := [b]) (by simpa using la) (by simpa using lb)
    have G := GoesN.zip2 (prog := X.prog) (w := X.w) (A := X.A) (elts := elts) (x1 := kk) (pos := tpos) sep (drawsX hh t N a (Nat.ne_of_lt la) its.toArray) (drawsX hh u (N + 1) b (Nat.ne_of_lt (Nat.lt_succ_of_lt lb)) its2.toArray)
    obtain ⟨hz, hTI, hTO, h1, h2⟩ := id st
    have l1 := (List.getElem?_eq_some_iff.mp hv1).1
    have l2 := (List.getElem?_eq_some_iff.mp hv2).1
    have liveX : ∀ c ∈ [N + 4, N + 2, N + 3, N, N + 1], c < s.heap.objs.size := fun c hc => by
      have hN : N + 4 < s.heap.objs.size := Heap.lt_size hz
      have e : c = N + 4 ∨ c = N + 2 ∨ c = N + 3 ∨ c = N ∨ c = N + 1 := by simpa using hc
      omega
    refine turn_item (tn := ZipTn t u a b N) I hf liveX G (by simp; omega) ⟨hz, hTI, hTO, ⟨h1, p⟩, h2, p2⟩ (fun c hc => by
      have e : c = N + 4 ∨ c = N + 3 ∨ c = N ∨ c = N + 1 := by simpa using hc
      rcases e with q | q | q | q <;> (rw [q]; simp)) (fun h' _ st' => show ZipTn t u a b N (i + 1) h' from ⟨st'.1, st'.2.1, st'.2.2.1, st'.2.2.2.1.1, st'.2.2.2.2.1⟩) fun v h' hY => ?_
    obtain ⟨T, c1, c2, rfl, hT, e1, e2, ht⟩ := hY
    have e1' : its[i]? = some c1 := by simpa using e1
    have e2' : its2[i]? = some c2 := by simpa using e2
    rw [hv1] at e1'
    rw [hv2] at e2'
    cases e1'
    cases e2'
    exact ⟨T, [x, y], #[v1, v2], rfl, hT, ht, .cons r1 (.cons r2 .nil), (show 2 ≤ sizeLine by rw [sizeLine_eq]; decide), T, x, y, rfl, I.hok.fresh hT, rfl, fun l hl => by rw [SqX.inj I hl hqx]; exact hx, fun l hl => by rw [SqX.inj I hl hqy]; exact hy⟩
  done := by
    intro X hP hw hK hc i pins s σ H E I hf st hg
    subst hP hw hK
    obtain ⟨xs, ys, hqx, hqy, hend⟩ := hg
    obtain ⟨its, rv, p, _⟩ := hqx.has I
    obtain ⟨its2, rv2, p2, _⟩ := hqy.has I
    have hh : X.A.in1.handled = none := I.ok.hd hc
    have sep := zip_sep2 (N := N) (fp1 := [a]) (fp2 := [b]) (by simpa using la) (by simpa using lb)
    have G := GoesN.zip2 (prog := X.prog) (w := X.w) (A := X.A) (elts := elts) (x1 := kk) (pos := tpos) sep (drawsX hh t N a (Nat.ne_of_lt la) its.toArray) (drawsX hh u (N + 1) b (Nat.ne_of_lt (Nat.lt_succ_of_lt lb)) its2.toArray)
    obtain ⟨hz, hTI, hTO, h1, h2⟩ := id st
    have l1 := rv.length
    have l2 := rv2.length
    have hn : min its.toArray.size its2.toArray.size = i := by simp; omega
    rw [hn] at G
    exact G.stops s (fun s1 => Inv X pins σ H s1) E ⟨hz, hTI, hTO, ⟨h1, p⟩, h2, p2⟩ fun h' tk hk _ => I.turnedL (ch := [N + 4, N + 2, N + 3, N, N + 1]) (fun c o hb q => hk c o (fun z => hb (by
      have e : c = N + 4 ∨ c = N + 3 ∨ c = N ∨ c = N + 1 := by simpa using z
      rcases e with q | q | q | q <;> (rw [q]; simp))) q) hf
  self := fun A i s Q E st h => wpAny_pyIter_zip st.1 h

def JEnum (K : PySem.W.Frag) (t : Bool) (a : Addr) : It :=
  ⟨fun i H => ∃ (xs : List V) (x : V), SqX K H t a xs ∧ xs[i]? = some x,
   fun i H v H' => ∃ T x, v = .ref T ∧ H T = none ∧ H' = upd H T (.tup [.int (i : Nat), x]) ∧ ∀ xs, SqX K H t a xs → xs[i]? = some x,
   fun i H => ∃ xs : List V, SqX K H t a xs ∧ xs.length = i⟩
def EnumTn (t : Bool) (a : Addr) (N : Nat) (i : Nat) (h : Heap) : Prop := (∃ old, IsEnum h (N + 1) N ((0 : Int) + (i : Int)) old) ∧ ItX h t N a i
theorem turn_enumX {P : Program} {w : World} {K : PySem.W.Frag} {elts : List Expr} {kk : Nat} {tpos : Pos} {t : Bool} {a : Addr} {N : Nat} (la : a < N) :
    Turn P w K (.Tuple elts kk tpos) (JEnum K t a) [N + 1, N] (N + 1) (EnumTn t a N) where
  mem := by simp
  obj := fun i h st c hc => by
    obtain ⟨⟨old, he⟩, h1⟩ := st
    have e : c = N + 1 ∨ c = N := by simpa using hc
    rcases e with q | q
    · rw [q]; exact ⟨_, he, fun v q => nomatch q⟩
    · rw [q]; exact h1.obj
  keep := fun i h h' st k => by
    obtain ⟨⟨old, he⟩, h1⟩ := st
    exact ⟨⟨old, k _ (by simp) _ he⟩, h1.at fun o q => k N (by simp) o q⟩
  item := by
    intro X hP hw hK hc i pins s σ H E I hf st hg
    subst hP hw hK
    obtain ⟨xs, x, hqx, hx⟩ := hg
    obtain ⟨its, rv, p, _⟩ := hqx.has I
    obtain ⟨v1, hv1, r1⟩ := rv.get hx
    have hh : X.A.in1.handled = none := I.ok.hd hc
    have nf : N + 1 ∉ [N, a] := fun m => by
      rcases List.mem_cons.mp m with e | e
      · exact Nat.succ_ne_self N e
      · exact Nat.lt_irrefl a (Nat.lt_trans la ((List.mem_singleton.mp e) ▸ Nat.lt_succ_self N))
    have G := GoesN.enumFrom (prog := X.prog) (w := X.w) (A := X.A) (elts := elts) (x1 := kk) (pos := tpos) 0 (drawsX hh t N a (Nat.ne_of_lt la) its.toArray) (N + 1) (Nat.succ_ne_self N) nf (by simp)
    obtain ⟨⟨old, he⟩, h1⟩ := id st
    have l1 := (List.getElem?_eq_some_iff.mp hv1).1
    have liveX : ∀ c ∈ [N + 1, N], c < s.heap.objs.size := fun c hc => by
      have hN : N + 1 < s.heap.objs.size := Heap.lt_size he
      have e : c = N + 1 ∨ c = N := by simpa using hc
      omega
    refine turn_item (tn := EnumTn t a N) I hf liveX G (by simpa using l1) ⟨⟨old, he⟩, h1, p⟩ (fun c hc => hc) (fun h' _ st' => show EnumTn t a N (i + 1) h' from ⟨st'.1, st'.2.1⟩) fun v h' hY => ?_
    obtain ⟨T, tt, c1, rfl, hT, e1, ht⟩ := hY
    have e1' : its[i]? = some c1 := by simpa using e1
    rw [hv1] at e1'
    cases e1'
    rw [Int.zero_add] at ht
    exact ⟨T, [.int (i : Nat), x], #[.int (i : Nat) tt, v1], rfl, hT, ht, .cons ⟨tt, rfl⟩ (.cons r1 .nil), (show 2 ≤ sizeLine by rw [sizeLine_eq]; decide), T, x, rfl, I.hok.fresh hT, rfl, fun l hl => by rw [SqX.inj I hl hqx]; exact hx⟩
  done := by
    intro X hP hw hK hc i pins s σ H E I hf st hg
    subst hP hw hK
    obtain ⟨xs, hqx, hend⟩ := hg
    obtain ⟨its, rv, p, _⟩ := hqx.has I
    have hh : X.A.in1.handled = none := I.ok.hd hc
    have nf : N + 1 ∉ [N, a] := fun m => by
      rcases List.mem_cons.mp m with e | e
      · exact Nat.succ_ne_self N e
      · exact Nat.lt_irrefl a (Nat.lt_trans la ((List.mem_singleton.mp e) ▸ Nat.lt_succ_self N))
    have G := GoesN.enumFrom (prog := X.prog) (w := X.w) (A := X.A) (elts := elts) (x1 := kk) (pos := tpos) 0 (drawsX hh t N a (Nat.ne_of_lt la) its.toArray) (N + 1) (Nat.succ_ne_self N) nf (by simp)
    obtain ⟨⟨old, he⟩, h1⟩ := id st
    have l1 := rv.length
    have hn : its.toArray.size = i := by simp; omega
    rw [hn] at G
    exact G.stops s (fun s1 => Inv X pins σ H s1) E ⟨⟨old, he⟩, h1, p⟩ fun h' tk hk _ => I.turnedL (ch := [N + 1, N]) (fun c o hb q => hk c o hb q) hf
  self := fun A i s Q E st h => let ⟨⟨_, he⟩, _⟩ := st; wpAny_pyIter_enum he h

/-! ### as walks -/
section
variable {X : Cx} {Γ : Ct} {W : WX}
def iZipG (K : PySem.W.Frag) (ta : TA) : TI := fun σ H R => ta σ H fun vs H1 => ∃ t u a b xs ys, vs = [.ref a, .ref b] ∧ SqX K H1 t a xs ∧ SqX K H1 u b ys ∧ R (JZip K t u a b) H1
theorem pi_zipG {e e2 : Expr} {ta : TA} {p pos tpos : Pos} {elts : List Expr} {kk : Nat} (hg : Gl X "zip") (hm : X.mg "zip" = none) (ha : PA X [e, e2] ta) (hs : starEach [e, e2] X.env = (false, eval e X.env) :: starEach [e2] X.env := by rfl) (hpl : (backTo pos (starEach [e2] X.env)).any (·.1) = false := by rfl) :
    PI X (.Tuple elts kk tpos) (.Call (.Name "zip" p) [e, e2] [] pos) (iZipG X.K ta) := by
  refine ⟨fun pins s σ H R I h => ?_⟩
  refine Call_ (ld_blt I hg hm boot_zip (callWith_type1 (thn (ha.run pos pins s σ H _ I h) fun us s1 ⟨vs, H1, I1, r1, q1⟩ => ?_) hs hpl))
  obtain ⟨t, u, a, b, xs, ys, rfl, hqx, hqy, q⟩ := q1
  obtain ⟨v, us', rfl, rfl⟩ : ∃ v us', us = v :: us' ∧ v = Value.ref a := by cases r1 with | cons r rr => exact ⟨_, _, rfl, r⟩
  obtain ⟨v', rfl, rfl⟩ : ∃ v', us' = [v'] ∧ v' = Value.ref b := by
    cases r1 with
    | cons r rr => cases rr with
      | cons r' rr' => cases rr'; exact ⟨_, rfl, r'⟩
  obtain ⟨its, rv, p1, la⟩ := hqx.has I1
  obtain ⟨its2, rv2, p2, lb⟩ := hqy.has I1
  refine zip_begins2 (beginsX t a its.toArray) (beginsX u b its2.toArray) p1 p2 fun h' hz hTI hTO h1 h2 _ hk => wpAny_pyIter_zip hz ?_
  have I2 : Inv X pins σ H1 { s1 with heap := h' } := I1.kept (t' := s1.toks) hk
  refine ⟨_, [s1.heap.objs.size + 4, s1.heap.objs.size + 2, s1.heap.objs.size + 3, s1.heap.objs.size, s1.heap.objs.size + 1], _, _, H1, rfl, I2, turn_zipX la lb, ⟨hz, hTI, ⟨_, _, hTO⟩, ?_, ?_⟩, fun c hc => ?_, q⟩
  · unfold ItX
    cases t with
    | true => exact ⟨_, h1, rfl, rfl⟩
    | false => exact ⟨_, h1, rfl, rfl⟩
  · unfold ItX
    cases u with
    | true => exact ⟨_, h2, rfl, rfl⟩
    | false => exact ⟨_, h2, rfl, rfl⟩
  · have e' : c = s1.heap.objs.size + 4 ∨ c = s1.heap.objs.size + 2 ∨ c = s1.heap.objs.size + 3 ∨ c = s1.heap.objs.size ∨ c = s1.heap.objs.size + 1 := by simpa using hc
    have hle : s1.heap.objs.size ≤ c := by rcases e' with z | z | z | z | z <;> (rw [z]; first | exact Nat.le_refl _ | exact Nat.le_add_right _ _)
    exact I1.fpOk hle (I1.hok.fresh hle)
def zipD : List Dv → List Dv → List Dv
  | a :: r, b :: t => .tup [a, b] :: zipD r t
  | _, _ => []
theorem zipD_len : ∀ (l m : List Dv), (zipD l m).length = min l.length m.length
  | [], _ => by simp [zipD]
  | _ :: _, [] => by simp [zipD]
  | a :: r, b :: t => by simp [zipD, zipD_len r t]
theorem zipD_get : ∀ {l m : List Dv} {i : Nat} {w : Dv}, (zipD l m)[i]? = some w → ∃ x y, l[i]? = some x ∧ m[i]? = some y ∧ w = .tup [x, y]
  | [], _, _, _, h => by simp [zipD] at h
  | _ :: _, [], _, _, h => by simp [zipD] at h
  | a :: r, b :: t, 0, w, h => by simp [zipD] at h; exact ⟨a, b, rfl, rfl, h.symm⟩
  | a :: r, b :: t, i + 1, w, h => by
    have h' : (zipD r t)[i]? = some w := by simpa [zipD] using h
    obtain ⟨x, y, h1, h2, h3⟩ := zipD_get h'
    exact ⟨x, y, by simpa using h1, by simpa using h2, h3⟩
/-- a plain sequence, not of the store -/
def plainOf : Dv → Option (Bool × List Dv)
  | .tup ws => some (true, ws)
  | .lst ws => some (false, ws)
  | .sq ws => some (false, ws)
  | _ => none
theorem plain_ok {H : Hp} {μ : Mu} {Z : Zs} {w : Dv} {v : V} {t : Bool} {ws : List Dv} (r : RV Γ H μ Z w v) (e : plainOf w = some (t, ws)) : ∃ a xs, v = .ref a ∧ RVs Γ H μ Z ws xs ∧ ∀ H' μ', EvoZ Z H μ H' μ' → SqX Γ.K H' t a xs := by
  cases w with
  | tup us =>
    cases e
    obtain ⟨a, xs, h1, h2, h3⟩ := r
    exact ⟨a, xs, h1, h3, fun H' μ' ev => (h2.monoZ ev).sq⟩
  | sq us =>
    cases e
    obtain ⟨a, xs, h1, h2, h3⟩ := r
    exact ⟨a, xs, h1, h3, fun H' μ' ev => (h2.monoZ ev).sq⟩
  | lst us =>
    cases e
    obtain ⟨a, xs, h1, h2, h3, h4⟩ := r
    exact ⟨a, xs, h1, h4, fun H' μ' ev => SqL.of (ev.keep _ _ h2 h3.1 h3.2)⟩
  | _ => cases e
def iZip2 (fa : FA) : FI := fun ρ s => (fa ρ s).bind fun ws s1 => match ws with
  | [x, y] => match plainOf x, plainOf y with
    | some (_, a), some (_, b) => .ok { ws := zipD a b } s1
    | _, _ => .no
  | _ => .no
theorem mi_zip {e e2 : Expr} {fa : FA} {p pos tpos : Pos} {elts : List Expr} {kk : Nat} (hK : Γ.K = X.K) (hg : Gl X "zip") (hm : X.mg "zip" = none) (ha : MA X Γ W [e, e2] fa) (hs : starEach [e, e2] X.env = (false, eval e X.env) :: starEach [e2] X.env := by rfl) (hpl : (backTo pos (starEach [e2] X.env)).any (·.1) = false := by rfl) :
    MI X Γ W (.Tuple elts kk tpos) (.Call (.Name "zip" p) [e, e2] [] pos) (iZip2 fa) :=
  PI.imp (pi_zipG hg hm ha hs hpl) fun σ H Q ⟨μ, Z, ρ, s, hE, hR, q⟩ => iA hE hR q fun ws s1 vs H1 μ1 e1 E1 R1 r1 q1 => by
    split at q1
    · rename_i x y
      split at q1
      · rename_i t a u b qx qy
        obtain ⟨v, v', rfl, rx, ry⟩ := two r1
        obtain ⟨pa, xs, rfl, r2, k2⟩ := plain_ok rx qx
        obtain ⟨pb, ys, rfl, r3, k3⟩ := plain_ok ry qy
        rw [← hK]
        refine ⟨t, u, pa, pb, xs, ys, rfl, k2 _ _ Evo.refl.z, k3 _ _ Evo.refl.z, q1 _ _ _ .refl R1 fun H' μ' Z' s' ev hR' hy hz _ => ⟨⟨xs, ys, k2 _ _ ev, k3 _ _ ev, by rw [zipD_len, r2.len, r3.len]⟩, fun i w hi => ?_⟩⟩
        obtain ⟨x', y', g1, g2, rfl⟩ := zipD_get hi
        obtain ⟨ux, h1, h2⟩ := r2.get g1
        obtain ⟨uy, h3, h4⟩ := r3.get g2
        refine ⟨⟨xs, ys, ux, uy, k2 _ _ ev, k3 _ _ ev, h1, h3⟩, fun z H'' hq => ?_⟩
        obtain ⟨T, zx, zy, rfl, hT, rfl, j1, j2⟩ := hq
        have e3 := j1 xs (k2 _ _ ev)
        have e4 := j2 ys (k3 _ _ ev)
        rw [h1] at e3
        rw [h3] at e4
        cases e3
        cases e4
        exact ⟨Evo.laid hT, hR'.laid hT, new_tup hR' hT (RVs.cons ((RV.strong hz _ h2).monoZ (ev.more hy)) (RVs.cons ((RV.strong hz _ h4).monoZ (ev.more hy)) RVs.nil))⟩
      · exact q1.elim
    · exact q1.elim
def iEnumG (K : PySem.W.Frag) (ta : TA) : TI := fun σ H R => ta σ H fun vs H1 => ∃ t a xs, vs = [.ref a] ∧ SqX K H1 t a xs ∧ R (JEnum K t a) H1
def enumD : Nat → List Dv → List Dv
  | _, [] => []
  | n, a :: r => .tup [.int (n : Nat), a] :: enumD (n + 1) r
theorem enumD_len : ∀ (n : Nat) (l : List Dv), (enumD n l).length = l.length
  | _, [] => rfl
  | n, a :: r => by simp [enumD, enumD_len (n + 1) r]
theorem enumD_get : ∀ {l : List Dv} {n i : Nat} {w : Dv}, (enumD n l)[i]? = some w → ∃ x, l[i]? = some x ∧ w = .tup [.int ((n + i : Nat) : Int), x]
  | [], _, _, _, h => by simp [enumD] at h
  | a :: r, n, 0, w, h => by simp [enumD] at h; exact ⟨a, rfl, h.symm⟩
  | a :: r, n, i + 1, w, h => by
    have h' : (enumD (n + 1) r)[i]? = some w := by simpa [enumD] using h
    obtain ⟨x, h1, h2⟩ := enumD_get h'
    exact ⟨x, by simpa using h1, by rw [h2]; simp; omega⟩
def iEnum1 (fa : FA) : FI := fun ρ s => (fa ρ s).bind fun ws s1 => match ws with
  | [x] => match plainOf x with
    | some (_, a) => .ok { ws := enumD 0 a } s1
    | none => .no
  | _ => .no
end
end MP

set_option Elab.async false
set_option linter.all false
set_option maxRecDepth 100000
set_option maxHeartbeats 4000000
namespace MP
open PySem PySem.Spec PyProof.Rows L2

theorem enum_new {v : Value} {o : Obj} {Hh : Heap → Prop} (B : Begins v o Hh) : Meets (Builtin.«enumerate.__new__» ⟨[.type "enumerate", v], []⟩) (fun _ R s => Hh s.heap ∧
    R (.ok (.ret (.ref (s.heap.push o).objs.size))) { s with heap := (s.heap.push o).push { cls := .type "enumerate", data := .fields #[.none, .bool false, .ref s.heap.objs.size, rawInt 0, .none, .none] } }) :=
  .of_wp fun prog w A R s h => by
    obtain ⟨hp, g, d, tk, os⟩ := s
    obtain ⟨h1, h⟩ := h
    have hsub := sub_enumerate
    have it : ∀ {A' : Around} {E Q : Value → Shared → Prop}, Q (.ref hp.objs.size) ⟨hp.push o, g, d, tk, os⟩ → wpAny (model prog w) A' (pyIter v) Q E ⟨hp, g, d, tk, os⟩ := fun q => B.iter prog w _ _ ⟨hp, g, d, tk, os⟩ _ h1 q
    wp_walk using it
    refine wpAny_stack_any fun st => wpAny_pure ?_
    split
    · rename_i c _ _ _ _ _
      cases (c == Value.type "enumerate") <;> (wp_walk using it; exact ⟨_, rfl, h⟩)
    · wp_walk using it
      exact ⟨_, rfl, h⟩
section
variable {prog : Program} {w : World} {A : Around} {E : Value → Shared → Prop} {s : Shared}
theorem enum_call {v : Value} {o : Obj} {Hh : Heap → Prop} {Q : Value → Shared → Prop} (B : Begins v o Hh) (h1 : Hh s.heap)
    (h : ∀ h', IsEnum h' (s.heap.objs.size + 1) s.heap.objs.size 0 .none → h'.get? s.heap.objs.size = some o → (∀ b o, s.heap.get? b = some o → h'.get? b = some o) → Q (.ref (s.heap.objs.size + 1)) { s with heap := h' }) :
    wpAny (model prog w) A (call (.type "enumerate") [v]) Q E s := by
  refine callType_new F.called_enumerate (by decide) (F.typeCall_enumerate_1 _) (F.newCall_enumerate_1 _) (fun obj => F.args_object_init_2 obj _) F.entry_enumerate_new (enum_new B) ⟨h1, ?_⟩
  have sz : (s.heap.push o).objs.size = s.heap.objs.size + 1 := Heap.size_push ..
  show _ ∧ _
  rw [sz]
  have e := Heap.get?_push_size (s.heap.push o) (o := { cls := .type "enumerate", data := .fields #[.none, .bool false, .ref s.heap.objs.size, rawInt 0, .none, .none] }) rfl
  rw [sz] at e
  exact ⟨⟨_, e, rfl⟩, h _ e (Heap.get?_push_of_some _ (Heap.get?_push_size _ B.free)) fun b o x => Heap.get?_push_of_some _ (Heap.get?_push_of_some _ x)⟩
end
section
variable {X : Cx} {Γ : Ct} {W : WX}
theorem pi_enumG {e : Expr} {ta : TA} {p pos tpos : Pos} {elts : List Expr} {kk : Nat} (hg : Gl X "enumerate") (hm : X.mg "enumerate" = none) (ha : PA X [e] ta) (hs : starEach [e] X.env = [(false, eval e X.env)] := by rfl) :
    PI X (.Tuple elts kk tpos) (.Call (.Name "enumerate" p) [e] [] pos) (iEnumG X.K ta) := by
  refine ⟨fun pins s σ H R I h => ?_⟩
  refine Call_ (ld_blt I hg hm boot_enumerate (callWith_type1 (thn (ha.run pos pins s σ H _ I h) fun us s1 ⟨vs, H1, I1, r1, q1⟩ => ?_) hs rfl))
  obtain ⟨t, a, xs, rfl, hqx, q⟩ := q1
  obtain ⟨v, rfl, rfl⟩ : ∃ v, us = [v] ∧ v = Value.ref a := by
    cases r1 with
    | cons r rr => cases rr; exact ⟨_, rfl, r⟩
  obtain ⟨its, rv, p1, la⟩ := hqx.has I1
  refine enum_call (beginsX t a its.toArray) p1 fun h' he h1 hk => wpAny_pyIter_enum he ?_
  have I2 : Inv X pins σ H1 { s1 with heap := h' } := I1.kept (t' := s1.toks) hk
  refine ⟨_, [s1.heap.objs.size + 1, s1.heap.objs.size], _, _, H1, rfl, I2, turn_enumX la, ⟨⟨.none, he⟩, ?_⟩, fun c hc => ?_, q⟩
  · unfold ItX
    cases t with
    | true => exact ⟨_, h1, rfl, rfl⟩
    | false => exact ⟨_, h1, rfl, rfl⟩
  · have e' : c = s1.heap.objs.size + 1 ∨ c = s1.heap.objs.size := by simpa using hc
    have hle : s1.heap.objs.size ≤ c := by rcases e' with z | z <;> (rw [z]; first | exact Nat.le_refl _ | exact Nat.le_add_right _ _)
    exact I1.fpOk hle (I1.hok.fresh hle)
theorem mi_enum {e : Expr} {fa : FA} {p pos tpos : Pos} {elts : List Expr} {kk : Nat} (hK : Γ.K = X.K) (hg : Gl X "enumerate") (hm : X.mg "enumerate" = none) (ha : MA X Γ W [e] fa) (hs : starEach [e] X.env = [(false, eval e X.env)] := by rfl) :
    MI X Γ W (.Tuple elts kk tpos) (.Call (.Name "enumerate" p) [e] [] pos) (iEnum1 fa) :=
  PI.imp (pi_enumG hg hm ha hs) fun σ H Q ⟨μ, Z, ρ, s, hE, hR, q⟩ => iA hE hR q fun ws s1 vs H1 μ1 e1 E1 R1 r1 q1 => by
    split at q1
    · rename_i x
      split at q1
      · rename_i t a qx
        obtain ⟨v, rfl, rx⟩ := one r1
        obtain ⟨pa, xs, rfl, r2, k2⟩ := plain_ok rx qx
        rw [← hK]
        refine ⟨t, pa, xs, rfl, k2 _ _ Evo.refl.z, q1 _ _ _ .refl R1 fun H' μ' Z' s' ev hR' hy hz _ => ⟨⟨xs, k2 _ _ ev, by rw [enumD_len, r2.len]⟩, fun i w hi => ?_⟩⟩
        obtain ⟨x', g1, rfl⟩ := enumD_get hi
        obtain ⟨ux, h1, h2⟩ := r2.get g1
        refine ⟨⟨xs, ux, k2 _ _ ev, h1⟩, fun z H'' hq => ?_⟩
        obtain ⟨T, zx, rfl, hT, rfl, j1⟩ := hq
        have e3 := j1 xs (k2 _ _ ev)
        rw [h1] at e3
        cases e3
        rw [Nat.zero_add]
        exact ⟨Evo.laid hT, hR'.laid hT, new_tup hR' hT (RVs.cons (w := .int (i : Nat)) rfl (RVs.cons ((RV.strong hz _ h2).monoZ (ev.more hy)) RVs.nil))⟩
      · exact q1.elim
    · exact q1.elim

/-! ### repr of what stands at an address -/
def disp : Dv → Bool
  | .tup _ => true | .lst _ => true | .sq _ => true | .ref _ => true
  | _ => false
def reprD : ON := fun s xs => match xs with
  | [x] => if disp x = true then match toD s x with
      | some d => if d.showable = true ∧ d.hasDict = false ∧ d.depth ≤ 60 ∧ d.shown.length ≤ lim then some (.str d.shown) else none
      | none => none
    else none
  | _ => none
theorem sRepr (hK : Γ.K = X.K) : OpN Γ (rRepr X.K) reprD := fun H μ Z s xs w vs Q hR rx e k => by
  rw [← hK]
  unfold reprD at e
  split at e
  · rename_i x
    split at e
    · rename_i hd
      split at e
      · rename_i d q
        split at e
        · rename_i hc
          cases e
          obtain ⟨v, rfl, r1⟩ := one rx
          have hv : ∃ a, v = .ref a := by
            cases x with
            | tup _ => obtain ⟨a, _, h, _⟩ := r1; exact ⟨a, h⟩
            | lst _ => obtain ⟨a, _, h, _⟩ := r1; exact ⟨a, h⟩
            | sq _ => obtain ⟨a, _, h, _⟩ := r1; exact ⟨a, h⟩
            | ref _ => obtain ⟨a, h, _⟩ := r1; exact ⟨a, h⟩
            | _ => cases hd
          obtain ⟨a, rfl⟩ := hv
          exact ⟨_, a, d, rfl, rfl, toD_ok hR r1 q, hc.1, hc.2.1, hc.2.2.1, lim_ok hc.2.2.2, k _ H .refl hR rfl⟩
        · cases e
      · cases e
    · cases e
  · cases e

/-! ### sorted(set(t)) of a tuple of ints -/
theorem cr_setT (hc : X.calm = true) : CallR X (.type "set") (fun vs H Q => ∃ (a : Addr) (ns : List Int), vs = [V.ref a] ∧ SqT X.K H a (ns.map V.int) ∧ ns.length ≤ 1000 ∧ ∀ p c, H p = none → c ≤ ns.length → Q (.ref p) (upd H p (SetO X.w p (fun j => decide (j ∈ ns)) c))) := by
  intro pins s σ H vs us Q I r h
  obtain ⟨a, ns, rfl, hs, hl, q⟩ := h
  obtain ⟨its, rv, p, _⟩ := I.tuple hs
  obtain ⟨v, rfl, rfl⟩ : ∃ v, us = [v] ∧ v = Value.ref a := by
    cases r with
    | cons r rr => cases rr; exact ⟨_, rfl, r⟩
  have hsz : ns.length + 1 < scanBound := by
    have : scanBound = 4096 := rfl
    omega
  refine call_set_tupI ns (I.ok.hd hc) p (by simpa using rv.ints) hsz fun h' tk c R hcl hk => ?_
  have hn : H s.heap.objs.size = none := I.hok.fresh (Nat.le_refl _)
  exact ⟨.ref s.heap.objs.size, _, I.laid (t' := tk) hk (Nat.le_refl _) (setO_new R), rfl, q _ c hn hcl⟩
/-- without repeats -/
def ucons (a : Int) (r : List Int) : List Int := match r with
  | [] => [a]
  | b :: t => if a = b then b :: t else a :: b :: t
def usrt (ns : List Int) : List Int := (srt ns).foldr ucons []
theorem usrt_spec : ∀ l : List Int, l.Pairwise (· ≤ ·) → (l.foldr ucons []).Pairwise (· < ·) ∧ ∀ k, k ∈ (l.foldr ucons []) ↔ k ∈ l
  | [], _ => ⟨.nil, fun k => Iff.rfl⟩
  | a :: l, h => by
    obtain ⟨h1, h2⟩ := List.pairwise_cons.mp h
    obtain ⟨i1, i2⟩ := usrt_spec l h2
    rw [List.foldr_cons]
    revert i1 i2
    generalize (l.foldr ucons []) = r
    intro i1 i2
    cases r with
    | nil =>
      refine ⟨by unfold ucons; exact List.pairwise_singleton _ _, fun k => ?_⟩
      unfold ucons
      rw [List.mem_singleton, List.mem_cons, ← i2 k]
      simp
    | cons b t =>
      unfold ucons
      dsimp only
      have hb : a ≤ b := h1 b ((i2 b).mp List.mem_cons_self)
      split
      · rename_i e
        subst e
        refine ⟨i1, fun k => ?_⟩
        rw [List.mem_cons (l := l), ← i2 k, List.mem_cons]
        exact ⟨fun z => .inr z, fun z => z.elim .inl id⟩
      · rename_i e
        refine ⟨List.pairwise_cons.mpr ⟨fun c hc => ?_, i1⟩, fun k => ?_⟩
        · rcases List.mem_cons.mp hc with z | z
          · rw [z]; omega
          · have := (List.pairwise_cons.mp i1).1 c z
            omega
        · rw [List.mem_cons, List.mem_cons (l := l), i2 k]
theorem strict_eq : ∀ {l l' : List Int}, l.Pairwise (· < ·) → l'.Pairwise (· < ·) → (∀ k, k ∈ l ↔ k ∈ l') → l = l'
  | [], [], _, _, _ => rfl
  | [], b :: t, _, _, h => absurd ((h b).mpr List.mem_cons_self) (by simp)
  | a :: r, [], _, _, h => absurd ((h a).mp List.mem_cons_self) (by simp)
  | a :: r, b :: t, h, h', hk => by
    obtain ⟨h1, h2⟩ := List.pairwise_cons.mp h
    obtain ⟨g1, g2⟩ := List.pairwise_cons.mp h'
    have hab : a = b := by
      have ha := (hk a).mp List.mem_cons_self
      have hb := (hk b).mpr List.mem_cons_self
      rcases List.mem_cons.mp ha with e | e
      · exact e
      · rcases List.mem_cons.mp hb with e' | e'
        · exact e'.symm
        · have := h1 b e'
          have := g1 a e
          omega
    subst hab
    rw [strict_eq h2 g2 fun k => ?_]
    constructor
    · intro hm
      rcases List.mem_cons.mp ((hk k).mp (List.mem_cons_of_mem _ hm)) with e | e
      · have := h1 k hm; omega
      · exact e
    · intro hm
      rcases List.mem_cons.mp ((hk k).mpr (List.mem_cons_of_mem _ hm)) with e | e
      · have := g1 k hm; omega
      · exact e
def sortedSetD : ON := fun _ xs => match xs with
  | [.tup ws] => match intsOf ws with
    | some ns => if ns.length ≤ 60 then some (.lst ((usrt ns).map .int)) else none
    | none => none
  | _ => none
theorem me_sortedSet {e : Expr} {fa : FA} {p p2 pos pos2 : Pos} (hK : Γ.K = X.K) (hc : X.calm = true) (hg : Gl X "sorted") (hm : X.mg "sorted" = none) (hg2 : Gl X "set") (hm2 : X.mg "set" = none) (ha : MA X Γ W [e] fa)
    (he : starEach [e] X.env = (false, eval e X.env) :: starEach [] X.env := by rfl) (hpl : (backTo pos2 (starEach [] X.env)).any (·.1) = false := by rfl)
    (he' : starEach [.Call (.Name "set" p2) [e] [] pos2] X.env = (false, eval (.Call (.Name "set" p2) [e] [] pos2) X.env) :: starEach [] X.env := by rfl) (hpl' : (backTo pos (starEach [] X.env)).any (·.1) = false := by rfl) :
    ME X Γ W (.Call (.Name "sorted" p) [.Call (.Name "set" p2) [e] [] pos2] [] pos) (mBlt sortedSetD fa) :=
  PE.imp (pe_callB (cr_sortedSet hc) hg hm (by decide +kernel) (pa_cons (pe_callTy (cr_setT hc) hg2 hm2 (by decide +kernel) ha (by decide) (by decide) he hpl) pa_nil he') (by decide) (by decide) he' hpl') fun σ H Q ⟨μ, Z, ρ, s, hE, hR, q⟩ => by
    refine aE hE hR q fun ws s1 vs H1 μ1 e1 E1 R1 r1 q1 => ?_
    obtain ⟨w, hw, k⟩ := ofE q1
    unfold sortedSetD at hw
    split at hw
    · rename_i us
      split at hw
      · rename_i ns qi
        split at hw
        · rename_i hl
          cases hw
          obtain ⟨v, rfl, a, xs, rfl, h2, h3⟩ := one r1
          rw [intsOf_ok qi] at h3
          have h4 := h3.ints
          subst h4
          refine ⟨a, ns, rfl, hK ▸ h2.sq, by omega, fun p' c hp hcl => ?_⟩
          refine ⟨p', _, c, rfl, upd_same, by omega, fun ns' l hs hmem hlen hn => ?_⟩
          have hne : H1 l = none := by
            by_cases z : l = p'
            · rw [z]; exact hp
            · rw [upd_ne z] at hn; exact hn
          have eq : ns' = usrt ns := by
            obtain ⟨u1, u2⟩ := usrt_spec (srt ns) (srt_sorted ns)
            refine strict_eq hs u1 fun k => ?_
            rw [hmem k]
            exact decide_eq_true_iff.trans ((srt_perm ns).mem_iff.symm.trans (u2 k).symm)
          rw [eq]
          have R2 := R1.laid (o := SetO X.w p' (fun j => decide (j ∈ ns)) c) hp
          exact k _ _ ((Evo.laid hp).trans (Evo.laid hn)) (R2.laid hn) (new_lst R2 hn (RVs.of_ints _))
        · cases hw
      · cases hw
    · cases hw

/-! ### dict displays -/
def mPairs : List (FE × FE) → Env → Sto → R (List (Dv × Dv))
  | [], _, s => .ok [] s
  | (f, g) :: r, ρ, s => (f ρ s).bind fun x s1 => (g ρ s1).bind fun y s2 => (mPairs r ρ s2).bind fun ps s3 => .ok ((x, y) :: ps) s3
def keysOf : List (Dv × Dv) → Option (List (Key × Dv))
  | [] => some []
  | (x, y) :: r => match keyOf x, keysOf r with
    | some k, some l => some ((k, y) :: l)
    | _, _ => none
def mDctM (ps : List (FE × FE)) : FE := fun ρ s => match mPairs ps ρ s with
  | .ok l s1 => match keysOf l with
    | some kws => if kws.length ≤ 15 then .ok (.ref s1.length) (s1 ++ [.dct (kws.foldl (fun acc kv => putD acc kv.1 kv.2) [])]) else .no
    | none => .no
  | _ => .no

theorem pairs_ok {Z : Zs} {σ : L2.St} {ρ : Env} : ∀ {ps : List (FE × FE)} {H : Hp} {μ : Mu} {s s' : Sto} {l : List (Dv × Dv)} {Q' : List (V × V) → Hp → Prop}, RE Γ H μ Z ρ σ → Rep Γ H μ Z s → mPairs ps ρ s = .ok l s' →
    (∀ vs H1 μ1, Evo H μ H1 μ1 → Rep Γ H1 μ1 Z s' → RVs Γ H1 μ1 Z (l.map (·.1)) (vs.map (·.1)) → RVs Γ H1 μ1 Z (l.map (·.2)) (vs.map (·.2)) → Q' vs H1) →
    tPairs (ps.map fun p => (rdE Γ W p.1, rdE Γ W p.2)) σ H Q'
  | [], H, μ, s, s', l, Q', hE, hR, q, hk => by
    cases q
    exact hk [] H μ .refl hR rfl rfl
  | (f, g) :: r, H, μ, s, s', l, Q', hE, hR, q, hk => by
    simp only [mPairs] at q
    cases e1 : f ρ s with
    | no => rw [e1] at q; cases q
    | er x s1 => rw [e1] at q; cases q
    | ok x s1 =>
      rw [e1] at q
      dsimp only [R.bind] at q
      cases e2 : g ρ s1 with
      | no => rw [e2] at q; cases q
      | er y s2 => rw [e2] at q; cases q
      | ok y s2 =>
        rw [e2] at q
        dsimp only at q
        cases e3 : mPairs r ρ s2 with
        | no => rw [e3] at q; cases q
        | er y s2 => rw [e3] at q; cases q
        | ok l' s3 =>
          rw [e3] at q
          cases q
          refine ⟨μ, Z, ρ, s, hE, hR, ?_⟩
          show PostE Γ W H μ Z σ _ (f ρ s)
          rw [e1]
          intro u H1 μ1 v1 R1 r1
          refine ⟨μ1, Z, ρ, s1, hE.mono v1, R1, ?_⟩
          show PostE Γ W H1 μ1 Z σ _ (g ρ s1)
          rw [e2]
          intro v H2 μ2 v2 R2 r2
          exact pairs_ok ((hE.mono v1).mono v2) R2 e3 fun vs H3 μ3 v3 R3 g1 g2 => hk ((u, v) :: vs) H3 μ3 ((v1.trans v2).trans v3) R3 (RVs.cons ((r1.mono v2).mono v3) g1) (RVs.cons (r2.mono v3) g2)
theorem keysOf_ok {H : Hp} {μ : Mu} {Z : Zs} : ∀ {l : List (Dv × Dv)} {vs : List (V × V)} {kws : List (Key × Dv)}, RVs Γ H μ Z (l.map (·.1)) (vs.map (·.1)) → RVs Γ H μ Z (l.map (·.2)) (vs.map (·.2)) → keysOf l = some kws →
    ∃ kvs : List (Key × V), vs = kvs.map (fun kv => (kV kv.1, kv.2)) ∧ kvs.map (·.1) = kws.map (·.1) ∧ RVs Γ H μ Z (kws.map (·.2)) (kvs.map (·.2))
  | [], vs, _, h1, _, e => by
    cases e
    cases vs with
    | nil => exact ⟨[], rfl, rfl, rfl⟩
    | cons _ _ => cases h1
  | (x, y) :: l, vs, kws, h1, h2, e => by
    cases vs with
    | nil => obtain ⟨_, _, z, _⟩ := h1; cases z
    | cons p vs =>
      obtain ⟨u, us, z1, r1, r2⟩ := h1
      obtain ⟨v, ws, z2, r3, r4⟩ := h2
      obtain ⟨a1, a2⟩ := List.cons.inj z1
      obtain ⟨b1, b2⟩ := List.cons.inj z2
      simp only [keysOf] at e
      split at e
      · rename_i k l' e1 e2
        cases e
        obtain ⟨kvs, c1, c2, c3⟩ := keysOf_ok (a2 ▸ r2) (b2 ▸ r4) e2
        refine ⟨(k, v) :: kvs, ?_, by rw [List.map_cons, List.map_cons, c2], RVs.cons r3 c3⟩
        rw [List.map_cons, ← c1]
        have p1 : p.1 = u := a1
        have p2 : p.2 = v := b1
        show p :: vs = (kV k, v) :: vs
        rw [← keyOf_ok r1 e1, ← p1, ← p2]
      · cases e
theorem merge_ok {H : Hp} {μ : Mu} {Z : Zs} : ∀ {kws acc : List (Key × Dv)} {kvs bcc : List (Key × V)}, kvs.map (·.1) = kws.map (·.1) → RVs Γ H μ Z (kws.map (·.2)) (kvs.map (·.2)) → bcc.map (·.1) = acc.map (·.1) → RVs Γ H μ Z (acc.map (·.2)) (bcc.map (·.2)) →
    (mergeK bcc kvs).map (·.1) = (kws.foldl (fun acc kv => putD acc kv.1 kv.2) acc).map (·.1) ∧ RVs Γ H μ Z ((kws.foldl (fun acc kv => putD acc kv.1 kv.2) acc).map (·.2)) ((mergeK bcc kvs).map (·.2))
  | [], acc, kvs, bcc, h1, _, h3, h4 => by
    cases kvs with
    | nil => exact ⟨h3, h4⟩
    | cons _ _ => cases h1
  | p :: kws, acc, kvs, bcc, h1, h2, h3, h4 => by
    cases kvs with
    | nil => cases h1
    | cons q kvs =>
      obtain ⟨a1, a2⟩ := List.cons.inj h1
      obtain ⟨v, vs, z, r1, r2⟩ := h2
      obtain ⟨b1, b2⟩ := List.cons.inj z
      subst b1
      have a1' : q.1 = p.1 := a1
      obtain ⟨c1, c2⟩ := putD_ok (k := p.1) r1 h3 h4
      have := merge_ok (kws := kws) (acc := putD acc p.1 p.2) (kvs := kvs) (bcc := putK bcc p.1 q.2) a2 (b2 ▸ r2) c1 c2
      show (mergeK (putK bcc q.1 q.2) kvs).map (·.1) = _ ∧ RVs Γ H μ Z _ ((mergeK (putK bcc q.1 q.2) kvs).map (·.2))
      rw [a1']
      exact this
theorem ext_fz {μ : Mu} {Z : Zs} {n : Nat} {p a : Addr} (f : Fz μ (hid p Z) a) : Fz (MP.ext μ n p) Z a := ⟨fun m h => by
  unfold MP.ext at h
  split at h
  · cases h; exact f.2 (.inl rfl)
  · exact f.1 m h, fun z => f.2 (.inr z)⟩
theorem ext_mu {μ : Mu} {n m : Nat} {p a : Addr} (hn : μ n = none) (h : μ m = some a) : MP.ext μ n p m = some a := by
  unfold MP.ext
  rw [if_neg fun z => by rw [z, hn] at h; cases h]
  exact h
mutual
theorem RV.adopt {H : Hp} {μ : Mu} {Z : Zs} {n : Nat} {p : Addr} (hn : μ n = none) : ∀ (w : Dv) {v : V}, RV Γ H μ (hid p Z) w v → RV Γ H (MP.ext μ n p) Z w v
  | .non, _, q => q
  | .bl _, _, q => q
  | .int _, _, q => q
  | .str _, _, q => q
  | .ty _, _, q => q
  | .cl _, _, q => q
  | .ref n, _, q => by
    obtain ⟨a, h1, h2⟩ := q
    exact ⟨a, h1, ext_mu hn h2⟩
  | .tup ws, _, q => by
    obtain ⟨a, xs, h1, h2, h3⟩ := q
    exact ⟨a, xs, h1, h2.elim (fun z => .inl ⟨z.1, ext_fz z.2⟩) .inr, RVs.adopt hn ws h3⟩
  | .sq ws, _, q => by
    obtain ⟨a, xs, h1, h2, h3⟩ := q
    exact ⟨a, xs, h1, h2.elim (fun z => .inl ⟨z.1, ext_fz z.2⟩) .inr, RVs.adopt hn ws h3⟩
  | .lst ws, _, q => by
    obtain ⟨a, xs, h1, h2, h3, h4⟩ := q
    exact ⟨a, xs, h1, h2, ext_fz h3, RVs.adopt hn ws h4⟩
  | .dct ks ws, _, q => by
    obtain ⟨a, kvs, h1, h2, h3, h4, h5⟩ := q
    exact ⟨a, kvs, h1, h2, ext_fz h3, h4, RVs.adopt hn ws h5⟩
  | .exc c f w, _, q => by
    obtain ⟨a, dx, x, h1, h2, h3, h4, h5, h6⟩ := q
    exact ⟨a, dx, x, h1, h2, ext_fz h3, h4, ext_fz h5, RV.adopt hn w h6⟩
  | .exn c, _, q => by
    obtain ⟨a, h1, h2, h3⟩ := q
    exact ⟨a, h1, h2, ext_fz h3⟩
  | .clo a c _ ws vs, _, q => by
    obtain ⟨h1, h2, h3, h4⟩ := q
    exact ⟨h1, h2, ext_fz h3, RVs.adopt hn ws h4⟩
theorem RVs.adopt {H : Hp} {μ : Mu} {Z : Zs} {n : Nat} {p : Addr} (hn : μ n = none) : ∀ (ws : List Dv) {vs : List V}, RVs Γ H μ (hid p Z) ws vs → RVs Γ H (MP.ext μ n p) Z ws vs
  | [], _, q => q
  | w :: ws, _, q => by
    obtain ⟨x, xs, h1, h2, h3⟩ := q
    exact ⟨x, xs, h1, RV.adopt hn w h2, RVs.adopt hn ws h3⟩
end
theorem RO.adopt {H : Hp} {μ : Mu} {Z : Zs} {n : Nat} {p a : Addr} {ob : Ob} (hn : μ n = none) (r : RO Γ H μ (hid p Z) a ob) : RO Γ H (MP.ext μ n p) Z a ob := by
  cases ob with
  | lst ws =>
    obtain ⟨xs, h4, h5⟩ := r
    exact ⟨xs, h4, h5.adopt hn⟩
  | dct kws =>
    obtain ⟨kvs, h4, h5, h6⟩ := r
    exact ⟨kvs, h4, h5, h6.adopt hn⟩
  | tab m q => exact ⟨r.1, tab_imp rfl (fun c e1 e2 => ⟨e1, ext_fz e2⟩) r.2⟩
/-- what was hidden becomes an object of the store -/
theorem Rep.adoptO {H : Hp} {μ : Mu} {Z : Zs} {s : Sto} {D : Addr} {ob : Ob} (R : Rep Γ H μ (hid D Z) s) (hz : ¬ Z D) (ro : RO Γ H μ (hid D Z) D ob) : Rep Γ H (MP.ext μ s.length D) Z (s ++ [ob]) := by
  have nm := R.mu_new
  have noD : ∀ {m : Nat} {a : Addr}, μ m = some a → a ≠ D := fun h e => R.notZ h (.inl e)
  refine ⟨fun n o' q => ?_, fun n m a h1 h2 => ?_, fun n a h => ?_, fun a z => R.za a (.inr z)⟩
  · by_cases hn : n = s.length
    · subst hn
      rw [List.getElem?_append_right (Nat.le_refl _)] at q
      simp at q
      subst q
      exact ⟨D, by unfold MP.ext; rw [if_pos rfl], hz, ro.adopt nm⟩
    · have hl : n < s.length := by
        have := (List.getElem?_eq_some_iff.mp q).1
        rw [List.length_append, List.length_singleton] at this
        omega
      rw [List.getElem?_append_left hl] at q
      obtain ⟨a, h1, h2, h3⟩ := R.at n o' q
      exact ⟨a, ext_mu nm h1, fun z => h2 (.inr z), h3.adopt nm⟩
  · unfold MP.ext at h1 h2
    split at h1 <;> split at h2
    · rename_i e1 e2; rw [e1, e2]
    · cases h1; exact absurd rfl (noD h2)
    · cases h2; exact absurd rfl (noD h1)
    · exact R.inj _ _ _ h1 h2
  · unfold MP.ext at h
    rw [List.length_append, List.length_singleton]
    split at h
    · omega
    · have := R.dom _ _ h
      omega
theorem Evo.adopt {H H1 : Hp} {μ μ1 : Mu} {n : Nat} {p : Addr} (e : Evo H μ H1 μ1) (hp : H p = none) (hn : μ1 n = none) : Evo H μ H1 (MP.ext μ1 n p) :=
  ⟨e.keep, fun m a h => ext_mu hn (e.mu m a h), fun m a h => by
    unfold MP.ext at h
    split at h
    · cases h; exact .inr hp
    · exact e.new m a h, e.stay⟩
theorem me_dctM {pos : Pos} {keys : List (Option Expr)} {values : List Expr} {ps : List (FE × FE)} (h : PPs X pos keys values (ps.map fun p => (rdE Γ W p.1, rdE Γ W p.2))) (hall : keys.all (·.isSome) = true) (hl : keys.length = values.length) (h0 : keys ≠ []) (h15 : keys.length ≤ 15) :
    ME X Γ W (.Dict keys values pos) (mDctM ps) :=
  PE.imp (pe_disp h hall hl h0 h15) fun σ H Q ⟨μ, Z, ρ, s, hE, hR, q⟩ p hp => by
    unfold mDctM at q
    cases e : mPairs ps ρ s with
    | no => rw [e] at q; exact q.elim
    | er x s1 => rw [e] at q; exact q.elim
    | ok l s1 =>
      rw [e] at q
      dsimp only at q
      split at q
      · rename_i kws ek
        split at q
        · rename_i h15'
          refine pairs_ok (hE.hide hp) (hR.hide hp) e fun vs H1 μ1 ev R1 g1 g2 => ?_
          obtain ⟨kvs, c1, c2, c3⟩ := keysOf_ok g1 g2 ek
          have hH : H1 p = some (.dK []) := ev.keep p _ upd_same fun n hn => hR.alive hn hp
          refine ⟨hH, kvs, c1, by rw [map_len c2]; exact h15', ?_⟩
          obtain ⟨d1, d2⟩ := merge_ok (Γ := Γ) (H := upd H1 p (.dK (mergeK [] kvs))) (μ := μ1) (Z := hid p Z) (acc := []) (bcc := []) c2 (RVs.updZ _ c3) rfl rfl
          have R2 : Rep Γ (upd H1 p (.dK (mergeK [] kvs))) μ1 (hid p Z) s1 := R1.updZ
          have nz : ¬ Z p := fun z => hR.za p z hp
          have e0 : Evo H μ (upd H1 p (.dK (mergeK [] kvs))) μ1 := ((Evo.laid hp).trans ev).hid hp
          exact q (.ref p) _ _ (e0.adopt hp R1.mu_new) (R2.adoptO nz ⟨_, upd_same, d1, d2⟩) ⟨p, rfl, by unfold MP.ext; rw [if_pos rfl]⟩
        · exact q.elim
      · exact q.elim
/-- a comprehension whose list will be changed -/
theorem me_compM {elt tg iter : Expr} {ifs : List Expr} {scope : Scope} {own : List (Str × Nat)} {pos : Pos} {f : FI} {g : TG} {fg : FG} {tt : FT} {fe : FE} (hc : X.calm = true) (hN : X.N.Nodup) (hi : MI X Γ W tg iter f) (ok : BlkOk X.N X.env.scope scope own)
    (hg : ∀ (s : Shared) (H : Hp) (C : Addr) (cl : List (Str × Addr)) (fp : List Addr), PG (X.blk s H scope (compEnvC scope cl C X.env) fp) tg g) (hw : GWk Γ g fg (own.map (·.2)))
    (ht : ∀ (s : Shared) (H : Hp) (C : Addr) (cl : List (Str × Addr)) (fp : List Addr), MTs (X.blk s H scope (compEnvC scope cl C X.env) fp) Γ ifs tt)
    (he : ∀ (s : Shared) (H : Hp) (C : Addr) (cl : List (Str × Addr)) (fp : List Addr), ME (X.blk s H scope (compEnvC scope cl C X.env) fp) Γ W0 elt fe) (hs : ∀ x, foldedSetIterable iter X.env x = pure x := by intro _; rfl) :
    ME X Γ W (.ListComp elt [⟨tg, iter, ifs, 0⟩] scope pos) (mCompM f (own.map (·.2)) fg tt fe) :=
  PE.imp (pe_lc hc hN hi ok hg ht he hs) fun σ H Q ⟨μ, Z, ρ, s, hE, hR, q⟩ => iE hE hR q fun r s1 J H1 μ1 e1 E1 R1 w1 q1 D hD => by
    cases e : compL r.ow (own.map (·.2)) fg tt fe ρ r.ws s1 with
    | none => rw [e] at q1; exact q1.elim
    | some p =>
      obtain ⟨tot, s2⟩ := p
      rw [e] at q1
      dsimp only at q1
      split at q1
      · rename_i hl
        exact comp_ok hw E1 R1 w1 hD e hl fun H2 μ2 acc ev R2 hH ra => q1 (.ref D) H2 _ (ev.adopt hD R2.mu_new) (R2.adoptO (fun z => R1.za D z hD) ⟨acc, hH, ra⟩) ⟨D, rfl, by unfold MP.ext; rw [if_pos rfl]⟩
      · exact q1.elim
end
end MP

set_option Elab.async false
set_option linter.all false
set_option maxRecDepth 100000
set_option maxHeartbeats 4000000
namespace MP
open PySem PySem.Spec PyProof.Rows L2

section
variable {X : Cx} {Γ : Ct} {W : WX} {a b c e : Expr} {f g h h' : FE} {pos : Pos} {x y : Str} {i j : Nat}
/-- a < b < c as a test -/
theorem mt_chain {op op' : CmpOp} {r r' : R2} {o o' : O2} (ho : OpR X (compareOp op) r) (ho' : OpR X (compareOp op') r') (hs : Op2 Γ r o) (hs' : Op2 Γ r' o') (hm : lastMarks [op, op'] [b, c] = false)
    (ha : ME X Γ W a f) (hb : ME X Γ W b g) (hc : ME X Γ W c h') : MT X Γ W (.Compare a [op, op'] [b, c] pos) (mTest (mChain o o' f g h')) := by
  have key : ∀ σ H (Q : VK), rdE Γ W (mChain o o' f g h') σ H Q → tChain r r' (rdE Γ W f) (rdE Γ W g) (rdE Γ W h') σ H Q := fun σ H Q ⟨μ, Z, ρ, s, hE, hR, q⟩ => eE hE hR q fun x s1 u H1 μ1 e1 hE1 R1 r1 q1 => eE hE1 R1 q1 fun y s2 v H2 μ2 e2 hE2 R2 r2 q2 => by
    cases hw : o s2 x y with
    | none => rw [hw] at q2; exact q2.elim
    | some w =>
      rw [hw] at q2
      refine hs H2 μ2 Z s2 x y w u v _ R2 (r1.mono e2) r2 hw fun z H3 e3 R3 r3 => ?_
      cases w with
      | bl k =>
        refine ⟨k, r3, ?_⟩
        cases k with
        | true =>
          rw [if_pos rfl]
          exact eE (hE2.mono e3) R3 (PostE.evo e3 q2) fun z' s3 v3 H4 μ4 e4 hE4 R4 r4 q4 => by
            obtain ⟨w', hw', k'⟩ := ofE q4
            exact hs' H4 μ4 Z s3 y z' w' v v3 Q R4 ((r2.mono e3).mono e4) r4 hw' k'
        | false =>
          rw [if_neg Bool.false_ne_true]
          exact okE R3 (w := .bl false) rfl (PostE.evo e3 q2)
      | _ => exact q2.elim
  refine PT.imp (pt_chain ho ho' ha hb hc hm) fun σ H Q ⟨μ, Z, ρ, s, hE, hR, q⟩ => key σ H _ ?_
  refine ⟨μ, Z, ρ, s, hE, hR, ?_⟩
  have q' : PostT Γ W H μ Z σ Q ((mChain o o' f g h' ρ s).bind fun x s1 => match x with
      | .bl b => .ok b s1
      | _ => .no) := q
  revert q'
  cases mChain o o' f g h' ρ s with
  | ok w s1 =>
    intro q' v H' μ' ev R' rv
    cases w with
    | bl b => exact ⟨b, rv, okT R' (PostT.evo ev q')⟩
    | _ => exact q'.elim
  | er x s1 => exact id
  | no => exact id

/-! ### two names at once -/
def mPar (i j : Nat) (fa : FA) : FS := fun ρ s => (fa ρ s).thenC ρ fun ws s1 => match ws with
  | [v, w] => .nx ((ρ.set i (some v)).set j (some w)) s1
  | _ => .no
theorem ms_par {px py pt : Pos} {kt k2 pt2} {fa : FA} (hc : X.calm = true) (hN : X.N.Nodup) (hi : X.N[i]? = some x) (hj : X.N[j]? = some y) (hij : i ≠ j)
    (hx : X.env.scope.names.lookup x = some .local) (hy : X.env.scope.names.lookup y = some .local) (ha : MA X Γ W [a, b] fa)
    (hw : swappedStores [.Tuple [.Name x px, .Name y py] kt pt] (.Tuple [a, b] k2 pt2) X.env = pure (some [x, y]))
    (hs : swapsWithSole [.Tuple [.Name x px, .Name y py] kt pt] (.Tuple [a, b] k2 pt2) pos.line X.env = pure false := by rfl) :
    MS X Γ W (.Assign [.Tuple [.Name x px, .Name y py] kt pt] (.Tuple [a, b] k2 pt2) pos) (mPar i j fa) :=
  PS.imp (ps_par hc hN hi hj hij hx hy ha hw hs) fun D σ H ⟨μ, Z, ρ, s, hE, hR, q⟩ => aS hE hR q fun ws s1 vs H1 μ1 ev E1 R1 r1 q1 => by
    match ws, q1, r1 with
    | [v, w], q1, r1 =>
      obtain ⟨x1, xs, rfl, ra, rb⟩ := r1
      obtain ⟨x2, xs, rfl, rb, rfl⟩ := rb
      exact ⟨x1, x2, rfl, q1 _ H1 μ1 .refl R1 ((E1.set i ra).set j rb)⟩
    | [], q1, _ => exact q1.elim
    | [_], q1, _ => exact q1.elim
    | _ :: _ :: _ :: _, q1, _ => exact q1.elim

/-! ### what is never come to -/
def mStuck : FS := fun _ _ => .no
theorem ms_stuck {st : Stmt} : MS X Γ W st mStuck := PS.imp ps_never fun D σ H ⟨μ, Z, ρ, s, hE, hR, q⟩ => q.elim
theorem mb_stuck {sts : List Stmt} : MB X Γ W sts mStuck := PSs.imp pss_never fun D σ H ⟨μ, Z, ρ, s, hE, hR, q⟩ => q.elim

theorem tk0 {X : Cx} : Takes X W0 := fun u s' ⟨_, _, _, _, _, _, _, _, _, _, _, _, _, _, _, _, w⟩ => w.elim
theorem me_globJ {x : Str} {i : Int} {pos : Pos} (hg : Gl X x) (hm : ∃ t, X.mg x = some (.int i t)) (hd : (x == ("__debug__" : Str)) = false := by decide) : ME X Γ W (.Name x pos) (mK (.int i)) := by
  obtain ⟨t, h⟩ := hm
  exact me_globI hg h hd
theorem go_name {i : Nat} : GOk Γ (gName i) (gN i) := fun H μ Z ρ ρ' s σ w v Q hE hR r e k => by
  cases e
  exact k _ (hE.set i r)
theorem ms_set {i : Nat} {x : Str} {pos' : Pos} (hN : X.N.Nodup) (hi : X.N[i]? = some x) (hx : Loc X.env.scope x) (he : ME X Γ W e f) (hs : swapsWith e (some (.Name x pos')) pos.line X.env = pure false := by rfl) (hf : X.fn x = true ∨ X.env.scope.names.lookup x = some .local := by first | exact .inl rfl | exact .inr rfl | assumption) :
    MS X Γ W (.Assign [.Name x pos'] e pos) (mAsg f (gN i)) := ms_asg (ps_set hN hi hx he hs hf) go_name
theorem mgs_cons' {tg : Expr} {tgs : List Expr} {g : TG} {gs : TGs} {fg : FG} {fgs : List Dv → Env → Sto → Option Env} (h1 : MG X Γ tg g fg) (h2 : MGs X Γ tgs gs fgs)
    (hs : (assignEach (tg :: tgs) X.env).map (·.2) = assign tg X.env :: (assignEach tgs X.env).map (·.2) := by rfl) : MGs X Γ (tg :: tgs) (gCons g gs) (gsC fg fgs) := mgs_cons h1 h2 (pgs_cons h1.1 h2.1 hs)
theorem mg_tup' {tgs : List Expr} {kk n : Nat} {gs : TGs} {fgs : List Dv → Env → Sto → Option Env} (hK : Γ.K = X.K) (hc : X.calm = true) (h : MGs X Γ tgs gs fgs)
    (hn : (assignEach tgs X.env).length = n := by rfl) (hst : (assignEach tgs X.env).findIdx? (·.1) = none := by rfl) : MG X Γ (.Tuple tgs kk pos) (gTup X.K n gs) (gT n fgs) := mg_tup hK.symm (pg_tup hc h.1 hn hst) h.2
theorem ms_setT {tg e : Expr} {g : TG} {fg : FG} (he : ME X Γ W e f) (hg : MG X Γ tg g fg) (hs : swapsWithSole [tg] e pos.line X.env = pure false := by rfl) (hw : swappedStores [tg] e X.env = pure none := by rfl)
    (h1 : (assignEach [tg] X.env).map (·.2) = [assign tg X.env] := by rfl) : MS X Γ W (.Assign [tg] e pos) (mAsg f fg) := ms_asg (ps_asg he hg.1 hs hw h1) hg.2

/-! ### how many -/
def FA.Len (fa : FA) (n : Nat) : Prop := ∀ ρ s ws s', fa ρ s = .ok ws s' → ws.length = n
theorem len_nil : FA.Len mNil 0 := fun ρ s ws s' q => by cases q; rfl
theorem len_cons {fa : FA} {n : Nat} (q : fa.Len n) : FA.Len (mCons f fa) (n + 1) := fun ρ s ws s' p => by
  unfold mCons at p
  cases h1 : f ρ s with
  | ok w s1 =>
    rw [h1] at p
    have p2 : (fa ρ s1).bind (fun xs s2 => R.ok (w :: xs) s2) = .ok ws s' := p
    cases h2 : fa ρ s1 with
    | ok xs s2 =>
      rw [h2] at p2
      cases p2
      rw [List.length_cons, q ρ s1 xs _ h2]
    | er z s2 => rw [h2] at p2; cases p2
    | no => rw [h2] at p2; cases p2
  | er z s1 => rw [h1] at p; cases p
  | no => rw [h1] at p; cases p
end

/-! ### a def that may be called -/
/-- what a call of x must know -/
def Cal (P : Program) (w : World) (mg : Str → Option Value) (base : Heap) (Γ : Ct) (k : Nat) (x : Str) (ps : List Str) (den : Fn) : Prop :=
  ∃ (f : Addr) (fd : FuncData), FnG P w mg base Γ k f fd ps den ∧ mg x = some (.ref f) ∧ PySem.W.keepIn Γ.K (.ref f) = true ∧ Binds Γ.K fd ps []
section
variable {X : Cx} {Γ : Ct} {W : WX} {k k' : Nat} {ps : List Str} {den : Fn} {x : Str} {p pos : Pos} {e : Expr} {es : List Expr} {fa : FA}
theorem FnG.up {P : Program} {w : World} {mg : Str → Option Value} {base : Heap} {f : Addr} {fd : FuncData} (hk : k ≤ k') (F : FnG P w mg base Γ k f fd ps den) : FnG P w mg base Γ k' f fd ps den :=
  ⟨fun A outer s H args us vs Q E room => F.run A outer s H args us vs Q E (room.mono hk)⟩
theorem Cal.up {P : Program} {w : World} {mg : Str → Option Value} {base : Heap} (hk : k ≤ k') (F : Cal P w mg base Γ k x ps den) : Cal P w mg base Γ k' x ps den := by
  obtain ⟨f, fd, h1, h2⟩ := F
  exact ⟨f, fd, h1.up hk, h2⟩
theorem me_cal (C : Cal X.prog X.w X.mg X.base Γ k x ps den) (hK : Γ.K = X.K) (hr : Room k X.A) (hg : X.A.guards = some []) (tk : Takes X W) (hgl : Gl X x) (ha : MA X Γ W (e :: es) fa) (n : Nat) (hl : FA.Len fa n) (hn : n = ps.length) (hnl : (e :: es).length = n) (hdb : (x == ("__debug__" : Str)) = false := by decide)
    (he : starEach (e :: es) X.env = (false, eval e X.env) :: starEach es X.env := by rfl) (hpl : (backTo pos (starEach es X.env)).any (·.1) = false := by rfl) :
    ME X Γ W (.Call (.Name x p) (e :: es) [] pos) (mCall den fa) := by
  obtain ⟨f, fd, F, hm, hk, hb⟩ := C
  have := me_call (ds := []) (dvs := []) (dws := []) (pos := pos) (p := p) F hK hr hg hgl hm (hK ▸ hk) (hK ▸ hb) .nil (fun _ _ _ => rfl) n (by simpa using hn) hnl tk ha hl hdb he hpl
  have e1 : mCall (fun ws => den (ws ++ [])) fa = mCall den fa := by
    congr 1
    funext ws
    rw [List.append_nil]
  rwa [e1] at this
end
end MP

set_option Elab.async false
set_option linter.all false
set_option maxRecDepth 100000
set_option maxHeartbeats 4000000
namespace MP
open PySem PySem.Spec PyProof.Rows L2

/-! ### sorted and sum of a tuple -/
abbrev bare : Obj := seqObj "list" #[] 0
abbrev grown (h : Heap) (vs : List Value) : Heap := (h.push bare).update h.objs.size (Obj.mapSeq (· ++ vs.toArray))
section
variable {P : Program} {w : World} {A : Around} {E : Value → Shared → Prop} {s : Shared} {t : Addr} {vs : List Value}
theorem gather_tup {Q : List Value → Shared → Prop} (ht : IsTup s.heap t vs.toArray) (hz : vs.length ≤ sizeLine) (h : Q vs { s with heap := grown s.heap vs }) : wpAny (model P w) A (collect (.ref t)) Q E s := by
  obtain ⟨o, e1, e2, n, e3⟩ := id ht
  have m1 : (s.heap.push bare).get? s.heap.objs.size = some bare := Heap.get?_push_size _ rfl
  have m2 : (s.heap.push bare).get? t = some o := Heap.get?_push_of_some _ e1
  unfold collect
  apply wpAny_bind
  apply wpAny_runValue
  apply codeAny_builtin entry_proto_collect'
  apply wpAny_bind
  apply wpAny_newList (h := ?_) (Nat.zero_le _)
  refine wpAny_pure ⟨Code.quiet_builtin _ (by decide +kernel), codeAny_builtin entry_list_iadd' ?_⟩
  show wpAny _ _ (Builtin.List.listExtendWith _ _ _) _ _ _
  unfold Builtin.List.listExtendWith
  apply wpAny_bind
  refine wpAny_typeOf (T := "tuple") ⟨o, m2, e2⟩ ?_
  have tt : (Value.type "tuple" == Value.type "tuple") = true := by rfl
  rw [if_pos (by rw [tt, Bool.or_true])]
  apply wpAny_bind
  apply listItems_at m2 e3
  apply wpAny_bind
  apply listItems_at (xs := #[]) (n := 0) m1 rfl
  rw [if_neg (fun z => by simp at z)]
  apply wpAny_bind
  refine listUpdate_at (xs := #[]) (n := 0) m1 rfl (wpAny_pure ?_) (Nat.zero_le _) (by simp only [Array.size_append, List.size_toArray, List.length_nil]; omega)
  dsimp only
  apply wpAny_bind
  refine wpAny_load (get?_update_seq m1 _) ?_
  refine wpAny_pure (cast ?_ h)
  congr 1
  simp
theorem sorted_tup {lt : Value → Value → Bool} {Q : Value → Shared → Prop} (O : SrtO.Swo lt) (ht : IsTup s.heap t vs.toArray) (hz : vs.length ≤ sizeLine)
    (hS : 2 ≤ vs.length → ∀ (h1 : Heap) (a : Addr), SrtO.SortableO P w A.in1.in1 { s with heap := h1 } a vs lt)
    (h : ∀ out : List Value, SrtO.Srtd lt out → SrtO.Stb lt out vs → Q (.ref (s.heap.objs.size + 1)) { s with heap := sortedAll s.heap vs out.toArray }) :
    wpAny (model P w) A (call (.builtin "sorted") [.ref t]) Q E s := by
  apply Calls.call_function_entry kind_sorted plain_sorted entry_sorted (args_sorted1 _)
  unfold Builtin.«sorted»
  apply wpAny_bind (m := checkCount "sorted" 1 1 _)
  apply wpAny_pure
  apply wpAny_bind
  apply gather_tup ht hz
  apply wpAny_bind
  refine wpAny_newList ?_ hz
  have n1 : (grown s.heap vs).objs.size = s.heap.objs.size + 1 := (Heap.size_update _ _ _).trans (size_push' _ _)
  dsimp only
  rw [n1]
  have n2 : ((grown s.heap vs).push (seqObj "list" vs.toArray 0)).get? (s.heap.objs.size + 1) = some (seqObj "list" vs.toArray 0) := n1 ▸ Heap.get?_push_size _ rfl
  apply wpAny_bind
  apply wpAny_holding
  refine wpAny_call_entry slot_list_sort ⟨_, n2, rfl⟩ entry_list_sort ?_ (args_list_sort _)
  exact SrtO.list_sort_ord O n2 hz (fun h2 => hS h2 _ _) fun out a b => ⟨_, rfl, wpAny_pure ⟨_, rfl, h out a b⟩⟩
end
section
variable {X : Cx} {Γ : Ct}
def rSortedTI (K : PySem.W.Frag) : List V → Hp → VK → Prop := fun vs H Q => ∃ (a : Addr) (ns : List Int), vs = [V.ref a] ∧ SqT K H a (ns.map V.int) ∧
  ∀ (ms : List Int) (p : Addr), ms.Perm ns → ms.Pairwise (· ≤ ·) → H p = none → Q (.ref p) (upd H p (.lst (ms.map V.int)))
theorem cr_sortedTI : CallR X (.builtin "sorted") (rSortedTI X.K) := by
  intro pins s σ H vs us Q I r h
  obtain ⟨a, ns, rfl, ht, q⟩ := h
  obtain ⟨its, rv, it, hz⟩ := I.tuple ht
  rw [Vals.ref1 r]
  have ia := rv.ints
  have hz' : its.length ≤ sizeLine := by rw [← rv.length]; exact hz
  refine sorted_tup SrtO.swo_int it hz' (fun h2 _ _ => SrtO.ints_sortable ia h2) fun out h1 h2 => ?_
  obtain ⟨k1, k2, k3⟩ := SrtO.ints_out ia h1 h2
  obtain ⟨ep, at1⟩ := sortedAll_at s.heap its out.toArray
  have hl : ((out.map SrtO.iv).map V.int).length ≤ sizeLine := by
    rw [List.length_map] at hz ⊢
    rwa [k2.length_eq]
  refine ⟨.ref _, upd H (s.heap.objs.size + 1) (.lst ((out.map SrtO.iv).map V.int)), I.laid (t' := s.toks) (fun _ _ e => sortedAll_old e) (Nat.le_succ _) ?_, rfl, q _ _ k2 k3 (I.hok.fresh (Nat.le_succ _))⟩
  exact ⟨hl, out, ep, vals_of_ints k1, at1⟩
theorem IsTup.isTuple {h : Heap} {a : Addr} {xs : Array Value} (x : IsTup h a xs) : h.IsTuple a xs := by
  obtain ⟨o, e1, e2, n, e3⟩ := x
  exact ⟨o, e1, e2, n, e3⟩
theorem cr_sumT (hc : X.calm = true) : CallR X (.builtin "sum") (fun vs H Q => ∃ (a : Addr) (ns : List Int), vs = [V.ref a] ∧ SqT X.K H a (ns.map V.int) ∧ Q (.int ns.sum) H) := by
  intro pins s σ H vs us Q I r h
  obtain ⟨a, ns, rfl, ht, q⟩ := h
  obtain ⟨its, rv, it, hz⟩ := I.tuple ht
  rw [Vals.ref1 r]
  obtain ⟨xs, e⟩ := rv.ints.allInts.items
  have hn : numsOf (intItems xs).toList = ns := by rw [← e]; exact rv.ints.numsOf
  rw [nums_intItems] at hn
  rw [e] at it
  refine PySem.call_sum_walkG ?_
  have tu := IsTup.isTuple it
  obtain ⟨_, e0, _⟩ := id tu
  have lt := Heap.lt_size e0
  refine wpAny_pyIter_tuple tu ⟨s.heap.objs.size, _, _, _, _, _, numAt xs, rfl, Walks.tuple (A := X.A.in1) (I.ok.hd hc) _ a (Nat.ne_of_lt lt) (intItems xs), ⟨⟨_, Heap.get?_push_size _ rfl, rfl, rfl⟩, tu.push _⟩, fun b hb => ?_, fun _ _ => intItems_at, fun h' tk t' hk => ?_⟩
  · have : (s.heap.push { cls := .type "tuple_iterator", data := .fields #[.ref a, .int 0 0] }).objs.size = s.heap.objs.size + 1 := Heap.size_push _ _
    dsimp only
    rw [this]
    rcases List.mem_cons.mp hb with rfl | hb
    · exact Nat.lt_succ_self _
    · rw [List.mem_singleton.mp hb]; exact Nat.lt_succ_of_lt lt
  · refine ⟨.int _, H, I.kept (t' := tk) (h' := h') fun b o eb => hk b o (fun z => ?_) (Heap.get?_push_of_some _ eb), ⟨_, rfl⟩, ?_⟩
    · rw [List.mem_singleton.mp z] at eb
      exact Nat.lt_irrefl _ (Heap.lt_size eb)
    · have hs : (intItems xs).size = xs.size := by simp [intItems]
      rw [hs, preSum_eq, List.take_of_length_le (by simp), hn]
      exact q
def orN (o o' : ON) : ON := fun s xs => match o s xs with
  | some w => some w
  | none => o' s xs
def sortTD : ON := fun _ xs => match xs with
  | [.tup ws] => (intsOf ws).map fun ns => .lst ((srt ns).map .int)
  | _ => none
def sumTD : ON := fun _ xs => match xs with
  | [.tup ws] => (intsOf ws).map fun ns => .int ns.sum
  | _ => none
def sortedA : ON := orN sortedD sortTD
def sumA : ON := orN sumD sumTD
theorem sSortT (hK : Γ.K = X.K) : OpN Γ (rSortedTI X.K) sortTD := fun H μ Z s xs w vs Q hR rx e k => by
  rw [← hK]
  unfold sortTD at e
  split at e
  · rename_i ws
    cases q2 : intsOf ws with
    | none => rw [q2] at e; cases e
    | some ns =>
      rw [q2] at e
      cases e
      obtain ⟨v, rfl, a, ys, rfl, h2, h3⟩ := one rx
      rw [intsOf_ok q2] at h3
      have h4 := h3.ints
      subst h4
      refine ⟨a, ns, rfl, h2.sq, fun ms p hp hs hn => ?_⟩
      rw [srt_uniq hp hs]
      exact k _ _ (Evo.laid hn) (hR.laid hn) (new_lst hR hn (RVs.of_ints _))
  · cases e
theorem sSumT (hK : Γ.K = X.K) : OpN Γ (fun vs H Q => ∃ (a : Addr) (ns : List Int), vs = [V.ref a] ∧ SqT X.K H a (ns.map V.int) ∧ Q (.int ns.sum) H) sumTD := fun H μ Z s xs w vs Q hR rx e k => by
  rw [← hK]
  unfold sumTD at e
  split at e
  · rename_i ws
    cases q2 : intsOf ws with
    | none => rw [q2] at e; cases e
    | some ns =>
      rw [q2] at e
      cases e
      obtain ⟨v, rfl, a, ys, rfl, h2, h3⟩ := one rx
      rw [intsOf_ok q2] at h3
      have h4 := h3.ints
      subst h4
      exact ⟨a, ns, rfl, h2.sq, k _ H .refl hR rfl⟩
  · cases e
theorem cr_sortedA : CallR X (.builtin "sorted") (fun x H Q => rSortedI X.K x H Q ∨ rSortedTI X.K x H Q) := CallR.or2 cr_sortedI cr_sortedTI
theorem sSortedA (hK : Γ.K = X.K) : OpN Γ (fun x H Q => rSortedI X.K x H Q ∨ rSortedTI X.K x H Q) sortedA := OpN.or (sSorted hK) (sSortT hK)
def rSumA (K : PySem.W.Frag) : List V → Hp → VK → Prop := fun x H Q => rSum K x H Q ∨ ∃ (a : Addr) (ns : List Int), x = [V.ref a] ∧ SqT K H a (ns.map V.int) ∧ Q (.int ns.sum) H
theorem cr_sumA (hc : X.calm = true) : CallR X (.builtin "sum") (rSumA X.K) := CallR.or2 (cr_sum hc) (cr_sumT hc)
theorem sSumA (hK : Γ.K = X.K) : OpN Γ (rSumA X.K) sumA := OpN.or (sSum hK) (sSumT hK)
end
end MP

set_option Elab.async false
set_option linter.all false
set_option maxRecDepth 100000
set_option maxHeartbeats 4000000
/-! what the combinators come to: rules for simp -/
namespace MP
open PySem PySem.Spec PyProof.Rows L2
section
variable {α β : Type} {a : α} {s s1 s2 : Sto} {ρ : Env} {x : Ex} {w v : Dv} {f g h : FE} {t u : FT} {c c' : FS} {fa : FA} {b : Bool} {o o' : O2}
@[simp] theorem bind_ok {k : α → Sto → R β} : (R.ok a s).bind k = k a s := rfl
@[simp] theorem bind_er {k : α → Sto → R β} : (R.er x s : R α).bind k = .er x s := rfl
@[simp] theorem bind_no {k : α → Sto → R β} : (R.no : R α).bind k = .no := rfl
@[simp] theorem then_ok {k : α → Sto → C} : (R.ok a s).thenC ρ k = k a s := rfl
@[simp] theorem then_er {k : α → Sto → C} : (R.er x s : R α).thenC ρ k = .er x ρ s := rfl
@[simp] theorem then_no {k : α → Sto → C} : (R.no : R α).thenC ρ k = .no := rfl
@[simp] theorem of_some : R.of (some a) s = .ok a s := rfl
@[simp] theorem of_none : (R.of none s : R α) = .no := rfl
@[simp] theorem var_0 : mVar 0 (some w :: ρ) s = .ok w s := rfl
@[simp] theorem var_s {y : Option Dv} {i : Nat} : mVar (i + 1) (y :: ρ) s = mVar i ρ s := by unfold mVar; rw [List.getElem?_cons_succ]
@[simp] theorem k_ev : mK w ρ s = .ok w s := rfl
@[simp] theorem bin_ev : mBin o f g ρ s = (f ρ s).bind fun x s1 => (g ρ s1).bind fun y s2 => R.of (o s2 x y) s2 := rfl
@[simp] theorem un_ev {o : O1} : mUn o f ρ s = (f ρ s).bind fun x s1 => R.of (o s1 x) s1 := rfl
@[simp] theorem blt_ev {o : ON} : mBlt o fa ρ s = (fa ρ s).bind fun ws s1 => R.of (o s1 ws) s1 := rfl
@[simp] theorem call_ev {d : Fn} : mCall d fa ρ s = (fa ρ s).bind d := rfl
@[simp] theorem nil_ev : mNil ρ s = .ok [] s := rfl
@[simp] theorem cons_ev : mCons f fa ρ s = (f ρ s).bind fun x s1 => (fa ρ s1).bind fun xs s2 => .ok (x :: xs) s2 := rfl
def chainK (o : Option Dv) (s : Sto) (k : R Dv) : R Dv := match o with
  | some (.bl true) => k
  | some (.bl false) => .ok (.bl false) s
  | _ => .no
@[simp] theorem chainK_bl {k : R Dv} : chainK (some (.bl b)) s k = if b = true then k else .ok (.bl false) s := by cases b <;> rfl
@[simp] theorem chain_ev : mChain o o' f g h ρ s = (f ρ s).bind fun x s1 => (g ρ s1).bind fun y s2 => chainK (o s2 x y) s2 ((h ρ s2).bind fun z s3 => R.of (o' s3 y z) s3) := rfl
def andK (d : Dv) (s : Sto) (k : R Dv) : R Dv := match d with
  | .bl true => k
  | .bl false => .ok (.bl false) s
  | _ => .no
@[simp] theorem andK_bl {k : R Dv} : andK (.bl b) s k = if b = true then k else .ok (.bl false) s := by cases b <;> rfl
@[simp] theorem andV_ev : mAndV f g ρ s = (f ρ s).bind fun x s1 => andK x s1 (g ρ s1) := rfl
def orK (d : Dv) (s : Sto) (k : R Dv) : R Dv := match d with
  | .bl true => .ok (.bl true) s
  | .bl false => k
  | _ => .no
@[simp] theorem orK_bl {k : R Dv} : orK (.bl b) s k = if b = true then .ok (.bl true) s else k := by cases b <;> rfl
@[simp] theorem orV_ev : mOrV f g ρ s = (f ρ s).bind fun x s1 => orK x s1 (g ρ s1) := by
  unfold mOrV
  congr 1
  funext x s1
  cases x with
  | bl b => cases b <;> rfl
  | _ => rfl
def notK (d : Dv) (s : Sto) : R Dv := match d with
  | .bl b => .ok (.bl (!b)) s
  | _ => .no
@[simp] theorem notK_bl : notK (.bl b) s = .ok (.bl (!b)) s := rfl
@[simp] theorem notV_ev : mNotV f ρ s = (f ρ s).bind notK := rfl
def testK (d : Dv) (s : Sto) : R Bool := match d with
  | .bl b => .ok b s
  | _ => .no
@[simp] theorem testK_bl : testK (.bl b) s = .ok b s := rfl
@[simp] theorem test_ev : mTest f ρ s = (f ρ s).bind testK := rfl
@[simp] theorem and_ev : mAnd t u ρ s = (t ρ s).bind fun c s1 => if c = true then u ρ s1 else .ok false s1 := rfl
@[simp] theorem or_ev : mOr t u ρ s = (t ρ s).bind fun c s1 => if c = true then .ok true s1 else u ρ s1 := rfl
@[simp] theorem not_ev : mNot t ρ s = (t ρ s).bind fun c s1 => .ok (!c) s1 := rfl
@[simp] theorem if_ev : mIf t f g ρ s = (t ρ s).bind fun c s1 => if c = true then f ρ s1 else g ρ s1 := rfl
@[simp] theorem tup_ev : mTup fa ρ s = (fa ρ s).bind fun ws s1 => if ws.length ≤ lim then .ok (.tup ws) s1 else .no := rfl
@[simp] theorem lst_ev : mLst fa ρ s = (fa ρ s).bind fun ws s1 => if ws.length ≤ lim then .ok (.lst ws) s1 else .no := rfl
@[simp] theorem lstM_ev : mLstM fa ρ s = (fa ρ s).bind fun ws s1 => if ws.length ≤ lim then .ok (.ref s1.length) (s1 ++ [.lst ws]) else .no := rfl
/-- what follows -/
def seqK (c : C) (k : FS) : C := match c with
  | .nx ρ s => k ρ s
  | c => c
@[simp] theorem seqK_nx {k : FS} : seqK (.nx ρ s) k = k ρ s := rfl
@[simp] theorem seqK_rt {k : FS} : seqK (.rt w s) k = .rt w s := rfl
@[simp] theorem seqK_bk {k : FS} : seqK (.bk ρ s) k = .bk ρ s := rfl
@[simp] theorem seqK_ct {k : FS} : seqK (.ct ρ s) k = .ct ρ s := rfl
@[simp] theorem seqK_er {k : FS} : seqK (.er x ρ s) k = .er x ρ s := rfl
@[simp] theorem seqK_no {k : FS} : seqK .no k = .no := rfl
@[simp] theorem seq_ev : mSeq c c' ρ s = seqK (c ρ s) c' := by
  unfold mSeq seqK
  cases c ρ s <;> rfl
@[simp] theorem next_ev : mNext ρ s = .nx ρ s := rfl
@[simp] theorem break_ev : mBreak ρ s = .bk ρ s := rfl
@[simp] theorem cont_ev : mCont ρ s = .ct ρ s := rfl
@[simp] theorem ret_ev : mRet f ρ s = (f ρ s).thenC ρ fun w s1 => .rt w s1 := rfl
@[simp] theorem retN_ev : mRetN ρ s = .rt .non s := rfl
@[simp] theorem expr_ev : mExpr f ρ s = (f ρ s).thenC ρ fun _ s1 => .nx ρ s1 := rfl
@[simp] theorem ifS_ev : mIfS t c c' ρ s = (t ρ s).thenC ρ fun b s1 => if b = true then c ρ s1 else c' ρ s1 := rfl
@[simp] theorem asgN_ev {i : Nat} : mAsg f (gN i) ρ s = (f ρ s).thenC ρ fun w s1 => .nx (ρ.set i (some w)) s1 := rfl
@[simp] theorem par_ev {i j : Nat} : mPar i j (mCons f (mCons g mNil)) ρ s = (f ρ s).thenC ρ fun v s1 => (g ρ s1).thenC ρ fun w s2 => .nx ((ρ.set i (some v)).set j (some w)) s2 := by
  unfold mPar mCons mNil
  cases f ρ s with
  | ok v s1 =>
    simp only [bind_ok, then_ok]
    cases g ρ s1 <;> rfl
  | er _ _ => rfl
  | no => rfl
theorem finW_le {n : Nat} (hn : s.length ≤ n) : finW n w s = .ok w s := by unfold finW; rw [if_pos hn]
@[simp] theorem finC_rt : finC s.length (.rt w s) = .ok w s := finW_le (Nat.le_refl _)
@[simp] theorem finC_nx : finC s.length (.nx ρ s) = .ok .non s := finW_le (Nat.le_refl _)
@[simp] theorem den_ev {n : Nat} {d : FS} {ws : List Dv} : denOf n d ws s = finC s.length (d (startD n ws) s) := rfl
@[simp] theorem start_ev {n : Nat} {ws : List Dv} : startD n ws = ws.map some ++ List.replicate (n - ws.length) none := rfl
@[simp] theorem cmp_ev {p : Int → Int → Bool} {i j : Int} : cmpD p s (.int i) (.int j) = some (.bl (p i j)) := rfl
@[simp] theorem sub_ev {i j : Int} : subD s (.int i) (.int j) = some (.int (i - j)) := rfl
@[simp] theorem neg_ev {i : Int} : negD s (.int i) = some (.int (-i)) := rfl
@[simp] theorem isi_ii {i : Int} : isiD s [.int i, .ty "int"] = some (.bl true) := rfl
@[simp] theorem isi_ib {i : Int} : isiD s [.int i, .ty "bool"] = some (.bl false) := rfl
@[simp] theorem isi_tt {ws : List Dv} : isiD s [.tup ws, .ty "tuple"] = some (.bl true) := rfl
@[simp] theorem isi_it {i : Int} : isiD s [.int i, .ty "tuple"] = some (.bl false) := rfl
@[simp] theorem len_tup {ws : List Dv} : lenD s [.tup ws] = some (.int ws.length) := rfl
@[simp] theorem len_lst {ws : List Dv} : lenD s [.lst ws] = some (.int ws.length) := rfl
@[simp] theorem len_sq {ws : List Dv} : lenD s [.sq ws] = some (.int ws.length) := rfl
abbrev tI (ns : List Int) : Dv := .tup (ns.map .int)
abbrev lI (ns : List Int) : Dv := .lst (ns.map .int)
section
variable {s : Sto} {ns ms : List Int} {ρ : Env} {ws : List Dv} {i j : Int} {f : FE}
@[simp] theorem sorted_TI : sortedA s [.tup (ns.map .int)] = some (.lst ((srt ns).map .int)) := by
  show (match sortedD s [.tup (ns.map .int)] with | some w => some w | none => sortTD s [.tup (ns.map .int)]) = _
  rw [show sortedD s [.tup (ns.map .int)] = none from rfl]
  show (intsOf (ns.map .int)).map _ = _
  rw [intsOf_map]
  rfl
@[simp] theorem sorted_LI : sortedA s [.lst (ns.map .int)] = some (.lst ((srt ns).map .int)) := by
  have : sortedD s [.lst (ns.map .int)] = some (.lst ((srt ns).map .int)) := by
    show (intsOf (ns.map .int)).map _ = _
    rw [intsOf_map]
    rfl
  show (match sortedD s [.lst (ns.map .int)] with | some w => some w | none => sortTD s [.lst (ns.map .int)]) = _
  rw [this]
@[simp] theorem sum_LI : sumA s [.lst (ns.map .int)] = some (.int ns.sum) := by
  have : sumD s [.lst (ns.map .int)] = some (.int ns.sum) := by
    show (intsOf (ns.map .int)).map _ = _
    rw [intsOf_map]
    rfl
  show (match sumD s [.lst (ns.map .int)] with | some w => some w | none => sumTD s [.lst (ns.map .int)]) = _
  rw [this]
@[simp] theorem sum_TI : sumA s [.tup (ns.map .int)] = some (.int ns.sum) := by
  show (match sumD s [.tup (ns.map .int)] with | some w => some w | none => sumTD s [.tup (ns.map .int)]) = _
  rw [show sumD s [.tup (ns.map .int)] = none from rfl]
  show (intsOf (ns.map .int)).map _ = _
  rw [intsOf_map]
  rfl
@[simp] theorem sl_tup {lo hi : Option Int} : slA s (.tup ws) lo hi = some (.tup (cutD ws lo hi)) := rfl
@[simp] theorem sl_lst {lo hi : Option Int} : slA s (.lst ws) lo hi = some (.lst (cutD ws lo hi)) := rfl
theorem cut_last {k : Nat} (h : k ≤ ws.length) (h0 : 0 < k) : cutD ws (some (-(k : Int))) none = ws.drop (ws.length - k) := by
  unfold cutD
  rw [HT.sIx_none]
  have e : HT.sIx ws.length 0 (some (-(k : Int))) = ws.length - k := by
    show (if -(k : Int) < 0 then (-(k : Int) + (ws.length : Int)).toNat else min (-(k : Int)).toNat ws.length) = _
    rw [if_pos (by omega)]
    omega
  rw [e]
  exact List.take_of_length_le (by rw [List.length_drop]; omega)
theorem cut_to {k : Nat} : cutD ws none (some (k : Int)) = ws.take k := by
  unfold cutD
  rw [HT.sIx_none, HT.sIx_nat, Nat.sub_zero, List.drop_zero, ← List.take_take, List.take_length]
theorem cut_mid {a b : Nat} (ha : a ≤ ws.length) (hb : b ≤ ws.length) : cutD ws (some (a : Int)) (some (b : Int)) = (ws.drop a).take (b - a) := by
  unfold cutD
  rw [HT.sIx_nat, HT.sIx_nat, Nat.min_eq_left ha, Nat.min_eq_left hb]
@[simp] theorem part_ev : mPart f ρ s = (f ρ s).bind fun x s1 => match x with
  | .int i => .ok (some i) s1
  | _ => .no := rfl
@[simp] theorem nopart_ev : mNoPart ρ s = .ok none s := rfl
@[simp] theorem sl_ev {op : OS} {lo hi : FO} : mSl op f lo hi ρ s = (f ρ s).bind fun x s1 => (lo ρ s1).bind fun l s2 => (hi ρ s2).bind fun u s3 => R.of (op s3 x l u) s3 := rfl
@[simp] theorem add_ii : addD s (.int i) (.int j) = some (.int (i + j)) := rfl
theorem mul_ii (h : cm i j = true) : mulD s (.int i) (.int j) = some (.int (i * j)) := by
  show (if cm i j = true then _ else _) = _
  rw [if_pos h]
theorem cm_l (h : -(2 ^ 64) < i ∧ i < 2 ^ 64) : cm i j = true := decide_eq_true (.inl h)
theorem cm_r (h : -(2 ^ 64) < j ∧ j < 2 ^ 64) : cm i j = true := decide_eq_true (.inr h)
@[simp] theorem int_i : intD s [.int i] = some (.int i) := rfl
@[simp] theorem int_b {b : Bool} : intD s [.bl b] = some (.int (if b then 1 else 0)) := rfl
theorem range1_ok {fa : FA} {s1 : Sto} (h : fa ρ s = .ok [.int j] s1) (hj : okR j = true) : iRange1 fa ρ s = .ok { ws := rng 0 j.toNat } s1 := by
  unfold iRange1
  rw [h, bind_ok]
  exact if_pos hj
theorem range2_ok {fa : FA} {s1 : Sto} (h : fa ρ s = .ok [.int i, .int j] s1) (hi : okR i = true) (hj : okR j = true) : iRange2 fa ρ s = .ok { ws := rng i (j - i).toNat } s1 := by
  unfold iRange2
  rw [h, bind_ok]
  exact if_pos ⟨hi, hj⟩
theorem rng_ev {lo : Int} {n : Nat} : rng lo n = (List.range n).map fun i : Nat => Dv.int (lo + (i : Int)) := by unfold rng; rfl
theorem okR_s {i : Int} (h : -1000000 ≤ i) (h2 : i ≤ 1000000) : okR i = true := decide_eq_true ⟨by omega, by omega⟩
@[simp] theorem tuple_lst : tupleD s [.lst ws] = some (.tup ws) := rfl
@[simp] theorem tuple_tup : tupleD s [.tup ws] = some (.tup ws) := rfl
theorem ix_tup {k : Nat} {w : Dv} (h : ws[k]? = some w) : ixA s (.tup ws) (.int (k : Int)) = some w := by
  have e : ixT s (.tup ws) (.int (k : Int)) = some w := atI_nat h
  show (match (match ixL s (.tup ws) (.int (k : Int)) with | some w => some w | none => ixT s (.tup ws) (.int (k : Int))) with | some w => some w | none => ixD s (.tup ws) (.int (k : Int))) = _
  rw [show ixL s (.tup ws) (.int (k : Int)) = none from rfl, e]
theorem ix_lst {k : Nat} {w : Dv} (h : ws[k]? = some w) : ixA s (.lst ws) (.int (k : Int)) = some w := by
  have e : ixL s (.lst ws) (.int (k : Int)) = some w := atI_nat h
  show (match (match ixL s (.lst ws) (.int (k : Int)) with | some w => some w | none => ixT s (.lst ws) (.int (k : Int))) with | some w => some w | none => ixD s (.lst ws) (.int (k : Int))) = _
  rw [e]
theorem zip_ints : ∀ (ns ms : List Int), zipD (ns.map .int) (ms.map .int) = (ns.zip ms).map fun p => .tup [.int p.1, .int p.2]
  | [], _ => by simp [zipD]
  | _ :: _, [] => by simp [zipD]
  | a :: r, b :: t => by simp [zipD, zip_ints r t]
end
section
open Classical
variable {vs : List Nat} {g : FG} {tt : FT} {elt : FE} {ρ : Env} {s : Sto}
@[simp] theorem yes_ev : mYes ρ s = .ok true s := rfl
theorem compL_map {φ : Dv → Dv} : ∀ {xs : List Dv}, (∀ x ∈ xs, ∃ ρ1, g x (wipeD ρ vs) s = some ρ1 ∧ elt ρ1 s = .ok (φ x) s) → compL none vs g mYes elt ρ xs s = some (xs.map φ, s)
  | [], _ => by unfold compL; rw [if_pos (.inl rfl)]; rfl
  | x :: xs, h => by
    obtain ⟨ρ1, h1, h2⟩ := h x List.mem_cons_self
    unfold compL
    rw [if_pos (.inl rfl), h1]
    simp only [yes_ev, h2]
    rw [compL_map fun y hy => h y (List.mem_cons_of_mem _ hy)]
    rfl
theorem comp_map {f : FI} {xs : List Dv} (φ : Dv → Dv) (hf : f ρ s = .ok { ws := xs } s) (hl : xs.length ≤ lim) (h : ∀ x ∈ xs, ∃ ρ1, g x (wipeD ρ vs) s = some ρ1 ∧ elt ρ1 s = .ok (φ x) s) : mComp f vs g mYes elt ρ s = .ok (.lst (xs.map φ)) s := by
  unfold mComp
  rw [hf, bind_ok]
  dsimp only
  rw [compL_map h]
  dsimp only
  rw [if_pos (by rw [List.length_map]; exact hl)]
theorem comp_mapA {α : Type} {f : FI} {l : List α} {e : α → Dv} (φ : α → Dv) (hf : f ρ s = .ok { ws := l.map e } s) (hl : l.length ≤ lim) (h : ∀ a ∈ l, ∃ ρ1, g (e a) (wipeD ρ vs) s = some ρ1 ∧ elt ρ1 s = .ok (φ a) s) : mComp f vs g mYes elt ρ s = .ok (.lst (l.map φ)) s := by
  have key : ∀ {l : List α}, (∀ a ∈ l, ∃ ρ1, g (e a) (wipeD ρ vs) s = some ρ1 ∧ elt ρ1 s = .ok (φ a) s) → compL none vs g mYes elt ρ (l.map e) s = some (l.map φ, s) := fun {l} => by
    induction l with
    | nil => intro _; rw [List.map_nil]; simp [compL]
    | cons a l ih =>
      intro h
      obtain ⟨ρ1, h1, h2⟩ := h a List.mem_cons_self
      rw [List.map_cons]
      unfold compL
      rw [if_pos (.inl rfl), h1]
      simp only [yes_ev, h2]
      rw [ih fun b hb => h b (List.mem_cons_of_mem _ hb)]
      rfl
  unfold mComp
  rw [hf, bind_ok]
  dsimp only
  rw [key h]
  dsimp only
  rw [if_pos (by rw [List.length_map]; exact hl)]
/-- a loop that only goes on: nothing but the names changes -/
theorem forL_fold {body : FS} {step : Env → Dv → Env} {I : Env → Prop} : ∀ {xs : List Dv} {ρ : Env}, I ρ → (∀ ρ x, x ∈ xs → I ρ → ∃ ρ1, g x ρ s = some ρ1 ∧ body ρ1 s = .nx (step ρ x) s ∧ I (step ρ x)) → forL none g body xs ρ s = .nx (xs.foldl step ρ) s
  | [], ρ, _, _ => by unfold forL; rw [if_pos (.inl rfl)]; rfl
  | x :: xs, ρ, hI, h => by
    obtain ⟨ρ1, h1, h2, h3⟩ := h ρ x List.mem_cons_self hI
    unfold forL
    rw [if_pos (.inl rfl), h1]
    simp only [h2]
    exact forL_fold h3 fun ρ y hy => h ρ y (List.mem_cons_of_mem _ hy)
/-- a comprehension, turn by turn: J i acc stands when i turns are done -/
theorem compL_ix {xs : List Dv} (J : Nat → List Dv → Sto → Prop) (h : ∀ i x acc s, xs[i]? = some x → J i acc s → ∃ ρ1 y s2, g x (wipeD ρ vs) s = some ρ1 ∧ elt ρ1 s = .ok y s2 ∧ J (i + 1) (acc ++ [y]) s2) :
    ∀ {k : Nat} {ys acc : List Dv} {s : Sto}, ys = xs.drop k → k ≤ xs.length → J k acc s → ∃ zs s', compL none vs g mYes elt ρ ys s = some (zs, s') ∧ zs.length = ys.length ∧ J xs.length (acc ++ zs) s'
  | k, [], acc, s, e, hk, j => by
    have : k = xs.length := by
      have := congrArg List.length e
      rw [List.length_drop, List.length_nil] at this
      omega
    subst this
    exact ⟨[], s, by unfold compL; rw [if_pos (.inl rfl)], rfl, by rw [List.append_nil]; exact j⟩
  | k, x :: ys, acc, s, e, hk, j => by
    have hx : xs[k]? = some x := by
      have := congrArg (·[0]?) e
      simpa using this.symm
    have hy : ys = xs.drop (k + 1) := by
      have := congrArg List.tail e
      simpa using this
    have hlt : k < xs.length := (List.getElem?_eq_some_iff.mp hx).1
    obtain ⟨ρ1, y, s2, h1, h2, h3⟩ := h k x acc s hx j
    obtain ⟨zs, s', h4, h5, h6⟩ := compL_ix J h hy hlt h3
    refine ⟨y :: zs, s', ?_, by rw [List.length_cons, h5, List.length_cons], ?_⟩
    · unfold compL
      rw [if_pos (.inl rfl), h1]
      simp only [yes_ev, h2, h4]
      rfl
    · rw [List.append_assoc] at h6
      exact h6
theorem comp_ix {f : FI} {xs : List Dv} {s1 : Sto} (J : Nat → List Dv → Sto → Prop) (hf : f ρ s = .ok { ws := xs } s1) (hl : xs.length ≤ lim) (j : J 0 [] s1)
    (h : ∀ i x acc s, xs[i]? = some x → J i acc s → ∃ ρ1 y s2, g x (wipeD ρ vs) s = some ρ1 ∧ elt ρ1 s = .ok y s2 ∧ J (i + 1) (acc ++ [y]) s2) : ∃ zs s', mComp f vs g mYes elt ρ s = .ok (.lst zs) s' ∧ zs.length = xs.length ∧ J xs.length zs s' := by
  obtain ⟨zs, s', h1, h2, h3⟩ := compL_ix J h (k := 0) (ys := xs) (acc := []) rfl (Nat.zero_le _) j
  refine ⟨zs, s', ?_, h2, h3⟩
  unfold mComp
  rw [hf, bind_ok]
  dsimp only
  rw [h1]
  dsimp only
  rw [if_pos (by rw [h2]; exact hl)]
/-- a loop, turn by turn: J i stands when i turns are done -/
theorem forL_ix {body : FS} {xs : List Dv} (J : Nat → Env → Sto → Prop) (h : ∀ i x ρ s, xs[i]? = some x → J i ρ s → ∃ ρ1 ρ2 s2, g x ρ s = some ρ1 ∧ (body ρ1 s = .nx ρ2 s2 ∨ body ρ1 s = .ct ρ2 s2) ∧ J (i + 1) ρ2 s2) :
    ∀ {k : Nat} {ys : List Dv} {ρ : Env} {s : Sto}, ys = xs.drop k → k ≤ xs.length → J k ρ s → ∃ ρ' s', forL none g body ys ρ s = .nx ρ' s' ∧ J xs.length ρ' s'
  | k, [], ρ, s, e, hk, j => by
    have : k = xs.length := by
      have := congrArg List.length e
      rw [List.length_drop, List.length_nil] at this
      omega
    subst this
    exact ⟨ρ, s, by unfold forL; rw [if_pos (.inl rfl)], j⟩
  | k, x :: ys, ρ, s, e, hk, j => by
    have hx : xs[k]? = some x := by
      have := congrArg (·[0]?) e
      simpa using this.symm
    have hy : ys = xs.drop (k + 1) := by
      have := congrArg List.tail e
      simpa using this
    have hlt : k < xs.length := (List.getElem?_eq_some_iff.mp hx).1
    obtain ⟨ρ1, ρ2, s2, h1, h2, h3⟩ := h k x ρ s hx j
    obtain ⟨ρ', s', h4, h5⟩ := forL_ix J h hy hlt h3
    refine ⟨ρ', s', ?_, h5⟩
    unfold forL
    rw [if_pos (.inl rfl), h1]
    rcases h2 with h2 | h2 <;> (simp only [h2]; exact h4)
theorem for_ix {F : FI} {body : FS} {xs : List Dv} {s1 : Sto} (J : Nat → Env → Sto → Prop) (hF : F ρ s = .ok { ws := xs } s1) (j : J 0 ρ s1) (h : ∀ i x ρ s, xs[i]? = some x → J i ρ s → ∃ ρ1 ρ2 s2, g x ρ s = some ρ1 ∧ (body ρ1 s = .nx ρ2 s2 ∨ body ρ1 s = .ct ρ2 s2) ∧ J (i + 1) ρ2 s2) :
    ∃ ρ' s', mFor F g body ρ s = .nx ρ' s' ∧ J xs.length ρ' s' := by
  obtain ⟨ρ', s', h1, h2⟩ := forL_ix J h (k := 0) (ys := xs) rfl (Nat.zero_le _) j
  refine ⟨ρ', s', ?_, h2⟩
  unfold mFor
  rw [hF]
  exact h1
end
end
end MP

set_option Elab.async false
set_option linter.all false
set_option maxRecDepth 100000
set_option maxHeartbeats 400000
/-! the facts on layers: an index is the sum of those of its layers -/
namespace MP
open PySem PySem.Spec PyProof.Rows L2
def dot (rs ls : List Int) : Int := ((rs.zip ls).map fun p => p.1 * p.2).sum
theorem dot_nil {ls : List Int} : dot [] ls = 0 := by simp [dot]
theorem dot_nil' : ∀ {rs : List Int}, dot rs [] = 0 := by intro rs; simp [dot]
theorem dot_cons {a b : Int} {rs ls : List Int} : dot (a :: rs) (b :: ls) = a * b + dot rs ls := by simp [dot]
def at1 (lev n : Int) : Int := if lev ≤ n then 1 else 0
/-- the levels of an ascending row, each with how far it is above the one ahead -/
def lv : Int → List Int → List (Int × Int)
  | _, [] => []
  | b, a :: r => (a, a - b) :: lv a r
theorem lv_low {n : Int} : ∀ {b : Int} {l : List Int}, (∀ a ∈ l, n < a) → ((lv b l).map fun p => p.2 * at1 p.1 n).sum = 0
  | _, [], _ => rfl
  | b, a :: r, h => by
    have h1 := h a List.mem_cons_self
    show (a - b) * at1 a n + ((lv a r).map fun p => p.2 * at1 p.1 n).sum = 0
    rw [lv_low fun c hc => h c (List.mem_cons_of_mem _ hc)]
    unfold at1
    rw [if_neg (by omega)]
    omega
theorem lv_sum {n : Int} : ∀ {b : Int} {l : List Int}, l.Pairwise (· < ·) → (n ∈ l ∨ (n = b ∧ ∀ a ∈ l, b < a)) → ((lv b l).map fun p => p.2 * at1 p.1 n).sum = n - b
  | b, [], _, h => by
    rcases h with h | ⟨h, _⟩
    · cases h
    · rw [h]; show (0 : Int) = _; omega
  | b, a :: r, hs, h => by
    obtain ⟨h1, h2⟩ := List.pairwise_cons.mp hs
    show (a - b) * at1 a n + ((lv a r).map fun p => p.2 * at1 p.1 n).sum = n - b
    rcases h with h | ⟨rfl, h⟩
    · rcases List.mem_cons.mp h with rfl | h
      · rw [lv_sum h2 (.inr ⟨rfl, h1⟩)]
        unfold at1
        rw [if_pos (Int.le_refl _)]
        omega
      · rw [lv_sum h2 (.inl h)]
        unfold at1
        rw [if_pos (Int.le_of_lt (h1 n h))]
        omega
    · rw [lv_low fun c hc => ?_]
      · have := h a List.mem_cons_self
        unfold at1
        rw [if_neg (by omega)]
        omega
      · rcases List.mem_cons.mp (List.mem_cons_of_mem a hc) with e | e
        · have := h a List.mem_cons_self; have := h1 c hc; omega
        · have := h c (List.mem_cons_of_mem _ hc); exact this
theorem sum_map_mul {α : Type} (k : Int) (f : α → Int) : ∀ l : List α, (l.map fun a => k * f a).sum = k * (l.map f).sum
  | [] => by simp
  | a :: l => by simp [sum_map_mul k f l, Int.mul_add]
theorem sum_map_add {α : Type} (f g : α → Int) : ∀ l : List α, (l.map fun a => f a + g a).sum = (l.map f).sum + (l.map g).sum
  | [] => by simp
  | a :: l => by simp [sum_map_add f g l]; omega
theorem sum_zero {α : Type} : ∀ l : List α, (l.map fun _ => (0 : Int)).sum = 0
  | [] => rfl
  | _ :: l => by simp [sum_zero l]
/-- each result is what its levels tell; so is each sum of them -/
theorem dot_levels {L : List (Int × Int)} : ∀ {rs ls : List Int}, (∀ n ∈ ls, (L.map fun p => p.2 * at1 p.1 n).sum = n) → (L.map fun p => p.2 * dot rs (ls.map (at1 p.1))).sum = dot rs ls
  | [], ls, _ => by
    simp only [dot_nil, Int.mul_zero]
    exact sum_zero L
  | a :: rs, [], _ => by
    simp only [List.map_nil, dot_nil', Int.mul_zero]
    exact sum_zero L
  | a :: rs, b :: ls, h => by
    have ih := dot_levels (L := L) (rs := rs) (ls := ls) fun n hn => h n (List.mem_cons_of_mem _ hn)
    have hb := h b List.mem_cons_self
    simp only [List.map_cons, dot_cons]
    rw [show (fun p : Int × Int => p.2 * (a * at1 p.1 b + dot rs (ls.map (at1 p.1)))) = fun p => a * (p.2 * at1 p.1 b) + p.2 * dot rs (ls.map (at1 p.1)) from funext fun p => by rw [Int.mul_add, Int.mul_left_comm]]
    rw [sum_map_add, sum_map_mul, hb, ih]
theorem at1_mono {lev a b : Int} (h : a ≤ b) : at1 lev a ≤ at1 lev b := by unfold at1; split <;> split <;> omega
theorem srt_at1 (lev : Int) (ns : List Int) : srt (ns.map (at1 lev)) = (srt ns).map (at1 lev) := by
  refine (srt_uniq (l := ns.map (at1 lev)) ((srt_perm ns).map _) ?_).symm
  rw [List.pairwise_map]
  exact (srt_sorted ns).imp fun h => at1_mono h
def last (k : Nat) (ns : List Int) : List Int := ns.drop (ns.length - k)
def idx (rs ns : List Int) : Int := dot rs (srt (last rs.length ns))
theorem last_map (f : Int → Int) (k : Nat) (ns : List Int) : last k (ns.map f) = (last k ns).map f := by
  unfold last
  rw [List.length_map, List.map_drop]
def levels (ns : List Int) : List (Int × Int) := lv 0 ((usrt ns).filter fun a => decide (0 < a))
/-- an index is the sum of those of the layers -/
theorem idx_levels {rs ns : List Int} (h0 : ∀ n ∈ ns, 0 ≤ n) : ((levels ns).map fun p => p.2 * idx rs (ns.map (at1 p.1))).sum = idx rs ns := by
  unfold idx
  simp only [last_map, srt_at1]
  refine dot_levels fun n hn => ?_
  have hm : n ∈ ns := List.mem_of_mem_drop ((srt_perm (last rs.length ns)).mem_iff.mp hn)
  obtain ⟨u1, u2⟩ := usrt_spec (srt ns) (srt_sorted ns)
  have us : ((usrt ns).filter fun a => decide (0 < a)).Pairwise (· < ·) := u1.filter _
  unfold levels
  rw [lv_sum us ?_, Int.sub_zero]
  have hn0 := h0 n hm
  by_cases hp : 0 < n
  · left
    exact List.mem_filter.mpr ⟨(u2 n).mpr ((srt_perm ns).mem_iff.mpr hm), decide_eq_true hp⟩
  · right
    refine ⟨by omega, fun a ha => of_decide_eq_true (List.mem_filter.mp ha).2⟩
end MP
namespace MP
theorem ucons_len (a : Int) (r : List Int) : (ucons a r).length ≤ r.length + 1 := by
  unfold ucons
  cases r with
  | nil => exact Nat.le_refl _
  | cons b t => dsimp only; split <;> simp
theorem usrt_len (ns : List Int) : (usrt ns).length ≤ ns.length := by
  have key : ∀ l : List Int, (l.foldr ucons []).length ≤ l.length := fun l => by
    induction l with
    | nil => exact Nat.le_refl _
    | cons a l ih => exact Nat.le_trans (ucons_len a _) (Nat.succ_le_succ ih)
  exact Nat.le_trans (key _) (Nat.le_of_eq (srt_perm ns).length_eq)
end MP

set_option Elab.async false
set_option linter.all false
set_option maxRecDepth 100000
set_option maxHeartbeats 400000
/-! rows of ints, and rows of such: what repr and == say of them -/
namespace MP
open PySem PySem.Spec PyProof.Rows L2
/-- a thing of at most n parts, at most k deep -/
structure Pl (n k : Nat) (w : Dv) (d : PyData) : Prop where
  to : toD0 w = some d
  lay : d.canLay0 = true
  shw : d.showable = true
  nod : d.hasDict = false
  deep : d.depth ≤ k
  len : d.shown.length + 2 ≤ 2000 * n
structure Pls (n k : Nat) (ws : List Dv) (ds : List PyData) : Prop where
  to : toDs ws = some ds
  lay : PyData.canLayAll0 ds = true
  shw : PyData.showableAll ds = true
  nod : PyData.hasDictAll ds = false
  deep : PyData.depthAll ds ≤ k
  len : piled (PyData.shownAll ds) ≤ 2000 * n
def Sm (i : Int) : Prop := i.natAbs < 2 ^ 300
theorem Sm.of {i : Int} (h : -1000000000000 ≤ i) (h2 : i ≤ 1000000000000) : Sm i := by
  have h3 : i.natAbs ≤ 1000000000000 := by omega
  exact Nat.lt_of_le_of_lt h3 (Nat.lt_of_lt_of_le (by decide : 1000000000000 < 2 ^ 40) (Nat.pow_le_pow_right (by decide) (by decide)))
theorem Sm.log {i : Int} (h : Sm i) : i.natAbs.log2 < 1920 := by
  by_cases h0 : i.natAbs = 0
  · rw [h0]; decide
  · exact (Nat.log2_lt h0).mpr (Nat.lt_of_lt_of_le h (Nat.pow_le_pow_right (by decide) (by decide)))
variable {n m k j : Nat} {w : Dv} {d : PyData} {ws us : List Dv} {ds es : List PyData} {i : Int} {ns : List Int} {s : Sto}
theorem pl_int (h : Sm i) : Pl 1 0 (.int i) (.int i) where
  to := rfl
  lay := by simp only [PyData.canLay0]
  shw := by
    simp only [PyData.showable]
    exact decide_eq_true h.log
  nod := by simp only [PyData.hasDict]
  deep := by simp only [PyData.depth]; exact Nat.le_refl _
  len := by
    have := int_text_len_1921 h.log
    simp only [PyData.shown]
    exact Nat.le_trans (Nat.add_le_add_right this 2) (by decide)
theorem pls_nil : Pls 0 k [] [] where
  to := rfl
  lay := by simp only [PyData.canLayAll0]
  shw := by simp only [PyData.showableAll]
  nod := by simp only [PyData.hasDictAll]
  deep := by simp only [PyData.depthAll]; exact Nat.zero_le _
  len := by simp only [PyData.shownAll, piled_nil]; exact Nat.zero_le _
theorem pls_cons (h : Pl n k w d) (t : Pls m k ws ds) : Pls (n + m) k (w :: ws) (d :: ds) where
  to := by simp only [toDs, h.to, t.to]
  lay := by simp only [PyData.canLayAll0, h.lay, t.lay]; rfl
  shw := by simp only [PyData.showableAll, h.shw, t.shw]; rfl
  nod := by simp only [PyData.hasDictAll, h.nod, t.nod]; rfl
  deep := by simp only [PyData.depthAll]; exact Nat.max_le.mpr ⟨h.deep, t.deep⟩
  len := by
    have h1 := h.len
    have h2 := t.len
    simp only [PyData.shownAll, piled_cons]
    omega
theorem Pl.mono (h : Pl n k w d) (hn : n ≤ m) (hk : k ≤ j) : Pl m j w d := ⟨h.to, h.lay, h.shw, h.nod, Nat.le_trans h.deep hk, Nat.le_trans h.len (Nat.mul_le_mul_left _ hn)⟩
theorem Pls.mono (h : Pls n k ws ds) (hn : n ≤ m) (hk : k ≤ j) : Pls m j ws ds := ⟨h.to, h.lay, h.shw, h.nod, Nat.le_trans h.deep hk, Nat.le_trans h.len (Nat.mul_le_mul_left _ hn)⟩
theorem listText_len : ∀ ts : List Str, (listText ts).length ≤ piled ts + 2
  | [] => by decide
  | t :: r => by
    unfold listText
    rw [strLen_append]
    show (textFrom 1 (("[" : Str) ++ ("" : String) ++ t) r).length + 1 ≤ _
    rw [textFrom_length_pos _ _ _ (by decide), strLen_append, strLen_append, piled_cons]
    show 1 + 0 + t.length + piled r + 1 ≤ _
    omega
theorem tupleText_len (ts : List Str) : (tupleText ts).length ≤ piled ts + 3 := by
  unfold tupleText
  rw [strLen_append, strLen_append]
  have e1 : ((("(" : String) : Str)).length = 1 := rfl
  have e3 : (((if ts.length == 1 then ",)" else ")" : String) : Str)).length ≤ 2 := by split <;> decide
  rw [e1]
  by_cases h : ts = []
  · subst h
    show 1 + 0 + _ ≤ _
    omega
  · have := join_length_add ts h
    omega
theorem pl_lst (h : Pls n k ws ds) : Pl (n + 1) (k + 1) (.lst ws) (.list ds) where
  to := by simp only [toD0, h.to]; rfl
  lay := by simp only [PyData.canLay0, h.lay]
  shw := by simp only [PyData.showable, h.shw]
  nod := by simp only [PyData.hasDict, h.nod]
  deep := by simp only [PyData.depth]; exact Nat.succ_le_succ h.deep
  len := by
    have h1 := h.len
    have h2 := listText_len (PyData.shownAll ds)
    simp only [PyData.shown]
    omega
theorem pl_sq (h : Pls n k ws ds) : Pl (n + 1) (k + 1) (.sq ws) (.list ds) where
  to := by simp only [toD0, h.to]; rfl
  lay := (pl_lst h).lay
  shw := (pl_lst h).shw
  nod := (pl_lst h).nod
  deep := (pl_lst h).deep
  len := (pl_lst h).len
theorem pl_tup (h : Pls n k ws ds) : Pl (n + 1) (k + 1) (.tup ws) (.tuple ds) where
  to := by simp only [toD0, h.to]; rfl
  lay := by simp only [PyData.canLay0, h.lay]
  shw := by simp only [PyData.showable, h.shw]
  nod := by simp only [PyData.hasDict, h.nod]
  deep := by simp only [PyData.depth]; exact Nat.succ_le_succ h.deep
  len := by
    have h1 := h.len
    have h2 := tupleText_len (PyData.shownAll ds)
    simp only [PyData.shown]
    omega
theorem pls_ints : ∀ {ns : List Int}, (∀ i ∈ ns, Sm i) → Pls ns.length 0 (ns.map .int) (ns.map .int)
  | [], _ => pls_nil
  | a :: ns, h => by
    have := pls_cons (pl_int (h a List.mem_cons_self)) (pls_ints fun i hi => h i (List.mem_cons_of_mem _ hi))
    rw [Nat.add_comm] at this
    exact this
theorem pl_tI (h : ∀ i ∈ ns, Sm i) : Pl (ns.length + 1) 1 (tI ns) (.tuple (ns.map .int)) := pl_tup (pls_ints h)
theorem pl_lI (h : ∀ i ∈ ns, Sm i) : Pl (ns.length + 1) 1 (lI ns) (.list (ns.map .int)) := pl_lst (pls_ints h)
theorem repr_pl (hd : disp w = true) (ht : toD s w = toD0 w) (h : Pl n k w d) (hn : n ≤ 8000) (hk : k ≤ 60) : reprD s [w] = some (.str d.shown) := by
  show (if disp w = true then match toD s w with
      | some d => if d.showable = true ∧ d.hasDict = false ∧ d.depth ≤ 60 ∧ d.shown.length ≤ lim then some (Dv.str d.shown) else none
      | none => none
    else none) = _
  rw [if_pos hd, ht, h.to]
  have h1 := h.len
  exact if_pos ⟨h.shw, h.nod, Nat.le_trans h.deep hk, by unfold lim; omega⟩
theorem repr_lst (h : Pl n k (.lst ws) d) (hn : n ≤ 8000) (hk : k ≤ 60) : reprD s [.lst ws] = some (.str d.shown) := repr_pl rfl rfl h hn hk
theorem repr_tup (h : Pl n k (.tup ws) d) (hn : n ≤ 8000) (hk : k ≤ 60) : reprD s [.tup ws] = some (.str d.shown) := repr_pl rfl rfl h hn hk
theorem eq_ss {a b : Str} : eqD s (.str a) (.str b) = some (.bl (decide (a = b))) := by
  have e : decide (V.str a = V.str b) = decide (a = b) := by
    by_cases h : a = b
    · rw [h, decide_eq_true rfl, decide_eq_true rfl]
    · rw [decide_eq_false h, decide_eq_false fun z => h (V.str.inj z)]
  show (some (decide (V.str a = V.str b))).map Dv.bl = _
  rw [e]
  rfl
theorem ne_ss {a b : Str} : neD s (.str a) (.str b) = some (.bl (!decide (a = b))) := by
  have e : decide (V.str a = V.str b) = decide (a = b) := by
    by_cases h : a = b
    · rw [h, decide_eq_true rfl, decide_eq_true rfl]
    · rw [decide_eq_false h, decide_eq_false fun z => h (V.str.inj z)]
  show (some (decide (V.str a = V.str b))).map (fun b => Dv.bl (!b)) = _
  rw [e]
  rfl
theorem eq_refl_ss {a : Str} : eqD s (.str a) (.str a) = some (.bl true) := by rw [eq_ss, decide_eq_true rfl]
theorem ne_refl_ss {a : Str} : neD s (.str a) (.str a) = some (.bl false) := by rw [ne_ss, decide_eq_true rfl]; rfl
/-- ints of any size -/
theorem toDs_ints : ∀ ns : List Int, toDs (ns.map .int) = some (ns.map .int)
  | [] => rfl
  | a :: ns => by
    rw [List.map_cons]
    simp only [toDs, toD0, toDs_ints ns]
    rfl
theorem lay_ints : ∀ ns : List Int, PyData.canLayAll0 (ns.map .int) = true
  | [] => by simp only [List.map_nil, PyData.canLayAll0]
  | a :: ns => by simp only [List.map_cons, PyData.canLayAll0, PyData.canLay0, lay_ints ns]; rfl
theorem deep_ints : ∀ ns : List Int, PyData.depthAll (ns.map .int) = 0
  | [] => by simp only [List.map_nil, PyData.depthAll]
  | a :: ns => by simp only [List.map_cons, PyData.depthAll, PyData.depth, deep_ints ns]; rfl
theorem shaped_list_ints : SeqAt.shaped (.list (ns.map .int)) = true := by
  unfold SeqAt.shaped
  simp only [PyData.canLay0, lay_ints, PyData.depth, deep_ints]
  rfl
theorem eqv_ints : ∀ ns ms : List Int, PyData.eqvAll (ns.map .int) (ms.map .int) = decide (ns = ms)
  | [], [] => by simp [PyData.eqvAll]
  | [], _ :: _ => by simp [PyData.eqvAll]
  | _ :: _, [] => by simp [PyData.eqvAll]
  | a :: ns, b :: ms => by
    rw [List.map_cons, List.map_cons]
    simp only [PyData.eqvAll, PyData.eqv, eqv_ints ns ms]
    by_cases h : a = b <;> by_cases h2 : ns = ms <;> simp [h, h2]
theorem eqB_lI {ms : List Int} : eqB s (lI ns) (lI ms) = some (decide (ns = ms)) := by
  have e1 : toD s (lI ns) = some (.list (ns.map .int)) := by
    show (toDs (ns.map .int)).map PyData.list = _
    rw [toDs_ints]; rfl
  have e2 : toD s (lI ms) = some (.list (ms.map .int)) := by
    show (toDs (ms.map .int)).map PyData.list = _
    rw [toDs_ints]; rfl
  show (match toD s (lI ns), toD s (lI ms) with
    | some d, some e => if SeqAt.shaped d = true ∧ SeqAt.shaped e = true then some (PyData.eqv d e) else none
    | _, _ => none) = _
  rw [e1, e2]
  dsimp only
  rw [if_pos ⟨shaped_list_ints, shaped_list_ints⟩]
  simp only [PyData.eqv, eqv_ints]
theorem eq_lI {ms : List Int} : eqD s (lI ns) (lI ms) = some (.bl (decide (ns = ms))) := by
  unfold eqD
  rw [eqB_lI]
  rfl
theorem ne_lI {ms : List Int} : neD s (lI ns) (lI ms) = some (.bl (!decide (ns = ms))) := by
  unfold neD
  rw [eqB_lI]
  rfl

/-! what a law does with repr -/
theorem repr_ne {f g : FE} {ρ : Env} {s1 s2 : Sto} {t : Str} {w' : Dv} (h1 : f ρ s = .ok w s1) (h2 : g ρ s1 = .ok w' s2) (r1 : reprD s1 [w] = some (.str t)) (r2 : reprD s2 [w'] = some (.str t)) : mTest (mBin neD (mBlt reprD (mCons f mNil)) (mBlt reprD (mCons g mNil))) ρ s = .ok false s2 := by
  rw [test_ev, bin_ev, blt_ev, cons_ev, h1, bind_ok, nil_ev, bind_ok, bind_ok, r1, of_some, bind_ok, blt_ev, cons_ev, h2, bind_ok, nil_ev, bind_ok, bind_ok, r2, of_some, bind_ok, ne_refl_ss, of_some, bind_ok, testK_bl]
theorem repr_eq {f g : FE} {ρ : Env} {s1 s2 : Sto} {t : Str} {w' : Dv} (h1 : f ρ s = .ok w s1) (h2 : g ρ s1 = .ok w' s2) (r1 : reprD s1 [w] = some (.str t)) (r2 : reprD s2 [w'] = some (.str t)) : mBin eqD (mBlt reprD (mCons f mNil)) (mBlt reprD (mCons g mNil)) ρ s = .ok (.bl true) s2 := by
  rw [bin_ev, blt_ev, cons_ev, h1, bind_ok, nil_ev, bind_ok, bind_ok, r1, of_some, bind_ok, blt_ev, cons_ev, h2, bind_ok, nil_ev, bind_ok, bind_ok, r2, of_some, bind_ok, eq_refl_ss, of_some]
/-- the branch that is not taken -/
theorem ifS_f {t : FT} {c c' : FS} {ρ : Env} {s1 : Sto} (h : t ρ s = .ok false s1) : mIfS t c c' ρ s = c' ρ s1 := by
  rw [ifS_ev, h, then_ok, if_neg (by decide)]
theorem ifS_t {t : FT} {c c' : FS} {ρ : Env} {s1 : Sto} (h : t ρ s = .ok true s1) : mIfS t c c' ρ s = c ρ s1 := by
  rw [ifS_ev, h, then_ok, if_pos rfl]
theorem mul_lst1 {x : Dv} {k : Nat} (h : k ≤ 1000000) : mulD s (.lst [x]) (.int (k : Int)) = some (.lst (List.replicate k x)) := by
  unfold mulD
  dsimp only [lstOf]
  rw [if_pos ⟨by omega, by omega, by unfold lim; simp; omega⟩, Int.toNat_natCast, List.flatten_replicate_singleton]
theorem mul_tup1 {x : Dv} {k : Nat} (h : k ≤ 1000000) : mulD s (.tup [x]) (.int (k : Int)) = some (.tup (List.replicate k x)) := by
  unfold mulD
  dsimp only
  rw [if_pos ⟨by omega, by omega, by unfold lim; simp; omega⟩, Int.toNat_natCast, List.flatten_replicate_singleton]
theorem lst_v {fa : FA} {ρ : Env} {s1 : Sto} {ws : List Dv} (h : fa ρ s = .ok ws s1) (hl : ws.length ≤ 1000000) : mLst fa ρ s = .ok (.lst ws) s1 := by
  rw [lst_ev, h, bind_ok, if_pos (by unfold lim; omega)]
theorem tup_v {fa : FA} {ρ : Env} {s1 : Sto} {ws : List Dv} (h : fa ρ s = .ok ws s1) (hl : ws.length ≤ 1000000) : mTup fa ρ s = .ok (.tup ws) s1 := by
  rw [tup_ev, h, bind_ok, if_pos (by unfold lim; omega)]
theorem cons_v {f : FE} {fa : FA} {ρ : Env} {s1 s2 : Sto} {w : Dv} {ws : List Dv} (h : f ρ s = .ok w s1) (h2 : fa ρ s1 = .ok ws s2) : mCons f fa ρ s = .ok (w :: ws) s2 := by
  rw [cons_ev, h, bind_ok, h2, bind_ok]
theorem call_v {d : Fn} {fa : FA} {ρ : Env} {s1 : Sto} {ws : List Dv} {r : R Dv} (h : fa ρ s = .ok ws s1) (h2 : d ws s1 = r) : mCall d fa ρ s = r := by
  rw [call_ev, h, bind_ok, h2]
theorem bin_v {o : O2} {f g : FE} {ρ : Env} {s1 s2 : Sto} {x y z : Dv} (h : f ρ s = .ok x s1) (h2 : g ρ s1 = .ok y s2) (h3 : o s2 x y = some z) : mBin o f g ρ s = .ok z s2 := by
  rw [bin_ev, h, bind_ok, h2, bind_ok, h3, of_some]
theorem blt_v {o : ON} {fa : FA} {ρ : Env} {s1 : Sto} {ws : List Dv} {z : Dv} (h : fa ρ s = .ok ws s1) (h3 : o s1 ws = some z) : mBlt o fa ρ s = .ok z s1 := by
  rw [blt_ev, h, bind_ok, h3, of_some]
theorem asg_v {f : FE} {i : Nat} {ρ : Env} {s1 : Sto} {w : Dv} (h : f ρ s = .ok w s1) : mAsg f (gN i) ρ s = .nx (ρ.set i (some w)) s1 := by
  rw [asgN_ev, h, then_ok]
theorem ret_v {f : FE} {ρ : Env} {s1 : Sto} {w : Dv} (h : f ρ s = .ok w s1) : mRet f ρ s = .rt w s1 := by
  rw [ret_ev, h, then_ok]
theorem seq_nx {c c' : FS} {ρ ρ1 : Env} {s1 : Sto} {r : C} (h : c ρ s = .nx ρ1 s1) (h2 : c' ρ1 s1 = r) : mSeq c c' ρ s = r := by
  rw [seq_ev, h, seqK_nx, h2]
theorem seq_rt {c c' : FS} {ρ : Env} {s1 : Sto} {w : Dv} (h : c ρ s = .rt w s1) : mSeq c c' ρ s = .rt w s1 := by
  rw [seq_ev, h, seqK_rt]
theorem test_v {f : FE} {ρ : Env} {s1 : Sto} {b : Bool} (h : f ρ s = .ok (.bl b) s1) : mTest f ρ s = .ok b s1 := by
  rw [test_ev, h, bind_ok, testK_bl]
section
open Classical
variable {vs : List Nat} {g : FG} {tt : FT} {elt : FE} {ρ : Env}
/-- a comprehension with a test that changes nothing -/
theorem comp_filt {α : Type} {f : FI} {l : List α} {e : α → Dv} (φ : α → Dv) (t : α → Bool) (hf : f ρ s = .ok { ws := l.map e } s) (hl : l.length ≤ lim) (h : ∀ a ∈ l, ∃ ρ1, g (e a) (wipeD ρ vs) s = some ρ1 ∧ tt ρ1 s = .ok (t a) s ∧ (t a = true → elt ρ1 s = .ok (φ a) s)) : mComp f vs g tt elt ρ s = .ok (.lst ((l.filter t).map φ)) s := by
  have key : ∀ {l : List α}, (∀ a ∈ l, ∃ ρ1, g (e a) (wipeD ρ vs) s = some ρ1 ∧ tt ρ1 s = .ok (t a) s ∧ (t a = true → elt ρ1 s = .ok (φ a) s)) → compL none vs g tt elt ρ (l.map e) s = some ((l.filter t).map φ, s) := fun {l} => by
    induction l with
    | nil => intro _; rw [List.map_nil]; simp [compL]
    | cons a l ih =>
      intro h
      obtain ⟨ρ1, h1, h2, h3⟩ := h a List.mem_cons_self
      rw [List.map_cons]
      unfold compL
      rw [if_pos (.inl rfl), h1]
      simp only [h2]
      cases q : t a with
      | true =>
        rw [List.filter_cons_of_pos q]
        simp only [h3 q]
        rw [ih fun b hb => h b (List.mem_cons_of_mem _ hb)]
        rfl
      | false =>
        rw [List.filter_cons_of_neg (by rw [q]; decide)]
        exact ih fun b hb => h b (List.mem_cons_of_mem _ hb)
  unfold mComp
  rw [hf, bind_ok]
  dsimp only
  rw [key h]
  dsimp only
  rw [if_pos (by rw [List.length_map]; exact Nat.le_trans (List.length_filter_le _ _) hl)]
end
end MP

set_option Elab.async false
set_option linter.all false
set_option maxRecDepth 100000
set_option maxHeartbeats 4000000
/-! max of a list of ints, with default= too; a try that runs through -/
namespace MP
open PySem PySem.Spec PyProof.Rows L2
def maxO (d : Int) : List Int → Int
  | [] => d
  | n :: ns => ns.foldl max n
theorem foldl_max_le : ∀ (ns : List Int) (n : Int), n ≤ ns.foldl max n ∧ ∀ m ∈ ns, m ≤ ns.foldl max n
  | [], n => ⟨Int.le_refl _, fun _ h => nomatch h⟩
  | a :: ns, n => by
    obtain ⟨h1, h2⟩ := foldl_max_le ns (max n a)
    refine ⟨Int.le_trans (by omega : n ≤ max n a) h1, fun m hm => ?_⟩
    rcases List.mem_cons.mp hm with rfl | hm
    · exact Int.le_trans (by omega : m ≤ max n m) h1
    · exact h2 m hm
theorem foldl_max_mem : ∀ (ns : List Int) (n : Int), ns.foldl max n ∈ n :: ns
  | [], n => List.mem_cons_self
  | a :: ns, n => by
    have := foldl_max_mem ns (max n a)
    show ns.foldl max (max n a) ∈ _
    rcases List.mem_cons.mp this with h | h
    · rw [h]
      by_cases q : n ≤ a
      · rw [show max n a = a by omega]; exact List.mem_cons_of_mem _ List.mem_cons_self
      · rw [show max n a = n by omega]; exact List.mem_cons_self
    · exact List.mem_cons_of_mem _ (List.mem_cons_of_mem _ h)
theorem maxO_uniq {d m : Int} {ns : List Int} (h : m ∈ ns) (h2 : ∀ y ∈ ns, y ≤ m) : m = maxO d ns := by
  cases ns with
  | nil => cases h
  | cons a ns =>
    have h3 := h2 _ (foldl_max_mem ns a)
    obtain ⟨h4, h5⟩ := foldl_max_le ns a
    show m = ns.foldl max a
    rcases List.mem_cons.mp h with rfl | h
    · omega
    · have := h5 m h; omega
section
variable {X : Cx} {Γ : Ct} {W : WX}
def rMaxDef (K : PySem.W.Frag) : List V → List V → Hp → VK → Prop := fun vs zs H Q => ∃ (a : Addr) (ns : List Int) (d : Int), vs = [V.ref a] ∧ zs = [V.int d] ∧ SqL K H a (ns.map V.int) ∧ Q (.int (maxO d ns)) H
theorem cr_maxDef (hc : X.calm = true) (hu : X.A.units + 64 < cLine) : CallRK X (.builtin "max") [Str.ofString "default"] (rMaxDef X.K) := by
  intro pins s σ H vs zs us ws Q I r rz h
  obtain ⟨a, ns, d, rfl, rfl, hs, q⟩ := h
  obtain ⟨its, rv, hl, _⟩ := I.list hs
  rw [Vals.ref1 r]
  obtain ⟨w1, rfl, e1⟩ := vals1 rz
  have hd : PyData.depthAll (ns.map .int) = 0 := deep_ints ns
  refine PySem.W.max_list_default (xs := ns.map .int) (I.ok.hd hc) hl.isList (IntsAre.reads _ rv.ints) ?_ (by rw [hd]; omega) (fun h0 h' tk hk => ?_) fun y ys i v h' tk bs hx hv hr hk => ?_
  · constructor
    · intro x hx y hy
      obtain ⟨i, _, rfl⟩ := List.mem_map.mp hx
      obtain ⟨j, _, rfl⟩ := List.mem_map.mp hy
      simp [PySem.W.alike]
    · intro x hx
      obtain ⟨i, _, rfl⟩ := List.mem_map.mp hx
      intro z; cases z
  · have : ns = [] := by simpa using h0
    subst this
    exact ⟨.int d, H, I.kept hk, e1, q⟩
  · cases ns with
    | nil => cases hx
    | cons n ns =>
      cases hx
      rw [PySem.W.maxD_ints] at hr
      cases hr
      exact ⟨.int _, H, I.kept hk, ⟨_, rfl⟩, q⟩
/-- max(x, default=d) -/
def maxDefD : O2 := fun s x y => match y with
  | .int d => match lstOf s x with
    | some ws => (intsOf ws).map fun ns => .int (maxO d ns)
    | none => none
  | _ => none
theorem me_maxDef {e e2 : Expr} {f g : FE} {p pos kp : Pos} (hK : Γ.K = X.K) (hc : X.calm = true) (hu : X.A.units + 64 < cLine) (hg : Gl X "max") (hm : X.mg "max" = none) (ha : ME X Γ W e f) (hb : ME X Γ W e2 g)
    (he : backTo pos (starEach [e] X.env) = (false, eval e X.env) :: backTo pos (starEach [] X.env) := by rfl) (he' : starEach [e] X.env = (false, eval e X.env) :: starEach [] X.env := by rfl) (hpl : (backTo pos (starEach [e] X.env)).any (·.1) = false := by rfl)
    (hall : (backToKw pos (keywordEach [⟨some "default", e2, kp⟩] X.env)).all (·.1.isSome) = true := by rfl) (hnone : (backToKw pos (keywordEach [⟨some "default", e2, kp⟩] X.env)).any (·.1.isNone) = false := by rfl) (hks : (backToKw pos (keywordEach [⟨some "default", e2, kp⟩] X.env)).filterMap (·.1) = [Str.ofString "default"] := by rfl) :
    ME X Γ W (.Call (.Name "max" p) [e] [⟨some "default", e2, kp⟩] pos) (mBin maxDefD f g) :=
  PE.imp (pe_callBK (cr_maxDef hc hu) hg hm (by decide +kernel) (pa_cons ha pa_nil he') (pk_cons hb pk_nil) (by decide) (by decide) he hpl hall hnone hks) fun σ H Q ⟨μ, Z, ρ, s, hE, hR, q⟩ =>
    eE hE hR q fun x s1 u H1 μ1 e1 hE1 R1 r1 q1 => eE hE1 R1 q1 fun y s2 v H2 μ2 e2 hE2 R2 r2 q2 => by
      obtain ⟨w, hw, k⟩ := ofE q2
      unfold maxDefD at hw
      split at hw
      · rename_i d
        split at hw
        · rename_i ws ql
          cases qi : intsOf ws with
          | none => rw [qi] at hw; cases hw
          | some ns =>
            rw [qi] at hw
            cases hw
            obtain ⟨a, ys, rfl, h2, h3⟩ := lstOf_ok R2 (r1.mono e2) ql
            rw [intsOf_ok qi] at h3
            have h4 := h3.ints
            subst h4
            refine ⟨a, ns, d, rfl, ?_, SqL.of h2, k _ H2 .refl R2 rfl⟩
            rw [show v = .int d from r2]
        · cases hw
      · cases hw
/-- max(x), some ints -/
def maxLD : ON := fun s xs => match xs with
  | [x] => match lstOf s x with
    | some ws => match intsOf ws with
      | some (n :: ns) => some (.int (maxO 0 (n :: ns)))
      | _ => none
    | none => none
  | _ => none
theorem sMaxL (hK : Γ.K = X.K) : OpN Γ (rMax X.K) maxLD := fun H μ Z s xs w vs Q hR rx e k => by
  rw [← hK]
  unfold maxLD at e
  split at e
  · rename_i y
    split at e
    · rename_i ws q
      split at e
      · rename_i n ns q2
        cases e
        obtain ⟨v, rfl, r1⟩ := one rx
        obtain ⟨a, ys, rfl, h2, h3⟩ := lstOf_ok hR r1 q
        rw [intsOf_ok q2] at h3
        have h4 := h3.ints
        subst h4
        refine ⟨a, n :: ns, rfl, SqL.of h2, Nat.succ_pos _, fun m hm h => ?_⟩
        rw [maxO_uniq (d := 0) hm h]
        exact k _ H .refl hR rfl
      · cases e
    · cases e
  · cases e
/-- a try whose body raises nothing -/
def mTryN (c : FS) : FS := fun ρ s => match c ρ s with
  | .er _ _ _ => .no
  | r => r
theorem ms_tryN {body : List Stmt} {h₀ : ExceptHandler} {hs : List ExceptHandler} {pos : Pos} {c : FS} (hb : MB X.nox Γ W0 body c) : MS X Γ W (.Try body (h₀ :: hs) [] [] pos) (mTryN c) :=
  PS.imp (ps_try_thru0 hb) fun D σ H ⟨μ, Z, ρ, s, hE, hR, q⟩ => by
    refine ⟨μ, Z, ρ, s, hE, hR, ?_⟩
    unfold mTryN at q
    cases e : c ρ s with
    | er x ρ' s' => rw [e] at q; exact q.elim
    | nx _ _ => rw [e] at q; exact q
    | rt _ _ => rw [e] at q; exact q
    | bk _ _ => rw [e] at q; exact q
    | ct _ _ => rw [e] at q; exact q
    | no => rw [e] at q; exact q
end
end MP

set_option Elab.async false
set_option linter.all false
set_option maxRecDepth 100000
set_option maxHeartbeats 4000000
/-! list(zip(x, y)) of two tuples -/
namespace MPZ
open PySem PySem.W
section
variable {prog : Program} {w : World} {A : Around} {E : Value → Shared → Prop} {s : Shared} {z TI TO T i1 i2 l1 l2 : Addr} {f : Bool} {oT : Obj} {k1 k2 : Nat} {xs ys : Array Value}
/-- a zip that goes on while its last tuple is still held -/
structure On (h : Heap) (z TI i1 i2 l1 l2 : Addr) (k1 k2 : Nat) (xs ys : Array Value) : Prop where
  tI : PySem.IsPair h TI (.ref i1) (.ref i2)
  a : h.IsTupleIter i1 l1 k1
  b : h.IsTupleIter i2 l2 k2
  la : h.IsTuple l1 xs
  lb : h.IsTuple l2 ys
theorem held_item {x y : Value} {Q : Value → Shared → Prop} (D : ZipApart z TI TO i1 i2 l1 l2) (hz : IsZipHeld s.heap z TI TO T f) (hT : s.heap.get? T = some oT) (o : On s.heap z TI i1 i2 l1 l2 k1 k2 xs ys) (hx : xs[k1]? = some x) (hy : ys[k2]? = some y)
    (hQ : ∀ g, IsZipHeld g z TI TO T true → g.IsTupleIter i1 l1 (k1 + 1) → g.IsTupleIter i2 l2 (k2 + 1) → PySem.IsPair g s.heap.objs.size x y → g.objs.size = s.heap.objs.size + 1 →
      (∀ c u, c ≠ z → c ≠ i1 → c ≠ i2 → s.heap.get? c = some u → g.get? c = some u) → Q (.ref s.heap.objs.size) { s with heap := g }) :
    wpAny (model prog w) A (Builtin.«zip.__next__» ⟨[.ref z], []⟩) (fun fin s' => ∃ v, fin = .done (.ret v) ∧ Q v s') E s := by
  obtain ⟨tI, a, b, la, lb⟩ := o
  show wpAny _ _ (field (.ref z) 2 >>= _) _ _ _; refine wpAny_bind (wpAny_field hz rfl (x := .bool false) rfl ?_)
  show wpAny _ _ (field (.ref z) 3 >>= _) _ _ _; refine wpAny_bind (wpAny_field hz rfl (x := .ref TI) rfl ?_)
  refine wpAny_bind (wpAny_seqItems tI rfl ?_); show wpAny _ _ (Builtin.SmallTypes.ownedTupleIsFree (.ref z) >>= _) _ _ _
  refine wpAny_bind (wpAny_tupleHeld_zip hz hT fun g1 z1 s1 => ?_); simp only [Bool.false_eq_true, if_false]
  refine wpAny_bind ?_; rw [← Array.forIn_toList]; simp only [List.forIn_cons, List.forIn_nil]
  refine wpAny_bind (wpAny_bind (wpAny_holding ?_)); show wpAny _ _ (Builtin.SmallTypes.nextOf (.ref i1) >>= _) _ _ _
  refine wpAny_bind (RZ.nextOf_tuple_item (s := { s with heap := g1 }) (a.extBut s1.extBut D.i1z) (la.extBut s1.extBut D.l1z) hx fun g2 a2 s2 => wpAny_pure ?_)
  refine wpAny_pure ?_; refine wpAny_bind (wpAny_bind (wpAny_holding ?_)); show wpAny _ _ (Builtin.SmallTypes.nextOf (.ref i2) >>= _) _ _ _
  refine wpAny_bind (RZ.nextOf_tuple_item (s := { s with heap := g2 }) ((b.extBut s1.extBut D.i2z).extBut s2.extBut D.i12.symm) ((lb.extBut s1.extBut D.l2z).extBut s2.extBut D.l2i1) hy fun g3 b3 s3 => wpAny_pure ?_)
  refine wpAny_pure (wpAny_pure ?_); show wpAny _ _ (newTuple [x, y] >>= _) _ _ _; refine wpAny_bind (wpAny_newTuple ?_)
  have sz : g3.objs.size = s.heap.objs.size := by rw [s3.1, s2.1, s1.1]
  have z3 : IsZipHeld g3 z TI TO T true := s3.extBut _ _ D.i2z.symm (s2.extBut _ _ D.i1z.symm z1)
  have a3 : g3.IsTupleIter i1 l1 (k1 + 1) := a2.extBut s3.extBut D.i12
  have p3 : PySem.IsPair (g3.push { cls := .type "tuple", data := .seq #[x, y] }) g3.objs.size x y := Heap.get?_push_size _ rfl
  have n3 : (g3.push { cls := .type "tuple", data := .seq #[x, y] }).objs.size = g3.objs.size + 1 := Heap.size_push ..
  refine wpAny_pure ⟨_, rfl, ?_⟩; show Q (.ref g3.objs.size) _; rw [sz] at p3 n3 ⊢
  exact hQ _ (Heap.get?_push_of_some _ z3) (a3.at fun u e => Heap.get?_push_of_some _ e) (b3.at fun u e => Heap.get?_push_of_some _ e) p3 n3 fun c u c1 c2 c3 e => Heap.get?_push_of_some _ (s3.extBut _ _ c3 (s2.extBut _ _ c2 (s1.extBut _ _ c1 e)))
theorem held_end {Q : Fin → Shared → Prop} (hh : A.handled = none) (D : ZipApart z TI TO i1 i2 l1 l2) (hz : IsZipHeld s.heap z TI TO T f) (hT : s.heap.get? T = some oT) (o : On s.heap z TI i1 i2 l1 l2 k1 k2 xs ys) (hend : xs[k1]? = none ∨ ys[k2]? = none)
    (hE : ∀ g e, (∀ c u, c ≠ z → c ≠ i1 → c ≠ i2 → s.heap.get? c = some u → g.get? c = some u) → (∃ u, g.get? e = some u ∧ u.cls = .type "StopIteration") → E (.ref e) { s with heap := g }) :
    wpAny (model prog w) A (Builtin.«zip.__next__» ⟨[.ref z], []⟩) Q E s := by
  obtain ⟨tI, a, b, la, lb⟩ := o
  show wpAny _ _ (field (.ref z) 2 >>= _) _ _ _; refine wpAny_bind (wpAny_field hz rfl (x := .bool false) rfl ?_)
  show wpAny _ _ (field (.ref z) 3 >>= _) _ _ _; refine wpAny_bind (wpAny_field hz rfl (x := .ref TI) rfl ?_)
  refine wpAny_bind (wpAny_seqItems tI rfl ?_); show wpAny _ _ (Builtin.SmallTypes.ownedTupleIsFree (.ref z) >>= _) _ _ _
  refine wpAny_bind (wpAny_tupleHeld_zip hz hT fun g1 z1 s1 => ?_); simp only [Bool.false_eq_true, if_false]
  refine wpAny_bind ?_; rw [← Array.forIn_toList]; simp only [List.forIn_cons, List.forIn_nil]
  refine wpAny_bind (wpAny_bind (wpAny_holding ?_)); show wpAny _ _ (Builtin.SmallTypes.nextOf (.ref i1) >>= _) _ _ _
  cases hx : xs[k1]? with
  | none =>
    refine wpAny_bind (RZ.nextOf_tuple_end (s := { s with heap := g1 }) hh (a.extBut s1.extBut D.i1z) (la.extBut s1.extBut D.l1z) hx fun g2 e s2 he => ?_)
    exact hE g2 e (fun c u c1 c2 _ q => s2 _ _ c2 (s1.extBut _ _ c1 q)) he
  | some x =>
    have hy : ys[k2]? = none := hend.elim (fun q => by rw [hx] at q; cases q) id
    refine wpAny_bind (RZ.nextOf_tuple_item (s := { s with heap := g1 }) (a.extBut s1.extBut D.i1z) (la.extBut s1.extBut D.l1z) hx fun g2 a2 s2 => wpAny_pure ?_)
    refine wpAny_pure ?_; refine wpAny_bind (wpAny_bind (wpAny_holding ?_)); show wpAny _ _ (Builtin.SmallTypes.nextOf (.ref i2) >>= _) _ _ _
    refine wpAny_bind (RZ.nextOf_tuple_end (s := { s with heap := g2 }) hh ((b.extBut s1.extBut D.i2z).extBut s2.extBut D.i12.symm) ((lb.extBut s1.extBut D.l2z).extBut s2.extBut D.l2i1) hy fun g3 e s3 he => ?_)
    exact hE g3 e (fun c u c1 c2 c3 q => s3 _ _ c3 (s2.extBut _ _ c2 (s1.extBut _ _ c1 q))) he
theorem next_held {x y : Value} {Q : Option Value → Shared → Prop} (D : ZipApart z TI TO i1 i2 l1 l2) (hz : IsZipHeld s.heap z TI TO T f) (hT : s.heap.get? T = some oT) (o : On s.heap z TI i1 i2 l1 l2 k1 k2 xs ys) (hx : xs[k1]? = some x) (hy : ys[k2]? = some y)
    (hQ : ∀ g, IsZipHeld g z TI TO T true → g.IsTupleIter i1 l1 (k1 + 1) → g.IsTupleIter i2 l2 (k2 + 1) → PySem.IsPair g s.heap.objs.size x y → g.objs.size = s.heap.objs.size + 1 →
      (∀ c u, c ≠ z → c ≠ i1 → c ≠ i2 → s.heap.get? c = some u → g.get? c = some u) → Q (some (.ref s.heap.objs.size)) { s with heap := g }) : wpAny (model prog w) A (pyNext (.ref z)) Q E s := by
  have hTy : s.TypeIs (.ref z) "zip" := ⟨_, hz, rfl⟩
  unfold pyNext; exact wpAny_bind (wpAny_attempt (wpAny_callSpecial?_slot (name := Str.ofString "__next__") hTy F.slot_zip_next (wpAny_call_entry F.slot_zip_next hTy F.entry_zip_next (held_item D hz hT o hx hy fun g q1 q2 q3 q4 q5 q6 => wpAny_pure (hQ g q1 q2 q3 q4 q5 q6)) (F.args_zip_next_1 _))))
theorem done_held {Q : Option Value → Shared → Prop} (hh : A.handled = none) (D : ZipApart z TI TO i1 i2 l1 l2) (hz : IsZipHeld s.heap z TI TO T f) (hT : s.heap.get? T = some oT) (o : On s.heap z TI i1 i2 l1 l2 k1 k2 xs ys) (hend : xs[k1]? = none ∨ ys[k2]? = none)
    (hQ : ∀ g, (∀ c u, c ≠ z → c ≠ i1 → c ≠ i2 → s.heap.get? c = some u → g.get? c = some u) → Q none { s with heap := g }) : wpAny (model prog w) A (pyNext (.ref z)) Q E s := by
  have hTy : s.TypeIs (.ref z) "zip" := ⟨_, hz, rfl⟩
  unfold pyNext; refine wpAny_bind (wpAny_attempt (wpAny_callSpecial?_slot (name := Str.ofString "__next__") hTy F.slot_zip_next (wpAny_call_entry F.slot_zip_next hTy F.entry_zip_next (held_end hh D hz hT o hend fun g e hk he => ?_) (F.args_zip_next_1 _))))
  obtain ⟨u, hu, hc⟩ := he
  exact wpAny_bind (wpAny_isInstance (T := "StopIteration") (b := true) ⟨u, hu, hc⟩ isSubtype_stop (wpAny_pure (hQ _ hk)))

/-- where a zip of two tuples stands -/
structure Zst (h : Heap) (z TI TO i1 i2 l1 l2 S : Addr) (k : Nat) (xs ys : Array Value) : Prop where
  on : On h z TI i1 i2 l1 l2 k k xs ys
  st : (PySem.IsZip h z TI TO .none ∧ PySem.IsPair h TO .none .none) ∨ ∃ T f oT, IsZipHeld h z TI TO T f ∧ h.get? T = some oT ∧ T ≠ z ∧ T ≠ i1 ∧ T ≠ i2 ∧ T ≠ S
variable {S : Addr} {k : Nat}
theorem On.mv {h g : Heap} (o : On h z TI i1 i2 l1 l2 k1 k2 xs ys) (D : ZipApart z TI TO i1 i2 l1 l2) (ga : g.IsTupleIter i1 l1 (k1 + 1)) (gb : g.IsTupleIter i2 l2 (k2 + 1)) (hk : ∀ c u, c ≠ z → c ≠ TO → c ≠ i1 → c ≠ i2 → h.get? c = some u → g.get? c = some u) : On g z TI i1 i2 l1 l2 (k1 + 1) (k2 + 1) xs ys where
  tI := hk _ _ D.TIz D.TITO D.TIi1 D.TIi2 o.tI
  a := ga
  b := gb
  la := let ⟨u, e, q⟩ := o.la; ⟨u, hk _ _ D.l1z D.l1TO D.l1i1 D.l1i2 e, q⟩
  lb := let ⟨u, e, q⟩ := o.lb; ⟨u, hk _ _ D.l2z D.l2TO D.l2i1 D.l2i2 e, q⟩
theorem zst_item {x y : Value} {Q : Option Value → Shared → Prop} (D : ZipApart z TI TO i1 i2 l1 l2) (zs : Zst s.heap z TI TO i1 i2 l1 l2 S k xs ys) (hS : S < s.heap.objs.size) (hx : xs[k]? = some x) (hy : ys[k]? = some y)
    (hQ : ∀ g, Zst g z TI TO i1 i2 l1 l2 S (k + 1) xs ys → PySem.IsPair g s.heap.objs.size x y → g.objs.size = s.heap.objs.size + 1 → (∀ c u, c ≠ z → c ≠ TO → c ≠ i1 → c ≠ i2 → s.heap.get? c = some u → g.get? c = some u) → Q (some (.ref s.heap.objs.size)) { s with heap := g }) :
    wpAny (model prog w) A (pyNext (.ref z)) Q E s := by
  obtain ⟨on, st⟩ := zs
  have lt1 : i1 < s.heap.objs.size := let ⟨_, e, _⟩ := on.a; Heap.lt_size e
  have lt2 : i2 < s.heap.objs.size := let ⟨_, e, _⟩ := on.b; Heap.lt_size e
  rcases st with ⟨hz, hTO⟩ | ⟨T, f, oT, hz, hT, n1, n2, n3, n4⟩
  · refine RZ.pyNext_zipT_item D hz on.tI hTO on.a on.b on.la on.lb hx hy fun g q1 _ q3 q4 q5 q6 q7 => hQ g ⟨on.mv D q3 q4 q7, .inr ⟨_, false, _, q1, q5, ?_, Nat.ne_of_gt lt1, Nat.ne_of_gt lt2, Nat.ne_of_gt hS⟩⟩ q5 q6 q7
    exact Nat.ne_of_gt (Heap.lt_size hz)
  · exact next_held D hz hT on hx hy fun g q1 q3 q4 q5 q6 q7 => hQ g ⟨on.mv D q3 q4 fun c u c1 _ c3 c4 e => q7 c u c1 c3 c4 e, .inr ⟨T, true, oT, q1, q7 _ _ n1 n2 n3 hT, n1, n2, n3, n4⟩⟩ q5 q6 fun c u c1 _ c3 c4 e => q7 c u c1 c3 c4 e
theorem zst_end {Q : Option Value → Shared → Prop} (hh : A.handled = none) (D : ZipApart z TI TO i1 i2 l1 l2) (zs : Zst s.heap z TI TO i1 i2 l1 l2 S k xs ys) (hend : xs[k]? = none ∨ ys[k]? = none)
    (hQ : ∀ g, (∀ c u, c ≠ z → c ≠ TO → c ≠ i1 → c ≠ i2 → s.heap.get? c = some u → g.get? c = some u) → Q none { s with heap := g }) : wpAny (model prog w) A (pyNext (.ref z)) Q E s := by
  obtain ⟨on, st⟩ := zs
  rcases st with ⟨hz, hTO⟩ | ⟨T, f, oT, hz, hT, _⟩
  · exact RZ.pyNext_zipT_end hh D hz on.tI hTO on.a on.b on.la on.lb hend hQ
  · exact done_held hh D hz hT on hend fun g q => hQ g fun c u c1 _ c3 c4 e => q c u c1 c3 c4 e
theorem Zst.up {h g : Heap} (zs : Zst h z TI TO i1 i2 l1 l2 S k xs ys) (lt : z < S ∧ TI < S ∧ TO < S ∧ i1 < S ∧ i2 < S ∧ l1 < S ∧ l2 < S) (hk : ∀ c u, c ≠ S → h.get? c = some u → g.get? c = some u) : Zst g z TI TO i1 i2 l1 l2 S k xs ys := by
  obtain ⟨⟨tI, a, b, la, lb⟩, st⟩ := zs
  obtain ⟨n1, n2, n3, n4, n5, n6, n7⟩ := lt
  refine ⟨⟨hk _ _ (Nat.ne_of_lt n2) tI, a.at fun u e => hk _ u (Nat.ne_of_lt n4) e, b.at fun u e => hk _ u (Nat.ne_of_lt n5) e, (let ⟨u, e, q⟩ := la; ⟨u, hk _ _ (Nat.ne_of_lt n6) e, q⟩), (let ⟨u, e, q⟩ := lb; ⟨u, hk _ _ (Nat.ne_of_lt n7) e, q⟩)⟩, ?_⟩
  rcases st with ⟨hz, hTO⟩ | ⟨T, f, oT, hz, hT, m1, m2, m3, m4⟩
  · exact .inl ⟨hk _ _ (Nat.ne_of_lt n1) hz, hk _ _ (Nat.ne_of_lt n3) hTO⟩
  · exact .inr ⟨T, f, oT, hk _ _ (Nat.ne_of_lt n1) hz, hk _ _ m4 hT, m1, m2, m3, m4⟩
/-- the pairs, as new tuples above lo -/
structure Prs (xs ys : Array Value) (lo : Addr) (h : Heap) (as : List Addr) : Prop where
  rise : as.Pairwise (· < ·)
  over : ∀ a ∈ as, lo < a
  pair : ∀ (j : Nat) (a : Addr), as[j]? = some a → ∃ x y, xs[j]? = some x ∧ ys[j]? = some y ∧ PySem.IsPair h a x y
theorem Prs.low {lo lo' : Addr} {h : Heap} {as : List Addr} (p : Prs xs ys lo h as) (hl : lo' ≤ lo) : Prs xs ys lo' h as := ⟨p.rise, fun a ha => Nat.lt_of_le_of_lt hl (p.over a ha), p.pair⟩
theorem Prs.keep {lo : Addr} {h g : Heap} {as : List Addr} (p : Prs xs ys lo h as) (hk : ∀ b u, lo < b → h.get? b = some u → g.get? b = some u) : Prs xs ys lo g as :=
  ⟨p.rise, p.over, fun j a q => let ⟨x, y, e1, e2, e3⟩ := p.pair j a q; ⟨x, y, e1, e2, hk a _ (p.over a (List.mem_of_getElem? q)) e3⟩⟩
end
section
variable {prog : Program} {w : World} {A : Around} {s : Shared} {R : Result → Shared → Prop} {z TI TO i1 i2 l1 l2 S : Addr} {xs ys : Array Value}
abbrev Lst (h : Heap) (S : Addr) (acc : Array Value) (c : Nat) : Prop := h.get? S = some { cls := .type "list", dict := none, data := .seq acc c, slots := #[] }
theorem zip_loop (hh : A.handled = none) (D : ZipApart z TI TO i1 i2 l1 l2) (lt : z < S ∧ TI < S ∧ TO < S ∧ i1 < S ∧ i2 < S ∧ l1 < S ∧ l2 < S) (he : xs.size = ys.size) (hn : xs.size ≤ sizeLine) (res : Value) {h1 : Heap}
    (hR : ∀ g tk acc c as, (∀ b u, b ≠ S → b ≠ z → b ≠ TO → b ≠ i1 → b ≠ i2 → h1.get? b = some u → g.get? b = some u) → Lst g S acc c → as.length = xs.size → Prs xs ys S g as → acc.toList = as.map Value.ref → R (.ok (.ret res)) { s with heap := g, toks := tk }) :
    ∀ (k i : Nat) (h : Heap) (tk c : Nat) (acc : Array Value) (as : List Addr), xs.size - i = k → i ≤ xs.size → Zst h z TI TO i1 i2 l1 l2 S i xs ys → (∀ b u, b ≠ S → b ≠ z → b ≠ TO → b ≠ i1 → b ≠ i2 → h1.get? b = some u → h.get? b = some u) →
      Lst h S acc c → acc.toList = as.map Value.ref → as.length = i → Prs xs ys S h as → codeAny (model prog w) A (.builtin "list.extend.loop" ⟨[.ref S, .ref z, res], []⟩) R { s with heap := h, toks := tk } := by
  obtain ⟨n1, n2, n3, n4, n5, n6, n7⟩ := id lt
  intro k
  induction k with
  | zero =>
    intro i h tk c acc as hk hi zs keep hS hacc hl P
    refine codeAny_builtin PySem.F.entry_extend_loop ?_; rw [Around.under_plainId PySem.F.plain_extend_loop _]
    show wpAny _ A.in1 (pyNext (.ref z) >>= _) _ _ _
    refine wpAny_bind (zst_end (s := { s with heap := h, toks := tk }) (A := A.in1) hh D zs (.inl (Array.getElem?_eq_none (by omega))) fun g hg => ?_)
    exact wpAny_pure (hR g tk acc c as (fun b u b1 b2 b3 b4 b5 e => hg b u b2 b3 b4 b5 (keep b u b1 b2 b3 b4 b5 e)) (hg S _ (Nat.ne_of_gt n1) (Nat.ne_of_gt n3) (Nat.ne_of_gt n4) (Nat.ne_of_gt n5) hS) (by omega)
      (P.keep fun b u q e => hg b u (Nat.ne_of_gt (Nat.lt_trans n1 q)) (Nat.ne_of_gt (Nat.lt_trans n3 q)) (Nat.ne_of_gt (Nat.lt_trans n4 q)) (Nat.ne_of_gt (Nat.lt_trans n5 q)) e) hacc)
  | succ k ih =>
    intro i h tk c acc as hk hi zs keep hS hacc hl P
    have hlt : i < xs.size := by omega
    have hsz : acc.size = i := by rw [← Array.length_toList, hacc, List.length_map, hl]
    refine codeAny_builtin PySem.F.entry_extend_loop ?_; rw [Around.under_plainId PySem.F.plain_extend_loop _]
    show wpAny _ A.in1 (pyNext (.ref z) >>= _) _ _ _
    refine wpAny_bind (zst_item (s := { s with heap := h, toks := tk }) (S := S) D zs (Heap.lt_size hS) (Array.getElem?_eq_getElem hlt) (Array.getElem?_eq_getElem (by omega)) fun g zg hp hg kg => ?_)
    dsimp only at hp hg kg ⊢
    have hSg := kg S _ (Nat.ne_of_gt n1) (Nat.ne_of_gt n3) (Nat.ne_of_gt n4) (Nat.ne_of_gt n5) hS
    have hSl : S < h.objs.size := Heap.lt_size hS
    have up : ∀ b u, b ≠ S → g.get? b = some u → (g.update S (Obj.mapSeq (·.push (Value.ref h.objs.size)))).get? b = some u := fun b u hb e => (Heap.get?_update_other _ _ (Ne.symm hb)).trans e
    show wpAny _ A.in1 (updateSeq S (·.push (Value.ref h.objs.size)) >>= _) _ _ _
    refine wpAny_bind (wpAny_updateSeq hSg rfl (wpAny_pure ⟨plainId_quiet PySem.F.plain_extend_loop _, ih (i + 1) _ tk _ (acc.push (Value.ref h.objs.size)) (as ++ [h.objs.size]) (by omega) hlt (zg.up lt up)
      (fun b u b1 b2 b3 b4 b5 e => up b u b1 (kg b u b2 b3 b4 b5 (keep b u b1 b2 b3 b4 b5 e))) (Heap.get?_update_self _ hSg rfl) (by rw [Array.toList_push, hacc, List.map_append]; rfl) (by rw [List.length_append, hl]; rfl) ⟨?_, ?_, ?_⟩⟩) (by rw [hsz]; omega) (by rw [Array.size_push]; omega))
    · refine List.pairwise_append.mpr ⟨P.rise, List.pairwise_singleton _ _, fun a ha b hb => ?_⟩
      rw [List.mem_singleton.mp hb]
      obtain ⟨j, hj⟩ := List.mem_iff_getElem?.mp ha
      obtain ⟨_, _, _, _, e⟩ := P.pair j a hj
      exact Heap.lt_size e
    · intro a ha
      rcases List.mem_append.mp ha with ha | ha
      · exact P.over a ha
      · rw [List.mem_singleton.mp ha]; exact hSl
    · intro j b hj
      rcases Nat.lt_trichotomy j as.length with q | q | q
      · rw [List.getElem?_append_left q] at hj
        obtain ⟨x, y, e1, e2, e3⟩ := P.pair j b hj
        have hb := P.over b (List.mem_of_getElem? hj)
        exact ⟨x, y, e1, e2, up b _ (Nat.ne_of_gt hb) (kg b _ (Nat.ne_of_gt (Nat.lt_trans n1 hb)) (Nat.ne_of_gt (Nat.lt_trans n3 hb)) (Nat.ne_of_gt (Nat.lt_trans n4 hb)) (Nat.ne_of_gt (Nat.lt_trans n5 hb)) e3)⟩
      · subst q
        have hb : h.objs.size = b := by simpa using hj
        subst hb
        exact ⟨_, _, by rw [hl]; exact Array.getElem?_eq_getElem hlt, by rw [hl]; exact Array.getElem?_eq_getElem (by omega), up _ _ (Nat.ne_of_gt hSl) hp⟩
      · have : (as ++ [h.objs.size])[j]? = none := List.getElem?_eq_none (by rw [List.length_append, List.length_singleton]; omega)
        rw [this] at hj; cases hj
theorem zip_len : typeLookup (.type "zip") "__len__" = pure none := am_miss_of_fast (by decide +kernel)
theorem zip_hint : typeLookup (.type "zip") "__length_hint__" = pure none := am_miss_of_fast (by decide +kernel)
theorem Zst.ty {h : Heap} {k : Nat} (zs : Zst h z TI TO i1 i2 l1 l2 S k xs ys) {s : Shared} (e : s.heap = h) : s.TypeIs (.ref z) "zip" := by
  subst e
  rcases zs.st with ⟨hz, _⟩ | ⟨_, _, _, hz, _⟩
  · exact ⟨_, hz, rfl⟩
  · exact ⟨_, hz, rfl⟩
theorem zip_extend (hh : A.handled = none) (D : ZipApart z TI TO i1 i2 l1 l2) (lt : z < S ∧ TI < S ∧ TO < S ∧ i1 < S ∧ i2 < S ∧ l1 < S ∧ l2 < S) (he : xs.size = ys.size) (hn : xs.size ≤ sizeLine) (res : Value) (c0 : Nat)
    (hz : PySem.IsZip s.heap z TI TO .none) (zs : Zst s.heap z TI TO i1 i2 l1 l2 S 0 xs ys) (hS : s.heap.get? S = some { cls := .type "list", data := .seq #[] c0 })
    (hR : ∀ g tk acc c as, (∀ b u, b ≠ S → b ≠ z → b ≠ TO → b ≠ i1 → b ≠ i2 → s.heap.get? b = some u → g.get? b = some u) → Lst g S acc c → as.length = xs.size → Prs xs ys S g as → acc.toList = as.map Value.ref → R (.ok (.ret res)) { s with heap := g, toks := tk }) :
    wpAny (model prog w) A.in1 (Builtin.List.listExtendWith (.ref S) (.ref z) res) (fun fin s' => match fin with | .done f => R (.ok f) s' | .again c' => c'.quiet = true ∧ codeAny (model prog w) A c' R s') (fun e s' => R (.error e) s') s := by
  have key : ∀ (h : Heap) (c1 tk : Nat), (∀ b u, b ≠ S → s.heap.get? b = some u → h.get? b = some u) → h.get? S = some { cls := .type "list", data := .seq #[] c1 } → codeAny (model prog w) A (.builtin "list.extend.loop" ⟨[.ref S, .ref z, res], []⟩) R { s with heap := h, toks := tk } := fun h c1 tk hk h1 =>
    zip_loop (s := s) (h1 := s.heap) hh D lt he hn res hR xs.size 0 h tk c1 #[] [] (Nat.sub_zero _) (Nat.zero_le _) (zs.up lt hk) (fun b u b1 _ _ _ _ e => hk b u b1 e) h1 rfl rfl ⟨List.Pairwise.nil, (fun _ ha => nomatch ha), (fun j a hj => by simp at hj)⟩
  unfold Builtin.List.listExtendWith
  refine wpAny_bind (wpAny_typeOf (T := "zip") (zs.ty rfl) ?_)
  have g1 : Builtin.List.listSameRef (.ref S) (.ref z) = false := by simp [Builtin.List.listSameRef, Nat.ne_of_gt lt.1]
  have g2 : (Value.type "zip" == Value.type "list") = false := by decide
  have g3 : (Value.type "zip" == Value.type "tuple") = false := by decide
  simp only [g1, g2, g3, Bool.or_false, Bool.false_eq_true, if_false]
  refine wpAny_bind (wpAny_pyIter_zip hz ?_); refine wpAny_bind (wpAny_holding ?_); unfold Builtin.List.listLengthHint
  refine wpAny_bind (wpAny_specialOf (zs.ty rfl) zip_len ?_)
  show wpAny _ A.in1 (specialOf (Value.ref z) (Str.ofString "__length_hint__") >>= _) _ _ _
  refine wpAny_bind (wpAny_specialOf (zs.ty rfl) zip_hint ?_); refine wpAny_pure ?_
  show wpAny _ A.in1 (rule "list.extend.makes-room" >>= fun _ => Builtin.List.listTouch (.ref S) >>= fun _ => again (.builtin "list.extend.loop" ⟨[.ref S, .ref z, res], []⟩)) _ _ _
  refine wpAny_bind (wpAny_rule ?_); refine wpAny_bind ?_
  show wpAny _ A.in1 (updateSeq S (·.push .none) >>= fun _ => updateSeq S (·.pop)) _ _ _
  refine wpAny_bind (wpAny_updateSeq hS rfl ?_)
  have q2 := Heap.get?_update_self (Obj.mapSeq (·.push Value.none)) hS rfl
  refine wpAny_updateSeq (hz := by seq_fits) q2 rfl ?_
  have q3 := Heap.get?_update_self (Obj.mapSeq (·.pop)) q2 rfl
  refine wpAny_pure ⟨plainId_quiet PySem.F.plain_extend_loop _, key _ _ _ (fun b u hb e => ?_) q3⟩
  exact (Heap.get?_update_other _ _ (Ne.symm hb)).trans ((Heap.get?_update_other _ _ (Ne.symm hb)).trans e)
theorem zip_init (hh : A.handled = none) (D : ZipApart z TI TO i1 i2 l1 l2) (lt : z < S ∧ TI < S ∧ TO < S ∧ i1 < S ∧ i2 < S ∧ l1 < S ∧ l2 < S) (he : xs.size = ys.size) (hn : xs.size ≤ sizeLine)
    (hz : PySem.IsZip s.heap z TI TO .none) (zs : Zst s.heap z TI TO i1 i2 l1 l2 S 0 xs ys) (hS : s.heap.get? S = some { cls := .type "list", data := .seq #[] })
    (hR : ∀ g tk acc c as, (∀ b u, b ≠ S → b ≠ z → b ≠ TO → b ≠ i1 → b ≠ i2 → s.heap.get? b = some u → g.get? b = some u) → Lst g S acc c → as.length = xs.size → Prs xs ys S g as → acc.toList = as.map Value.ref → R (.ok (.ret .none)) { s with heap := g, toks := tk }) :
    wpAny (model prog w) A.in1 (Builtin.«list.__init__» ⟨[.ref S, .ref z], []⟩) (fun fin s' => match fin with | .done f => R (.ok f) s' | .again c' => c'.quiet = true ∧ codeAny (model prog w) A c' R s') (fun e s' => R (.error e) s') s := by
  show wpAny _ _ (do let old ← Builtin.List.listItems (.ref S); Builtin.List.listUpdate (.ref S) (fun _ => #[]); letGo old.toList.reverse; Builtin.List.listExtendWith (.ref S) (.ref z) .none) _ _ s
  refine wpAny_bind ?_; unfold Builtin.List.listItems; refine wpAny_bind (wpAny_seqItems hS rfl (wpAny_pure ?_))
  show wpAny _ _ (updateSeq S (fun _ => #[]) >>= fun _ => letGo (#[] : Array Value).toList.reverse >>= fun _ => Builtin.List.listExtendWith (.ref S) (.ref z) .none) _ _ s
  refine wpAny_bind (wpAny_updateSeq hS rfl ?_)
  have q2 := Heap.get?_update_self (Obj.mapSeq (fun _ => (#[] : Array Value))) hS rfl
  have oth : ∀ b u, b ≠ S → s.heap.get? b = some u → (s.heap.update S (Obj.mapSeq (fun _ => (#[] : Array Value)))).get? b = some u := fun b u hb e => (Heap.get?_update_other _ _ (Ne.symm hb)).trans e
  refine wpAny_bind (wpAny_letGo ?_)
  exact zip_extend hh D lt he hn .none _ (oth _ _ (Nat.ne_of_lt lt.1) hz) (zs.up lt oth) q2 fun g tk acc c as hk => hR g tk acc c as fun b u b1 b2 b3 b4 b5 e => hk b u b1 b2 b3 b4 b5 (oth b u b1 e)
theorem zip_call {E : Value → Shared → Prop} {Q : Value → Shared → Prop} (hh : A.handled = none) (D : ZipApart z TI TO i1 i2 l1 l2) (lt : z < s.heap.objs.size ∧ TI < s.heap.objs.size ∧ TO < s.heap.objs.size ∧ i1 < s.heap.objs.size ∧ i2 < s.heap.objs.size ∧ l1 < s.heap.objs.size ∧ l2 < s.heap.objs.size) (he : xs.size = ys.size) (hn : xs.size ≤ sizeLine)
    (hz : PySem.IsZip s.heap z TI TO .none) (hTO : PySem.IsPair s.heap TO .none .none) (on : On s.heap z TI i1 i2 l1 l2 0 0 xs ys)
    (hQ : ∀ g tk acc c as, (∀ b u, b ≠ z → b ≠ TO → b ≠ i1 → b ≠ i2 → s.heap.get? b = some u → g.get? b = some u) → Lst g s.heap.objs.size acc c → as.length = xs.size → Prs xs ys s.heap.objs.size g as → acc.toList = as.map Value.ref → Q (.ref s.heap.objs.size) { s with heap := g, toks := tk }) :
    wpAny (model prog w) A (call (.type "list") [.ref z]) Q E s := by
  refine callType_codes (Q₁ := fun obj u => obj = .ref s.heap.objs.size ∧ u = { s with heap := s.heap.push { cls := .type "list", data := .seq #[] } }) PySem.F.called_list (PySem.F.typeCall_list_1 _) PySem.F.entry_list_init (code_list_new _ ⟨rfl, rfl⟩) fun obj u hu => ?_
  obtain ⟨rfl, rfl⟩ := hu
  have hS : (s.heap.push { cls := .type "list", data := .seq #[] }).get? s.heap.objs.size = some { cls := .type "list", data := .seq #[] } := Heap.get?_push_size _ rfl
  have up : ∀ b u, s.heap.get? b = some u → (s.heap.push { cls := .type "list", data := .seq #[] }).get? b = some u := fun b u e => Heap.get?_push_of_some _ e
  have zs : Zst (s.heap.push { cls := .type "list", data := .seq #[] }) z TI TO i1 i2 l1 l2 s.heap.objs.size 0 xs ys :=
    ⟨⟨up _ _ on.tI, on.a.at fun u e => up _ u e, on.b.at fun u e => up _ u e, (let ⟨u, e, q⟩ := on.la; ⟨u, up _ _ e, q⟩), (let ⟨u, e, q⟩ := on.lb; ⟨u, up _ _ e, q⟩)⟩, .inl ⟨up _ _ hz, up _ _ hTO⟩⟩
  refine ⟨⟨_, hS, rfl⟩, PySem.F.args_list_init_2 _ _, zip_init (A := A.in1) hh D lt he hn (up _ _ hz) zs hS fun g tk acc c as hk hL hl hP hacc => ?_⟩
  exact ⟨rfl, hQ g tk acc c as (fun b u b2 b3 b4 b5 e => hk b u (Nat.ne_of_lt (Heap.lt_size e)) b2 b3 b4 b5 (up b u e)) hL hl hP hacc⟩
end
end MPZ

set_option Elab.async false
set_option linter.all false
set_option maxRecDepth 100000
set_option maxHeartbeats 4000000
/-! list(zip(x, y)) of two tuples, as a rule over the data -/
namespace MP
open PySem PySem.Spec PyProof.Rows L2
def updP (H : Hp) : List Addr → List (List V) → Hp
  | a :: as, p :: ps => updP (upd H a (.tup p)) as ps
  | _, _ => H
theorem Un.more {fs ex : List Addr} {H H1 : Hp} {h h' : Heap} {a : Addr} {o : HO} (u : Un fs ex H H1 h h') (hp : h.objs.size ≤ a) (hn : H1 a = none) : Un fs ex H (upd H1 a o) h h' where
  keep := u.keep
  slot := u.slot
  free := fun b ob q n hx => by rw [upd_ne (Nat.ne_of_lt (Nat.lt_of_lt_of_le (Heap.lt_size q) hp))]; exact u.free b ob q n hx
  there := u.there
  tups := fun b xs q => by rw [upd_ne (ne_of_none (u.tups b xs q) hn)]; exact u.tups b xs q
  frzs := fun b ob xs q => by rw [upd_ne (ne_of_none (u.frzs b ob xs q) hn)]; exact u.frzs b ob xs q
  tbls := fun b ps q => by
    obtain ⟨m, e⟩ := u.tbls b ps q
    exact ⟨m, by rw [upd_ne (ne_of_none e hn)]; exact e⟩
theorem HOk.more {P : Program} {w : World} {H : Hp} {h : Heap} {a : Addr} {o : HO} (x : HOk P w H h) (hn : H a = none) (new : ObjOk P w (upd H a o) h a o) : HOk P w (upd H a o) h := fun b u e => by
  by_cases hb : b = a
  · subst hb
    rw [upd_same] at e
    cases e
    exact new
  · rw [upd_ne hb] at e
    exact (x b u e).stay (fun _ _ _ q => q) (fun c q => (upd_ne (ne_of_none q hn)).trans q) fun c ps q => (upd_ne (ne_of_none q hn)).trans q
/-- new tuples are laid, one after another -/
theorem lays {P : Program} {w : World} {fs ex : List Addr} {h h' : Heap} {H : Hp} : ∀ {as : List Addr} {ps : List (List V)} {H1 : Hp}, Un fs ex H H1 h h' → HOk P w H1 h' → as.length = ps.length → (∀ a ∈ as, h.objs.size ≤ a ∧ H1 a = none) → as.Pairwise (· < ·) →
    (∀ (j : Nat) (a : Addr) (p : List V), as[j]? = some a → ps[j]? = some p → ObjOk P w H1 h' a (.tup p)) → Un fs ex H (updP H1 as ps) h h' ∧ HOk P w (updP H1 as ps) h' ∧ ∀ b, b ∉ as → updP H1 as ps b = H1 b
  | [], _, H1, u, k, _, _, _, _ => ⟨u, k, fun _ _ => rfl⟩
  | a :: as, [], H1, u, k, hl, _, _, _ => by cases hl
  | a :: as, p :: ps, H1, u, k, hl, hn, hw, ho => by
    obtain ⟨w1, w2⟩ := List.pairwise_cons.mp hw
    have ha := hn a List.mem_cons_self
    have o1 : ObjOk P w (upd H1 a (.tup p)) h' a (.tup p) := ho 0 a p rfl rfl
    have k1 : HOk P w (upd H1 a (.tup p)) h' := HOk.more k ha.2 o1
    obtain ⟨q1, q2, q3⟩ := lays (as := as) (ps := ps) (Un.more u ha.1 ha.2) k1 (Nat.succ.inj hl) (fun b hb => ⟨(hn b (List.mem_cons_of_mem _ hb)).1, by rw [upd_ne (Nat.ne_of_gt (w1 b hb))]; exact (hn b (List.mem_cons_of_mem _ hb)).2⟩) w2
      fun j b r e1 e2 => ho (j + 1) b r e1 e2
    refine ⟨q1, q2, fun b hb => ?_⟩
    show updP (upd H1 a (.tup p)) as ps b = H1 b
    rw [q3 b fun z => hb (List.mem_cons_of_mem _ z)]
    exact upd_ne fun z => hb (z ▸ List.mem_cons_self)
def prs : List V → List V → List (List V)
  | a :: r, b :: t => [a, b] :: prs r t
  | _, _ => []
theorem prs_len : ∀ {xs ys : List V}, xs.length = ys.length → (prs xs ys).length = xs.length
  | [], [], _ => rfl
  | a :: r, b :: t, h => by show (prs r t).length + 1 = _; rw [prs_len (Nat.succ.inj h)]; rfl
theorem prs_get : ∀ {xs ys : List V} {j : Nat} {p : List V}, (prs xs ys)[j]? = some p → ∃ x y, xs[j]? = some x ∧ ys[j]? = some y ∧ p = [x, y]
  | [], _, j, _, h => by simp [prs] at h
  | _ :: _, [], j, _, h => by simp [prs] at h
  | a :: r, b :: t, 0, _, h => by cases h; exact ⟨a, b, rfl, rfl, rfl⟩
  | a :: r, b :: t, j + 1, _, h => prs_get (xs := r) (ys := t) (j := j) h
def tLZ (K : PySem.W.Frag) (t : TA) : TE := fun σ H Q => t σ H fun vs H1 => ∃ (a b : Addr) (xs ys : List V), vs = [V.ref a, V.ref b] ∧ SqT K H1 a xs ∧ SqT K H1 b ys ∧ xs.length = ys.length ∧
  ∀ (as : List Addr) (S : Addr), as.length = xs.length → as.Pairwise (· < ·) → (∀ c ∈ as, H1 c = none ∧ S < c) → H1 S = none → Q (.ref S) (upd (updP H1 as (prs xs ys)) S (.lst (as.map V.ref)))
section
variable {X : Cx} {t : TA} {e : Expr} {es : List Expr} {p p2 pos pos2 : Pos}
theorem vals_refs : ∀ as : List Addr, Vals (as.map V.ref) (as.map Value.ref)
  | [] => .nil
  | a :: as => .cons rfl (vals_refs as)
theorem apart {N a b : Nat} (ha : a < N) (hb : b < N) : ZipApart (N + 4) (N + 2) (N + 3) N (N + 1) a b := by
  constructor <;> (intro z; have z' : (_ : Nat) = (_ : Nat) := z; omega)
theorem pe_listZip (hc : X.calm = true) (hg : Gl X "list") (hm : X.mg "list" = none) (hg2 : Gl X "zip") (hm2 : X.mg "zip" = none) (ha : PA X (e :: es) t)
    (he : starEach (e :: es) X.env = (false, eval e X.env) :: starEach es X.env := by rfl) (hpl : (backTo pos2 (starEach es X.env)).any (·.1) = false := by rfl)
    (he' : starEach [.Call (.Name "zip" p2) (e :: es) [] pos2] X.env = (false, eval (.Call (.Name "zip" p2) (e :: es) [] pos2) X.env) :: starEach [] X.env := by rfl) (hpl' : (backTo pos (starEach [] X.env)).any (·.1) = false := by rfl) :
    PE X (.Call (.Name "list" p) [.Call (.Name "zip" p2) (e :: es) [] pos2] [] pos) (tLZ X.K t) := by
  refine ⟨fun pins s σ H Q I h => ?_⟩
  refine wpAny_Call_Name_kw (ld_blt I hg hm (u := .type "list") (by decide +kernel) ?_ (by decide) (by decide))
  refine callWith_type1 ?_ he' hpl'
  rw [he']
  refine Calls.spliced_cons ?_
  refine wpAny_Call_Name_kw (ld_blt I hg2 hm2 (u := .type "zip") (by decide +kernel) ?_ (by decide) (by decide))
  refine callWith_type1 (thn (ha.run pos2 pins s σ H _ I h) fun us s1 ⟨vs, H1, I1, r1, q1⟩ => ?_) he hpl
  obtain ⟨a, b, xs, ys, rfl, hx, hy, hl, q⟩ := q1
  obtain ⟨u1, u2, rfl, e1, e2⟩ := vals2 r1
  obtain rfl : u1 = Value.ref a := e1
  obtain rfl : u2 = Value.ref b := e2
  obtain ⟨its, rx, px, zx⟩ := I1.tuple hx
  obtain ⟨jts, ry, py, zy⟩ := I1.tuple hy
  have la : a < s1.heap.objs.size := px.lt
  have lb : b < s1.heap.objs.size := py.lt
  refine RZ.call_zipT (xs := its.toArray) (ys := jts.toArray) px py fun g z1 z2 z3 z4 z5 z6 z7 => ?_
  refine Calls.spliced_nil ?_
  have l1 := rx.length
  have l2 := ry.length
  have D : ZipApart (s1.heap.objs.size + 4) (s1.heap.objs.size + 2) (s1.heap.objs.size + 3) s1.heap.objs.size (s1.heap.objs.size + 1) a b := apart la lb
  have hg6 : ∀ k, k < 5 → s1.heap.objs.size + k < g.objs.size := fun k hk => by rw [z6]; omega
  refine MPZ.zip_call (s := { s1 with heap := g }) (xs := its.toArray) (ys := jts.toArray) (I1.ok.hd hc) D ⟨hg6 4 (by omega), hg6 2 (by omega), hg6 3 (by omega), hg6 0 (by omega), hg6 1 (by omega), Nat.lt_trans la (hg6 0 (by omega)), Nat.lt_trans lb (hg6 0 (by omega))⟩
    (by rw [List.size_toArray, List.size_toArray]; omega) (by rw [List.size_toArray]; omega) z1 z3 ⟨z2, z4, z5, (let ⟨o, e, w⟩ := px; ⟨o, z7 _ _ e, w⟩), (let ⟨o, e, w⟩ := py; ⟨o, z7 _ _ e, w⟩)⟩ fun h' tk acc c as hk hL hal hP hacc => ?_
  dsimp only at hk hL hP ⊢
  rw [List.size_toArray] at hal
  have keep : ∀ b u, s1.heap.get? b = some u → h'.get? b = some u := fun b u e => by
    have hb : (b : Nat) < s1.heap.objs.size := Heap.lt_size e
    exact hk b u (Nat.ne_of_lt (Nat.lt_of_lt_of_le hb (Nat.le_add_right _ _))) (Nat.ne_of_lt (Nat.lt_of_lt_of_le hb (Nat.le_add_right _ _))) (Nat.ne_of_lt hb) (Nat.ne_of_lt (Nat.lt_of_lt_of_le hb (Nat.le_add_right _ _))) (z7 b u e)
  have sS : s1.heap.objs.size ≤ g.objs.size := by rw [z6]; omega
  have fr : ∀ c ∈ as, s1.heap.objs.size ≤ c ∧ H1 c = none := fun c hc => by
    have := hP.over c hc
    have hle : s1.heap.objs.size ≤ c := Nat.le_trans sS (Nat.le_of_lt this)
    exact ⟨hle, I1.hok.fresh hle⟩
  have hpl2 : as.length = (prs xs ys).length := by rw [prs_len hl]; omega
  obtain ⟨U, K, O⟩ := lays (P := X.prog) (w := X.w) (fs := X.fs) (ex := []) (H := H1) (as := as) (ps := prs xs ys) (Un.kept keep) (I1.hok.kept keep) hpl2 fr hP.rise fun j a' p' g1 g2 => by
    obtain ⟨x, y, f1, f2, f3⟩ := hP.pair j a' g1
    obtain ⟨vx, vy, v1, v2, rfl⟩ := prs_get g2
    obtain ⟨ux, w1, w2⟩ := rx.get v1
    obtain ⟨uy, w3, w4⟩ := ry.get v2
    have ex : x = ux := by
      have : its[j]? = some x := by simpa using f1
      rw [w1] at this; cases this; rfl
    have ey : y = uy := by
      have : jts[j]? = some y := by simpa using f2
      rw [w3] at this; cases this; rfl
    subst ex ey
    exact ⟨by show 2 ≤ sizeLine; rw [sizeLine_eq]; decide, [x, y], .cons w2 (.cons w4 .nil), ⟨_, f3, rfl, _, rfl⟩⟩
  have nS : H1 g.objs.size = none := I1.hok.fresh sS
  have hS : g.objs.size ∉ as := fun z => Nat.lt_irrefl _ (hP.over _ z)
  have nS2 : updP H1 as (prs xs ys) g.objs.size = none := by rw [O _ hS]; exact nS
  have oS : ObjOk X.prog X.w (upd (updP H1 as (prs xs ys)) g.objs.size (.lst (as.map V.ref))) h' g.objs.size (.lst (as.map V.ref)) := by
    refine ⟨by rw [List.length_map]; omega, as.map Value.ref, c, vals_refs as, ?_⟩
    have : acc = (as.map Value.ref).toArray := by rw [← hacc]
    rw [← this]
    exact hL
  refine ⟨.ref g.objs.size, _, I1.un (t' := tk) (Un.more U sS nS2) (HOk.more K nS2 oS), rfl, ?_⟩
  exact q as g.objs.size (by omega) hP.rise (fun c hc => ⟨(fr c hc).2, hP.over c hc⟩) nS
end
theorem updP_ne {b : Addr} : ∀ {as : List Addr} {ps : List (List V)} {H : Hp}, b ∉ as → updP H as ps b = H b
  | [], ps, H, _ => rfl
  | _ :: _, [], H, _ => rfl
  | a :: as, p :: ps, H, h => by
    show updP (upd H a (.tup p)) as ps b = _
    rw [updP_ne fun z => h (List.mem_cons_of_mem _ z)]
    exact upd_ne fun z => h (z ▸ List.mem_cons_self)
section
variable {Γ : Ct} {μ : Mu} {Z : Zs} {s : Sto}
theorem lays_rv : ∀ {ws us : List Dv} {xs ys : List V} {as : List Addr} {H : Hp}, Rep Γ H μ Z s → RVs Γ H μ Z ws xs → RVs Γ H μ Z us ys → ws.length = us.length → as.length = ws.length → (∀ c ∈ as, H c = none) → as.Pairwise (· < ·) →
    Evo H μ (updP H as (prs xs ys)) μ ∧ Rep Γ (updP H as (prs xs ys)) μ Z s ∧ RVs Γ (updP H as (prs xs ys)) μ Z (zipD ws us) (as.map V.ref)
  | [], us, xs, ys, as, H, R, r, r2, hl, ha, hn, hw => by
    cases as with
    | cons _ _ => cases ha
    | nil =>
      have : updP H [] (prs xs ys) = H := by unfold updP; rfl
      rw [this]
      exact ⟨.refl, R, by show RVs Γ H μ Z [] []; exact RVs.nil⟩
  | w :: ws, [], xs, ys, as, H, R, r, r2, hl, ha, hn, hw => by cases hl
  | w :: ws, u :: us, xs, ys, as, H, R, r, r2, hl, ha, hn, hw => by
    cases as with
    | nil => cases ha
    | cons a as =>
      obtain ⟨x, xs, rfl, rx, r⟩ := r
      obtain ⟨y, ys, rfl, ry, r2⟩ := r2
      obtain ⟨w1, w2⟩ := List.pairwise_cons.mp hw
      have na := hn a List.mem_cons_self
      have e1 : Evo H μ (upd H a (.tup [x, y])) μ := Evo.laid na
      have q1 := new_tup R na (RVs.cons rx (RVs.cons ry RVs.nil))
      obtain ⟨e2, R2, r3⟩ := lays_rv (ws := ws) (us := us) (xs := xs) (ys := ys) (as := as) (R.laid (o := .tup [x, y]) na) (RVs.mono e1 ws r) (RVs.mono e1 us r2) (Nat.succ.inj hl) (Nat.succ.inj ha)
        (fun c hc => by rw [upd_ne (Nat.ne_of_gt (w1 c hc))]; exact hn c (List.mem_cons_of_mem _ hc)) w2
      exact ⟨e1.trans e2, R2, RVs.cons (RV.mono e2 (.tup [w, u]) q1) r3⟩
end
def listZipD : ON := fun _ xs => match xs with
  | [.tup a, .tup b] => if a.length = b.length then some (.lst (zipD a b)) else none
  | _ => none
section
variable {X : Cx} {Γ : Ct} {W : WX}
theorem me_listZip {e : Expr} {es : List Expr} {fa : FA} {p p2 pos pos2 : Pos} (hK : Γ.K = X.K) (hc : X.calm = true) (hg : Gl X "list") (hm : X.mg "list" = none) (hg2 : Gl X "zip") (hm2 : X.mg "zip" = none) (ha : MA X Γ W (e :: es) fa)
    (he : starEach (e :: es) X.env = (false, eval e X.env) :: starEach es X.env := by rfl) (hpl : (backTo pos2 (starEach es X.env)).any (·.1) = false := by rfl)
    (he' : starEach [.Call (.Name "zip" p2) (e :: es) [] pos2] X.env = (false, eval (.Call (.Name "zip" p2) (e :: es) [] pos2) X.env) :: starEach [] X.env := by rfl) (hpl' : (backTo pos (starEach [] X.env)).any (·.1) = false := by rfl) :
    ME X Γ W (.Call (.Name "list" p) [.Call (.Name "zip" p2) (e :: es) [] pos2] [] pos) (mBlt listZipD fa) :=
  PE.imp (pe_listZip hc hg hm hg2 hm2 ha he hpl he' hpl') fun σ H Q ⟨μ, Z, ρ, s, hE, hR, q⟩ => by
    refine aE hE hR q fun ws s1 vs H1 μ1 e1 E1 R1 r1 q1 => ?_
    obtain ⟨w, hw, k⟩ := ofE q1
    unfold listZipD at hw
    split at hw
    · rename_i a b
      split at hw
      · rename_i hl
        cases hw
        obtain ⟨v1, vs, rfl, ra, r2⟩ := r1
        obtain ⟨v2, vs, rfl, rb, r3⟩ := r2
        cases r3
        obtain ⟨pa, xs, rfl, ha1, ha2⟩ := ra
        obtain ⟨pb, ys, rfl, hb1, hb2⟩ := rb
        have l1 := RVs.len ha2
        have l2 := RVs.len hb2
        refine ⟨pa, pb, xs, ys, rfl, hK ▸ ha1.sq, hK ▸ hb1.sq, by omega, fun as S hal hw hn nS => ?_⟩
        obtain ⟨e2, R2, r4⟩ := lays_rv (as := as) R1 ha2 hb2 hl (by omega) (fun c hc => (hn c hc).1) hw
        have nS2 : updP H1 as (prs xs ys) S = none := by rw [updP_ne fun z => Nat.lt_irrefl _ (hn S z).2]; exact nS
        exact k _ _ (e2.trans (Evo.laid nS2)) (R2.laid nS2) (new_lst R2 nS2 r4)
      · cases hw
    · cases hw
end
end MP

set_option Elab.async false
set_option linter.all false
set_option maxRecDepth 100000
set_option maxHeartbeats 4000000
/-! exceptions held as values: isinstance, their field -/
namespace MP
open PySem PySem.Spec PyProof.Rows L2
section
variable {X : Cx} {a C dx : Addr} {H : Hp}
theorem exK_at {P : Program} {w : World} {h : Heap} (ok : HOk P w H h) (e : H a = some (ExK a C dx)) : ∃ oe vs, h.get? a = some oe ∧ oe.cls = .ref C ∧ oe.dict = some dx ∧ oe.data = .fields vs := by
  obtain ⟨⟨oe, vs, h1, h2, h3⟩, _⟩ := ok a _ e
  exact ⟨oe, vs, h1, h2.1, h2.2, h3⟩
theorem exK_inst {P : Program} {w : World} {h : Heap} {fs : List (Str × V)} (ok : HOk P w H h) (e : H a = some (ExK a C dx)) (ed : H dx = some (.xd fs)) : ∃ (oe od : Obj) (mA : Str → Option Value), PySem.W.InstAt h a oe C (some od) ∧ (∀ y, PySem.W.lookIn y od = some (mA y)) ∧ ∀ f, RelO (fs.lookup f) (mA f) := by
  obtain ⟨oe, vs, h1, h2, h3, h4⟩ := exK_at ok e
  obtain ⟨mA, hns, hr⟩ := (show ObjOk P w H h dx (.xd fs) from ok dx _ ed)
  obtain ⟨od, ho, hl⟩ := lookIn_ns hns
  obtain ⟨oc, od', oda, osl⟩ := oe
  dsimp only at h2 h3 h4
  subst h2 h3 h4
  exact ⟨_, od, mA, ⟨h1, rfl, rfl, ho⟩, hl, hr⟩
/-- a held exception: of an own class with a field, or a bare one -/
def Held (H : Hp) (a C : Addr) : Prop := (∃ dx fs, H a = some (ExK a C dx) ∧ H dx = some (.xd fs)) ∨ H a = some (ExO (.ref C) a)
theorem held_inst {P : Program} {w : World} {h : Heap} (ok : HOk P w H h) (e : Held H a C) : ∃ oe od, PySem.W.InstAt h a oe C od := by
  rcases e with ⟨dx, fs, e, ed⟩ | e
  · obtain ⟨oe, od, _, q, _⟩ := exK_inst ok e ed
    exact ⟨oe, _, q⟩
  · obtain ⟨⟨oe, vs, h1, h2, h3, _⟩, _⟩ := ok a _ e
    obtain ⟨oc, od, oda, osl⟩ := oe
    obtain ⟨h2, h4⟩ := h2
    dsimp only at h2 h3 h4
    subst h2 h3 h4
    exact ⟨_, none, h1, rfl, rfl, trivial⟩
def rIsK (K : PySem.W.Frag) : List V → Hp → VK → Prop := fun xs H Q => ∃ (a C : Addr) (c : V) (u : Value) (b : Bool), xs = [.ref a, c] ∧ Held H a C ∧ ExcC K C ∧ ClsV c u ∧ PySem.W.kitOne K (.ref C) u = some b ∧ Q (.bl b) H
theorem call_isK : CallR X (.builtin "isinstance") (rIsK X.K) := by
  intro pins s σ H xs us Q I r h
  obtain ⟨a, C, c, u, b, rfl, e, T, k, hk, q⟩ := h
  obtain ⟨u1, u2, rfl, r1, r2⟩ := vals2 r
  have e2 := k.eq r2
  subst e2
  obtain rfl : u1 = Value.ref a := r1
  obtain ⟨oe, od, J⟩ := held_inst I.hok e
  exact PySem.W.kia_one (PySem.W.kitx_exc (gt := none) (by obtain ⟨cd, hc, _⟩ := PySem.W.any_some T.hd; rw [hc]; rfl) T.hg T.hk T.hs T.ha T.hn T.ht T.hm) I.kIn J hk (fun z => nomatch z) fun tk => ⟨.bl b, H, I.tok tk, rfl, q⟩
/-- e.f of a held exception -/
def tXk (K : PySem.W.Frag) (f : Str) (te : TE) : TE := fun σ H Q => te σ H fun x H1 => ∃ (a C dx : Addr) (fs : List (Str × V)) (v : V), x = .ref a ∧ H1 a = some (ExK a C dx) ∧ H1 dx = some (.xd fs) ∧ fs.lookup f = some v ∧ XfC K C ∧ PySem.W.findIn K (.ref C) f = some none ∧ Q v H1
theorem pe_xk {e : Expr} {te : TE} {pos : Pos} {n : Str} (he : PE X e te) (hb : attributeBase e n X.env (eval e X.env) = eval e X.env := by rfl) : PE X (.Attribute e n pos) (tXk X.K n te) := by
  refine ⟨fun pins s σ H Q I h => ?_⟩
  refine attr_of hb (thn (he.run pins s σ H _ I h) fun u s1 ⟨x, H1, I1, rx, a, C, dx, fs, v, ex, ea, ed, l, T, hno, q⟩ => ?_)
  subst ex
  obtain rfl : u = Value.ref a := rx
  obtain ⟨oe, od, mA, J, hl, hr⟩ := exK_inst I1.hok ea ed
  obtain ⟨u, hu, ru⟩ := RelO.some_of (v := v) (o := mA n) (by rw [← l]; exact hr n)
  exact HandSPX.exc_get I1.kIn J T.ga T.gg T.exC (PySem.W.findObj_own T.hdC hno rfl (by rw [hl, hu])) (handed_of ru) ⟨v, H1, I1.tok _, ru, q⟩
end
/-! ### over the data: class 0 stands over 1 to 7, over ValueError; class 8 over LookupError -/
def under (c j : Nat) : Bool := decide (c = j) || (decide (j = 0) && decide (c ≤ 7))
def underT (c : Nat) (n : String) : Option Bool := if n = "ValueError" then some (decide (c ≤ 7)) else if n = "LookupError" then some (decide (c = 8)) else none
/-- what is known of the classes -/
structure XcI (Γ : Ct) : Prop where
  is : ∀ c, c < 9 → ExcC Γ.K (Γ.cls c)
  own : ∀ c j, c < 9 → j < 9 → PySem.W.kitOne Γ.K (.ref (Γ.cls c)) (.ref (Γ.cls j)) = some (under c j)
  bas : ∀ c n b, c < 9 → underT c n = some b → PySem.W.kitOne Γ.K (.ref (Γ.cls c)) (.type n) = some b
def exCls : Dv → Option Nat
  | .exc c _ _ => if c < 9 then some c else none
  | .exn c => if c < 9 then some c else none
  | _ => none
def isxD : ON := fun _ xs => match xs with
  | [x, .cl j] => match exCls x with
    | some c => if j < 9 then some (.bl (under c j)) else none
    | none => none
  | [x, .ty n] => match exCls x with
    | some c => (underT c n).map .bl
    | none => none
  | _ => none
section
variable {X : Cx} {Γ : Ct}
theorem held_of {H : Hp} {μ : Mu} {Z : Zs} {x : Dv} {v : V} {c : Nat} (r : RV Γ H μ Z x v) (e : exCls x = some c) : ∃ a, v = .ref a ∧ Held H a (Γ.cls c) ∧ c < 9 := by
  cases x with
  | exc c' f w =>
    unfold exCls at e
    dsimp only at e
    split at e
    · rename_i hc
      cases e
      obtain ⟨a, dx, y, h1, h2, _, h4, _⟩ := r
      exact ⟨a, h1, .inl ⟨dx, _, h2, h4⟩, hc⟩
    · cases e
  | exn c' =>
    unfold exCls at e
    dsimp only at e
    split at e
    · rename_i hc
      cases e
      obtain ⟨a, h1, h2, _⟩ := r
      exact ⟨a, h1, .inr h2, hc⟩
    · cases e
  | _ => cases e
theorem sIsK (hK : Γ.K = X.K) (T : XcI Γ) : OpN Γ (rIsK X.K) isxD := fun H μ Z s xs w vs Q hR rx e k => by
  rw [← hK]
  unfold isxD at e
  split at e
  · rename_i x j
    split at e
    · rename_i c qc
      split at e
      · rename_i hj
        cases e
        obtain ⟨v, u, rfl, r1, r2⟩ := two rx
        obtain ⟨a, rfl, hh, hc⟩ := held_of r1 qc
        exact ⟨a, _, u, .ref (Γ.cls j), _, rfl, hh, T.is c hc, by rw [show u = _ from r2]; exact .own _, T.own c j hc hj, k _ H .refl hR rfl⟩
      · cases e
    · cases e
  · rename_i x n
    split at e
    · rename_i c qc
      cases q2 : underT c n with
      | none => rw [q2] at e; cases e
      | some b =>
        rw [q2] at e
        cases e
        obtain ⟨v, u, rfl, r1, r2⟩ := two rx
        obtain ⟨a, rfl, hh, hc⟩ := held_of r1 qc
        exact ⟨a, _, u, .type n, b, rfl, hh, T.is c hc, by rw [show u = _ from r2]; exact .ty n, T.bas c n b hc q2, k _ H .refl hR rfl⟩
    · cases e
  · cases e
/-- isinstance, of data and of exceptions -/
def isiA : ON := fun s xs => match isiD s xs with
  | some w => some w
  | none => isxD s xs
theorem cr_isiA : CallR X (.builtin "isinstance") (fun x H Q => rIsi X.K x H Q ∨ rIsK X.K x H Q) := CallR.or2 call_isi call_isK
theorem sIsiA (hK : Γ.K = X.K) (T : XcI Γ) : OpN Γ (fun x H Q => rIsi X.K x H Q ∨ rIsK X.K x H Q) isiA := OpN.or (sIsi hK) (sIsK hK T)
/-- e.f -/
def fldD (f : Str) : O1 := fun _ x => match x with
  | .exc c g w => if c < 9 ∧ f = g then some w else none
  | _ => none
structure XcF (Γ : Ct) (f : Str) : Prop where
  no : ∀ c, c < 9 → PySem.W.findIn Γ.K (.ref (Γ.cls c)) f = some none
theorem me_fld {W : WX} {e : Expr} {g : FE} {pos : Pos} {n : Str} (hK : Γ.K = X.K) (T : XcI Γ) (F : XcF Γ n) (he : ME X Γ W e g) (hb : attributeBase e n X.env (eval e X.env) = eval e X.env := by rfl) : ME X Γ W (.Attribute e n pos) (mUn (fldD n) g) :=
  PE.imp (pe_xk he hb) fun σ H Q ⟨μ, Z, ρ, s, hE, hR, q⟩ => eE hE hR q fun x s1 u H1 μ1 e1 hE1 R1 r1 q1 => by
    obtain ⟨w, hw, k⟩ := ofE q1
    unfold fldD at hw
    split at hw
    · rename_i c f' w'
      split at hw
      · rename_i hc
        cases hw
        obtain ⟨hc, rfl⟩ := hc
        obtain ⟨a, dx, y, rfl, h2, _, h4, _, h6⟩ := r1
        have t := T.is c hc
        exact ⟨a, Γ.cls c, dx, _, y, rfl, h2, h4, by simp [List.lookup], hK ▸ ⟨t.hg, t.hk, t.hs, t.hd⟩, hK ▸ F.no c hc, k _ H1 .refl R1 h6⟩
      · cases hw
    · cases hw
/-- a class by its name -/
theorem me_cls {W : WX} {x : Str} {pos : Pos} {j : Nat} (hg : Gl X x) (hm : X.mg x = some (.ref (Γ.cls j))) (hdb : (x == ("__debug__" : Str)) = false := by decide) : ME X Γ W (.Name x pos) (mK (.cl j)) := by
  refine ⟨fun pins s σ H Q I h => ?_⟩
  obtain ⟨μ, Z, ρ, st, hE, hR, q⟩ := h
  exact ld_glob I hg hm ⟨.ref (Γ.cls j), H, I.tok _, rfl, q _ H μ .refl hR rfl⟩ hdb
end
end MP

set_option Elab.async false
set_option linter.all false
set_option maxRecDepth 100000
set_option maxHeartbeats 4000000
/-! raise C(e), C an own class whose __init__ keeps one field -/
namespace MP
open PySem PySem.Spec PyProof.Rows L2
/-- what __init__ does -/
def spI (C : Addr) (f : Str) : Sp := fun vs H Q _ => ∃ (a : Addr) (v : V), vs = [.ref a, v] ∧ H a = some (exo a C none) ∧ ∀ dx, H dx = none → dx ≠ a → Q .non (upd (upd H dx (exd dx [(f, v)])) a (exo a C (some dx)))
theorem init_fn {CX : CXT} {P : Program} {w : World} {K : PySem.W.Frag} {mg : Str → Option Value} {base : Heap} {fI : Addr} {name qual f : Str} {params : Arguments} {scope : Scope} {dV kV doc pm cdv ct oc : Value} {an od : Option Addr} {osl : Array (Option Value)} {p1 p2 p3 p4 : Pos}
    (lk : K.lookup fI = some ⟨oc, od, .func (PySem.W.fnOf name qual params [.Assign [.Attribute (.Name "self" p1) f p2] (.Name f p3) p4] scope dV kV doc pm an cdv ct), osl⟩) (hcd : PySem.W.codeIn K cdv qual = true) (S : FnScope ["self", f] ["self", f] scope)
    {C : Addr} (t1 : OexC K C) (t2 : PySem.W.findIn K (.ref C) f = some none)
    (v0 : Vis scope "self") (v1 : Vis scope f) (d1 : (f == ("__debug__" : Str)) = false) (d2 : (f == ("__classdict__" : Str)) = false) : FnOk P w K mg base CX 1 fI (PySem.W.fnOf name qual params [.Assign [.Attribute (.Name "self" p1) f p2] (.Name f p3) p4] scope dV kV doc pm an cdv ct) ["self", f] (spI C f) :=
  fn_of (k := 0) lk hcd S (fun vs H Q E ⟨_, _, e, _⟩ => by rw [e]; rfl) fun A outer s H vs Q E hr ⟨a, v, ev, ea, q⟩ => by
    subst ev
    refine ⟨_, pss_one (ps_ost (pe_var (i := 0) rfl v0 (by decide) (by decide)) (pe_var (i := 1) rfl v1 d1 d2)), ?_⟩
    exact ⟨v, rfl, .ref a, rfl, a, C, rfl, t1, t2, .inl ⟨ea, fun dx hn hd => q dx hn hd⟩⟩
/-- what is known of an own class that is raised -/
structure XcR (P : Program) (w : World) (K : PySem.W.Frag) (mg : Str → Option Value) (base : Heap) (C : Addr) (x f : Str) : Prop where
  ox : OexC K C
  no : PySem.W.findIn K (.ref C) f = some none
  gC : mg x = some (.ref C)
  init : ∃ (fI : Addr) (fd : FuncData), PySem.W.findIn K (.ref C) "__init__" = some (some (.ref fI)) ∧ PySem.W.typeIn K (.ref fI) = some (.type "function") ∧ FnOk P w K mg base (L2.CX P w) 1 fI fd ["self", f] (spI C f) ∧ L2.Binds K fd ["self", f] []
/-- raise C(e) -/
def mRaise (c : Nat) (f : Str) (g : FE) : FS := fun ρ s => (g ρ s).thenC ρ fun w s1 => .er ⟨c, f, w⟩ ρ s1
section
variable {X : Cx} {Γ : Ct} {W : WX}
theorem ms_raise {e : Expr} {g : FE} {x f : Str} {c : Nat} {p pos pos' : Pos} (hK : Γ.K = X.K) (T : XcR X.prog X.w X.K X.mg X.base (Γ.cls c) x f) (hr : Room 2 X.A) (hc : X.calm = true) (tk : Takes X W) (hg : Gl X x) (ha : ME X Γ W e g)
    (hdb : (x == ("__debug__" : Str)) = false := by decide) (he : starEach [e] X.env = (false, eval e X.env) :: starEach [] X.env := by rfl) (hpl : (backTo pos (starEach [] X.env)).any (·.1) = false := by rfl) :
    MS X Γ W (.Raise (some (.Call (.Name x p) [e] [] pos)) none pos') (mRaise c f g) := by
  obtain ⟨fI, fd, iC, tI, F1, hb⟩ := T.init
  have hx : Passes (L2.CX X.prog X.w) X (fun _ _ _ => False) := passes_call (W := W0) tk0 fun _ _ _ _ h => h
  refine PS.imp (ps_raise hc tk (pmk_oex T.ox iC tI F1 hr hb .nil hx hg T.gC (pa_cons ha pa_nil he) hdb he hpl)) fun D σ H ⟨μ, Z, ρ, s, hE, hR, q⟩ => ?_
  refine eS hE hR q fun y s1 v H1 μ1 ev E1 R1 r1 q1 => ⟨by show 1 ≤ 1000; decide, fun a na => ⟨a, v, rfl, upd_same, fun dx hdx hda => ⟨rfl, dx, [(f, v)], upd_same, ?_, ?_, ?_⟩⟩⟩
  · rw [upd_ne hda, upd_same]
  · rwa [upd_ne hda] at hdx
  · have nd : H1 dx = none := by rwa [upd_ne hda] at hdx
    have eH : upd (del (upd (upd (upd H1 a (exo a (Γ.cls c) none)) dx (exd dx [(f, v)])) a (exo a (Γ.cls c) (some dx))) a) dx (.xd [(f, v)]) = upd H1 dx (.xd [(f, v)]) := by
      funext b
      by_cases h1 : b = dx
      · subst h1
        rw [upd_same, upd_same]
      · rw [upd_ne h1, upd_ne h1]
        by_cases h2 : b = a
        · subst h2
          rw [del_same]
          exact na.symm
        · rw [del_ne h2, upd_ne h2, upd_ne h1, upd_ne h2]
    rw [eH]
    have e2 : Evo H1 μ1 (upd H1 dx (.xd [(f, v)])) μ1 := Evo.laid nd
    exact q1 _ _ σ _ μ1 e2 (R1.laid nd) (E1.mono e2) ⟨rfl, dx, v, rfl, upd_same, R1.fz nd, r1.mono e2⟩
end
end MP

set_option Elab.async false
set_option linter.all false
set_option maxRecDepth 100000
set_option maxHeartbeats 4000000
/-! try: .. except (A, B) as n: suite, the exception being kept as a value -/
namespace MP
open PySem PySem.Spec PyProof.Rows L2
theorem flying_up {B h g : Heap} {l : List PySem.Env} {a : Addr} {Z : Obj → Prop} (fl : HandSPX.FlyingZ B l a Z h) (k : ∀ b o, h.get? b = some o → g.get? b = some o) : HandSPX.FlyingZ B l a Z g := by
  obtain ⟨f1, f2, f3, oe, vs, T, oT, ts, q1, q2, q3, q4, q5, q6, q7, q8, q9⟩ := fl
  exact ⟨fun b o e => k b o (f1 b o e), f2, Heap.FunFrames.of_keeps (fun b o e _ => ⟨o, k b o e, rfl⟩) f3, oe, vs, T, oT, ts, k _ _ q1, q2, q3, q4, q5, q6, k _ _ q7, q8, q9⟩
theorem exK_ok {P : Program} {w : World} {H : Hp} {h : Heap} {a C dd : Addr} {oe : Obj} {vs : Array Value} (e : h.get? a = some oe) (z : Zc (.ref C) (some dd) oe) (d : oe.data = .fields vs) : ObjOk P w H h a (ExK a C dd) :=
  ⟨⟨oe, vs, e, z, d⟩, ⟨oe, e⟩, fun h1 h2 ⟨o, v, q1, q2, q3⟩ k => ⟨o, v, k _ q1, q2, q3⟩⟩
section
variable {X : Cx} {pins : List (Addr × Obj)} {σ : L2.St} {H : Hp} {sI s s' : Shared} {B : Heap}
/-- on the ground again, the exception's object being known from now on -/
theorem landedK {a : Addr} {u : HO} (I : Inv X pins σ H sI) (nb : ∀ b o, sI.heap.get? b = some o → b ∉ frs X.stack → B.get? b = some o) (st : B.StaysIn s'.heap) (up : sI.heap.UpToSlots s'.heap) (os : s'.os = sI.os) (ag : AllBare s'.gens)
    (na : H a = none) (ng : sI.heap.get? a = none) (new : ObjOk X.prog X.w (upd H a u) s'.heap a u) : Inv X pins σ (upd H a u) s' := by
  have nf : ∀ b ∈ frs X.stack, ∀ o, sI.heap.get? b = some o → ∃ sl, s'.heap.get? b = some { o with slots := sl } := fun b hb o e => by
    obtain ⟨_, o', e', hd⟩ := I.stack.mem hb
    rw [e] at e'; cases e'; exact up b o e hd
  have ne : ∀ b o, sI.heap.get? b = some o → b ≠ a := fun b o e z => by rw [z, ng] at e; cases e
  have J := I.call (ch := []) (h' := s'.heap) (g' := s'.gens) (t' := s'.toks) (d' := s'.drawn) (H' := upd H a u)
    ⟨fun b o e _ hb _ => st b o (nb b o e hb), fun b o e _ hb _ => nf b hb o e, fun b o e n _ => by rw [upd_ne (ne b o e)]; exact n, fun b o e _ => by
      by_cases hb : b ∈ frs X.stack
      · exact let ⟨sl, q⟩ := nf b hb o e; ⟨_, q⟩
      · exact ⟨o, st b o (nb b o e hb)⟩, fun b xs e => by rw [upd_ne (ne_of_none e na)]; exact e, fun b o xs e => by rw [upd_ne (ne_of_none e na)]; exact e, fun b ps e => ⟨#[], by rw [upd_ne (ne_of_none e na), e]; simp⟩⟩
    (HOk.more ((I.inGround nb).kept st) na new) ag (fun _ z => nomatch z)
  obtain ⟨a1, a2, a3, a4, a5⟩ := s'
  have e5 : a5 = sI.os := os
  subst e5; exact J
theorem toSuite (I : Inv X pins σ H s) (a : Addr) : Inv (X.suite a (X.pn ++ pins)) [] σ H s :=
  ⟨I.ok.suite _ _, I.os, I.bare, I.base, I.loc, I.cell, I.free, I.freeC, fun p hp => I.pin p (List.append_nil (X.pn ++ pins) ▸ hp), I.hok, I.len⟩
theorem ofSuite {a : Addr} {pn' : List (Addr × Obj)} (I : Inv (X.suite a (X.pn ++ pins)) pn' σ H s) (ok : X.Ok) : Inv X pins σ H s :=
  ⟨ok, I.os, I.bare, I.base, I.loc, I.cell, I.free, I.freeC, fun p hp => I.pin p (List.mem_append.mpr (.inl hp)), I.hok, I.len⟩
end
/-- what the clause wishes of an exception of the body -/
def wKeep (K : PySem.W.Frag) (c1 c2 : Value) (i : Nat) (ts : TS) (Wout : WX) (D : Ends) : WX := fun cls d σ H => ∃ b, PySem.W.exmAny K cls [c1, c2] = some b ∧
  (b = true → ∃ C dd, cls = .ref C ∧ d = some dd ∧ ∀ a, H a = none → ts { nx := fun σ' H' => D.nx (σ'.set i none) H', rt := D.rt, bk := fun σ' H' => D.bk (σ'.set i none) H', ct := fun σ' H' => D.ct (σ'.set i none) H' } (σ.set i (some (.ref a))) (upd H a (ExK a C dd))) ∧ (b = false → Wout cls d σ H)
section
variable {X : Cx} {x1 x2 n : Str} {c1 c2 : Value} {i kk : Nat} {body suite : List Stmt} {b0 : Stmt} {p1 p2 tp pos pos' : Pos} {tb : WX → TS} {ts : TS} {Wout : WX}
theorem ps_try_keep (hs : X.stack = X.env :: X.outer) (hf : X.env.frame = some X.env.locals) (hN : X.N.Nodup) (hi : X.N[i]? = some n) (hln : X.env.kindOf n = some .local) (n1 : Names X x1 c1) (n2 : Names X x2 c2) (tk : Takes X Wout)
    (hb : ∀ (W : WX) (pn : List (Addr × Obj)) (xe : Value → Shared → Prop), Takes (X.tr pn xe) W → PassesOwn (model X.prog X.w) X.A X.env xe → PSs (X.tr pn xe) body (tb W)) (hsu : ∀ (a : Addr) (pn : List (Addr × Obj)), PSs (X.suite a pn) (b0 :: suite) ts) :
    PS X (.Try body [.ExceptHandler (some (.Tuple [.Name x1 p1, .Name x2 p2] kk tp)) (some n) (b0 :: suite) pos'] [] [] pos) (fun D σ H => tb (wKeep X.K c1 c2 i ts Wout D) D σ H) := by
  refine ⟨fun pins s σ H D I h => ?_⟩
  have ok := I.ok
  have hfr : X.A.frames = some (X.env :: X.outer) := ok.frames.trans (congrArg some hs)
  have hloc : Loc X.env.scope n := .inl hln
  refine wpAny_Try_except (wpAny_mono ((hb (wKeep X.K c1 c2 i ts Wout D) (X.pn ++ pins) (fun e u1 => wpAny (model X.prog X.w) X.A (noteFrame e X.env) (fun _ u2 => wpAny (model X.prog X.w) X.A (setFlight e none) (fun _ u3 =>
    wpAny (model X.prog X.w) X.A (handleBy e X.env [.ExceptHandler (some (.Tuple [.Name x1 p1, .Name x2 p2] kk tp)) (some n) (b0 :: suite) pos']) (SP X pins D) X.xe u3) X.xe u2) X.xe u1) (fun u s' xx => ?_) PassesOwn.looking).run [] s σ H D (I.toTry _) h) (fun f s1 hsp => ?_) (fun e s1 he => he))
  · obtain ⟨a, B, sI, pins', σ', H', cls, d, rfl, J', nb, up, sky, na, os, ag, b, hb1, hyes, hno⟩ := xx
    have J : Inv X pins σ' H' sI := J'.ofTry ok
    show wpAny (model X.prog X.w) X.A (noteFrame (.ref a) X.env) _ _ _
    refine Sky.land Zc.steady hfr hf (by rw [← hs]; exact sky) fun h3 fl3 up3 => ?_
    have J3 : Inv X pins σ' H' { s' with heap := h3 } := J.landed nb fl3.1 (up.trans up3) os ag
    obtain ⟨oe3, vs3, he3, hz3, hd3⟩ := fl3.there
    have nfr : a ∉ frs (X.env :: X.outer) := fun hm => by
      obtain ⟨_, o', e', hnf⟩ := fl3.2.2.1.mem hm
      rw [he3] at e'; cases e'; exact hnf _ hd3
    have ng : sI.heap.get? a = none := by
      cases q : sI.heap.get? a with
      | none => rfl
      | some o => have := nb a o q (by rw [hs]; exact nfr); rw [fl3.2.1] at this; cases this
    have nL : a ≠ X.env.locals := fun z => nfr (List.mem_filterMap.mpr ⟨X.env, List.mem_cons_self, by rw [hf, z]⟩)
    have nF : a ∉ X.fs := fun hm => nfr (by
      obtain ⟨e, he, q⟩ := List.mem_filterMap.mp hm
      exact List.mem_filterMap.mpr ⟨e, List.mem_cons_of_mem _ he, q⟩)
    have S3 := J3.suite he3 hd3 na nL nF
    have load : ∀ {y : Str} {c : Value} {py : Pos} {Q E : Value → Shared → Prop}, Names X y c → Q c { s' with heap := h3 } → wpAny (model X.prog X.w) (X.A.mark (some (.ref a))) (eval (.Name y py) X.env) Q E { s' with heap := h3 } := fun {y c py Q E} hc q => by
      obtain ⟨g1, g2, g3 | ⟨g3, g4, g5⟩⟩ := hc
      · exact ld_glob (X := X.suite a ((a, oe3) :: (X.pn ++ pins))) S3 g1 g3 q g2
      · exact ld_blt (X := X.suite a ((a, oe3) :: (X.pn ++ pins))) S3 g1 g3 g4 q g5 g2
    refine wpAny_handleBy_cons (codeAny_handlers_test ?_) (by intro q; cases q)
    refine wpAny_Tuple_spliced (Calls.spliced_cons (load n1 (Calls.spliced_cons (load n2 (Calls.spliced_nil ⟨by show 2 ≤ sizeLine; rw [sizeLine_eq]; decide, ?_⟩)))))
    have kp : ∀ b o, h3.get? b = some o → (h3.push { cls := .type "tuple", data := .seq [c1, c2].toArray }).get? b = some o := fun b o e => Heap.get?_push_of_some _ e
    have fl3' := flying_up fl3 kp
    have LT : PySem.W.Looks (model X.prog X.w) (h3.push { cls := .type "tuple", data := .seq [c1, c2].toArray }) (typeOf (.ref a)) cls := fun A Q E s k q => wpAny_typeOf_ref (k _ _ (kp _ _ he3)) (by rw [hz3.1]; exact q)
    have LM := PySem.W.exm_tup2 (M := model X.prog X.w) (J3.kIn.keeps kp) LT (Heap.get?_push_size _ rfl) hb1
    refine LM.here ?_
    have upk : sI.heap.UpToSlots (h3.push { cls := .type "tuple", data := .seq [c1, c2].toArray }) := (up.trans up3).trans (Heap.UpToSlots.of_keeps kp)
    cases b with
    | true =>
      obtain ⟨C, dd, rfl, rfl, hy2⟩ := hyes rfl
      refine codeAny_handlers_suite_as (HandSPX.lands_againZ fl3' fun h4 fl4 up4 => ?_)
      obtain ⟨oe4, vs4, he4, hz4, hd4⟩ := fl4.there
      have J4 : Inv X pins σ' (upd H' a (ExK a C dd)) { s' with heap := h4 } := landedK J nb fl4.1 (upk.trans up4) os ag na ng (exK_ok he4 hz4 hd4)
      refine store_ok (X := X.suite a (X.pn ++ pins)) (v := .ref a) (toSuite J4 a) hN hi hloc rfl (fun s5 S5 => ?_) (.inr hln)
      refine wpAny_mono ((hsu a (X.pn ++ pins)).run [] s5 _ _ _ S5 (hy2 a na)) (fun f s6 hsp => ?_) (fun _ _ z => False.elim z)
      have fin : ∀ {σ6 : L2.St} {H6 : Hp} {Q : Shared → Prop}, Inv (X.suite a (X.pn ++ pins)) [] σ6 H6 s6 → (∀ s7, Inv X pins (σ6.set i none) H6 s7 → Q s7) → wpAny (model X.prog X.w) X.A (do bindName X.env n .none; unbindBehindTheSuite X.env n pos') (fun _ s7 => Q s7) X.xe s6 := fun S6 hq => gone_ok (ofSuite S6 ok) hN hi hln hq
      cases f with
      | next => exact let ⟨σ6, H6, S6, q6⟩ := hsp; fin S6 fun s7 J7 => ⟨_, _, J7, q6⟩
      | brk => exact let ⟨σ6, H6, S6, q6⟩ := hsp; fin S6 fun s7 J7 => ⟨_, _, J7, q6⟩
      | cont => exact let ⟨σ6, H6, S6, q6⟩ := hsp; fin S6 fun s7 J7 => ⟨_, _, J7, q6⟩
      | ret u => exact let ⟨v6, σ6, H6, S6, r6, q6⟩ := hsp; fin S6 fun s7 J7 => ⟨_, _, _, J7, r6, q6⟩
    | false =>
      show wpAny _ X.A (handleBy (.ref a) X.env []) _ _ _
      refine wpAny_handleBy_nil ?_
      obtain ⟨_, _, _, oe, vs, T, oT, t', he, hz, hd, hT, hr⟩ := id fl3'
      unfold PySem.passOn
      refine wpAny_bind (wpAny_field he hd hT ?_)
      rw [if_neg (show ¬ ((Value.ref T == Value.none) = true) by simp)]
      have fin : wpAny (model X.prog X.w) X.A (setFlight (.ref a) X.env.frame) (fun _ u => wpAny (model X.prog X.w) X.A (throw (.ref a) : Sem Flow) (SP X pins D) X.xe u) X.xe { s' with heap := h3.push { cls := .type "tuple", data := .seq [c1, c2].toArray } } := by
        rw [hf]
        exact HandSPX.setFlight_upZ fl3' fun h4 hh4 up4 => wpAny_throw (tk _ _ ⟨a, B, sI, pins, σ', H', cls, d, rfl, J, nb, upk.trans up4, .inr (.inr (by rw [hs]; exact hh4)), na, os, ag, hno rfl⟩)
      first
        | exact wpAny_bind (wpAny_pure (wpAny_bind fin))
        | exact wpAny_bind fin
  · cases f with
    | next => exact let ⟨σ', H', J', q⟩ := hsp; wpAny_execs_nil ⟨σ', H', J'.ofTry ok, q⟩
    | brk => exact let ⟨σ', H', J', q⟩ := hsp; ⟨σ', H', J'.ofTry ok, q⟩
    | cont => exact let ⟨σ', H', J', q⟩ := hsp; ⟨σ', H', J'.ofTry ok, q⟩
    | ret u => exact let ⟨v, σ', H', J', r, q⟩ := hsp; ⟨v, σ', H', J'.ofTry ok, r, q⟩
end
end MP

set_option Elab.async false
set_option linter.all false
set_option maxRecDepth 100000
set_option maxHeartbeats 4000000
/-! try: .. except (A, B) as n: suite over the data -/
namespace MP
open PySem PySem.Spec PyProof.Rows L2
/-- the name of the exception goes behind the suite; the suite raises nothing -/
def delC (i : Nat) : C → C
  | .nx ρ s => .nx (ρ.set i none) s
  | .bk ρ s => .bk (ρ.set i none) s
  | .ct ρ s => .ct (ρ.set i none) s
  | .rt w s => .rt w s
  | .er _ _ _ => .no
  | .no => .no
def mTryKeep (i : Nat) (c su : FS) : FS := fun ρ s => match c ρ s with
  | .er x ρ1 s1 => if x.c < 9 then delC i (su (ρ1.set i (some (.exc x.c x.f x.w))) s1) else .no
  | r => r
section
variable {X : Cx} {Γ : Ct} {Wout : WX}
theorem ms_tryKeep {x1 x2 n : Str} {c1 c2 : Value} {i kk : Nat} {body suite : List Stmt} {b0 : Stmt} {p1 p2 tp pos pos' : Pos} {c su : FS} (hs : X.stack = X.env :: X.outer) (hf : X.env.frame = some X.env.locals) (hN : X.N.Nodup) (hi : X.N[i]? = some n) (hln : X.env.kindOf n = some .local)
    (n1 : Names X x1 c1) (n2 : Names X x2 c2) (tk : Takes X Wout) (hex : ∀ c, c < 9 → PySem.W.exmAny X.K (.ref (Γ.cls c)) [c1, c2] = some true)
    (hb : ∀ (W : WX) (pn : List (Addr × Obj)) (xe : Value → Shared → Prop), Takes (X.tr pn xe) W → MB (X.tr pn xe) Γ W body c) (hsu : ∀ (a : Addr) (pn : List (Addr × Obj)), MB (X.suite a pn) Γ W0 (b0 :: suite) su) :
    MS X Γ Wout (.Try body [.ExceptHandler (some (.Tuple [.Name x1 p1, .Name x2 p2] kk tp)) (some n) (b0 :: suite) pos'] [] [] pos) (mTryKeep i c su) := by
  refine PS.imp (ps_try_keep (tb := fun W => rdS Γ W c) (ts := rdS Γ W0 su) hs hf hN hi hln n1 n2 tk (fun W pn xe t _ => hb W pn xe t) hsu) fun D σ H ⟨μ, Z, ρ, s, hE, hR, q⟩ => ⟨μ, Z, ρ, s, hE, hR, ?_⟩
  unfold mTryKeep at q
  cases e : c ρ s with
  | nx ρ' s' => rw [e] at q; exact q
  | rt w s' => rw [e] at q; exact q
  | bk ρ' s' => rw [e] at q; exact q
  | ct ρ' s' => rw [e] at q; exact q
  | no => rw [e] at q; exact q
  | er x ρ1 s1 =>
    rw [e] at q
    dsimp only at q
    split at q
    · rename_i hx
      intro cls d σ' H' μ' ev R' E' rx
      obtain ⟨r1, dd, v, r2, r3, r4, r5⟩ := rx
      subst r1 r2
      refine ⟨true, hex x.c hx, fun _ => ⟨_, _, rfl, rfl, fun a na => ?_⟩, fun z => nomatch z⟩
      have ea : Evo H' μ' (upd H' a (ExK a (Γ.cls x.c) dd)) μ' := Evo.laid na
      have nd : dd ≠ a := fun z => by rw [z, na] at r3; cases r3
      refine ⟨μ', Z, ρ1.set i (some (.exc x.c x.f x.w)), s1, RE.set i (E'.mono ea) ⟨a, dd, v, rfl, upd_same, R'.fz na, by rw [upd_ne nd]; exact r3, r4, r5.mono ea⟩, R'.laid na, ?_⟩
      cases e2 : su (ρ1.set i (some (.exc x.c x.f x.w))) s1 with
      | nx ρ2 s2 => rw [e2] at q; exact fun σ2 H2 μ2 ev2 R2 E2 => q _ _ _ (ev.trans (ea.trans ev2)) R2 (E2.del i)
      | bk ρ2 s2 => rw [e2] at q; exact fun σ2 H2 μ2 ev2 R2 E2 => q _ _ _ (ev.trans (ea.trans ev2)) R2 (E2.del i)
      | ct ρ2 s2 => rw [e2] at q; exact fun σ2 H2 μ2 ev2 R2 E2 => q _ _ _ (ev.trans (ea.trans ev2)) R2 (E2.del i)
      | rt w s2 => rw [e2] at q; exact fun v2 H2 μ2 ev2 R2 r2 => q _ _ _ (ev.trans (ea.trans ev2)) R2 r2
      | er _ _ _ => rw [e2] at q; exact q.elim
      | no => rw [e2] at q; exact q.elim
    · exact q.elim
end
end MP

set_option Elab.async false
set_option linter.all false
set_option maxRecDepth 100000
set_option maxHeartbeats 4000000
/-! lambdas: what is made, how it is called -/
namespace MP
open PySem PySem.Spec PyProof.Rows L2
/-- the names of a lambda: captured ones, globals, and of its own none but what its maker has not -/
structure LamN (N : List Str) (sc scope : Scope) : Prop where
  kind : scope.kind = .function
  co : scope.isCoroutine = false
  gen : scope.isGenerator = false
  cell : ∀ y ∈ scope.names, y.2 ≠ .cell
  own : ∀ y ∈ scope.names, y.2 = .local → y.1 ∉ N
  free : ∀ y ∈ scope.names, y.2 = .free → sc.names.lookup y.1 = some .cell ∨ sc.names.lookup y.1 = some .free
def lamNB (N : List Str) (sc scope : Scope) : Bool :=
  decide (scope.kind = .function) && (!scope.isCoroutine && (!scope.isGenerator && scope.names.all fun y => match y.2 with
    | .cell => false
    | .local => !N.contains y.1
    | .free => decide (sc.names.lookup y.1 = some .cell) || decide (sc.names.lookup y.1 = some .free)
    | _ => true))
theorem lamN_by {N : List Str} {sc scope : Scope} (h : lamNB N sc scope = true) : LamN N sc scope := by
  unfold lamNB at h
  rw [Bool.and_eq_true, Bool.and_eq_true, Bool.and_eq_true, Bool.not_eq_true', Bool.not_eq_true', List.all_eq_true] at h
  obtain ⟨h1, h2, h3, h4⟩ := h
  refine ⟨of_decide_eq_true h1, h2, h3, fun y hy e => ?_, fun y hy e hm => ?_, fun y hy e => ?_⟩
  · have := h4 y hy; rw [e] at this; cases this
  · have := h4 y hy
    rw [e] at this
    have : N.contains y.1 = false := by simpa using this
    rw [List.contains_iff_mem.mpr hm] at this
    cases this
  · have := h4 y hy
    rw [e] at this
    dsimp only at this
    rw [Bool.or_eq_true, decide_eq_true_eq, decide_eq_true_eq] at this
    exact this
theorem LamN.has {N : List Str} {X : Cx} {scope : Scope} (L : LamN N X.env.scope scope) (ok : X.Ok) : ∀ y ∈ scope.names, y.2 = .free → ∃ c, X.env.cells.lookup y.1 = some c := fun y hy e => ok.has _ (L.free y hy e)
section
variable {X : Cx} {pins : List (Addr × Obj)} {σ : L2.St} {H HZ : Hp} {s s1 : Shared}
/-- a lambda's body begins -/
theorem lamN_start {A : Around} {outer : List PySem.Env} {E : XK} {scope : Scope} {f c' : Addr} {h₁ : Heap} {tk : Nat} {binds : List (Str × Value)} (I : Inv X pins σ H s) (L : LamN X.N X.env.scope scope) (e0 : Env0 X.prog X.w X.K X.mg X.base A outer s1 HZ) (hd : A.handled = none)
    (un : Un (frs X.stack) [] H HZ s.heap s1.heap) (hns : h₁.Ns s1.heap.objs.size fun y => binds.reverse.lookup y) (kp : ∀ b o, s1.heap.get? b = some o → h₁.get? b = some o) :
    Inv (LamX.lamCx X A outer s1 HZ E scope f c') [] σ HZ { s1 with heap := h₁, toks := tk } := by
  have here := L.has I.ok
  have inj : ∀ {y : Str} {c : Addr}, (cloFrom X.env.cells scope.names []).lookup y = some c → (y, NameKind.free) ∈ scope.names ∧ X.env.cells.lookup y = some c := fun {y c} e => by
    rcases cloFrom_mem (PySem.mem_of_lookup e) with hm | ⟨h1, h2⟩
    · cases hm
    · obtain ⟨c1, hc⟩ := here _ h1 rfl
      have hc : X.env.cells.lookup y = some c1 := hc
      rw [hc] at h2
      exact ⟨h1, by rw [hc]; exact congrArg some h2.symm⟩
  have found : ∀ {y : Str}, scope.names.lookup y = some .free → ∃ c, (cloFrom X.env.cells scope.names []).lookup y = some c := fun {y} hl => mem_lookup (cloFrom_has (cells := X.env.cells) (acc := []) (PySem.mem_of_lookup hl))
  have cellNow : ∀ {c : Addr} {v : Option Value}, H c = none → s.heap.IsCell c v → h₁.IsCell c v := fun {c v} n ⟨o, ho, hd⟩ => by
    obtain ⟨sl, q⟩ := un.any ho n (by simp)
    exact ⟨_, kp _ _ q, hd⟩
  have noX : ∀ b : Addr, b ∉ (LamX.lamCx X A outer s1 HZ E scope f c').ex := fun b z => absurd (show b ∈ ([] : List Addr) from z) (by simp)
  have okL : (LamX.lamCx X A outer s1 HZ E scope f c').Ok := {
    mod := e0.mod
    kind := L.kind
    glob := rfl
    blt := rfl
    above := Nat.le_refl _
    inj := fun x y c e1 e2 => I.ok.inj x y c (inj e1).2 (inj e2).2
    has := fun x hx => by
      rcases (show scope.names.lookup x = some .cell ∨ scope.names.lookup x = some .free from hx) with q | q
      · exact absurd rfl (L.cell _ (PySem.mem_of_lookup q))
      · exact found q
    cab := fun x c z _ => nomatch (show false = true from z)
    hd := fun _ => hd
    frames := Around.frames_deeper e0.frames
    stk := .inr ⟨rfl, rfl⟩
    exf := fun b z => absurd z (noX b)
    bs := e0.bs
    bsz := e0.bsz
    noex := fun b _ _ => noX b
    exfs := fun b z => absurd z (noX b)
    funs := e0.funs
    frf := e0.frf }
  refine { ok := okL, os := rfl, bare := e0.bare, base := Un.kept kp, loc := ⟨_, hns, fun i y v e1 e2 e3 => ?_⟩, cell := fun y c e => ?_, free := e0.hok.fresh (Nat.le_refl _), freeC := fun y c e => ?_, pin := fun q hq => absurd (show q ∈ ([] : List (Addr × Obj)) ++ [] from hq) (by simp), hok := e0.hok.kept kp, len := I.len }
  · have e1 : X.N[i]? = some y := e1
    rcases (show Vis scope y from e3) with k | k | k
    · exact absurd (List.mem_of_getElem? e1) (L.own _ (PySem.mem_of_lookup k) rfl)
    · exact absurd rfl (L.cell _ (PySem.mem_of_lookup k))
    · have hk := L.free _ (PySem.mem_of_lookup k) rfl
      obtain ⟨m, hn, hl⟩ := I.loc
      obtain ⟨w', r, q⟩ := hl i y v e1 e2 (hk.elim (fun z => .inr (.inl z)) fun z => .inr (.inr z))
      obtain ⟨c2, h2⟩ := found k
      refine ⟨w', r, .inr ⟨.inr k, c2, h2, ?_⟩⟩
      rcases q with ⟨z, _⟩ | ⟨_, c3, e', z⟩
      · have z : X.env.scope.names.lookup y = some .local := z
        rcases hk with q | q <;> rw [show X.env.scope.names.lookup y = _ from q] at z <;> cases z
      · have e4 := (inj h2).2
        rw [e4] at e'
        cases e'
        exact cellNow (I.freeC y _ e4) z
  · obtain ⟨w', z⟩ := I.cell y c (inj e).2
    exact ⟨w', cellNow (I.freeC y c (inj e).2) z⟩
  · obtain ⟨v, o, ho, hd⟩ := I.cell y c (inj e).2
    exact un.free c o ho (I.freeC y c (inj e).2) (by simp)
end
end MP

set_option Elab.async false
set_option linter.all false
set_option maxRecDepth 100000
set_option maxHeartbeats 4000000
/-! lambdas over the data -/
namespace MP
open PySem PySem.Spec PyProof.Rows L2
/-! ### what a lambda holds -/
def selW (ρ : Env) : List Dv := ρ.filterMap id
def selV : Env → L2.St → List V
  | some _ :: ρ, some v :: σ => v :: selV ρ σ
  | none :: ρ, _ :: σ => selV ρ σ
  | _, _ => []
section
variable {Γ : Ct} {H H0 : Hp} {μ μ0 : Mu} {Z Z0 : Zs}
theorem re_cons {x : Option Dv} {y : Option V} {ρ : Env} {σ : L2.St} : RE Γ H μ Z (x :: ρ) (y :: σ) ↔ (∀ w, x = some w → ∃ v, y = some v ∧ RV Γ H μ Z w v) ∧ RE Γ H μ Z ρ σ := by
  constructor
  · rintro ⟨h1, h2⟩
    refine ⟨fun w e => ?_, by simpa using h1, fun i w e => ?_⟩
    · obtain ⟨v, q1, q2⟩ := h2 0 w (by rw [e]; rfl)
      exact ⟨v, by simpa using q1, q2⟩
    · obtain ⟨v, q1, q2⟩ := h2 (i + 1) w (by simpa using e)
      exact ⟨v, by simpa using q1, q2⟩
  · rintro ⟨h1, h2, h3⟩
    refine ⟨by simpa using h2, fun i w e => ?_⟩
    cases i with
    | zero =>
      obtain ⟨v, q1, q2⟩ := h1 w (by simpa using e)
      exact ⟨v, by rw [q1]; rfl, q2⟩
    | succ i =>
      obtain ⟨v, q1, q2⟩ := h3 i w (by simpa using e)
      exact ⟨v, by simpa using q1, q2⟩
theorem sel_of : ∀ {ρ : Env} {σ : L2.St}, RE Γ H μ Z ρ σ → RVs Γ H μ Z (selW ρ) (selV ρ σ)
  | [], _, _ => rfl
  | x :: ρ, [], h => by cases h.1
  | none :: ρ, y :: σ, h => (sel_of (ρ := ρ) (σ := σ) (re_cons.mp h).2 : RVs Γ H μ Z (selW ρ) (selV ρ σ))
  | some w :: ρ, y :: σ, h => by
    obtain ⟨h1, h2⟩ := re_cons.mp h
    obtain ⟨v, q1, q2⟩ := h1 w rfl
    subst q1
    exact RVs.cons q2 (sel_of (ρ := ρ) (σ := σ) h2)
theorem of_sel : ∀ {ρ : Env} {σ : L2.St}, RE Γ H0 μ0 Z0 ρ σ → RVs Γ H μ Z (selW ρ) (selV ρ σ) → RE Γ H μ Z ρ σ
  | [], _, h, _ => ⟨h.1, fun i w e => by cases e⟩
  | x :: ρ, [], h, _ => by cases h.1
  | none :: ρ, y :: σ, h, r => re_cons.mpr ⟨fun w e => (nomatch e), of_sel (ρ := ρ) (σ := σ) (re_cons.mp h).2 r⟩
  | some w :: ρ, y :: σ, h, r => by
    obtain ⟨h1, h2⟩ := re_cons.mp h
    obtain ⟨v, q1, q2⟩ := h1 w rfl
    subst q1
    obtain ⟨x, xs, e, r1, r2⟩ := (show ∃ x xs, v :: selV ρ σ = x :: xs ∧ RV Γ H μ Z w x ∧ RVs Γ H μ Z (selW ρ) xs from r)
    cases e
    exact re_cons.mpr ⟨fun w' e => by cases e; exact ⟨v, rfl, r1⟩, of_sel (ρ := ρ) (σ := σ) h2 r2⟩
end
abbrev lamFd (q : Str) (params : Arguments) (body : Expr) (scope : Scope) (cl : List (Str × Addr)) (dV doc pm : Value) (c' : Addr) (ctv : Value) : FuncData := PySem.W.kdv_fn "<lambda>" q params (.expr body) scope cl dV doc pm (.ref c') ctv
abbrev lamObj (q : Str) (params : Arguments) (body : Expr) (scope : Scope) (cl : List (Str × Addr)) (dV doc pm : Value) (c' : Addr) (ctv : Value) : Obj := { cls := .type "function", data := .func (lamFd q params body scope cl dV doc pm c' ctv) }
/-- a lambda on its way, made ahead of the state s0 under the frames outer: what holds of it and what its call does -/
structure Thk (P : Program) (w : World) (Γ : Ct) (mg : Str → Option Value) (base : Heap) (kk : Nat) (outer : List PySem.Env) (s0 : Shared) (H0 : Hp) (f c' : Addr) (q : Str) (ws : List Dv) (vs : List V) (g : Sto → R Dv) : Prop where
  fn : ∀ (s1 : Shared) (HZ : Hp), Un (frs outer) [] H0 HZ s0.heap s1.heap → PySem.W.FnAt f s1.heap
  run : ∀ (A : Around) (outer1 : List PySem.Env) (s1 : Shared) (HZ : Hp) (Q : VK) (E : XK) (μ : Mu) (Z : Zs) (st : Sto), Room kk A → A.guards = some [] → Env0 P w Γ.K mg base A outer1 s1 HZ → Un (frs outer) [] H0 HZ s0.heap s1.heap →
    HZ c' = some (LamX.CodeO c' q) → RVs Γ HZ μ Z ws vs → Rep Γ HZ μ Z st → PostE Γ (fun c d _ H => E c d H) HZ μ Z [] Q (g st) → codeAny (model P w) A (.call (.ref f) ⟨[], []⟩) (CR (L2.CX P w) outer1 P w HZ s1 Q E) s1
theorem un_comp {fs : List Addr} {L : Addr} {H H1 H2 : Hp} {h h1 h2 : Heap} (u : Un fs [] H H1 h h1) (v : Un (L :: fs) [] H1 H2 h1 h2) (hL : h.objs.size ≤ L) : Un fs [] H H2 h h2 where
  keep := fun b o q n hb hx => v.keep b o (u.keep b o q n hb hx) (u.free b o q n hx) (fun z => (List.mem_cons.mp z).elim (fun e => Nat.lt_irrefl _ (Nat.lt_of_lt_of_le (Heap.lt_size q) (by rw [e]; exact hL))) hb) hx
  slot := fun b o q n hb hx => by
    obtain ⟨sl, e1⟩ := u.slot b o q n hb hx
    obtain ⟨sl2, e2⟩ := v.slot b _ e1 (u.free b o q n hx) (List.mem_cons_of_mem _ hb) hx
    exact ⟨sl2, e2⟩
  free := fun b o q n hx => by
    obtain ⟨o1, e1⟩ := u.there b o q hx
    exact v.free b o1 e1 (u.free b o q n hx) hx
  there := fun b o q hx => by
    obtain ⟨o1, e1⟩ := u.there b o q hx
    exact v.there b o1 e1 hx
  tups := fun b xs q => v.tups b xs (u.tups b xs q)
  frzs := fun b o xs q => v.frzs b o xs (u.frzs b o xs q)
  tbls := fun b ps q => by
    obtain ⟨m1, e1⟩ := u.tbls b ps q
    obtain ⟨m2, e2⟩ := v.tbls b _ e1
    exact ⟨m1 ++ m2, by rw [e2, Array.append_assoc]⟩
/-- one frame deeper -/
theorem Thk.deeper {P : Program} {w : World} {Γ : Ct} {mg : Str → Option Value} {base : Heap} {kk : Nat} {outer : List PySem.Env} {s0 s' : Shared} {H0 H' : Hp} {f c' : Addr} {q : Str} {ws : List Dv} {vs : List V} {g : Sto → R Dv} {env : PySem.Env} {L : Addr}
    (T : Thk P w Γ mg base kk outer s0 H0 f c' q ws vs g) (hf : env.frame = some L) (hL : s0.heap.objs.size ≤ L) (u : Un (frs outer) [] H0 H' s0.heap s'.heap) : Thk P w Γ mg base kk (env :: outer) s' H' f c' q ws vs g := by
  have e : frs (env :: outer) = L :: frs outer := by unfold frs; rw [List.filterMap_cons, hf]
  exact ⟨fun s1 HZ v => T.fn s1 HZ (un_comp u (e ▸ v) hL), fun A outer1 s1 HZ Q E μ Z st h1 h2 h3 v => T.run A outer1 s1 HZ Q E μ Z st h1 h2 h3 (un_comp u (e ▸ v) hL)⟩
theorem Thk.up {P : Program} {w : World} {Γ : Ct} {mg : Str → Option Value} {base : Heap} {kk k2 : Nat} {outer : List PySem.Env} {s0 : Shared} {H0 : Hp} {f c' : Addr} {q : Str} {ws : List Dv} {vs : List V} {g : Sto → R Dv} (T : Thk P w Γ mg base kk outer s0 H0 f c' q ws vs g) (h : kk ≤ k2) : Thk P w Γ mg base k2 outer s0 H0 f c' q ws vs g :=
  ⟨T.fn, fun A outer1 s1 HZ Q E μ Z st hr => T.run A outer1 s1 HZ Q E μ Z st (hr.mono h)⟩
section
variable {X : Cx} {Γ : Ct} {pins : List (Addr × Obj)} {σ : L2.St} {H : Hp} {s : Shared} {μ : Mu} {Z : Zs} {ρ : Env} {k : Nat}
/-- a lambda that was made -/
theorem thk_of {scope : Scope} {params : Arguments} {body : Expr} {f c' : Addr} {dV doc pm ctv : Value} {tl : List (Addr × Obj)} {gb : FE} (I : Inv X pins σ H s) (hK : Γ.K = X.K) (L : LamN X.N X.env.scope scope)
    (hf : s.heap.get? f = some (lamObj (X.env.qual ++ "<lambda>") params body scope (cloFrom X.env.cells scope.names []) dV doc pm c' ctv)) (hfn : H f = none) (hfr : f ∉ frs X.stack) (htl : ∀ p ∈ tl, s.heap.get? p.1 = some p.2 ∧ H p.1 = none ∧ p.1 ∉ frs X.stack)
    (hbd : ∀ s1 : Shared, (∀ p ∈ tl, s1.heap.get? p.1 = some p.2) → ∃ binds, BindsTo s1 (lamFd (X.env.qual ++ "<lambda>") params body scope (cloFrom X.env.cells scope.names []) dV doc pm c' ctv) ⟨[], []⟩ binds ∧ ∀ y ∈ binds, scope.names.lookup y.1 = some .local)
    (hE : RE Γ H μ Z ρ σ)
    (hbody : ∀ (A : Around) (outer : List PySem.Env) (s : Shared) (H : Hp) (E : XK) (W : WX), Room k (A.deeper (LamX.lamEnv X scope s.heap.objs.size f c')) → (A.deeper (LamX.lamEnv X scope s.heap.objs.size f c')).guards = some [] → Takes (LamX.lamCx X A outer s H E scope f c') W → ME (LamX.lamCx X A outer s H E scope f c') Γ W body gb) :
    Thk X.prog X.w Γ X.mg X.base (k + 1) X.stack s H f c' (X.env.qual ++ "<lambda>") (selW ρ) (selV ρ σ) (gb ρ) := by
  have now : ∀ (s1 : Shared) (HZ : Hp), Un (frs X.stack) [] H HZ s.heap s1.heap → s1.heap.get? f = some (lamObj (X.env.qual ++ "<lambda>") params body scope (cloFrom X.env.cells scope.names []) dV doc pm c' ctv) := fun s1 HZ un => un.keep f _ hf hfn hfr (by simp)
  refine ⟨fun s1 HZ un => ⟨_, _, _, _, now s1 HZ un⟩, fun A outer1 s1 HZ Q E μ1 Z1 st room guards e0 un hc rws hR post => ?_⟩
  rw [hK] at e0
  obtain ⟨binds, hb, hl⟩ := hbd s1 fun p hp => un.keep p.1 _ (htl p hp).1 (htl p hp).2.1 (htl p hp).2.2 (by simp)
  obtain ⟨⟨oc, vs, t, hoc, hdc, hvc⟩, _, _⟩ := e0.hok c' _ hc
  refine PySem.W.kla_callFunE room.depth (now s1 HZ un) rfl L.co L.gen rfl ⟨c', oc, vs, t, rfl, hoc, hdc, hvc⟩ (hb _ _ _ _ ?_)
  refine wpAny_newFunctionEnv L.cell hl (fun h₁ hns hsb => ⟨(e0.mod.nolimit.keeps fun b o e => (e0.bs b o e).1).fresh _ hsb, ?_⟩) L.kind
  show codeAny _ _ (.expr body (LamX.lamEnv X scope s1.heap.objs.size f c')) _ _
  have kp : ∀ b o, s1.heap.get? b = some o → h₁.get? b = some o := fun b o e => hsb.extBut b o (Nat.ne_of_lt (Heap.lt_size e)) (Heap.get?_push_of_some _ e)
  have J := lamN_start (E := E) (f := f) (c' := c') (tk := s1.toks + binds.length) I L e0 room.hd un hns kp
  have tk : Takes (LamX.lamCx X A outer1 s1 HZ E scope f c') (fun cls d _ H' => E cls d H') := takes_of rfl rfl rfl rfl
  have post' : PostE Γ (fun c d _ H => E c d H) HZ μ1 Z1 σ Q (gb ρ st) := by
    revert post
    cases gb ρ st with
    | ok w s' => exact id
    | er x s' => exact id
    | no => exact id
  refine PySem.W.kla_codeExpr (wpAny_mono ((hbody A outer1 s1 HZ E _ (room.deeper _) (by show (A.deeper _).guards = _; rw [← guards]; rfl) tk).run [] _ σ HZ Q J ⟨μ1, Z1, ρ, st, of_sel hE rws, hR, post'⟩) (fun v s' hq => ?_) fun e s' hq => hq)
  obtain ⟨w', H', J', rv, q⟩ := hq
  exact ⟨w', H', J'.os, J'.bare, J'.base, J'.hok, rv, q⟩
end
end MP

set_option Elab.async false
set_option linter.all false
set_option maxRecDepth 100000
set_option maxHeartbeats 4000000
/-! a lambda is made -/
namespace MP
open PySem PySem.Spec PyProof.Rows L2
/-- the table behind the making -/
def Made (H H1 : Hp) (P : Addr) (ps : Array Value) (pos : Pos) (c' : Addr) (q : Str) : Prop :=
  (H1 = H ∧ codeAmong pos ps.toList = some (.ref c')) ∨ (H c' = none ∧ H1 = upd (upd H P (.tbl (ps ++ #[rawInt pos.line, rawInt pos.col, .ref c']))) c' (LamX.CodeO c' q))
section
variable {X : Cx} {pins : List (Addr × Obj)} {σ : L2.St} {H : Hp} {s : Shared}
theorem Inv.outFrs (I : Inv X pins σ H s) {f : Addr} (hf : s.heap.objs.size ≤ f) : f ∉ frs X.stack := fun z => by
  rcases List.mem_cons.mp (I.stkSub _ z) with e | e
  · exact absurd I.lt (by rw [← e]; exact Nat.not_lt.mpr hf)
  · exact I.nofs hf e
theorem lam_tail {c P : Addr} {ps : Array Value} {params : Arguments} {body : Expr} {scope : Scope} {pos : Pos} {dV : Value} {Q E : Value → Shared → Prop} (I : Inv X pins σ H s) (TB : LamX.TabB X.base X.mg c P) (hcode : X.env.code = .ref c)
    (hP : H P = some (.tbl ps)) (ht : TriplesOk ps.toList) (ha : ∀ (pos : Pos) (cv : Value), codeAmong pos ps.toList = some cv → ∃ c, cv = .ref c ∧ H c = some (LamX.CodeO c (X.env.qual ++ "<lambda>")))
    (hfree : ∀ y ∈ scope.names, y.2 = .free → ∃ c, X.env.cells.lookup y.1 = some c)
    (h : ∀ (f c' : Addr) (doc ctv : Value) (H1 : Hp) (s' : Shared), Inv X pins σ H1 s' → Made H H1 P ps pos c' (X.env.qual ++ "<lambda>") → (∀ b o, b ≠ P → s.heap.get? b = some o → s'.heap.get? b = some o) →
      s'.heap.get? f = some (lamObj (X.env.qual ++ "<lambda>") params body scope (cloFrom X.env.cells scope.names []) dV doc ((X.mg "__name__").getD .none) c' ctv) → H1 f = none → s.heap.objs.size ≤ f → H1 c' = some (LamX.CodeO c' (X.env.qual ++ "<lambda>")) → Q (.ref f) s') :
    wpAny (model X.prog X.w) X.A (makeTail "<lambda>" (X.env.qual ++ "<lambda>") params (.expr body) scope X.env dV .none none pos pos.line) Q E s := by
  have bP : s.heap.BuiltinsAt X.mg P := TB.bm.keeps I.bk
  have hP' : s.heap.get? P = some { cls := .none, data := .fields ps } := I.hok P _ hP
  cases hc : codeAmong pos ps.toList with
  | none =>
    refine PySem.W.kdv_makeTail (mg := X.mg) (c := c) (P := P) (ps := ps) (closure_ok hfree) I.ok.glob (I.mod.glob.keeps I.bk) hcode (TB.code.keeps I.bk) hP' ht hc TB.gP bP fun c' ctv doc h' tk hx hge hlt hrec htb => ?_
    obtain ⟨c2, oc, vs, t, e2, hoc, hd, hv⟩ := hrec
    cases e2
    have nC : H c' = none := I.hok.fresh hge
    have hsz : s.heap.objs.size ≤ h'.objs.size := Nat.le_trans hge (Nat.le_of_lt hlt)
    have I1 := LamX.inv_table (t' := tk) (more := #[rawInt pos.line, rawInt pos.col, .ref c']) (q := X.env.qual ++ "<lambda>") (h' := h'.push (lamObj (X.env.qual ++ "<lambda>") params body scope (cloFrom X.env.cells scope.names []) dV doc ((X.mg "__name__").getD .none) c' ctv)) I hP
      (fun b o hb e => Heap.get?_push_of_some _ (hx b o hb e)) (Heap.get?_push_of_some _ htb) hge ⟨oc, vs, t, Heap.get?_push_of_some _ hoc, hd, hv⟩
    refine h h'.objs.size c' doc ctv _ _ I1 (.inr ⟨nC, rfl⟩) (fun b o hb e => Heap.get?_push_of_some _ (hx b o hb e)) (Heap.get?_push_size _ rfl) ?_ hsz upd_same
    rw [upd_ne (Nat.ne_of_gt hlt), upd_ne (Nat.ne_of_gt (Nat.lt_of_lt_of_le (Heap.lt_size hP') hsz))]
    exact I.hok.fresh hsz
  | some cv =>
    obtain ⟨c', e, hco⟩ := ha pos cv hc
    subst e
    refine PySem.W.kdv_makeTailHit (mg := X.mg) (c := c) (P := P) (ps := ps) (closure_ok hfree) I.ok.glob (I.mod.glob.keeps I.bk) hcode (TB.code.keeps I.bk) hP' ht hc bP fun ctv doc h' tk hx hsz => ?_
    have I1 : Inv X pins σ H { s with heap := h'.push (lamObj (X.env.qual ++ "<lambda>") params body scope (cloFrom X.env.cells scope.names []) dV doc ((X.mg "__name__").getD .none) c' ctv), toks := tk } := I.kept fun b o e => Heap.get?_push_of_some _ (hx b o e)
    exact h h'.objs.size c' doc ctv H _ I1 (.inl ⟨rfl, hc⟩) (fun b o _ e => Heap.get?_push_of_some _ (hx b o e)) (Heap.get?_push_size _ rfl) (I.hok.fresh hsz) hsz hco
/-- the ways a lambda's parameters are filled up: none, or one with a whole number for its default -/
def LamP (params : Arguments) (scope : Scope) : Prop :=
  (∀ env : PySem.Env, defaultsOf params env = ([], [])) ∧ (∀ (q : Str) (b : Expr) (cl : List (Str × Addr)) (doc pm : Value) (c' : Addr) (ctv : Value), bindArgs (lamFd q params b scope cl .none doc pm c' ctv) ⟨[], []⟩ = pure []) ∨
  (∃ (a : Str) (i : Int) (j : Nat) (p : Pos), params.defaults = [.Constant (.int i) j p] ∧ params.kw_defaults = [] ∧ scope.names.lookup a = some .local ∧
    ∀ (q : Str) (b : Expr) (cl : List (Str × Addr)) (t : Addr) (doc pm : Value) (c' : Addr) (ctv : Value), ∃ k : Option (Array Value) → Sem (List (Str × Value)), bindArgs (lamFd q params b scope cl (.ref t) doc pm c' ctv) ⟨[], []⟩ = seqItems? (.ref t) >>= k ∧ ∀ v, k (some #[v]) = pure [(a, v)])
/-- the lambda is made; tl: what it holds of its defaults -/
theorem lam_made {c P : Addr} {ps : Array Value} {params : Arguments} {body : Expr} {scope : Scope} {pos : Pos} {Q E : Value → Shared → Prop} (hp : LamP params scope) (I : Inv X pins σ H s) (TB : LamX.TabB X.base X.mg c P) (hcode : X.env.code = .ref c)
    (hP : H P = some (.tbl ps)) (ht : TriplesOk ps.toList) (ha : ∀ (pos : Pos) (cv : Value), codeAmong pos ps.toList = some cv → ∃ c, cv = .ref c ∧ H c = some (LamX.CodeO c (X.env.qual ++ "<lambda>")))
    (hfree : ∀ y ∈ scope.names, y.2 = .free → ∃ c, X.env.cells.lookup y.1 = some c)
    (h : ∀ (f c' : Addr) (dV doc ctv : Value) (tl : List (Addr × Obj)) (H1 : Hp) (s' : Shared), Inv X pins σ H1 s' → Made H H1 P ps pos c' (X.env.qual ++ "<lambda>") →
      s'.heap.get? f = some (lamObj (X.env.qual ++ "<lambda>") params body scope (cloFrom X.env.cells scope.names []) dV doc ((X.mg "__name__").getD .none) c' ctv) → H1 f = none → s.heap.objs.size ≤ f → H1 c' = some (LamX.CodeO c' (X.env.qual ++ "<lambda>")) →
      (∀ p ∈ tl, s'.heap.get? p.1 = some p.2 ∧ H1 p.1 = none ∧ s.heap.objs.size ≤ p.1 ∧ ∀ v, p.2.data ≠ .cell v) →
      (∀ s1 : Shared, (∀ p ∈ tl, s1.heap.get? p.1 = some p.2) → ∃ binds, BindsTo s1 (lamFd (X.env.qual ++ "<lambda>") params body scope (cloFrom X.env.cells scope.names []) dV doc ((X.mg "__name__").getD .none) c' ctv) ⟨[], []⟩ binds ∧ ∀ y ∈ binds, scope.names.lookup y.1 = some .local) → Q (.ref f) s') :
    wpAny (model X.prog X.w) X.A (eval (.Lambda params body scope pos) X.env) Q E s := by
  rcases hp with ⟨hd, hb⟩ | ⟨a, i, j, p, hd, hk, hl, hb⟩
  · refine PySem.W.kla_eval (hd X.env) ?_
    rw [makeFunction_eq]
    simp only [List.zip_nil_right, List.filterMap_nil, List.isEmpty_nil, if_true, pure_bind]
    exact lam_tail I TB hcode hP ht ha hfree fun f c' doc ctv H1 s' I1 m _ h1 h2 h3 h4 => h f c' .none doc ctv [] H1 s' I1 m h1 h2 h3 h4 (fun p hp => nomatch hp) fun s1 _ => ⟨[], .of_eq (hb _ _ _ _ _ _ _), fun y hy => nomatch hy⟩
  · refine PySem.W.kdv_lam (by rw [hd]; rfl) hk ?_
    rw [hd]
    refine PySem.W.kdv_all1 (wpAny_Constant_int (PySem.W.kdv_all0 ?_))
    rw [makeFunction_eq]
    simp only [List.zip_nil_right, List.filterMap_nil, List.isEmpty_nil, List.isEmpty_cons, if_true, pure_bind, Bool.false_eq_true, if_false]
    refine wpAny_bind (wpAny_newTextTuple ?_)
    have I2 := I.tok (s.toks + 1)
    refine lam_tail (I2.kept (t' := s.toks + 1) fun b u e => Heap.get?_push_of_some _ e) TB hcode hP ht ha hfree fun f c' doc ctv H1 s' I1 m kp h1 h2 h3 h4 => ?_
    have hsz : s.heap.get? s.heap.objs.size = none := by
      cases e : s.heap.get? s.heap.objs.size with
      | none => rfl
      | some o => exact absurd (Heap.lt_size e) (Nat.lt_irrefl _)
    have hnP : s.heap.objs.size ≠ P := fun z => by
      have := I.hok P _ hP
      rw [← z] at this
      rw [show s.heap.get? _ = some _ from this] at hsz
      cases hsz
    have at1 := kp _ _ hnP (Heap.get?_push_size s.heap rfl)
    have hH : H s.heap.objs.size = none := I.hok.fresh (Nat.le_refl _)
    have hnc : s.heap.objs.size ≠ c' := fun z => by
      obtain ⟨⟨oc, vs, t, q1, q2, _⟩, _⟩ := I1.hok c' _ h4
      rw [← z, at1] at q1
      cases q1
      cases q2
    refine h f c' _ doc ctv [(s.heap.objs.size, PySem.W.kdv_tup [Value.int i s.toks])] H1 s' I1 m h1 h2 (Nat.le_trans (by rw [Heap.size_push]; exact Nat.le_succ _) h3) h4 (fun p hp => ?_) fun s1 hs => ?_
    · rw [List.mem_singleton] at hp
      subst hp
      refine ⟨at1, ?_, Nat.le_refl _, fun v z => by cases z⟩
      rcases m with ⟨e, _⟩ | ⟨_, e⟩
      · rw [e]; exact hH
      · rw [e, upd_ne hnc, upd_ne hnP]; exact hH
    · obtain ⟨k, k1, k2⟩ := hb (X.env.qual ++ "<lambda>") body (cloFrom X.env.cells scope.names []) s.heap.objs.size doc ((X.mg "__name__").getD .none) c' ctv
      exact ⟨_, BindsTo.of_defaults rfl (hs _ (List.mem_singleton.mpr rfl)) rfl k1 (k2 _), fun y hy => by rw [List.mem_singleton] at hy; subst hy; exact hl⟩
end
/-- the store behind the making -/
theorem made_rep {Γ : Ct} {H H1 : Hp} {μ : Mu} {Z : Zs} {st : Sto} {nt n : Nat} {P c' : Addr} {ps : Array Value} {pos : Pos} {q : Str} (hR : Rep Γ H μ Z st) (hn : μ nt = some P) (he : st[nt]? = some (.tab n q)) (hP : H P = some (.tbl ps)) (m : Made H H1 P ps pos c' q) :
    Evo H μ H1 μ ∧ Rep Γ H1 μ Z st ∧ Fz μ Z c' := by
  obtain ⟨a, g1, g2, g3, ps0, g4, g5, g6⟩ := hR.at nt _ he
  rw [hn] at g1
  cases g1
  rw [hP] at g4
  cases g4
  rcases m with ⟨e, hc⟩ | ⟨nC, e⟩
  · subst e
    obtain ⟨c, e1, _, e3⟩ := g6 pos _ hc
    cases e1
    exact ⟨Evo.refl, hR, e3⟩
  · subst e
    have fzc := hR.fz nC
    have nPc : P ≠ c' := ne_of_none hP nC
    have ev : Evo H μ (upd (upd H P (.tbl (ps ++ #[rawInt pos.line, rawInt pos.col, .ref c']))) c' (LamX.CodeO c' q)) μ := {
      keep := fun a o h k => by rw [upd_ne (ne_of_none h nC), upd_ne fun z => k nt (by rw [z]; exact hn)]; exact h
      mu := fun _ _ h => h
      new := fun _ _ h => .inl h
      stay := fun m a h k => by
        by_cases h1 : a = c'
        · rw [h1, upd_same]; intro z; cases z
        · rw [upd_ne h1]
          by_cases h2 : a = P
          · rw [h2, upd_same]; intro z; cases z
          · rw [upd_ne h2]; exact k }
    refine ⟨ev, ⟨fun k o eo => ?_, hR.inj, hR.dom, fun a z => ev.alive (hR.za a z)⟩, fzc⟩
    obtain ⟨a, k1, k2, k3⟩ := hR.at k o eo
    refine ⟨a, k1, k2, ?_⟩
    have nac : a ≠ c' := fun z => hR.alive k1 (by rw [z]; exact nC)
    by_cases hk : a = P
    · subst hk
      have := hR.inj _ _ _ k1 hn
      subst this
      rw [he] at eo
      cases eo
      refine ⟨g3, _, by rw [upd_ne nPc, upd_same], ?_, fun p' cv hcv => ?_⟩
      · rw [Array.toList_append]
        exact PySem.TriplesOk_snoc _ _ _ _ g5
      · rw [Array.toList_append] at hcv
        rcases LamX.among_app _ g5 hcv with z | z
        · obtain ⟨c0, e1, e2, e3⟩ := g6 p' cv z
          exact ⟨c0, e1, ev.keep _ _ e2 e3.1, e3⟩
        · exact ⟨c', z, upd_same, fzc⟩
    · exact k3.mono' ev (by rw [upd_ne nac, upd_ne hk])
end MP

set_option Elab.async false
set_option linter.all false
set_option maxRecDepth 100000
set_option maxHeartbeats 4000000
/-! defs that get a lambda; x(lambda: ..) -/
namespace MP
open PySem PySem.Spec PyProof.Rows L2
/-- what a def promises that gets a lambda for its first argument -/
def spL (P : Program) (w : World) (Γ : Ct) (mg : Str → Option Value) (base : Heap) (kk : Nat) (ps : List Str) (den : (Sto → R Dv) → Fn) (outer : List PySem.Env) (s : Shared) (vs : List V) (H : Hp) (Q : VK) (E : XK) : Prop :=
  vs.length = ps.length ∧ ∃ f c q ws vs0 g μ Z st wa, Thk P w Γ mg base kk outer s H f c q ws vs0 g ∧ Rep Γ H μ Z st ∧ RVs Γ H μ Z (.clo f c q ws vs0 :: wa) vs ∧ PostE Γ (fun c d _ H => E c d H) H μ Z [] Q (den g wa st)
structure FnL (P : Program) (w : World) (mg : Str → Option Value) (base : Heap) (Γ : Ct) (k kk : Nat) (f : Addr) (fd : FuncData) (ps : List Str) (den : (Sto → R Dv) → Fn) : Prop where
  run : ∀ (A : Around) (outer : List PySem.Env) (s : Shared) (H : Hp) (args : Args) (us : List Value) (vs : List V) (Q : VK) (E : XK), Room k A → A.guards = some [] → Env0 P w Γ.K mg base A outer s H → BindsTo s fd args (ps.zip us) → Vals vs us → spL P w Γ mg base kk ps den outer s vs H Q E →
    codeAny (model P w) A (.call (.ref f) args) (CR (L2.CX P w) outer P w H s Q E) s
/-- a def that gets a lambda keeps what its body's reading says -/
theorem ok_fnL {P : Program} {w : World} {mg : Str → Option Value} {base : Heap} {Γ : Ct} {x qual : Str} {st : Stmt} {f : Addr} {fd : FuncData} {N ps : List Str} {k kk : Nat} {c : Dv → (Sto → R Dv) → FS} {den : (Sto → R Dv) → Fn} (F : Fun Γ.K x qual st f fd) (S : FnScope N ps (defScope st))
    (hbody : ∀ (cdv : Value) (A : Around) (outer : List PySem.Env) (s : Shared) (H : Hp) (E : XK) (W : WX) (f' c' : Addr) (q : Str) (ws : List Dv) (vs : List V) (g : Sto → R Dv), Thk P w Γ mg base kk outer s H f' c' q ws vs g → Room k (A.deeper (envF qual st s f cdv)) → (A.deeper (envF qual st s f cdv)).guards = some [] → Takes (cxF Γ P w mg base N qual st f cdv A outer s H E) W →
      MB (cxF Γ P w mg base N qual st f cdv A outer s H E) Γ W (defBody st) (c (.clo f' c' q ws vs) g))
    (hden : ∀ (cl : Dv) (g : Sto → R Dv) (wa : List Dv) (s : Sto), finC s.length (c cl g (startD N.length (cl :: wa)) s) = den g wa s) : FnL P w mg base Γ (k + 1) kk f fd ps den := by
  obtain ⟨oc, od, kV, doc, pm, an, cdv, ct, osl, rfl, lk, hcd⟩ := F.ex
  refine ⟨fun A outer s H args us vs Q E room guards e0 binds rel ⟨hlen, f', c', q, ws, vs0, g, μ, Z, st0, wa, T, hR, rws, post⟩ => ?_⟩
  have stays : ∀ b o, base.get? b = some o → s.heap.get? b = some o := fun b o e => (e0.bs b o e).1
  have inK : Γ.K.In s.heap := e0.mod.kin.keeps stays
  have kinds : ∀ y ∈ ps.zip us, (defScope st).names.lookup y.1 = some .local ∨ ((defScope st).names.lookup y.1 = some .cell ∧ ((cellsFrom (s.heap.objs.size + 1) (defScope st).names []).lookup y.1).isSome = true) := by
    rintro ⟨n, v⟩ hy
    exact (S.par n (List.of_mem_zip hy).1).imp id fun q => ⟨q, PySem.W.cellsFrom_some _ _ _ (.inl q)⟩
  refine codeAny_call_function room.depth (inK _ _ lk) rfl S.co S.gen rfl (PySem.W.codeRec_of inK hcd) (binds _ _ _ _ ?_)
  refine wpAny_newFunctionEnv_cells S.kind kinds fun env he s1 entered => ?_
  subst he
  refine ⟨(e0.mod.nolimit.keeps stays).keeps entered.toInCall.keep, codeAny_func ?_⟩
  have I := inv_start (CX := L2.CX P w) (E := E) (cd := cdv) S room.hd e0 hlen rel entered
  have tk : Takes (cxF Γ P w mg base N qual st f cdv A outer s H E) (fun cls d _ H' => E cls d H') := takes_of rfl rfl rfl rfl
  rw [← hden (.clo f' c' q ws vs0)] at post
  have run := (hbody cdv A outer s H E _ f' c' q ws vs0 g T (room.deeper _) (by show (A.deeper _).guards = _; rw [← guards]; rfl) tk).run [] s1 (L2.start N vs) H { nx := fun _ H' => Q .non H', rt := Q } I
    ⟨μ, Z, startD N.length (.clo f' c' q ws vs0 :: wa), st0, re_start rws, hR, body_end hR post⟩
  refine wpAny_mono run (fun fl s' hs => ?_) fun e s' hs => hs
  cases fl with
  | ret u =>
    obtain ⟨v, σ', H', J, rv, q⟩ := hs
    exact ⟨v, H', J.os, J.bare, J.base, J.hok, rv, q⟩
  | next =>
    obtain ⟨σ', H', J, q⟩ := hs
    exact ⟨V.non, H', J.os, J.bare, J.base, J.hok, rfl, q⟩
  | brk => exact hs.elim fun _ z => z.elim fun _ z => z.2.elim
  | cont => exact hs.elim fun _ z => z.elim fun _ z => z.2.elim
section
variable {X : Cx} {Γ : Ct} {W : WX} {k kk : Nat} {f : Addr} {fd : FuncData} {ps : List Str} {den : (Sto → R Dv) → Fn} {x a : Str} {i : Nat} {p p1 p2 pos lpos : Pos} {es : List Expr} {fa : FA}
open Classical in
/-- a(): the lambda that the name holds -/
noncomputable def mThk (i : Nat) (cl : Dv) (g : Sto → R Dv) : FE := fun ρ s => if ρ[i]? = some (some cl) then g s else .no
theorem me_thk {f' c' : Addr} {q : Str} {ws : List Dv} {vs : List V} {g : Sto → R Dv} (T : Thk X.prog X.w Γ X.mg X.base kk X.outer X.s_0 X.H_0 f' c' q ws vs g) (hK : Γ.K = X.K) (hex : X.ex = []) (hr : Room kk X.A) (hg : X.A.guards = some []) (tk : Takes X W)
    (hN : X.N[i]? = some a) (hv : Vis X.env.scope a) (hd : (a == ("__debug__" : Str)) = false := by decide) (hcd : (a == ("__classdict__" : Str)) = false := by decide) :
    ME X Γ W (.Call (.Name a p1) [] [] p2) (mThk i (.clo f' c' q ws vs) g) := by
  refine ⟨fun pins s σ H Q I ⟨μ, Z, ρ, st, hE, hR, post⟩ => ?_⟩
  unfold mThk at post
  split at post
  · rename_i hi
    obtain ⟨v, hs, ev, hc, _, rws⟩ := hE.2 i _ hi
    subst ev
    refine wpAny_Call_Name_kw (thn ((pe_var (pos := p1) (i := i) hN hv hd hcd).run pins s σ H (fun v H1 => v = .ref f' ∧ H1 = H) I ⟨.ref f', hs, rfl, rfl⟩) fun u s1 ⟨v, H1, I1, r1, q1⟩ => ?_)
    obtain ⟨ev, eH⟩ := q1
    subst ev
    rw [eH] at I1
    obtain rfl : u = Value.ref f' := r1
    have un : Un (frs X.outer) [] X.H_0 H X.s_0.heap s1.heap := by have := I1.base; rw [hex] at this; exact this
    refine PySem.W.callWith_F0 (T.fn s1 H un) ?_
    refine wpAny_call (codeAny_mono (T.run X.A X.stack s1 H Q (WE W σ) μ Z st hr hg (by rw [hK]; exact I1.env0) un hc rws hR (post_call post)) fun r' s' hq => ?_)
    cases r' with
    | error e => exact passAt tk σ pins H s1 e s' I1 hq
    | ok fl =>
      cases fl with
      | ret u => exact I1.after hq
      | next => exact hq.elim
      | brk => exact hq.elim
      | cont => exact hq.elim
  · exact post.elim
/-- a def that gets a lambda is called -/
theorem run_L {pins : List (Addr × Obj)} {σ : L2.St} {H : Hp} {s : Shared} {Q : VK} {us : List Value} {vs : List V} (F : FnL X.prog X.w X.mg X.base Γ k kk f fd ps den) (hK : Γ.K = X.K) (hr : Room k X.A) (hg : X.A.guards = some []) (hb : Binds X.K fd ps []) (tk : Takes X W)
    (I : Inv X pins σ H s) (r : Vals vs us) (h : spL X.prog X.w Γ X.mg X.base kk ps den X.stack s vs H Q (WE W σ)) : wpAny (model X.prog X.w) X.A (call (.ref f) us) (EP X pins σ Q) X.xe s := by
  have hl : (us ++ []).length = ps.length := by rw [List.append_nil]; exact r.length.symm.trans h.1
  have hb' := hb s us I.kIn hl
  rw [List.append_nil] at hb'
  refine wpAny_call (codeAny_mono (F.run X.A X.stack s H ⟨us, []⟩ us vs Q (WE W σ) hr hg (by rw [hK]; exact I.env0) hb' r h) fun r' s' hq => ?_)
  cases r' with
  | error e => exact passAt tk σ pins H s e s' I hq
  | ok fl =>
    cases fl with
    | ret u => exact I.after hq
    | next => exact hq.elim
    | brk => exact hq.elim
    | cont => exact hq.elim
open Classical in
/-- x(a, ..): the lambda is handed on -/
noncomputable def mPass (cl : Dv) (g : Sto → R Dv) (den : (Sto → R Dv) → Fn) (fa : FA) : FE := fun ρ s => (fa ρ s).bind fun ws s1 => match ws with
  | w :: wa => if w = cl then den g wa s1 else .no
  | [] => .no
open Classical in
theorem me_pass {f' c' : Addr} {q : Str} {ws : List Dv} {vs : List V} {g : Sto → R Dv} {e : Expr} (T : Thk X.prog X.w Γ X.mg X.base kk X.outer X.s_0 X.H_0 f' c' q ws vs g) (F : FnL X.prog X.w X.mg X.base Γ k kk f fd ps den) (hK : Γ.K = X.K) (hex : X.ex = []) (hs : X.stack = X.env :: X.outer) (hf : X.env.frame = some X.env.locals)
    (hr : Room k X.A) (hg : X.A.guards = some []) (hgl : Gl X x) (hm : X.mg x = some (.ref f)) (hk : PySem.W.keepIn X.K (.ref f) = true) (hb : Binds X.K fd ps []) (tk : Takes X W) (ha : MA X Γ W (e :: es) fa) (n : Nat) (hl : FA.Len fa n) (hn : n = ps.length) (hdb : (x == ("__debug__" : Str)) = false := by decide)
    (he : starEach (e :: es) X.env = (false, eval e X.env) :: starEach es X.env := by rfl) (hpl : (backTo pos (starEach es X.env)).any (·.1) = false := by rfl) :
    ME X Γ W (.Call (.Name x p) (e :: es) [] pos) (mPass (.clo f' c' q ws vs) g den fa) := by
  refine ⟨fun pins s σ H Q I ⟨μ, Z, ρ, s0, hE, hR, post⟩ => ?_⟩
  refine wpAny_Call_Name_kw (ld_glob I hgl hm ?_ hdb)
  have q' : rdA Γ W fa σ H fun us H1 => us.length = ps.length ∧ ∃ μ1 st wa, Rep Γ H1 μ1 Z st ∧ RVs Γ H1 μ1 Z (.clo f' c' q ws vs :: wa) us ∧ PostE Γ (fun c d _ H => WE W σ c d H) H1 μ1 Z [] Q (den g wa st) := by
    refine ⟨μ, Z, ρ, s0, hE, hR, ?_⟩
    unfold mPass at post
    cases e1 : fa ρ s0 with
    | ok wl s1 =>
      rw [e1] at post
      cases wl with
      | nil => exact post.elim
      | cons w wa =>
        have post2 : PostE Γ W H μ Z σ Q (if w = .clo f' c' q ws vs then den g wa s1 else .no) := post
        clear post
        split at post2
        · rename_i ew
          subst ew
          intro us H1 μ1 ev R1 r1
          exact ⟨by rw [r1.len, hl _ _ _ _ e1, hn], μ1, s1, wa, R1, r1, post_call (PostE.evo ev post2)⟩
        · exact post2.elim
    | er x1 s1 => rw [e1] at post; exact post
    | no => rw [e1] at post; exact post
  refine PySem.W.callWith_K (h₀ := X.base) I.ok.mod.kin hk (thn (ha.run pos pins s σ H _ I q') fun us s1 ⟨vl, H1, I1, r, z1, μ1, st, wa, z2, z3, z4⟩ => ⟨I1.kIn, ?_⟩) he hpl
  have un : Un (frs X.outer) [] X.H_0 H1 X.s_0.heap s1.heap := by have := I1.base; rw [hex] at this; exact this
  exact run_L F hK hr hg hb tk I1 r ⟨z1, f', c', q, ws, vs, g, μ1, Z, st, wa, hs ▸ T.deeper hf I1.ok.above un, z2, z3, z4⟩
/-- x(lambda: .., ..) -/
def mLam (nt n : Nat) (q : Str) (gb : FE) (den : (Sto → R Dv) → Fn) (fa : FA) : FE := fun ρ s => match s[nt]? with
  | some (.tab m q') => if m = n ∧ q' = q then (fa ρ s).bind fun wa s1 => den (gb ρ) wa s1 else .no
  | _ => .no
theorem me_lam {c : Addr} {nt n : Nat} {params : Arguments} {body : Expr} {scope : Scope} {gb : FE} {kb : Nat} (F : FnL X.prog X.w X.mg X.base Γ k (kb + 1) f fd ps den) (hK : Γ.K = X.K)
    (hr : Room k X.A) (hg : X.A.guards = some []) (hgl : Gl X x) (hm : X.mg x = some (.ref f)) (hk : PySem.W.keepIn X.K (.ref f) = true) (hb : Binds X.K fd ps []) (tk : Takes X W)
    (TB : LamX.TabB X.base X.mg c (Γ.tb n)) (hcode : X.env.code = .ref c) (hp : LamP params scope) (L : LamN X.N X.env.scope scope)
    (hbody : ∀ (f c' : Addr) (A : Around) (outer : List PySem.Env) (s : Shared) (H : Hp) (E : XK) (W : WX), Room kb (A.deeper (LamX.lamEnv X scope s.heap.objs.size f c')) → (A.deeper (LamX.lamEnv X scope s.heap.objs.size f c')).guards = some [] → Takes (LamX.lamCx X A outer s H E scope f c') W → ME (LamX.lamCx X A outer s H E scope f c') Γ W body gb)
    (ha : MA X Γ W es fa) (j : Nat) (hl : FA.Len fa j) (hn : j + 1 = ps.length) (hdb : (x == ("__debug__" : Str)) = false := by decide)
    (he : starEach (.Lambda params body scope lpos :: es) X.env = (false, eval (.Lambda params body scope lpos) X.env) :: starEach es X.env := by rfl) (hpl : (backTo pos (starEach es X.env)).any (·.1) = false := by rfl) :
    ME X Γ W (.Call (.Name x p) (.Lambda params body scope lpos :: es) [] pos) (mLam nt n (X.env.qual ++ "<lambda>") gb den fa) := by
  refine ⟨fun pins s σ H Q I ⟨μ, Z, ρ, s0, hE, hR, post⟩ => ?_⟩
  refine wpAny_Call_Name_kw (ld_glob I hgl hm ?_ hdb)
  unfold mLam at post
  split at post
  · rename_i m q' et
    split at post
    · rename_i hmq
      obtain ⟨h1, h2⟩ := hmq
      subst h1 h2
      obtain ⟨a, g1, g2, g3, ps0, g4, g5, g6⟩ := hR.at nt _ et
      subst g3
      refine PySem.W.callWith_K (h₀ := X.base) I.ok.mod.kin hk ?_ he hpl
      show wpAny _ _ (spliced ((false, eval (.Lambda params body scope lpos) X.env) :: backTo pos (starEach es X.env))) _ _ s
      refine Calls.spliced_cons (lam_made hp I TB hcode g4 g5 (fun p' cv e => let ⟨c0, e1, e2, _⟩ := g6 p' cv e; ⟨c0, e1, e2⟩) (L.has I.ok) fun f' c' dV doc ctv tl H1 s1 I1 m1 o1 o2 o3 o4 o5 o6 => ?_)
      obtain ⟨ev, R1, fzc⟩ := made_rep hR g1 et g4 m1
      have E1 : RE Γ H1 μ Z ρ σ := hE.mono ev
      have q' : rdA Γ W fa σ H1 fun us H2 => ∃ μ2 st wa, us.length = j ∧ Rep Γ H2 μ2 Z st ∧ RVs Γ H2 μ2 Z wa us ∧ RE Γ H2 μ2 Z ρ σ ∧ H2 c' = some (LamX.CodeO c' (X.env.qual ++ "<lambda>")) ∧ Fz μ2 Z c' ∧ PostE Γ (fun c d _ H => WE W σ c d H) H2 μ2 Z [] Q (den (gb ρ) wa st) := by
        refine ⟨μ, Z, ρ, s0, E1, R1, ?_⟩
        cases e1 : fa ρ s0 with
        | ok wl st =>
          rw [e1] at post
          have post : PostE Γ W H μ Z σ Q (den (gb ρ) wl st) := post
          intro us H2 μ2 ev2 R2 r2
          exact ⟨μ2, st, wl, by rw [r2.len, hl _ _ _ _ e1], R2, r2, E1.mono ev2, ev2.keep _ _ o4 fzc.1, ev2.fz (by rw [o4]; intro z; cases z) fzc, post_call (PostE.evo (ev.trans ev2) post)⟩
        | er x1 s1 => rw [e1] at post; exact fun cls d H' μ' ev2 => post cls d H' μ' (ev.trans ev2)
        | no => rw [e1] at post; exact post
      have pinned : ∀ p ∈ (f', lamObj (X.env.qual ++ "<lambda>") params body scope (cloFrom X.env.cells scope.names []) dV doc ((X.mg "__name__").getD .none) c' ctv) :: tl, s1.heap.get? p.1 = some p.2 ∧ H1 p.1 = none ∧ s.heap.objs.size ≤ p.1 ∧ ∀ v, p.2.data ≠ .cell v := fun p hp => by
        rcases List.mem_cons.mp hp with e | e
        · subst e
          exact ⟨o1, o2, o3, fun v z => by cases z⟩
        · exact o5 p e
      have I1' : Inv X (((f', lamObj (X.env.qual ++ "<lambda>") params body scope (cloFrom X.env.cells scope.names []) dV doc ((X.mg "__name__").getD .none) c' ctv) :: tl) ++ pins) σ H1 s1 := I1.pins_of fun p hp => by
        rcases List.mem_append.mp hp with e | e
        · obtain ⟨y1, y2, y3, y4⟩ := pinned p e
          exact ⟨y1, y2, fun z => absurd I.lt (by rw [← z]; exact Nat.not_lt.mpr y3), I.nofs y3, y4⟩
        · exact I1.pin p (List.mem_append_right _ e)
      refine thn (ha.run pos _ s1 σ H1 _ I1' q') fun us s2 ⟨vl, H2, I2', r, μ2, st, wa, z1, z2, z3, z4, z5, z6, z7⟩ => ?_
      have I2 : Inv X pins σ H2 s2 := I2'.pins_of fun p hp => I2'.pin p (List.mem_append_right _ (List.mem_append_right _ hp))
      have T : Thk X.prog X.w Γ X.mg X.base (kb + 1) X.stack s2 H2 f' c' (X.env.qual ++ "<lambda>") (selW ρ) (selV ρ σ) (gb ρ) := thk_of (tl := tl) I2 hK L (I2'.pin _ (List.mem_append_right _ (List.mem_append_left _ List.mem_cons_self))).1 (I2'.pin _ (List.mem_append_right _ (List.mem_append_left _ List.mem_cons_self))).2.1 (Inv.outFrs I o3)
        (fun p hp => ⟨(I2'.pin p (List.mem_append_right _ (List.mem_append_left _ (List.mem_cons_of_mem _ hp)))).1, (I2'.pin p (List.mem_append_right _ (List.mem_append_left _ (List.mem_cons_of_mem _ hp)))).2.1, Inv.outFrs I (o5 p hp).2.2.1⟩) o6 z4 (hbody f' c')
      refine ⟨I2.kIn, ?_⟩
      exact run_L F hK hr hg hb tk I2 (.cons (show L2.RelV (.ref f') (.ref f') from rfl) r) ⟨by rw [List.length_cons, z1, hn], f', c', _, _, _, _, μ2, Z, st, wa, T, z2, ⟨.ref f', vl, rfl, ⟨rfl, z5, z6, sel_of z4⟩, z3⟩, z7⟩
    · exact post.elim
  · exact post.elim
end
end MP

set_option Elab.async false
set_option linter.all false
set_option maxRecDepth 100000
set_option maxHeartbeats 4000000
/-! the law's call, with one table of code objects -/
namespace MP
open PySem PySem.Spec PyProof.Rows L2
section
variable {P : Program} {w : World} {Γ : Ct} {mg mb : Str → Option Value} {k : Nat} {fa a c T : Addr} {fd : FuncData} {x q : Str} {den : Fn} {s₁ : Shared} {vs : List Value} {ns : List Int}
theorem law_GT (KX : Γ.K.In s₁.heap) (hns : s₁.heap.Ns mainGlobals mg) (hb : s₁.heap.Ns builtinsNs mb) (hbb : ∀ x : Str, x ≠ "__name__" → mb x = bootBuiltins x) (hlim : s₁.heap.NoLimit) (hg : s₁.gens = #[])
    (hT : s₁.heap.get? T = some { cls := .none, data := .fields #[] }) (nT : Γ.K.lookup T = none) (hC : PySem.W.CodeHd s₁.heap c T) (hΓ : Γ.tb 0 = T)
    (hbm : ∃ (bm : Addr) (ob : Obj), mg "__builtins__" = some (.ref bm) ∧ bm ≠ builtinsNs ∧ s₁.heap.get? bm = some ob ∧ ob.cls = .type "module" ∧ ob.dict = some builtinsNs ∧ ob.data = .plain)
    (ha : s₁.heap.get? a = some { cls := .type "list", data := .seq vs.toArray }) (hi : IntsAre vs ns) (hl : ns.length ≤ sizeLine) (hr : Room k callerA)
    (F : ∀ base : Heap, Γ.K.In base → base.Ns mainGlobals mg → LamX.TabB base mg c T → FnG P w mg base Γ k fa fd [x] den) (hbind : ∀ (s : Shared) (u : Value), BindsTo s fd ⟨[u], []⟩ [(x, u)])
    (hden : ∃ s', den [.sq (ns.map .int)] [.tab 0 q] = .ok (.bl true) s') :
    codeAny (model P w) callerA (.call (.ref fa) ⟨[.ref a], []⟩) (fun r s' => r = .ok (.ret (.bool true)) ∧ OldK s₁.heap s'.heap ∧ s'.os = s₁.os ∧ AllBare s'.gens) s₁ := by
  have rv : Vals (ns.map V.int) vs := vals_ints hi
  have rl := hi.length
  let ob : Obj := { cls := .type "list", data := .seq vs.toArray }
  let tr : HO := .frz ob (.lst (ns.map V.int))
  let H : Hp := fun b => if b = a ∧ Γ.K.lookup a = none then some tr else if b = T then some (.tbl #[]) else none
  have naT : a ≠ T := fun z => by rw [z, hT] at ha; cases ha
  have HT : H T = some (.tbl #[]) := by
    show (if T = a ∧ Γ.K.lookup a = none then some tr else if T = T then some (HO.tbl #[]) else none) = _
    rw [if_neg (fun z => naT z.1.symm), if_pos rfl]
  have Hin : ∀ b o, H b = some o → ((b = a ∧ Γ.K.lookup a = none) ∧ o = tr) ∨ (b = T ∧ o = .tbl #[]) := fun b o e => by
    have e' : (if b = a ∧ Γ.K.lookup a = none then some tr else if b = T then some (HO.tbl #[]) else none) = some o := e
    split at e'
    · exact .inl ⟨by assumption, (Option.some.inj e').symm⟩
    · split at e'
      · exact .inr ⟨by assumption, (Option.some.inj e').symm⟩
      · cases e'
  have free : ∀ b, ¬ (b = a ∧ Γ.K.lookup a = none) → b ≠ T → H b = none := fun b c d => (if_neg c).trans (if_neg d)
  have hok : HOk P w H s₁.heap := fun b o e => by
    rcases Hin b o e with ⟨⟨rfl, _⟩, rfl⟩ | ⟨rfl, rfl⟩
    · exact ⟨ha, by rw [List.length_map]; exact hl, vs, _, rv, ha⟩
    · exact hT
  let base := hidT s₁.heap H
  have keeps : ∀ {b : Addr} {o : Obj}, s₁.heap.get? b = some o → (∀ (u : Array Value) (n : Nat), o.data ≠ .seq u n) → o.cls ≠ .none → base.get? b = some o := fun {b o} e h1 h2 => hidT_get e (free b (fun z => by
    rw [z.1, ha] at e
    cases e
    exact h1 _ _ rfl) fun z => by
    rw [z, hT] at e
    cases e
    exact h2 rfl)
  have dictIn : ∀ {b : Addr} {m : Str → Option Value}, s₁.heap.Ns b m → base.Ns b m := fun {b m} ⟨o, es, ep, e, d, r⟩ => by
    refine ⟨o, es, ep, hidT_get e (free b (fun z => ?_) fun z => ?_), d, r⟩
    · rw [z.1, ha] at e
      cases e
      cases d
    · rw [z, hT] at e
      cases e
      cases d
  have kIn : Γ.K.In base := fun b o e => hidT_get (KX b o e) (free b (fun z => by
    rw [z.1, z.2] at e
    cases e) fun z => by
    rw [z, nT] at e
    cases e)
  have gM : base.Ns mainGlobals mg := dictIn hns
  have md : Mod Γ.K mg base := ⟨kIn, gM, ⟨mb, dictIn hb, hbb⟩, let ⟨mc, h1, h2⟩ := hlim; ⟨mc, dictIn h1, h2⟩⟩
  have gT : mainGlobals ≠ T := fun z => by
    obtain ⟨o, es, ep, e, d, _⟩ := hns
    rw [z, hT] at e
    cases e
    cases d
  have TB : LamX.TabB base mg c T := by
    refine ⟨?_, ?_, gT⟩
    · obtain ⟨o, us, file, tf, flags, tg, inF, text, tt, e1, r1, r2, r⟩ := hC
      exact ⟨o, us, file, tf, flags, tg, inF, text, tt, keeps e1 (fun u n z => by rw [r2] at z; cases z) (fun z => by rw [r1] at z; cases z), r1, r2, r⟩
    · obtain ⟨bm, o, b1, b2, b3, b4, b5, b6⟩ := hbm
      refine ⟨bm, o, b1, b2, fun z => ?_, fun z => ?_, keeps b3 (fun u n z => by rw [b6] at z; cases z) (fun z => by rw [b4] at z; cases z), b4, b5, b6⟩
      · obtain ⟨o2, es, ep, e, d, _⟩ := hns
        rw [z, e] at b3
        cases b3
        rw [b6] at d
        cases d
      · rw [z, hT] at b3
        cases b3
        cases b6
  have e0 : Env0 P w Γ.K mg base callerA [] s₁ H :=
    { frames := rfl, mod := md, bs := fun b o e => of_hidT e, bsz := Nat.le_of_eq (hidT_size _ _), funs := trivial, frf := fun b hb => (nomatch hb), hok := hok, bare := .of_eq hg }
  obtain ⟨s', hd⟩ := hden
  let μ : Mu := fun n => if n = 0 then some T else none
  have μin : ∀ {n : Nat} {b : Addr}, μ n = some b → n = 0 ∧ b = T := fun {n b} z => by
    have z : (if n = 0 then some T else none) = some b := z
    split at z
    · exact ⟨by assumption, (Option.some.inj z).symm⟩
    · cases z
  have rs : RV Γ H μ (fun _ => False) (.sq (ns.map .int)) (.ref a) := by
    refine ⟨a, _, rfl, ?_, RVs.of_ints ns⟩
    cases hk : Γ.K.lookup a with
    | none => exact .inl ⟨.inr ⟨ob, if_pos ⟨rfl, hk⟩⟩, ⟨fun n z => naT (μin z).2, id⟩⟩
    | some o =>
      have e := KX a o hk
      rw [ha] at e
      cases e
      exact .inr ⟨_, vs.toArray, _, hk, rfl, rfl, rfl, by rw [List.size_toArray, rl]; exact hl, by simpa using rv⟩
  have rep : Rep Γ H μ (fun _ => False) [.tab 0 q] := ⟨fun n o e => by
    cases n with
    | zero =>
      cases e
      exact ⟨T, rfl, id, hΓ.symm, #[], HT, trivial, fun pos cv z => by simp [codeAmong] at z⟩
    | succ n => simp at e, fun n m b e1 e2 => (μin e1).1.trans (μin e2).1.symm, fun n b e => by rw [(μin e).1]; exact Nat.zero_lt_one, fun b z => z.elim⟩
  refine codeAny_mono ((F base kIn gM TB).run callerA [] s₁ H ⟨[.ref a], []⟩ [.ref a] [.ref a] (fun v _ => v = .bl true) (fun _ _ _ => False) hr rfl e0 (hbind s₁ (.ref a)) (.cons rfl .nil)
    ⟨rfl, μ, _, _, [.sq (ns.map .int)], rep, RVs.cons rs rfl, by rw [hd]; exact fun v H' μ' _ _ r => r⟩) fun r s2 h => ?_
  cases r with
  | error e =>
    obtain ⟨_, _, _, _, _, _, _, _, _, _, _, _, z⟩ := h
    exact z.elim
  | ok fl =>
    cases fl with
    | next => exact h.elim
    | brk => exact h.elim
    | cont => exact h.elim
    | ret u =>
      obtain ⟨v, H', os, bare, un, hok', rv', q'⟩ := h
      obtain rfl : v = .bl true := q'
      obtain rfl : u = Value.bool true := rv'
      have key : ∀ b o, b ≠ T → s₁.heap.get? b = some o → s2.heap.get? b = some o := fun b o nb e => by
        cases qb : H b with
        | none => exact un.keep b o e qb (fun z => nomatch z) (fun z => nomatch z)
        | some u =>
          rcases Hin b u qb with ⟨⟨rfl, _⟩, rfl⟩ | ⟨z, _⟩
          · obtain ⟨e2, _⟩ := hok' b _ (un.frzs b ob _ qb)
            rw [ha] at e
            cases e
            exact e2
          · exact absurd z nb
      obtain ⟨more, z⟩ := un.tbls T #[] HT
      have grown : s2.heap.get? T = some { cls := .none, data := .fields (#[] ++ more) } := hok' T _ z
      refine ⟨rfl, ⟨fun b o e => ?_, fun b o e => ?_⟩, os, bare⟩
      · by_cases h : b = T
        · subst h
          rw [hT] at e
          cases e
          exact .inr (.inl ⟨(hC.tab hT).isCodeTable, rfl, #[], more, rfl, grown⟩)
        · exact .inl (key b o h e)
      · by_cases h : b = T
        · exact ⟨_, h ▸ grown⟩
        · exact ⟨o, key b o h e⟩
/-- what the head leaves to be shown; y: the def that makes lambdas -/
theorem walk_GT {l : PySem.W.OpenLaw} {n k : Nat} {q : Program} {loose : List Str} {XP : (Str → Option Value) → Heap → Prop} {YP : World → Heap → Prop} {d dy : DefRec} {Kf : Params → PySem.W.Frag} {x y qt : Str} (hn : l.most = some n) (hn2 : n ≤ sizeLine) (hdf : d.params.defaults = []) (hr : Room k callerA)
    (hY : ∀ (w : World) (h : Heap), YP w h → (Kf w.params).In h) (hy : (recsOf q).find? (fun e => e.name == y) = some dy)
    (F : ∀ (w : World) (mg : Str → Option Value) (fa : Addr) (h : Heap), (Kf w.params).In h → h.Ns mainGlobals mg → mg d.name = some (.ref fa) →
      ∃ (Γ : Ct) (fd : FuncData) (den : Fn) (c T : Addr), Γ.K = Kf w.params ∧ Γ.tb 0 = T ∧ PySem.W.tabIn Γ.K y = some (c, T) ∧ Γ.K.lookup T = none ∧ (∀ (s : Shared) (u : Value), BindsTo s fd ⟨[u], []⟩ [(x, u)]) ∧
        (∀ base : Heap, Γ.K.In base → base.Ns mainGlobals mg → LamX.TabB base mg c T → FnG l.prog w mg base Γ k fa fd [x] den) ∧
        ∀ ns : List Int, ns.length ≤ n → ∃ s', den [.sq (ns.map .int)] [.tab 0 qt] = .ok (.bl true) s') :
    PySem.W.WalkO q loose XP YP l.row.toRowW d [] (fun f vs => PySem.call f vs) := by
  refine Att.attach_call hn hdf fun w s₀ s₁ mg mb fa o pm cd doc a vs ns G Y ho hd hcd hmg hobj hints hlen hg => ?_
  have KX := hY w _ Y
  obtain ⟨Γ, fd, den, c, T, hK, hΓ, ht, nT, hb, hF, hden⟩ := F w mg fa _ KX G.T.g hmg
  obtain ⟨hC, hT⟩ := PySem.W.tab_of G.T (hK ▸ KX) hy ht
  exact law_GT (hK ▸ KX) G.T.g G.T.b G.T.builtins G.T.nolimit hg hT nT hC hΓ G.T.bmain hobj hints (Nat.le_trans hlen hn2) hr hF hb (hden ns hlen)
end
end MP

set_option Elab.async false
set_option linter.all false
set_option maxRecDepth 100000
set_option maxHeartbeats 4000000
/-! what the printed texts of a law with lambdas and own exceptions use -/
namespace MP
open PySem PySem.Spec PyProof.Rows L2
/-- what a call of x must know, x being one that gets a lambda -/
def CalL (P : Program) (w : World) (mg : Str → Option Value) (base : Heap) (Γ : Ct) (k kk : Nat) (x : Str) (ps : List Str) (den : (Sto → R Dv) → Fn) : Prop :=
  ∃ (f : Addr) (fd : FuncData), FnL P w mg base Γ k kk f fd ps den ∧ mg x = some (.ref f) ∧ PySem.W.keepIn Γ.K (.ref f) = true ∧ Binds Γ.K fd ps []
section
variable {X : Cx} {Γ : Ct} {W : WX} {k : Nat} {ps : List Str} {den : (Sto → R Dv) → Fn} {x : Str} {p pos lpos : Pos} {e : Expr} {es : List Expr} {fa : FA}
theorem me_lamC {c : Addr} {nt n : Nat} {params : Arguments} {body : Expr} {scope : Scope} {gb : FE} {kb : Nat} (C : CalL X.prog X.w X.mg X.base Γ k (kb + 1) x ps den) (hK : Γ.K = X.K)
    (hr : Room k X.A) (hg : X.A.guards = some []) (tk : Takes X W) (hgl : Gl X x) (TB : LamX.TabB X.base X.mg c (Γ.tb n)) (hcode : X.env.code = .ref c) (hp : LamP params scope) (L : LamN X.N X.env.scope scope)
    (hbody : ∀ (f c' : Addr) (A : Around) (outer : List PySem.Env) (s : Shared) (H : Hp) (E : XK) (W : WX), Room kb (A.deeper (LamX.lamEnv X scope s.heap.objs.size f c')) → (A.deeper (LamX.lamEnv X scope s.heap.objs.size f c')).guards = some [] → Takes (LamX.lamCx X A outer s H E scope f c') W → ME (LamX.lamCx X A outer s H E scope f c') Γ W body gb)
    (ha : MA X Γ W es fa) (j : Nat) (hl : FA.Len fa j) (hn : j + 1 = ps.length) (hdb : (x == ("__debug__" : Str)) = false := by decide)
    (he : starEach (.Lambda params body scope lpos :: es) X.env = (false, eval (.Lambda params body scope lpos) X.env) :: starEach es X.env := by rfl) (hpl : (backTo pos (starEach es X.env)).any (·.1) = false := by rfl) :
    ME X Γ W (.Call (.Name x p) (.Lambda params body scope lpos :: es) [] pos) (mLam nt n (X.env.qual ++ "<lambda>") gb den fa) := by
  obtain ⟨f, fd, F, hm, hk, hb⟩ := C
  exact me_lam F hK hr hg hgl hm (hK ▸ hk) (hK ▸ hb) tk TB hcode hp L hbody ha j hl hn hdb he hpl
theorem me_passC {kk : Nat} {f' c' : Addr} {q : Str} {ws : List Dv} {vs : List V} {g : Sto → R Dv} (C : CalL X.prog X.w X.mg X.base Γ k kk x ps den) (T : Thk X.prog X.w Γ X.mg X.base kk X.outer X.s_0 X.H_0 f' c' q ws vs g) (hK : Γ.K = X.K) (hex : X.ex = []) (hs : X.stack = X.env :: X.outer) (hf : X.env.frame = some X.env.locals)
    (hr : Room k X.A) (hg : X.A.guards = some []) (tk : Takes X W) (hgl : Gl X x) (ha : MA X Γ W (e :: es) fa) (n : Nat) (hl : FA.Len fa n) (hn : n = ps.length) (hdb : (x == ("__debug__" : Str)) = false := by decide)
    (he : starEach (e :: es) X.env = (false, eval e X.env) :: starEach es X.env := by rfl) (hpl : (backTo pos (starEach es X.env)).any (·.1) = false := by rfl) :
    ME X Γ W (.Call (.Name x p) (e :: es) [] pos) (mPass (.clo f' c' q ws vs) g den fa) := by
  obtain ⟨f, fd, F, hm, hk, hb⟩ := C
  exact me_pass T F hK hex hs hf hr hg hgl hm (hK ▸ hk) (hK ▸ hb) tk ha n hl hn hdb he hpl
end
/-- ok_fn, the def's code object being told -/
theorem ok_fnC {P : Program} {w : World} {mg : Str → Option Value} {base : Heap} {Γ : Ct} {x qual : Str} {st : Stmt} {f : Addr} {fd : FuncData} {N ps : List Str} {k : Nat} {c : FS} {c0 : Addr} (F : Fun Γ.K x qual st f fd) (hc : fd.code = .ref c0) (S : FnScope N ps (defScope st))
    (hbody : ∀ (A : Around) (outer : List PySem.Env) (s : Shared) (H : Hp) (E : XK) (W : WX), Room k (A.deeper (envF qual st s f (.ref c0))) → (A.deeper (envF qual st s f (.ref c0))).guards = some [] → Takes (cxF Γ P w mg base N qual st f (.ref c0) A outer s H E) W →
      MB (cxF Γ P w mg base N qual st f (.ref c0) A outer s H E) Γ W (defBody st) c) : FnG P w mg base Γ (k + 1) f fd ps (denOf N.length c) := by
  obtain ⟨oc, od, kV, doc, pm, an, cdv, ct, osl, e, lk, hcd⟩ := F.ex
  subst e
  have hc : cdv = .ref c0 := hc
  subst hc
  refine ⟨fun A outer s H args us vs Q E room guards e0 binds rel ⟨hlen, μ, Z, st0, ws, hR, rws, post⟩ => ?_⟩
  have stays : ∀ b o, base.get? b = some o → s.heap.get? b = some o := fun b o e => (e0.bs b o e).1
  have inK : Γ.K.In s.heap := e0.mod.kin.keeps stays
  have kinds : ∀ y ∈ ps.zip us, (defScope st).names.lookup y.1 = some .local ∨ ((defScope st).names.lookup y.1 = some .cell ∧ ((cellsFrom (s.heap.objs.size + 1) (defScope st).names []).lookup y.1).isSome = true) := by
    rintro ⟨n, v⟩ hy
    exact (S.par n (List.of_mem_zip hy).1).imp id fun q => ⟨q, PySem.W.cellsFrom_some _ _ _ (.inl q)⟩
  refine codeAny_call_function room.depth (inK _ _ lk) rfl S.co S.gen rfl (PySem.W.codeRec_of inK hcd) (binds _ _ _ _ ?_)
  refine wpAny_newFunctionEnv_cells S.kind kinds fun env he s1 entered => ?_
  subst he
  refine ⟨(e0.mod.nolimit.keeps stays).keeps entered.toInCall.keep, codeAny_func ?_⟩
  have I := inv_start (CX := L2.CX P w) (E := E) (cd := .ref c0) S room.hd e0 hlen rel entered
  have tk : Takes (cxF Γ P w mg base N qual st f (.ref c0) A outer s H E) (fun cls d _ H' => E cls d H') := takes_of rfl rfl rfl rfl
  have run := (hbody A outer s H E _ (room.deeper _) (by show (A.deeper _).guards = _; rw [← guards]; rfl) tk).run [] s1 (L2.start N vs) H { nx := fun _ H' => Q .non H', rt := Q } I
    ⟨μ, Z, startD N.length ws, st0, re_start rws, hR, body_end hR post⟩
  refine wpAny_mono run (fun fl s' hs => ?_) fun e s' hs => hs
  cases fl with
  | ret u =>
    obtain ⟨v, σ', H', J, rv, q⟩ := hs
    exact ⟨v, H', J.os, J.bare, J.base, J.hok, rv, q⟩
  | next =>
    obtain ⟨σ', H', J, q⟩ := hs
    exact ⟨V.non, H', J.os, J.bare, J.base, J.hok, rfl, q⟩
  | brk => exact hs.elim fun _ z => z.elim fun _ z => z.2.elim
  | cont => exact hs.elim fun _ z => z.elim fun _ z => z.2.elim
/-! ### facts of the classes -/
section
variable {K : PySem.W.Frag} {c j : Addr} {b : Bool}
theorem kitCls_of {t : Value} (h1 : PySem.W.isClsIn K j = true) (h2 : PySem.W.typeIn K (.ref j) = some (.type "type")) (h3 : PySem.W.subIn K t (.ref j) = some b) : PySem.W.kitCls K t (.ref j) = some b := by
  have e2 : ((PySem.W.clsIn K j).isSome && PySem.W.typeIn K (.ref j) == some (.type "type")) = true := by
    have h1' : (PySem.W.clsIn K j).isSome = true := h1
    rw [h1', h2] <;> rfl
  show (if ((PySem.W.clsIn K j).isSome && PySem.W.typeIn K (.ref j) == some (.type "type")) = true then PySem.W.subIn K t (.ref j) else none) = some b
  rw [if_pos e2]
  exact h3
theorem kitOne_of (h1 : PySem.W.isClsIn K j = true) (h2 : PySem.W.typeIn K (.ref j) = some (.type "type")) (hs : PySem.W.subIn K (.ref j) (.ref j) = some true) (h3 : PySem.W.subIn K (.ref c) (.ref j) = some b) : PySem.W.kitOne K (.ref c) (.ref j) = some b := by
  unfold PySem.W.kitOne
  split
  · rename_i h
    have : Value.ref c = Value.ref j := beq_iff_eq.mp h
    cases this
    rw [h3] at hs
    exact hs.symm
  · exact kitCls_of h1 h2 h3
theorem exmAny_of {c0 c8 : Addr} {b0 b8 : Bool} (a1 : PySem.W.isClsIn K c0 = true) (a2 : PySem.W.typeIn K (.ref c0) = some (.type "type")) (a3 : PySem.W.subIn K (.ref c0) (.type "BaseException") = some true) (b1 : PySem.W.isClsIn K c8 = true) (b2 : PySem.W.typeIn K (.ref c8) = some (.type "type")) (b3 : PySem.W.subIn K (.ref c8) (.type "BaseException") = some true)
    (h0 : PySem.W.subIn K (.ref c) (.ref c0) = some b0) (h8 : PySem.W.subIn K (.ref c) (.ref c8) = some b8) : PySem.W.exmAny K (.ref c) [.ref c0, .ref c8] = some (b0 || (b8 || false)) := by
  have e1 : PySem.W.exmOne K (.ref c) (.ref c0) = some b0 := by
    have e : (PySem.W.subIn K (.ref c0) (.type "BaseException") == some true) = true := by rw [a3]; rfl
    unfold PySem.W.exmOne
    rw [if_pos e]
    exact kitCls_of a1 a2 h0
  have e2 : PySem.W.exmOne K (.ref c) (.ref c8) = some b8 := by
    have e : (PySem.W.subIn K (.ref c8) (.type "BaseException") == some true) = true := by rw [b3]; rfl
    unfold PySem.W.exmOne
    rw [if_pos e]
    exact kitCls_of b1 b2 h8
  show (match PySem.W.exmOne K (.ref c) (.ref c0), PySem.W.exmAny K (.ref c) [.ref c8] with | some b, some d => some (b || d) | _, _ => none) = _
  have e3 : PySem.W.exmAny K (.ref c) [.ref c8] = some (b8 || false) := by
    show (match PySem.W.exmOne K (.ref c) (.ref c8), PySem.W.exmAny K (.ref c) [] with | some b, some d => some (b || d) | _, _ => none) = _
    rw [e2]
    rfl
  rw [e1, e3]
theorem tabIn_of {x : Str} {f T : Addr} {oc oc2 : Value} {od od2 : Option Addr} {sl sl2 : Array (Option Value)} {fd : FuncData} {vs : Array Value} (h1 : PySem.W.nsIn K mainGlobals x = some (some (.ref f))) (h2 : K.lookup f = some ⟨oc, od, .func fd, sl⟩) (h3 : fd.code = .ref c)
    (h4 : K.lookup c = some ⟨oc2, od2, .fields vs, sl2⟩) (h5 : vs[11]? = some (.ref T)) : PySem.W.tabIn K x = some (c, T) := by
  unfold PySem.W.tabIn
  rw [h1]
  dsimp only
  rw [h2]
  dsimp only
  rw [h3]
  dsimp only
  rw [h4]
  dsimp only
  rw [h5]
end
/-- what is known of a class of exceptions -/
structure ClsF (K : PySem.W.Frag) (C : Addr) : Prop where
  e : ExcC K C
  is : PySem.W.isClsIn K C = true
  ty : PySem.W.typeIn K (.ref C) = some (.type "type")
end MP

set_option Elab.async false
set_option linter.all false
set_option maxRecDepth 100000
set_option maxHeartbeats 4000000
/-! facts of the nine classes, put together -/
namespace MP
open PySem PySem.Spec PyProof.Rows L2
theorem forall9 {p : Nat → Prop} (h0 : p 0) (h1 : p 1) (h2 : p 2) (h3 : p 3) (h4 : p 4) (h5 : p 5) (h6 : p 6) (h7 : p 7) (h8 : p 8) : ∀ c, c < 9 → p c := fun c h => by
  match c, h with
  | 0, _ => exact h0
  | 1, _ => exact h1
  | 2, _ => exact h2
  | 3, _ => exact h3
  | 4, _ => exact h4
  | 5, _ => exact h5
  | 6, _ => exact h6
  | 7, _ => exact h7
  | 8, _ => exact h8
  | c + 9, h => exact absurd h (by omega)
theorem kitTy_of {K : PySem.W.Frag} {c : Addr} {T : String} {b : Bool} (hm : PySem.W.kitMeta T = true) (h : PySem.W.subIn K (.ref c) (.type T) = some b) : PySem.W.kitOne K (.ref c) (.type T) = some b := by
  unfold PySem.W.kitOne
  split
  · rename_i h
    have : Value.ref c = Value.type T := beq_iff_eq.mp h
    cases this
  · show (if PySem.W.kitMeta T = true then PySem.W.subIn K (.ref c) (.type T) else none) = some b
    rw [if_pos hm]
    exact h
section
variable {Γ : Ct} (e : ∀ c, c < 9 → ClsF Γ.K (Γ.cls c)) (s : ∀ c, c < 9 → ∀ j, j < 9 → PySem.W.subIn Γ.K (.ref (Γ.cls c)) (.ref (Γ.cls j)) = some (under c j))
include e s
theorem xci_of (v : ∀ c, c < 9 → PySem.W.subIn Γ.K (.ref (Γ.cls c)) (.type "ValueError") = some (decide (c ≤ 7))) (w : ∀ c, c < 9 → PySem.W.subIn Γ.K (.ref (Γ.cls c)) (.type "LookupError") = some (decide (c = 8))) : XcI Γ where
  is := fun c h => (e c h).e
  own := fun c j hc hj => kitOne_of (e j hj).is (e j hj).ty ((s j hj j hj).trans (by unfold under; simp)) (s c hc j hj)
  bas := fun c n b hc h => by
    unfold underT at h
    split at h
    · rename_i hn
      subst hn
      cases h
      exact kitTy_of (by rfl) (v c hc)
    · split at h
      · rename_i hn
        subst hn
        cases h
        exact kitTy_of (by rfl) (w c hc)
      · cases h
theorem ex_of : ∀ c, c < 9 → PySem.W.exmAny Γ.K (.ref (Γ.cls c)) [.ref (Γ.cls 0), .ref (Γ.cls 8)] = some true := fun c h => by
  have h0 : 0 < 9 := by decide
  have h8 : 8 < 9 := by decide
  rw [exmAny_of (e 0 h0).is (e 0 h0).ty (e 0 h0).e.hs (e 8 h8).is (e 8 h8).ty (e 8 h8).e.hs (s c h 0 h0) (s c h 8 h8)]
  refine congrArg some ?_
  revert c
  exact forall9 rfl rfl rfl rfl rfl rfl rfl rfl rfl
end
/-- what raising a class wants -/
theorem xcr_of {P : Program} {w : World} {K : PySem.W.Frag} {mg : Str → Option Value} {base : Heap} {C fI : Addr} {x qual f : Str} {params : Arguments} {scope : Scope} {dV kV doc pm cdv ct oc : Value} {an od : Option Addr} {osl : Array (Option Value)} {p1 p2 p3 p4 : Pos}
    (ox : OexC K C) (no : PySem.W.findIn K (.ref C) f = some none) (gC : mg x = some (.ref C)) (iC : PySem.W.findIn K (.ref C) "__init__" = some (some (.ref fI))) (tI : PySem.W.typeIn K (.ref fI) = some (.type "function"))
    (lk : K.lookup fI = some ⟨oc, od, .func (PySem.W.fnOf "__init__" qual params [.Assign [.Attribute (.Name "self" p1) f p2] (.Name f p3) p4] scope dV kV doc pm an cdv ct), osl⟩) (hcd : PySem.W.codeIn K cdv qual = true) (S : FnScope ["self", f] ["self", f] scope)
    (v0 : Vis scope "self") (v1 : Vis scope f) (d1 : (f == ("__debug__" : Str)) = false) (d2 : (f == ("__classdict__" : Str)) = false)
    (hb : ∀ us : List Value, us.length = (["self", f] : List Str).length → bindArgs (PySem.W.fnOf "__init__" qual params [.Assign [.Attribute (.Name "self" p1) f p2] (.Name f p3) p4] scope dV kV doc pm an cdv ct) ⟨us, []⟩ = pure ((["self", f] : List Str).zip us)) : XcR P w K mg base C x f :=
  ⟨ox, no, gC, fI, _, iC, tI, init_fn lk hcd S ox no v0 v1 d1 d2, L2.Binds.all hb⟩
end MP

set_option Elab.async false
set_option linter.all false
set_option maxRecDepth 100000
set_option maxHeartbeats 4000000
/-! rules for simp: exceptions, lambdas, isinstance of more things -/
namespace MP
open PySem PySem.Spec PyProof.Rows L2
section
variable {s s1 : Sto} {ρ : Env} {w v : Dv} {f g : FE} {fa : FA} {c su : FS} {ws : List Dv} {i n : Nat} {j : Int} {b : Bool} {y : Str} {ks : List Key}
@[simp] theorem isA_ii : isiA s [.int j, .ty "int"] = some (.bl true) := rfl
@[simp] theorem isA_ib : isiA s [.int j, .ty "bool"] = some (.bl false) := rfl
@[simp] theorem isA_it : isiA s [.int j, .ty "tuple"] = some (.bl false) := rfl
@[simp] theorem isA_bi : isiA s [.bl b, .ty "int"] = some (.bl true) := rfl
@[simp] theorem isA_bb : isiA s [.bl b, .ty "bool"] = some (.bl true) := rfl
@[simp] theorem isA_bt : isiA s [.bl b, .ty "tuple"] = some (.bl false) := rfl
@[simp] theorem isA_ni : isiA s [.non, .ty "int"] = some (.bl false) := rfl
@[simp] theorem isA_nt : isiA s [.non, .ty "tuple"] = some (.bl false) := rfl
@[simp] theorem isA_si : isiA s [.str y, .ty "int"] = some (.bl false) := rfl
@[simp] theorem isA_st : isiA s [.str y, .ty "tuple"] = some (.bl false) := rfl
@[simp] theorem isA_tt : isiA s [.tup ws, .ty "tuple"] = some (.bl true) := rfl
@[simp] theorem isA_ti : isiA s [.tup ws, .ty "int"] = some (.bl false) := rfl
@[simp] theorem isA_lt : isiA s [.lst ws, .ty "tuple"] = some (.bl false) := rfl
@[simp] theorem isA_li : isiA s [.lst ws, .ty "int"] = some (.bl false) := rfl
theorem isA_ex {k j : Nat} (hk : k < 9) (hj : j < 9) : isiA s [.exc k y w, .cl j] = some (.bl (under k j)) := by
  show (match isiD s [.exc k y w, .cl j] with | some w => some w | none => isxD s [.exc k y w, .cl j]) = _
  show isxD s [.exc k y w, .cl j] = _
  unfold isxD exCls
  dsimp only
  rw [if_pos hk]
  dsimp only
  rw [if_pos hj]
theorem fld_ex {k : Nat} (hk : k < 9) : fldD y s (.exc k y w) = some w := by
  unfold fldD
  dsimp only
  rw [if_pos ⟨hk, rfl⟩]
@[simp] theorem raise_ev {k : Nat} : mRaise k y f ρ s = (f ρ s).thenC ρ fun w s1 => .er ⟨k, y, w⟩ ρ s1 := rfl
@[simp] theorem finC_er {x : Ex} : finC s.length (.er x ρ s) = .er x s := by
  show finX s.length x s = _
  unfold finX
  rw [if_pos (Nat.le_refl _)]
theorem try_nx {ρ' : Env} (h : c ρ s = .nx ρ' s1) : mTryKeep i c su ρ s = .nx ρ' s1 := by unfold mTryKeep; rw [h]
theorem try_er {x : Ex} {ρ' : Env} (h : c ρ s = .er x ρ' s1) (hx : x.c < 9) : mTryKeep i c su ρ s = delC i (su (ρ'.set i (some (.exc x.c x.f x.w))) s1) := by
  unfold mTryKeep
  rw [h]
  exact if_pos hx
@[simp] theorem thk_ev {cl : Dv} {t : Sto → R Dv} : mThk 0 cl t (some cl :: ρ) s = t s := by unfold mThk; exact if_pos rfl
@[simp] theorem pass_ev {cl : Dv} {t : Sto → R Dv} {den : (Sto → R Dv) → Fn} : mPass cl t den (mCons (mVar 0) fa) (some cl :: ρ) s = (fa (some cl :: ρ) s).bind fun wa s1 => den t wa s1 := by
  unfold mPass mCons
  rw [var_0, bind_ok]
  cases fa (some cl :: ρ) s with
  | ok wa s1 => exact if_pos rfl
  | er _ _ => rfl
  | no => rfl
theorem lam_ev {nt m : Nat} {q : Str} {gb : FE} {den : (Sto → R Dv) → Fn} (h : s[nt]? = some (.tab m q)) : mLam nt m q gb den fa ρ s = (fa ρ s).bind fun wa s1 => den (gb ρ) wa s1 := by
  unfold mLam
  rw [h]
  exact if_pos ⟨rfl, rfl⟩
end
end MP

set_option Elab.async false
set_option linter.all false
set_option maxRecDepth 100000
set_option maxHeartbeats 4000000
/-! repr of scalars, of tuples of them, of an empty dict -/
namespace MP
open PySem PySem.Spec PyProof.Rows L2
mutual
def toX : Dv → Option PyData
  | .non => some .none | .bl b => some (.bool b) | .int i => some (.int i) | .str x => some (.str x)
  | .tup ws => (toXs ws).map .tuple
  | .dct ks ws => match ks, ws with
    | [], [] => some (.dict [])
    | _, _ => none
  | _ => none
def toXs : List Dv → Option (List PyData)
  | [] => some []
  | w :: ws => match toX w, toXs ws with
    | some d, some ds => some (d :: ds)
    | _, _ => none
end
section
variable {X : Cx} {Γ : Ct} {pins : List (Addr × Obj)} {σ : L2.St} {H : Hp} {s : Shared} {μ : Mu} {Z : Zs}
mutual
theorem rx_reads (I : Inv X pins σ H s) (hK : Γ.K = X.K) : ∀ (w : Dv) {v : V} {u : Value} {d : PyData}, RV Γ H μ Z w v → L2.RelV v u → toX w = some d → ∃ as, Reads s.heap u d as ∧ sysModules ∉ as
  | .non, _, _, _, r, ru, e => by cases e; rw [show _ = _ from r] at ru; cases ru; exact ⟨_, Reads.none, fun z => nomatch z⟩
  | .bl b, _, _, _, r, ru, e => by cases e; rw [show _ = _ from r] at ru; cases ru; exact ⟨_, Reads.bool b, fun z => nomatch z⟩
  | .int i, _, _, _, r, ru, e => by cases e; rw [show _ = _ from r] at ru; obtain ⟨t, rfl⟩ := ru; exact ⟨_, Reads.int i t, fun z => nomatch z⟩
  | .str x, _, _, _, r, ru, e => by cases e; rw [show _ = _ from r] at ru; obtain ⟨t, rfl⟩ := ru; exact ⟨_, Reads.str x t, fun z => nomatch z⟩
  | .tup ws, _, _, _, r, ru, e => by
    obtain ⟨a, xs, rfl, h2, h3⟩ := r
    cases ru
    cases q : toXs ws with
    | none => unfold toX at e; rw [q] at e; cases e
    | some ds =>
      unfold toX at e
      rw [q] at e
      cases e
      have hs := h2.sq
      rw [hK] at hs
      obtain ⟨its, rv, ⟨o, ho, hc, n, hd⟩, _⟩ := I.tuple hs
      obtain ⟨as, hr, hn⟩ := rxs_reads I hK ws h3 rv q
      exact ⟨_, Reads.tuple ho hc hd hr, hn⟩
  | .ty _, _, _, _, _, _, e => by cases e
  | .cl _, _, _, _, _, _, e => by cases e
  | .ref _, _, _, _, _, _, e => by cases e
  | .lst _, _, _, _, _, _, e => by cases e
  | .sq _, _, _, _, _, _, e => by cases e
  | .exc _ _ _, _, _, _, _, _, e => by cases e
  | .exn _, _, _, _, _, _, e => by cases e
  | .clo _ _ _ _ _, _, _, _, _, _, e => by cases e
  | .dct ks ws, _, _, _, r, ru, e => by
    unfold toX at e
    split at e
    · cases e
      obtain ⟨a, kvs, rfl, h1, _, h3, _⟩ := r
      cases ru
      have hk : kvs = [] := by cases kvs with
        | nil => rfl
        | cons _ _ => cases h3
      subst hk
      obtain ⟨_, hsm, vs, kv, o, es, ep, ho, hx, hd, _, hp, _⟩ := I.hok a _ h1
      cases kv
      have he : es.toList = [] := by
        generalize es.toList = l at hp
        cases hp
        rfl
      refine ⟨_, Reads.dict (as := []) (bs := []) ho hx.1 hd (by rw [he]; exact ReadsAll.nil) (by rw [he]; exact ReadsAll.nil), ?_⟩
      intro hm
      simp at hm
      rw [← hm] at hsm
      simp at hsm
    · cases e
theorem rxs_reads (I : Inv X pins σ H s) (hK : Γ.K = X.K) : ∀ (ws : List Dv) {vs : List V} {us : List Value} {ds : List PyData}, RVs Γ H μ Z ws vs → Vals vs us → toXs ws = some ds → ∃ as, ReadsAll s.heap us ds as ∧ sysModules ∉ as
  | [], _, _, _, r, ru, e => by
    cases e
    rw [show _ = _ from r] at ru
    cases ru
    exact ⟨_, ReadsAll.nil, fun z => nomatch z⟩
  | w :: ws, _, _, _, r, ru, e => by
    obtain ⟨x, xs, rfl, r1, r2⟩ := r
    cases ru with
    | cons u1 u2 =>
      unfold toXs at e
      split at e
      · rename_i d ds q1 q2
        cases e
        obtain ⟨as, h1, n1⟩ := rx_reads I hK w r1 u1 q1
        obtain ⟨bs, h2, n2⟩ := rxs_reads I hK ws r2 u2 q2
        exact ⟨_, ReadsAll.cons h1 h2, fun z => (List.mem_append.mp z).elim n1 n2⟩
      · cases e
end
def rReprX (K : PySem.W.Frag) : List V → Hp → VK → Prop := fun xs H Q => ∃ (x : V) (d : PyData), xs = [x] ∧ (∀ (X : Cx) (pins : List (Addr × Obj)) (σ : L2.St) (s : Shared) (u : Value), X.K = K → Inv X pins σ H s → L2.RelV x u → ∃ as, Reads s.heap u d as ∧ sysModules ∉ as) ∧
  d.showable = true ∧ d.depth ≤ 60 ∧ d.shown.length ≤ sizeLine ∧ Q (.str d.shown) H
theorem call_reprX (hg : X.A.guards = some []) (hu : X.A.units + 64 < cLine) : CallR X (.builtin "repr") (rReprX X.K) := by
  intro pins s σ H xs us Q I r h
  obtain ⟨x, d, rfl, hr, h1, h3, h4, q⟩ := h
  obtain ⟨u, rfl, ru⟩ := vals1 r
  obtain ⟨as, rd, hn⟩ := hr X pins σ s u rfl I ru
  have big : ∀ (a : Addr), u = .ref a → wpAny (model X.prog X.w) X.A (call (.builtin "repr") [u]) (EP X pins σ Q) X.xe s := fun a e => by
    subst e
    exact repr_of_reads' rd h1 (fun _ => hn) hg (by omega) (fun _ _ z => z) (fun h' u tk k => ⟨.str d.shown, H, I.kept (t' := tk) k, ⟨u, rfl⟩, q⟩) h4
  cases rd with
  | none => exact PySem.P.repr_of_none ⟨.str _, H, I.tok _, ⟨_, rfl⟩, q⟩
  | bool b => exact PySem.P.repr_of_bool ⟨.str _, H, I.tok _, ⟨_, rfl⟩, q⟩
  | int i t => exact PySem.P.repr_of_int (of_decide_eq_true h1) ⟨.str _, H, I.tok _, ⟨_, rfl⟩, q⟩
  | str x t => exact PySem.P.repr_of_str ⟨.str _, H, I.tok _, ⟨_, rfl⟩, q⟩ h4
  | list _ _ _ _ => exact big _ rfl
  | tuple _ _ _ _ => exact big _ rfl
  | dict _ _ _ _ _ => exact big _ rfl
def reprXD : ON := fun _ xs => match xs with
  | [x] => match toX x with
    | some d => if d.showable = true ∧ d.depth ≤ 60 ∧ d.shown.length ≤ lim then some (.str d.shown) else none
    | none => none
  | _ => none
theorem sReprX (hK : Γ.K = X.K) : OpN Γ (rReprX X.K) reprXD := fun H μ Z s xs w vs Q hR rx e k => by
  unfold reprXD at e
  split at e
  · rename_i x
    split at e
    · rename_i d q
      split at e
      · rename_i hc
        cases e
        obtain ⟨v, rfl, r1⟩ := one rx
        exact ⟨v, d, rfl, fun X' pins σ s u hX I ru => rx_reads I (hK.trans hX.symm) x r1 ru q, hc.1, hc.2.1, lim_ok hc.2.2, k _ H .refl hR rfl⟩
      · cases e
    · cases e
  · cases e
/-- repr of lists and tuples without dicts, or of what is without lists -/
def reprA : ON := fun s xs => match reprD s xs with
  | some w => some w
  | none => reprXD s xs
theorem cr_reprA (hg : X.A.guards = some []) (hu : X.A.units + 64 < cLine) : CallR X (.builtin "repr") (fun x H Q => rRepr X.K x H Q ∨ rReprX X.K x H Q) := CallR.or2 (call_repr hg hu) (call_reprX hg hu)
theorem sReprA (hK : Γ.K = X.K) : OpN Γ (fun x H Q => rRepr X.K x H Q ∨ rReprX X.K x H Q) reprA := OpN.or (sRepr hK) (sReprX hK)
/-- {} as a thing that nobody changes -/
theorem me_dct0 {W : WX} {pos : Pos} : ME X Γ W (.Dict [] [] pos) (mK (.dct [] [])) :=
  PE.imp pe_dnewK fun σ H Q ⟨μ, Z, ρ, s, hE, hR, q⟩ p hp => q (.ref p) _ μ (Evo.laid hp) (hR.laid hp) ⟨p, [], rfl, upd_same, hR.fz hp, rfl, rfl⟩
end
end MP

set_option Elab.async false
set_option linter.all false
set_option maxRecDepth 100000
set_option maxHeartbeats 400000
/-! things with {} in them: what repr says of them; sums of rows -/
namespace MP
open PySem PySem.Spec PyProof.Rows L2
structure PlX (n k : Nat) (w : Dv) (d : PyData) : Prop where
  to : toX w = some d
  shw : d.showable = true
  deep : d.depth ≤ k
  len : d.shown.length + 2 ≤ 2000 * n
structure PlsX (n k : Nat) (ws : List Dv) (ds : List PyData) : Prop where
  to : toXs ws = some ds
  shw : PyData.showableAll ds = true
  deep : PyData.depthAll ds ≤ k
  len : piled (PyData.shownAll ds) ≤ 2000 * n
variable {n m k j : Nat} {w : Dv} {d : PyData} {ws us : List Dv} {ds es : List PyData} {i : Int} {ns : List Int} {s : Sto}
theorem plx_int (h : Sm i) : PlX 1 0 (.int i) (.int i) := ⟨rfl, (pl_int h).shw, (pl_int h).deep, (pl_int h).len⟩
theorem plx_non : PlX 1 0 .non .none := ⟨rfl, by decide +kernel, by decide +kernel, by decide +kernel⟩
theorem plx_bl {b : Bool} : PlX 1 0 (.bl b) (.bool b) := by cases b <;> exact ⟨rfl, by decide +kernel, by decide +kernel, by decide +kernel⟩
theorem plx_dct : PlX 1 1 (.dct [] []) (.dict []) := ⟨rfl, by decide +kernel, by decide +kernel, by decide +kernel⟩
theorem plsx_nil : PlsX 0 k [] [] where
  to := rfl
  shw := by simp only [PyData.showableAll]
  deep := by simp only [PyData.depthAll]; exact Nat.zero_le _
  len := by simp only [PyData.shownAll, piled_nil]; exact Nat.zero_le _
theorem plsx_cons (h : PlX n k w d) (t : PlsX m k ws ds) : PlsX (n + m) k (w :: ws) (d :: ds) where
  to := by simp only [toXs, h.to, t.to]
  shw := by simp only [PyData.showableAll, h.shw, t.shw]; rfl
  deep := by simp only [PyData.depthAll]; exact Nat.max_le.mpr ⟨h.deep, t.deep⟩
  len := by
    have h1 := h.len
    have h2 := t.len
    simp only [PyData.shownAll, piled_cons]
    omega
theorem PlX.mono (h : PlX n k w d) (hn : n ≤ m) (hk : k ≤ j) : PlX m j w d := ⟨h.to, h.shw, Nat.le_trans h.deep hk, Nat.le_trans h.len (Nat.mul_le_mul_left _ hn)⟩
theorem PlsX.mono (h : PlsX n k ws ds) (hn : n ≤ m) (hk : k ≤ j) : PlsX m j ws ds := ⟨h.to, h.shw, Nat.le_trans h.deep hk, Nat.le_trans h.len (Nat.mul_le_mul_left _ hn)⟩
theorem plx_tup (h : PlsX n k ws ds) : PlX (n + 1) (k + 1) (.tup ws) (.tuple ds) where
  to := by simp only [toX, h.to]; rfl
  shw := by simp only [PyData.showable, h.shw]
  deep := by simp only [PyData.depth]; have := h.deep; omega
  len := by
    have h1 := tupleText_len (PyData.shownAll ds)
    have h2 := h.len
    simp only [PyData.shown]
    omega
theorem plsx_app : ∀ {ws : List Dv} {n : Nat} {ds : List PyData}, PlsX n k ws ds → PlsX m k us es → PlsX (n + m) k (ws ++ us) (ds ++ es)
  | [], n, ds, h, h2 => by
    have e := h.to
    cases e
    exact h2.mono (Nat.le_add_left _ _) (Nat.le_refl _)
  | w :: ws, n, ds, h, h2 => by
    obtain ⟨ho, hs, hd, hl⟩ := h
    unfold toXs at ho
    split at ho
    · rename_i d ds' q1 q2
      cases ho
      simp only [PyData.showableAll, Bool.and_eq_true] at hs
      simp only [PyData.depthAll] at hd
      simp only [PyData.shownAll, piled_cons] at hl
      have ih := plsx_app (n := n) (ws := ws) (ds := ds') ⟨q2, hs.2, by omega, by omega⟩ h2
      refine ⟨?_, ?_, ?_, ?_⟩
      · show (match toX w, toXs (ws ++ us) with | some d, some ds => some (d :: ds) | _, _ => none) = _
        rw [q1, ih.to]
        rfl
      · show PyData.showableAll (d :: (ds' ++ es)) = true
        simp only [PyData.showableAll, hs.1, ih.shw]; rfl
      · show PyData.depthAll (d :: (ds' ++ es)) ≤ k
        have := ih.deep
        simp only [PyData.depthAll]; omega
      · show piled (PyData.shownAll (d :: (ds' ++ es))) ≤ _
        have e1 : ∀ (a b : List PyData), piled (PyData.shownAll (a ++ b)) = piled (PyData.shownAll a) + piled (PyData.shownAll b) := fun a => by
          induction a with
          | nil => intro b; simp [PyData.shownAll, piled_nil]
          | cons x a iha => intro b; simp only [List.cons_append, PyData.shownAll, piled_cons, iha]; omega
        have h3 := h2.len
        simp only [PyData.shownAll, piled_cons, e1]
        omega
    · cases ho
theorem pls_app : ∀ {ws : List Dv} {n : Nat} {ds : List PyData}, Pls n k ws ds → Pls m k us es → Pls (n + m) k (ws ++ us) (ds ++ es)
  | [], n, ds, h, h2 => by
    have e := h.to
    cases e
    exact h2.mono (Nat.le_add_left _ _) (Nat.le_refl _)
  | w :: ws, n, ds, h, h2 => by
    obtain ⟨ho, ha, hs, hz, hd, hl⟩ := h
    unfold toDs at ho
    split at ho
    · rename_i d ds' q1 q2
      cases ho
      simp only [PyData.showableAll, Bool.and_eq_true] at hs
      simp only [PyData.canLayAll0, Bool.and_eq_true] at ha
      simp only [PyData.hasDictAll, Bool.or_eq_false_iff] at hz
      simp only [PyData.depthAll] at hd
      simp only [PyData.shownAll, piled_cons] at hl
      have ih := pls_app (n := n) (ws := ws) (ds := ds') ⟨q2, ha.2, hs.2, hz.2, by omega, by omega⟩ h2
      refine ⟨?_, ?_, ?_, ?_, ?_, ?_⟩
      · show (match toD0 w, toDs (ws ++ us) with | some d, some ds => some (d :: ds) | _, _ => none) = _
        rw [q1, ih.to]
        rfl
      · show PyData.canLayAll0 (d :: (ds' ++ es)) = true
        simp only [PyData.canLayAll0, ha.1, ih.lay]; rfl
      · show PyData.showableAll (d :: (ds' ++ es)) = true
        simp only [PyData.showableAll, hs.1, ih.shw]; rfl
      · show PyData.hasDictAll (d :: (ds' ++ es)) = false
        simp only [PyData.hasDictAll, hz.1, ih.nod]; rfl
      · show PyData.depthAll (d :: (ds' ++ es)) ≤ k
        have := ih.deep
        simp only [PyData.depthAll]; omega
      · show piled (PyData.shownAll (d :: (ds' ++ es))) ≤ _
        have e1 : ∀ (a b : List PyData), piled (PyData.shownAll (a ++ b)) = piled (PyData.shownAll a) + piled (PyData.shownAll b) := fun a => by
          induction a with
          | nil => intro b; simp [PyData.shownAll, piled_nil]
          | cons x a iha => intro b; simp only [List.cons_append, PyData.shownAll, piled_cons, iha]; omega
        have h3 := h2.len
        simp only [PyData.shownAll, piled_cons, e1]
        omega
    · cases ho
theorem plsx_ints : ∀ {ns : List Int}, (∀ i ∈ ns, Sm i) → PlsX ns.length 0 (ns.map .int) (ns.map .int)
  | [], _ => plsx_nil
  | a :: ns, h => by
    have := plsx_cons (plx_int (h a List.mem_cons_self)) (plsx_ints fun i hi => h i (List.mem_cons_of_mem _ hi))
    rw [Nat.add_comm] at this
    exact this
theorem reprX_pl (h : PlX n k w d) (hn : n ≤ 8000) (hk : k ≤ 60) : reprXD s [w] = some (.str d.shown) := by
  have h1 := h.len
  show (match toX w with
      | some d => if d.showable = true ∧ d.depth ≤ 60 ∧ d.shown.length ≤ lim then some (Dv.str d.shown) else none
      | none => none) = _
  rw [h.to]
  exact if_pos ⟨h.shw, Nat.le_trans h.deep hk, by unfold lim; omega⟩
theorem reprD_str {w r : Dv} (h : reprD s [w] = some r) : ∃ t, r = .str t := by
  unfold reprD at h
  dsimp only at h
  split at h
  · split at h
    · split at h
      · cases h; exact ⟨_, rfl⟩
      · cases h
    · cases h
  · cases h
/-- repr says something -/
def Sh (w : Dv) : Prop := ∀ s : Sto, ∃ t, reprA s [w] = some (.str t)
theorem sh_x (h : PlX n k w d) (hn : n ≤ 8000) (hk : k ≤ 60) : Sh w := fun s => by
  unfold reprA
  cases q : reprD s [w] with
  | some r => obtain ⟨t, rfl⟩ := reprD_str q; exact ⟨t, rfl⟩
  | none => exact ⟨_, reprX_pl h hn hk⟩
theorem sh_d {t : Str} (h : ∀ s : Sto, reprD s [w] = some (.str t)) : Sh w := fun s => ⟨t, by unfold reprA; rw [h s]⟩
theorem sh_tup (h : Pl n k (.tup ws) d) (hn : n ≤ 8000) (hk : k ≤ 60) : Sh (.tup ws) := sh_d fun s => repr_tup h hn hk
theorem sh_lst (h : Pl n k (.lst ws) d) (hn : n ≤ 8000) (hk : k ≤ 60) : Sh (.lst ws) := sh_d fun s => repr_lst h hn hk
end MP

set_option Elab.async false
set_option linter.all false
set_option maxRecDepth 100000
set_option maxHeartbeats 400000
/-! more rules to evaluate by -/
namespace MP
open PySem PySem.Spec PyProof.Rows L2
section
variable {s s1 s2 s3 : Sto} {ρ : Env} {f g : FE} {fa : FA} {lo hi : FO} {x w y : Dv} {ws us : List Dv} {a b : Option Int} {i j : Int} {k : Nat} {t : FT} {bb : Bool}
theorem sl_v {op : OS} (h : f ρ s = .ok x s1) (hl : lo ρ s1 = .ok a s2) (hh : hi ρ s2 = .ok b s3) (e : op s3 x a b = some w) : mSl op f lo hi ρ s = .ok w s3 := by
  rw [sl_ev, h, bind_ok, hl, bind_ok, hh, bind_ok, e, of_some]
theorem part_v (h : f ρ s = .ok (.int i) s1) : mPart f ρ s = .ok (some i) s1 := by rw [part_ev, h, bind_ok]
theorem cut_from : cutD ws (some (k : Int)) none = ws.drop k := by
  unfold cutD
  rw [HT.sIx_nat, HT.sIx_none]
  by_cases h : k ≤ ws.length
  · rw [Nat.min_eq_left h]
    exact List.take_of_length_le (by rw [List.length_drop]; omega)
  · rw [Nat.min_eq_right (by omega), List.drop_length, List.drop_of_length_le (by omega)]
    simp
theorem add_tup (h : ws.length + us.length ≤ 1000000) : addD s (.tup ws) (.tup us) = some (.tup (ws ++ us)) := by
  show (if ws.length + us.length ≤ lim then some (Dv.tup (ws ++ us)) else none) = _
  rw [if_pos (by unfold lim; omega)]
theorem add_lst (h : ws.length + us.length ≤ 1000000) : addD s (.lst ws) (.lst us) = some (.lst (ws ++ us)) := by
  show (if ws.length + us.length ≤ lim then some (Dv.lst (ws ++ us)) else none) = _
  rw [if_pos (by unfold lim; omega)]
theorem un_v {o : O1} (h : f ρ s = .ok x s1) (e : o s1 x = some w) : mUn o f ρ s = .ok w s1 := by rw [un_ev, h, bind_ok, e, of_some]
theorem if_vt {g' : FE} {r : R Dv} (h : t ρ s = .ok true s1) (h2 : f ρ s1 = r) : mIf t f g' ρ s = r := by rw [if_ev, h, bind_ok, if_pos rfl, h2]
theorem if_vf {g' : FE} {r : R Dv} (h : t ρ s = .ok false s1) (h2 : f ρ s1 = r) : mIf t g' f ρ s = r := by rw [if_ev, h, bind_ok, if_neg Bool.false_ne_true, h2]
theorem not_v (h : t ρ s = .ok bb s1) : mNot t ρ s = .ok (!bb) s1 := by rw [not_ev, h, bind_ok]
theorem ne_of_eq {x y : Dv} {c : Bool} (h : eqD s x y = some (.bl c)) : neD s x y = some (.bl (!c)) := by
  unfold neD
  unfold eqD at h
  cases q : eqB s x y with
  | none => rw [q] at h; cases h
  | some c' => rw [q] at h; cases h; rfl
end
end MP
namespace MP
open PySem PySem.Spec PyProof.Rows L2
mutual
theorem eqv_refl : ∀ d : PyData, d.hasDict = false → PyData.eqv d d = true
  | .none, _ => by simp only [PyData.eqv]
  | .bool b, _ => by simp only [PyData.eqv]; cases b <;> rfl
  | .int i, _ => by simp only [PyData.eqv]; exact beq_self_eq_true i
  | .str x, _ => by simp only [PyData.eqv]; exact beq_self_eq_true x
  | .list xs, h => by simp only [PyData.eqv]; exact eqvs_refl xs (by simpa only [PyData.hasDict] using h)
  | .tuple xs, h => by simp only [PyData.eqv]; exact eqvs_refl xs (by simpa only [PyData.hasDict] using h)
  | .dict _, h => by simp [PyData.hasDict] at h
theorem eqvs_refl : ∀ ds : List PyData, PyData.hasDictAll ds = false → PyData.eqvAll ds ds = true
  | [], _ => by simp only [PyData.eqvAll]
  | d :: ds, h => by
    simp only [PyData.hasDictAll, Bool.or_eq_false_iff] at h
    simp only [PyData.eqvAll, eqv_refl d h.1, eqvs_refl ds h.2]; rfl
end
section
variable {n m k j : Nat} {w v : Dv} {d e : PyData} {s : Sto} {ws us : List Dv}
theorem shaped_pl (h : Pl n k w d) (hk : k ≤ 64) : SeqAt.shaped d = true := by
  unfold SeqAt.shaped
  rw [h.lay, decide_eq_true (Nat.le_trans h.deep hk)]
  rfl
/-- == of two rows or lists -/
theorem eq_pl (hw : flat w = none) (ht : toD s w = toD0 w) (hv : toD s v = toD0 v) (h : Pl n k w d) (h2 : Pl m j v e) (hk : k ≤ 64) (hj : j ≤ 64) : eqD s w v = some (.bl (PyData.eqv d e)) := by
  unfold eqD eqB
  rw [hw]
  dsimp only
  rw [ht, hv, h.to, h2.to]
  dsimp only
  rw [if_pos ⟨shaped_pl h hk, shaped_pl h2 hj⟩]
  rfl
theorem eq_tt (h : Pl n k (.tup ws) d) (h2 : Pl m j (.tup us) e) (hk : k ≤ 64) (hj : j ≤ 64) : eqD s (.tup ws) (.tup us) = some (.bl (PyData.eqv d e)) := eq_pl rfl rfl rfl h h2 hk hj
theorem eq_ll (h : Pl n k (.lst ws) d) (h2 : Pl m j (.lst us) e) (hk : k ≤ 64) (hj : j ≤ 64) : eqD s (.lst ws) (.lst us) = some (.bl (PyData.eqv d e)) := eq_pl rfl rfl rfl h h2 hk hj
theorem eq_t_refl (h : Pl n k (.tup ws) d) (hk : k ≤ 64) : eqD s (.tup ws) (.tup ws) = some (.bl true) := by rw [eq_tt h h hk hk, eqv_refl d h.nod]
theorem eq_l_refl (h : Pl n k (.lst ws) d) (hk : k ≤ 64) : eqD s (.lst ws) (.lst ws) = some (.bl true) := by rw [eq_ll h h hk hk, eqv_refl d h.nod]
theorem pls_len {ds : List PyData} : ∀ {ws : List Dv}, toDs ws = some ds → ds.length = ws.length
  | [], h => by cases h; rfl
  | w :: ws, h => by
    unfold toDs at h
    split at h
    · rename_i d ds' q1 q2
      cases h
      rw [List.length_cons, List.length_cons, pls_len q2]
    · cases h
theorem eq_t_nil (h : Pl n k (.tup ws) d) (hk : k ≤ 64) : eqD s (.tup ws) (.tup []) = some (.bl (decide (ws = []))) := by
  rw [eq_tt h (pl_tup (pls_nil (k := 0))) hk (by decide)]
  have ht := h.to
  have : ∃ ds, toDs ws = some ds ∧ d = .tuple ds := by
    simp only [toD0] at ht
    cases q : toDs ws with
    | none => rw [q] at ht; cases ht
    | some ds => rw [q] at ht; cases ht; exact ⟨ds, rfl, rfl⟩
  obtain ⟨ds, q, rfl⟩ := this
  have hl := pls_len q
  cases ws with
  | nil => cases q; rfl
  | cons w ws =>
    cases ds with
    | nil => simp at hl
    | cons a b => rfl
theorem eq_l_nil (h : Pl n k (.lst ws) d) (hk : k ≤ 64) : eqD s (.lst ws) (.lst []) = some (.bl (decide (ws = []))) := by
  rw [eq_ll h (pl_lst (pls_nil (k := 0))) hk (by decide)]
  have ht := h.to
  have : ∃ ds, toDs ws = some ds ∧ d = .list ds := by
    simp only [toD0] at ht
    cases q : toDs ws with
    | none => rw [q] at ht; cases ht
    | some ds => rw [q] at ht; cases ht; exact ⟨ds, rfl, rfl⟩
  obtain ⟨ds, q, rfl⟩ := this
  have hl := pls_len q
  cases ws with
  | nil => cases q; rfl
  | cons w ws =>
    cases ds with
    | nil => simp at hl
    | cons a b => rfl
end
end MP
namespace MP
open PySem PySem.Spec PyProof.Rows L2
section
variable {n : Nat} {c c' : FS} {ρ ρ1 : Env} {s s1 : Sto} {r : R Dv} {w : Dv} {x : Ex}
theorem fin_nx (h : c ρ s = .nx ρ1 s1) (k : finC n (c' ρ1 s1) = r) : finC n (mSeq c c' ρ s) = r := by rw [seq_nx h rfl]; exact k
theorem fin_rtS (h : c ρ s = .rt w s1) (k : finC n (.rt w s1) = r) : finC n (mSeq c c' ρ s) = r := by rw [seq_rt h]; exact k
theorem seq_er (h : c ρ s = .er x ρ1 s1) : mSeq c c' ρ s = .er x ρ1 s1 := by
  unfold mSeq
  rw [h]
theorem fin_erS (h : c ρ s = .er x ρ1 s1) (k : finC n (.er x ρ1 s1) = r) : finC n (mSeq c c' ρ s) = r := by rw [seq_er h]; exact k
theorem fin_v {d : FS} (h : d ρ s = .rt w s1) (k : finC n (.rt w s1) = r) : finC n (d ρ s) = r := by rw [h]; exact k
end
end MP
namespace MP
open PySem PySem.Spec PyProof.Rows L2
section
variable {t u : FT} {ρ : Env} {s s1 : Sto} {r : R Bool}
theorem or_t (h : t ρ s = .ok true s1) : mOr t u ρ s = .ok true s1 := by unfold mOr; rw [h, bind_ok]; exact if_pos rfl
theorem or_f (h : t ρ s = .ok false s1) (h2 : u ρ s1 = r) : mOr t u ρ s = r := by unfold mOr; rw [h, bind_ok, if_neg Bool.false_ne_true, h2]
theorem and_t (h : t ρ s = .ok true s1) (h2 : u ρ s1 = r) : mAnd t u ρ s = r := by unfold mAnd; rw [h, bind_ok, if_pos rfl, h2]
theorem and_f (h : t ρ s = .ok false s1) : mAnd t u ρ s = .ok false s1 := by unfold mAnd; rw [h, bind_ok]; exact if_neg Bool.false_ne_true
theorem not_vt (h : t ρ s = .ok true s1) : mNot t ρ s = .ok false s1 := not_v h
theorem not_vf (h : t ρ s = .ok false s1) : mNot t ρ s = .ok true s1 := not_v h
theorem forL_er {g : FG} {body : FS} {ρ ρ1 ρ2 : Env} {s s2 : Sto} {w : Dv} {ws : List Dv} {x : Ex} (h1 : g w ρ s = some ρ1) (h2 : body ρ1 s = .er x ρ2 s2) : forL none g body (w :: ws) ρ s = .er x ρ2 s2 := by
  rw [forL, if_pos (.inl rfl), h1]
  dsimp only
  rw [h2]
end
end MP
namespace MP
open PySem PySem.Spec PyProof.Rows L2
section
variable {ρ : Env} {s s1 s2 : Sto} {f : FE} {fa : FA} {x : Ex} {d : Fn} {o : ON} {g : FG} {w : Dv} {k : Nat}
theorem cons_er (h : f ρ s = .er x s1) : mCons f fa ρ s = .er x s1 := by unfold mCons; rw [h]; rfl
theorem cons_er2 (h : f ρ s = .ok w s1) (h2 : fa ρ s1 = .er x s2) : mCons f fa ρ s = .er x s2 := by unfold mCons; rw [h, bind_ok, h2]; rfl
theorem call_er (h : fa ρ s = .er x s1) : mCall d fa ρ s = .er x s1 := by unfold mCall; rw [h]; rfl
theorem blt_er (h : fa ρ s = .er x s1) : mBlt o fa ρ s = .er x s1 := by unfold mBlt; rw [h]; rfl
theorem ret_er (h : f ρ s = .er x s1) : mRet f ρ s = .er x ρ s1 := by unfold mRet; rw [h]; rfl
theorem expr_er (h : f ρ s = .er x s1) : mExpr f ρ s = .er x ρ s1 := by unfold mExpr; rw [h]; rfl
theorem asg_er (h : f ρ s = .er x s1) : mAsg f g ρ s = .er x ρ s1 := by unfold mAsg; rw [h]; rfl
theorem expr_v (h : f ρ s = .ok w s1) : mExpr f ρ s = .nx ρ s1 := by unfold mExpr; rw [h]; rfl
theorem asg_gv {ρ' : Env} (h : f ρ s = .ok w s1) (h2 : g w ρ s1 = some ρ') : mAsg f g ρ s = .nx ρ' s1 := by unfold mAsg; rw [h, then_ok, h2]
theorem mul_lst {ws : List Dv} (h : ws.length * k ≤ 1000000) (hk : k ≤ 1000000) : mulD s (.lst ws) (.int (k : Int)) = some (.lst (List.replicate k ws).flatten) := by
  unfold mulD
  dsimp only [lstOf]
  rw [if_pos ⟨by omega, by omega, by rw [Int.toNat_natCast]; unfold lim; omega⟩, Int.toNat_natCast]
end
end MP

set_option Elab.async false
set_option linter.all false
set_option maxRecDepth 100000
set_option maxHeartbeats 4000000
/-! the law's call, with some tables of code objects: one for each def that makes lambdas -/
namespace MP
open PySem PySem.Spec PyProof.Rows L2
theorem fnG_none {P : Program} {w : World} {mg : Str → Option Value} {base : Heap} {Γ : Ct} {k : Nat} {f : Addr} {fd : FuncData} {ps : List Str} : FnG P w mg base Γ k f fd ps (fun _ _ => .no) :=
  ⟨fun _ _ _ _ _ _ _ _ _ _ _ _ _ _ ⟨_, _, _, _, _, _, _, post⟩ => post.elim⟩
/-- a table: where the code object of its def stands, where the table, the lambdas' name -/
structure Tb where
  c : Addr
  T : Addr
  q : Str
def tabsOf : Nat → List Tb → Sto
  | _, [] => []
  | i, t :: r => .tab i t.q :: tabsOf (i + 1) r
theorem tabsOf_len : ∀ (i : Nat) (r : List Tb), (tabsOf i r).length = r.length
  | _, [] => rfl
  | i, t :: r => by simp [tabsOf, tabsOf_len (i + 1) r]
theorem tabsOf_get : ∀ {i n : Nat} {r : List Tb} {o : Ob}, (tabsOf i r)[n]? = some o → ∃ t, r[n]? = some t ∧ o = .tab (i + n) t.q
  | i, n, [], o, h => by simp [tabsOf] at h
  | i, 0, t :: r, o, h => by
    simp [tabsOf] at h
    exact ⟨t, rfl, h.symm⟩
  | i, n + 1, t :: r, o, h => by
    have h' : (tabsOf (i + 1) r)[n]? = some o := by simpa [tabsOf] using h
    obtain ⟨t', h1, h2⟩ := tabsOf_get h'
    exact ⟨t', by simpa using h1, by rw [h2]; congr 1; omega⟩
def Ts (tabs : List Tb) : List Addr := tabs.map (·.T)
section
variable {P : Program} {w : World} {Γ : Ct} {mg mb : Str → Option Value} {k : Nat} {fa a : Addr} {fd : FuncData} {x : Str} {den : Fn} {s₁ : Shared} {vs : List Value} {ns : List Int} {tabs : List Tb}
theorem law_GTs (KX : Γ.K.In s₁.heap) (hns : s₁.heap.Ns mainGlobals mg) (hb : s₁.heap.Ns builtinsNs mb) (hbb : ∀ x : Str, x ≠ "__name__" → mb x = bootBuiltins x) (hlim : s₁.heap.NoLimit) (hg : s₁.gens = #[])
    (hT : ∀ t ∈ tabs, s₁.heap.get? t.T = some { cls := .none, data := .fields #[] } ∧ Γ.K.lookup t.T = none ∧ PySem.W.CodeHd s₁.heap t.c t.T) (hΓ : ∀ (i : Nat) (t : Tb), tabs[i]? = some t → Γ.tb i = t.T) (nd : (Ts tabs).Nodup)
    (hbm : ∃ (bm : Addr) (ob : Obj), mg "__builtins__" = some (.ref bm) ∧ bm ≠ builtinsNs ∧ s₁.heap.get? bm = some ob ∧ ob.cls = .type "module" ∧ ob.dict = some builtinsNs ∧ ob.data = .plain)
    (ha : s₁.heap.get? a = some { cls := .type "list", data := .seq vs.toArray }) (hi : IntsAre vs ns) (hl : ns.length ≤ sizeLine) (hr : Room k callerA)
    (F : ∀ base : Heap, Γ.K.In base → base.Ns mainGlobals mg → (∀ t ∈ tabs, LamX.TabB base mg t.c t.T) → FnG P w mg base Γ k fa fd [x] den) (hbind : ∀ (s : Shared) (u : Value), BindsTo s fd ⟨[u], []⟩ [(x, u)])
    (hden : ∃ s', den [.sq (ns.map .int)] (tabsOf 0 tabs) = .ok (.bl true) s') :
    codeAny (model P w) callerA (.call (.ref fa) ⟨[.ref a], []⟩) (fun r s' => r = .ok (.ret (.bool true)) ∧ OldK s₁.heap s'.heap ∧ s'.os = s₁.os ∧ AllBare s'.gens) s₁ := by
  have rv : Vals (ns.map V.int) vs := vals_ints hi
  have rl := hi.length
  let ob : Obj := { cls := .type "list", data := .seq vs.toArray }
  let tr : HO := .frz ob (.lst (ns.map V.int))
  let H : Hp := fun b => if b = a ∧ Γ.K.lookup a = none then some tr else if b ∈ Ts tabs then some (.tbl #[]) else none
  have inT : ∀ {b : Addr}, b ∈ Ts tabs → ∃ t ∈ tabs, t.T = b := fun h => List.mem_map.mp h
  have atT : ∀ {b : Addr}, b ∈ Ts tabs → s₁.heap.get? b = some { cls := .none, data := .fields #[] } := fun h => by
    obtain ⟨t, h1, rfl⟩ := inT h
    exact (hT t h1).1
  have nT : ∀ {b : Addr}, b ∈ Ts tabs → Γ.K.lookup b = none := fun h => by
    obtain ⟨t, h1, rfl⟩ := inT h
    exact (hT t h1).2.1
  have naT : ∀ {b : Addr}, b ∈ Ts tabs → a ≠ b := fun h z => by rw [z, atT h] at ha; cases ha
  have HT : ∀ {b : Addr}, b ∈ Ts tabs → H b = some (.tbl #[]) := fun {b} h => by
    show (if b = a ∧ Γ.K.lookup a = none then some tr else if b ∈ Ts tabs then some (HO.tbl #[]) else none) = _
    rw [if_neg (fun z => naT h z.1.symm), if_pos h]
  have Hin : ∀ b o, H b = some o → ((b = a ∧ Γ.K.lookup a = none) ∧ o = tr) ∨ (b ∈ Ts tabs ∧ o = .tbl #[]) := fun b o e => by
    have e' : (if b = a ∧ Γ.K.lookup a = none then some tr else if b ∈ Ts tabs then some (HO.tbl #[]) else none) = some o := e
    split at e'
    · exact .inl ⟨by assumption, (Option.some.inj e').symm⟩
    · split at e'
      · exact .inr ⟨by assumption, (Option.some.inj e').symm⟩
      · cases e'
  have free : ∀ b, ¬ (b = a ∧ Γ.K.lookup a = none) → b ∉ Ts tabs → H b = none := fun b c d => (if_neg c).trans (if_neg d)
  have hok : HOk P w H s₁.heap := fun b o e => by
    rcases Hin b o e with ⟨⟨rfl, _⟩, rfl⟩ | ⟨h, rfl⟩
    · exact ⟨ha, by rw [List.length_map]; exact hl, vs, _, rv, ha⟩
    · exact atT h
  let base := hidT s₁.heap H
  have keeps : ∀ {b : Addr} {o : Obj}, s₁.heap.get? b = some o → (∀ (u : Array Value) (n : Nat), o.data ≠ .seq u n) → o.cls ≠ .none → base.get? b = some o := fun {b o} e h1 h2 => hidT_get e (free b (fun z => by
    rw [z.1, ha] at e
    cases e
    exact h1 _ _ rfl) fun z => by
    rw [atT z] at e
    cases e
    exact h2 rfl)
  have dictIn : ∀ {b : Addr} {m : Str → Option Value}, s₁.heap.Ns b m → base.Ns b m := fun {b m} ⟨o, es, ep, e, d, r⟩ => by
    refine ⟨o, es, ep, hidT_get e (free b (fun z => ?_) fun z => ?_), d, r⟩
    · rw [z.1, ha] at e
      cases e
      cases d
    · rw [atT z] at e
      cases e
      cases d
  have kIn : Γ.K.In base := fun b o e => hidT_get (KX b o e) (free b (fun z => by
    rw [z.1, z.2] at e
    cases e) fun z => by
    rw [nT z] at e
    cases e)
  have gM : base.Ns mainGlobals mg := dictIn hns
  have md : Mod Γ.K mg base := ⟨kIn, gM, ⟨mb, dictIn hb, hbb⟩, let ⟨mc, h1, h2⟩ := hlim; ⟨mc, dictIn h1, h2⟩⟩
  have gT : ∀ {b : Addr}, b ∈ Ts tabs → mainGlobals ≠ b := fun h z => by
    obtain ⟨o, es, ep, e, d, _⟩ := hns
    rw [z, atT h] at e
    cases e
    cases d
  have TB : ∀ t ∈ tabs, LamX.TabB base mg t.c t.T := fun t ht => by
    have htT : t.T ∈ Ts tabs := List.mem_map.mpr ⟨t, ht, rfl⟩
    refine ⟨?_, ?_, gT htT⟩
    · obtain ⟨o, us, file, tf, flags, tg, inF, text, tt, e1, r1, r2, r⟩ := (hT t ht).2.2
      exact ⟨o, us, file, tf, flags, tg, inF, text, tt, keeps e1 (fun u n z => by rw [r2] at z; cases z) (fun z => by rw [r1] at z; cases z), r1, r2, r⟩
    · obtain ⟨bm, o, b1, b2, b3, b4, b5, b6⟩ := hbm
      refine ⟨bm, o, b1, b2, fun z => ?_, fun z => ?_, keeps b3 (fun u n z => by rw [b6] at z; cases z) (fun z => by rw [b4] at z; cases z), b4, b5, b6⟩
      · obtain ⟨o2, es, ep, e, d, _⟩ := hns
        rw [z, e] at b3
        cases b3
        rw [b6] at d
        cases d
      · rw [z, atT htT] at b3
        cases b3
        cases b6
  have e0 : Env0 P w Γ.K mg base callerA [] s₁ H :=
    { frames := rfl, mod := md, bs := fun b o e => of_hidT e, bsz := Nat.le_of_eq (hidT_size _ _), funs := trivial, frf := fun b hb => (nomatch hb), hok := hok, bare := .of_eq hg }
  obtain ⟨s', hd⟩ := hden
  let μ : Mu := fun n => (Ts tabs)[n]?
  have μin : ∀ {n : Nat} {b : Addr}, μ n = some b → b ∈ Ts tabs := fun {n b} z => List.mem_of_getElem? z
  have rs : RV Γ H μ (fun _ => False) (.sq (ns.map .int)) (.ref a) := by
    refine ⟨a, _, rfl, ?_, RVs.of_ints ns⟩
    cases hk : Γ.K.lookup a with
    | none => exact .inl ⟨.inr ⟨ob, if_pos ⟨rfl, hk⟩⟩, ⟨fun n z => naT (μin z) rfl, id⟩⟩
    | some o =>
      have e := KX a o hk
      rw [ha] at e
      cases e
      exact .inr ⟨_, vs.toArray, _, hk, rfl, rfl, rfl, by rw [List.size_toArray, rl]; exact hl, by simpa using rv⟩
  have rep : Rep Γ H μ (fun _ => False) (tabsOf 0 tabs) := ⟨fun n o e => by
    obtain ⟨t, h1, rfl⟩ := tabsOf_get e
    have h2 : t.T ∈ Ts tabs := List.mem_map.mpr ⟨t, List.mem_of_getElem? h1, rfl⟩
    refine ⟨t.T, ?_, id, ?_, #[], HT h2, trivial, fun pos cv z => by simp [codeAmong] at z⟩
    · show (Ts tabs)[n]? = some t.T
      unfold Ts
      rw [List.getElem?_map, h1]
      rfl
    · rw [Nat.zero_add]
      exact (hΓ n t h1).symm, fun n m b e1 e2 => by
      have h1 := (List.getElem?_eq_some_iff.mp e1)
      have h2 := (List.getElem?_eq_some_iff.mp e2)
      obtain ⟨l1, g1⟩ := h1
      obtain ⟨l2, g2⟩ := h2
      exact (List.getElem_inj nd).mp (g1.trans g2.symm), fun n b e => by
      obtain ⟨l1, _⟩ := List.getElem?_eq_some_iff.mp e
      rw [tabsOf_len]
      unfold Ts at l1
      rw [List.length_map] at l1
      exact l1, fun b z => z.elim⟩
  refine codeAny_mono ((F base kIn gM TB).run callerA [] s₁ H ⟨[.ref a], []⟩ [.ref a] [.ref a] (fun v _ => v = .bl true) (fun _ _ _ => False) hr rfl e0 (hbind s₁ (.ref a)) (.cons rfl .nil)
    ⟨rfl, μ, _, _, [.sq (ns.map .int)], rep, RVs.cons rs rfl, by rw [hd]; exact fun v H' μ' _ _ r => r⟩) fun r s2 h => ?_
  cases r with
  | error e =>
    obtain ⟨_, _, _, _, _, _, _, _, _, _, _, _, z⟩ := h
    exact z.elim
  | ok fl =>
    cases fl with
    | next => exact h.elim
    | brk => exact h.elim
    | cont => exact h.elim
    | ret u =>
      obtain ⟨v, H', os, bare, un, hok', rv', q'⟩ := h
      obtain rfl : v = .bl true := q'
      obtain rfl : u = Value.bool true := rv'
      have key : ∀ b o, b ∉ Ts tabs → s₁.heap.get? b = some o → s2.heap.get? b = some o := fun b o nb e => by
        cases qb : H b with
        | none => exact un.keep b o e qb (fun z => nomatch z) (fun z => nomatch z)
        | some u =>
          rcases Hin b u qb with ⟨⟨rfl, _⟩, rfl⟩ | ⟨z, _⟩
          · obtain ⟨e2, _⟩ := hok' b _ (un.frzs b ob _ qb)
            rw [ha] at e
            cases e
            exact e2
          · exact absurd z nb
      have grown : ∀ b, b ∈ Ts tabs → ∃ more, s2.heap.get? b = some { cls := .none, data := .fields (#[] ++ more) } := fun b h => by
        obtain ⟨more, z⟩ := un.tbls b #[] (HT h)
        exact ⟨more, hok' b _ z⟩
      refine ⟨rfl, ⟨fun b o e => ?_, fun b o e => ?_⟩, os, bare⟩
      · by_cases h : b ∈ Ts tabs
        · obtain ⟨t, ht, rfl⟩ := inT h
          obtain ⟨more, g⟩ := grown _ h
          rw [atT h] at e
          cases e
          exact .inr (.inl ⟨((hT t ht).2.2.tab (hT t ht).1).isCodeTable, rfl, #[], more, rfl, g⟩)
        · exact .inl (key b o h e)
      · by_cases h : b ∈ Ts tabs
        · obtain ⟨more, g⟩ := grown _ h
          exact ⟨_, g⟩
        · exact ⟨o, key b o h e⟩
/-- what the head leaves to be shown; ys: the defs that make lambdas -/
theorem walk_GTs {l : PySem.W.OpenLaw} {n k : Nat} {q : Program} {loose : List Str} {XP : (Str → Option Value) → Heap → Prop} {YP : World → Heap → Prop} {d : DefRec} {Kf : Params → PySem.W.Frag} {x : Str} {ys qs : List Str} (hn : l.most = some n) (hn2 : n ≤ sizeLine) (hdf : d.params.defaults = []) (hr : Room k callerA)
    (hY : ∀ (w : World) (h : Heap), YP w h → (Kf w.params).In h) (hy : ∀ y ∈ ys, ∃ dy, (recsOf q).find? (fun e => e.name == y) = some dy)
    (F : ∀ (w : World) (mg : Str → Option Value) (fa : Addr) (h : Heap), (Kf w.params).In h → h.Ns mainGlobals mg → mg d.name = some (.ref fa) →
      ∃ (Γ : Ct) (fd : FuncData) (den : Fn) (tabs : List Tb), Γ.K = Kf w.params ∧ (∀ (i : Nat) (t : Tb), tabs[i]? = some t → Γ.tb i = t.T) ∧ (Ts tabs).Nodup ∧ (∀ t ∈ tabs, ∃ y ∈ ys, PySem.W.tabIn Γ.K y = some (t.c, t.T) ∧ Γ.K.lookup t.T = none) ∧ tabs.map (·.q) = qs ∧ (∀ (s : Shared) (u : Value), BindsTo s fd ⟨[u], []⟩ [(x, u)]) ∧
        (∀ base : Heap, Γ.K.In base → base.Ns mainGlobals mg → (∀ t ∈ tabs, LamX.TabB base mg t.c t.T) → FnG l.prog w mg base Γ k fa fd [x] den) ∧
        ∀ ns : List Int, ns.length ≤ n → ∃ s', den [.sq (ns.map .int)] (tabsOf 0 (qs.map fun q => ⟨0, 0, q⟩)) = .ok (.bl true) s') :
    PySem.W.WalkO q loose XP YP l.row.toRowW d [] (fun f vs => PySem.call f vs) := by
  refine Att.attach_call hn hdf fun w s₀ s₁ mg mb fa o pm cd doc a vs ns G Y ho hd hcd hmg hobj hints hlen hg => ?_
  have KX := hY w _ Y
  obtain ⟨Γ, fd, den, tabs, hK, hΓ, nd, ht, hq, hb, hF, hden⟩ := F w mg fa _ KX G.T.g hmg
  have et : ∀ (i : Nat) (r : List Tb), tabsOf i ((r.map (·.q)).map fun q => ⟨0, 0, q⟩) = tabsOf i r := fun i r => by
    induction r generalizing i with
    | nil => rfl
    | cons t r ih => simp only [List.map_cons, tabsOf, ih]
  refine law_GTs (hK ▸ KX) G.T.g G.T.b G.T.builtins G.T.nolimit hg (fun t h => ?_) hΓ nd G.T.bmain hobj hints (Nat.le_trans hlen hn2) hr hF hb (by
    obtain ⟨s', e⟩ := hden ns hlen
    rw [← hq, et] at e
    exact ⟨s', e⟩)
  obtain ⟨y, hy1, h1, h2⟩ := ht t h
  obtain ⟨dy, hy2⟩ := hy y hy1
  obtain ⟨hC, hT⟩ := PySem.W.tab_of G.T (hK ▸ KX) hy2 h1
  exact ⟨hT, h2, hC⟩
end
end MP

set_option Elab.async false
set_option linter.all false
set_option maxRecDepth 100000
set_option maxHeartbeats 4000000
/-! try: .. except A: suite, without a name -/
namespace MP
open PySem PySem.Spec PyProof.Rows L2
def mTryOnly (j : Nat) (c su : FS) : FS := fun ρ s => match c ρ s with
  | .er x ρ1 s1 => if x.c < 9 ∧ j < 9 then if under x.c j = true then (match su ρ1 s1 with
      | .er _ _ _ => .no
      | r => r) else .er x ρ1 s1 else .no
  | r => r
section
variable {X : Cx} {Γ : Ct} {Wout : WX}
theorem ms_tryOnly {x1 : Str} {j : Nat} {body suite : List Stmt} {b0 : Stmt} {p1 pos pos' : Pos} {c su : FS} (hs : X.stack = X.env :: X.outer) (hf : X.env.frame = some X.env.locals)
    (n1 : Names X x1 (.ref (Γ.cls j))) (tk : Takes X Wout) (hex : ∀ c, c < 9 → ∀ j, j < 9 → PySem.W.exmOne X.K (.ref (Γ.cls c)) (.ref (Γ.cls j)) = some (under c j))
    (hb : ∀ (W : WX) (pn : List (Addr × Obj)) (xe : Value → Shared → Prop), Takes (X.tr pn xe) W → MB (X.tr pn xe) Γ W body c) (hsu : ∀ (a : Addr) (pn : List (Addr × Obj)), MB (X.suite a pn) Γ W0 (b0 :: suite) su) :
    MS X Γ Wout (.Try body [.ExceptHandler (some (.Name x1 p1)) none (b0 :: suite) pos'] [] [] pos) (mTryOnly j c su) := by
  refine PS.imp (ps_try_only (tb := fun W => rdS Γ W c) (ts := fun _ _ _ => rdS Γ W0 su) hs hf n1 tk (fun W pn xe t _ => hb W pn xe t) fun a oe cls d pn _ _ => hsu a ((a, oe) :: pn)) fun D σ H ⟨μ, Z, ρ, s, hE, hR, q⟩ => ⟨μ, Z, ρ, s, hE, hR, ?_⟩
  unfold mTryOnly at q
  cases e : c ρ s with
  | nx ρ' s' => rw [e] at q; exact q
  | rt w s' => rw [e] at q; exact q
  | bk ρ' s' => rw [e] at q; exact q
  | ct ρ' s' => rw [e] at q; exact q
  | no => rw [e] at q; exact q
  | er x ρ1 s1 =>
    rw [e] at q
    dsimp only at q
    split at q
    · rename_i hx
      intro cls d σ' H' μ' ev R' E' rx
      have rx0 := rx
      obtain ⟨r1, dd, v, r2, r3, r4, r5⟩ := rx
      subst r1 r2
      refine ⟨under x.c j, hex x.c hx.1 j hx.2, fun hu a na => ?_, fun hu => ?_⟩
      · rw [if_pos hu] at q
        refine ⟨μ', Z, ρ1, s1, E', R', ?_⟩
        cases e2 : su ρ1 s1 with
        | nx ρ2 s2 => rw [e2] at q; exact fun σ2 H2 μ2 ev2 R2 E2 => q _ _ _ (ev.trans ev2) R2 E2
        | bk ρ2 s2 => rw [e2] at q; exact fun σ2 H2 μ2 ev2 R2 E2 => q _ _ _ (ev.trans ev2) R2 E2
        | ct ρ2 s2 => rw [e2] at q; exact fun σ2 H2 μ2 ev2 R2 E2 => q _ _ _ (ev.trans ev2) R2 E2
        | rt w s2 => rw [e2] at q; exact fun v2 H2 μ2 ev2 R2 r2 => q _ _ _ (ev.trans ev2) R2 r2
        | er _ _ _ => rw [e2] at q; exact q.elim
        | no => rw [e2] at q; exact q.elim
      · rw [if_neg (by rw [hu]; exact Bool.false_ne_true)] at q
        exact q _ _ _ _ _ ev R' E' rx0
    · exact q.elim
end
theorem ex1_of {Γ : Ct} (e : ∀ c, c < 9 → ClsF Γ.K (Γ.cls c)) (s : ∀ c, c < 9 → ∀ j, j < 9 → PySem.W.subIn Γ.K (.ref (Γ.cls c)) (.ref (Γ.cls j)) = some (under c j)) : ∀ c, c < 9 → ∀ j, j < 9 → PySem.W.exmOne Γ.K (.ref (Γ.cls c)) (.ref (Γ.cls j)) = some (under c j) := fun c hc j hj => by
  unfold PySem.W.exmOne
  rw [(e j hj).e.hs]
  rw [if_pos (by rfl)]
  exact kitCls_of (e j hj).is (e j hj).ty (s c hc j hj)
section
variable {ρ ρ' : Env} {s s1 : Sto} {c su : FS} {j : Nat} {x : Ex} {w : Dv}
theorem tryO_rt (h : c ρ s = .rt w s1) : mTryOnly j c su ρ s = .rt w s1 := by unfold mTryOnly; rw [h]
theorem tryO_nx (h : c ρ s = .nx ρ' s1) : mTryOnly j c su ρ s = .nx ρ' s1 := by unfold mTryOnly; rw [h]
theorem tryO_er (h : c ρ s = .er x ρ' s1) (hx : x.c < 9) (hj : j < 9) (hu : under x.c j = true) : mTryOnly j c su ρ s = (match su ρ' s1 with
      | .er _ _ _ => .no
      | r => r) := by
  unfold mTryOnly
  rw [h]
  dsimp only
  rw [if_pos ⟨hx, hj⟩, if_pos hu]
end
end MP

set_option Elab.async false
set_option linter.all false
set_option maxRecDepth 100000
set_option maxHeartbeats 4000000
/-! == of two lists of unlike lengths, whatever they hold -/
namespace MP
open PySem PySem.Spec PyProof.Rows L2
def rLen (K : PySem.W.Frag) (b : Bool) : R2 := fun x y H Q => ∃ p q xs ys, x = .ref p ∧ y = .ref q ∧ SqL K H p xs ∧ SqL K H q ys ∧ xs.length ≠ ys.length ∧ Q (.bl b) H
section
variable {X : Cx} {Γ : Ct}
theorem op_eqLen (hu : X.A.units + 64 < cLine) : OpR X (compareOp .Eq) (rLen X.K false) := by
  intro pins s σ H x y v u Q I rx ry h
  obtain ⟨p, q, xs, ys, rfl, rfl, hp, hq, hl, k⟩ := h
  cases rx
  cases ry
  obtain ⟨us, r1, p1, _⟩ := I.list hp
  obtain ⟨ws, r2, p2, _⟩ := I.list hq
  refine SeqAt.RcAt.lists_lengths p1.isList p2.isList ?_ (by omega) _ _ _ _ ⟨.bl false, H, I, rfl, k⟩
  have h1 := r1.length
  have h2 := r2.length
  simp
  omega
theorem op_neLen (hu : X.A.units + 64 < cLine) : OpR X (compareOp .NotEq) (rLen X.K true) := by
  intro pins s σ H x y v u Q I rx ry h
  obtain ⟨p, q, xs, ys, rfl, rfl, hp, hq, hl, k⟩ := h
  cases rx
  cases ry
  obtain ⟨us, r1, p1, _⟩ := I.list hp
  obtain ⟨ws, r2, p2, _⟩ := I.list hq
  refine SeqAt.RcNeAt.lists_lengths p1.isList p2.isList ?_ (by omega) _ _ _ _ ⟨.bl true, H, I, rfl, k⟩
  have h1 := r1.length
  have h2 := r2.length
  simp
  omega
def lenO (b : Bool) : O2 := fun s x y => match lstOf s x, lstOf s y with
  | some ws, some us => if ws.length = us.length then none else some (.bl b)
  | _, _ => none
theorem sLenO {b : Bool} : Op2 Γ (rLen Γ.K b) (lenO b) := fun H μ Z s x y w u v Q hR r1 r2 e k => by
  unfold lenO at e
  split at e
  · rename_i ws us q1 q2
    split at e
    · cases e
    · rename_i hl
      cases e
      obtain ⟨p, xs, rfl, h1, h2⟩ := lstOf_ok hR r1 q1
      obtain ⟨q, ys, rfl, h3, h4⟩ := lstOf_ok hR r2 q2
      exact ⟨p, q, xs, ys, rfl, rfl, SqL.of h1, SqL.of h3, by rw [h2.len, h4.len]; exact hl, k _ H .refl hR rfl⟩
  · cases e
theorem Op2.or {r r' : R2} {o o' : O2} (h : Op2 Γ r o) (h' : Op2 Γ r' o') : Op2 Γ (fun x y H Q => r x y H Q ∨ r' x y H Q) (orO o o') := fun H μ Z s x y w u v Q hR r1 r2 e k => by
  unfold orO at e
  cases q : o s x y with
  | some z => rw [q] at e; cases e; exact .inl (h H μ Z s x y w u v Q hR r1 r2 q k)
  | none => rw [q] at e; exact .inr (h' H μ Z s x y w u v Q hR r1 r2 e k)
def eqL : O2 := orO eqD (lenO false)
def neL : O2 := orO neD (lenO true)
theorem opEqL (hu : X.A.units + 64 < cLine) : OpR X (compareOp .Eq) (fun x y H Q => rEqM X.K x y H Q ∨ rLen X.K false x y H Q) := OpR.or2 (opEq hu) (op_eqLen hu)
theorem opNeL (hu : X.A.units + 64 < cLine) : OpR X (compareOp .NotEq) (fun x y H Q => rNeM X.K x y H Q ∨ rLen X.K true x y H Q) := OpR.or2 (opNe hu) (op_neLen hu)
theorem sEqL : Op2 Γ (fun x y H Q => rEqM Γ.K x y H Q ∨ rLen Γ.K false x y H Q) eqL := Op2.or sEq sLenO
theorem sNeL : Op2 Γ (fun x y H Q => rNeM Γ.K x y H Q ∨ rLen Γ.K true x y H Q) neL := Op2.or sNe sLenO
theorem eqL_of {s : Sto} {x y : Dv} {w : Dv} (h : eqD s x y = some w) : eqL s x y = some w := by unfold eqL orO; rw [h]
theorem neL_of {s : Sto} {x y : Dv} {w : Dv} (h : neD s x y = some w) : neL s x y = some w := by unfold neL orO; rw [h]
/-- a list beside the empty one -/
theorem eqL_nil {s : Sto} {ws : List Dv} : eqL s (.lst ws) (.lst []) = some (.bl (decide (ws = []))) := by
  cases ws with
  | nil => exact eqL_of (eq_l_refl (pl_lst (pls_nil (k := 0))) (by decide))
  | cons w ws =>
    have e : lenO false s (.lst (w :: ws)) (.lst []) = some (.bl false) := rfl
    have e2 : flat (.lst (w :: ws)) = none := rfl
    unfold eqL orO
    cases q : eqD s (.lst (w :: ws)) (.lst []) with
    | none => exact e
    | some z =>
      unfold eqD eqB at q
      rw [e2] at q
      dsimp only at q
      cases q1 : toD s (.lst (w :: ws)) with
      | none => rw [q1] at q; cases q
      | some d =>
        rw [q1] at q
        have q2 : toD s (.lst []) = some (.list []) := rfl
        rw [q2] at q
        dsimp only at q
        split at q
        · have q3 : toD0 (.lst (w :: ws)) = some d := q1
          simp only [toD0] at q3
          cases q4 : toDs (w :: ws) with
          | none => rw [q4] at q3; cases q3
          | some ds =>
            rw [q4] at q3
            cases q3
            have := pls_len q4
            cases ds with
            | nil => simp at this
            | cons a b => cases q; simp [PyData.eqv, PyData.eqvAll]
        · cases q
theorem neL_nil {s : Sto} {ws : List Dv} : neL s (.lst ws) (.lst []) = some (.bl (!decide (ws = []))) := by
  have h := eqL_nil (s := s) (ws := ws)
  cases ws with
  | nil => exact neL_of (ne_of_eq (eq_l_refl (pl_lst (pls_nil (k := 0))) (by decide)))
  | cons w ws =>
    have e : lenO true s (.lst (w :: ws)) (.lst []) = some (.bl true) := rfl
    unfold neL orO
    cases q : neD s (.lst (w :: ws)) (.lst []) with
    | none => exact e
    | some z =>
      unfold neD at q
      unfold eqL orO eqD at h
      cases q5 : eqB s (.lst (w :: ws)) (.lst []) with
      | none => rw [q5] at q; cases q
      | some c =>
        rw [q5] at h q
        cases h
        cases q
        rfl
end
end MP

set_option Elab.async false
set_option linter.all false
set_option maxRecDepth 100000
set_option maxHeartbeats 4000000
/-! enumerate from a number on -/
namespace MP
open PySem PySem.Spec PyProof.Rows L2
section
variable {M : Model} {A : Around} {E : Value → Shared → Prop} {s : Shared} {env : PySem.Env}
theorem cw_type_kw {pos : Pos} {T : String} {e : Expr} {rest : List Expr} {kws : List Keyword} {Q : Value → Shared → Prop}
    (h : wpAny M A (spliced (backTo pos (starEach (e :: rest) env))) (fun vs s1 => wpAny M A (evalAll ((backToKw pos (keywordEach kws env)).map (·.2))) (fun zs s2 => wpAny M A (call (.type T) vs (((backToKw pos (keywordEach kws env)).filterMap (·.1)).zip zs)) Q E s2) E s1) E s)
    (h1 : backTo pos (starEach (e :: rest) env) = (false, eval e env) :: backTo pos (starEach rest env)) (h2 : (backTo pos (starEach (e :: rest) env)).any (·.1) = false)
    (h3 : (backToKw pos (keywordEach kws env)).all (·.1.isSome) = true) (h4 : (backToKw pos (keywordEach kws env)).any (·.1.isNone) = false) :
    wpAny M A (callWith pos (.type T) [] (backTo pos (starEach (e :: rest) env)) (backToKw pos (keywordEach kws env))) Q E s := by
  have hev : wpAny M A (evalArgs (.type T) true (backTo pos (starEach (e :: rest) env)) (backToKw pos (keywordEach kws env))) (fun a s1 => wpAny M A (call (.type T) ([] ++ a.pos) a.kw) Q E s1) E s := by
    rw [h1] at h ⊢
    exact evalArgs_kwB h3 h
  unfold callWith
  refine wpAny_bind (wpAny_holding (wpAny_mono hev (fun a s1 k1 => wpAny_bind (wpAny_standAt ?_)) fun _ _ z => z))
  simp only [h2, h4, Bool.or_false]
  refine wpAny_bind (wpAny_pure ?_)
  exact wpAny_bind (wpAny_mono k1 (fun r s2 k2 => wpAny_bind (wpAny_holding (wpAny_point (wpAny_pure k2)))) fun _ _ z => z)
end
def JEnumK (K : PySem.W.Frag) (t : Bool) (a : Addr) (b : Int) : It :=
  ⟨fun i H => ∃ (xs : List V) (x : V), SqX K H t a xs ∧ xs[i]? = some x,
   fun i H v H' => ∃ T x, v = .ref T ∧ H T = none ∧ H' = upd H T (.tup [.int (b + (i : Int)), x]) ∧ ∀ xs, SqX K H t a xs → xs[i]? = some x,
   fun i H => ∃ xs : List V, SqX K H t a xs ∧ xs.length = i⟩
def EnumTk (t : Bool) (a : Addr) (N : Nat) (b : Int) (i : Nat) (h : Heap) : Prop := (∃ old, IsEnum h (N + 1) N (b + (i : Int)) old) ∧ ItX h t N a i
theorem turn_enumK {P : Program} {w : World} {K : PySem.W.Frag} {elts : List Expr} {kk : Nat} {tpos : Pos} {t : Bool} {a : Addr} {N : Nat} {b : Int} (la : a < N) :
    Turn P w K (.Tuple elts kk tpos) (JEnumK K t a b) [N + 1, N] (N + 1) (EnumTk t a N b) where
  mem := by simp
  obj := fun i h st c hc => by
    obtain ⟨⟨old, he⟩, h1⟩ := st
    have e : c = N + 1 ∨ c = N := by simpa using hc
    rcases e with q | q
    · rw [q]; exact ⟨_, he, fun v q => nomatch q⟩
    · rw [q]; exact h1.obj
  keep := fun i h h' st k => by
    obtain ⟨⟨old, he⟩, h1⟩ := st
    exact ⟨⟨old, k _ (by simp) _ he⟩, h1.at fun o q => k N (by simp) o q⟩
  item := by
    intro X hP hw hK hc i pins s σ H E I hf st hg
    subst hP hw hK
    obtain ⟨xs, x, hqx, hx⟩ := hg
    obtain ⟨its, rv, p, _⟩ := hqx.has I
    obtain ⟨v1, hv1, r1⟩ := rv.get hx
    have hh : X.A.in1.handled = none := I.ok.hd hc
    have nf : N + 1 ∉ [N, a] := fun m => by
      rcases List.mem_cons.mp m with e | e
      · exact Nat.succ_ne_self N e
      · exact Nat.lt_irrefl a (Nat.lt_trans la ((List.mem_singleton.mp e) ▸ Nat.lt_succ_self N))
    have G := GoesN.enumFrom (prog := X.prog) (w := X.w) (A := X.A) (elts := elts) (x1 := kk) (pos := tpos) b (drawsX hh t N a (Nat.ne_of_lt la) its.toArray) (N + 1) (Nat.succ_ne_self N) nf (by simp)
    obtain ⟨⟨old, he⟩, h1⟩ := id st
    have l1 := (List.getElem?_eq_some_iff.mp hv1).1
    have liveX : ∀ c ∈ [N + 1, N], c < s.heap.objs.size := fun c hc => by
      have hN : N + 1 < s.heap.objs.size := Heap.lt_size he
      have e : c = N + 1 ∨ c = N := by simpa using hc
      omega
    refine turn_item (tn := EnumTk t a N b) I hf liveX G (by simpa using l1) ⟨⟨old, he⟩, h1, p⟩ (fun c hc => hc) (fun h' _ st' => show EnumTk t a N b (i + 1) h' from ⟨st'.1, st'.2.1⟩) fun v h' hY => ?_
    obtain ⟨T, tt, c1, rfl, hT, e1, ht⟩ := hY
    have e1' : its[i]? = some c1 := by simpa using e1
    rw [hv1] at e1'
    cases e1'
    exact ⟨T, [.int (b + (i : Int)), x], #[.int (b + (i : Int)) tt, v1], rfl, hT, ht, .cons ⟨tt, rfl⟩ (.cons r1 .nil), (show 2 ≤ sizeLine by rw [sizeLine_eq]; decide), T, x, rfl, I.hok.fresh hT, rfl, fun l hl => by rw [SqX.inj I hl hqx]; exact hx⟩
  done := by
    intro X hP hw hK hc i pins s σ H E I hf st hg
    subst hP hw hK
    obtain ⟨xs, hqx, hend⟩ := hg
    obtain ⟨its, rv, p, _⟩ := hqx.has I
    have hh : X.A.in1.handled = none := I.ok.hd hc
    have nf : N + 1 ∉ [N, a] := fun m => by
      rcases List.mem_cons.mp m with e | e
      · exact Nat.succ_ne_self N e
      · exact Nat.lt_irrefl a (Nat.lt_trans la ((List.mem_singleton.mp e) ▸ Nat.lt_succ_self N))
    have G := GoesN.enumFrom (prog := X.prog) (w := X.w) (A := X.A) (elts := elts) (x1 := kk) (pos := tpos) b (drawsX hh t N a (Nat.ne_of_lt la) its.toArray) (N + 1) (Nat.succ_ne_self N) nf (by simp)
    obtain ⟨⟨old, he⟩, h1⟩ := id st
    have l1 := rv.length
    have hn : its.toArray.size = i := by simp; omega
    rw [hn] at G
    exact G.stops s (fun s1 => Inv X pins σ H s1) E ⟨⟨old, he⟩, h1, p⟩ fun h' tk hk _ => I.turnedL (ch := [N + 1, N]) (fun c o hb q => hk c o hb q) hf
  self := fun A i s Q E st h => let ⟨⟨_, he⟩, _⟩ := st; wpAny_pyIter_enum he h
section
variable {X : Cx} {Γ : Ct} {W : WX}
def iEnumKG (K : PySem.W.Frag) (b : Int) (ta : TA) : TI := fun σ H R => ta σ H fun vs H1 => ∃ t a xs, vs = [.ref a] ∧ SqX K H1 t a xs ∧ R (JEnumK K t a b) H1
theorem pi_enumK {e : Expr} {ta : TA} {b : Int} {k2 : Nat} {p p2 kp pos tpos : Pos} {elts : List Expr} {kk : Nat} (h0 : -(2 ^ 63) ≤ b) (h1 : b < 2 ^ 63) (hg : Gl X "enumerate") (hm : X.mg "enumerate" = none) (ha : PA X [e] ta) (hs : backTo pos (starEach [e] X.env) = (false, eval e X.env) :: backTo pos (starEach [] X.env) := by rfl) (hpl : (backTo pos (starEach [e] X.env)).any (·.1) = false := by rfl)
    (hall : (backToKw pos (keywordEach [⟨some "start", .Constant (.int b) k2 p2, kp⟩] X.env)).all (·.1.isSome) = true := by rfl) (hnone : (backToKw pos (keywordEach [⟨some "start", .Constant (.int b) k2 p2, kp⟩] X.env)).any (·.1.isNone) = false := by rfl)
    (hks : (backToKw pos (keywordEach [⟨some "start", .Constant (.int b) k2 p2, kp⟩] X.env)).filterMap (·.1) = [Str.ofString "start"] := by rfl) :
    PI X (.Tuple elts kk tpos) (.Call (.Name "enumerate" p) [e] [⟨some "start", .Constant (.int b) k2 p2, kp⟩] pos) (iEnumKG X.K b ta) := by
  refine ⟨fun pins s σ H R I h => ?_⟩
  refine wpAny_Call_Name_kw (ld_blt I hg hm boot_enumerate ?_ (by decide) (by decide))
  refine cw_type_kw (thn (ha.run pos pins s σ H _ I h) fun us s1 ⟨vs, H1, I1, r1, q1⟩ => ?_) hs hpl hall hnone
  obtain ⟨t, a, xs, rfl, hqx, q⟩ := q1
  obtain ⟨v, rfl, rfl⟩ : ∃ v, us = [v] ∧ v = Value.ref a := by
    cases r1 with
    | cons r rr => cases rr; exact ⟨_, rfl, r⟩
  refine PyProof.Rows.kws_cons (thn ((pe_int (X := X) (i := b)).run pins s1 σ H1 (fun y H2 => y = .int b ∧ H2 = H1) I1 ⟨rfl, rfl⟩) fun z s2 ⟨y, H2, I2, ry, ey, eh⟩ => ?_)
  subst ey eh
  obtain ⟨tk, rfl⟩ := ry
  refine PyProof.Rows.kws_nil ?_
  rw [hks]
  obtain ⟨its, rv, p1, la⟩ := hqx.has I2
  refine enum_begins_start (beginsX t a its.toArray) p1 h0 h1 fun h' he h1 _ hk => wpAny_pyIter_enum he ?_
  have I3 : Inv X pins σ H2 { s2 with heap := h' } := I2.kept (t' := s2.toks) hk
  refine ⟨_, [s2.heap.objs.size + 1, s2.heap.objs.size], _, _, H2, rfl, I3, turn_enumK la, ⟨⟨.none, by rw [show b + ((0 : Nat) : Int) = b by omega]; exact he⟩, ?_⟩, fun c hc => ?_, q⟩
  · unfold ItX
    cases t with
    | true => exact ⟨_, h1, rfl, rfl⟩
    | false => exact ⟨_, h1, rfl, rfl⟩
  · have e' : c = s2.heap.objs.size + 1 ∨ c = s2.heap.objs.size := by simpa using hc
    have hle : s2.heap.objs.size ≤ c := by rcases e' with z | z <;> (rw [z]; first | exact Nat.le_refl _ | exact Nat.le_add_right _ _)
    exact I2.fpOk hle (I2.hok.fresh hle)
def enumF (b : Int) : Nat → List Dv → List Dv
  | _, [] => []
  | n, a :: r => .tup [.int (b + (n : Nat)), a] :: enumF b (n + 1) r
theorem enumF_len {b : Int} : ∀ (n : Nat) (l : List Dv), (enumF b n l).length = l.length
  | _, [] => rfl
  | n, a :: r => by simp [enumF, enumF_len (n + 1) r]
theorem enumF_get {b : Int} : ∀ {l : List Dv} {n i : Nat} {w : Dv}, (enumF b n l)[i]? = some w → ∃ x, l[i]? = some x ∧ w = .tup [.int (b + ((n + i : Nat) : Int)), x]
  | [], _, _, _, h => by simp [enumF] at h
  | a :: r, n, 0, w, h => by
    simp [enumF] at h
    exact ⟨a, rfl, by rw [← h]; rfl⟩
  | a :: r, n, i + 1, w, h => by
    have h' : (enumF b (n + 1) r)[i]? = some w := by simpa [enumF] using h
    obtain ⟨x, h1, h2⟩ := enumF_get h'
    exact ⟨x, by simpa using h1, by rw [h2]; congr 4; omega⟩
def iEnumF (b : Int) (fa : FA) : FI := fun ρ s => (fa ρ s).bind fun ws s1 => match ws with
  | [x] => match plainOf x with
    | some (_, a) => .ok { ws := enumF b 0 a } s1
    | _ => .no
  | _ => .no
theorem mi_enumF {e : Expr} {fa : FA} {b : Int} {k2 : Nat} {p p2 kp pos tpos : Pos} {elts : List Expr} {kk : Nat} (h0 : -(2 ^ 63) ≤ b) (h1 : b < 2 ^ 63) (hK : Γ.K = X.K) (hg : Gl X "enumerate") (hm : X.mg "enumerate" = none) (ha : MA X Γ W [e] fa) (hs : backTo pos (starEach [e] X.env) = (false, eval e X.env) :: backTo pos (starEach [] X.env) := by rfl) (hpl : (backTo pos (starEach [e] X.env)).any (·.1) = false := by rfl)
    (hall : (backToKw pos (keywordEach [⟨some "start", .Constant (.int b) k2 p2, kp⟩] X.env)).all (·.1.isSome) = true := by rfl) (hnone : (backToKw pos (keywordEach [⟨some "start", .Constant (.int b) k2 p2, kp⟩] X.env)).any (·.1.isNone) = false := by rfl)
    (hks : (backToKw pos (keywordEach [⟨some "start", .Constant (.int b) k2 p2, kp⟩] X.env)).filterMap (·.1) = [Str.ofString "start"] := by rfl) :
    MI X Γ W (.Tuple elts kk tpos) (.Call (.Name "enumerate" p) [e] [⟨some "start", .Constant (.int b) k2 p2, kp⟩] pos) (iEnumF b fa) :=
  PI.imp (pi_enumK h0 h1 hg hm ha hs hpl hall hnone hks) fun σ H Q ⟨μ, Z, ρ, s, hE, hR, q⟩ => iA hE hR q fun ws s1 vs H1 μ1 e1 E1 R1 r1 q1 => by
    split at q1
    · rename_i x
      split at q1
      · rename_i t a qx
        obtain ⟨v, rfl, rx⟩ := one r1
        obtain ⟨pa, xs, rfl, r2, k2⟩ := plain_ok rx qx
        rw [← hK]
        refine ⟨t, pa, xs, rfl, k2 _ _ Evo.refl.z, q1 _ _ _ .refl R1 fun H' μ' Z' s' ev hR' hy hz _ => ⟨⟨xs, k2 _ _ ev, by rw [enumF_len, r2.len]⟩, fun i w hi => ?_⟩⟩
        obtain ⟨x', g1, rfl⟩ := enumF_get hi
        obtain ⟨ux, h1, h2⟩ := r2.get g1
        refine ⟨⟨xs, ux, k2 _ _ ev, h1⟩, fun z H'' hq => ?_⟩
        obtain ⟨T, zx, rfl, hT, rfl, j1⟩ := hq
        have e3 := j1 xs (k2 _ _ ev)
        rw [h1] at e3
        cases e3
        rw [Nat.zero_add]
        exact ⟨Evo.laid hT, hR'.laid hT, new_tup hR' hT (RVs.cons (w := .int (b + (i : Int))) rfl (RVs.cons ((RV.strong hz _ h2).monoZ (ev.more hy)) RVs.nil))⟩
      · exact q1.elim
    · exact q1.elim
end
end MP

set_option Elab.async false
set_option linter.all false
set_option maxRecDepth 100000
set_option maxHeartbeats 4000000
/-! texts -/
namespace MP
open PySem PySem.Spec PyProof.Rows L2
def strsOf : List Dv → Option (List Str)
  | [] => some []
  | .str x :: r => (strsOf r).map (x :: ·)
  | _ => none
section
variable {X : Cx} {Γ : Ct} {W : WX} {H : Hp} {μ : Mu} {Z : Zs} {s : Sto}
theorem strsOf_ok : ∀ {ws : List Dv} {vs : List V} {ys : List Str}, RVs Γ H μ Z ws vs → strsOf ws = some ys → vs = ys.map V.str
  | [], _, _, r, e => by cases e; exact r
  | w :: ws, _, ys, r, e => by
    obtain ⟨x, xs, rfl, h1, h2⟩ := r
    cases w with
    | str y =>
      simp only [strsOf] at e
      cases q : strsOf ws with
      | none => rw [q] at e; cases e
      | some zs =>
        rw [q] at e
        cases e
        rw [show x = .str y from h1, strsOf_ok h2 q]
        rfl
    | _ => cases e
theorem strs_map : ∀ ys : List Str, strsOf (ys.map .str) = some ys
  | [] => rfl
  | y :: ys => by
    show (strsOf (ys.map .str)).map (y :: ·) = _
    rw [strs_map ys]
    rfl
theorem rvs_strs : ∀ ys : List Str, RVs Γ H μ Z (ys.map .str) (ys.map V.str)
  | [] => rfl
  | y :: ys => ⟨_, _, rfl, rfl, rvs_strs ys⟩
/-! ### methods of texts -/
def mStr1 (o : O2) (f g : FE) : FE := fun ρ s => (f ρ s).bind fun x s1 => match x with
  | .str a => (g ρ s1).bind fun y s2 => R.of (o s2 (.str a) y) s2
  | _ => .no
theorem me_m1 {id : String} {name : Str} {a b : Expr} {f g : FE} {o : O2} {apos pos : Pos} {r : V → List V → Hp → VK → Prop} (slot : Slot "str" name id) (ty : typeOf (.builtin id) = pure (.type "method_descriptor")) (rule : MtR X id r) (hs : Op2 Γ (fun x y H Q => r x [y] H Q) o) (ha : ME X Γ W a f) (hb : ME X Γ W b g)
    (hse : starEach [b] X.env = [(false, eval b X.env)] := by rfl) (hbase : attributeBase a name X.env (eval a X.env) = eval a X.env := by rfl) (hline : (apos.endLine == pos.line) = true := by rfl) :
    ME X Γ W (.Call (.Attribute a name apos) [b] [] pos) (mStr1 o f g) :=
  PE.imp (pe_m1 slot ty rule ha hb hse hbase hline) fun σ H Q ⟨μ, Z, ρ, s, hE, hR, q⟩ => eE hE hR q fun x s1 u H1 μ1 e1 hE1 R1 r1 q1 => by
    cases x with
    | str a => exact ⟨⟨a, r1⟩, eE hE1 R1 q1 fun y s2 v H2 μ2 e2 hE2 R2 r2 q2 => by
        obtain ⟨w, hw, k⟩ := ofE q2
        exact hs H2 μ2 Z s2 (.str a) y w u v Q R2 (r1.mono e2) r2 hw k⟩
    | _ => exact q1.elim
def spD : O2 := fun _ x y => match x, y with
  | .str a, .str b => if (b.length == 0) = false ∧ a.length ≤ 1000000 then some (.lst ((Txt.split a b).map .str)) else none
  | _, _ => none
theorem sSplit : Op2 Γ (fun x y H Q => ∃ a b, x = .str a ∧ [y] = [.str b] ∧ (b.length == 0) = false ∧ a.length + 2 ≤ sizeLine ∧ rNewStrs (Txt.split a b) H Q) spD := fun H μ Z s x y w u v Q hR r1 r2 e k => by
  unfold spD at e
  split at e
  · rename_i a b
    split at e
    · rename_i hc
      cases e
      rw [show u = .str a from r1, show v = .str b from r2]
      refine ⟨a, b, rfl, rfl, hc.1, by have := hc.2; rw [sizeLine_eq]; omega, fun p hp => ?_⟩
      exact k _ _ (Evo.laid hp) (hR.laid hp) (new_lst hR hp (rvs_strs _))
    · cases e
  · cases e
def jnD : O2 := fun s x y => match x, (seqOf s y).bind strsOf with
  | .str a, some ys => if (ys.map (·.length)).sum + ys.length * a.length ≤ 1000000 then some (.str (Txt.join a ys)) else none
  | _, _ => none
theorem sJoin : Op2 Γ (fun x y H Q => ∃ a p, ∃ ys : List Str, x = .str a ∧ [y] = [.ref p] ∧ (SqL Γ.K H p (ys.map V.str) ∨ SqT Γ.K H p (ys.map V.str)) ∧
    (ys.map (·.length)).sum + ys.length * a.length ≤ 16777216 ∧ Q (.str (Txt.join a ys)) H) jnD := fun H μ Z s x y w u v Q hR r1 r2 e k => by
  unfold jnD at e
  split at e
  · rename_i a ys q
    split at e
    · rename_i hc
      cases e
      cases q1 : seqOf s y with
      | none => rw [q1] at q; cases q
      | some ws =>
        rw [q1] at q
        obtain ⟨p, xs, rfl, h2, h3⟩ := seqOf_ok hR r2 q1
        rw [strsOf_ok h3 q] at h2
        exact ⟨a, p, ys, r1, rfl, h2, by omega, k _ H .refl hR rfl⟩
    · cases e
  · cases e
def rpD : O2 := fun _ x y => match x, y with
  | .str a, .str b => if a.length ≤ 1000000 then some (.str (Txt.removeprefix a b)) else none
  | _, _ => none
theorem sRmp : Op2 Γ (fun x y H Q => ∃ a b, x = .str a ∧ [y] = [.str b] ∧ a.length ≤ sizeLine ∧ Q (.str (Txt.removeprefix a b)) H) rpD := fun H μ Z s x y w u v Q hR r1 r2 e k => by
  unfold rpD at e
  split at e
  · rename_i a b
    split at e
    · rename_i hc
      cases e
      exact ⟨a, b, r1, by rw [show v = .str b from r2], by rw [sizeLine_eq]; omega, k _ H .refl hR rfl⟩
    · cases e
  · cases e
/-! ### str(i), int(text), all -/
def strD : ON := fun _ xs => match xs with
  | [.int i] => if i.natAbs < 2 ^ 60 then some (.str (toString i)) else none
  | _ => none
theorem sStrI : OpN Γ (fun xs H Q => ∃ i, xs = [.int i] ∧ i.natAbs.log2 < 1920 ∧ Q (.str (toString i)) H) strD := fun H μ Z s xs w vs Q hR rx e k => by
  unfold strD at e
  split at e
  · rename_i i
    split at e
    · rename_i hc
      cases e
      obtain ⟨v, rfl, r1⟩ := one rx
      rw [show v = .int i from r1]
      refine ⟨i, rfl, ?_, k _ H .refl hR rfl⟩
      by_cases h0 : i.natAbs = 0
      · rw [h0]; decide
      · exact Nat.lt_trans ((Nat.log2_lt h0).mpr hc) (by decide)
    · cases e
  · cases e
def intA : ON := fun s xs => match intD s xs with
  | some w => some w
  | none => match xs with
    | [.str a] => match PySem.intText? a with
      | some n => if a.length ≤ 640 then some (.int n) else none
      | none => none
    | _ => none
abbrev rIntA : List V → Hp → VK → Prop := fun xs H Q => ((∃ i, xs = [.int i] ∧ Q (.int i) H) ∨ ∃ k, xs = [.bl k] ∧ Q (.int (if k then 1 else 0)) H) ∨ (∃ a n, xs = [.str a] ∧ PySem.intText? a = some n ∧ a.length ≤ 640 ∧ Q (.int n) H)
theorem call_intA : CallR X (.type "int") rIntA := CallR.or2 call_int1 call_int_str
theorem sIntA : OpN Γ rIntA intA := fun H μ Z s xs w vs Q hR rx e k => by
  unfold intA at e
  split at e
  · rename_i w' q
    cases e
    exact .inl (sInt H μ Z s xs w vs Q hR rx q k)
  · split at e
    · rename_i a _
      split at e
      · rename_i n q
        split at e
        · rename_i hl
          cases e
          obtain ⟨v, rfl, r1⟩ := one rx
          rw [show v = .str a from r1]
          exact .inr ⟨a, n, rfl, q, hl, k _ H .refl hR rfl⟩
        · cases e
      · cases e
    · cases e
def blOf : Dv → Option Bool
  | .bl b => some b
  | _ => none
def blsOf : List Dv → Option (List Bool)
  | [] => some []
  | .bl b :: r => (blsOf r).map (b :: ·)
  | _ => none
theorem blsOf_ok : ∀ {ws : List Dv} {vs : List V} {bs : List Bool}, RVs Γ H μ Z ws vs → blsOf ws = some bs → vs = bs.map V.bl
  | [], _, _, r, e => by cases e; exact r
  | w :: ws, _, bs, r, e => by
    obtain ⟨x, xs, rfl, h1, h2⟩ := r
    cases w with
    | bl y =>
      simp only [blsOf] at e
      cases q : blsOf ws with
      | none => rw [q] at e; cases e
      | some zs =>
        rw [q] at e
        cases e
        rw [show x = .bl y from h1, blsOf_ok h2 q]
        rfl
    | _ => cases e
theorem bls_map : ∀ ys : List Bool, blsOf (ys.map .bl) = some ys
  | [] => rfl
  | y :: ys => by
    show (blsOf (ys.map .bl)).map (y :: ·) = _
    rw [bls_map ys]
    rfl
def allD : ON := fun s xs => match xs with
  | [x] => match (lstOf s x).bind blsOf with
    | some bs => some (.bl (bs.all id))
    | none => none
  | _ => none
theorem sAll (hK : Γ.K = X.K) : OpN Γ (rAll X.K) allD := fun H μ Z s xs w vs Q hR rx e k => by
  rw [← hK]
  unfold allD at e
  split at e
  · rename_i x
    split at e
    · rename_i bs q
      cases e
      obtain ⟨v, rfl, r1⟩ := one rx
      cases q1 : lstOf s x with
      | none => rw [q1] at q; cases q
      | some ws =>
        rw [q1] at q
        obtain ⟨p, xs, rfl, h2, h3⟩ := lstOf_ok hR r1 q1
        rw [blsOf_ok h3 q] at h2
        exact ⟨p, bs, rfl, SqL.of h2, k _ H .refl hR rfl⟩
    · cases e
  · cases e
/-! ### a sign in a text; a text walked; a sign of a text -/
def inD : O2 := fun _ x y => match x, y with
  | .str a, .str z => match a.cps.toList with
    | [c] => some (.bl (decide (c ∈ z.cps.toList)))
    | _ => none
  | _, _ => none
theorem sInS : Op2 Γ (fun x y H Q => ∃ (c : Nat) (z : Str), x = .str ⟨#[c]⟩ ∧ y = .str z ∧ Q (.bl (decide (c ∈ z.cps.toList))) H) inD := fun H μ Z s x y w u v Q hR r1 r2 e k => by
  unfold inD at e
  split at e
  · rename_i a z
    split at e
    · rename_i c q
      cases e
      have ea : a = ⟨#[c]⟩ := by
        cases a with
        | mk cs =>
          congr 1
          exact Array.toList_inj.mp q
      subst ea
      exact ⟨c, z, r1, r2, k _ H .refl hR rfl⟩
    · cases e
  · cases e
def iStrD (f : FE) : FI := fun ρ s => (f ρ s).bind fun w s1 => match w with
  | .str x => .ok { ws := x.cps.toList.map fun c => .str ⟨#[c]⟩ } s1
  | _ => .no
theorem mi_str {tg e : Expr} {f : FE} (ha : ME X Γ W e f) : MI X Γ W tg e (iStrD f) :=
  PI.imp (pi_str ha) fun σ H Q ⟨μ, Z, ρ, s, hE, hR, q⟩ => iI hE hR q fun x s1 v H1 μ1 e1 hE1 R1 r1 q1 => by
    cases x with
    | str y =>
      refine ⟨y, r1, q1 _ _ _ .refl R1 fun H' μ' Z' s' ev hR' hy hz _ => ⟨by rw [List.length_map]; simp [Its], fun i w hi => ?_⟩⟩
      rw [List.getElem?_map] at hi
      cases q2 : y.cps.toList[i]? with
      | none => rw [q2] at hi; cases hi
      | some c =>
        rw [q2] at hi
        cases hi
        have q3 : y.cps[i]? = some c := by rw [← Array.getElem?_toList]; exact q2
        refine ⟨by have := (Array.getElem?_eq_some_iff.mp q3).1; exact this, fun z H'' hq => ?_⟩
        obtain ⟨rfl, c', h1, rfl⟩ := hq
        rw [q3] at h1
        cases h1
        exact ⟨.refl, hR', rfl⟩
    | _ => exact q1.elim
def ixS : O2 := fun _ x y => match x, y with
  | .str z, .int i => if z.length ≤ 1000000 then (match atI z.cps.toList i with
    | some c => some (.str ⟨#[c]⟩)
    | none => none) else none
  | _, _ => none
theorem sIxS : Op2 Γ rIxS ixS := fun H μ Z s x y w u v Q hR r1 r2 e k => by
  unfold ixS at e
  split at e
  · rename_i z i
    split at e
    · rename_i hl
      split at e
      · rename_i c q
        cases e
        exact ⟨z, i, c, r1, r2, by rw [sizeLine_eq]; omega, q, k _ H .refl hR rfl⟩
      · cases e
    · cases e
  · cases e
theorem me_ixS {a b : Expr} {f g : FE} {pos : Pos} (ha : ME X Γ W a f) (hb : ME X Γ W b g) (hs : PlainIx b) : ME X Γ W (.Subscript a b pos) (mBin ixS f g) :=
  PE.imp (pe_ix ix_str ha hb hs) fun σ H Q ⟨μ, Z, ρ, s, hE, hR, q⟩ => eE hE hR q fun x s1 u H1 μ1 e1 hE1 R1 r1 q1 => eE hE1 R1 q1 fun y s2 v H2 μ2 e2 hE2 R2 r2 q2 => by
    obtain ⟨w, hw, k⟩ := ofE q2
    exact sIxS H2 μ2 Z s2 x y w u v Q R2 (r1.mono e2) r2 hw k
/-- f'a{b}' -/
def fmtD : Dv → Option Str
  | .str y => if y.length ≤ 1000000 then some y else none
  | .int i => if i.natAbs < 2 ^ 60 then some (toString i) else none
  | _ => none
def mFmt2 (a : Str) (g : FE) : FE := fun ρ s => if a.length ≤ 1000000 then (g ρ s).bind fun x s1 => match fmtD x with
  | some y => if (a ++ y).length ≤ 10000000 then .ok (.str (a ++ y)) s1 else .no
  | none => .no else .no
theorem str_e0 (a : Str) : Str.empty ++ a = a := by
  cases a with
  | mk cs =>
    show (⟨#[] ++ cs⟩ : Str) = _
    rw [Array.empty_append]
theorem me_fmt2 {a : Str} {k : Nat} {e : Expr} {g : FE} {p1 p2 pos : Pos} (hb : ME X Γ W e g) : ME X Γ W (.JoinedStr [.Constant (.str a) k p1, .FormattedValue e (-1) none p2] pos) (mFmt2 a g) :=
  PE.imp (pe_joined (.cons pe_str (.cons (pe_fmt hb) .nil))) fun σ H Q ⟨μ, Z, ρ, s, hE, hR, q⟩ => by
    unfold mFmt2 at q
    split at q
    · rename_i ha
      refine ⟨a, rfl, by rw [str_e0, sizeLine_eq]; omega, ?_⟩
      rw [str_e0]
      refine eE hE hR q fun x s1 u H1 μ1 e1 hE1 R1 r1 q1 => ?_
      unfold fmtD at q1
      cases x with
      | str y =>
        dsimp only at q1
        split at q1
        · rename_i y' e
          split at e
          · rename_i hy
            cases e
            split at q1
            · rename_i hl
              exact .inl ⟨y, r1, by rw [sizeLine_eq]; omega, y, rfl, by rw [sizeLine_eq]; omega, q1 _ _ _ .refl R1 rfl⟩
            · exact q1.elim
          · cases e
        · exact q1.elim
      | int i =>
        dsimp only at q1
        split at q1
        · rename_i y' e
          split at e
          · rename_i hy
            cases e
            split at q1
            · rename_i hl
              refine .inr ⟨i, r1, ?_, toString i, rfl, by rw [sizeLine_eq]; omega, q1 _ _ _ .refl R1 rfl⟩
              by_cases h0 : i.natAbs = 0
              · rw [h0]; decide
              · exact Nat.lt_trans ((Nat.log2_lt h0).mpr hy) (by decide)
            · exact q1.elim
          · cases e
        · exact q1.elim
      | _ => exact q1.elim
    · exact q.elim
end
end MP
namespace MP
open PySem PySem.Spec PyProof.Rows L2
section
variable {X : Cx} {Γ : Ct} {W : WX}
theorem me_globS {x y : Str} {pos : Pos} (hg : Gl X x) (hm : ∃ t, X.mg x = some (.str y t)) (hd : (x == ("__debug__" : Str)) = false := by decide) : ME X Γ W (.Name x pos) (mK (.str y)) := by
  obtain ⟨t, h⟩ := hm
  exact PE.imp (pe_glob (v := .str y) hg h ⟨t, rfl⟩ hd) fun σ H Q ⟨μ, Z, ρ, s, hE, hR, q⟩ => q (.str y) H μ .refl hR rfl
end
end MP

set_option Elab.async false
set_option linter.all false
set_option maxRecDepth 100000
set_option maxHeartbeats 400000
/-! facts of texts: ints in decimal, words -/
namespace MP
open PySem PySem.Spec PyProof.Rows L2 TL PySem.NumText
abbrev Wi (i : Int) : Str := Str.ofString (toString i)
/-- the signs of a number -/
def dg (i : Int) : List Nat := if 0 ≤ i then numL i.toNat else 45 :: numL (-i).toNat
theorem tl_W (i : Int) : tl (Wi i) = dg i := by
  unfold dg
  by_cases h : 0 ≤ i
  · rw [if_pos h]
    obtain ⟨n, rfl⟩ : ∃ n : Nat, i = n := ⟨i.toNat, by omega⟩
    rw [Int.toNat_natCast]
    exact tl_num n
  · rw [if_neg h]
    obtain ⟨n, rfl⟩ : ∃ n : Nat, i = Int.negSucc n := ⟨(-i - 1).toNat, by omega⟩
    have e1 : (-(Int.negSucc n)).toNat = n + 1 := by omega
    rw [e1]
    have e2 : tl (Str.ofString (toString ((n + 1 : Nat) : Int))) = numL (n + 1) := tl_num (n + 1)
    have e3 : (toString (Int.negSucc n) : String) = "-" ++ toString ((n + 1 : Nat) : Int) := rfl
    show tl (Str.ofString (toString (Int.negSucc n))) = _
    rw [e3, tl_ofString, String.toList_append, List.map_append, ← tl_ofString, ← tl_ofString, e2]
    rfl
theorem dg_ne (i : Int) : dg i ≠ [] := by
  unfold dg
  split
  · exact numL_ne _
  · simp
theorem dg_mem {i : Int} {c : Nat} (h : c ∈ dg i) : c = 45 ∨ (48 ≤ c ∧ c ≤ 57) := by
  unfold dg at h
  split at h
  · exact .inr (numL_digits _ c h)
  · rcases List.mem_cons.mp h with h | h
    · exact .inl h
    · exact .inr (numL_digits _ c h)
theorem dg_free {i : Int} {c : Nat} (h : c ≠ 45) (h2 : c < 48 ∨ 57 < c) : c ∉ dg i := fun hm => by
  rcases dg_mem hm with q | q
  · exact h q
  · omega
theorem numL_head {n : Nat} (h : 0 < n) : ∃ c r, numL n = c :: r ∧ c ≠ 48 ∧ 48 ≤ c ∧ c ≤ 57 := by
  induction n using Nat.strongRecOn with
  | _ n ih =>
    by_cases hn : n < 10
    · exact ⟨48 + n, [], numL_lt hn, by omega, by omega, by omega⟩
    · obtain ⟨c, r, h1, h2, h3⟩ := ih (n / 10) (by omega) (by omega)
      exact ⟨c, r ++ [48 + n % 10], by rw [numL_step (by omega), h1]; rfl, h2, h3⟩
theorem int_W {i : Int} (h : (dg i).length ≤ 600) : PySem.intText? (Wi i) = some i := by
  have e := tl_W i
  have hl : (Wi i).length ≤ 600 := by rw [len_tl, e]; exact h
  unfold dg at e
  by_cases h0 : 0 ≤ i
  · rw [if_pos h0] at e
    have q := intText_digits (x := Wi i) (by rw [show (Wi i).cps.toList = numL i.toNat from e]; exact numL_digits _) (by rw [show (Wi i).cps.toList = numL i.toNat from e]; exact numL_ne _) (by omega)
    rw [show (Wi i).cps.toList = numL i.toNat from e, numL_val] at q
    rw [q]
    congr 1
    omega
  · rw [if_neg h0] at e
    rw [intText_neg (cs := numL (-i).toNat) e (numL_digits _) (numL_ne _) (by omega), numL_val]
    congr 1
    omega
theorem rmp_W (i : Int) : tl (Txt.removeprefix (Wi i) "-") = numL i.natAbs := by
  have e := tl_W i
  have es : PySem.Builtin.Str.subAt (Wi i) "-" 0 = decide (i < 0) := by
    rw [PySem.StrLaws.subAt_eq, List.drop_zero]
    rw [show (Wi i).cps.toList = dg i from e, show (Str.ofString "-").cps.toList = [45] from by decide +kernel, show (Str.ofString "-").length = 1 from by decide +kernel]
    unfold dg
    by_cases h0 : 0 ≤ i
    · rw [if_pos h0, decide_eq_false (by omega)]
      have hd := numL_digits i.toNat
      have hn := numL_ne i.toNat
      cases q : numL i.toNat with
      | nil => exact absurd q hn
      | cons c r =>
        rw [q] at hd
        have := hd c List.mem_cons_self
        show ([c] == [45]) = false
        simp
        omega
    · rw [if_neg h0, decide_eq_true (by omega)]
      rfl
  unfold Txt.removeprefix
  rw [es]
  by_cases h0 : 0 ≤ i
  · rw [decide_eq_false (by omega)]
    show tl (Wi i) = _
    rw [e]
    unfold dg
    rw [if_pos h0]
    congr 1
    omega
  · rw [decide_eq_true (by omega), if_pos rfl]
    unfold Txt.affix
    have hl : (Wi i).length = (dg i).length := by rw [len_tl, e]
    have hd : dg i = 45 :: numL (-i).toNat := if_neg h0
    have h1 : (Str.ofString "-").length = 1 := by decide +kernel
    rw [h1]
    dsimp only
    have hne : ¬ ((Wi i).length - 1 == (Wi i).length) = true := by
      rw [hl, hd]
      simp
    rw [if_neg hne, tl_strSub_end, e, hd]
    show numL (-i).toNat = _
    congr 1
    omega
theorem eqS {s : Sto} {a b : Str} : eqD s (.str a) (.str b) = some (.bl (decide (a = b))) := eq_ss
theorem numL_len2 {n k : Nat} (hk : 0 < k) (h : n < 10 ^ k) : 1 ≤ (numL n).length ∧ (numL n).length ≤ k := ⟨by
  have := numL_ne n
  cases q : numL n with
  | nil => exact absurd q this
  | cons a b => simp, numL_len hk h⟩
theorem dg_len {i : Int} {k : Nat} (hk : 0 < k) (h : i.natAbs < 10 ^ k) : (dg i).length ≤ k + 1 := by
  unfold dg
  split
  · have := numL_len hk (n := i.toNat) (by omega)
    omega
  · have := numL_len hk (n := (-i).toNat) (by omega)
    simp only [List.length_cons]
    omega
/-! ### repr of texts -/
theorem str_ok {x : Str} (hc : ∀ c ∈ tl x, c < 128) : PyData.strOk x = true := by
  unfold PyData.strOk
  rw [← Array.all_toList, List.all_eq_true]
  intro c h
  exact decide_eq_true (Nat.lt_trans (hc c h) (by decide))
theorem pl_text {x : Str} (hc : ∀ c ∈ tl x, c < 128) (hl : x.length ≤ 190000) : Pl (x.length / 100 + 1) 0 (.str x) (.str x) where
  to := rfl
  lay := by simp only [PyData.canLay0]; exact str_ok hc
  shw := by simp only [PyData.showable]
  nod := by simp only [PyData.hasDict]
  deep := by simp only [PyData.depth]; exact Nat.le_refl _
  len := by
    have := PySem.StrLaws.reprText_len x fun c h => Nat.lt_trans (hc c h) (by decide)
    simp only [PyData.shown]
    omega
end MP

set_option Elab.async false
set_option linter.all false
set_option maxRecDepth 100000
set_option maxHeartbeats 400000
/-! parts of texts, a text some times, a sign not in a text -/
namespace MP
open PySem PySem.Spec PyProof.Rows L2
section
variable {X : Cx} {Γ : Ct} {W : WX} {e : Expr} {f : FE} {pos p2 : Pos} {lo hi : Option Expr} {flo fhi : FO}
def slS : OS := fun _ x a b => match x with
  | .str z => if z.length ≤ 1000000 then some (.str (cutS z a b)) else none
  | _ => none
theorem me_slS (ha : ME X Γ W e f) (hl : MO X Γ W lo flo) (hh : MO X Γ W hi fhi) : ME X Γ W (.Subscript e (.Slice lo hi none p2) pos) (mSl slS f flo fhi) :=
  PE.imp (pe_slice sl_str ha hl hh) fun σ H Q ⟨μ, Z, ρ, s, hE, hR, q⟩ => eE hE hR q fun x s1 u H1 μ1 e1 hE1 R1 r1 q1 => oE hE1 R1 q1 fun l s2 H2 μ2 e2 hE2 R2 q2 => oE hE2 R2 q2 fun h s3 H3 μ3 e3 hE3 R3 q3 => by
    obtain ⟨w, hw, k⟩ := ofE q3
    unfold slS at hw
    split at hw
    · rename_i z
      split at hw
      · rename_i hz
        cases hw
        exact ⟨z, (r1.mono e2).mono e3, by rw [sizeLine_eq]; omega, k _ H3 .refl R3 rfl⟩
      · cases hw
    · cases hw
theorem op_mul_str : OpR X (binaryOp .Mult) (fun x y H Q => ∃ z n, x = .str z ∧ y = .int n ∧ MulOk z n ∧ Q (.str (Txt.mul z n)) H) := by
  intro pins s σ H x y v u Q I rx ry h
  obtain ⟨z, n, rfl, rfl, hz, q⟩ := h
  obtain ⟨t, rfl⟩ := rx
  obtain ⟨t', rfl⟩ := ry
  exact SB.mul hz fun t' tk => ⟨.str (Txt.mul z n), H, I.tok _, ⟨_, rfl⟩, q⟩
theorem mul_few {z : Str} {n : Int} (h0 : 0 ≤ n) (h4 : n ≤ 4) (hz : z.length ≤ 1000000) : MulOk z n := by
  have ht : ∀ k : Nat, k ≤ 4 → Builtin.Str.tooLong (z.length * k) = false := fun k hk => by
    refine decide_eq_false ?_
    rw [sizeLine_eq]
    have : z.length * k ≤ 1000000 * 4 := Nat.mul_le_mul hz hk
    omega
  obtain rfl | rfl | rfl | rfl | rfl : n = 0 ∨ n = 1 ∨ n = 2 ∨ n = 3 ∨ n = 4 := by omega
  all_goals exact ⟨by decide, fun _ _ => by omega, fun _ _ => ht _ (by first | exact (by decide : (0 : Int).toNat ≤ 4) | exact (by decide : (1 : Int).toNat ≤ 4) | exact (by decide : (2 : Int).toNat ≤ 4) | exact (by decide : (3 : Int).toNat ≤ 4) | exact (by decide : (4 : Int).toNat ≤ 4))⟩
def mulS : O2 := fun _ x y => match x, y with
  | .str z, .int n => if 0 ≤ n ∧ n ≤ 4 ∧ z.length ≤ 1000000 then some (.str (Txt.mul z n)) else none
  | _, _ => none
theorem sMulS : Op2 Γ (fun x y H Q => ∃ z n, x = .str z ∧ y = .int n ∧ MulOk z n ∧ Q (.str (Txt.mul z n)) H) mulS := fun H μ Z s x y w u v Q hR r1 r2 e k => by
  unfold mulS at e
  split at e
  · rename_i z n
    split at e
    · rename_i hc
      cases e
      exact ⟨z, n, r1, r2, mul_few hc.1 hc.2.1 hc.2.2, k _ H .refl hR rfl⟩
    · cases e
  · cases e
def ninD : O2 := fun _ x y => match x, y with
  | .str a, .str z => match a.cps.toList with
    | [c] => some (.bl (!decide (c ∈ z.cps.toList)))
    | _ => none
  | _, _ => none
theorem sNinS : Op2 Γ (fun x y H Q => ∃ (c : Nat) (z : Str), x = .str ⟨#[c]⟩ ∧ y = .str z ∧ Q (.bl (!decide (c ∈ z.cps.toList))) H) ninD := fun H μ Z s x y w u v Q hR r1 r2 e k => by
  unfold ninD at e
  split at e
  · rename_i a z
    split at e
    · rename_i c q
      cases e
      have ea : a = ⟨#[c]⟩ := by
        cases a with
        | mk cs =>
          congr 1
          exact Array.toList_inj.mp q
      subst ea
      exact ⟨c, z, r1, r2, k _ H .refl hR rfl⟩
    · cases e
  · cases e
/-! ### three names at once -/
def mPar3 (i j l : Nat) (fa : FA) : FS := fun ρ s => (fa ρ s).thenC ρ fun ws s1 => match ws with
  | [v, w, u] => .nx (((ρ.set i (some v)).set j (some w)).set l (some u)) s1
  | _ => .no
variable {x y z : Str} {i j l : Nat} {a b c : Expr}
theorem ms_par3 {px py pz pt : Pos} {kt k2 pt2} {fa : FA} (hc : X.calm = true) (hN : X.N.Nodup) (hi : X.N[i]? = some x) (hj : X.N[j]? = some y) (hl : X.N[l]? = some z) (hij : i ≠ j ∧ i ≠ l ∧ j ≠ l)
    (hx : X.env.scope.names.lookup x = some .local) (hy : X.env.scope.names.lookup y = some .local) (hz : X.env.scope.names.lookup z = some .local) (ha : MA X Γ W [a, b, c] fa)
    (hw : swappedStores [.Tuple [.Name x px, .Name y py, .Name z pz] kt pt] (.Tuple [a, b, c] k2 pt2) X.env = pure (some [x, y, z]))
    (hs : swapsWithSole [.Tuple [.Name x px, .Name y py, .Name z pz] kt pt] (.Tuple [a, b, c] k2 pt2) pos.line X.env = pure false := by rfl) :
    MS X Γ W (.Assign [.Tuple [.Name x px, .Name y py, .Name z pz] kt pt] (.Tuple [a, b, c] k2 pt2) pos) (mPar3 i j l fa) :=
  PS.imp (ps_par3 hc hN hi hj hl hij.1 hij.2.1 hij.2.2 hx hy hz ha hw hs) fun D σ H ⟨μ, Z, ρ, s, hE, hR, q⟩ => aS hE hR q fun ws s1 vs H1 μ1 ev E1 R1 r1 q1 => by
    match ws, q1, r1 with
    | [v, w, u], q1, r1 =>
      obtain ⟨x1, xs, rfl, ra, rb⟩ := r1
      obtain ⟨x2, xs, rfl, rb, rc⟩ := rb
      obtain ⟨x3, xs, rfl, rc, rfl⟩ := rc
      exact ⟨x1, x2, x3, rfl, q1 _ H1 μ1 .refl R1 (((E1.set i ra).set j rb).set l rc)⟩
    | [], q1, _ => exact q1.elim
    | [_], q1, _ => exact q1.elim
    | [_, _], q1, _ => exact q1.elim
    | _ :: _ :: _ :: _ :: _, q1, _ => exact q1.elim
end
end MP

set_option Elab.async false
set_option linter.all false
set_option maxRecDepth 100000
set_option maxHeartbeats 4000000
/-! comprehensions whose item may raise (within a def's own suite) -/
namespace MP
open PySem PySem.Spec PyProof.Rows L2
open Sem (wp)
/-! ### an exception that a call let out -/
def XF (X : Cx) (W : WX) (u : Value) (s' : Shared) : Prop :=
  ∃ (a : Addr) (B : Heap) (sI : Shared) (pins : List (Addr × Obj)) (σ : L2.St) (H : Hp) (cls : Value) (d : Option Addr),
    u = .ref a ∧ Inv X pins σ H sI ∧ (∀ b o, sI.heap.get? b = some o → b ∉ frs X.stack → B.get? b = some o) ∧ sI.heap.UpToSlots s'.heap ∧
      HandSPX.FlyingZ B X.stack a (Zc cls d) s'.heap ∧ H a = none ∧ s'.os = sI.os ∧ AllBare s'.gens ∧ W cls d σ H
def TakesF (X : Cx) (W : WX) : Prop := ∀ u s', XF X W u s' → X.xe u s'
section
variable {X : Cx} {pins : List (Addr × Obj)} {σ : L2.St} {H : Hp} {sI s s' : Shared} {B : Heap} {W : WX} {E : XK}
theorem XF.of_call (I : Inv X pins σ H s) (hW : ∀ cls d H', E cls d H' → W cls d σ H') {u : Value} (c : L2.CX X.prog X.w X.stack H s E u s') : XF X W u s' := by
  obtain ⟨a, B, H', cls, d, rfl, fl, hok, ub, na, os, ag, hE⟩ := c
  obtain ⟨G, g1, g2⟩ := restrict s'.heap fun b => (B.get? b).isSome || decide (b ∈ frs X.stack)
  have st : B.StaysIn s'.heap := fl.1
  have gB : ∀ b o, B.get? b = some o → G.get? b = some o := fun b o e => by
    rw [g1 b (by simp [e])]
    exact st b o e
  have gF : ∀ b, b ∈ frs X.stack → G.get? b = s'.heap.get? b := fun b hb => g1 b (by simp [hb])
  have og : ∀ b o, G.get? b = some o → s'.heap.get? b = some o ∧ ((B.get? b).isSome = true ∨ b ∈ frs X.stack) := fun b o e => by
    cases q : ((B.get? b).isSome || decide (b ∈ frs X.stack)) with
    | false => rw [g2 b q] at e; cases e
    | true =>
      rw [g1 b q] at e
      exact ⟨e, by simpa [Bool.or_eq_true] using q⟩
  refine ⟨a, B, { s with heap := G, gens := s'.gens, drawn := s'.drawn, toks := s'.toks }, pins, σ, H', cls, d, rfl, ?_, fun b o e hb => ?_, Heap.UpToSlots.of_keeps fun b o e => (og b o e).1, fl, na, os, ag, hW _ _ _ hE⟩
  · refine I.call (ch := []) ⟨fun b o e n hb _ => gB b o (ub.keep b o e n hb), fun b o e n hb _ => ?_, fun b o e n _ => ub.free b o e n, fun b o e _ => ?_, ub.tups, ub.frzs, ub.tbls⟩ (hok.kept gB) ag (fun _ z => nomatch z)
    · obtain ⟨sl, q⟩ := ub.slot b o e hb
      exact ⟨sl, by rw [gF b hb]; exact q⟩
    · by_cases hb : b ∈ frs X.stack
      · obtain ⟨sl, q⟩ := ub.slot b o e hb
        exact ⟨_, by rw [gF b hb]; exact q⟩
      · obtain ⟨o', q⟩ := ub.there b o e hb
        exact ⟨o', gB b o' q⟩
  · obtain ⟨e', h⟩ := og b o e
    rcases h with h | h
    · obtain ⟨o', q⟩ := Option.isSome_iff_exists.mp h
      have z := st b o' q
      rw [e'] at z; cases z
      exact q
    · exact absurd h hb
end
/-! ### the call of a def, the exception taken so -/
section
variable {X : Cx} {Γ : Ct} {W : WX} {k : Nat} {f : Addr} {fd : FuncData} {ps : List Str} {den : Fn} {x : Str} {p pos : Pos} {e : Expr} {es : List Expr} {fa : FA}
theorem run_GF {pins : List (Addr × Obj)} {σ : L2.St} {H : Hp} {s : Shared} {Q : VK} {us : List Value} {vs : List V} (F : FnG X.prog X.w X.mg X.base Γ k f fd ps den) (hK : Γ.K = X.K) (hr : Room k X.A) (hg : X.A.guards = some []) (hb : Binds X.K fd ps []) (tk : TakesF X W)
    (I : Inv X pins σ H s) (r : Vals vs us) (h : spM Γ ps den (vs ++ []) H Q (WE W σ)) : wpAny (model X.prog X.w) X.A (call (.ref f) us) (EP X pins σ Q) X.xe s := by
  have r2 : Vals (vs ++ []) (us ++ []) := r.append .nil
  have hl : (us ++ []).length = ps.length := r2.length.symm.trans h.1
  refine wpAny_call (codeAny_mono (F.run X.A X.stack s H ⟨us, []⟩ (us ++ []) (vs ++ []) Q (WE W σ) hr hg (by rw [hK]; exact I.env0) (hb s us I.kIn hl) r2 h) fun r' s' hq => ?_)
  cases r' with
  | error e => exact tk e s' (XF.of_call I (fun _ _ _ h => h) hq)
  | ok fl =>
    cases fl with
    | ret u => exact I.after hq
    | next => exact hq.elim
    | brk => exact hq.elim
    | cont => exact hq.elim
theorem me_calF (C : Cal X.prog X.w X.mg X.base Γ k x ps den) (hK : Γ.K = X.K) (hr : Room k X.A) (hg : X.A.guards = some []) (tk : TakesF X W) (hgl : Gl X x) (ha : MA X Γ W (e :: es) fa) (n : Nat) (hl : FA.Len fa n) (hn : n = ps.length) (hnl : (e :: es).length = n) (hdb : (x == ("__debug__" : Str)) = false := by decide)
    (he : starEach (e :: es) X.env = (false, eval e X.env) :: starEach es X.env := by rfl) (hpl : (backTo pos (starEach es X.env)).any (·.1) = false := by rfl) :
    ME X Γ W (.Call (.Name x p) (e :: es) [] pos) (mCall den fa) := by
  obtain ⟨f, fd, F, hm, hk, hb⟩ := C
  refine ⟨fun pins s σ H Q I ⟨μ, Z, ρ, s0, hE, hR, q⟩ => ?_⟩
  refine wpAny_Call_Name_kw (ld_glob I hgl hm ?_ hdb)
  have q' : rdA Γ W fa σ H fun vs H1 => spM Γ ps den (vs ++ []) H1 Q (WE W σ) := by
    refine ⟨μ, Z, ρ, s0, hE, hR, ?_⟩
    unfold mCall at q
    cases e1 : fa ρ s0 with
    | ok ws s1 =>
      rw [e1] at q
      have q2 : PostE Γ W H μ Z σ Q (den ws s1) := q
      intro vs H1 μ1 ev R1 r1
      refine ⟨?_, μ1, Z, s1, ws, R1, by rw [List.append_nil]; exact r1, post_call (PostE.evo ev q2)⟩
      rw [List.append_nil, r1.len, hl _ _ _ _ e1, hn]
    | er x1 s1 => rw [e1] at q; exact q
    | no => rw [e1] at q; exact q
  refine PySem.W.callWith_K (h₀ := X.base) I.ok.mod.kin (hK ▸ hk) (thn (ha.run pos pins s σ H _ I q') fun us s1 ⟨vs, H1, I1, r, z⟩ => ⟨I1.kIn, ?_⟩) he hpl
  exact run_GF F hK hr hg (hK ▸ hb) tk I1 r z
end
/-! ### the block -/
abbrev blkX (X : Cx) (s : Shared) (H : Hp) (scope : Scope) (cenv : PySem.Env) (fp : List Addr) (xe : Value → Shared → Prop) : Cx := { X.blk s H scope cenv fp with xe := xe }
theorem Inv.xe' {X : Cx} {pins : List (Addr × Obj)} {σ : L2.St} {H : Hp} {s : Shared} (I : Inv X pins σ H s) (xe : Value → Shared → Prop) : Inv { X with xe := xe } pins σ H s := by
  cases I with
  | mk ok =>
    refine ⟨?_, ?_, ?_, ?_, ?_, ?_, ?_, ?_, ?_, ?_, ?_⟩ <;> first | assumption | skip
    cases ok
    constructor <;> assumption
section
variable {M : Model} {A : Around} {E : Value → Shared → Prop} {s : Shared} {env : PySem.Env}
def cpX (M : Model) (A : Around) (E : Value → Shared → Prop) (Q : Value → Shared → Prop) (acc : Value) (cenv : PySem.Env) (r : Result) (s' : Shared) : Prop :=
  match r with
  | .ok _ => ∃ m, s'.heap.Ns cenv.locals m ∧ ∀ h', Heap.SameBut cenv.locals s'.heap h' → Q acc { s' with heap := h' }
  | .error x => ∃ m, s'.heap.Ns cenv.locals m ∧ ∀ h', Heap.SameBut cenv.locals s'.heap h' → wpAny M A (PySem.passOn "comprehension.variables-let-go" x cenv : Sem Value) (fun _ _ => False) E { s' with heap := h' }
theorem comp_freeX {e : Expr} {scope : Scope} {pos : Pos} {newAcc first : Sem Value} {g : Comprehension} {gs : List Comprehension} {cl : List (Str × Addr)}
    {Q : Value → Shared → Prop}
    (hcl : clausesOf e = g :: gs) (hs : ∀ x, foldedSetIterable g.iter env x = pure x) (hclos : closureFor scope env = pure cl)
    (hkind : scope.kind = .function) (hnames : ∀ x ∈ scope.names, x.2 = .local → scope.names.lookup x.1 = some .local)
    (h : wpAny M A first (fun x s₁ => wpAny M A (pyIter x) (fun it s₂ => wpAny M A newAcc (fun acc s₃ =>
      wpAny M A (newFunctionEnv scope env.globals cl [] env.qual none .none (some env)) (fun cenv s₄ =>
        codeAny M A (.compStart e 0 it acc { cenv with scope := relabel scope env }) (cpX M A E Q acc { cenv with scope := relabel scope env }) s₄) E s₃) E s₂) E s₁) E s) :
    wpAny M A (comprehension e scope env pos newAcc false first none) Q E s := by
  unfold comprehension
  rw [hclos, hcl]
  refine wpAny_bind (wpAny_mono h (fun x s₁ h₁ => wpAny_bind (wpAny_standAt (wpAny_bind (wpAny_of_eq (hs x) (wpAny_bind (wpAny_holding (wpAny_mono h₁ (fun it s₂ h₂ =>
    wpAny_standIf (wpAny_bind (wpAny_mono h₂ (fun acc s₃ h₃ => wpAny_bind (wpAny_pure (wpAny_bind (wpAny_mono h₃ (fun cenv s₄ h₄ => ?_) fun _ _ h' => h')))) fun _ _ h' => h')))
      fun _ _ h' => h'))))))) fun _ _ h' => h')
  dsimp only
  have hv : ∀ x ∈ (scope.names.filter fun x => (x.2 == .local || x.2 == .cell) && x.1 != (".0" : Str)).reverse, x.2 = .local →
      Env.kindOf { cenv with scope := relabel scope env } x.1 = some .local := fun x hx hl => lookup_relabel_local (hnames x (List.mem_filter.mp (List.mem_reverse.mp hx)).1 hl)
  refine wpAny_holding (wpAny_bind (wpAny_attempt (wpAny_holding (wpAny_run (codeAny_mono h₄ fun r s' hr => ?_)))))
  cases r with
  | ok f =>
    obtain ⟨m, hn, hr⟩ := hr
    exact wpAny_bind (wpAny_holding (wpAny_comp_letGo (cenv := { cenv with scope := relabel scope env }) hkind _ s' m hv hn fun h' m' _ hs' => wpAny_pure (hr h' hs')))
  | error x =>
    obtain ⟨m, hn, hr⟩ := hr
    exact wpAny_bind (wpAny_holding (wpAny_comp_letGo (cenv := { cenv with scope := relabel scope env }) hkind _ s' m hv hn fun h' m' _ hs' => wpAny_mono (hr h' hs') (fun _ _ f => f.elim) fun _ _ y => y))
end
section
variable {X : Cx} {pins : List (Addr × Obj)} {σ : L2.St} {H3 : Hp} {s3 s' : Shared} {W : WX} {scope : Scope} {ce : PySem.Env} {fp : List Addr} {xe : Value → Shared → Prop} {Q : Value → Shared → Prop} {acc : Value}
/-- out of the block -/
theorem err_out (hst : X.stack = X.env :: X.outer) (hf : X.env.frame = some X.env.locals) (tk : Takes X W) (I3 : Inv X pins σ H3 s3) (f3 : ∀ b ∈ fp, FpOk X pins H3 b ∧ b < s3.heap.objs.size)
    (cL : ce.locals = s3.heap.objs.size) (cF : ce.frame = X.env.frame) {e : Value} (x : XF (blkX X s3 H3 scope ce fp xe) (fun c d _ H => W c d σ H) e s') :
    notedBy (model X.prog X.w) X.A ce (fun e s'' => cpX (model X.prog X.w) X.A X.xe Q acc ce (.error e) s'') e s' := by
  obtain ⟨a, B, sI, pins', σ', H', cls, d, rfl, II, nb, up, fl, na, os, ag, w⟩ := x
  have e1 : noteFrame (.ref a) ce = noteFrame (.ref a) X.env := by
    unfold noteFrame PySem.frameOf
    rw [cF]
  unfold notedBy
  rw [e1]
  have hfr : X.A.frames = some (X.env :: X.outer) := by rw [← hst]; exact I3.ok.frames
  have fl : HandSPX.FlyingZ B (X.env :: X.outer) a (Zc cls d) s'.heap := hst ▸ fl
  refine HandSPX.looks_onZ Zc.steady hfr hf fl fun h1 hh up1 => ?_
  obtain ⟨k1, k2, k3, k4⟩ := hh
  obtain ⟨m, hn, _⟩ := II.loc
  have hn : sI.heap.Ns ce.locals m := hn
  refine ⟨m, (up.trans up1).ns hn, fun h2 sb => ?_⟩
  -- the block's names are no frame
  have nfr : ce.locals ∉ frs X.stack := fun z => by
    obtain ⟨_, o, e, _⟩ := Heap.FunFrames.mem (II.ok.funs : s3.heap.FunFrames X.base X.stack) z
    have := Heap.lt_size e
    rw [cL] at this
    exact Nat.lt_irrefl _ this
  obtain ⟨oC, hoC⟩ : ∃ o, sI.heap.get? ce.locals = some o := by
    obtain ⟨o, _, _, h, _⟩ := id hn
    exact ⟨o, h⟩
  have bC : B.get? ce.locals = some oC := nb _ _ hoC nfr
  obtain ⟨B2, b1, b2⟩ := restrict B fun b => decide (b ≠ ce.locals)
  have b1 : ∀ b, b ≠ ce.locals → B2.get? b = B.get? b := fun b hb => b1 b (decide_eq_true hb)
  have b2 : B2.get? ce.locals = none := b2 _ (by simp)
  have inB : ∀ b o, B2.get? b = some o → b ≠ ce.locals ∧ B.get? b = some o := fun b o e => by
    by_cases z : b = ce.locals
    · rw [z, b2] at e; cases e
    · exact ⟨z, by rw [← b1 b z]; exact e⟩
  have ne_of : ∀ b, B.get? b = none → b ≠ ce.locals := fun b e z => by rw [z, bC] at e; cases e
  have st2 : B2.StaysIn h2 := fun b o e => by
    obtain ⟨z, e⟩ := inB b o e
    exact (sb.2 b z).trans (k1 b o e)
  obtain ⟨oe, vs, T, oT, ts, he, hz, hd, hv1, hnT, hTe, hT, hdT, h3⟩ := k4
  have na2 : a ≠ ce.locals := ne_of _ k2
  have nT2 : T ≠ ce.locals := ne_of _ hnT
  have tr2 : HandSPX.TracedZ h2 B2 a (Zc cls d) (rawInt X.env.locals) := ⟨oe, vs, T, oT, ts, (sb.2 a na2).trans he, hz, hd, hv1, by rw [b1 T nT2]; exact hnT, hTe, (sb.2 T nT2).trans hT, hdT, h3⟩
  have ff2 : h2.FunFrames B2 (X.env :: X.outer) := by
    have q : ∀ (l : List PySem.Env), (∀ b ∈ frs l, b ≠ ce.locals) → h1.FunFrames B l → h2.FunFrames B2 l := fun l => by
      induction l with
      | nil => intro _ _; trivial
      | cons env rest ih =>
        intro hne hl
        obtain ⟨z1, ⟨L, o, z2, z3, z4, z5⟩, z6⟩ := hl
        have hL : L ≠ ce.locals := hne L (List.mem_filterMap.mpr ⟨env, List.mem_cons_self, z2⟩)
        exact ⟨z1, ⟨L, o, z2, by rw [b1 L hL]; exact z3, (sb.2 L hL).trans z4, z5⟩, ih (fun b hb => hne b (by
          obtain ⟨v, m1, m2⟩ := List.mem_filterMap.mp hb
          exact List.mem_filterMap.mpr ⟨v, List.mem_cons_of_mem _ m1, m2⟩)) z6⟩
    exact q _ (fun b hb z => nfr (by rw [hst, ← z]; exact hb)) k3
  unfold PySem.passOn
  refine wpAny_bind (wpAny_field ((sb.2 a na2).trans he) hd hv1 ?_)
  rw [if_neg (show ¬ ((Value.ref T == Value.none) = true) from by simp)]
  refine wpAny_bind ?_
  rw [cF, hf]
  refine HandSPX.setFlight_anyZ (fr := some X.env.locals) st2 ff2 tr2 fun h4 g1 g2 g3 g4 => ?_
  refine wpAny_throw ?_
  refine tk _ _ ?_
  -- the state without the exception, without the block's names
  obtain ⟨G, q1, q2⟩ := restrict sI.heap fun b => decide (b ≠ ce.locals)
  have q1 : ∀ b, b ≠ ce.locals → G.get? b = sI.heap.get? b := fun b hb => q1 b (decide_eq_true hb)
  have q2 : G.get? ce.locals = none := q2 _ (by simp)
  have inG : ∀ b o, G.get? b = some o → b ≠ ce.locals ∧ sI.heap.get? b = some o := fun b o e => by
    by_cases z : b = ce.locals
    · rw [z, q2] at e; cases e
    · exact ⟨z, by rw [← q1 b z]; exact e⟩
  have IX : Inv X pins σ H' sI := I3.call' (ch := fp) II.os II.base II.hok II.bare fun b hb => ⟨(f3 b hb).1.2.2.2.1, (f3 b hb).1.2.1, (f3 b hb).1.2.2.2.2.1, (f3 b hb).1.2.2.2.2.2⟩
  have nC : H' ce.locals = none := II.free
  have fC : FpOk X pins H' ce.locals := I3.fpOk (by rw [cL]; exact Nat.le_refl _) nC
  obtain ⟨f0, f1, f2, f3', f4, f5⟩ := fC
  refine ⟨a, B2, { sI with heap := G, toks := sI.toks }, pins, σ, H', cls, d, rfl, IX.turned (t' := sI.toks) (fun b o hb e => (q1 b hb).trans e) f0 f1 f3' f4 f5, fun b o e hb => ?_, fun b o e hnf => ?_, .inr (.inr ⟨g1, by rw [b1 a na2]; exact k2, hst ▸ g2, g3⟩), na, os, ag, w⟩
  · obtain ⟨z, e⟩ := inG b o e
    rw [b1 b z]
    exact nb b o e hb
  · obtain ⟨z, e⟩ := inG b o e
    obtain ⟨sl, e2⟩ := (up.trans up1) b o e hnf
    exact g4 b _ ((sb.2 b z).trans e2) hnf |>.imp fun _ h => h
end
/-! ### the rule (its walk goes as HandS.Comp's, with a way out for the item's exception) -/
section
variable {X : Cx}
abbrev oX (E : XK) : WX := fun c d _ H => E c d H
/-- [elt for target in iter if ..], the item may raise -/
def tLcX (W : WX) (wi : TI) (g : TG) (tt : TT) (te : XK → TE) (vs : List Nat) : TE := fun σ H Q => tLc wi g tt (te fun c d H' => W c d σ H') vs σ H Q
theorem pe_lcX {elt tg iter : Expr} {ifs : List Expr} {scope : Scope} {own : List (Str × Nat)} {pos : Pos} {wi : TI} {g : TG} {tt : TT} {te : XK → TE} {W : WX} (hst : X.stack = X.env :: X.outer) (hf : X.env.frame = some X.env.locals) (tk : Takes X W)
    (hc : X.calm = true) (hN : X.N.Nodup) (hi : PI X tg iter wi) (ok : BlkOk X.N X.env.scope scope own)
    (hg : ∀ (s : Shared) (H : Hp) (C : Addr) (cl : List (Str × Addr)) (fp : List Addr) (xe : Value → Shared → Prop), PG (blkX X s H scope (compEnvC scope cl C X.env) fp xe) tg g)
    (ht : ∀ (s : Shared) (H : Hp) (C : Addr) (cl : List (Str × Addr)) (fp : List Addr) (xe : Value → Shared → Prop), PTs (blkX X s H scope (compEnvC scope cl C X.env) fp xe) ifs tt)
    (he : ∀ (s : Shared) (H : Hp) (C : Addr) (cl : List (Str × Addr)) (fp : List Addr) (xe : Value → Shared → Prop) (E : XK), TakesF (blkX X s H scope (compEnvC scope cl C X.env) fp xe) (oX E) → PE (blkX X s H scope (compEnvC scope cl C X.env) fp xe) elt (te E))
    (hs : ∀ x, foldedSetIterable iter X.env x = pure x := by intro _; rfl) :
    PE X (.ListComp elt [⟨tg, iter, ifs, 0⟩] scope pos) (tLcX W wi g tt te (own.map (·.2))) := by
  refine ⟨fun pins s σ H Q I h => ?_⟩
  rw [eval_ListComp]
  have free : ∀ y ∈ scope.names, y.2 = .free → ∃ c, X.env.cells.lookup y.1 = some c := fun y hy e => I.ok.has _ (ok.free y hy e)
  refine comp_freeX rfl hs (closure_ok free) ok.kind (fun y hy e => by rw [ok.uniq y hy, e]) (thn (hi.run pins s σ H _ I h) fun xv s1 hx => thn hx fun itv s2 ⟨it, fp, tn, J, H2, e, I2, T, st2, f2, q⟩ => ?_)
  subst e
  refine wpAny_newObj_type (newEnv_comp ?_) (by show 0 ≤ sizeLine; decide)
  generalize hD : s2.heap.objs.size = D
  have hDn : H2 D = none := I2.hok.fresh (Nat.le_of_eq hD)
  obtain ⟨Wn, ⟨m0, w0⟩, turn⟩ := q D hDn
  generalize hs3 : ({ s2 with heap := s2.heap.push { cls := .type "list", data := .seq ([] : List Value).toArray } } : Shared) = s3
  have h3 : s3.heap = s2.heap.push { cls := .type "list", data := .seq ([] : List Value).toArray } := by rw [← hs3]
  have I3 : Inv X pins σ (upd H2 D (.lst [])) s3 := by
    rw [← hs3]
    refine I2.laid (t' := s2.toks) (fun b o e => Heap.get?_push_of_some _ e) (Nat.le_of_eq hD) ⟨Nat.zero_le _, [], 0, .nil, ?_⟩
    rw [← hD]
    exact Heap.get?_push_size _ rfl
  have sz : ∀ b ∈ fp, b < s2.heap.objs.size := fun b hb => by
    obtain ⟨o, e, _⟩ := T.obj _ _ st2 b hb
    exact Heap.lt_size e
  have f3 : ∀ b ∈ fp, FpOk X pins (upd H2 D (.lst [])) b ∧ b < s3.heap.objs.size := fun b hb => by
    have hlt := sz b hb
    refine ⟨⟨?_, (f2 b hb).2⟩, by rw [h3, Heap.size_push]; exact Nat.lt_succ_of_lt hlt⟩
    rw [upd_ne (by rw [← hD]; exact Nat.ne_of_lt hlt)]
    exact (f2 b hb).1
  have st3 : tn 0 s3.heap := T.keep _ _ _ st2 fun b _ o e => by rw [h3]; exact Heap.get?_push_of_some _ e
  have I4 := block_start I3 ok hN f3
  show codeAny _ _ (.compStart (.ListComp elt [⟨tg, iter, ifs, 0⟩] scope pos) 0 (.ref it) (.ref D) (compEnvC scope (cellsFrom (s3.heap.objs.size + 1) scope.names (cloFrom X.env.cells scope.names [])) s3.heap.objs.size X.env))
    (cpX (model X.prog X.w) X.A X.xe (EP X pins σ Q) (.ref D) (compEnvC scope (cellsFrom (s3.heap.objs.size + 1) scope.names (cloFrom X.env.cells scope.names [])) s3.heap.objs.size X.env)) { s3 with heap := pushCells (s3.heap.push { cls := .type "dict", data := .dict #[] }) scope.names }
  have nfp : ∀ b ∈ fp, (upd H2 D (.lst [])) b = none := fun b hb => (f3 b hb).1.1
  generalize hH3 : upd H2 D (.lst []) = H3 at I3 I4 w0 nfp f3
  generalize hcl : cellsFrom (s3.heap.objs.size + 1) scope.names (cloFrom X.env.cells scope.names []) = cl at I4 ⊢
  -- the way out
  obtain ⟨xb, hxb⟩ : ∃ xb, xb = XF (blkX X s3 H3 scope (compEnvC scope cl s3.heap.objs.size X.env) fp fun _ _ => False) (fun c d _ H => W c d σ H) := ⟨_, rfl⟩
  have I4 := Inv.xe' I4 xb
  have pg := hg s3 H3 s3.heap.objs.size cl fp xb
  have pt := ht s3 H3 s3.heap.objs.size cl fp xb
  have pe := he s3 H3 s3.heap.objs.size cl fp xb (fun c d H' => W c d σ H') (fun u s' x => by
    rw [hxb]
    obtain ⟨a, B, sI, pins', σ', H', cls, d, x1, x2, x3⟩ := x
    exact ⟨a, B, sI, pins', σ', H', cls, d, x1, Inv.xe' x2 _, x3⟩)
  have out : ∀ e s', xb e s' → notedBy (model X.prog X.w) X.A (compEnvC scope cl s3.heap.objs.size X.env) (fun e s'' => cpX (model X.prog X.w) X.A X.xe (EP X pins σ Q) (.ref D) (compEnvC scope cl s3.heap.objs.size X.env) (.error e) s'') e s' := fun e s' x => by
    rw [hxb] at x
    exact err_out (ce := compEnvC scope cl s3.heap.objs.size X.env) hst hf tk I3 f3 rfl rfl x
  generalize hce : compEnvC scope cl s3.heap.objs.size X.env = ce at I4 pg pt pe out ⊢
  have cL : ce.locals = s3.heap.objs.size := by subst hce; rfl
  generalize hs4 : ({ s3 with heap := pushCells (s3.heap.push { cls := .type "dict", data := .dict #[] }) scope.names } : Shared) = s4 at I4 ⊢
  have st4 : tn 0 s4.heap := T.keep _ _ _ st3 fun b _ o e => by rw [← hs4]; exact pushCells_keeps _ _ _ _ (Heap.get?_push_of_some _ e)
  have stat : ∀ {σ' : L2.St} {H' : Hp} {s' : Shared}, Inv (blkX X s3 H3 scope ce fp xb) [] σ' H' s' → (∀ b ∈ fp, H' b = none) → ∀ b ∈ fp, FpOk (blkX X s3 H3 scope ce fp xb) [] H' b := fun {σ' H' s'} I' hn b hb =>
    ⟨hn b hb, (I'.ok.exf b hb).1, I'.ok.exfs b hb, .inl hb, fun x c e => (I'.ok.exf b hb).2 x c e, fun p hp => absurd (show p ∈ ([] : List (Addr × Obj)) ++ [] from hp) (by simp)⟩
  have loop : codeAny (model X.prog X.w) X.A (.compLoop (.ListComp elt [⟨tg, iter, ifs, 0⟩] scope pos) 0 (.ref it) (.ref D) ce) (cpX (model X.prog X.w) X.A X.xe (EP X pins σ Q) (.ref D) ce) s4 := by
    refine compLoop_any (fun n s' => ∃ i H', Inv (blkX X s3 H3 scope ce fp xb) [] (wipe σ (own.map (·.2))) H' s' ∧ tn i s'.heap ∧ (∀ b ∈ fp, H' b = none) ∧ Wn i n H') ?_ m0 ⟨0, H3, I4, st4, nfp, w0⟩
    rintro n s5 ⟨i, H5, I5, st5, n5, w5⟩
    rcases turn i n H5 w5 with ⟨stop, qq⟩ | ⟨go, Nx, hNx, step⟩
    · refine thnF (T.done (blkX X s3 H3 scope ce fp xb) rfl rfl rfl hc i [] s5 _ H5 (fun _ _ => False) I5 (stat I5 n5) st5 stop) fun r s6 ⟨hr, I6⟩ => ?_
      subst hr
      have I7 : Inv X pins σ H5 s6 := I3.call' (ch := fp) I6.os I6.base I6.hok I6.bare fun b hb => ⟨(f3 b hb).1.2.2.2.1, (f3 b hb).1.2.1, (f3 b hb).1.2.2.2.2.1, (f3 b hb).1.2.2.2.2.2⟩
      have nC : H5 ce.locals = none := I6.free
      obtain ⟨m, hn, _⟩ := I6.loc
      have hn : s6.heap.Ns ce.locals m := hn
      obtain ⟨f0, f1, f2, f3', f4, f5⟩ := I3.fpOk (H' := H5) (b := ce.locals) (by rw [cL]; exact Nat.le_refl _) nC
      exact ⟨m, hn, fun h'' sb => ⟨.ref D, H5, I7.turned (t' := s6.toks) (fun b o hb e => (sb.2 b hb).trans e) f0 f1 f3' f4 f5, rfl, qq⟩⟩
    · refine thnF (T.item (blkX X s3 H3 scope ce fp xb) rfl rfl rfl hc i [] s5 _ H5 (fun _ _ => False) I5 (stat I5 n5) st5 go) fun r s6 ⟨u, hr, h6⟩ => ?_
      subst hr
      refine thnF h6 fun _ s7 ⟨x, H7, I7, r7, y7, st7, n7⟩ => ?_
      have I7' := I7.pinned (stat I7 n7) (T.obj _ _ st7)
      refine wpAny_mono (pg.run _ s7 _ H7 x u _ I7' r7 (step x H7 y7)) (fun _ s8 ⟨σ8, H8, I8, hw8, q8⟩ => ?_) out
      refine wpAny_mono (pt.run _ s8 σ8 H8 _ I8 q8) (fun b s9 ⟨H9, I9, q9⟩ => ?_) out
      have fin : ∀ {s' : Shared} {H' : Hp}, Inv (blkX X s3 H3 scope ce fp xb) ([] ++ pinsAt fp s7.heap) σ8 H' s' → Nx H' → ∃ m, m < n ∧ ∃ i H', Inv (blkX X s3 H3 scope ce fp xb) [] (wipe σ (own.map (·.2))) H' s' ∧ tn i s'.heap ∧ (∀ b ∈ fp, H' b = none) ∧ Wn i m H' := fun {s' H'} I' nx => by
        obtain ⟨m', hm, w'⟩ := hNx H' nx
        have pin' : ∀ b ∈ fp, ∀ o, s7.heap.get? b = some o → s'.heap.get? b = some o ∧ H' b = none := fun b hb o e =>
          let z := I'.pin (b, o) (List.mem_append_right _ (List.mem_append_right _ (mem_pinsAt hb e)))
          ⟨z.1, z.2.1⟩
        have hl : (wipe σ (own.map (·.2))).length = σ8.length := by rw [← hw8, wipe_length]
        refine ⟨m', hm, i + 1, H', (I'.unpinned (pins := [])).weak hl (fun j v e => ?_), T.keep _ _ _ st7 fun b hb o e => (pin' b hb o e).1, fun b hb => ?_, w'⟩
        · rw [← hw8] at e
          exact (wipe_some e).1
        · obtain ⟨o, e, _⟩ := T.obj _ _ st7 b hb
          exact (pin' b hb o e).2
      cases b with
      | false =>
        simp only [Bool.false_eq_true, if_false] at q9 ⊢
        exact fin I9 q9
      | true =>
        simp only [if_true] at q9 ⊢
        refine wpAny_mono (pe.run _ s9 σ8 H9 _ I9 q9) (fun z s10 ⟨yv, H10, I10, r10, ac, hD10, hz10, nx⟩ => ?_) out
        exact app_ok (X := blkX X s3 H3 scope ce fp xb) I10 hD10 hz10 r10 fun s11 I11 => fin I11 nx
  exact codeAny_compStart_list loop (T.self X.A 0 _ _ _ st4 loop)
end
end MP

set_option Elab.async false
set_option linter.all false
set_option maxRecDepth 100000
set_option maxHeartbeats 4000000
/-! comprehensions whose item may raise, over plain data -/
namespace MP
open PySem PySem.Spec PyProof.Rows L2
section
noncomputable def compX (ow : Option (Nat × List Dv)) (vs : List Nat) (g : FG) (tt : FT) (elt : FE) (ρ : Env) : List Dv → Sto → R (List Dv)
  | [], s => if ow.isNone = true ∨ stB s ow = true then .ok [] s else .no
  | w :: ws, s => if ow.isNone = true ∨ stB s ow = true then match g w (wipeD ρ vs) s with
    | none => .no
    | some ρ1 => match tt ρ1 s with
      | .ok true s2 => match elt ρ1 s2 with
        | .ok y s3 => match compX ow vs g tt elt ρ ws s3 with
          | .ok r s4 => .ok (y :: r) s4
          | .er x s4 => .er x s4
          | .no => .no
        | .er x s3 => .er x s3
        | .no => .no
      | .ok false s2 => compX ow vs g tt elt ρ ws s2
      | _ => .no
    else .no
noncomputable def mCompX (f : FI) (vs : List Nat) (g : FG) (tt : FT) (elt : FE) : FE := fun ρ s => (f ρ s).bind fun r s1 => if r.ws.length ≤ lim then (match compX r.ow vs g tt elt ρ r.ws s1 with
  | .ok ws s2 => .ok (.lst ws) s2
  | .er x s2 => .er x s2
  | .no => .no) else .no
def preX (wa : List Dv) : R (List Dv) → R (List Dv)
  | .ok r s => .ok (wa ++ r) s
  | .er x s => .er x s
  | .no => .no
variable {X : Cx} {Γ : Ct} {W : WX}
theorem RX.weak {H : Hp} {μ : Mu} {Z Z' : Zs} {x : Ex} {c : Value} {d : Option Addr} (h : ∀ a, Z a → Z' a) (r : RX Γ H μ Z' x c d) : RX Γ H μ Z x c d := by
  obtain ⟨h1, dd, v, h2, h3, h4, h5⟩ := r
  exact ⟨h1, dd, v, h2, h3, h4.weak h, RV.weak h x.w h5⟩
theorem compX_ok {H1 : Hp} {μ1 : Mu} {Z : Zs} {σ : L2.St} {ρ : Env} {s1 : Sto} {g : TG} {fg : FG} {tt : FT} {elt : FE} {vs : List Nat} {ow : Option (Nat × List Dv)} {ws : List Dv} {tot : R (List Dv)} {J : It} {Qd : Hp → Prop} {D : Addr} {E : XK} (hg : GWk Γ g fg vs) (hE : RE Γ H1 μ1 Z ρ σ) (hR : Rep Γ H1 μ1 Z s1) (hw : Walks Γ Z H1 μ1 ow J ws) (hD : H1 D = none)
    (q : compX ow vs fg tt elt ρ ws s1 = tot) (hl : ws.length ≤ lim) (hno : tot ≠ .no)
    (fin : ∀ r s2 H μ acc, tot = .ok r s2 → Evo H1 μ1 H μ → Rep Γ H μ (hid D Z) s2 → H D = some (.lst acc) → RVs Γ H μ (hid D Z) r acc → Qd H)
    (err : ∀ x s2 cls d H μ, tot = .er x s2 → Evo H1 μ1 H μ → Rep Γ H μ (hid D Z) s2 → RX Γ H μ (hid D Z) x cls d → E cls d H) :
    ∃ Wn : Nat → Nat → Hp → Prop, (∃ m, Wn 0 m (upd H1 D (.lst []))) ∧ ∀ i m H, Wn i m H → (J.stop i H ∧ Qd H) ∨ (J.go i H ∧ ∃ Nx : Hp → Prop, (∀ H', Nx H' → ∃ m', m' < m ∧ Wn (i + 1) m' H') ∧
      ∀ x H', J.yld i H x H' → g x (L2.wipe σ vs) H' fun σ2 H2 => L2.wipe σ2 vs = L2.wipe σ vs ∧ rdT Γ W0 tt σ2 H2 fun b H3 =>
        if b = true then rdE Γ (oX E) elt σ2 H3 fun y H4 => ∃ acc, H4 D = some (.lst acc) ∧ acc.length < sizeLine ∧ Nx (upd H4 D (.lst (acc ++ [y]))) else Nx H3) := by
  let P : Nat → Hp → Prop := fun i H => ∃ μ s wa acc, Evo H1 μ1 H μ ∧ Rep Γ H μ (hid D Z) s ∧ H D = some (.lst acc) ∧ RVs Γ H μ (hid D Z) wa acc ∧ preX wa (compX ow vs fg tt elt ρ (ws.drop i) s) = tot ∧ wa.length ≤ i
  have pre0 : ∀ r : R (List Dv), preX [] r = r := fun r => by cases r <;> rfl
  have pre1 : ∀ (wa : List Dv) (y : Dv) (r : R (List Dv)), preX wa (match r with | .ok r s4 => .ok (y :: r) s4 | .er x s4 => .er x s4 | .no => .no) = preX (wa ++ [y]) r := fun wa y r => by
    cases r with
    | ok r s => simp [preX]
    | er x s => rfl
    | no => rfl
  refine ⟨fun i m H => m = ws.length - i ∧ i ≤ ws.length ∧ P i H, ⟨ws.length, by omega, Nat.zero_le _, μ1, s1, [], [], Evo.laid hD, hR.hide hD, upd_same, rfl, by rw [pre0]; exact q, Nat.zero_le _⟩, ?_⟩
  rintro i m H ⟨rfl, hi, μ, s, wa, acc, ev, R, hH, ra, qr, hwl⟩
  have hz : ∀ a, hid D Z a → Z a ∨ H1 a = none := fun a z => z.elim (fun e => .inr (e ▸ hD)) .inl
  have E1 : RE Γ H μ (hid D Z) ρ σ := ⟨hE.1, fun j w e => by
    obtain ⟨v, g1, g2⟩ := hE.2 j w e
    exact ⟨v, g1, (RV.strong hz w g2).mono ev⟩⟩
  by_cases hlt : i < ws.length
  · have hd : ws.drop i = ws[i] :: ws.drop (i + 1) := List.drop_eq_getElem_cons hlt
    rw [hd] at qr
    simp only [compX] at qr
    split at qr
    · rename_i hst
      obtain ⟨_, hgo⟩ := hw H μ (hid D Z) s ev.z R (fun a z => .inr z) hz (st_of hst)
      obtain ⟨h1, h2⟩ := hgo i ws[i] (List.getElem?_eq_getElem hlt)
      refine .inr ⟨h1, P (i + 1), fun H' p => ⟨_, by omega, rfl, hlt, p⟩, fun x H' hy => ?_⟩
      obtain ⟨e2, R2, r2⟩ := h2 x H' hy
      cases eg : fg ws[i] (wipeD ρ vs) s with
      | none => rw [eg] at qr; exact absurd qr.symm hno
      | some ρ2 =>
        rw [eg] at qr
        dsimp only at qr
        refine hg H' μ (hid D Z) (wipeD ρ vs) ρ2 s (L2.wipe σ vs) ws[i] x _ ((E1.mono e2).wipe vs) R2 r2 eg fun σ2 E2 hwp => ⟨hwp.trans (wipe_wipe σ vs), μ, hid D Z, ρ2, s, E2, R2, ?_⟩
        cases et : tt ρ2 s with
        | no => rw [et] at qr; exact absurd qr.symm hno
        | er x3 s3 => rw [et] at qr; exact absurd qr.symm hno
        | ok b s3 =>
          rw [et] at qr
          intro H3 μ3 e3 R3
          have hH3 : H3 D = some (.lst acc) := e3.keep _ _ (e2.keep _ _ hH fun n hn => R.notZ hn (.inl rfl)) fun n hn => R2.notZ hn (.inl rfl)
          have ra3 : RVs Γ H3 μ3 (hid D Z) wa acc := (ra.mono e2).mono e3
          cases b with
          | false =>
            rw [if_neg Bool.false_ne_true]
            exact ⟨μ3, s3, wa, acc, (ev.trans e2).trans e3, R3, hH3, ra3, qr, by omega⟩
          | true =>
            rw [if_pos rfl]
            dsimp only at qr
            refine ⟨μ3, hid D Z, ρ2, s3, E2.mono e3, R3, ?_⟩
            cases ee : elt ρ2 s3 with
            | no => rw [ee] at qr; exact absurd qr.symm hno
            | er x4 s4 =>
              rw [ee] at qr
              exact fun cls d H4 μ4 e4 R4 r4 => err x4 s4 cls d H4 μ4 qr.symm (((ev.trans e2).trans e3).trans e4) R4 r4
            | ok y s4 =>
              rw [ee] at qr
              dsimp only at qr
              rw [pre1] at qr
              intro v H4 μ4 e4 R4 r4
              have hH4 : H4 D = some (.lst acc) := e4.keep _ _ hH3 fun n hn => R3.notZ hn (.inl rfl)
              have hlen : acc.length < sizeLine := by
                have := ra.len
                exact lim_lt (by omega)
              exact ⟨acc, hH4, hlen, μ4, s4, wa ++ [y], acc ++ [v], (((ev.trans e2).trans e3).trans e4).hid hD, R4.updZ, upd_same, RVs.append (RVs.updZ wa (ra3.mono e4)) (RVs.cons (RV.updZ y r4) rfl), qr, by rw [List.length_append]; simp; omega⟩
    · exact absurd qr.symm hno
  · have he : i = ws.length := by omega
    subst he
    rw [List.drop_length] at qr
    simp only [compX] at qr
    split at qr
    · rename_i hst
      obtain ⟨hs, _⟩ := hw H μ (hid D Z) _ ev.z R (fun a z => .inr z) hz (st_of hst)
      refine .inl ⟨hs, fin wa s H μ acc ?_ ev R hH ra⟩
      rw [← qr]
      simp [preX]
    · exact absurd qr.symm hno
theorem me_compX {elt tg iter : Expr} {ifs : List Expr} {scope : Scope} {own : List (Str × Nat)} {pos : Pos} {f : FI} {g : TG} {fg : FG} {tt : FT} {fe : FE} (hst : X.stack = X.env :: X.outer) (hf : X.env.frame = some X.env.locals) (tk : Takes X W)
    (hc : X.calm = true) (hN : X.N.Nodup) (hi : MI X Γ W tg iter f) (ok : BlkOk X.N X.env.scope scope own)
    (hg : ∀ (s : Shared) (H : Hp) (C : Addr) (cl : List (Str × Addr)) (fp : List Addr) (xe : Value → Shared → Prop), PG (blkX X s H scope (compEnvC scope cl C X.env) fp xe) tg g) (hw : GWk Γ g fg (own.map (·.2)))
    (ht : ∀ (s : Shared) (H : Hp) (C : Addr) (cl : List (Str × Addr)) (fp : List Addr) (xe : Value → Shared → Prop), MTs (blkX X s H scope (compEnvC scope cl C X.env) fp xe) Γ ifs tt)
    (he : ∀ (s : Shared) (H : Hp) (C : Addr) (cl : List (Str × Addr)) (fp : List Addr) (xe : Value → Shared → Prop) (W : WX), TakesF (blkX X s H scope (compEnvC scope cl C X.env) fp xe) W → ME (blkX X s H scope (compEnvC scope cl C X.env) fp xe) Γ W elt fe) (hs : ∀ x, foldedSetIterable iter X.env x = pure x := by intro _; rfl) :
    ME X Γ W (.ListComp elt [⟨tg, iter, ifs, 0⟩] scope pos) (mCompX f (own.map (·.2)) fg tt fe) :=
  PE.imp (pe_lcX (te := fun E => rdE Γ (oX E) fe) hst hf tk hc hN hi ok hg ht (fun s H C cl fp xe E tk => he s H C cl fp xe _ tk) hs) fun σ H Q ⟨μ, Z, ρ, s, hE, hR, q⟩ => iE hE hR q fun r s1 J H1 μ1 e1 E1 R1 w1 q1 D hD => by
    split at q1
    · rename_i hl
      refine compX_ok hw E1 R1 w1 hD rfl hl (fun z => by rw [z] at q1; exact q1.elim) (fun tot s2 H2 μ2 acc e ev R2 hH ra => ?_) fun x s2 cls d H2 μ2 e ev R2 rx => ?_
      · rw [e] at q1
        exact fin_lst R1 hD ev R2 hH ra q1
      · rw [e] at q1
        exact q1 cls d H2 μ2 ev (R2.weak fun a z => .inr z) (rx.weak fun a z => .inr z)
    · exact q1.elim
end
end MP

set_option Elab.async false
set_option linter.all false
set_option maxRecDepth 100000
set_option maxHeartbeats 400000
/-! any text of signs below 128: its parts, its words read as ints -/
namespace MP
open PySem PySem.Spec PyProof.Rows L2 TL PySem.NumText
structure Tx (n : Nat) (x : Str) : Prop where
  low : ∀ c ∈ tl x, c < 128
  len : x.length ≤ n
theorem Tx.mono {n m : Nat} {x : Str} (h : Tx n x) (k : n ≤ m) : Tx m x := ⟨h.low, Nat.le_trans h.len k⟩
theorem spl1 {s : Nat} : ∀ (l acc : List Nat), spl [s] 0 acc l ≠ [] ∧ (spl [s] 0 acc l).length ≤ l.length + 1 ∧ ∀ p ∈ spl [s] 0 acc l, p.length ≤ acc.length + l.length ∧ ∀ c ∈ p, c ∈ acc ∨ c ∈ l
  | [], acc => ⟨by simp [spl], by simp [spl], fun p hp => by
      have : p = acc := by simpa [spl] using hp
      subst this
      exact ⟨Nat.le_refl _, fun c hc => .inl hc⟩⟩
  | c :: r, acc => by
    cases h : pre [s] (c :: r) with
    | true =>
      obtain ⟨h1, h2, h3⟩ := spl1 (s := s) r []
      rw [spl_hit h]
      refine ⟨by simp, by simp only [List.length_cons]; exact Nat.succ_le_succ h2, fun p hp => ?_⟩
      rcases List.mem_cons.mp hp with rfl | hp
      · exact ⟨Nat.le_add_right _ _, fun c hc => .inl hc⟩
      · obtain ⟨q1, q2⟩ := h3 p hp
        refine ⟨by simp only [List.length_cons, List.length_nil] at q1 ⊢; omega, fun d hd => .inr ?_⟩
        rcases q2 d hd with z | z
        · cases z
        · exact List.mem_cons_of_mem _ z
    | false =>
      obtain ⟨h1, h2, h3⟩ := spl1 (s := s) r (acc ++ [c])
      rw [spl_miss h]
      refine ⟨h1, by simp only [List.length_cons]; omega, fun p hp => ?_⟩
      obtain ⟨q1, q2⟩ := h3 p hp
      refine ⟨by simp only [List.length_cons, List.length_append, List.length_nil] at q1 ⊢; omega, fun d hd => ?_⟩
      rcases q2 d hd with z | z
      · rcases List.mem_append.mp z with z | z
        · exact .inl z
        · exact .inr (by rw [List.mem_singleton.mp z]; exact List.mem_cons_self)
      · exact .inr (List.mem_cons_of_mem _ z)
theorem split_tx {n s : Nat} {x y : Str} (ey : tl y = [s]) (hk : y.cps.all (· < 256) = true) (h : Tx n x) : Txt.split x y ≠ [] ∧ (Txt.split x y).length ≤ n + 1 ∧ ∀ w ∈ Txt.split x y, Tx n w := by
  have e := split_spl x y (by rw [ey]; simp) (kind_ok hk)
  rw [ey] at e
  obtain ⟨h1, h2, h3⟩ := spl1 (s := s) (tl x) []
  rw [← e] at h1 h2 h3
  have hl := h.len
  rw [len_tl] at hl
  refine ⟨fun z => h1 (by rw [z]; rfl), by rw [List.length_map] at h2; omega, fun w hw => ?_⟩
  obtain ⟨q1, q2⟩ := h3 (tl w) (List.mem_map.mpr ⟨w, hw, rfl⟩)
  refine ⟨fun c hc => ?_, by rw [len_tl]; simp only [List.length_nil] at q1; omega⟩
  rcases q2 c hc with z | z
  · cases z
  · exact h.low c z
theorem pls_strs : ∀ {xs : List Str}, (∀ x ∈ xs, Tx 190000 x) → ∃ n ds, Pls n 0 (xs.map Dv.str) ds
  | [], _ => ⟨_, _, pls_nil⟩
  | x :: xs, h => by
    obtain ⟨n, ds, q⟩ := pls_strs fun y hy => h y (List.mem_cons_of_mem _ hy)
    have hx := h x List.mem_cons_self
    exact ⟨_, _, pls_cons (pl_text hx.low hx.len) q⟩
theorem eq_strs_nil {s : Sto} {xs : List Str} (h : ∀ x ∈ xs, Tx 190000 x) : eqD s (.lst (xs.map .str)) (.lst []) = some (.bl (decide (xs = []))) := by
  obtain ⟨n, ds, q⟩ := pls_strs h
  rw [eq_l_nil (pl_lst q) (by decide)]
  congr 2
  simp
/-! ### a word as an int -/
def figL : List Nat → List Nat
  | 45 :: r => r
  | l => l
abbrev isDg (c : Nat) : Bool := decide (48 ≤ c ∧ c ≤ 57)
/-- is_number -/
def numB (k : Nat) (w : Str) : Bool := decide (1 ≤ (figL (tl w)).length) && decide ((figL (tl w)).length ≤ k) && (figL (tl w)).all isDg && (decide ((figL (tl w)).head? ≠ some 48) || decide (w = ("0" : Str)))
theorem sub_dash (w : Str) : PySem.Builtin.Str.subAt w "-" 0 = decide ((tl w).head? = some 45) := by
  rw [PySem.StrLaws.subAt_eq, List.drop_zero]
  rw [show w.cps.toList = tl w from rfl, show (Str.ofString "-").cps.toList = [45] from by decide +kernel, show (Str.ofString "-").length = 1 from by decide +kernel]
  cases tl w with
  | nil => decide
  | cons c r =>
    show ([c] == [45]) = _
    by_cases h : c = 45
    · subst h; rfl
    · rw [decide_eq_false (by simpa using h)]
      simpa using h
theorem figL_head {l : List Nat} (h : l.head? ≠ some 45) : figL l = l := by
  unfold figL
  split
  · exact absurd rfl h
  · rfl
theorem rmp_fig (w : Str) : tl (Txt.removeprefix w "-") = figL (tl w) := by
  unfold Txt.removeprefix
  rw [sub_dash]
  by_cases h : (tl w).head? = some 45
  · obtain ⟨r, hr⟩ : ∃ r, tl w = 45 :: r := by
      cases q : tl w with
      | nil => rw [q] at h; cases h
      | cons c r => rw [q] at h; injection h with h; exact ⟨r, by rw [h]⟩
    rw [decide_eq_true h, if_pos rfl]
    unfold Txt.affix
    rw [show (Str.ofString "-").length = 1 from by decide +kernel]
    dsimp only
    rw [if_neg (by rw [len_tl, hr]; simp), tl_strSub_end, hr]
    rfl
  · rw [decide_eq_false h, if_neg Bool.false_ne_true, figL_head h]
    rfl
theorem tl_cutS (z : Str) (a b : Option Int) : tl (cutS z a b) = ((tl z).drop (HT.sIx z.length 0 a)).take (HT.sIx z.length z.length b - HT.sIx z.length 0 a) := by
  show ((z.cps.toList.drop (HT.sIx z.length 0 a)).take (HT.sIx z.length z.length b - HT.sIx z.length 0 a)).toArray.toList = _
  rfl
theorem cutS_to (z : Str) (k : Nat) : tl (cutS z none (some (k : Int))) = (tl z).take k := by
  rw [tl_cutS, HT.sIx_nat, HT.sIx_none, List.drop_zero, Nat.sub_zero, len_tl]
  by_cases h : k ≤ (tl z).length
  · rw [Nat.min_eq_left h]
  · rw [Nat.min_eq_right (by omega), List.take_length, List.take_of_length_le (by omega)]
theorem cutS_from (z : Str) (k : Nat) : tl (cutS z (some (k : Int)) none) = (tl z).drop k := by
  rw [tl_cutS, HT.sIx_nat, HT.sIx_none, len_tl]
  by_cases h : k ≤ (tl z).length
  · rw [Nat.min_eq_left h]
    exact List.take_of_length_le (by rw [List.length_drop]; omega)
  · rw [Nat.min_eq_right (by omega), List.drop_length, List.drop_of_length_le (by omega)]
    simp
theorem str_inj {a b : Str} (h : tl a = tl b) : a = b := by
  cases a with
  | mk x =>
    cases b with
    | mk y =>
      congr 1
      exact Array.toList_inj.mp h
/-- the int of a word that passes -/
def vl (w : Str) : Int := (PySem.intText? w).getD 0
theorem digs_val {l : List Nat} (h : ∀ c ∈ l, 48 ≤ c ∧ c ≤ 57) : digitsVal l < 10 ^ l.length := by
  have key : ∀ (l : List Nat) (a : Nat), (∀ c ∈ l, 48 ≤ c ∧ c ≤ 57) → l.foldl (fun acc c => acc * 10 + (c - 48)) a < (a + 1) * 10 ^ l.length := fun l => by
    induction l with
    | nil => intro a _; simp
    | cons c r ih =>
      intro a h
      have hc := h c List.mem_cons_self
      have := ih (a * 10 + (c - 48)) fun d hd => h d (List.mem_cons_of_mem _ hd)
      rw [List.foldl_cons, List.length_cons, Nat.pow_succ]
      refine Nat.lt_of_lt_of_le this ?_
      rw [Nat.mul_comm (10 ^ r.length) 10, ← Nat.mul_assoc]
      exact Nat.mul_le_mul_right _ (by omega)
  have := key l 0 h
  rw [Nat.zero_add, Nat.one_mul] at this
  exact this
theorem vl_ok {k : Nat} {w : Str} (hk : k ≤ 100) (h : numB k w = true) : PySem.intText? w = some (vl w) ∧ (vl w).natAbs < 10 ^ k ∧ w.length ≤ k + 1 := by
  unfold numB at h
  simp only [Bool.and_eq_true, decide_eq_true_eq, List.all_eq_true] at h
  obtain ⟨⟨⟨h1, h2⟩, h3⟩, _⟩ := h
  have hp : ∀ j, j ≤ k → 10 ^ j ≤ 10 ^ k := fun j hj => Nat.pow_le_pow_right (by decide) hj
  by_cases hd : (tl w).head? = some 45
  · obtain ⟨r, hr⟩ : ∃ r, tl w = 45 :: r := by
      cases q : tl w with
      | nil => rw [q] at hd; cases hd
      | cons c r => rw [q] at hd; injection hd with hd; exact ⟨r, by rw [hd]⟩
    rw [hr] at h1 h2 h3
    have e : figL (45 :: r) = r := rfl
    rw [e] at h1 h2 h3
    have hne : r ≠ [] := fun z => by rw [z] at h1; simp at h1
    have hwl : w.length = r.length + 1 := by rw [len_tl, hr, List.length_cons]
    have q := intText_neg (x := w) (cs := r) hr h3 hne (by omega)
    have hv : vl w = -(digitsVal r : Int) := by unfold vl; rw [q]; rfl
    refine ⟨by rw [hv]; exact q, ?_, by rw [len_tl, hr, List.length_cons]; omega⟩
    rw [hv, Int.natAbs_neg, Int.natAbs_natCast]
    exact Nat.lt_of_lt_of_le (digs_val h3) (hp _ h2)
  · rw [figL_head hd] at h1 h2 h3
    have hne : tl w ≠ [] := fun z => by rw [z] at h1; simp at h1
    have q := intText_digits (x := w) h3 hne (by rw [len_tl]; omega)
    have hv : vl w = (digitsVal (tl w) : Int) := by unfold vl; rw [q]; rfl
    refine ⟨by rw [hv]; exact q, ?_, by rw [len_tl]; omega⟩
    rw [hv, Int.natAbs_natCast]
    exact Nat.lt_of_lt_of_le (digs_val h3) (hp _ h2)
end MP

set_option Elab.async false
set_option linter.all false
set_option maxRecDepth 100000
set_option maxHeartbeats 4000000
namespace MP.K20
open PySem PySem.Spec PyProof.Rows L2 MP
/-! ### the text -/
def topS (i : Nat) : Stmt := PySem.Challenge.pw_bestoflast_k20_texts_refused.main.body.getD i (.Pass ⟨0, 0, 0, 0⟩)
structure Ns (Γ : Ct) (mg : Str → Option Value) : Prop where
  n_all : mg "all" = none
  n_enumerate : mg "enumerate" = none
  n_int : mg "int" = none
  n_isinstance : mg "isinstance" = none
  n_len : mg "len" = none
  n_list : mg "list" = none
  n_min : mg "min" = none
  n_range : mg "range" = none
  n_repr : mg "repr" = none
  n_str : mg "str" = none
  n_tuple : mg "tuple" = none
  c_FIGURES : ∃ t, mg "FIGURES" = some (.str "0123456789" t)
  c_FIGURES_OF_A_BILL : ∃ t, mg "FIGURES_OF_A_BILL" = some (.int 3 t)
  c_FIGURES_OF_A_ROW : ∃ t, mg "FIGURES_OF_A_ROW" = some (.int 7 t)
  c_GREATEST_FACTOR : ∃ t, mg "GREATEST_FACTOR" = some (.int 50 t)
  c_GREATEST_RESULT : ∃ t, mg "GREATEST_RESULT" = some (.int 1000000 t)
  c_GREATEST_WEIGHT : ∃ t, mg "GREATEST_WEIGHT" = some (.int 20 t)
  c_MOST_RESULTS : ∃ t, mg "MOST_RESULTS" = some (.int 200 t)
  c_MOST_TERMS : ∃ t, mg "MOST_TERMS" = some (.int 2 t)
  c_MOST_WEIGHTS : ∃ t, mg "MOST_WEIGHTS" = some (.int 6 t)
  c_NO_RESULTS : ∃ t, mg "NO_RESULTS" = some (.str "none" t)
  k_ResultError : mg "ResultError" = some (.ref (Γ.cls 0))
  k_BadRule : mg "BadRule" = some (.ref (Γ.cls 1))
  k_BadRow : mg "BadRow" = some (.ref (Γ.cls 2))
  k_BadBill : mg "BadBill" = some (.ref (Γ.cls 3))
  k_BadNumber : mg "BadNumber" = some (.ref (Γ.cls 4))
  k_BadKind : mg "BadKind" = some (.ref (Γ.cls 5))
  k_BadPaper : mg "BadPaper" = some (.ref (Γ.cls 6))
  k_BadText : mg "BadText" = some (.ref (Γ.cls 7))
  k_Nothing : mg "Nothing" = some (.ref (Γ.cls 8))
  xi : XcI Γ
  f_line : XcF Γ "line"
  f_number : XcF Γ "number"
  f_part : XcF Γ "part"
  f_value : XcF Γ "value"
  ex : ∀ c, c < 9 → PySem.W.exmAny Γ.K (.ref (Γ.cls c)) [.ref (Γ.cls 0), .ref (Γ.cls 8)] = some true
  ex1 : ∀ c, c < 9 → ∀ j, j < 9 → PySem.W.exmOne Γ.K (.ref (Γ.cls c)) (.ref (Γ.cls j)) = some (under c j)
def mthS (s : Stmt) (j : Nat) : Stmt := match s with
  | .ClassDef _ _ _ b _ _ _ _ _ _ _ => b.getD j (.Pass ⟨0, 0, 0, 0⟩)
  | _ => .Pass ⟨0, 0, 0, 0⟩
abbrev sI_BadRule : Stmt := mthS (topS 2) 0
abbrev sI_BadRow : Stmt := mthS (topS 3) 0
abbrev sI_BadBill : Stmt := mthS (topS 4) 0
abbrev sI_BadText : Stmt := mthS (topS 8) 0
abbrev s_is_int : Stmt := topS 11
theorem sc_is_int : FnScope ["thing"] ["thing"] (defScope s_is_int) := ⟨rfl, rfl, rfl, by decide +kernel, rfl, by decide +kernel, by decide +kernel⟩
noncomputable def d_is_int : FS := (mRet (mAndV (mBlt isiA (mCons (mVar 0) (mCons (mK (.ty "int")) mNil))) (mAndV (mBin isntD (mVar 0) (mK (.bl true))) (mBin isntD (mVar 0) (mK (.bl false))))))
noncomputable def g_is_int : Fn := denOf 1 d_is_int
abbrev s_is_int_within : Stmt := topS 12
theorem sc_is_int_within : FnScope ["thing", "least", "most"] ["thing", "least", "most"] (defScope s_is_int_within) := ⟨rfl, rfl, rfl, by decide +kernel, rfl, by decide +kernel, by decide +kernel⟩
noncomputable def d_is_int_within : FS := (mRet (mAndV (mCall (g_is_int) (mCons (mVar 0) mNil)) (mChain leD leD (mVar 1) (mVar 0) (mVar 2))))
noncomputable def g_is_int_within : Fn := denOf 3 d_is_int_within
abbrev s_is_tuple : Stmt := topS 13
theorem sc_is_tuple : FnScope ["thing", "least", "most"] ["thing", "least", "most"] (defScope s_is_tuple) := ⟨rfl, rfl, rfl, by decide +kernel, rfl, by decide +kernel, by decide +kernel⟩
noncomputable def d_is_tuple : FS := (mRet (mAndV (mBlt isiA (mCons (mVar 0) (mCons (mK (.ty "tuple")) mNil))) (mChain leD leD (mVar 1) (mBlt lenD (mCons (mVar 0) mNil)) (mVar 2))))
noncomputable def g_is_tuple : Fn := denOf 3 d_is_tuple
abbrev s_first_outside : Stmt := topS 14
theorem sc_first_outside : FnScope ["things", "least", "most", "number", "thing"] ["things", "least", "most"] (defScope s_first_outside) := ⟨rfl, rfl, rfl, by decide +kernel, rfl, by decide +kernel, by decide +kernel⟩
noncomputable def F_first_outside_1 : FI := (iEnum1 (mCons (mVar 0) mNil))
noncomputable def t_first_outside_1 : FG := (gT 2 (gsC (gN 3) (gsC (gN 4) gs0)))
noncomputable def b_first_outside_1 : FS := (mIfS (mOr (mNot (mTest (mBlt isiA (mCons (mVar 4) (mCons (mK (.ty "int")) mNil))))) (mOr (mTest (mBin isD (mVar 4) (mK (.bl true)))) (mOr (mTest (mBin isD (mVar 4) (mK (.bl false)))) (mNot (mTest (mChain leD leD (mVar 1) (mVar 4) (mVar 2))))))) (mRet (mVar 3)) mNext)
noncomputable def d_first_outside : FS := (mSeq (mFor F_first_outside_1 t_first_outside_1 b_first_outside_1)
  (mRet (mK .non)))
noncomputable def g_first_outside : Fn := denOf 5 d_first_outside
abbrev s_need_rule : Stmt := topS 20
theorem sc_need_rule : FnScope ["thing", "number"] ["thing"] (defScope s_need_rule) := ⟨rfl, rfl, rfl, by decide +kernel, rfl, by decide +kernel, by decide +kernel⟩
noncomputable def d_need_rule : FS := (mSeq (mIfS (mNot (mTest (mCall (g_is_tuple) (mCons (mVar 0) (mCons (mK (.int 1)) (mCons (mK (.int 6)) mNil)))))) (mRaise 1 "number" (mK .non)) mNext)
  (mSeq (mAsg (mCall (g_first_outside) (mCons (mVar 0) (mCons (mUn negD (mK (.int 20))) (mCons (mK (.int 20)) mNil)))) (gN 1))
  (mSeq (mIfS (mTest (mBin isntD (mVar 1) (mK .non))) (mRaise 1 "number" (mVar 1)) mNext)
  (mRet (mVar 0)))))
noncomputable def g_need_rule : Fn := denOf 2 d_need_rule
abbrev s_is_rule : Stmt := topS 21
theorem sc_is_rule : FnScope ["thing"] ["thing"] (defScope s_is_rule) := ⟨rfl, rfl, rfl, by decide +kernel, rfl, by decide +kernel, by decide +kernel⟩
noncomputable def d_is_rule : FS := (mSeq (mTryOnly 1 (mExpr (mCall (g_need_rule) (mCons (mVar 0) mNil))) (mRet (mK (.bl false))))
  (mRet (mK (.bl true))))
noncomputable def g_is_rule : Fn := denOf 1 d_is_rule
abbrev s_need_row : Stmt := topS 22
theorem sc_need_row : FnScope ["thing", "number"] ["thing"] (defScope s_need_row) := ⟨rfl, rfl, rfl, by decide +kernel, rfl, by decide +kernel, by decide +kernel⟩
noncomputable def d_need_row : FS := (mSeq (mIfS (mNot (mTest (mCall (g_is_tuple) (mCons (mVar 0) (mCons (mK (.int 0)) (mCons (mK (.int 200)) mNil)))))) (mRaise 2 "number" (mK .non)) mNext)
  (mSeq (mAsg (mCall (g_first_outside) (mCons (mVar 0) (mCons (mK (.int 0)) (mCons (mK (.int 1000000)) mNil)))) (gN 1))
  (mSeq (mIfS (mTest (mBin isntD (mVar 1) (mK .non))) (mRaise 2 "number" (mVar 1)) mNext)
  (mRet (mVar 0)))))
noncomputable def g_need_row : Fn := denOf 2 d_need_row
abbrev s_is_factor : Stmt := topS 26
theorem sc_is_factor : FnScope ["thing"] ["thing"] (defScope s_is_factor) := ⟨rfl, rfl, rfl, by decide +kernel, rfl, by decide +kernel, by decide +kernel⟩
noncomputable def d_is_factor : FS := (mRet (mCall (g_is_int_within) (mCons (mVar 0) (mCons (mUn negD (mK (.int 50))) (mCons (mK (.int 50)) mNil)))))
noncomputable def g_is_factor : Fn := denOf 1 d_is_factor
abbrev s_is_term : Stmt := topS 27
theorem sc_is_term : FnScope ["thing", "rule", "ahead", "behind"] ["thing"] (defScope s_is_term) := ⟨rfl, rfl, rfl, by decide +kernel, rfl, by decide +kernel, by decide +kernel⟩
noncomputable def d_is_term : FS := (mSeq (mIfS (mNot (mTest (mCall (g_is_tuple) (mCons (mVar 0) (mCons (mK (.int 3)) (mCons (mK (.int 3)) mNil)))))) (mRet (mK (.bl false))) mNext)
  (mSeq (mAsg (mVar 0) (gT 3 (gsC (gN 1) (gsC (gN 2) (gsC (gN 3) gs0)))))
  (mRet (mAndV (mCall (g_is_rule) (mCons (mVar 1) mNil)) (mAndV (mCall (g_is_factor) (mCons (mVar 2) mNil)) (mCall (g_is_factor) (mCons (mVar 3) mNil)))))))
noncomputable def g_is_term : Fn := denOf 4 d_is_term
abbrev s_need_bill : Stmt := topS 28
theorem sc_need_bill : FnScope ["thing", "own", "terms", "number", "term"] ["thing"] (defScope s_need_bill) := ⟨rfl, rfl, rfl, by decide +kernel, rfl, by decide +kernel, by decide +kernel⟩
noncomputable def F_need_bill_1 : FI := (iEnum1 (mCons (mVar 2) mNil))
noncomputable def t_need_bill_1 : FG := (gT 2 (gsC (gN 3) (gsC (gN 4) gs0)))
noncomputable def b_need_bill_1 : FS := (mIfS (mNot (mTest (mCall (g_is_term) (mCons (mVar 4) mNil)))) (mRaise 3 "part" (mVar 3)) mNext)
noncomputable def d_need_bill : FS := (mSeq (mIfS (mNot (mTest (mCall (g_is_tuple) (mCons (mVar 0) (mCons (mK (.int 2)) (mCons (mK (.int 2)) mNil)))))) (mRaise 3 "part" (mK (.str "form"))) mNext)
  (mSeq (mAsg (mVar 0) (gT 2 (gsC (gN 1) (gsC (gN 2) gs0))))
  (mSeq (mIfS (mNot (mTest (mCall (g_is_factor) (mCons (mVar 1) mNil)))) (mRaise 3 "part" (mK (.str "own"))) mNext)
  (mSeq (mIfS (mNot (mTest (mCall (g_is_tuple) (mCons (mVar 2) (mCons (mK (.int 0)) (mCons (mK (.int 2)) mNil)))))) (mRaise 3 "part" (mK (.str "terms"))) mNext)
  (mSeq (mFor F_need_bill_1 t_need_bill_1 b_need_bill_1)
  (mRet (mVar 0)))))))
noncomputable def g_need_bill : Fn := denOf 5 d_need_bill
abbrev s_words_of : Stmt := topS 34
theorem sc_words_of : FnScope ["numbers", "number"] ["numbers"] (defScope s_words_of) := ⟨rfl, rfl, rfl, by decide +kernel, rfl, by decide +kernel, by decide +kernel⟩
noncomputable def cF_words_of_1 : FI := (iSeq (mVar 0))
noncomputable def ct_words_of_1 : FG := (gN 1)
noncomputable def ci_words_of_1 : FT := mYes
noncomputable def ce_words_of_1 : FE := (mBlt strD (mCons (mVar 1) mNil))
noncomputable def d_words_of : FS := (mRet (mStr1 jnD (mK (.str " ")) (mComp cF_words_of_1 [1] ct_words_of_1 ci_words_of_1 ce_words_of_1)))
noncomputable def g_words_of : Fn := denOf 2 d_words_of
abbrev s_bill_text : Stmt := topS 35
theorem sc_bill_text : FnScope ["bill", "own", "terms", "rows", "rule", "ahead", "behind"] ["bill"] (defScope s_bill_text) := ⟨rfl, rfl, rfl, by decide +kernel, rfl, by decide +kernel, by decide +kernel⟩
noncomputable def F_bill_text_1 : FI := (iSeq (mVar 2))
noncomputable def t_bill_text_1 : FG := (gT 3 (gsC (gN 4) (gsC (gN 5) (gsC (gN 6) gs0))))
noncomputable def b_bill_text_1 : FS := (mExpr (mApp (mVar 3) (mBin addD (mK (.str "term ")) (mCall (g_words_of) (mCons (mBin addD (mTup (mCons (mVar 5) (mCons (mVar 6) mNil))) (mVar 4)) mNil)))))
noncomputable def d_bill_text : FS := (mSeq (mAsg (mCall (g_need_bill) (mCons (mVar 0) mNil)) (gT 2 (gsC (gN 1) (gsC (gN 2) gs0))))
  (mSeq (mAsg (mLstM (mCons (mFmt2 "own " (mVar 1)) mNil)) (gN 3))
  (mSeq (mFor F_bill_text_1 t_bill_text_1 b_bill_text_1)
  (mRet (mStr1 jnD (mK (.str "
")) (mVar 3))))))
noncomputable def g_bill_text : Fn := denOf 7 d_bill_text
abbrev s_row_text : Stmt := topS 36
theorem sc_row_text : FnScope ["row"] ["row"] (defScope s_row_text) := ⟨rfl, rfl, rfl, by decide +kernel, rfl, by decide +kernel, by decide +kernel⟩
noncomputable def d_row_text : FS := (mSeq (mExpr (mCall (g_need_row) (mCons (mVar 0) mNil)))
  (mSeq (mIfS (mTest (mBin eqD (mBlt lenD (mCons (mVar 0) mNil)) (mK (.int 0)))) (mRet (mK (.str "none"))) mNext)
  (mRet (mCall (g_words_of) (mCons (mVar 0) mNil)))))
noncomputable def g_row_text : Fn := denOf 1 d_row_text
abbrev s_is_number : Stmt := topS 37
theorem sc_is_number : FnScope ["word", "most", "figures", "sign"] ["word", "most"] (defScope s_is_number) := ⟨rfl, rfl, rfl, by decide +kernel, rfl, by decide +kernel, by decide +kernel⟩
noncomputable def cF_is_number_1 : FI := (iStrD (mVar 2))
noncomputable def ct_is_number_1 : FG := (gN 3)
noncomputable def ci_is_number_1 : FT := mYes
noncomputable def ce_is_number_1 : FE := (mBin inD (mVar 3) (mK (.str "0123456789")))
noncomputable def d_is_number : FS := (mSeq (mAsg (mStr1 rpD (mVar 0) (mK (.str "-"))) (gN 2))
  (mSeq (mIfS (mOr (mNot (mTest (mChain leD leD (mK (.int 1)) (mBlt lenD (mCons (mVar 2) mNil)) (mVar 1)))) (mNot (mTest (mBlt allD (mCons (mComp cF_is_number_1 [3] ct_is_number_1 ci_is_number_1 ce_is_number_1) mNil))))) (mRet (mK (.bl false))) mNext)
  (mRet (mOrV (mBin neD (mBin ixS (mVar 2) (mK (.int 0))) (mK (.str "0"))) (mBin eqD (mVar 0) (mK (.str "0")))))))
noncomputable def g_is_number : Fn := denOf 4 d_is_number
abbrev s_are_numbers : Stmt := topS 38
theorem sc_are_numbers : FnScope ["words", "most", "word"] ["words", "most"] (defScope s_are_numbers) := ⟨rfl, rfl, rfl, by decide +kernel, rfl, by decide +kernel, by decide +kernel⟩
noncomputable def cF_are_numbers_1 : FI := (iSeq (mVar 0))
noncomputable def ct_are_numbers_1 : FG := (gN 2)
noncomputable def ci_are_numbers_1 : FT := mYes
noncomputable def ce_are_numbers_1 : FE := (mCall (g_is_number) (mCons (mVar 2) (mCons (mVar 1) mNil)))
noncomputable def d_are_numbers : FS := (mRet (mBlt allD (mCons (mComp cF_are_numbers_1 [2] ct_are_numbers_1 ci_are_numbers_1 ce_are_numbers_1) mNil)))
noncomputable def g_are_numbers : Fn := denOf 3 d_are_numbers
abbrev s_can_stand : Stmt := topS 39
theorem sc_can_stand : FnScope ["words", "number", "fits"] ["words", "number"] (defScope s_can_stand) := ⟨rfl, rfl, rfl, by decide +kernel, rfl, by decide +kernel, by decide +kernel⟩
noncomputable def d_can_stand : FS := (mSeq (mIfS (mTest (mBin gtD (mVar 1) (mBin addD (mK (.int 1)) (mK (.int 2))))) (mRet (mK (.bl false))) mNext)
  (mSeq (mIfS (mTest (mBin eqD (mVar 1) (mK (.int 1)))) (mAsg (mAndV (mBin eqD (mBin ixA (mVar 0) (mK (.int 0))) (mK (.str "own"))) (mBin eqD (mBlt lenD (mCons (mVar 0) mNil)) (mK (.int 2)))) (gN 2)) (mAsg (mAndV (mBin eqD (mBin ixA (mVar 0) (mK (.int 0))) (mK (.str "term"))) (mChain leD leD (mK (.int 3)) (mBin subD (mBlt lenD (mCons (mVar 0) mNil)) (mK (.int 1))) (mBin addD (mK (.int 2)) (mK (.int 6))))) (gN 2)))
  (mRet (mAndV (mVar 2) (mCall (g_are_numbers) (mCons (mSl slA (mVar 0) (mPart (mK (.int 1))) mNoPart) (mCons (mK (.int 3)) mNil)))))))
noncomputable def g_can_stand : Fn := denOf 3 d_can_stand
abbrev s_read_bill : Stmt := topS 40
theorem sc_read_bill : FnScope ["string", "rows", "number", "words", "numbers", "terms", "line", "word", "told"] ["string"] (defScope s_read_bill) := ⟨rfl, rfl, rfl, by decide +kernel, rfl, by decide +kernel, by decide +kernel⟩
noncomputable def cF_read_bill_1 : FI := (iSeq (mStr1 spD (mVar 0) (mK (.str "
"))))
noncomputable def ct_read_bill_1 : FG := (gN 6)
noncomputable def ci_read_bill_1 : FT := mYes
noncomputable def ce_read_bill_1 : FE := (mStr1 spD (mVar 6) (mK (.str " ")))
noncomputable def F_read_bill_1 : FI := (iEnumF 1 (mCons (mVar 1) mNil))
noncomputable def t_read_bill_1 : FG := (gT 2 (gsC (gN 2) (gsC (gN 3) gs0)))
noncomputable def b_read_bill_1 : FS := (mIfS (mNot (mTest (mCall (g_can_stand) (mCons (mVar 3) (mCons (mVar 2) mNil))))) (mRaise 7 "line" (mVar 2)) mNext)
noncomputable def cF_read_bill_2 : FI := (iSeq (mSl slA (mVar 3) (mPart (mK (.int 1))) mNoPart))
noncomputable def ct_read_bill_2 : FG := (gN 7)
noncomputable def ci_read_bill_2 : FT := mYes
noncomputable def ce_read_bill_2 : FE := (mBlt intA (mCons (mVar 7) mNil))
noncomputable def cF_read_bill_3 : FI := (iSeq (mVar 1))
noncomputable def ct_read_bill_3 : FG := (gN 3)
noncomputable def ci_read_bill_3 : FT := mYes
noncomputable def ce_read_bill_3 : FE := (mComp cF_read_bill_2 [7] ct_read_bill_2 ci_read_bill_2 ce_read_bill_2)
noncomputable def cF_read_bill_4 : FI := (iSeq (mSl slA (mVar 4) (mPart (mK (.int 1))) mNoPart))
noncomputable def ct_read_bill_4 : FG := (gN 8)
noncomputable def ci_read_bill_4 : FT := mYes
noncomputable def ce_read_bill_4 : FE := (mTup (mCons (mBlt tupleD (mCons (mSl slA (mVar 8) (mPart (mK (.int 2))) mNoPart) mNil)) (mCons (mBin ixA (mVar 8) (mK (.int 0))) (mCons (mBin ixA (mVar 8) (mK (.int 1))) mNil))))
noncomputable def d_read_bill : FS := (mSeq (mIfS (mNot (mTest (mBlt isiA (mCons (mVar 0) (mCons (mK (.ty "str")) mNil))))) (mRaise 7 "line" (mK (.int 0))) mNext)
  (mSeq (mAsg (mComp cF_read_bill_1 [6] ct_read_bill_1 ci_read_bill_1 ce_read_bill_1) (gN 1))
  (mSeq (mFor F_read_bill_1 t_read_bill_1 b_read_bill_1)
  (mSeq (mAsg (mComp cF_read_bill_3 [3] ct_read_bill_3 ci_read_bill_3 ce_read_bill_3) (gN 4))
  (mSeq (mAsg (mComp cF_read_bill_4 [8] ct_read_bill_4 ci_read_bill_4 ce_read_bill_4) (gN 5))
  (mRet (mCall (g_need_bill) (mCons (mTup (mCons (mBin ixA (mBin ixA (mVar 4) (mK (.int 0))) (mK (.int 0))) (mCons (mBlt tupleD (mCons (mVar 5) mNil)) mNil))) mNil))))))))
noncomputable def g_read_bill : Fn := denOf 9 d_read_bill
abbrev s_number_in_row : Stmt := topS 41
theorem sc_number_in_row : FnScope ["word"] ["word"] (defScope s_number_in_row) := ⟨rfl, rfl, rfl, by decide +kernel, rfl, by decide +kernel, by decide +kernel⟩
noncomputable def d_number_in_row : FS := (mSeq (mIfS (mNot (mTest (mCall (g_is_number) (mCons (mVar 0) (mCons (mK (.int 7)) mNil))))) (mRaise 7 "line" (mK (.int 1))) mNext)
  (mRet (mBlt intA (mCons (mVar 0) mNil))))
noncomputable def g_number_in_row : Fn := denOf 1 d_number_in_row
abbrev s_read_row : Stmt := topS 42
theorem sc_read_row : FnScope ["string", "word"] ["string"] (defScope s_read_row) := ⟨rfl, rfl, rfl, by decide +kernel, rfl, by decide +kernel, by decide +kernel⟩
noncomputable def cF_read_row_1 : FI := (iSeq (mStr1 spD (mVar 0) (mK (.str " "))))
noncomputable def ct_read_row_1 : FG := (gN 1)
noncomputable def ci_read_row_1 : FT := mYes
noncomputable def ce_read_row_1 : FE := (mCall (g_number_in_row) (mCons (mVar 1) mNil))
noncomputable def d_read_row : FS := (mSeq (mIfS (mNot (mTest (mBlt isiA (mCons (mVar 0) (mCons (mK (.ty "str")) mNil))))) (mRaise 7 "line" (mK (.int 0))) mNext)
  (mSeq (mIfS (mTest (mBin eqD (mVar 0) (mK (.str "none")))) (mRet (mTup mNil)) mNext)
  (mRet (mCall (g_need_row) (mCons (mBlt tupleD (mCons (mCompX cF_read_row_1 [1] ct_read_row_1 ci_read_row_1 ce_read_row_1) mNil)) mNil)))))
noncomputable def g_read_row : Fn := denOf 2 d_read_row
abbrev s__law_begun : Stmt := topS 44
theorem sc__law_begun : FnScope ["script", "great", "cell"] ["script"] (defScope s__law_begun) := ⟨rfl, rfl, rfl, by decide +kernel, rfl, by decide +kernel, by decide +kernel⟩
noncomputable def cF__law_begun_1 : FI := (iSeq (mVar 0))
noncomputable def ct__law_begun_1 : FG := (gN 2)
noncomputable def ci__law_begun_1 : FT := (mTest (mBin geD (mVar 2) (mBin powD (mK (.int 10)) (mK (.int 18)))))
noncomputable def ce__law_begun_1 : FE := (mVar 2)
noncomputable def d__law_begun : FS := (mSeq (mAsg (mComp cF__law_begun_1 [2] ct__law_begun_1 ci__law_begun_1 ce__law_begun_1) (gN 1))
  (mRet (mDctM [((mK (.str "cells")), (mBin addD (mBlt listD (mCons (mVar 0) mNil)) (mLst (mCons (mBlt lenD (mCons (mVar 0) mNil)) mNil)))), ((mK (.str "left")), (mIf (mTest (mBin neD (mVar 1) (mLst mNil))) (mBin ixA (mVar 1) (mK (.int 0))) (mK (.int 0)))), ((mK (.str "spot")), (mK (.int 0)))])))
noncomputable def g__law_begun : Fn := denOf 3 d__law_begun
abbrev s__law_draw : Stmt := topS 45
theorem sc__law_draw : FnScope ["m", "many", "found", "spot", "cell", "mixed"] ["m", "many"] (defScope s__law_draw) := ⟨rfl, rfl, rfl, by decide +kernel, rfl, by decide +kernel, by decide +kernel⟩
noncomputable def d__law_draw : FS := (mSeq (mIfS (mTest (mBin gtD (mBin ixA (mVar 0) (mK (.str "left"))) (mK (.int 0)))) (mSeq (mAsg (mBin modD (mBlt intD (mCons (mBin ixA (mVar 0) (mK (.str "left"))) mNil)) (mVar 1)) (gN 2))
  (mSeq (mDPut (mVar 0) (mK (.str "left")) (mBin divD (mBin ixA (mVar 0) (mK (.str "left"))) (mVar 1)))
  (mRet (mVar 2)))) mNext)
  (mSeq (mAsg (mBin addD (mBin ixA (mVar 0) (mK (.str "spot"))) (mK (.int 1))) (gN 3))
  (mSeq (mDPut (mVar 0) (mK (.str "spot")) (mVar 3))
  (mSeq (mAsg (mBin ixA (mBin ixA (mVar 0) (mK (.str "cells"))) (mBin modD (mBlt intD (mCons (mVar 3) mNil)) (mBlt lenD (mCons (mBin ixA (mVar 0) (mK (.str "cells"))) mNil)))) (gN 4))
  (mSeq (mAsg (mBin mulD (mBlt intD (mCons (mBin addD (mBin addD (mBin modD (mBlt intD (mCons (mVar 4) mNil)) (mK (.int 2147483629))) (mBin mulD (mK (.int 6133)) (mVar 3))) (mBin mulD (mBin mulD (mK (.int 23)) (mVar 3)) (mVar 3))) mNil)) (mK (.int 48271))) (gN 5))
  (mSeq (mAsg (mBin mulD (mBlt intD (mCons (mBin addD (mBin modD (mBlt intD (mCons (mVar 5) mNil)) (mK (.int 2147483647))) (mBin mulD (mK (.int 93241)) (mVar 3))) mNil)) (mK (.int 69621))) (gN 5))
  (mRet (mBin modD (mBlt intD (mCons (mBin divD (mBin modD (mBlt intD (mCons (mVar 5) mNil)) (mK (.int 2147483587))) (mK (.int 13))) mNil)) (mVar 1)))))))))
noncomputable def g__law_draw : Fn := denOf 6 d__law_draw
abbrev s__law_of : Stmt := topS 46
theorem sc__law_of : FnScope ["m", "some"] ["m", "some"] (defScope s__law_of) := ⟨rfl, rfl, rfl, by decide +kernel, rfl, by decide +kernel, by decide +kernel⟩
noncomputable def d__law_of : FS := (mRet (mBin ixA (mVar 1) (mCall (g__law_draw) (mCons (mVar 0) (mCons (mBlt lenD (mCons (mVar 1) mNil)) mNil)))))
noncomputable def g__law_of : Fn := denOf 2 d__law_of
abbrev s__law_weights : Stmt := topS 48
theorem sc__law_weights : FnScope ["m", "most", "wide", "some", "k"] ["m", "most"] (defScope s__law_weights) := ⟨rfl, rfl, rfl, by decide +kernel, rfl, by decide +kernel, by decide +kernel⟩
noncomputable def cF__law_weights_1 : FI := (iRange1 (mCons (mBin addD (mK (.int 1)) (mCall (g__law_draw) (mCons (mVar 0) (mCons (mVar 1) mNil)))) mNil))
noncomputable def ct__law_weights_1 : FG := (gN 4)
noncomputable def ci__law_weights_1 : FT := mYes
noncomputable def ce__law_weights_1 : FE := (mIf (mTest (mBin eqD (mVar 2) (mK (.int 1)))) (mBin subD (mCall (g__law_draw) (mCons (mVar 0) (mCons (mK (.int 41)) mNil))) (mK (.int 20))) (mCall (g__law_draw) (mCons (mVar 0) (mCons (mK (.int 4)) mNil))))
noncomputable def d__law_weights : FS := (mSeq (mAsg (mCall (g__law_draw) (mCons (mVar 0) (mCons (mK (.int 2)) mNil))) (gN 2))
  (mSeq (mAsg (mComp cF__law_weights_1 [4] ct__law_weights_1 ci__law_weights_1 ce__law_weights_1) (gN 3))
  (mRet (mBlt tupleD (mCons (mVar 3) mNil)))))
noncomputable def g__law_weights : Fn := denOf 5 d__law_weights
abbrev s__law_drawn_bill : Stmt := topS 49
theorem sc__law_drawn_bill : FnScope ["m", "most", "own", "terms", "k"] ["m", "most"] (defScope s__law_drawn_bill) := ⟨rfl, rfl, rfl, by decide +kernel, rfl, by decide +kernel, by decide +kernel⟩
noncomputable def F__law_drawn_bill_1 : FI := (iRange1 (mCons (mCall (g__law_draw) (mCons (mVar 0) (mCons (mK (.int 3)) mNil))) mNil))
noncomputable def t__law_drawn_bill_1 : FG := (gN 4)
noncomputable def b__law_drawn_bill_1 : FS := (mExpr (mApp (mVar 3) (mTup (mCons (mCall (g__law_weights) (mCons (mVar 0) (mCons (mVar 1) mNil))) (mCons (mBin subD (mCall (g__law_draw) (mCons (mVar 0) (mCons (mK (.int 7)) mNil))) (mK (.int 3))) (mCons (mBin subD (mCall (g__law_draw) (mCons (mVar 0) (mCons (mK (.int 7)) mNil))) (mK (.int 3))) mNil))))))
noncomputable def d__law_drawn_bill : FS := (mSeq (mPar 2 3 (mCons (mCall (g__law_of) (mCons (mVar 0) (mCons (mLst (mCons (mK (.int 0)) (mCons (mK (.int 1)) (mCons (mK (.int 2)) (mCons (mUn negD (mK (.int 1))) (mCons (mBin subD (mCall (g__law_draw) (mCons (mVar 0) (mCons (mK (.int 101)) mNil))) (mK (.int 50))) mNil)))))) mNil))) (mCons (mLstM mNil) mNil)))
  (mSeq (mFor F__law_drawn_bill_1 t__law_drawn_bill_1 b__law_drawn_bill_1)
  (mRet (mTup (mCons (mVar 2) (mCons (mBlt tupleD (mCons (mVar 3) mNil)) mNil))))))
noncomputable def g__law_drawn_bill : Fn := denOf 5 d__law_drawn_bill
abbrev s__law_drawn_row : Stmt := topS 50
theorem sc__law_drawn_row : FnScope ["m", "least", "more", "high", "k"] ["m", "least", "more", "high"] (defScope s__law_drawn_row) := ⟨rfl, rfl, rfl, by decide +kernel, rfl, by decide +kernel, by decide +kernel⟩
noncomputable def cF__law_drawn_row_1 : FI := (iRange1 (mCons (mBin addD (mVar 1) (mCall (g__law_draw) (mCons (mVar 0) (mCons (mBin addD (mVar 2) (mK (.int 1))) mNil)))) mNil))
noncomputable def ct__law_drawn_row_1 : FG := (gN 4)
noncomputable def ci__law_drawn_row_1 : FT := mYes
noncomputable def ce__law_drawn_row_1 : FE := (mCall (g__law_draw) (mCons (mVar 0) (mCons (mBin addD (mVar 3) (mK (.int 1))) mNil)))
noncomputable def d__law_drawn_row : FS := (mRet (mBlt tupleD (mCons (mComp cF__law_drawn_row_1 [4] ct__law_drawn_row_1 ci__law_drawn_row_1 ce__law_drawn_row_1) mNil)))
noncomputable def g__law_drawn_row : Fn := denOf 5 d__law_drawn_row
abbrev s__law_word : Stmt := topS 51
theorem sc__law_word : FnScope ["error", "found"] ["error"] (defScope s__law_word) := ⟨rfl, rfl, rfl, by decide +kernel, rfl, by decide +kernel, by decide +kernel⟩
noncomputable def d__law_word : FS := (mSeq (mAsg (mLstM mNil) (gN 1))
  (mSeq (mIfS (mTest (mBlt isiA (mCons (mVar 0) (mCons (mK (.cl 1)) mNil)))) (mExpr (mApp (mVar 1) (mTup (mCons (mK (.str "rule")) (mCons (mUn (fldD "number") (mVar 0)) mNil))))) mNext)
  (mSeq (mIfS (mTest (mBlt isiA (mCons (mVar 0) (mCons (mK (.cl 2)) mNil)))) (mExpr (mApp (mVar 1) (mTup (mCons (mK (.str "row")) (mCons (mUn (fldD "number") (mVar 0)) mNil))))) mNext)
  (mSeq (mIfS (mTest (mBlt isiA (mCons (mVar 0) (mCons (mK (.cl 3)) mNil)))) (mExpr (mApp (mVar 1) (mTup (mCons (mK (.str "bill")) (mCons (mUn (fldD "part") (mVar 0)) mNil))))) mNext)
  (mSeq (mIfS (mTest (mBlt isiA (mCons (mVar 0) (mCons (mK (.cl 4)) mNil)))) (mExpr (mApp (mVar 1) (mTup (mCons (mK (.str "number")) (mCons (mUn (fldD "value") (mVar 0)) mNil))))) mNext)
  (mSeq (mIfS (mTest (mBlt isiA (mCons (mVar 0) (mCons (mK (.cl 5)) mNil)))) (mExpr (mApp (mVar 1) (mTup (mCons (mK (.str "kind")) (mCons (mUn (fldD "value") (mVar 0)) mNil))))) mNext)
  (mSeq (mIfS (mTest (mBlt isiA (mCons (mVar 0) (mCons (mK (.cl 6)) mNil)))) (mExpr (mApp (mVar 1) (mTup (mCons (mK (.str "paper")) (mCons (mUn (fldD "part") (mVar 0)) mNil))))) mNext)
  (mSeq (mIfS (mTest (mBlt isiA (mCons (mVar 0) (mCons (mK (.cl 7)) mNil)))) (mExpr (mApp (mVar 1) (mTup (mCons (mK (.str "text")) (mCons (mUn (fldD "line") (mVar 0)) mNil))))) mNext)
  (mSeq (mIfS (mTest (mBlt isiA (mCons (mVar 0) (mCons (mK (.cl 8)) mNil)))) (mExpr (mApp (mVar 1) (mTup (mCons (mK (.str "nothing")) (mCons (mUn (fldD "value") (mVar 0)) mNil))))) mNext)
  (mRet (mIf (mTest (mBin eqD (mBlt lenD (mCons (mVar 1) mNil)) (mK (.int 1)))) (mBin ixA (mVar 1) (mK (.int 0))) (mTup (mCons (mK (.str "other")) (mCons (mK .non) mNil))))))))))))))
noncomputable def g__law_word : Fn := denOf 2 d__law_word
abbrev s__law_outcome : Stmt := topS 52
theorem sc__law_outcome : FnScope ["call", "found", "error", "e"] ["call"] (defScope s__law_outcome) := ⟨rfl, rfl, rfl, by decide +kernel, rfl, by decide +kernel, by decide +kernel⟩
noncomputable def d__law_outcome (cl : Dv) (g : Sto → R Dv) : FS := (mSeq (mAsg (mTup (mCons (mK .non) (mCons (mK .non) mNil))) (gT 2 (gsC (gN 1) (gsC (gN 2) gs0))))
  (mSeq (mTryKeep 3 (mAsg (mThk 0 cl g) (gN 1)) (mAsg (mVar 3) (gN 2)))
  (mRet (mIf (mTest (mBin isD (mVar 2) (mK .non))) (mLst (mCons (mVar 1) mNil)) (mCall (g__law_word) (mCons (mVar 2) mNil))))))
noncomputable def h__law_outcome : (Sto → R Dv) → Fn := fun g wa s => finC s.length (d__law_outcome .non g (startD 4 (.non :: wa)) s)
abbrev s__law_is_number : Stmt := topS 53
theorem sc__law_is_number : FnScope ["word", "most", "figures", "sign"] ["word", "most"] (defScope s__law_is_number) := ⟨rfl, rfl, rfl, by decide +kernel, rfl, by decide +kernel, by decide +kernel⟩
noncomputable def cF__law_is_number_1 : FI := (iStrD (mVar 2))
noncomputable def ct__law_is_number_1 : FG := (gN 3)
noncomputable def ci__law_is_number_1 : FT := (mTest (mBin ninD (mVar 3) (mK (.str "0123456789"))))
noncomputable def ce__law_is_number_1 : FE := (mVar 3)
noncomputable def d__law_is_number : FS := (mSeq (mAsg (mIf (mTest (mBin eqD (mSl slS (mVar 0) mNoPart (mPart (mK (.int 1)))) (mK (.str "-")))) (mSl slS (mVar 0) (mPart (mK (.int 1))) mNoPart) (mVar 0)) (gN 2))
  (mSeq (mIfS (mOr (mNot (mTest (mChain leD leD (mK (.int 1)) (mBlt lenD (mCons (mVar 2) mNil)) (mVar 1)))) (mTest (mBin neD (mComp cF__law_is_number_1 [3] ct__law_is_number_1 ci__law_is_number_1 ce__law_is_number_1) (mLst mNil)))) (mRet (mK (.bl false))) mNext)
  (mRet (mOrV (mBin neD (mBin ixS (mVar 2) (mK (.int 0))) (mK (.str "0"))) (mBin eqD (mVar 0) (mK (.str "0")))))))
noncomputable def g__law_is_number : Fn := denOf 4 d__law_is_number
abbrev s__law_wrong_part : Stmt := topS 54
theorem sc__law_wrong_part : FnScope ["bill_so", "number", "term", "one"] ["bill_so"] (defScope s__law_wrong_part) := ⟨rfl, rfl, rfl, by decide +kernel, rfl, by decide +kernel, by decide +kernel⟩
noncomputable def cF__law_wrong_part_1 : FI := (iSeq (mBin ixA (mVar 2) (mK (.int 0))))
noncomputable def ct__law_wrong_part_1 : FG := (gN 3)
noncomputable def ci__law_wrong_part_1 : FT := (mNot (mTest (mChain leD leD (mUn negD (mK (.int 20))) (mVar 3) (mK (.int 20)))))
noncomputable def ce__law_wrong_part_1 : FE := (mVar 3)
noncomputable def F__law_wrong_part_1 : FI := (iEnum1 (mCons (mBin ixA (mVar 0) (mK (.int 1))) mNil))
noncomputable def t__law_wrong_part_1 : FG := (gT 2 (gsC (gN 1) (gsC (gN 2) gs0)))
noncomputable def b__law_wrong_part_1 : FS := (mIfS (mOr (mTest (mBin neD (mComp cF__law_wrong_part_1 [3] ct__law_wrong_part_1 ci__law_wrong_part_1 ce__law_wrong_part_1) (mLst mNil))) (mOr (mNot (mTest (mChain leD leD (mUn negD (mK (.int 50))) (mBin ixA (mVar 2) (mK (.int 1))) (mK (.int 50))))) (mNot (mTest (mChain leD leD (mUn negD (mK (.int 50))) (mBin ixA (mVar 2) (mK (.int 2))) (mK (.int 50))))))) (mRet (mLst (mCons (mVar 1) mNil))) mNext)
noncomputable def d__law_wrong_part : FS := (mSeq (mIfS (mNot (mTest (mChain leD leD (mUn negD (mK (.int 50))) (mBin ixA (mVar 0) (mK (.int 0))) (mK (.int 50))))) (mRet (mLst (mCons (mK (.str "own")) mNil))) mNext)
  (mSeq (mFor F__law_wrong_part_1 t__law_wrong_part_1 b__law_wrong_part_1)
  (mRet (mLst mNil))))
noncomputable def g__law_wrong_part : Fn := denOf 4 d__law_wrong_part
abbrev s__law_bill_due : Stmt := topS 55
theorem sc__law_bill_due : FnScope ["page", "own", "terms", "number", "row", "words", "is_right", "some", "found", "wrong", "word"] ["page"] (defScope s__law_bill_due) := ⟨rfl, rfl, rfl, by decide +kernel, rfl, by decide +kernel, by decide +kernel⟩
noncomputable def cF__law_bill_due_1 : FI := (iSeq (mSl slA (mVar 5) (mPart (mK (.int 1))) mNoPart))
noncomputable def ct__law_bill_due_1 : FG := (gN 10)
noncomputable def ci__law_bill_due_1 : FT := (mNot (mTest (mCall (g__law_is_number) (mCons (mVar 10) (mCons (mK (.int 3)) mNil)))))
noncomputable def ce__law_bill_due_1 : FE := (mVar 10)
noncomputable def cF__law_bill_due_2 : FI := (iSeq (mSl slA (mVar 5) (mPart (mK (.int 1))) mNoPart))
noncomputable def ct__law_bill_due_2 : FG := (gN 10)
noncomputable def ci__law_bill_due_2 : FT := mYes
noncomputable def ce__law_bill_due_2 : FE := (mBlt intA (mCons (mVar 10) mNil))
noncomputable def F__law_bill_due_1 : FI := (iEnum1 (mCons (mStr1 spD (mVar 0) (mK (.str "
"))) mNil))
noncomputable def t__law_bill_due_1 : FG := (gT 2 (gsC (gN 3) (gsC (gN 4) gs0)))
noncomputable def b__law_bill_due_1 : FS := (mSeq (mAsg (mStr1 spD (mVar 4) (mK (.str " "))) (gN 5))
  (mSeq (mAsg (mBin eqD (mComp cF__law_bill_due_1 [10] ct__law_bill_due_1 ci__law_bill_due_1 ce__law_bill_due_1) (mLst mNil)) (gN 6))
  (mSeq (mIfS (mOr (mAnd (mTest (mBin eqD (mVar 3) (mK (.int 0)))) (mOr (mTest (mBin neD (mBin ixA (mVar 5) (mK (.int 0))) (mK (.str "own")))) (mTest (mBin neD (mBlt lenD (mCons (mVar 5) mNil)) (mK (.int 2)))))) (mOr (mNot (mTest (mVar 6))) (mTest (mBin gtD (mVar 3) (mK (.int 2)))))) (mRet (mTup (mCons (mK (.str "text")) (mCons (mBin addD (mVar 3) (mK (.int 1))) mNil)))) mNext)
  (mSeq (mIfS (mAnd (mTest (mBin gtD (mVar 3) (mK (.int 0)))) (mOr (mTest (mBin neD (mBin ixA (mVar 5) (mK (.int 0))) (mK (.str "term")))) (mNot (mTest (mChain leD leD (mK (.int 4)) (mBlt lenD (mCons (mVar 5) mNil)) (mK (.int 9))))))) (mRet (mTup (mCons (mK (.str "text")) (mCons (mBin addD (mVar 3) (mK (.int 1))) mNil)))) mNext)
  (mSeq (mAsg (mComp cF__law_bill_due_2 [10] ct__law_bill_due_2 ci__law_bill_due_2 ce__law_bill_due_2) (gN 7))
  (mSeq (mAsg (mIf (mTest (mBin eqD (mVar 3) (mK (.int 0)))) (mBin ixA (mVar 7) (mK (.int 0))) (mVar 1)) (gN 1))
  (mAsg (mBin addD (mVar 2) (mIf (mTest (mBin gtD (mVar 3) (mK (.int 0)))) (mLst (mCons (mTup (mCons (mBlt tupleD (mCons (mSl slA (mVar 7) (mPart (mK (.int 2))) mNoPart) mNil)) (mCons (mBin ixA (mVar 7) (mK (.int 0))) (mCons (mBin ixA (mVar 7) (mK (.int 1))) mNil)))) mNil)) (mLst mNil))) (gN 2))))))))
noncomputable def d__law_bill_due : FS := (mSeq (mIfS (mNot (mTest (mBlt isiA (mCons (mVar 0) (mCons (mK (.ty "str")) mNil))))) (mRet (mTup (mCons (mK (.str "text")) (mCons (mK (.int 0)) mNil)))) mNext)
  (mSeq (mPar 1 2 (mCons (mK .non) (mCons (mLst mNil) mNil)))
  (mSeq (mFor F__law_bill_due_1 t__law_bill_due_1 b__law_bill_due_1)
  (mSeq (mAsg (mTup (mCons (mVar 1) (mCons (mBlt tupleD (mCons (mVar 2) mNil)) mNil))) (gN 8))
  (mSeq (mAsg (mCall (g__law_wrong_part) (mCons (mVar 8) mNil)) (gN 9))
  (mRet (mIf (mTest (mBin eqD (mVar 9) (mLst mNil))) (mLst (mCons (mVar 8) mNil)) (mTup (mCons (mK (.str "bill")) (mCons (mBin ixA (mVar 9) (mK (.int 0))) mNil))))))))))
noncomputable def g__law_bill_due : Fn := denOf 11 d__law_bill_due
abbrev s__law_row_due : Stmt := topS 56
theorem sc__law_row_due : FnScope ["page", "words", "found", "wrong", "word", "number", "result"] ["page"] (defScope s__law_row_due) := ⟨rfl, rfl, rfl, by decide +kernel, rfl, by decide +kernel, by decide +kernel⟩
noncomputable def cF__law_row_due_1 : FI := (iSeq (mVar 1))
noncomputable def ct__law_row_due_1 : FG := (gN 4)
noncomputable def ci__law_row_due_1 : FT := (mNot (mTest (mCall (g__law_is_number) (mCons (mVar 4) (mCons (mK (.int 7)) mNil)))))
noncomputable def ce__law_row_due_1 : FE := (mVar 4)
noncomputable def cF__law_row_due_2 : FI := (iSeq (mVar 1))
noncomputable def ct__law_row_due_2 : FG := (gN 4)
noncomputable def ci__law_row_due_2 : FT := mYes
noncomputable def ce__law_row_due_2 : FE := (mBlt intA (mCons (mVar 4) mNil))
noncomputable def cF__law_row_due_3 : FI := (iEnum1 (mCons (mVar 2) mNil))
noncomputable def ct__law_row_due_3 : FG := (gT 2 (gsC (gN 5) (gsC (gN 6) gs0)))
noncomputable def ci__law_row_due_3 : FT := (mNot (mTest (mChain leD leD (mK (.int 0)) (mVar 6) (mBin powD (mK (.int 10)) (mK (.int 6))))))
noncomputable def ce__law_row_due_3 : FE := (mVar 5)
noncomputable def d__law_row_due : FS := (mSeq (mIfS (mNot (mTest (mBlt isiA (mCons (mVar 0) (mCons (mK (.ty "str")) mNil))))) (mRet (mTup (mCons (mK (.str "text")) (mCons (mK (.int 0)) mNil)))) mNext)
  (mSeq (mIfS (mTest (mBin eqD (mVar 0) (mK (.str "none")))) (mRet (mLst (mCons (mTup mNil) mNil))) mNext)
  (mSeq (mAsg (mStr1 spD (mVar 0) (mK (.str " "))) (gN 1))
  (mSeq (mIfS (mTest (mBin neD (mComp cF__law_row_due_1 [4] ct__law_row_due_1 ci__law_row_due_1 ce__law_row_due_1) (mLst mNil))) (mRet (mTup (mCons (mK (.str "text")) (mCons (mK (.int 1)) mNil)))) mNext)
  (mSeq (mAsg (mBlt tupleD (mCons (mComp cF__law_row_due_2 [4] ct__law_row_due_2 ci__law_row_due_2 ce__law_row_due_2) mNil)) (gN 2))
  (mSeq (mIfS (mTest (mBin gtD (mBlt lenD (mCons (mVar 2) mNil)) (mK (.int 200)))) (mRet (mTup (mCons (mK (.str "row")) (mCons (mK .non) mNil)))) mNext)
  (mSeq (mAsg (mComp cF__law_row_due_3 [5, 6] ct__law_row_due_3 ci__law_row_due_3 ce__law_row_due_3) (gN 3))
  (mRet (mIf (mTest (mBin eqD (mVar 3) (mLst mNil))) (mLst (mCons (mVar 2) mNil)) (mTup (mCons (mK (.str "row")) (mCons (mBin ixA (mVar 3) (mK (.int 0))) mNil))))))))))))
noncomputable def g__law_row_due : Fn := denOf 7 d__law_row_due
abbrev s__law_bent : Stmt := topS 57
theorem sc__law_bent : FnScope ["m", "page", "signs", "spot", "sign", "way", "cut", "parts", "at"] ["m", "page", "signs"] (defScope s__law_bent) := ⟨rfl, rfl, rfl, by decide +kernel, rfl, by decide +kernel, by decide +kernel⟩
noncomputable def d__law_bent : FS := (mSeq (mPar3 3 4 5 (mCons (mCall (g__law_draw) (mCons (mVar 0) (mCons (mBin addD (mBlt lenD (mCons (mVar 1) mNil)) (mK (.int 1))) mNil))) (mCons (mCall (g__law_of) (mCons (mVar 0) (mCons (mVar 2) mNil))) (mCons (mCall (g__law_draw) (mCons (mVar 0) (mCons (mK (.int 6)) mNil))) mNil))))
  (mSeq (mIfS (mTest (mBin ltD (mVar 5) (mK (.int 3)))) (mRet (mBin addD (mBin addD (mSl slS (mVar 1) mNoPart (mPart (mVar 3))) (mBin mulS (mVar 4) (mBlt intA (mCons (mBin ltD (mVar 5) (mK (.int 2))) mNil)))) (mSl slS (mVar 1) (mPart (mBin addD (mVar 3) (mBlt intA (mCons (mBin gtD (mVar 5) (mK (.int 0))) mNil)))) mNoPart))) mNext)
  (mSeq (mAsg (mIf (mTest (mBin ltD (mVar 5) (mK (.int 5)))) (mK (.str " ")) (mK (.str "
"))) (gN 6))
  (mSeq (mAsg (mStr1 spD (mVar 1) (mVar 6)) (gN 7))
  (mSeq (mAsg (mCall (g__law_draw) (mCons (mVar 0) (mCons (mBlt lenD (mCons (mVar 7) mNil)) mNil))) (gN 8))
  (mRet (mStr1 jnD (mVar 6) (mBin addD (mBin addD (mSl slA (mVar 7) mNoPart (mPart (mVar 8))) (mBin mulD (mSl slA (mVar 7) (mPart (mVar 8)) (mPart (mBin addD (mVar 8) (mK (.int 1))))) (mCall (g__law_of) (mCons (mVar 0) (mCons (mLst (mCons (mK (.int 0)) (mCons (mK (.int 2)) mNil))) mNil))))) (mSl slA (mVar 7) (mPart (mBin addD (mVar 8) (mK (.int 1)))) mNoPart)))))))))
noncomputable def g__law_bent : Fn := denOf 9 d__law_bent
abbrev lq__law_judged : Str := ("_law_judged" : Str) ++ ".<locals>." ++ "<lambda>"
abbrev s__law_judged : Stmt := topS 58
theorem sc__law_judged : FnScope ["page", "due", "again", "heard"] ["page"] (defScope s__law_judged) := ⟨rfl, rfl, rfl, by decide +kernel, rfl, by decide +kernel, by decide +kernel⟩
noncomputable def l__law_judged_1 : FE := (mCall (g_read_bill) (mCons (mVar 0) mNil))
noncomputable def l__law_judged_2 : FE := (mCall (g_read_row) (mCons (mVar 0) mNil))
noncomputable def F__law_judged_1 : FI := (iRange1 (mCons (mK (.int 2)) mNil))
noncomputable def t__law_judged_1 : FG := (gN 2)
noncomputable def b__law_judged_1 : FS := (mSeq (mAsg (mLst (mCons (mLam 0 0 lq__law_judged l__law_judged_1 h__law_outcome mNil) (mCons (mLam 0 0 lq__law_judged l__law_judged_2 h__law_outcome mNil) mNil))) (gN 3))
  (mIfS (mTest (mBin neD (mBlt reprA (mCons (mVar 3) mNil)) (mBlt reprA (mCons (mVar 1) mNil)))) (mRet (mK (.bl false))) mNext))
noncomputable def d__law_judged : FS := (mSeq (mAsg (mLst (mCons (mCall (g__law_bill_due) (mCons (mVar 0) mNil)) (mCons (mCall (g__law_row_due) (mCons (mVar 0) mNil)) mNil))) (gN 1))
  (mSeq (mFor F__law_judged_1 t__law_judged_1 b__law_judged_1)
  (mRet (mK (.bl true)))))
noncomputable def g__law_judged : Fn := denOf 4 d__law_judged
abbrev s_law : Stmt := topS 59
theorem sc_law : FnScope ["script", "m", "some", "lap", "page", "thing", "k"] ["script"] (defScope s_law) := ⟨rfl, rfl, rfl, by decide +kernel, rfl, by decide +kernel, by decide +kernel⟩
noncomputable def cF_law_1 : FI := (iSeq (mTup (mCons (mK (.int 1)) (mCons (mK (.int 2)) mNil))))
noncomputable def ct_law_1 : FG := (gN 6)
noncomputable def ci_law_1 : FT := mYes
noncomputable def ce_law_1 : FE := (mBin addD (mK (.str "own 0
term 0 0 1")) (mBin mulS (mK (.str "
term 0 0 1")) (mVar 6)))
noncomputable def cF_law_2 : FI := (iSeq (mBin addD (mVar 2) (mLst (mCons (mK .non) (mCons (mK (.int 5)) (mCons (mTup mNil) (mCons (mLst (mCons (mK (.str "own 5")) mNil)) (mCons (mK (.bl true)) (mCons (mK (.dct [] [])) mNil)))))))))
noncomputable def ct_law_2 : FG := (gN 4)
noncomputable def ci_law_2 : FT := (mNot (mTest (mCall (g__law_judged) (mCons (mVar 4) mNil))))
noncomputable def ce_law_2 : FE := (mVar 4)
noncomputable def cF_law_3 : FI := (iRange1 (mCons (mK (.int 8)) mNil))
noncomputable def ct_law_3 : FG := (gN 6)
noncomputable def ci_law_3 : FT := mYes
noncomputable def ce_law_3 : FE := (mCall (g__law_bent) (mCons (mVar 1) (mCons (mVar 4) (mCons (mLst (mCons (mK (.str "0")) (mCons (mK (.str "-")) (mCons (mK (.str " ")) (mCons (mK (.str "
")) (mCons (mK (.str "9")) (mCons (mK (.str "a")) (mCons (mK (.str "own 1")) (mCons (mK (.str "term")) mNil))))))))) mNil))))
noncomputable def F_law_1 : FI := (iSeq (mBin addD (mLst (mCons (mVar 4) mNil)) (mComp cF_law_3 [6] ct_law_3 ci_law_3 ce_law_3)))
noncomputable def t_law_1 : FG := (gN 5)
noncomputable def b_law_1 : FS := (mIfS (mNot (mTest (mCall (g__law_judged) (mCons (mVar 5) mNil)))) (mRet (mK (.bl false))) mNext)
noncomputable def F_law_2 : FI := (iSeq (mTup (mCons (mCall (g_bill_text) (mCons (mCall (g__law_drawn_bill) (mCons (mVar 1) (mCons (mK (.int 6)) mNil))) mNil)) (mCons (mCall (g_row_text) (mCons (mCall (g__law_drawn_row) (mCons (mVar 1) (mCons (mK (.int 0)) (mCons (mK (.int 8)) (mCons (mK (.int 900)) mNil))))) mNil)) mNil))))
noncomputable def t_law_2 : FG := (gN 4)
noncomputable def b_law_2 : FS := (mFor F_law_1 t_law_1 b_law_1)
noncomputable def F_law_3 : FI := (iRange1 (mCons (mBin addD (mK (.int 4)) (mBlt min2D (mCons (mBlt lenD (mCons (mVar 0) mNil)) (mCons (mK (.int 8)) mNil)))) mNil))
noncomputable def t_law_3 : FG := (gN 3)
noncomputable def b_law_3 : FS := (mFor F_law_2 t_law_2 b_law_2)
noncomputable def d_law : FS := (mSeq (mAsg (mCall (g__law_begun) (mCons (mVar 0) mNil)) (gN 1))
  (mSeq (mAsg (mLst (mCons (mK (.str "")) (mCons (mK (.str " ")) (mCons (mK (.str "
")) (mCons (mK (.str "own")) (mCons (mK (.str "own 5")) (mCons (mK (.str "own -5")) (mCons (mK (.str "own -0")) (mCons (mK (.str "own 05")) (mCons (mK (.str "own 51")) (mCons (mK (.str "own 1000")) (mCons (mK (.str "own 5 ")) (mCons (mK (.str "own  5")) (mCons (mK (.str "Own 5")) mNil)))))))))))))) (gN 2))
  (mSeq (mAsg (mBin addD (mVar 2) (mLst (mCons (mK (.str "own 0
term 0 0 1")) (mCons (mK (.str "own 0
term 0 0")) (mCons (mK (.str "own 0
term 0 0 1 1 1 1 1 1")) (mCons (mK (.str "own 0
term 0 0 1 1 1 1 1 1 1")) mNil)))))) (gN 2))
  (mSeq (mAsg (mBin addD (mBin addD (mVar 2) (mComp cF_law_1 [6] ct_law_1 ci_law_1 ce_law_1)) (mLst (mCons (mK (.str "own 0
term 0 51 1")) (mCons (mK (.str "own 0
term 0 0 21")) mNil)))) (gN 2))
  (mSeq (mAsg (mBin addD (mVar 2) (mLst (mCons (mK (.str "own 0
own 0")) (mCons (mK (.str "term 0 0 1")) (mCons (mK (.str "own 0
")) (mCons (mK (.str "own 999
term 0 0 999")) (mCons (mK (.str "none")) (mCons (mK (.str "none ")) (mCons (mK (.str "0")) (mCons (mK (.str "00")) (mCons (mK (.str "-1")) (mCons (mK (.str "7 8")) mNil)))))))))))) (gN 2))
  (mSeq (mAsg (mBin addD (mVar 2) (mLst (mCons (mStr1 jnD (mK (.str " ")) (mBin mulD (mLst (mCons (mK (.str "1")) mNil)) (mK (.int 200)))) (mCons (mStr1 jnD (mK (.str " ")) (mBin mulD (mLst (mCons (mK (.str "1")) mNil)) (mK (.int 201)))) (mCons (mK (.str "1000000")) (mCons (mK (.str "1000001")) (mCons (mK (.str "9999999")) (mCons (mK (.str "10000000")) (mCons (mK (.str "1
2")) (mCons (mK (.str "1 -")) (mCons (mK (.str "+1")) mNil))))))))))) (gN 2))
  (mSeq (mIfS (mTest (mBin neD (mComp cF_law_2 [4] ct_law_2 ci_law_2 ce_law_2) (mLst mNil))) (mRet (mK (.bl false))) mNext)
  (mSeq (mFor F_law_3 t_law_3 b_law_3)
  (mRet (mK (.bl true)))))))))))
noncomputable def g_law : Fn := denOf 7 d_law
section
variable {P : Program} {w : World} {mg : Str → Option Value} {base : Heap} {Γ : Ct} {f : Addr} {fd : FuncData}
theorem ok_is_int (n : Ns Γ mg) (F : Fun Γ.K "is_int" "is_int" s_is_int f fd) : FnG P w mg base Γ 1 f fd ["thing"] g_is_int :=
  have S := sc_is_int
  ok_fn (N := ["thing"]) (c := d_is_int) F S fun cdv A outer s H E W hr hg tk => (mb_one (ms_ret (me_and (me_callB cr_isiA (sIsiA rfl n.xi) (by rfl) n.n_isinstance (by decide +kernel) (ma_cons (me_var (pv 0)) (ma_cons (me_ty (by rfl) n.n_int (by decide +kernel)) ma_nil))) (me_and (me_cmp op_notC sIsntC (nomark _) (me_var (pv 0)) me_bl) (me_one (me_cmp op_notC sIsntC (nomark _) (me_var (pv 0)) me_bl))))))
theorem ok_is_int_within (n : Ns Γ mg) (F : Fun Γ.K "is_int_within" "is_int_within" s_is_int_within f fd) (c_is_int : Cal P w mg base Γ 1 "is_int" ["thing"] g_is_int) : FnG P w mg base Γ 2 f fd ["thing", "least", "most"] g_is_int_within :=
  have S := sc_is_int_within
  ok_fn (N := ["thing", "least", "most"]) (c := d_is_int_within) F S fun cdv A outer s H E W hr hg tk => (mb_one (ms_ret (me_and (me_cal c_is_int rfl (hr.mono (by decide)) hg tk (by rfl) (ma_cons (me_var (pv 0)) ma_nil) 1 (len_cons len_nil) rfl rfl) (me_one (me_chain op_le op_le sCmp sCmp (by rfl) (me_var (pv 1)) (me_var (pv 0)) (me_var (pv 2)))))))
theorem ok_is_tuple (n : Ns Γ mg) (F : Fun Γ.K "is_tuple" "is_tuple" s_is_tuple f fd) : FnG P w mg base Γ 1 f fd ["thing", "least", "most"] g_is_tuple :=
  have S := sc_is_tuple
  ok_fn (N := ["thing", "least", "most"]) (c := d_is_tuple) F S fun cdv A outer s H E W hr hg tk => (mb_one (ms_ret (me_and (me_callB cr_isiA (sIsiA rfl n.xi) (by rfl) n.n_isinstance (by decide +kernel) (ma_cons (me_var (pv 0)) (ma_cons (me_ty (by rfl) n.n_tuple (by decide +kernel)) ma_nil))) (me_one (me_chain op_le op_le sCmp sCmp (by rfl) (me_var (pv 1)) (me_callB call_len (sLen rfl) (by rfl) n.n_len (by decide +kernel) (ma_cons (me_var (pv 0)) ma_nil)) (me_var (pv 2)))))))
theorem ok_first_outside (n : Ns Γ mg) (F : Fun Γ.K "first_outside" "first_outside" s_first_outside f fd) : FnG P w mg base Γ 1 f fd ["things", "least", "most"] g_first_outside :=
  have S := sc_first_outside
  ok_fn (N := ["things", "least", "most", "number", "thing"]) (c := d_first_outside) F S fun cdv A outer s H E W hr hg tk => (mb_cons (ms_for (passes_of rfl) rfl (mi_enum rfl (by rfl) n.n_enumerate (ma_cons (me_var (pv 0)) ma_nil)) (mg_tup' rfl rfl (mgs_cons' (mg_name (pg_name (i := 3) S.nd rfl (.inl rfl))) (mgs_cons' (mg_name (pg_name (i := 4) S.nd rfl (.inl rfl))) mgs_nil))) (mb_one (ms_if (mt_w (mw_or (mt_not (mt_val (me_callB cr_isiA (sIsiA rfl n.xi) (by rfl) n.n_isinstance (by decide +kernel) (ma_cons (me_var (pv 4)) (ma_cons (me_ty (by rfl) n.n_int (by decide +kernel)) ma_nil))))) (mw_or (mt_cmp op_isC sIsC (nomark _) (me_var (pv 4)) me_bl) (mw_or (mt_cmp op_isC sIsC (nomark _) (me_var (pv 4)) me_bl) (mw_or1 (mt_not (mt_chain op_le op_le sCmp sCmp (by rfl) (me_var (pv 1)) (me_var (pv 4)) (me_var (pv 2))))))))) (mb_one (ms_ret (me_var (pv 3)))) mb_nil)))
  (mb_one (ms_ret me_non)))
theorem ok_need_rule (n : Ns Γ mg) (F : Fun Γ.K "need_rule" "need_rule" s_need_rule f fd) (x_BadRule : XcR P w Γ.K mg base (Γ.cls 1) "BadRule" "number") (c_is_tuple : Cal P w mg base Γ 1 "is_tuple" ["thing", "least", "most"] g_is_tuple) (c_first_outside : Cal P w mg base Γ 1 "first_outside" ["things", "least", "most"] g_first_outside) : FnG P w mg base Γ 3 f fd ["thing"] g_need_rule :=
  have S := sc_need_rule
  ok_fn (N := ["thing", "number"]) (c := d_need_rule) F S fun cdv A outer s H E W hr hg tk => (mb_cons (ms_if (mt_not (mt_val (me_cal c_is_tuple rfl (hr.mono (by decide)) hg tk (by rfl) (ma_cons (me_var (pv 0)) (ma_cons me_int (ma_cons (me_globJ (by rfl) n.c_MOST_WEIGHTS) ma_nil))) 3 (len_cons (len_cons (len_cons len_nil))) rfl rfl))) (mb_one (ms_raise rfl x_BadRule (hr.mono (by decide)) rfl tk (by rfl) me_non)) mb_nil)
  (mb_cons (ms_set (i := 1) S.nd rfl (.inl rfl) (me_cal c_first_outside rfl (hr.mono (by decide)) hg tk (by rfl) (ma_cons (me_var (pv 0)) (ma_cons (me_un un_neg sNeg (me_globJ (by rfl) n.c_GREATEST_WEIGHT)) (ma_cons (me_globJ (by rfl) n.c_GREATEST_WEIGHT) ma_nil))) 3 (len_cons (len_cons (len_cons len_nil))) rfl rfl))
  (mb_cons (ms_if (mt_cmp op_notC sIsntC (nomark _) (me_var (pv 1)) me_non) (mb_one (ms_raise rfl x_BadRule (hr.mono (by decide)) rfl tk (by rfl) (me_var (pv 1)))) mb_nil)
  (mb_one (ms_ret (me_var (pv 0)))))))
theorem ok_is_rule (n : Ns Γ mg) (F : Fun Γ.K "is_rule" "is_rule" s_is_rule f fd) (c_need_rule : Cal P w mg base Γ 3 "need_rule" ["thing"] g_need_rule) : FnG P w mg base Γ 4 f fd ["thing"] g_is_rule :=
  have S := sc_is_rule
  ok_fn (N := ["thing"]) (c := d_is_rule) F S fun cdv A outer s H E W hr hg tk => (mb_cons (ms_tryOnly (j := 1) rfl rfl ⟨by rfl, by decide, .inl n.k_BadRule⟩ tk n.ex1 (fun W pn xe tk => (mb_one (ms_expr (me_cal c_need_rule rfl (hr.mono (by decide)) hg tk (by rfl) (ma_cons (me_var (pv 0)) ma_nil) 1 (len_cons len_nil) rfl rfl)))) (fun a pn => (mb_one (ms_ret me_bl))))
  (mb_one (ms_ret me_bl)))
theorem ok_need_row (n : Ns Γ mg) (F : Fun Γ.K "need_row" "need_row" s_need_row f fd) (x_BadRow : XcR P w Γ.K mg base (Γ.cls 2) "BadRow" "number") (c_is_tuple : Cal P w mg base Γ 1 "is_tuple" ["thing", "least", "most"] g_is_tuple) (c_first_outside : Cal P w mg base Γ 1 "first_outside" ["things", "least", "most"] g_first_outside) : FnG P w mg base Γ 3 f fd ["thing"] g_need_row :=
  have S := sc_need_row
  ok_fn (N := ["thing", "number"]) (c := d_need_row) F S fun cdv A outer s H E W hr hg tk => (mb_cons (ms_if (mt_not (mt_val (me_cal c_is_tuple rfl (hr.mono (by decide)) hg tk (by rfl) (ma_cons (me_var (pv 0)) (ma_cons me_int (ma_cons (me_globJ (by rfl) n.c_MOST_RESULTS) ma_nil))) 3 (len_cons (len_cons (len_cons len_nil))) rfl rfl))) (mb_one (ms_raise rfl x_BadRow (hr.mono (by decide)) rfl tk (by rfl) me_non)) mb_nil)
  (mb_cons (ms_set (i := 1) S.nd rfl (.inl rfl) (me_cal c_first_outside rfl (hr.mono (by decide)) hg tk (by rfl) (ma_cons (me_var (pv 0)) (ma_cons me_int (ma_cons (me_globJ (by rfl) n.c_GREATEST_RESULT) ma_nil))) 3 (len_cons (len_cons (len_cons len_nil))) rfl rfl))
  (mb_cons (ms_if (mt_cmp op_notC sIsntC (nomark _) (me_var (pv 1)) me_non) (mb_one (ms_raise rfl x_BadRow (hr.mono (by decide)) rfl tk (by rfl) (me_var (pv 1)))) mb_nil)
  (mb_one (ms_ret (me_var (pv 0)))))))
theorem ok_is_factor (n : Ns Γ mg) (F : Fun Γ.K "is_factor" "is_factor" s_is_factor f fd) (c_is_int_within : Cal P w mg base Γ 2 "is_int_within" ["thing", "least", "most"] g_is_int_within) : FnG P w mg base Γ 3 f fd ["thing"] g_is_factor :=
  have S := sc_is_factor
  ok_fn (N := ["thing"]) (c := d_is_factor) F S fun cdv A outer s H E W hr hg tk => (mb_one (ms_ret (me_cal c_is_int_within rfl (hr.mono (by decide)) hg tk (by rfl) (ma_cons (me_var (pv 0)) (ma_cons (me_un un_neg sNeg (me_globJ (by rfl) n.c_GREATEST_FACTOR)) (ma_cons (me_globJ (by rfl) n.c_GREATEST_FACTOR) ma_nil))) 3 (len_cons (len_cons (len_cons len_nil))) rfl rfl)))
theorem ok_is_term (n : Ns Γ mg) (F : Fun Γ.K "is_term" "is_term" s_is_term f fd) (c_is_tuple : Cal P w mg base Γ 1 "is_tuple" ["thing", "least", "most"] g_is_tuple) (c_is_rule : Cal P w mg base Γ 4 "is_rule" ["thing"] g_is_rule) (c_is_factor : Cal P w mg base Γ 3 "is_factor" ["thing"] g_is_factor) : FnG P w mg base Γ 5 f fd ["thing"] g_is_term :=
  have S := sc_is_term
  ok_fn (N := ["thing", "rule", "ahead", "behind"]) (c := d_is_term) F S fun cdv A outer s H E W hr hg tk => (mb_cons (ms_if (mt_not (mt_val (me_cal c_is_tuple rfl (hr.mono (by decide)) hg tk (by rfl) (ma_cons (me_var (pv 0)) (ma_cons me_int (ma_cons me_int ma_nil))) 3 (len_cons (len_cons (len_cons len_nil))) rfl rfl))) (mb_one (ms_ret me_bl)) mb_nil)
  (mb_cons (ms_setT (me_var (pv 0)) (mg_tup' rfl rfl (mgs_cons' (mg_name (pg_name (i := 1) S.nd rfl (.inl rfl))) (mgs_cons' (mg_name (pg_name (i := 2) S.nd rfl (.inl rfl))) (mgs_cons' (mg_name (pg_name (i := 3) S.nd rfl (.inl rfl))) mgs_nil)))))
  (mb_one (ms_ret (me_and (me_cal c_is_rule rfl (hr.mono (by decide)) hg tk (by rfl) (ma_cons (me_var (pv 1)) ma_nil) 1 (len_cons len_nil) rfl rfl) (me_and (me_cal c_is_factor rfl (hr.mono (by decide)) hg tk (by rfl) (ma_cons (me_var (pv 2)) ma_nil) 1 (len_cons len_nil) rfl rfl) (me_one (me_cal c_is_factor rfl (hr.mono (by decide)) hg tk (by rfl) (ma_cons (me_var (pv 3)) ma_nil) 1 (len_cons len_nil) rfl rfl))))))))
theorem ok_need_bill (n : Ns Γ mg) (F : Fun Γ.K "need_bill" "need_bill" s_need_bill f fd) (x_BadBill : XcR P w Γ.K mg base (Γ.cls 3) "BadBill" "part") (c_is_tuple : Cal P w mg base Γ 1 "is_tuple" ["thing", "least", "most"] g_is_tuple) (c_is_factor : Cal P w mg base Γ 3 "is_factor" ["thing"] g_is_factor) (c_is_term : Cal P w mg base Γ 5 "is_term" ["thing"] g_is_term) : FnG P w mg base Γ 6 f fd ["thing"] g_need_bill :=
  have S := sc_need_bill
  ok_fn (N := ["thing", "own", "terms", "number", "term"]) (c := d_need_bill) F S fun cdv A outer s H E W hr hg tk => (mb_cons (ms_if (mt_not (mt_val (me_cal c_is_tuple rfl (hr.mono (by decide)) hg tk (by rfl) (ma_cons (me_var (pv 0)) (ma_cons me_int (ma_cons me_int ma_nil))) 3 (len_cons (len_cons (len_cons len_nil))) rfl rfl))) (mb_one (ms_raise rfl x_BadBill (hr.mono (by decide)) rfl tk (by rfl) me_str)) mb_nil)
  (mb_cons (ms_setT (me_var (pv 0)) (mg_tup' rfl rfl (mgs_cons' (mg_name (pg_name (i := 1) S.nd rfl (.inl rfl))) (mgs_cons' (mg_name (pg_name (i := 2) S.nd rfl (.inl rfl))) mgs_nil))))
  (mb_cons (ms_if (mt_not (mt_val (me_cal c_is_factor rfl (hr.mono (by decide)) hg tk (by rfl) (ma_cons (me_var (pv 1)) ma_nil) 1 (len_cons len_nil) rfl rfl))) (mb_one (ms_raise rfl x_BadBill (hr.mono (by decide)) rfl tk (by rfl) me_str)) mb_nil)
  (mb_cons (ms_if (mt_not (mt_val (me_cal c_is_tuple rfl (hr.mono (by decide)) hg tk (by rfl) (ma_cons (me_var (pv 2)) (ma_cons me_int (ma_cons (me_globJ (by rfl) n.c_MOST_TERMS) ma_nil))) 3 (len_cons (len_cons (len_cons len_nil))) rfl rfl))) (mb_one (ms_raise rfl x_BadBill (hr.mono (by decide)) rfl tk (by rfl) me_str)) mb_nil)
  (mb_cons (ms_for (passes_of rfl) rfl (mi_enum rfl (by rfl) n.n_enumerate (ma_cons (me_var (pv 2)) ma_nil)) (mg_tup' rfl rfl (mgs_cons' (mg_name (pg_name (i := 3) S.nd rfl (.inl rfl))) (mgs_cons' (mg_name (pg_name (i := 4) S.nd rfl (.inl rfl))) mgs_nil))) (mb_one (ms_if (mt_not (mt_val (me_cal c_is_term rfl (hr.mono (by decide)) hg tk (by rfl) (ma_cons (me_var (pv 4)) ma_nil) 1 (len_cons len_nil) rfl rfl))) (mb_one (ms_raise rfl x_BadBill (hr.mono (by decide)) rfl tk (by rfl) (me_var (pv 3)))) mb_nil)))
  (mb_one (ms_ret (me_var (pv 0)))))))))
theorem ok_words_of (n : Ns Γ mg) (F : Fun Γ.K "words_of" "words_of" s_words_of f fd) : FnG P w mg base Γ 1 f fd ["numbers"] g_words_of :=
  have S := sc_words_of
  ok_fn (N := ["numbers", "number"]) (c := d_words_of) F S fun cdv A outer s H E W hr hg tk => (mb_one (ms_ret (me_m1 PySem.F.slot_str_join PySem.F.type_str_join mt_join sJoin me_str (me_comp (own := [("number", 1)]) (g := (gName 1)) rfl S.nd (mi_seq rfl (me_var (pv 0))) (blkOk_by (own := [("number", 1)]) (N := ["numbers", "number"]) (sc := defScope s_words_of) (by decide +kernel)) (fun _ _ _ _ _ => pg_name (i := 1) S.nd rfl (.inl rfl)) (gw_name (by decide)) (fun _ _ _ _ _ => mts_nil) (fun _ _ _ _ _ => (me_callTy call_str_int sStrI (by rfl) n.n_str (by decide +kernel) (ma_cons (me_var (pv 1)) ma_nil)))))))
theorem ok_bill_text (n : Ns Γ mg) (F : Fun Γ.K "bill_text" "bill_text" s_bill_text f fd) (c_need_bill : Cal P w mg base Γ 6 "need_bill" ["thing"] g_need_bill) (c_words_of : Cal P w mg base Γ 1 "words_of" ["numbers"] g_words_of) : FnG P w mg base Γ 7 f fd ["bill"] g_bill_text :=
  have S := sc_bill_text
  ok_fn (N := ["bill", "own", "terms", "rows", "rule", "ahead", "behind"]) (c := d_bill_text) F S fun cdv A outer s H E W hr hg tk => (mb_cons (ms_setT (me_cal c_need_bill rfl (hr.mono (by decide)) hg tk (by rfl) (ma_cons (me_var (pv 0)) ma_nil) 1 (len_cons len_nil) rfl rfl) (mg_tup' rfl rfl (mgs_cons' (mg_name (pg_name (i := 1) S.nd rfl (.inl rfl))) (mgs_cons' (mg_name (pg_name (i := 2) S.nd rfl (.inl rfl))) mgs_nil))))
  (mb_cons (ms_set (i := 3) S.nd rfl (.inl rfl) (me_lstM (ma_cons (me_fmt2 (me_var (pv 1))) ma_nil)))
  (mb_cons (ms_for (passes_of rfl) rfl (mi_seq rfl (me_var (pv 2))) (mg_tup' rfl rfl (mgs_cons' (mg_name (pg_name (i := 4) S.nd rfl (.inl rfl))) (mgs_cons' (mg_name (pg_name (i := 5) S.nd rfl (.inl rfl))) (mgs_cons' (mg_name (pg_name (i := 6) S.nd rfl (.inl rfl))) mgs_nil)))) (mb_one (ms_expr (me_app (pe_bm PySem.F.plainAttrs_list PySem.F.slot_list_append PySem.F.type_list_append mt_append (me_var (pv 3)) (pa_cons (me_op opAdd sAdd me_str (me_cal c_words_of rfl (hr.mono (by decide)) hg tk (by rfl) (ma_cons (me_op opAdd sAdd (me_tup (ma_cons (me_var (pv 5)) (ma_cons (me_var (pv 6)) ma_nil))) (me_var (pv 4))) ma_nil) 1 (len_cons len_nil) rfl rfl)) pa_nil))))))
  (mb_one (ms_ret (me_m1 PySem.F.slot_str_join PySem.F.type_str_join mt_join sJoin me_str (me_var (pv 3))))))))
theorem ok_row_text (n : Ns Γ mg) (F : Fun Γ.K "row_text" "row_text" s_row_text f fd) (c_need_row : Cal P w mg base Γ 3 "need_row" ["thing"] g_need_row) (c_words_of : Cal P w mg base Γ 1 "words_of" ["numbers"] g_words_of) : FnG P w mg base Γ 4 f fd ["row"] g_row_text :=
  have S := sc_row_text
  ok_fn (N := ["row"]) (c := d_row_text) F S fun cdv A outer s H E W hr hg tk => (mb_cons (ms_expr (me_cal c_need_row rfl (hr.mono (by decide)) hg tk (by rfl) (ma_cons (me_var (pv 0)) ma_nil) 1 (len_cons len_nil) rfl rfl))
  (mb_cons (ms_if (mt_cmp (opEq hr.units) sEq (nomark _) (me_callB call_len (sLen rfl) (by rfl) n.n_len (by decide +kernel) (ma_cons (me_var (pv 0)) ma_nil)) me_int) (mb_one (ms_ret (me_globS (by rfl) n.c_NO_RESULTS))) mb_nil)
  (mb_one (ms_ret (me_cal c_words_of rfl (hr.mono (by decide)) hg tk (by rfl) (ma_cons (me_var (pv 0)) ma_nil) 1 (len_cons len_nil) rfl rfl)))))
theorem ok_is_number (n : Ns Γ mg) (F : Fun Γ.K "is_number" "is_number" s_is_number f fd) : FnG P w mg base Γ 1 f fd ["word", "most"] g_is_number :=
  have S := sc_is_number
  ok_fn (N := ["word", "most", "figures", "sign"]) (c := d_is_number) F S fun cdv A outer s H E W hr hg tk => (mb_cons (ms_set (i := 2) S.nd rfl (.inl rfl) (me_m1 PySem.F.slot_str_removeprefix PySem.F.type_str_removeprefix mt_removeprefix sRmp (me_var (pv 0)) me_str))
  (mb_cons (ms_if (mt_w (mw_or (mt_not (mt_chain op_le op_le sCmp sCmp (by rfl) me_int (me_callB call_len (sLen rfl) (by rfl) n.n_len (by decide +kernel) (ma_cons (me_var (pv 2)) ma_nil)) (me_var (pv 1)))) (mw_or1 (mt_not (mt_val (me_callB (cr_all rfl) (sAll rfl) (by rfl) n.n_all (by decide +kernel) (ma_cons (me_comp (own := [("sign", 3)]) (g := (gName 3)) rfl S.nd (mi_str (me_var (pv 2))) (blkOk_by (own := [("sign", 3)]) (N := ["word", "most", "figures", "sign"]) (sc := defScope s_is_number) (by decide +kernel)) (fun _ _ _ _ _ => pg_name (i := 3) S.nd rfl (.inl rfl)) (gw_name (by decide)) (fun _ _ _ _ _ => mts_nil) (fun _ _ _ _ _ => (me_cmp op_in_sign sInS (by rfl) (me_var (pv 3)) (me_globS (by rfl) n.c_FIGURES)))) ma_nil))))))) (mb_one (ms_ret me_bl)) mb_nil)
  (mb_one (ms_ret (me_or (me_cmp (opNe hr.units) sNe (nomark _) (me_ixS (me_var (pv 2)) me_int (fun _ _ => rfl)) me_str) (me_one (me_cmp (opEq hr.units) sEq (nomark _) (me_var (pv 0)) me_str)))))))
theorem ok_are_numbers (n : Ns Γ mg) (F : Fun Γ.K "are_numbers" "are_numbers" s_are_numbers f fd) (c_is_number : Cal P w mg base Γ 1 "is_number" ["word", "most"] g_is_number) : FnG P w mg base Γ 2 f fd ["words", "most"] g_are_numbers :=
  have S := sc_are_numbers
  ok_fn (N := ["words", "most", "word"]) (c := d_are_numbers) F S fun cdv A outer s H E W hr hg tk => (mb_one (ms_ret (me_callB (cr_all rfl) (sAll rfl) (by rfl) n.n_all (by decide +kernel) (ma_cons (me_comp (own := [("word", 2)]) (g := (gName 2)) rfl S.nd (mi_seq rfl (me_var (pv 0))) (blkOk_by (own := [("word", 2)]) (N := ["words", "most", "word"]) (sc := defScope s_are_numbers) (by decide +kernel)) (fun _ _ _ _ _ => pg_name (i := 2) S.nd rfl (.inl rfl)) (gw_name (by decide)) (fun _ _ _ _ _ => mts_nil) (fun _ _ _ _ _ => (me_cal c_is_number rfl (hr.mono (by decide)) hg tk0 (by rfl) (ma_cons (me_var (pv 2)) (ma_cons (me_var (pv 1)) ma_nil)) 2 (len_cons (len_cons len_nil)) rfl rfl))) ma_nil))))
theorem ok_can_stand (n : Ns Γ mg) (F : Fun Γ.K "can_stand" "can_stand" s_can_stand f fd) (c_are_numbers : Cal P w mg base Γ 2 "are_numbers" ["words", "most"] g_are_numbers) : FnG P w mg base Γ 3 f fd ["words", "number"] g_can_stand :=
  have S := sc_can_stand
  ok_fn (N := ["words", "number", "fits"]) (c := d_can_stand) F S fun cdv A outer s H E W hr hg tk => (mb_cons (ms_if (mt_cmp op_gt sCmp (nomark _) (me_var (pv 1)) (me_op opAdd sAdd me_int (me_globJ (by rfl) n.c_MOST_TERMS))) (mb_one (ms_ret me_bl)) mb_nil)
  (mb_cons (ms_if (mt_cmp (opEq hr.units) sEq (nomark _) (me_var (pv 1)) me_int) (mb_one (ms_set (i := 2) S.nd rfl (.inl rfl) (me_and (me_cmp (opEq hr.units) sEq (nomark _) (me_ix rfl (hu_of hr) (me_var (pv 0)) me_int (fun _ _ => rfl) (fun _ _ => rfl)) me_str) (me_one (me_cmp (opEq hr.units) sEq (nomark _) (me_callB call_len (sLen rfl) (by rfl) n.n_len (by decide +kernel) (ma_cons (me_var (pv 0)) ma_nil)) me_int))))) (mb_one (ms_set (i := 2) S.nd rfl (.inl rfl) (me_and (me_cmp (opEq hr.units) sEq (nomark _) (me_ix rfl (hu_of hr) (me_var (pv 0)) me_int (fun _ _ => rfl) (fun _ _ => rfl)) me_str) (me_one (me_chain op_le op_le sCmp sCmp (by rfl) me_int (me_op op_sub sSub (me_callB call_len (sLen rfl) (by rfl) n.n_len (by decide +kernel) (ma_cons (me_var (pv 0)) ma_nil)) me_int) (me_op opAdd sAdd me_int (me_globJ (by rfl) n.c_MOST_WEIGHTS))))))))
  (mb_one (ms_ret (me_and (me_var (pv 2)) (me_one (me_cal c_are_numbers rfl (hr.mono (by decide)) hg tk (by rfl) (ma_cons (me_sl rfl (me_var (pv 0)) (mo_some me_int) mo_none) (ma_cons (me_globJ (by rfl) n.c_FIGURES_OF_A_BILL) ma_nil)) 2 (len_cons (len_cons len_nil)) rfl rfl)))))))
theorem ok_read_bill (n : Ns Γ mg) (F : Fun Γ.K "read_bill" "read_bill" s_read_bill f fd) (x_BadText : XcR P w Γ.K mg base (Γ.cls 7) "BadText" "line") (c_can_stand : Cal P w mg base Γ 3 "can_stand" ["words", "number"] g_can_stand) (c_need_bill : Cal P w mg base Γ 6 "need_bill" ["thing"] g_need_bill) : FnG P w mg base Γ 7 f fd ["string"] g_read_bill :=
  have S := sc_read_bill
  ok_fn (N := ["string", "rows", "number", "words", "numbers", "terms", "line", "word", "told"]) (c := d_read_bill) F S fun cdv A outer s H E W hr hg tk => (mb_cons (ms_if (mt_not (mt_val (me_callB cr_isiA (sIsiA rfl n.xi) (by rfl) n.n_isinstance (by decide +kernel) (ma_cons (me_var (pv 0)) (ma_cons (me_ty (by rfl) n.n_str (by decide +kernel)) ma_nil))))) (mb_one (ms_raise rfl x_BadText (hr.mono (by decide)) rfl tk (by rfl) me_int)) mb_nil)
  (mb_cons (ms_setComp (i := 1) (own := [("line", 6)]) (g := (gName 6)) rfl S.nd rfl rfl (sw_true rfl rfl rfl (by decide +kernel)) (mi_seq rfl (me_m1 PySem.F.slot_str_split PySem.F.type_str_split mt_split sSplit (me_var (pv 0)) me_str)) (blkOk_by (own := [("line", 6)]) (N := ["string", "rows", "number", "words", "numbers", "terms", "line", "word", "told"]) (sc := defScope s_read_bill) (by decide +kernel)) (fun _ _ _ _ _ => pg_name (i := 6) S.nd rfl (.inl rfl)) (gw_name (by decide)) (fun _ _ _ _ _ => mts_nil) (fun _ _ _ _ _ => (me_m1 PySem.F.slot_str_split PySem.F.type_str_split mt_split sSplit (me_var (pv 6)) me_str)))
  (mb_cons (ms_for (passes_of rfl) rfl (mi_enumF (b := 1) (by decide) (by decide) rfl (by rfl) n.n_enumerate (ma_cons (me_var (pv 1)) ma_nil)) (mg_tup' rfl rfl (mgs_cons' (mg_name (pg_name (i := 2) S.nd rfl (.inl rfl))) (mgs_cons' (mg_name (pg_name (i := 3) S.nd rfl (.inl rfl))) mgs_nil))) (mb_one (ms_if (mt_not (mt_val (me_cal c_can_stand rfl (hr.mono (by decide)) hg tk (by rfl) (ma_cons (me_var (pv 3)) (ma_cons (me_var (pv 2)) ma_nil)) 2 (len_cons (len_cons len_nil)) rfl rfl))) (mb_one (ms_raise rfl x_BadText (hr.mono (by decide)) rfl tk (by rfl) (me_var (pv 2)))) mb_nil)))
  (mb_cons (ms_setComp (i := 4) (own := [("words", 3)]) (g := (gName 3)) rfl S.nd rfl rfl (sw_true rfl rfl rfl (by decide +kernel)) (mi_seq rfl (me_var (pv 1))) (blkOk_by (own := [("words", 3)]) (N := ["string", "rows", "number", "words", "numbers", "terms", "line", "word", "told"]) (sc := defScope s_read_bill) (by decide +kernel)) (fun _ _ _ _ _ => pg_name (i := 3) S.nd rfl (.inl rfl)) (gw_name (by decide)) (fun _ _ _ _ _ => mts_nil) (fun _ _ _ _ _ => (me_comp (own := [("word", 7)]) (g := (gName 7)) rfl S.nd (mi_seq rfl (me_sl rfl (me_var (pv 3)) (mo_some me_int) mo_none)) (blkOk_by (own := [("word", 7)]) (N := ["string", "rows", "number", "words", "numbers", "terms", "line", "word", "told"]) (sc := { kind := .function, names := [(".0", .local), ("words", .local)], isGenerator := false, isCoroutine := false }) (by decide +kernel)) (fun _ _ _ _ _ => pg_name (i := 7) S.nd rfl (.inl rfl)) (gw_name (by decide)) (fun _ _ _ _ _ => mts_nil) (fun _ _ _ _ _ => (me_callTy call_intA sIntA (by rfl) n.n_int (by decide +kernel) (ma_cons (me_var (pv 7)) ma_nil))))))
  (mb_cons (ms_setComp (i := 5) (own := [("told", 8)]) (g := (gName 8)) rfl S.nd rfl rfl (sw_true rfl rfl rfl (by decide +kernel)) (mi_seq rfl (me_sl rfl (me_var (pv 4)) (mo_some me_int) mo_none)) (blkOk_by (own := [("told", 8)]) (N := ["string", "rows", "number", "words", "numbers", "terms", "line", "word", "told"]) (sc := defScope s_read_bill) (by decide +kernel)) (fun _ _ _ _ _ => pg_name (i := 8) S.nd rfl (.inl rfl)) (gw_name (by decide)) (fun _ _ _ _ _ => mts_nil) (fun _ _ _ _ _ => (me_tup (ma_cons (me_callTy call_tuple_of (sTuple rfl) (by rfl) n.n_tuple (by decide +kernel) (ma_cons (me_sl rfl (me_var (pv 8)) (mo_some me_int) mo_none) ma_nil)) (ma_cons (me_ix rfl (hu_of hr) (me_var (pv 8)) me_int (fun _ _ => rfl) (fun _ _ => rfl)) (ma_cons (me_ix rfl (hu_of hr) (me_var (pv 8)) me_int (fun _ _ => rfl) (fun _ _ => rfl)) ma_nil))))))
  (mb_one (ms_ret (me_cal c_need_bill rfl (hr.mono (by decide)) hg tk (by rfl) (ma_cons (me_tup (ma_cons (me_ix rfl (hu_of hr) (me_ix rfl (hu_of hr) (me_var (pv 4)) me_int (fun _ _ => rfl) (fun _ _ => rfl)) me_int (fun _ _ => rfl) (fun _ _ => rfl)) (ma_cons (me_callTy call_tuple_of (sTuple rfl) (by rfl) n.n_tuple (by decide +kernel) (ma_cons (me_var (pv 5)) ma_nil)) ma_nil))) ma_nil) 1 (len_cons len_nil) rfl rfl))))))))
theorem ok_number_in_row (n : Ns Γ mg) (F : Fun Γ.K "number_in_row" "number_in_row" s_number_in_row f fd) (x_BadText : XcR P w Γ.K mg base (Γ.cls 7) "BadText" "line") (c_is_number : Cal P w mg base Γ 1 "is_number" ["word", "most"] g_is_number) : FnG P w mg base Γ 3 f fd ["word"] g_number_in_row :=
  have S := sc_number_in_row
  ok_fn (N := ["word"]) (c := d_number_in_row) F S fun cdv A outer s H E W hr hg tk => (mb_cons (ms_if (mt_not (mt_val (me_cal c_is_number rfl (hr.mono (by decide)) hg tk (by rfl) (ma_cons (me_var (pv 0)) (ma_cons (me_globJ (by rfl) n.c_FIGURES_OF_A_ROW) ma_nil)) 2 (len_cons (len_cons len_nil)) rfl rfl))) (mb_one (ms_raise rfl x_BadText (hr.mono (by decide)) rfl tk (by rfl) me_int)) mb_nil)
  (mb_one (ms_ret (me_callTy call_intA sIntA (by rfl) n.n_int (by decide +kernel) (ma_cons (me_var (pv 0)) ma_nil)))))
theorem ok_read_row (n : Ns Γ mg) (F : Fun Γ.K "read_row" "read_row" s_read_row f fd) (x_BadText : XcR P w Γ.K mg base (Γ.cls 7) "BadText" "line") (c_need_row : Cal P w mg base Γ 3 "need_row" ["thing"] g_need_row) (c_number_in_row : Cal P w mg base Γ 3 "number_in_row" ["word"] g_number_in_row) : FnG P w mg base Γ 4 f fd ["string"] g_read_row :=
  have S := sc_read_row
  ok_fn (N := ["string", "word"]) (c := d_read_row) F S fun cdv A outer s H E W hr hg tk => (mb_cons (ms_if (mt_not (mt_val (me_callB cr_isiA (sIsiA rfl n.xi) (by rfl) n.n_isinstance (by decide +kernel) (ma_cons (me_var (pv 0)) (ma_cons (me_ty (by rfl) n.n_str (by decide +kernel)) ma_nil))))) (mb_one (ms_raise rfl x_BadText (hr.mono (by decide)) rfl tk (by rfl) me_int)) mb_nil)
  (mb_cons (ms_if (mt_cmp (opEq hr.units) sEq (nomark _) (me_var (pv 0)) (me_globS (by rfl) n.c_NO_RESULTS)) (mb_one (ms_ret (me_tup ma_nil))) mb_nil)
  (mb_one (ms_ret (me_cal c_need_row rfl (hr.mono (by decide)) hg tk (by rfl) (ma_cons (me_callTy call_tuple_of (sTuple rfl) (by rfl) n.n_tuple (by decide +kernel) (ma_cons (me_compX (own := [("word", 1)]) (g := (gName 1)) rfl rfl tk rfl S.nd (mi_seq rfl (me_m1 PySem.F.slot_str_split PySem.F.type_str_split mt_split sSplit (me_var (pv 0)) me_str)) (blkOk_by (own := [("word", 1)]) (N := ["string", "word"]) (sc := defScope s_read_row) (by decide +kernel)) (fun _ _ _ _ _ _ => pg_name (i := 1) S.nd rfl (.inl rfl)) (gw_name (by decide)) (fun _ _ _ _ _ _ => mts_nil) (fun _ _ _ _ _ _ _ tkF => (me_calF c_number_in_row rfl (hr.mono (by decide)) hg tkF (by rfl) (ma_cons (me_var (pv 1)) ma_nil) 1 (len_cons len_nil) rfl rfl))) ma_nil)) ma_nil) 1 (len_cons len_nil) rfl rfl)))))
theorem ok__law_begun (n : Ns Γ mg) (F : Fun Γ.K "_law_begun" "_law_begun" s__law_begun f fd) : FnG P w mg base Γ 1 f fd ["script"] g__law_begun :=
  have S := sc__law_begun
  ok_fn (N := ["script", "great", "cell"]) (c := d__law_begun) F S fun cdv A outer s H E W hr hg tk => (mb_cons (ms_setComp (i := 1) (own := [("cell", 2)]) (g := (gName 2)) rfl S.nd rfl rfl (sw_true rfl rfl rfl (by decide +kernel)) (mi_seq rfl (me_var (pv 0))) (blkOk_by (own := [("cell", 2)]) (N := ["script", "great", "cell"]) (sc := defScope s__law_begun) (by decide +kernel)) (fun _ _ _ _ _ => pg_name (i := 2) S.nd rfl (.inl rfl)) (gw_name (by decide)) (fun _ _ _ _ _ => mts_one (mt_cmp op_ge sCmp (nomark _) (me_var (pv 2)) (me_op op_pow sPow me_int me_int))) (fun _ _ _ _ _ => (me_var (pv 2))))
  (mb_one (ms_ret (me_dctM (ps := [((mK (.str "cells")), (mBin addD (mBlt listD (mCons (mVar 0) mNil)) (mLst (mCons (mBlt lenD (mCons (mVar 0) mNil)) mNil)))), ((mK (.str "left")), (mIf (mTest (mBin neD (mVar 1) (mLst mNil))) (mBin ixA (mVar 1) (mK (.int 0))) (mK (.int 0)))), ((mK (.str "spot")), (mK (.int 0)))]) (pps_cons me_str (me_op opAdd sAdd (me_callTy call_list_of (sList rfl) (by rfl) n.n_list (by decide +kernel) (ma_cons (me_var (pv 0)) ma_nil)) (me_lst (ma_cons (me_callB call_len (sLen rfl) (by rfl) n.n_len (by decide +kernel) (ma_cons (me_var (pv 0)) ma_nil)) ma_nil))) (pps_cons me_str (me_if (mt_cmp (opNe hr.units) sNe (nomark _) (me_var (pv 1)) (me_lst ma_nil)) (me_ix rfl (hu_of hr) (me_var (pv 1)) me_int (fun _ _ => rfl) (fun _ _ => rfl)) me_int) (pps_cons me_str me_int pps_nil))) rfl rfl (by decide) (by decide)))))
theorem ok__law_draw (n : Ns Γ mg) (F : Fun Γ.K "_law_draw" "_law_draw" s__law_draw f fd) : FnG P w mg base Γ 1 f fd ["m", "many"] g__law_draw :=
  have S := sc__law_draw
  ok_fn (N := ["m", "many", "found", "spot", "cell", "mixed"]) (c := d__law_draw) F S fun cdv A outer s H E W hr hg tk => (mb_cons (ms_if (mt_cmp op_gt sCmp (nomark _) (me_ix rfl (hu_of hr) (me_var (pv 0)) me_str (fun _ _ => rfl) (fun _ _ => rfl)) me_int) (mb_cons (ms_set (i := 2) S.nd rfl (.inl rfl) (me_op op_mod sMod (me_callTy call_int1 sInt (by rfl) n.n_int (by decide +kernel) (ma_cons (me_ix rfl (hu_of hr) (me_var (pv 0)) me_str (fun _ _ => rfl) (fun _ _ => rfl)) ma_nil)) (me_var (pv 1))))
  (mb_cons (ms_dput (hu_of hr) (me_var (pv 0)) me_str (me_op op_fdiv sDiv (me_ix rfl (hu_of hr) (me_var (pv 0)) me_str (fun _ _ => rfl) (fun _ _ => rfl)) (me_var (pv 1))) (by rfl))
  (mb_one (ms_ret (me_var (pv 2)))))) mb_nil)
  (mb_cons (ms_set (i := 3) S.nd rfl (.inl rfl) (me_op opAdd sAdd (me_ix rfl (hu_of hr) (me_var (pv 0)) me_str (fun _ _ => rfl) (fun _ _ => rfl)) me_int))
  (mb_cons (ms_dput (hu_of hr) (me_var (pv 0)) me_str (me_var (pv 3)) (by rfl))
  (mb_cons (ms_set (i := 4) S.nd rfl (.inl rfl) (me_ix rfl (hu_of hr) (me_ix rfl (hu_of hr) (me_var (pv 0)) me_str (fun _ _ => rfl) (fun _ _ => rfl)) (me_op op_mod sMod (me_callTy call_int1 sInt (by rfl) n.n_int (by decide +kernel) (ma_cons (me_var (pv 3)) ma_nil)) (me_callB call_len (sLen rfl) (by rfl) n.n_len (by decide +kernel) (ma_cons (me_ix rfl (hu_of hr) (me_var (pv 0)) me_str (fun _ _ => rfl) (fun _ _ => rfl)) ma_nil))) (fun _ _ => rfl) (fun _ _ => rfl)))
  (mb_cons (ms_set (i := 5) S.nd rfl (.inl rfl) (me_op opMul sMul (me_callTy call_int1 sInt (by rfl) n.n_int (by decide +kernel) (ma_cons (me_op opAdd sAdd (me_op opAdd sAdd (me_op op_mod sMod (me_callTy call_int1 sInt (by rfl) n.n_int (by decide +kernel) (ma_cons (me_var (pv 4)) ma_nil)) me_int) (me_op opMul sMul me_int (me_var (pv 3)))) (me_op opMul sMul (me_op opMul sMul me_int (me_var (pv 3))) (me_var (pv 3)))) ma_nil)) me_int))
  (mb_cons (ms_set (i := 5) S.nd rfl (.inl rfl) (me_op opMul sMul (me_callTy call_int1 sInt (by rfl) n.n_int (by decide +kernel) (ma_cons (me_op opAdd sAdd (me_op op_mod sMod (me_callTy call_int1 sInt (by rfl) n.n_int (by decide +kernel) (ma_cons (me_var (pv 5)) ma_nil)) me_int) (me_op opMul sMul me_int (me_var (pv 3)))) ma_nil)) me_int))
  (mb_one (ms_ret (me_op op_mod sMod (me_callTy call_int1 sInt (by rfl) n.n_int (by decide +kernel) (ma_cons (me_op op_fdiv sDiv (me_op op_mod sMod (me_callTy call_int1 sInt (by rfl) n.n_int (by decide +kernel) (ma_cons (me_var (pv 5)) ma_nil)) me_int) me_int) ma_nil)) (me_var (pv 1)))))))))))
theorem ok__law_of (n : Ns Γ mg) (F : Fun Γ.K "_law_of" "_law_of" s__law_of f fd) (c__law_draw : Cal P w mg base Γ 1 "_law_draw" ["m", "many"] g__law_draw) : FnG P w mg base Γ 2 f fd ["m", "some"] g__law_of :=
  have S := sc__law_of
  ok_fn (N := ["m", "some"]) (c := d__law_of) F S fun cdv A outer s H E W hr hg tk => (mb_one (ms_ret (me_ix rfl (hu_of hr) (me_var (pv 1)) (me_cal c__law_draw rfl (hr.mono (by decide)) hg tk (by rfl) (ma_cons (me_var (pv 0)) (ma_cons (me_callB call_len (sLen rfl) (by rfl) n.n_len (by decide +kernel) (ma_cons (me_var (pv 1)) ma_nil)) ma_nil)) 2 (len_cons (len_cons len_nil)) rfl rfl) (fun _ _ => rfl) (fun _ _ => rfl))))
theorem ok__law_weights (n : Ns Γ mg) (F : Fun Γ.K "_law_weights" "_law_weights" s__law_weights f fd) (c__law_draw : Cal P w mg base Γ 1 "_law_draw" ["m", "many"] g__law_draw) : FnG P w mg base Γ 2 f fd ["m", "most"] g__law_weights :=
  have S := sc__law_weights
  ok_fn (N := ["m", "most", "wide", "some", "k"]) (c := d__law_weights) F S fun cdv A outer s H E W hr hg tk => (mb_cons (ms_set (i := 2) S.nd rfl (.inr rfl) (me_cal c__law_draw rfl (hr.mono (by decide)) hg tk (by rfl) (ma_cons (me_var (pv 0)) (ma_cons me_int ma_nil)) 2 (len_cons (len_cons len_nil)) rfl rfl))
  (mb_cons (ms_setComp (i := 3) (own := [("k", 4)]) (g := (gName 4)) rfl S.nd rfl rfl (sw_true rfl rfl rfl (by decide +kernel)) (mi_range1 (by rfl) n.n_range (ma_cons (me_op opAdd sAdd me_int (me_cal c__law_draw rfl (hr.mono (by decide)) hg tk (by rfl) (ma_cons (me_var (pv 0)) (ma_cons (me_var (pv 1)) ma_nil)) 2 (len_cons (len_cons len_nil)) rfl rfl)) ma_nil)) (blkOk_by (own := [("k", 4)]) (N := ["m", "most", "wide", "some", "k"]) (sc := defScope s__law_weights) (by decide +kernel)) (fun _ _ _ _ _ => pg_name (i := 4) S.nd rfl (.inl rfl)) (gw_name (by decide)) (fun _ _ _ _ _ => mts_nil) (fun _ _ _ _ _ => (me_if (mt_cmp (opEq hr.units) sEq (nomark _) (me_var (pv 2)) me_int) (me_op op_sub sSub (me_cal c__law_draw rfl (hr.mono (by decide)) hg tk0 (by rfl) (ma_cons (me_var (pv 0)) (ma_cons me_int ma_nil)) 2 (len_cons (len_cons len_nil)) rfl rfl) me_int) (me_cal c__law_draw rfl (hr.mono (by decide)) hg tk0 (by rfl) (ma_cons (me_var (pv 0)) (ma_cons me_int ma_nil)) 2 (len_cons (len_cons len_nil)) rfl rfl))))
  (mb_one (ms_ret (me_callTy call_tuple_of (sTuple rfl) (by rfl) n.n_tuple (by decide +kernel) (ma_cons (me_var (pv 3)) ma_nil))))))
theorem ok__law_drawn_bill (n : Ns Γ mg) (F : Fun Γ.K "_law_drawn_bill" "_law_drawn_bill" s__law_drawn_bill f fd) (c__law_of : Cal P w mg base Γ 2 "_law_of" ["m", "some"] g__law_of) (c__law_draw : Cal P w mg base Γ 1 "_law_draw" ["m", "many"] g__law_draw) (c__law_weights : Cal P w mg base Γ 2 "_law_weights" ["m", "most"] g__law_weights) : FnG P w mg base Γ 3 f fd ["m", "most"] g__law_drawn_bill :=
  have S := sc__law_drawn_bill
  ok_fn (N := ["m", "most", "own", "terms", "k"]) (c := d__law_drawn_bill) F S fun cdv A outer s H E W hr hg tk => (mb_cons (ms_par rfl S.nd rfl rfl (by decide) rfl rfl (ma_cons (me_cal c__law_of rfl (hr.mono (by decide)) hg tk (by rfl) (ma_cons (me_var (pv 0)) (ma_cons (me_lst (ma_cons me_int (ma_cons me_int (ma_cons me_int (ma_cons (me_un un_neg sNeg me_int) (ma_cons (me_op op_sub sSub (me_cal c__law_draw rfl (hr.mono (by decide)) hg tk (by rfl) (ma_cons (me_var (pv 0)) (ma_cons me_int ma_nil)) 2 (len_cons (len_cons len_nil)) rfl rfl) me_int) ma_nil)))))) ma_nil)) 2 (len_cons (len_cons len_nil)) rfl rfl) (ma_cons (me_lstM ma_nil) ma_nil)) (by rfl))
  (mb_cons (ms_for (passes_of rfl) rfl (mi_range1 (by rfl) n.n_range (ma_cons (me_cal c__law_draw rfl (hr.mono (by decide)) hg tk (by rfl) (ma_cons (me_var (pv 0)) (ma_cons me_int ma_nil)) 2 (len_cons (len_cons len_nil)) rfl rfl) ma_nil)) (mg_name (pg_name (i := 4) S.nd rfl (.inl rfl))) (mb_one (ms_expr (me_app (pe_bm PySem.F.plainAttrs_list PySem.F.slot_list_append PySem.F.type_list_append mt_append (me_var (pv 3)) (pa_cons (me_tup (ma_cons (me_cal c__law_weights rfl (hr.mono (by decide)) hg tk (by rfl) (ma_cons (me_var (pv 0)) (ma_cons (me_var (pv 1)) ma_nil)) 2 (len_cons (len_cons len_nil)) rfl rfl) (ma_cons (me_op op_sub sSub (me_cal c__law_draw rfl (hr.mono (by decide)) hg tk (by rfl) (ma_cons (me_var (pv 0)) (ma_cons me_int ma_nil)) 2 (len_cons (len_cons len_nil)) rfl rfl) me_int) (ma_cons (me_op op_sub sSub (me_cal c__law_draw rfl (hr.mono (by decide)) hg tk (by rfl) (ma_cons (me_var (pv 0)) (ma_cons me_int ma_nil)) 2 (len_cons (len_cons len_nil)) rfl rfl) me_int) ma_nil)))) pa_nil))))))
  (mb_one (ms_ret (me_tup (ma_cons (me_var (pv 2)) (ma_cons (me_callTy call_tuple_of (sTuple rfl) (by rfl) n.n_tuple (by decide +kernel) (ma_cons (me_var (pv 3)) ma_nil)) ma_nil)))))))
theorem ok__law_drawn_row (n : Ns Γ mg) (F : Fun Γ.K "_law_drawn_row" "_law_drawn_row" s__law_drawn_row f fd) (c__law_draw : Cal P w mg base Γ 1 "_law_draw" ["m", "many"] g__law_draw) : FnG P w mg base Γ 2 f fd ["m", "least", "more", "high"] g__law_drawn_row :=
  have S := sc__law_drawn_row
  ok_fn (N := ["m", "least", "more", "high", "k"]) (c := d__law_drawn_row) F S fun cdv A outer s H E W hr hg tk => (mb_one (ms_ret (me_callTy call_tuple_of (sTuple rfl) (by rfl) n.n_tuple (by decide +kernel) (ma_cons (me_comp (own := [("k", 4)]) (g := (gName 4)) rfl S.nd (mi_range1 (by rfl) n.n_range (ma_cons (me_op opAdd sAdd (me_var (pv 1)) (me_cal c__law_draw rfl (hr.mono (by decide)) hg tk (by rfl) (ma_cons (me_var (pv 0)) (ma_cons (me_op opAdd sAdd (me_var (pv 2)) me_int) ma_nil)) 2 (len_cons (len_cons len_nil)) rfl rfl)) ma_nil)) (blkOk_by (own := [("k", 4)]) (N := ["m", "least", "more", "high", "k"]) (sc := defScope s__law_drawn_row) (by decide +kernel)) (fun _ _ _ _ _ => pg_name (i := 4) S.nd rfl (.inl rfl)) (gw_name (by decide)) (fun _ _ _ _ _ => mts_nil) (fun _ _ _ _ _ => (me_cal c__law_draw rfl (hr.mono (by decide)) hg tk0 (by rfl) (ma_cons (me_var (pv 0)) (ma_cons (me_op opAdd sAdd (me_var (pv 3)) me_int) ma_nil)) 2 (len_cons (len_cons len_nil)) rfl rfl))) ma_nil))))
theorem ok__law_word (n : Ns Γ mg) (F : Fun Γ.K "_law_word" "_law_word" s__law_word f fd) : FnG P w mg base Γ 1 f fd ["error"] g__law_word :=
  have S := sc__law_word
  ok_fn (N := ["error", "found"]) (c := d__law_word) F S fun cdv A outer s H E W hr hg tk => (mb_cons (ms_set (i := 1) S.nd rfl (.inl rfl) (me_lstM ma_nil))
  (mb_cons (ms_if (mt_val (me_callB cr_isiA (sIsiA rfl n.xi) (by rfl) n.n_isinstance (by decide +kernel) (ma_cons (me_var (pv 0)) (ma_cons (me_cls (by rfl) n.k_BadRule) ma_nil)))) (mb_one (ms_expr (me_app (pe_bm PySem.F.plainAttrs_list PySem.F.slot_list_append PySem.F.type_list_append mt_append (me_var (pv 1)) (pa_cons (me_tup (ma_cons me_str (ma_cons (me_fld rfl n.xi n.f_number (me_var (pv 0))) ma_nil))) pa_nil))))) mb_nil)
  (mb_cons (ms_if (mt_val (me_callB cr_isiA (sIsiA rfl n.xi) (by rfl) n.n_isinstance (by decide +kernel) (ma_cons (me_var (pv 0)) (ma_cons (me_cls (by rfl) n.k_BadRow) ma_nil)))) (mb_one (ms_expr (me_app (pe_bm PySem.F.plainAttrs_list PySem.F.slot_list_append PySem.F.type_list_append mt_append (me_var (pv 1)) (pa_cons (me_tup (ma_cons me_str (ma_cons (me_fld rfl n.xi n.f_number (me_var (pv 0))) ma_nil))) pa_nil))))) mb_nil)
  (mb_cons (ms_if (mt_val (me_callB cr_isiA (sIsiA rfl n.xi) (by rfl) n.n_isinstance (by decide +kernel) (ma_cons (me_var (pv 0)) (ma_cons (me_cls (by rfl) n.k_BadBill) ma_nil)))) (mb_one (ms_expr (me_app (pe_bm PySem.F.plainAttrs_list PySem.F.slot_list_append PySem.F.type_list_append mt_append (me_var (pv 1)) (pa_cons (me_tup (ma_cons me_str (ma_cons (me_fld rfl n.xi n.f_part (me_var (pv 0))) ma_nil))) pa_nil))))) mb_nil)
  (mb_cons (ms_if (mt_val (me_callB cr_isiA (sIsiA rfl n.xi) (by rfl) n.n_isinstance (by decide +kernel) (ma_cons (me_var (pv 0)) (ma_cons (me_cls (by rfl) n.k_BadNumber) ma_nil)))) (mb_one (ms_expr (me_app (pe_bm PySem.F.plainAttrs_list PySem.F.slot_list_append PySem.F.type_list_append mt_append (me_var (pv 1)) (pa_cons (me_tup (ma_cons me_str (ma_cons (me_fld rfl n.xi n.f_value (me_var (pv 0))) ma_nil))) pa_nil))))) mb_nil)
  (mb_cons (ms_if (mt_val (me_callB cr_isiA (sIsiA rfl n.xi) (by rfl) n.n_isinstance (by decide +kernel) (ma_cons (me_var (pv 0)) (ma_cons (me_cls (by rfl) n.k_BadKind) ma_nil)))) (mb_one (ms_expr (me_app (pe_bm PySem.F.plainAttrs_list PySem.F.slot_list_append PySem.F.type_list_append mt_append (me_var (pv 1)) (pa_cons (me_tup (ma_cons me_str (ma_cons (me_fld rfl n.xi n.f_value (me_var (pv 0))) ma_nil))) pa_nil))))) mb_nil)
  (mb_cons (ms_if (mt_val (me_callB cr_isiA (sIsiA rfl n.xi) (by rfl) n.n_isinstance (by decide +kernel) (ma_cons (me_var (pv 0)) (ma_cons (me_cls (by rfl) n.k_BadPaper) ma_nil)))) (mb_one (ms_expr (me_app (pe_bm PySem.F.plainAttrs_list PySem.F.slot_list_append PySem.F.type_list_append mt_append (me_var (pv 1)) (pa_cons (me_tup (ma_cons me_str (ma_cons (me_fld rfl n.xi n.f_part (me_var (pv 0))) ma_nil))) pa_nil))))) mb_nil)
  (mb_cons (ms_if (mt_val (me_callB cr_isiA (sIsiA rfl n.xi) (by rfl) n.n_isinstance (by decide +kernel) (ma_cons (me_var (pv 0)) (ma_cons (me_cls (by rfl) n.k_BadText) ma_nil)))) (mb_one (ms_expr (me_app (pe_bm PySem.F.plainAttrs_list PySem.F.slot_list_append PySem.F.type_list_append mt_append (me_var (pv 1)) (pa_cons (me_tup (ma_cons me_str (ma_cons (me_fld rfl n.xi n.f_line (me_var (pv 0))) ma_nil))) pa_nil))))) mb_nil)
  (mb_cons (ms_if (mt_val (me_callB cr_isiA (sIsiA rfl n.xi) (by rfl) n.n_isinstance (by decide +kernel) (ma_cons (me_var (pv 0)) (ma_cons (me_cls (by rfl) n.k_Nothing) ma_nil)))) (mb_one (ms_expr (me_app (pe_bm PySem.F.plainAttrs_list PySem.F.slot_list_append PySem.F.type_list_append mt_append (me_var (pv 1)) (pa_cons (me_tup (ma_cons me_str (ma_cons (me_fld rfl n.xi n.f_value (me_var (pv 0))) ma_nil))) pa_nil))))) mb_nil)
  (mb_one (ms_ret (me_if (mt_cmp (opEq hr.units) sEq (nomark _) (me_callB call_len (sLen rfl) (by rfl) n.n_len (by decide +kernel) (ma_cons (me_var (pv 1)) ma_nil)) me_int) (me_ix rfl (hu_of hr) (me_var (pv 1)) me_int (fun _ _ => rfl) (fun _ _ => rfl)) (me_tup (ma_cons me_str (ma_cons me_non ma_nil)))))))))))))))
theorem ok__law_outcome (n : Ns Γ mg) (F : Fun Γ.K "_law_outcome" "_law_outcome" s__law_outcome f fd) (c__law_word : Cal P w mg base Γ 1 "_law_word" ["error"] g__law_word) (hden : ∀ (cl : Dv) (g : Sto → R Dv) (wa : List Dv) (s : Sto), finC s.length (d__law_outcome cl g (startD 4 (cl :: wa)) s) = h__law_outcome g wa s) : FnL P w mg base Γ 9 8 f fd ["call"] h__law_outcome :=
  have S := sc__law_outcome
  ok_fnL (N := ["call", "found", "error", "e"]) (c := d__law_outcome) F S (fun cdv A outer s H E W f' c' q ws vs g T hr hg tk => (mb_cons (ms_setT (me_tup (ma_cons me_non (ma_cons me_non ma_nil))) (mg_tup' rfl rfl (mgs_cons' (mg_name (pg_name (i := 1) S.nd rfl (.inl rfl))) (mgs_cons' (mg_name (pg_name (i := 2) S.nd rfl (.inl rfl))) mgs_nil))))
  (mb_cons (ms_tryKeep (i := 3) rfl rfl S.nd rfl rfl ⟨by rfl, by decide, .inl n.k_ResultError⟩ ⟨by rfl, by decide, .inl n.k_Nothing⟩ tk n.ex (fun W pn xe tk => (mb_one (ms_set (i := 1) S.nd rfl (.inl rfl) (me_thk T rfl rfl (hr.mono (by decide)) hg tk rfl (.inl rfl))))) (fun a pn => (mb_one (ms_set (i := 2) S.nd rfl (.inl rfl) (me_var (pv 3))))))
  (mb_one (ms_ret (me_if (mt_cmp op_isC sIsC (nomark _) (me_var (pv 2)) me_non) (me_lst (ma_cons (me_var (pv 1)) ma_nil)) (me_cal c__law_word rfl (hr.mono (by decide)) hg tk (by rfl) (ma_cons (me_var (pv 2)) ma_nil) 1 (len_cons len_nil) rfl rfl))))))) hden
theorem ok__law_is_number (n : Ns Γ mg) (F : Fun Γ.K "_law_is_number" "_law_is_number" s__law_is_number f fd) : FnG P w mg base Γ 1 f fd ["word", "most"] g__law_is_number :=
  have S := sc__law_is_number
  ok_fn (N := ["word", "most", "figures", "sign"]) (c := d__law_is_number) F S fun cdv A outer s H E W hr hg tk => (mb_cons (ms_set (i := 2) S.nd rfl (.inl rfl) (me_if (mt_cmp (opEq hr.units) sEq (nomark _) (me_slS (me_var (pv 0)) mo_none (mo_some me_int)) me_str) (me_slS (me_var (pv 0)) (mo_some me_int) mo_none) (me_var (pv 0))))
  (mb_cons (ms_if (mt_w (mw_or (mt_not (mt_chain op_le op_le sCmp sCmp (by rfl) me_int (me_callB call_len (sLen rfl) (by rfl) n.n_len (by decide +kernel) (ma_cons (me_var (pv 2)) ma_nil)) (me_var (pv 1)))) (mw_or1 (mt_cmp (opNe hr.units) sNe (nomark _) (me_comp (own := [("sign", 3)]) (g := (gName 3)) rfl S.nd (mi_str (me_var (pv 2))) (blkOk_by (own := [("sign", 3)]) (N := ["word", "most", "figures", "sign"]) (sc := defScope s__law_is_number) (by decide +kernel)) (fun _ _ _ _ _ => pg_name (i := 3) S.nd rfl (.inl rfl)) (gw_name (by decide)) (fun _ _ _ _ _ => mts_one (mt_cmp op_notIn_sign sNinS (by rfl) (me_var (pv 3)) me_str)) (fun _ _ _ _ _ => (me_var (pv 3)))) (me_lst ma_nil))))) (mb_one (ms_ret me_bl)) mb_nil)
  (mb_one (ms_ret (me_or (me_cmp (opNe hr.units) sNe (nomark _) (me_ixS (me_var (pv 2)) me_int (fun _ _ => rfl)) me_str) (me_one (me_cmp (opEq hr.units) sEq (nomark _) (me_var (pv 0)) me_str)))))))
theorem ok__law_wrong_part (n : Ns Γ mg) (F : Fun Γ.K "_law_wrong_part" "_law_wrong_part" s__law_wrong_part f fd) : FnG P w mg base Γ 1 f fd ["bill_so"] g__law_wrong_part :=
  have S := sc__law_wrong_part
  ok_fn (N := ["bill_so", "number", "term", "one"]) (c := d__law_wrong_part) F S fun cdv A outer s H E W hr hg tk => (mb_cons (ms_if (mt_not (mt_chain op_le op_le sCmp sCmp (by rfl) (me_un un_neg sNeg me_int) (me_ix rfl (hu_of hr) (me_var (pv 0)) me_int (fun _ _ => rfl) (fun _ _ => rfl)) me_int)) (mb_one (ms_ret (me_lst (ma_cons me_str ma_nil)))) mb_nil)
  (mb_cons (ms_for (passes_of rfl) rfl (mi_enum rfl (by rfl) n.n_enumerate (ma_cons (me_ix rfl (hu_of hr) (me_var (pv 0)) me_int (fun _ _ => rfl) (fun _ _ => rfl)) ma_nil)) (mg_tup' rfl rfl (mgs_cons' (mg_name (pg_name (i := 1) S.nd rfl (.inl rfl))) (mgs_cons' (mg_name (pg_name (i := 2) S.nd rfl (.inl rfl))) mgs_nil))) (mb_one (ms_if (mt_w (mw_or (mt_cmp (opNe hr.units) sNe (nomark _) (me_comp (own := [("one", 3)]) (g := (gName 3)) rfl S.nd (mi_seq rfl (me_ix rfl (hu_of hr) (me_var (pv 2)) me_int (fun _ _ => rfl) (fun _ _ => rfl))) (blkOk_by (own := [("one", 3)]) (N := ["bill_so", "number", "term", "one"]) (sc := defScope s__law_wrong_part) (by decide +kernel)) (fun _ _ _ _ _ => pg_name (i := 3) S.nd rfl (.inl rfl)) (gw_name (by decide)) (fun _ _ _ _ _ => mts_one (mt_not (mt_chain op_le op_le sCmp sCmp (by rfl) (me_un un_neg sNeg me_int) (me_var (pv 3)) me_int))) (fun _ _ _ _ _ => (me_var (pv 3)))) (me_lst ma_nil)) (mw_or (mt_not (mt_chain op_le op_le sCmp sCmp (by rfl) (me_un un_neg sNeg me_int) (me_ix rfl (hu_of hr) (me_var (pv 2)) me_int (fun _ _ => rfl) (fun _ _ => rfl)) me_int)) (mw_or1 (mt_not (mt_chain op_le op_le sCmp sCmp (by rfl) (me_un un_neg sNeg me_int) (me_ix rfl (hu_of hr) (me_var (pv 2)) me_int (fun _ _ => rfl) (fun _ _ => rfl)) me_int)))))) (mb_one (ms_ret (me_lst (ma_cons (me_var (pv 1)) ma_nil)))) mb_nil)))
  (mb_one (ms_ret (me_lst ma_nil)))))
theorem ok__law_bill_due (n : Ns Γ mg) (F : Fun Γ.K "_law_bill_due" "_law_bill_due" s__law_bill_due f fd) (c__law_is_number : Cal P w mg base Γ 1 "_law_is_number" ["word", "most"] g__law_is_number) (c__law_wrong_part : Cal P w mg base Γ 1 "_law_wrong_part" ["bill_so"] g__law_wrong_part) : FnG P w mg base Γ 2 f fd ["page"] g__law_bill_due :=
  have S := sc__law_bill_due
  ok_fn (N := ["page", "own", "terms", "number", "row", "words", "is_right", "some", "found", "wrong", "word"]) (c := d__law_bill_due) F S fun cdv A outer s H E W hr hg tk => (mb_cons (ms_if (mt_not (mt_val (me_callB cr_isiA (sIsiA rfl n.xi) (by rfl) n.n_isinstance (by decide +kernel) (ma_cons (me_var (pv 0)) (ma_cons (me_ty (by rfl) n.n_str (by decide +kernel)) ma_nil))))) (mb_one (ms_ret (me_tup (ma_cons me_str (ma_cons me_int ma_nil))))) mb_nil)
  (mb_cons (ms_par rfl S.nd rfl rfl (by decide) rfl rfl (ma_cons me_non (ma_cons (me_lst ma_nil) ma_nil)) (by rfl))
  (mb_cons (ms_for (passes_of rfl) rfl (mi_enum rfl (by rfl) n.n_enumerate (ma_cons (me_m1 PySem.F.slot_str_split PySem.F.type_str_split mt_split sSplit (me_var (pv 0)) me_str) ma_nil)) (mg_tup' rfl rfl (mgs_cons' (mg_name (pg_name (i := 3) S.nd rfl (.inl rfl))) (mgs_cons' (mg_name (pg_name (i := 4) S.nd rfl (.inl rfl))) mgs_nil))) (mb_cons (ms_set (i := 5) S.nd rfl (.inl rfl) (me_m1 PySem.F.slot_str_split PySem.F.type_str_split mt_split sSplit (me_var (pv 4)) me_str))
  (mb_cons (ms_set (i := 6) S.nd rfl (.inl rfl) (me_cmp (opEq hr.units) sEq (nomark _) (me_comp (own := [("word", 10)]) (g := (gName 10)) rfl S.nd (mi_seq rfl (me_sl rfl (me_var (pv 5)) (mo_some me_int) mo_none)) (blkOk_by (own := [("word", 10)]) (N := ["page", "own", "terms", "number", "row", "words", "is_right", "some", "found", "wrong", "word"]) (sc := defScope s__law_bill_due) (by decide +kernel)) (fun _ _ _ _ _ => pg_name (i := 10) S.nd rfl (.inl rfl)) (gw_name (by decide)) (fun _ _ _ _ _ => mts_one (mt_not (mt_val (me_cal c__law_is_number rfl (hr.mono (by decide)) hg tk0 (by rfl) (ma_cons (me_var (pv 10)) (ma_cons me_int ma_nil)) 2 (len_cons (len_cons len_nil)) rfl rfl)))) (fun _ _ _ _ _ => (me_var (pv 10)))) (me_lst ma_nil)))
  (mb_cons (ms_if (mt_w (mw_or (mt_w (mw_and (mt_cmp (opEq hr.units) sEq (nomark _) (me_var (pv 3)) me_int) (mw_and1 (mt_w (mw_or (mt_cmp (opNe hr.units) sNe (nomark _) (me_ix rfl (hu_of hr) (me_var (pv 5)) me_int (fun _ _ => rfl) (fun _ _ => rfl)) me_str) (mw_or1 (mt_cmp (opNe hr.units) sNe (nomark _) (me_callB call_len (sLen rfl) (by rfl) n.n_len (by decide +kernel) (ma_cons (me_var (pv 5)) ma_nil)) me_int))))))) (mw_or (mt_not (mt_val (me_var (pv 6)))) (mw_or1 (mt_cmp op_gt sCmp (nomark _) (me_var (pv 3)) me_int))))) (mb_one (ms_ret (me_tup (ma_cons me_str (ma_cons (me_op opAdd sAdd (me_var (pv 3)) me_int) ma_nil))))) mb_nil)
  (mb_cons (ms_if (mt_w (mw_and (mt_cmp op_gt sCmp (nomark _) (me_var (pv 3)) me_int) (mw_and1 (mt_w (mw_or (mt_cmp (opNe hr.units) sNe (nomark _) (me_ix rfl (hu_of hr) (me_var (pv 5)) me_int (fun _ _ => rfl) (fun _ _ => rfl)) me_str) (mw_or1 (mt_not (mt_chain op_le op_le sCmp sCmp (by rfl) me_int (me_callB call_len (sLen rfl) (by rfl) n.n_len (by decide +kernel) (ma_cons (me_var (pv 5)) ma_nil)) me_int)))))))) (mb_one (ms_ret (me_tup (ma_cons me_str (ma_cons (me_op opAdd sAdd (me_var (pv 3)) me_int) ma_nil))))) mb_nil)
  (mb_cons (ms_setComp (i := 7) (own := [("word", 10)]) (g := (gName 10)) rfl S.nd rfl rfl (sw_true rfl rfl rfl (by decide +kernel)) (mi_seq rfl (me_sl rfl (me_var (pv 5)) (mo_some me_int) mo_none)) (blkOk_by (own := [("word", 10)]) (N := ["page", "own", "terms", "number", "row", "words", "is_right", "some", "found", "wrong", "word"]) (sc := defScope s__law_bill_due) (by decide +kernel)) (fun _ _ _ _ _ => pg_name (i := 10) S.nd rfl (.inl rfl)) (gw_name (by decide)) (fun _ _ _ _ _ => mts_nil) (fun _ _ _ _ _ => (me_callTy call_intA sIntA (by rfl) n.n_int (by decide +kernel) (ma_cons (me_var (pv 10)) ma_nil))))
  (mb_cons (ms_set (i := 1) S.nd rfl (.inl rfl) (me_if (mt_cmp (opEq hr.units) sEq (nomark _) (me_var (pv 3)) me_int) (me_ix rfl (hu_of hr) (me_var (pv 7)) me_int (fun _ _ => rfl) (fun _ _ => rfl)) (me_var (pv 1))))
  (mb_one (ms_set (i := 2) S.nd rfl (.inl rfl) (me_op opAdd sAdd (me_var (pv 2)) (me_if (mt_cmp op_gt sCmp (nomark _) (me_var (pv 3)) me_int) (me_lst (ma_cons (me_tup (ma_cons (me_callTy call_tuple_of (sTuple rfl) (by rfl) n.n_tuple (by decide +kernel) (ma_cons (me_sl rfl (me_var (pv 7)) (mo_some me_int) mo_none) ma_nil)) (ma_cons (me_ix rfl (hu_of hr) (me_var (pv 7)) me_int (fun _ _ => rfl) (fun _ _ => rfl)) (ma_cons (me_ix rfl (hu_of hr) (me_var (pv 7)) me_int (fun _ _ => rfl) (fun _ _ => rfl)) ma_nil)))) ma_nil)) (me_lst ma_nil))))))))))))
  (mb_cons (ms_set (i := 8) S.nd rfl (.inl rfl) (me_tup (ma_cons (me_var (pv 1)) (ma_cons (me_callTy call_tuple_of (sTuple rfl) (by rfl) n.n_tuple (by decide +kernel) (ma_cons (me_var (pv 2)) ma_nil)) ma_nil))))
  (mb_cons (ms_set (i := 9) S.nd rfl (.inl rfl) (me_cal c__law_wrong_part rfl (hr.mono (by decide)) hg tk (by rfl) (ma_cons (me_var (pv 8)) ma_nil) 1 (len_cons len_nil) rfl rfl))
  (mb_one (ms_ret (me_if (mt_cmp (opEq hr.units) sEq (nomark _) (me_var (pv 9)) (me_lst ma_nil)) (me_lst (ma_cons (me_var (pv 8)) ma_nil)) (me_tup (ma_cons me_str (ma_cons (me_ix rfl (hu_of hr) (me_var (pv 9)) me_int (fun _ _ => rfl) (fun _ _ => rfl)) ma_nil)))))))))))
theorem ok__law_row_due (n : Ns Γ mg) (F : Fun Γ.K "_law_row_due" "_law_row_due" s__law_row_due f fd) (c__law_is_number : Cal P w mg base Γ 1 "_law_is_number" ["word", "most"] g__law_is_number) : FnG P w mg base Γ 2 f fd ["page"] g__law_row_due :=
  have S := sc__law_row_due
  ok_fn (N := ["page", "words", "found", "wrong", "word", "number", "result"]) (c := d__law_row_due) F S fun cdv A outer s H E W hr hg tk => (mb_cons (ms_if (mt_not (mt_val (me_callB cr_isiA (sIsiA rfl n.xi) (by rfl) n.n_isinstance (by decide +kernel) (ma_cons (me_var (pv 0)) (ma_cons (me_ty (by rfl) n.n_str (by decide +kernel)) ma_nil))))) (mb_one (ms_ret (me_tup (ma_cons me_str (ma_cons me_int ma_nil))))) mb_nil)
  (mb_cons (ms_if (mt_cmp (opEq hr.units) sEq (nomark _) (me_var (pv 0)) me_str) (mb_one (ms_ret (me_lst (ma_cons (me_tup ma_nil) ma_nil)))) mb_nil)
  (mb_cons (ms_set (i := 1) S.nd rfl (.inl rfl) (me_m1 PySem.F.slot_str_split PySem.F.type_str_split mt_split sSplit (me_var (pv 0)) me_str))
  (mb_cons (ms_if (mt_cmp (opNe hr.units) sNe (nomark _) (me_comp (own := [("word", 4)]) (g := (gName 4)) rfl S.nd (mi_seq rfl (me_var (pv 1))) (blkOk_by (own := [("word", 4)]) (N := ["page", "words", "found", "wrong", "word", "number", "result"]) (sc := defScope s__law_row_due) (by decide +kernel)) (fun _ _ _ _ _ => pg_name (i := 4) S.nd rfl (.inl rfl)) (gw_name (by decide)) (fun _ _ _ _ _ => mts_one (mt_not (mt_val (me_cal c__law_is_number rfl (hr.mono (by decide)) hg tk0 (by rfl) (ma_cons (me_var (pv 4)) (ma_cons me_int ma_nil)) 2 (len_cons (len_cons len_nil)) rfl rfl)))) (fun _ _ _ _ _ => (me_var (pv 4)))) (me_lst ma_nil)) (mb_one (ms_ret (me_tup (ma_cons me_str (ma_cons me_int ma_nil))))) mb_nil)
  (mb_cons (ms_set (i := 2) S.nd rfl (.inl rfl) (me_callTy call_tuple_of (sTuple rfl) (by rfl) n.n_tuple (by decide +kernel) (ma_cons (me_comp (own := [("word", 4)]) (g := (gName 4)) rfl S.nd (mi_seq rfl (me_var (pv 1))) (blkOk_by (own := [("word", 4)]) (N := ["page", "words", "found", "wrong", "word", "number", "result"]) (sc := defScope s__law_row_due) (by decide +kernel)) (fun _ _ _ _ _ => pg_name (i := 4) S.nd rfl (.inl rfl)) (gw_name (by decide)) (fun _ _ _ _ _ => mts_nil) (fun _ _ _ _ _ => (me_callTy call_intA sIntA (by rfl) n.n_int (by decide +kernel) (ma_cons (me_var (pv 4)) ma_nil)))) ma_nil)))
  (mb_cons (ms_if (mt_cmp op_gt sCmp (nomark _) (me_callB call_len (sLen rfl) (by rfl) n.n_len (by decide +kernel) (ma_cons (me_var (pv 2)) ma_nil)) me_int) (mb_one (ms_ret (me_tup (ma_cons me_str (ma_cons me_non ma_nil))))) mb_nil)
  (mb_cons (ms_setComp (i := 3) (own := [("number", 5), ("result", 6)]) (g := (gTup Γ.K 2 (gCons (gName 5) (gCons (gName 6) gNil)))) rfl S.nd rfl rfl (sw_true rfl rfl rfl (by decide +kernel)) (mi_enum rfl (by rfl) n.n_enumerate (ma_cons (me_var (pv 2)) ma_nil)) (blkOk_by (own := [("number", 5), ("result", 6)]) (N := ["page", "words", "found", "wrong", "word", "number", "result"]) (sc := defScope s__law_row_due) (by decide +kernel)) (fun _ _ _ _ _ => pg_tup rfl (pgs_cons (pg_name (i := 5) S.nd rfl (.inl rfl)) (pgs_cons (pg_name (i := 6) S.nd rfl (.inl rfl)) pgs_nil))) (gw_tup rfl (gws_cons (gw_name (by decide)) (gws_cons (gw_name (by decide)) gws_nil))) (fun _ _ _ _ _ => mts_one (mt_not (mt_chain op_le op_le sCmp sCmp (by rfl) me_int (me_var (pv 6)) (me_op op_pow sPow me_int me_int)))) (fun _ _ _ _ _ => (me_var (pv 5))))
  (mb_one (ms_ret (me_if (mt_cmp (opEq hr.units) sEq (nomark _) (me_var (pv 3)) (me_lst ma_nil)) (me_lst (ma_cons (me_var (pv 2)) ma_nil)) (me_tup (ma_cons me_str (ma_cons (me_ix rfl (hu_of hr) (me_var (pv 3)) me_int (fun _ _ => rfl) (fun _ _ => rfl)) ma_nil)))))))))))))
theorem ok__law_bent (n : Ns Γ mg) (F : Fun Γ.K "_law_bent" "_law_bent" s__law_bent f fd) (c__law_draw : Cal P w mg base Γ 1 "_law_draw" ["m", "many"] g__law_draw) (c__law_of : Cal P w mg base Γ 2 "_law_of" ["m", "some"] g__law_of) : FnG P w mg base Γ 3 f fd ["m", "page", "signs"] g__law_bent :=
  have S := sc__law_bent
  ok_fn (N := ["m", "page", "signs", "spot", "sign", "way", "cut", "parts", "at"]) (c := d__law_bent) F S fun cdv A outer s H E W hr hg tk => (mb_cons (ms_par3 rfl S.nd rfl rfl rfl (by decide) rfl rfl rfl (ma_cons (me_cal c__law_draw rfl (hr.mono (by decide)) hg tk (by rfl) (ma_cons (me_var (pv 0)) (ma_cons (me_op opAdd sAdd (me_callB call_len (sLen rfl) (by rfl) n.n_len (by decide +kernel) (ma_cons (me_var (pv 1)) ma_nil)) me_int) ma_nil)) 2 (len_cons (len_cons len_nil)) rfl rfl) (ma_cons (me_cal c__law_of rfl (hr.mono (by decide)) hg tk (by rfl) (ma_cons (me_var (pv 0)) (ma_cons (me_var (pv 2)) ma_nil)) 2 (len_cons (len_cons len_nil)) rfl rfl) (ma_cons (me_cal c__law_draw rfl (hr.mono (by decide)) hg tk (by rfl) (ma_cons (me_var (pv 0)) (ma_cons me_int ma_nil)) 2 (len_cons (len_cons len_nil)) rfl rfl) ma_nil))) (by rfl))
  (mb_cons (ms_if (mt_cmp op_lt sCmp (nomark _) (me_var (pv 5)) me_int) (mb_one (ms_ret (me_op opAdd sAdd (me_op opAdd sAdd (me_slS (me_var (pv 1)) mo_none (mo_some (me_var (pv 3)))) (me_op op_mul_str sMulS (me_var (pv 4)) (me_callTy call_intA sIntA (by rfl) n.n_int (by decide +kernel) (ma_cons (me_cmp op_lt sCmp (nomark _) (me_var (pv 5)) me_int) ma_nil)))) (me_slS (me_var (pv 1)) (mo_some (me_op opAdd sAdd (me_var (pv 3)) (me_callTy call_intA sIntA (by rfl) n.n_int (by decide +kernel) (ma_cons (me_cmp op_gt sCmp (nomark _) (me_var (pv 5)) me_int) ma_nil)))) mo_none)))) mb_nil)
  (mb_cons (ms_set (i := 6) S.nd rfl (.inl rfl) (me_if (mt_cmp op_lt sCmp (nomark _) (me_var (pv 5)) me_int) me_str me_str))
  (mb_cons (ms_set (i := 7) S.nd rfl (.inl rfl) (me_m1 PySem.F.slot_str_split PySem.F.type_str_split mt_split sSplit (me_var (pv 1)) (me_var (pv 6))))
  (mb_cons (ms_set (i := 8) S.nd rfl (.inl rfl) (me_cal c__law_draw rfl (hr.mono (by decide)) hg tk (by rfl) (ma_cons (me_var (pv 0)) (ma_cons (me_callB call_len (sLen rfl) (by rfl) n.n_len (by decide +kernel) (ma_cons (me_var (pv 7)) ma_nil)) ma_nil)) 2 (len_cons (len_cons len_nil)) rfl rfl))
  (mb_one (ms_ret (me_m1 PySem.F.slot_str_join PySem.F.type_str_join mt_join sJoin (me_var (pv 6)) (me_op opAdd sAdd (me_op opAdd sAdd (me_sl rfl (me_var (pv 7)) mo_none (mo_some (me_var (pv 8)))) (me_op opMul sMul (me_sl rfl (me_var (pv 7)) (mo_some (me_var (pv 8))) (mo_some (me_op opAdd sAdd (me_var (pv 8)) me_int))) (me_cal c__law_of rfl (hr.mono (by decide)) hg tk (by rfl) (ma_cons (me_var (pv 0)) (ma_cons (me_lst (ma_cons me_int (ma_cons me_int ma_nil))) ma_nil)) 2 (len_cons (len_cons len_nil)) rfl rfl))) (me_sl rfl (me_var (pv 7)) (mo_some (me_op opAdd sAdd (me_var (pv 8)) me_int)) mo_none))))))))))
theorem ok__law_judged {c0 : Addr} (n : Ns Γ mg) (F : Fun Γ.K "_law_judged" "_law_judged" s__law_judged f fd) (hc : fd.code = .ref c0) (TB : LamX.TabB base mg c0 (Γ.tb 0)) (c__law_bill_due : Cal P w mg base Γ 2 "_law_bill_due" ["page"] g__law_bill_due) (c__law_row_due : Cal P w mg base Γ 2 "_law_row_due" ["page"] g__law_row_due) (c__law_outcome : CalL P w mg base Γ 9 8 "_law_outcome" ["call"] h__law_outcome) (c_read_bill : Cal P w mg base Γ 7 "read_bill" ["string"] g_read_bill) (c_read_row : Cal P w mg base Γ 4 "read_row" ["string"] g_read_row) : FnG P w mg base Γ 10 f fd ["page"] g__law_judged :=
  have S := sc__law_judged
  ok_fnC (N := ["page", "due", "again", "heard"]) (c := d__law_judged) F hc S fun A outer s H E W hr hg tk => (mb_cons (ms_set (i := 1) S.nd rfl (.inl rfl) (me_lst (ma_cons (me_cal c__law_bill_due rfl (hr.mono (by decide)) hg tk (by rfl) (ma_cons (me_var (pv 0)) ma_nil) 1 (len_cons len_nil) rfl rfl) (ma_cons (me_cal c__law_row_due rfl (hr.mono (by decide)) hg tk (by rfl) (ma_cons (me_var (pv 0)) ma_nil) 1 (len_cons len_nil) rfl rfl) ma_nil))))
  (mb_cons (ms_for (passes_of rfl) rfl (mi_range1 (by rfl) n.n_range (ma_cons me_int ma_nil)) (mg_name (pg_name (i := 2) S.nd rfl (.inl rfl))) (mb_cons (ms_set (i := 3) S.nd rfl (.inl rfl) (me_lst (ma_cons (me_lamC (nt := 0) (n := 0) (kb := 7) (gb := l__law_judged_1) c__law_outcome rfl (hr.mono (by decide)) hg tk (by rfl) TB rfl (.inl ⟨fun _ => rfl, fun _ _ _ _ _ _ _ => rfl⟩) (lamN_by (N := ["page", "due", "again", "heard"]) (sc := defScope s__law_judged) (by decide +kernel)) (fun f c' A outer s H E W hr hg tk => (me_cal c_read_bill rfl (hr.mono (by decide)) hg tk (by rfl) (ma_cons (me_var (pv 0)) ma_nil) 1 (len_cons len_nil) rfl rfl)) ma_nil 0 len_nil rfl) (ma_cons (me_lamC (nt := 0) (n := 0) (kb := 7) (gb := l__law_judged_2) c__law_outcome rfl (hr.mono (by decide)) hg tk (by rfl) TB rfl (.inr ⟨"a", 0, _, _, rfl, rfl, rfl, fun _ _ _ _ _ _ _ _ => ⟨_, rfl, fun _ => rfl⟩⟩) (lamN_by (N := ["page", "due", "again", "heard"]) (sc := defScope s__law_judged) (by decide +kernel)) (fun f c' A outer s H E W hr hg tk => (me_cal c_read_row rfl (hr.mono (by decide)) hg tk (by rfl) (ma_cons (me_var (pv 0)) ma_nil) 1 (len_cons len_nil) rfl rfl)) ma_nil 0 len_nil rfl) ma_nil))))
  (mb_one (ms_if (mt_cmp (opNe hr.units) sNe (nomark _) (me_callB (cr_reprA hg hr.units) (sReprA rfl) (by rfl) n.n_repr (by decide +kernel) (ma_cons (me_var (pv 3)) ma_nil)) (me_callB (cr_reprA hg hr.units) (sReprA rfl) (by rfl) n.n_repr (by decide +kernel) (ma_cons (me_var (pv 1)) ma_nil))) (mb_one (ms_ret me_bl)) mb_nil))))
  (mb_one (ms_ret me_bl))))
theorem ok_law (n : Ns Γ mg) (F : Fun Γ.K "law" "law" s_law f fd) (c__law_begun : Cal P w mg base Γ 1 "_law_begun" ["script"] g__law_begun) (c__law_judged : Cal P w mg base Γ 10 "_law_judged" ["page"] g__law_judged) (c_bill_text : Cal P w mg base Γ 7 "bill_text" ["bill"] g_bill_text) (c__law_drawn_bill : Cal P w mg base Γ 3 "_law_drawn_bill" ["m", "most"] g__law_drawn_bill) (c_row_text : Cal P w mg base Γ 4 "row_text" ["row"] g_row_text) (c__law_drawn_row : Cal P w mg base Γ 2 "_law_drawn_row" ["m", "least", "more", "high"] g__law_drawn_row) (c__law_bent : Cal P w mg base Γ 3 "_law_bent" ["m", "page", "signs"] g__law_bent) : FnG P w mg base Γ 11 f fd ["script"] g_law :=
  have S := sc_law
  ok_fn (N := ["script", "m", "some", "lap", "page", "thing", "k"]) (c := d_law) F S fun cdv A outer s H E W hr hg tk => (mb_cons (ms_set (i := 1) S.nd rfl (.inr rfl) (me_cal c__law_begun rfl (hr.mono (by decide)) hg tk (by rfl) (ma_cons (me_var (pv 0)) ma_nil) 1 (len_cons len_nil) rfl rfl))
  (mb_cons (ms_set (i := 2) S.nd rfl (.inl rfl) (me_lst (ma_cons me_str (ma_cons me_str (ma_cons me_str (ma_cons me_str (ma_cons me_str (ma_cons me_str (ma_cons me_str (ma_cons me_str (ma_cons me_str (ma_cons me_str (ma_cons me_str (ma_cons me_str (ma_cons me_str ma_nil)))))))))))))))
  (mb_cons (ms_set (i := 2) S.nd rfl (.inl rfl) (me_op opAdd sAdd (me_var (pv 2)) (me_lst (ma_cons me_str (ma_cons me_str (ma_cons me_str (ma_cons me_str ma_nil)))))))
  (mb_cons (ms_set (i := 2) S.nd rfl (.inl rfl) (me_op opAdd sAdd (me_op opAdd sAdd (me_var (pv 2)) (me_comp (own := [("k", 6)]) (g := (gName 6)) rfl S.nd (mi_seq rfl (me_tup (ma_cons me_int (ma_cons me_int ma_nil)))) (blkOk_by (own := [("k", 6)]) (N := ["script", "m", "some", "lap", "page", "thing", "k"]) (sc := defScope s_law) (by decide +kernel)) (fun _ _ _ _ _ => pg_name (i := 6) S.nd rfl (.inl rfl)) (gw_name (by decide)) (fun _ _ _ _ _ => mts_nil) (fun _ _ _ _ _ => (me_op opAdd sAdd me_str (me_op op_mul_str sMulS me_str (me_var (pv 6))))))) (me_lst (ma_cons me_str (ma_cons me_str ma_nil)))))
  (mb_cons (ms_set (i := 2) S.nd rfl (.inl rfl) (me_op opAdd sAdd (me_var (pv 2)) (me_lst (ma_cons me_str (ma_cons me_str (ma_cons me_str (ma_cons me_str (ma_cons me_str (ma_cons me_str (ma_cons me_str (ma_cons me_str (ma_cons me_str (ma_cons me_str ma_nil)))))))))))))
  (mb_cons (ms_set (i := 2) S.nd rfl (.inl rfl) (me_op opAdd sAdd (me_var (pv 2)) (me_lst (ma_cons (me_m1 PySem.F.slot_str_join PySem.F.type_str_join mt_join sJoin me_str (me_op opMul sMul (me_lst (ma_cons me_str ma_nil)) me_int)) (ma_cons (me_m1 PySem.F.slot_str_join PySem.F.type_str_join mt_join sJoin me_str (me_op opMul sMul (me_lst (ma_cons me_str ma_nil)) me_int)) (ma_cons me_str (ma_cons me_str (ma_cons me_str (ma_cons me_str (ma_cons me_str (ma_cons me_str (ma_cons me_str ma_nil))))))))))))
  (mb_cons (ms_if (mt_cmp (opNe hr.units) sNe (nomark _) (me_comp (own := [("page", 4)]) (g := (gName 4)) rfl S.nd (mi_seq rfl (me_op opAdd sAdd (me_var (pv 2)) (me_lst (ma_cons me_non (ma_cons me_int (ma_cons (me_tup ma_nil) (ma_cons (me_lst (ma_cons me_str ma_nil)) (ma_cons me_bl (ma_cons me_dct0 ma_nil))))))))) (blkOk_by (own := [("page", 4)]) (N := ["script", "m", "some", "lap", "page", "thing", "k"]) (sc := defScope s_law) (by decide +kernel)) (fun _ _ _ _ _ => pg_name (i := 4) S.nd rfl (.inl rfl)) (gw_name (by decide)) (fun _ _ _ _ _ => mts_one (mt_not (mt_val (me_cal c__law_judged rfl (hr.mono (by decide)) hg tk0 (by rfl) (ma_cons (me_var (pv 4)) ma_nil) 1 (len_cons len_nil) rfl rfl)))) (fun _ _ _ _ _ => (me_var (pv 4)))) (me_lst ma_nil)) (mb_one (ms_ret me_bl)) mb_nil)
  (mb_cons (ms_for (passes_of rfl) rfl (mi_range1 (by rfl) n.n_range (ma_cons (me_op opAdd sAdd me_int (me_callB (call_min2 rfl) sMin2 (by rfl) n.n_min (by decide +kernel) (ma_cons (me_callB call_len (sLen rfl) (by rfl) n.n_len (by decide +kernel) (ma_cons (me_var (pv 0)) ma_nil)) (ma_cons me_int ma_nil)))) ma_nil)) (mg_name (pg_name (i := 3) S.nd rfl (.inl rfl))) (mb_one (ms_for (passes_of rfl) rfl (mi_seq rfl (me_tup (ma_cons (me_cal c_bill_text rfl (hr.mono (by decide)) hg tk (by rfl) (ma_cons (me_cal c__law_drawn_bill rfl (hr.mono (by decide)) hg tk (by rfl) (ma_cons (me_var (pv 1)) (ma_cons me_int ma_nil)) 2 (len_cons (len_cons len_nil)) rfl rfl) ma_nil) 1 (len_cons len_nil) rfl rfl) (ma_cons (me_cal c_row_text rfl (hr.mono (by decide)) hg tk (by rfl) (ma_cons (me_cal c__law_drawn_row rfl (hr.mono (by decide)) hg tk (by rfl) (ma_cons (me_var (pv 1)) (ma_cons me_int (ma_cons me_int (ma_cons me_int ma_nil)))) 4 (len_cons (len_cons (len_cons (len_cons len_nil)))) rfl rfl) ma_nil) 1 (len_cons len_nil) rfl rfl) ma_nil)))) (mg_name (pg_name (i := 4) S.nd rfl (.inr rfl))) (mb_one (ms_for (passes_of rfl) rfl (mi_seq rfl (me_op opAdd sAdd (me_lst (ma_cons (me_var (pv 4)) ma_nil)) (me_comp (own := [("k", 6)]) (g := (gName 6)) rfl S.nd (mi_range1 (by rfl) n.n_range (ma_cons me_int ma_nil)) (blkOk_by (own := [("k", 6)]) (N := ["script", "m", "some", "lap", "page", "thing", "k"]) (sc := defScope s_law) (by decide +kernel)) (fun _ _ _ _ _ => pg_name (i := 6) S.nd rfl (.inl rfl)) (gw_name (by decide)) (fun _ _ _ _ _ => mts_nil) (fun _ _ _ _ _ => (me_cal c__law_bent rfl (hr.mono (by decide)) hg tk0 (by rfl) (ma_cons (me_var (pv 1)) (ma_cons (me_var (pv 4)) (ma_cons (me_lst (ma_cons me_str (ma_cons me_str (ma_cons me_str (ma_cons me_str (ma_cons me_str (ma_cons me_str (ma_cons me_str (ma_cons me_str ma_nil))))))))) ma_nil))) 3 (len_cons (len_cons (len_cons len_nil))) rfl rfl))))) (mg_name (pg_name (i := 5) S.nd rfl (.inl rfl))) (mb_one (ms_if (mt_not (mt_val (me_cal c__law_judged rfl (hr.mono (by decide)) hg tk (by rfl) (ma_cons (me_var (pv 5)) ma_nil) 1 (len_cons len_nil) rfl rfl))) (mb_one (ms_ret me_bl)) mb_nil)))))))
  (mb_one (ms_ret me_bl))))))))))
end
theorem all_mk {l : PySem.W.OpenLaw} {w : World} {K : PySem.W.Frag} {h : Heap} {mg : Str → Option Value} {fa : Addr} (X : K.In h) (G : h.Ns mainGlobals mg) (hfa : mg "law" = some (.ref fa))
    {cc0 cc1 cc2 cc3 cc4 cc5 cc6 cc7 cc8 : Addr}
    {cM0 TT0 : Addr} {ocM0 : Value} {odM0 : Option Addr} {vsM0 : Array Value} {slM0 : Array (Option Value)}
    {f0 : Addr} {od0 an0 : Option Addr} {sl0 : Array (Option Value)} {oc0 kV0 dc0 pm0 cd0 ct0 : Value}
    {f1 : Addr} {od1 an1 : Option Addr} {sl1 : Array (Option Value)} {oc1 kV1 dc1 pm1 cd1 ct1 : Value}
    {f2 : Addr} {od2 an2 : Option Addr} {sl2 : Array (Option Value)} {oc2 kV2 dc2 pm2 cd2 ct2 : Value}
    {f3 : Addr} {od3 an3 : Option Addr} {sl3 : Array (Option Value)} {oc3 kV3 dc3 pm3 cd3 ct3 : Value}
    {f4 : Addr} {od4 an4 : Option Addr} {sl4 : Array (Option Value)} {oc4 kV4 dc4 pm4 cd4 ct4 : Value}
    {f5 : Addr} {od5 an5 : Option Addr} {sl5 : Array (Option Value)} {oc5 kV5 dc5 pm5 cd5 ct5 : Value}
    {f6 : Addr} {od6 an6 : Option Addr} {sl6 : Array (Option Value)} {oc6 kV6 dc6 pm6 cd6 ct6 : Value}
    {f7 : Addr} {od7 an7 : Option Addr} {sl7 : Array (Option Value)} {oc7 kV7 dc7 pm7 cd7 ct7 : Value}
    {f8 : Addr} {od8 an8 : Option Addr} {sl8 : Array (Option Value)} {oc8 kV8 dc8 pm8 cd8 ct8 : Value}
    {f9 : Addr} {od9 an9 : Option Addr} {sl9 : Array (Option Value)} {oc9 kV9 dc9 pm9 cd9 ct9 : Value}
    {f10 : Addr} {od10 an10 : Option Addr} {sl10 : Array (Option Value)} {oc10 kV10 dc10 pm10 cd10 ct10 : Value}
    {f11 : Addr} {od11 an11 : Option Addr} {sl11 : Array (Option Value)} {oc11 kV11 dc11 pm11 cd11 ct11 : Value}
    {f12 : Addr} {od12 an12 : Option Addr} {sl12 : Array (Option Value)} {oc12 kV12 dc12 pm12 cd12 ct12 : Value}
    {f13 : Addr} {od13 an13 : Option Addr} {sl13 : Array (Option Value)} {oc13 kV13 dc13 pm13 cd13 ct13 : Value}
    {f14 : Addr} {od14 an14 : Option Addr} {sl14 : Array (Option Value)} {oc14 kV14 dc14 pm14 cd14 ct14 : Value}
    {f15 : Addr} {od15 an15 : Option Addr} {sl15 : Array (Option Value)} {oc15 kV15 dc15 pm15 cd15 ct15 : Value}
    {f16 : Addr} {od16 an16 : Option Addr} {sl16 : Array (Option Value)} {oc16 kV16 dc16 pm16 cd16 ct16 : Value}
    {f17 : Addr} {od17 an17 : Option Addr} {sl17 : Array (Option Value)} {oc17 kV17 dc17 pm17 cd17 ct17 : Value}
    {f18 : Addr} {od18 an18 : Option Addr} {sl18 : Array (Option Value)} {oc18 kV18 dc18 pm18 cd18 ct18 : Value}
    {f19 : Addr} {od19 an19 : Option Addr} {sl19 : Array (Option Value)} {oc19 kV19 dc19 pm19 cd19 ct19 : Value}
    {f20 : Addr} {od20 an20 : Option Addr} {sl20 : Array (Option Value)} {oc20 kV20 dc20 pm20 cd20 ct20 : Value}
    {f21 : Addr} {od21 an21 : Option Addr} {sl21 : Array (Option Value)} {oc21 kV21 dc21 pm21 cd21 ct21 : Value}
    {f22 : Addr} {od22 an22 : Option Addr} {sl22 : Array (Option Value)} {oc22 kV22 dc22 pm22 cd22 ct22 : Value}
    {f23 : Addr} {od23 an23 : Option Addr} {sl23 : Array (Option Value)} {oc23 kV23 dc23 pm23 cd23 ct23 : Value}
    {f24 : Addr} {od24 an24 : Option Addr} {sl24 : Array (Option Value)} {oc24 kV24 dc24 pm24 cd24 ct24 : Value}
    {f25 : Addr} {od25 an25 : Option Addr} {sl25 : Array (Option Value)} {oc25 kV25 dc25 pm25 cd25 ct25 : Value}
    {f26 : Addr} {od26 an26 : Option Addr} {sl26 : Array (Option Value)} {oc26 kV26 dc26 pm26 cd26 ct26 : Value}
    {f27 : Addr} {od27 an27 : Option Addr} {sl27 : Array (Option Value)} {oc27 kV27 dc27 pm27 cd27 ct27 : Value}
    {f28 : Addr} {od28 an28 : Option Addr} {sl28 : Array (Option Value)} {oc28 kV28 dc28 pm28 cd28 ct28 : Value}
    {f29 : Addr} {od29 an29 : Option Addr} {sl29 : Array (Option Value)} {oc29 kV29 dc29 pm29 cd29 ct29 : Value}
    {f30 : Addr} {od30 an30 : Option Addr} {sl30 : Array (Option Value)} {oc30 kV30 dc30 pm30 cd30 ct30 : Value}
    {f31 : Addr} {od31 an31 : Option Addr} {sl31 : Array (Option Value)} {oc31 kV31 dc31 pm31 cd31 ct31 : Value}
    {f32 : Addr} {od32 an32 : Option Addr} {sl32 : Array (Option Value)} {oc32 kV32 dc32 pm32 ct32 : Value}
    {f33 : Addr} {od33 an33 : Option Addr} {sl33 : Array (Option Value)} {oc33 kV33 dc33 pm33 cd33 ct33 : Value}
    {t0 : Tok}
    {t1 : Tok}
    {t2 : Tok}
    {t3 : Tok}
    {t4 : Tok}
    {t5 : Tok}
    {t6 : Tok}
    {t7 : Tok}
    {t8 : Tok}
    {t9 : Tok}
    {nm1 qn1 : Str} {N1 : Addr} {bs1 bm1 sb1 : List Value} {sn1 : List Str} {ab1 : Bool} {col1 : Option Bool} {dd1 : Option Addr} {ma1 mb1 mc1 md1 me1 : Option Value} {fI1 : Addr} {odI1 anI1 : Option Addr} {slI1 : Array (Option Value)} {ocI1 kVI1 dcI1 pmI1 cdI1 ctI1 : Value}
    {nm2 qn2 : Str} {N2 : Addr} {bs2 bm2 sb2 : List Value} {sn2 : List Str} {ab2 : Bool} {col2 : Option Bool} {dd2 : Option Addr} {ma2 mb2 mc2 md2 me2 : Option Value} {fI2 : Addr} {odI2 anI2 : Option Addr} {slI2 : Array (Option Value)} {ocI2 kVI2 dcI2 pmI2 cdI2 ctI2 : Value}
    {nm3 qn3 : Str} {N3 : Addr} {bs3 bm3 sb3 : List Value} {sn3 : List Str} {ab3 : Bool} {col3 : Option Bool} {dd3 : Option Addr} {ma3 mb3 mc3 md3 me3 : Option Value} {fI3 : Addr} {odI3 anI3 : Option Addr} {slI3 : Array (Option Value)} {ocI3 kVI3 dcI3 pmI3 cdI3 ctI3 : Value}
    {nm7 qn7 : Str} {N7 : Addr} {bs7 bm7 sb7 : List Value} {sn7 : List Str} {ab7 : Bool} {col7 : Option Bool} {dd7 : Option Addr} {ma7 mb7 mc7 md7 me7 : Option Value} {fI7 : Addr} {odI7 anI7 : Option Addr} {slI7 : Array (Option Value)} {ocI7 kVI7 dcI7 pmI7 cdI7 ctI7 : Value}
    (a0 : PySem.W.nsIn K mainGlobals "is_int" = some (some (.ref f0)))
    (l0 : K.lookup f0 = some ⟨oc0, od0, .func (PySem.W.fnOf "is_int" "is_int" (defArgs s_is_int) (defBody s_is_int) (defScope s_is_int) .none kV0 dc0 pm0 an0 cd0 ct0), sl0⟩)
    (c0 : PySem.W.codeIn K cd0 "is_int" = true)
    (k0 : PySem.W.keepIn K (.ref f0) = true)
    (a1 : PySem.W.nsIn K mainGlobals "is_int_within" = some (some (.ref f1)))
    (l1 : K.lookup f1 = some ⟨oc1, od1, .func (PySem.W.fnOf "is_int_within" "is_int_within" (defArgs s_is_int_within) (defBody s_is_int_within) (defScope s_is_int_within) .none kV1 dc1 pm1 an1 cd1 ct1), sl1⟩)
    (c1 : PySem.W.codeIn K cd1 "is_int_within" = true)
    (k1 : PySem.W.keepIn K (.ref f1) = true)
    (a2 : PySem.W.nsIn K mainGlobals "is_tuple" = some (some (.ref f2)))
    (l2 : K.lookup f2 = some ⟨oc2, od2, .func (PySem.W.fnOf "is_tuple" "is_tuple" (defArgs s_is_tuple) (defBody s_is_tuple) (defScope s_is_tuple) .none kV2 dc2 pm2 an2 cd2 ct2), sl2⟩)
    (c2 : PySem.W.codeIn K cd2 "is_tuple" = true)
    (k2 : PySem.W.keepIn K (.ref f2) = true)
    (a3 : PySem.W.nsIn K mainGlobals "first_outside" = some (some (.ref f3)))
    (l3 : K.lookup f3 = some ⟨oc3, od3, .func (PySem.W.fnOf "first_outside" "first_outside" (defArgs s_first_outside) (defBody s_first_outside) (defScope s_first_outside) .none kV3 dc3 pm3 an3 cd3 ct3), sl3⟩)
    (c3 : PySem.W.codeIn K cd3 "first_outside" = true)
    (k3 : PySem.W.keepIn K (.ref f3) = true)
    (a4 : PySem.W.nsIn K mainGlobals "need_rule" = some (some (.ref f4)))
    (l4 : K.lookup f4 = some ⟨oc4, od4, .func (PySem.W.fnOf "need_rule" "need_rule" (defArgs s_need_rule) (defBody s_need_rule) (defScope s_need_rule) .none kV4 dc4 pm4 an4 cd4 ct4), sl4⟩)
    (c4 : PySem.W.codeIn K cd4 "need_rule" = true)
    (k4 : PySem.W.keepIn K (.ref f4) = true)
    (a5 : PySem.W.nsIn K mainGlobals "is_rule" = some (some (.ref f5)))
    (l5 : K.lookup f5 = some ⟨oc5, od5, .func (PySem.W.fnOf "is_rule" "is_rule" (defArgs s_is_rule) (defBody s_is_rule) (defScope s_is_rule) .none kV5 dc5 pm5 an5 cd5 ct5), sl5⟩)
    (c5 : PySem.W.codeIn K cd5 "is_rule" = true)
    (k5 : PySem.W.keepIn K (.ref f5) = true)
    (a6 : PySem.W.nsIn K mainGlobals "need_row" = some (some (.ref f6)))
    (l6 : K.lookup f6 = some ⟨oc6, od6, .func (PySem.W.fnOf "need_row" "need_row" (defArgs s_need_row) (defBody s_need_row) (defScope s_need_row) .none kV6 dc6 pm6 an6 cd6 ct6), sl6⟩)
    (c6 : PySem.W.codeIn K cd6 "need_row" = true)
    (k6 : PySem.W.keepIn K (.ref f6) = true)
    (a7 : PySem.W.nsIn K mainGlobals "is_factor" = some (some (.ref f7)))
    (l7 : K.lookup f7 = some ⟨oc7, od7, .func (PySem.W.fnOf "is_factor" "is_factor" (defArgs s_is_factor) (defBody s_is_factor) (defScope s_is_factor) .none kV7 dc7 pm7 an7 cd7 ct7), sl7⟩)
    (c7 : PySem.W.codeIn K cd7 "is_factor" = true)
    (k7 : PySem.W.keepIn K (.ref f7) = true)
    (a8 : PySem.W.nsIn K mainGlobals "is_term" = some (some (.ref f8)))
    (l8 : K.lookup f8 = some ⟨oc8, od8, .func (PySem.W.fnOf "is_term" "is_term" (defArgs s_is_term) (defBody s_is_term) (defScope s_is_term) .none kV8 dc8 pm8 an8 cd8 ct8), sl8⟩)
    (c8 : PySem.W.codeIn K cd8 "is_term" = true)
    (k8 : PySem.W.keepIn K (.ref f8) = true)
    (a9 : PySem.W.nsIn K mainGlobals "need_bill" = some (some (.ref f9)))
    (l9 : K.lookup f9 = some ⟨oc9, od9, .func (PySem.W.fnOf "need_bill" "need_bill" (defArgs s_need_bill) (defBody s_need_bill) (defScope s_need_bill) .none kV9 dc9 pm9 an9 cd9 ct9), sl9⟩)
    (c9 : PySem.W.codeIn K cd9 "need_bill" = true)
    (k9 : PySem.W.keepIn K (.ref f9) = true)
    (a10 : PySem.W.nsIn K mainGlobals "words_of" = some (some (.ref f10)))
    (l10 : K.lookup f10 = some ⟨oc10, od10, .func (PySem.W.fnOf "words_of" "words_of" (defArgs s_words_of) (defBody s_words_of) (defScope s_words_of) .none kV10 dc10 pm10 an10 cd10 ct10), sl10⟩)
    (c10 : PySem.W.codeIn K cd10 "words_of" = true)
    (k10 : PySem.W.keepIn K (.ref f10) = true)
    (a11 : PySem.W.nsIn K mainGlobals "bill_text" = some (some (.ref f11)))
    (l11 : K.lookup f11 = some ⟨oc11, od11, .func (PySem.W.fnOf "bill_text" "bill_text" (defArgs s_bill_text) (defBody s_bill_text) (defScope s_bill_text) .none kV11 dc11 pm11 an11 cd11 ct11), sl11⟩)
    (c11 : PySem.W.codeIn K cd11 "bill_text" = true)
    (k11 : PySem.W.keepIn K (.ref f11) = true)
    (a12 : PySem.W.nsIn K mainGlobals "row_text" = some (some (.ref f12)))
    (l12 : K.lookup f12 = some ⟨oc12, od12, .func (PySem.W.fnOf "row_text" "row_text" (defArgs s_row_text) (defBody s_row_text) (defScope s_row_text) .none kV12 dc12 pm12 an12 cd12 ct12), sl12⟩)
    (c12 : PySem.W.codeIn K cd12 "row_text" = true)
    (k12 : PySem.W.keepIn K (.ref f12) = true)
    (a13 : PySem.W.nsIn K mainGlobals "is_number" = some (some (.ref f13)))
    (l13 : K.lookup f13 = some ⟨oc13, od13, .func (PySem.W.fnOf "is_number" "is_number" (defArgs s_is_number) (defBody s_is_number) (defScope s_is_number) .none kV13 dc13 pm13 an13 cd13 ct13), sl13⟩)
    (c13 : PySem.W.codeIn K cd13 "is_number" = true)
    (k13 : PySem.W.keepIn K (.ref f13) = true)
    (a14 : PySem.W.nsIn K mainGlobals "are_numbers" = some (some (.ref f14)))
    (l14 : K.lookup f14 = some ⟨oc14, od14, .func (PySem.W.fnOf "are_numbers" "are_numbers" (defArgs s_are_numbers) (defBody s_are_numbers) (defScope s_are_numbers) .none kV14 dc14 pm14 an14 cd14 ct14), sl14⟩)
    (c14 : PySem.W.codeIn K cd14 "are_numbers" = true)
    (k14 : PySem.W.keepIn K (.ref f14) = true)
    (a15 : PySem.W.nsIn K mainGlobals "can_stand" = some (some (.ref f15)))
    (l15 : K.lookup f15 = some ⟨oc15, od15, .func (PySem.W.fnOf "can_stand" "can_stand" (defArgs s_can_stand) (defBody s_can_stand) (defScope s_can_stand) .none kV15 dc15 pm15 an15 cd15 ct15), sl15⟩)
    (c15 : PySem.W.codeIn K cd15 "can_stand" = true)
    (k15 : PySem.W.keepIn K (.ref f15) = true)
    (a16 : PySem.W.nsIn K mainGlobals "read_bill" = some (some (.ref f16)))
    (l16 : K.lookup f16 = some ⟨oc16, od16, .func (PySem.W.fnOf "read_bill" "read_bill" (defArgs s_read_bill) (defBody s_read_bill) (defScope s_read_bill) .none kV16 dc16 pm16 an16 cd16 ct16), sl16⟩)
    (c16 : PySem.W.codeIn K cd16 "read_bill" = true)
    (k16 : PySem.W.keepIn K (.ref f16) = true)
    (a17 : PySem.W.nsIn K mainGlobals "number_in_row" = some (some (.ref f17)))
    (l17 : K.lookup f17 = some ⟨oc17, od17, .func (PySem.W.fnOf "number_in_row" "number_in_row" (defArgs s_number_in_row) (defBody s_number_in_row) (defScope s_number_in_row) .none kV17 dc17 pm17 an17 cd17 ct17), sl17⟩)
    (c17 : PySem.W.codeIn K cd17 "number_in_row" = true)
    (k17 : PySem.W.keepIn K (.ref f17) = true)
    (a18 : PySem.W.nsIn K mainGlobals "read_row" = some (some (.ref f18)))
    (l18 : K.lookup f18 = some ⟨oc18, od18, .func (PySem.W.fnOf "read_row" "read_row" (defArgs s_read_row) (defBody s_read_row) (defScope s_read_row) .none kV18 dc18 pm18 an18 cd18 ct18), sl18⟩)
    (c18 : PySem.W.codeIn K cd18 "read_row" = true)
    (k18 : PySem.W.keepIn K (.ref f18) = true)
    (a19 : PySem.W.nsIn K mainGlobals "_law_begun" = some (some (.ref f19)))
    (l19 : K.lookup f19 = some ⟨oc19, od19, .func (PySem.W.fnOf "_law_begun" "_law_begun" (defArgs s__law_begun) (defBody s__law_begun) (defScope s__law_begun) .none kV19 dc19 pm19 an19 cd19 ct19), sl19⟩)
    (c19 : PySem.W.codeIn K cd19 "_law_begun" = true)
    (k19 : PySem.W.keepIn K (.ref f19) = true)
    (a20 : PySem.W.nsIn K mainGlobals "_law_draw" = some (some (.ref f20)))
    (l20 : K.lookup f20 = some ⟨oc20, od20, .func (PySem.W.fnOf "_law_draw" "_law_draw" (defArgs s__law_draw) (defBody s__law_draw) (defScope s__law_draw) .none kV20 dc20 pm20 an20 cd20 ct20), sl20⟩)
    (c20 : PySem.W.codeIn K cd20 "_law_draw" = true)
    (k20 : PySem.W.keepIn K (.ref f20) = true)
    (a21 : PySem.W.nsIn K mainGlobals "_law_of" = some (some (.ref f21)))
    (l21 : K.lookup f21 = some ⟨oc21, od21, .func (PySem.W.fnOf "_law_of" "_law_of" (defArgs s__law_of) (defBody s__law_of) (defScope s__law_of) .none kV21 dc21 pm21 an21 cd21 ct21), sl21⟩)
    (c21 : PySem.W.codeIn K cd21 "_law_of" = true)
    (k21 : PySem.W.keepIn K (.ref f21) = true)
    (a22 : PySem.W.nsIn K mainGlobals "_law_weights" = some (some (.ref f22)))
    (l22 : K.lookup f22 = some ⟨oc22, od22, .func (PySem.W.fnOf "_law_weights" "_law_weights" (defArgs s__law_weights) (defBody s__law_weights) (defScope s__law_weights) .none kV22 dc22 pm22 an22 cd22 ct22), sl22⟩)
    (c22 : PySem.W.codeIn K cd22 "_law_weights" = true)
    (k22 : PySem.W.keepIn K (.ref f22) = true)
    (a23 : PySem.W.nsIn K mainGlobals "_law_drawn_bill" = some (some (.ref f23)))
    (l23 : K.lookup f23 = some ⟨oc23, od23, .func (PySem.W.fnOf "_law_drawn_bill" "_law_drawn_bill" (defArgs s__law_drawn_bill) (defBody s__law_drawn_bill) (defScope s__law_drawn_bill) .none kV23 dc23 pm23 an23 cd23 ct23), sl23⟩)
    (c23 : PySem.W.codeIn K cd23 "_law_drawn_bill" = true)
    (k23 : PySem.W.keepIn K (.ref f23) = true)
    (a24 : PySem.W.nsIn K mainGlobals "_law_drawn_row" = some (some (.ref f24)))
    (l24 : K.lookup f24 = some ⟨oc24, od24, .func (PySem.W.fnOf "_law_drawn_row" "_law_drawn_row" (defArgs s__law_drawn_row) (defBody s__law_drawn_row) (defScope s__law_drawn_row) .none kV24 dc24 pm24 an24 cd24 ct24), sl24⟩)
    (c24 : PySem.W.codeIn K cd24 "_law_drawn_row" = true)
    (k24 : PySem.W.keepIn K (.ref f24) = true)
    (a25 : PySem.W.nsIn K mainGlobals "_law_word" = some (some (.ref f25)))
    (l25 : K.lookup f25 = some ⟨oc25, od25, .func (PySem.W.fnOf "_law_word" "_law_word" (defArgs s__law_word) (defBody s__law_word) (defScope s__law_word) .none kV25 dc25 pm25 an25 cd25 ct25), sl25⟩)
    (c25 : PySem.W.codeIn K cd25 "_law_word" = true)
    (k25 : PySem.W.keepIn K (.ref f25) = true)
    (a26 : PySem.W.nsIn K mainGlobals "_law_outcome" = some (some (.ref f26)))
    (l26 : K.lookup f26 = some ⟨oc26, od26, .func (PySem.W.fnOf "_law_outcome" "_law_outcome" (defArgs s__law_outcome) (defBody s__law_outcome) (defScope s__law_outcome) .none kV26 dc26 pm26 an26 cd26 ct26), sl26⟩)
    (c26 : PySem.W.codeIn K cd26 "_law_outcome" = true)
    (k26 : PySem.W.keepIn K (.ref f26) = true)
    (a27 : PySem.W.nsIn K mainGlobals "_law_is_number" = some (some (.ref f27)))
    (l27 : K.lookup f27 = some ⟨oc27, od27, .func (PySem.W.fnOf "_law_is_number" "_law_is_number" (defArgs s__law_is_number) (defBody s__law_is_number) (defScope s__law_is_number) .none kV27 dc27 pm27 an27 cd27 ct27), sl27⟩)
    (c27 : PySem.W.codeIn K cd27 "_law_is_number" = true)
    (k27 : PySem.W.keepIn K (.ref f27) = true)
    (a28 : PySem.W.nsIn K mainGlobals "_law_wrong_part" = some (some (.ref f28)))
    (l28 : K.lookup f28 = some ⟨oc28, od28, .func (PySem.W.fnOf "_law_wrong_part" "_law_wrong_part" (defArgs s__law_wrong_part) (defBody s__law_wrong_part) (defScope s__law_wrong_part) .none kV28 dc28 pm28 an28 cd28 ct28), sl28⟩)
    (c28 : PySem.W.codeIn K cd28 "_law_wrong_part" = true)
    (k28 : PySem.W.keepIn K (.ref f28) = true)
    (a29 : PySem.W.nsIn K mainGlobals "_law_bill_due" = some (some (.ref f29)))
    (l29 : K.lookup f29 = some ⟨oc29, od29, .func (PySem.W.fnOf "_law_bill_due" "_law_bill_due" (defArgs s__law_bill_due) (defBody s__law_bill_due) (defScope s__law_bill_due) .none kV29 dc29 pm29 an29 cd29 ct29), sl29⟩)
    (c29 : PySem.W.codeIn K cd29 "_law_bill_due" = true)
    (k29 : PySem.W.keepIn K (.ref f29) = true)
    (a30 : PySem.W.nsIn K mainGlobals "_law_row_due" = some (some (.ref f30)))
    (l30 : K.lookup f30 = some ⟨oc30, od30, .func (PySem.W.fnOf "_law_row_due" "_law_row_due" (defArgs s__law_row_due) (defBody s__law_row_due) (defScope s__law_row_due) .none kV30 dc30 pm30 an30 cd30 ct30), sl30⟩)
    (c30 : PySem.W.codeIn K cd30 "_law_row_due" = true)
    (k30 : PySem.W.keepIn K (.ref f30) = true)
    (a31 : PySem.W.nsIn K mainGlobals "_law_bent" = some (some (.ref f31)))
    (l31 : K.lookup f31 = some ⟨oc31, od31, .func (PySem.W.fnOf "_law_bent" "_law_bent" (defArgs s__law_bent) (defBody s__law_bent) (defScope s__law_bent) .none kV31 dc31 pm31 an31 cd31 ct31), sl31⟩)
    (c31 : PySem.W.codeIn K cd31 "_law_bent" = true)
    (k31 : PySem.W.keepIn K (.ref f31) = true)
    (a32 : PySem.W.nsIn K mainGlobals "_law_judged" = some (some (.ref f32)))
    (l32 : K.lookup f32 = some ⟨oc32, od32, .func (PySem.W.fnOf "_law_judged" "_law_judged" (defArgs s__law_judged) (defBody s__law_judged) (defScope s__law_judged) .none kV32 dc32 pm32 an32 (.ref cM0) ct32), sl32⟩)
    (c32 : PySem.W.codeIn K (.ref cM0) "_law_judged" = true)
    (k32 : PySem.W.keepIn K (.ref f32) = true)
    (a33 : PySem.W.nsIn K mainGlobals "law" = some (some (.ref f33)))
    (l33 : K.lookup f33 = some ⟨oc33, od33, .func (PySem.W.fnOf "law" "law" (defArgs s_law) (defBody s_law) (defScope s_law) .none kV33 dc33 pm33 an33 cd33 ct33), sl33⟩)
    (c33 : PySem.W.codeIn K cd33 "law" = true)
    (k33 : PySem.W.keepIn K (.ref f33) = true)
    (z0 : PySem.W.nsIn K mainGlobals "all" = some none)
    (z1 : PySem.W.nsIn K mainGlobals "enumerate" = some none)
    (z2 : PySem.W.nsIn K mainGlobals "int" = some none)
    (z3 : PySem.W.nsIn K mainGlobals "isinstance" = some none)
    (z4 : PySem.W.nsIn K mainGlobals "len" = some none)
    (z5 : PySem.W.nsIn K mainGlobals "list" = some none)
    (z6 : PySem.W.nsIn K mainGlobals "min" = some none)
    (z7 : PySem.W.nsIn K mainGlobals "range" = some none)
    (z8 : PySem.W.nsIn K mainGlobals "repr" = some none)
    (z9 : PySem.W.nsIn K mainGlobals "str" = some none)
    (z10 : PySem.W.nsIn K mainGlobals "tuple" = some none)
    (v0 : PySem.W.nsIn K mainGlobals "FIGURES" = some (some (.str "0123456789" t0)))
    (v1 : PySem.W.nsIn K mainGlobals "FIGURES_OF_A_BILL" = some (some (.int 3 t1)))
    (v2 : PySem.W.nsIn K mainGlobals "FIGURES_OF_A_ROW" = some (some (.int 7 t2)))
    (v3 : PySem.W.nsIn K mainGlobals "GREATEST_FACTOR" = some (some (.int 50 t3)))
    (v4 : PySem.W.nsIn K mainGlobals "GREATEST_RESULT" = some (some (.int 1000000 t4)))
    (v5 : PySem.W.nsIn K mainGlobals "GREATEST_WEIGHT" = some (some (.int 20 t5)))
    (v6 : PySem.W.nsIn K mainGlobals "MOST_RESULTS" = some (some (.int 200 t6)))
    (v7 : PySem.W.nsIn K mainGlobals "MOST_TERMS" = some (some (.int 2 t7)))
    (v8 : PySem.W.nsIn K mainGlobals "MOST_WEIGHTS" = some (some (.int 6 t8)))
    (v9 : PySem.W.nsIn K mainGlobals "NO_RESULTS" = some (some (.str "none" t9)))
    (xt0 : K.lookup cM0 = some ⟨ocM0, odM0, .fields vsM0, slM0⟩)
    (xp0 : vsM0[11]? = some (.ref TT0))
    (xn0 : K.lookup TT0 = none)
    (ka0 : PySem.W.nsIn K mainGlobals "ResultError" = some (some (.ref cc0)))
    (ka1 : PySem.W.nsIn K mainGlobals "BadRule" = some (some (.ref cc1)))
    (ka2 : PySem.W.nsIn K mainGlobals "BadRow" = some (some (.ref cc2)))
    (ka3 : PySem.W.nsIn K mainGlobals "BadBill" = some (some (.ref cc3)))
    (ka4 : PySem.W.nsIn K mainGlobals "BadNumber" = some (some (.ref cc4)))
    (ka5 : PySem.W.nsIn K mainGlobals "BadKind" = some (some (.ref cc5)))
    (ka6 : PySem.W.nsIn K mainGlobals "BadPaper" = some (some (.ref cc6)))
    (ka7 : PySem.W.nsIn K mainGlobals "BadText" = some (some (.ref cc7)))
    (ka8 : PySem.W.nsIn K mainGlobals "Nothing" = some (some (.ref cc8)))
    (kg0 : PySem.W.findIn K (.ref cc0) "__getattribute__" = some (some (.builtin "BaseException.__getattribute__")))
    (kk0 : PySem.W.findIn K (.ref cc0) "__getattr__" = some none)
    (ks0 : PySem.W.subIn K (.ref cc0) (.type "BaseException") = some true)
    (kd0 : PySem.W.hasDictIn K cc0 = true)
    (kc0 : PySem.W.findIn K (.ref cc0) "__class__" = some (some (.builtin "object.__class__")))
    (km0 : PySem.W.mroIn K cc0 (.type "object") = some true)
    (ki0 : PySem.W.isClsIn K cc0 = true)
    (ky0 : PySem.W.typeIn K (.ref cc0) = some (.type "type"))
    (kv0 : PySem.W.subIn K (.ref cc0) (.type "ValueError") = some true)
    (kw0 : PySem.W.subIn K (.ref cc0) (.type "LookupError") = some false)
    (kf0_line : PySem.W.findIn K (.ref cc0) "line" = some none)
    (kf0_number : PySem.W.findIn K (.ref cc0) "number" = some none)
    (kf0_part : PySem.W.findIn K (.ref cc0) "part" = some none)
    (kf0_value : PySem.W.findIn K (.ref cc0) "value" = some none)
    (s0_0 : PySem.W.subIn K (.ref cc0) (.ref cc0) = some true)
    (s0_1 : PySem.W.subIn K (.ref cc0) (.ref cc1) = some false)
    (s0_2 : PySem.W.subIn K (.ref cc0) (.ref cc2) = some false)
    (s0_3 : PySem.W.subIn K (.ref cc0) (.ref cc3) = some false)
    (s0_4 : PySem.W.subIn K (.ref cc0) (.ref cc4) = some false)
    (s0_5 : PySem.W.subIn K (.ref cc0) (.ref cc5) = some false)
    (s0_6 : PySem.W.subIn K (.ref cc0) (.ref cc6) = some false)
    (s0_7 : PySem.W.subIn K (.ref cc0) (.ref cc7) = some false)
    (s0_8 : PySem.W.subIn K (.ref cc0) (.ref cc8) = some false)
    (kg1 : PySem.W.findIn K (.ref cc1) "__getattribute__" = some (some (.builtin "BaseException.__getattribute__")))
    (kk1 : PySem.W.findIn K (.ref cc1) "__getattr__" = some none)
    (ks1 : PySem.W.subIn K (.ref cc1) (.type "BaseException") = some true)
    (kd1 : PySem.W.hasDictIn K cc1 = true)
    (kc1 : PySem.W.findIn K (.ref cc1) "__class__" = some (some (.builtin "object.__class__")))
    (km1 : PySem.W.mroIn K cc1 (.type "object") = some true)
    (ki1 : PySem.W.isClsIn K cc1 = true)
    (ky1 : PySem.W.typeIn K (.ref cc1) = some (.type "type"))
    (kv1 : PySem.W.subIn K (.ref cc1) (.type "ValueError") = some true)
    (kw1 : PySem.W.subIn K (.ref cc1) (.type "LookupError") = some false)
    (kf1_line : PySem.W.findIn K (.ref cc1) "line" = some none)
    (kf1_number : PySem.W.findIn K (.ref cc1) "number" = some none)
    (kf1_part : PySem.W.findIn K (.ref cc1) "part" = some none)
    (kf1_value : PySem.W.findIn K (.ref cc1) "value" = some none)
    (s1_0 : PySem.W.subIn K (.ref cc1) (.ref cc0) = some true)
    (s1_1 : PySem.W.subIn K (.ref cc1) (.ref cc1) = some true)
    (s1_2 : PySem.W.subIn K (.ref cc1) (.ref cc2) = some false)
    (s1_3 : PySem.W.subIn K (.ref cc1) (.ref cc3) = some false)
    (s1_4 : PySem.W.subIn K (.ref cc1) (.ref cc4) = some false)
    (s1_5 : PySem.W.subIn K (.ref cc1) (.ref cc5) = some false)
    (s1_6 : PySem.W.subIn K (.ref cc1) (.ref cc6) = some false)
    (s1_7 : PySem.W.subIn K (.ref cc1) (.ref cc7) = some false)
    (s1_8 : PySem.W.subIn K (.ref cc1) (.ref cc8) = some false)
    (kg2 : PySem.W.findIn K (.ref cc2) "__getattribute__" = some (some (.builtin "BaseException.__getattribute__")))
    (kk2 : PySem.W.findIn K (.ref cc2) "__getattr__" = some none)
    (ks2 : PySem.W.subIn K (.ref cc2) (.type "BaseException") = some true)
    (kd2 : PySem.W.hasDictIn K cc2 = true)
    (kc2 : PySem.W.findIn K (.ref cc2) "__class__" = some (some (.builtin "object.__class__")))
    (km2 : PySem.W.mroIn K cc2 (.type "object") = some true)
    (ki2 : PySem.W.isClsIn K cc2 = true)
    (ky2 : PySem.W.typeIn K (.ref cc2) = some (.type "type"))
    (kv2 : PySem.W.subIn K (.ref cc2) (.type "ValueError") = some true)
    (kw2 : PySem.W.subIn K (.ref cc2) (.type "LookupError") = some false)
    (kf2_line : PySem.W.findIn K (.ref cc2) "line" = some none)
    (kf2_number : PySem.W.findIn K (.ref cc2) "number" = some none)
    (kf2_part : PySem.W.findIn K (.ref cc2) "part" = some none)
    (kf2_value : PySem.W.findIn K (.ref cc2) "value" = some none)
    (s2_0 : PySem.W.subIn K (.ref cc2) (.ref cc0) = some true)
    (s2_1 : PySem.W.subIn K (.ref cc2) (.ref cc1) = some false)
    (s2_2 : PySem.W.subIn K (.ref cc2) (.ref cc2) = some true)
    (s2_3 : PySem.W.subIn K (.ref cc2) (.ref cc3) = some false)
    (s2_4 : PySem.W.subIn K (.ref cc2) (.ref cc4) = some false)
    (s2_5 : PySem.W.subIn K (.ref cc2) (.ref cc5) = some false)
    (s2_6 : PySem.W.subIn K (.ref cc2) (.ref cc6) = some false)
    (s2_7 : PySem.W.subIn K (.ref cc2) (.ref cc7) = some false)
    (s2_8 : PySem.W.subIn K (.ref cc2) (.ref cc8) = some false)
    (kg3 : PySem.W.findIn K (.ref cc3) "__getattribute__" = some (some (.builtin "BaseException.__getattribute__")))
    (kk3 : PySem.W.findIn K (.ref cc3) "__getattr__" = some none)
    (ks3 : PySem.W.subIn K (.ref cc3) (.type "BaseException") = some true)
    (kd3 : PySem.W.hasDictIn K cc3 = true)
    (kc3 : PySem.W.findIn K (.ref cc3) "__class__" = some (some (.builtin "object.__class__")))
    (km3 : PySem.W.mroIn K cc3 (.type "object") = some true)
    (ki3 : PySem.W.isClsIn K cc3 = true)
    (ky3 : PySem.W.typeIn K (.ref cc3) = some (.type "type"))
    (kv3 : PySem.W.subIn K (.ref cc3) (.type "ValueError") = some true)
    (kw3 : PySem.W.subIn K (.ref cc3) (.type "LookupError") = some false)
    (kf3_line : PySem.W.findIn K (.ref cc3) "line" = some none)
    (kf3_number : PySem.W.findIn K (.ref cc3) "number" = some none)
    (kf3_part : PySem.W.findIn K (.ref cc3) "part" = some none)
    (kf3_value : PySem.W.findIn K (.ref cc3) "value" = some none)
    (s3_0 : PySem.W.subIn K (.ref cc3) (.ref cc0) = some true)
    (s3_1 : PySem.W.subIn K (.ref cc3) (.ref cc1) = some false)
    (s3_2 : PySem.W.subIn K (.ref cc3) (.ref cc2) = some false)
    (s3_3 : PySem.W.subIn K (.ref cc3) (.ref cc3) = some true)
    (s3_4 : PySem.W.subIn K (.ref cc3) (.ref cc4) = some false)
    (s3_5 : PySem.W.subIn K (.ref cc3) (.ref cc5) = some false)
    (s3_6 : PySem.W.subIn K (.ref cc3) (.ref cc6) = some false)
    (s3_7 : PySem.W.subIn K (.ref cc3) (.ref cc7) = some false)
    (s3_8 : PySem.W.subIn K (.ref cc3) (.ref cc8) = some false)
    (kg4 : PySem.W.findIn K (.ref cc4) "__getattribute__" = some (some (.builtin "BaseException.__getattribute__")))
    (kk4 : PySem.W.findIn K (.ref cc4) "__getattr__" = some none)
    (ks4 : PySem.W.subIn K (.ref cc4) (.type "BaseException") = some true)
    (kd4 : PySem.W.hasDictIn K cc4 = true)
    (kc4 : PySem.W.findIn K (.ref cc4) "__class__" = some (some (.builtin "object.__class__")))
    (km4 : PySem.W.mroIn K cc4 (.type "object") = some true)
    (ki4 : PySem.W.isClsIn K cc4 = true)
    (ky4 : PySem.W.typeIn K (.ref cc4) = some (.type "type"))
    (kv4 : PySem.W.subIn K (.ref cc4) (.type "ValueError") = some true)
    (kw4 : PySem.W.subIn K (.ref cc4) (.type "LookupError") = some false)
    (kf4_line : PySem.W.findIn K (.ref cc4) "line" = some none)
    (kf4_number : PySem.W.findIn K (.ref cc4) "number" = some none)
    (kf4_part : PySem.W.findIn K (.ref cc4) "part" = some none)
    (kf4_value : PySem.W.findIn K (.ref cc4) "value" = some none)
    (s4_0 : PySem.W.subIn K (.ref cc4) (.ref cc0) = some true)
    (s4_1 : PySem.W.subIn K (.ref cc4) (.ref cc1) = some false)
    (s4_2 : PySem.W.subIn K (.ref cc4) (.ref cc2) = some false)
    (s4_3 : PySem.W.subIn K (.ref cc4) (.ref cc3) = some false)
    (s4_4 : PySem.W.subIn K (.ref cc4) (.ref cc4) = some true)
    (s4_5 : PySem.W.subIn K (.ref cc4) (.ref cc5) = some false)
    (s4_6 : PySem.W.subIn K (.ref cc4) (.ref cc6) = some false)
    (s4_7 : PySem.W.subIn K (.ref cc4) (.ref cc7) = some false)
    (s4_8 : PySem.W.subIn K (.ref cc4) (.ref cc8) = some false)
    (kg5 : PySem.W.findIn K (.ref cc5) "__getattribute__" = some (some (.builtin "BaseException.__getattribute__")))
    (kk5 : PySem.W.findIn K (.ref cc5) "__getattr__" = some none)
    (ks5 : PySem.W.subIn K (.ref cc5) (.type "BaseException") = some true)
    (kd5 : PySem.W.hasDictIn K cc5 = true)
    (kc5 : PySem.W.findIn K (.ref cc5) "__class__" = some (some (.builtin "object.__class__")))
    (km5 : PySem.W.mroIn K cc5 (.type "object") = some true)
    (ki5 : PySem.W.isClsIn K cc5 = true)
    (ky5 : PySem.W.typeIn K (.ref cc5) = some (.type "type"))
    (kv5 : PySem.W.subIn K (.ref cc5) (.type "ValueError") = some true)
    (kw5 : PySem.W.subIn K (.ref cc5) (.type "LookupError") = some false)
    (kf5_line : PySem.W.findIn K (.ref cc5) "line" = some none)
    (kf5_number : PySem.W.findIn K (.ref cc5) "number" = some none)
    (kf5_part : PySem.W.findIn K (.ref cc5) "part" = some none)
    (kf5_value : PySem.W.findIn K (.ref cc5) "value" = some none)
    (s5_0 : PySem.W.subIn K (.ref cc5) (.ref cc0) = some true)
    (s5_1 : PySem.W.subIn K (.ref cc5) (.ref cc1) = some false)
    (s5_2 : PySem.W.subIn K (.ref cc5) (.ref cc2) = some false)
    (s5_3 : PySem.W.subIn K (.ref cc5) (.ref cc3) = some false)
    (s5_4 : PySem.W.subIn K (.ref cc5) (.ref cc4) = some false)
    (s5_5 : PySem.W.subIn K (.ref cc5) (.ref cc5) = some true)
    (s5_6 : PySem.W.subIn K (.ref cc5) (.ref cc6) = some false)
    (s5_7 : PySem.W.subIn K (.ref cc5) (.ref cc7) = some false)
    (s5_8 : PySem.W.subIn K (.ref cc5) (.ref cc8) = some false)
    (kg6 : PySem.W.findIn K (.ref cc6) "__getattribute__" = some (some (.builtin "BaseException.__getattribute__")))
    (kk6 : PySem.W.findIn K (.ref cc6) "__getattr__" = some none)
    (ks6 : PySem.W.subIn K (.ref cc6) (.type "BaseException") = some true)
    (kd6 : PySem.W.hasDictIn K cc6 = true)
    (kc6 : PySem.W.findIn K (.ref cc6) "__class__" = some (some (.builtin "object.__class__")))
    (km6 : PySem.W.mroIn K cc6 (.type "object") = some true)
    (ki6 : PySem.W.isClsIn K cc6 = true)
    (ky6 : PySem.W.typeIn K (.ref cc6) = some (.type "type"))
    (kv6 : PySem.W.subIn K (.ref cc6) (.type "ValueError") = some true)
    (kw6 : PySem.W.subIn K (.ref cc6) (.type "LookupError") = some false)
    (kf6_line : PySem.W.findIn K (.ref cc6) "line" = some none)
    (kf6_number : PySem.W.findIn K (.ref cc6) "number" = some none)
    (kf6_part : PySem.W.findIn K (.ref cc6) "part" = some none)
    (kf6_value : PySem.W.findIn K (.ref cc6) "value" = some none)
    (s6_0 : PySem.W.subIn K (.ref cc6) (.ref cc0) = some true)
    (s6_1 : PySem.W.subIn K (.ref cc6) (.ref cc1) = some false)
    (s6_2 : PySem.W.subIn K (.ref cc6) (.ref cc2) = some false)
    (s6_3 : PySem.W.subIn K (.ref cc6) (.ref cc3) = some false)
    (s6_4 : PySem.W.subIn K (.ref cc6) (.ref cc4) = some false)
    (s6_5 : PySem.W.subIn K (.ref cc6) (.ref cc5) = some false)
    (s6_6 : PySem.W.subIn K (.ref cc6) (.ref cc6) = some true)
    (s6_7 : PySem.W.subIn K (.ref cc6) (.ref cc7) = some false)
    (s6_8 : PySem.W.subIn K (.ref cc6) (.ref cc8) = some false)
    (kg7 : PySem.W.findIn K (.ref cc7) "__getattribute__" = some (some (.builtin "BaseException.__getattribute__")))
    (kk7 : PySem.W.findIn K (.ref cc7) "__getattr__" = some none)
    (ks7 : PySem.W.subIn K (.ref cc7) (.type "BaseException") = some true)
    (kd7 : PySem.W.hasDictIn K cc7 = true)
    (kc7 : PySem.W.findIn K (.ref cc7) "__class__" = some (some (.builtin "object.__class__")))
    (km7 : PySem.W.mroIn K cc7 (.type "object") = some true)
    (ki7 : PySem.W.isClsIn K cc7 = true)
    (ky7 : PySem.W.typeIn K (.ref cc7) = some (.type "type"))
    (kv7 : PySem.W.subIn K (.ref cc7) (.type "ValueError") = some true)
    (kw7 : PySem.W.subIn K (.ref cc7) (.type "LookupError") = some false)
    (kf7_line : PySem.W.findIn K (.ref cc7) "line" = some none)
    (kf7_number : PySem.W.findIn K (.ref cc7) "number" = some none)
    (kf7_part : PySem.W.findIn K (.ref cc7) "part" = some none)
    (kf7_value : PySem.W.findIn K (.ref cc7) "value" = some none)
    (s7_0 : PySem.W.subIn K (.ref cc7) (.ref cc0) = some true)
    (s7_1 : PySem.W.subIn K (.ref cc7) (.ref cc1) = some false)
    (s7_2 : PySem.W.subIn K (.ref cc7) (.ref cc2) = some false)
    (s7_3 : PySem.W.subIn K (.ref cc7) (.ref cc3) = some false)
    (s7_4 : PySem.W.subIn K (.ref cc7) (.ref cc4) = some false)
    (s7_5 : PySem.W.subIn K (.ref cc7) (.ref cc5) = some false)
    (s7_6 : PySem.W.subIn K (.ref cc7) (.ref cc6) = some false)
    (s7_7 : PySem.W.subIn K (.ref cc7) (.ref cc7) = some true)
    (s7_8 : PySem.W.subIn K (.ref cc7) (.ref cc8) = some false)
    (kg8 : PySem.W.findIn K (.ref cc8) "__getattribute__" = some (some (.builtin "BaseException.__getattribute__")))
    (kk8 : PySem.W.findIn K (.ref cc8) "__getattr__" = some none)
    (ks8 : PySem.W.subIn K (.ref cc8) (.type "BaseException") = some true)
    (kd8 : PySem.W.hasDictIn K cc8 = true)
    (kc8 : PySem.W.findIn K (.ref cc8) "__class__" = some (some (.builtin "object.__class__")))
    (km8 : PySem.W.mroIn K cc8 (.type "object") = some true)
    (ki8 : PySem.W.isClsIn K cc8 = true)
    (ky8 : PySem.W.typeIn K (.ref cc8) = some (.type "type"))
    (kv8 : PySem.W.subIn K (.ref cc8) (.type "ValueError") = some false)
    (kw8 : PySem.W.subIn K (.ref cc8) (.type "LookupError") = some true)
    (kf8_line : PySem.W.findIn K (.ref cc8) "line" = some none)
    (kf8_number : PySem.W.findIn K (.ref cc8) "number" = some none)
    (kf8_part : PySem.W.findIn K (.ref cc8) "part" = some none)
    (kf8_value : PySem.W.findIn K (.ref cc8) "value" = some none)
    (s8_0 : PySem.W.subIn K (.ref cc8) (.ref cc0) = some false)
    (s8_1 : PySem.W.subIn K (.ref cc8) (.ref cc1) = some false)
    (s8_2 : PySem.W.subIn K (.ref cc8) (.ref cc2) = some false)
    (s8_3 : PySem.W.subIn K (.ref cc8) (.ref cc3) = some false)
    (s8_4 : PySem.W.subIn K (.ref cc8) (.ref cc4) = some false)
    (s8_5 : PySem.W.subIn K (.ref cc8) (.ref cc5) = some false)
    (s8_6 : PySem.W.subIn K (.ref cc8) (.ref cc6) = some false)
    (s8_7 : PySem.W.subIn K (.ref cc8) (.ref cc7) = some false)
    (s8_8 : PySem.W.subIn K (.ref cc8) (.ref cc8) = some true)
    (kn : PySem.W.specialIn K (.builtin "object.__class__") "__get__" = some (some (.builtin "getset_descriptor.__get__")))
    (kt : PySem.W.takesIn K (.builtin "object.__class__") = some true)
    (xl1 : K.lookup cc1 = some (excClassObj nm1 qn1 cc1 N1 bs1 bm1 true sn1 sb1 ab1 col1 dd1 ma1 mb1 mc1 md1 me1 "ValueError.__new__"))
    (xr1 : PySem.HandSPX.refsVE bm1 = true)
    (xs1 : PySem.W.findIn K (.ref cc1) "__setattr__" = some (some (.builtin "object.__setattr__")))
    (xk1 : PySem.W.keepIn K (.ref cc1) = true)
    (xi1 : PySem.W.findIn K (.ref cc1) "__init__" = some (some (.ref fI1)))
    (xy1 : PySem.W.typeIn K (.ref fI1) = some (.type "function"))
    (xf1 : K.lookup fI1 = some ⟨ocI1, odI1, .func (PySem.W.fnOf "__init__" "BadRule.__init__" (defArgs sI_BadRule) (defBody sI_BadRule) (defScope sI_BadRule) .none kVI1 dcI1 pmI1 anI1 cdI1 ctI1), slI1⟩)
    (xc1 : PySem.W.codeIn K cdI1 "BadRule.__init__" = true)
    (xl2 : K.lookup cc2 = some (excClassObj nm2 qn2 cc2 N2 bs2 bm2 true sn2 sb2 ab2 col2 dd2 ma2 mb2 mc2 md2 me2 "ValueError.__new__"))
    (xr2 : PySem.HandSPX.refsVE bm2 = true)
    (xs2 : PySem.W.findIn K (.ref cc2) "__setattr__" = some (some (.builtin "object.__setattr__")))
    (xk2 : PySem.W.keepIn K (.ref cc2) = true)
    (xi2 : PySem.W.findIn K (.ref cc2) "__init__" = some (some (.ref fI2)))
    (xy2 : PySem.W.typeIn K (.ref fI2) = some (.type "function"))
    (xf2 : K.lookup fI2 = some ⟨ocI2, odI2, .func (PySem.W.fnOf "__init__" "BadRow.__init__" (defArgs sI_BadRow) (defBody sI_BadRow) (defScope sI_BadRow) .none kVI2 dcI2 pmI2 anI2 cdI2 ctI2), slI2⟩)
    (xc2 : PySem.W.codeIn K cdI2 "BadRow.__init__" = true)
    (xl3 : K.lookup cc3 = some (excClassObj nm3 qn3 cc3 N3 bs3 bm3 true sn3 sb3 ab3 col3 dd3 ma3 mb3 mc3 md3 me3 "ValueError.__new__"))
    (xr3 : PySem.HandSPX.refsVE bm3 = true)
    (xs3 : PySem.W.findIn K (.ref cc3) "__setattr__" = some (some (.builtin "object.__setattr__")))
    (xk3 : PySem.W.keepIn K (.ref cc3) = true)
    (xi3 : PySem.W.findIn K (.ref cc3) "__init__" = some (some (.ref fI3)))
    (xy3 : PySem.W.typeIn K (.ref fI3) = some (.type "function"))
    (xf3 : K.lookup fI3 = some ⟨ocI3, odI3, .func (PySem.W.fnOf "__init__" "BadBill.__init__" (defArgs sI_BadBill) (defBody sI_BadBill) (defScope sI_BadBill) .none kVI3 dcI3 pmI3 anI3 cdI3 ctI3), slI3⟩)
    (xc3 : PySem.W.codeIn K cdI3 "BadBill.__init__" = true)
    (xl7 : K.lookup cc7 = some (excClassObj nm7 qn7 cc7 N7 bs7 bm7 true sn7 sb7 ab7 col7 dd7 ma7 mb7 mc7 md7 me7 "ValueError.__new__"))
    (xr7 : PySem.HandSPX.refsVE bm7 = true)
    (xs7 : PySem.W.findIn K (.ref cc7) "__setattr__" = some (some (.builtin "object.__setattr__")))
    (xk7 : PySem.W.keepIn K (.ref cc7) = true)
    (xi7 : PySem.W.findIn K (.ref cc7) "__init__" = some (some (.ref fI7)))
    (xy7 : PySem.W.typeIn K (.ref fI7) = some (.type "function"))
    (xf7 : K.lookup fI7 = some ⟨ocI7, odI7, .func (PySem.W.fnOf "__init__" "BadText.__init__" (defArgs sI_BadText) (defBody sI_BadText) (defScope sI_BadText) .none kVI7 dcI7 pmI7 anI7 cdI7 ctI7), slI7⟩)
    (xc7 : PySem.W.codeIn K cdI7 "BadText.__init__" = true)
    (hd__law_outcome : ∀ (cl : Dv) (g : Sto → R Dv) (wa : List Dv) (s : Sto), finC s.length (d__law_outcome cl g (startD 4 (cl :: wa)) s) = h__law_outcome g wa s)
    (hden : ∀ ns : List Int, ns.length ≤ 63 → ∃ s', g_law [.sq (ns.map .int)] [.tab 0 lq__law_judged] = .ok (.bl true) s')
    : ∃ (Γ : Ct) (fd : FuncData) (den : Fn) (tabs : List Tb), Γ.K = K ∧ (∀ (i : Nat) (t : Tb), tabs[i]? = some t → Γ.tb i = t.T) ∧ (Ts tabs).Nodup ∧ (∀ t ∈ tabs, ∃ y ∈ (["_law_judged"] : List Str), PySem.W.tabIn Γ.K y = some (t.c, t.T) ∧ Γ.K.lookup t.T = none) ∧ tabs.map (·.q) = [lq__law_judged] ∧ (∀ (s : Shared) (u : Value), BindsTo s fd ⟨[u], []⟩ [("script", u)]) ∧
      (∀ base : Heap, Γ.K.In base → base.Ns mainGlobals mg → (∀ t ∈ tabs, LamX.TabB base mg t.c t.T) → FnG l.prog w mg base Γ 11 fa fd ["script"] den) ∧
      ∀ ns : List Int, ns.length ≤ 63 → ∃ s', den [.sq (ns.map .int)] (tabsOf 0 (([lq__law_judged] : List Str).map fun q => ⟨0, 0, q⟩)) = .ok (.bl true) s' := by
  have e := hfa.symm.trans (PySem.W.mg_of X G a33)
  cases e
  let Γ : Ct := ⟨K, fun n => ([cc0, cc1, cc2, cc3, cc4, cc5, cc6, cc7, cc8] : List Addr).getD n 0, fun n => ([TT0] : List Addr).getD n 0⟩
  have CF : ∀ c, c < 9 → ClsF Γ.K (Γ.cls c) := forall9 ⟨⟨kg0, kk0, ks0, kd0, kc0, kn, kt, km0⟩, ki0, ky0⟩ ⟨⟨kg1, kk1, ks1, kd1, kc1, kn, kt, km1⟩, ki1, ky1⟩ ⟨⟨kg2, kk2, ks2, kd2, kc2, kn, kt, km2⟩, ki2, ky2⟩ ⟨⟨kg3, kk3, ks3, kd3, kc3, kn, kt, km3⟩, ki3, ky3⟩ ⟨⟨kg4, kk4, ks4, kd4, kc4, kn, kt, km4⟩, ki4, ky4⟩ ⟨⟨kg5, kk5, ks5, kd5, kc5, kn, kt, km5⟩, ki5, ky5⟩ ⟨⟨kg6, kk6, ks6, kd6, kc6, kn, kt, km6⟩, ki6, ky6⟩ ⟨⟨kg7, kk7, ks7, kd7, kc7, kn, kt, km7⟩, ki7, ky7⟩ ⟨⟨kg8, kk8, ks8, kd8, kc8, kn, kt, km8⟩, ki8, ky8⟩
  have SF : ∀ c, c < 9 → ∀ j, j < 9 → PySem.W.subIn Γ.K (.ref (Γ.cls c)) (.ref (Γ.cls j)) = some (under c j) := forall9 (forall9 s0_0 s0_1 s0_2 s0_3 s0_4 s0_5 s0_6 s0_7 s0_8) (forall9 s1_0 s1_1 s1_2 s1_3 s1_4 s1_5 s1_6 s1_7 s1_8) (forall9 s2_0 s2_1 s2_2 s2_3 s2_4 s2_5 s2_6 s2_7 s2_8) (forall9 s3_0 s3_1 s3_2 s3_3 s3_4 s3_5 s3_6 s3_7 s3_8) (forall9 s4_0 s4_1 s4_2 s4_3 s4_4 s4_5 s4_6 s4_7 s4_8) (forall9 s5_0 s5_1 s5_2 s5_3 s5_4 s5_5 s5_6 s5_7 s5_8) (forall9 s6_0 s6_1 s6_2 s6_3 s6_4 s6_5 s6_6 s6_7 s6_8) (forall9 s7_0 s7_1 s7_2 s7_3 s7_4 s7_5 s7_6 s7_7 s7_8) (forall9 s8_0 s8_1 s8_2 s8_3 s8_4 s8_5 s8_6 s8_7 s8_8)
  have n : Ns Γ mg := {
    n_all := PySem.W.mg_none_of X G z0
    n_enumerate := PySem.W.mg_none_of X G z1
    n_int := PySem.W.mg_none_of X G z2
    n_isinstance := PySem.W.mg_none_of X G z3
    n_len := PySem.W.mg_none_of X G z4
    n_list := PySem.W.mg_none_of X G z5
    n_min := PySem.W.mg_none_of X G z6
    n_range := PySem.W.mg_none_of X G z7
    n_repr := PySem.W.mg_none_of X G z8
    n_str := PySem.W.mg_none_of X G z9
    n_tuple := PySem.W.mg_none_of X G z10
    c_FIGURES := ⟨_, PySem.W.mg_of X G v0⟩
    c_FIGURES_OF_A_BILL := ⟨_, PySem.W.mg_of X G v1⟩
    c_FIGURES_OF_A_ROW := ⟨_, PySem.W.mg_of X G v2⟩
    c_GREATEST_FACTOR := ⟨_, PySem.W.mg_of X G v3⟩
    c_GREATEST_RESULT := ⟨_, PySem.W.mg_of X G v4⟩
    c_GREATEST_WEIGHT := ⟨_, PySem.W.mg_of X G v5⟩
    c_MOST_RESULTS := ⟨_, PySem.W.mg_of X G v6⟩
    c_MOST_TERMS := ⟨_, PySem.W.mg_of X G v7⟩
    c_MOST_WEIGHTS := ⟨_, PySem.W.mg_of X G v8⟩
    c_NO_RESULTS := ⟨_, PySem.W.mg_of X G v9⟩
    k_ResultError := PySem.W.mg_of X G ka0
    k_BadRule := PySem.W.mg_of X G ka1
    k_BadRow := PySem.W.mg_of X G ka2
    k_BadBill := PySem.W.mg_of X G ka3
    k_BadNumber := PySem.W.mg_of X G ka4
    k_BadKind := PySem.W.mg_of X G ka5
    k_BadPaper := PySem.W.mg_of X G ka6
    k_BadText := PySem.W.mg_of X G ka7
    k_Nothing := PySem.W.mg_of X G ka8
    xi := xci_of CF SF (forall9 kv0 kv1 kv2 kv3 kv4 kv5 kv6 kv7 kv8) (forall9 kw0 kw1 kw2 kw3 kw4 kw5 kw6 kw7 kw8)
    f_line := ⟨forall9 kf0_line kf1_line kf2_line kf3_line kf4_line kf5_line kf6_line kf7_line kf8_line⟩
    f_number := ⟨forall9 kf0_number kf1_number kf2_number kf3_number kf4_number kf5_number kf6_number kf7_number kf8_number⟩
    f_part := ⟨forall9 kf0_part kf1_part kf2_part kf3_part kf4_part kf5_part kf6_part kf7_part kf8_part⟩
    f_value := ⟨forall9 kf0_value kf1_value kf2_value kf3_value kf4_value kf5_value kf6_value kf7_value kf8_value⟩
    ex := ex_of CF SF
    ex1 := ex1_of CF SF }
  let tabs : List Tb := [⟨cM0, TT0, lq__law_judged⟩]
  refine ⟨Γ, PySem.W.fnOf "law" "law" (defArgs s_law) (defBody s_law) (defScope s_law) .none kV33 dc33 pm33 an33 cd33 ct33, g_law, tabs, rfl, fun i t h => ?_, ?_, fun t h => ?_, rfl, fun s v => .of_eq rfl, fun base _ _ TB => ?_, hden⟩
  · match i, h with
    | 0, h => cases h; rfl
    | n + 1, h => cases h
  · simp [Ts, tabs]
  · simp only [tabs, List.mem_cons, List.mem_nil_iff, or_false] at h
    subst h
    · exact ⟨"_law_judged", by simp, tabIn_of a32 l32 rfl xt0 xp0, xn0⟩
  have TB0 : LamX.TabB base mg cM0 TT0 := TB _ (show ⟨cM0, TT0, lq__law_judged⟩ ∈ tabs by simp [tabs])
  have X1 : XcR l.prog w Γ.K mg base (Γ.cls 1) "BadRule" "number" := xcr_of ⟨⟨_, _, _, _, _, _, _, _, _, _, _, _, _, _, _, xl1, xr1⟩, xs1, ks1, ky1, xk1⟩ kf1_number (PySem.W.mg_of X G ka1) xi1 xy1 xf1 xc1 ⟨rfl, rfl, rfl, by decide +kernel, rfl, by decide +kernel, by decide +kernel⟩ (.inl rfl) (.inl rfl) (by decide) (by decide) (fun us hl => match us, hl with | [_, _], _ => rfl)
  have X2 : XcR l.prog w Γ.K mg base (Γ.cls 2) "BadRow" "number" := xcr_of ⟨⟨_, _, _, _, _, _, _, _, _, _, _, _, _, _, _, xl2, xr2⟩, xs2, ks2, ky2, xk2⟩ kf2_number (PySem.W.mg_of X G ka2) xi2 xy2 xf2 xc2 ⟨rfl, rfl, rfl, by decide +kernel, rfl, by decide +kernel, by decide +kernel⟩ (.inl rfl) (.inl rfl) (by decide) (by decide) (fun us hl => match us, hl with | [_, _], _ => rfl)
  have X3 : XcR l.prog w Γ.K mg base (Γ.cls 3) "BadBill" "part" := xcr_of ⟨⟨_, _, _, _, _, _, _, _, _, _, _, _, _, _, _, xl3, xr3⟩, xs3, ks3, ky3, xk3⟩ kf3_part (PySem.W.mg_of X G ka3) xi3 xy3 xf3 xc3 ⟨rfl, rfl, rfl, by decide +kernel, rfl, by decide +kernel, by decide +kernel⟩ (.inl rfl) (.inl rfl) (by decide) (by decide) (fun us hl => match us, hl with | [_, _], _ => rfl)
  have X7 : XcR l.prog w Γ.K mg base (Γ.cls 7) "BadText" "line" := xcr_of ⟨⟨_, _, _, _, _, _, _, _, _, _, _, _, _, _, _, xl7, xr7⟩, xs7, ks7, ky7, xk7⟩ kf7_line (PySem.W.mg_of X G ka7) xi7 xy7 xf7 xc7 ⟨rfl, rfl, rfl, by decide +kernel, rfl, by decide +kernel, by decide +kernel⟩ (.inl rfl) (.inl rfl) (by decide) (by decide) (fun us hl => match us, hl with | [_, _], _ => rfl)
  have F0 := fun_mk (st := s_is_int) l0 c0 k0
  have C0 : Cal l.prog w mg base Γ 1 "is_int" ["thing"] g_is_int := ⟨_, _, ok_is_int n F0, PySem.W.mg_of X G a0, k0, F0.binds fun _ _ _ _ _ _ us hl => match us, hl with | [_], _ => rfl⟩
  have F1 := fun_mk (st := s_is_int_within) l1 c1 k1
  have C1 : Cal l.prog w mg base Γ 2 "is_int_within" ["thing", "least", "most"] g_is_int_within := ⟨_, _, ok_is_int_within n F1 C0, PySem.W.mg_of X G a1, k1, F1.binds fun _ _ _ _ _ _ us hl => match us, hl with | [_, _, _], _ => rfl⟩
  have F2 := fun_mk (st := s_is_tuple) l2 c2 k2
  have C2 : Cal l.prog w mg base Γ 1 "is_tuple" ["thing", "least", "most"] g_is_tuple := ⟨_, _, ok_is_tuple n F2, PySem.W.mg_of X G a2, k2, F2.binds fun _ _ _ _ _ _ us hl => match us, hl with | [_, _, _], _ => rfl⟩
  have F3 := fun_mk (st := s_first_outside) l3 c3 k3
  have C3 : Cal l.prog w mg base Γ 1 "first_outside" ["things", "least", "most"] g_first_outside := ⟨_, _, ok_first_outside n F3, PySem.W.mg_of X G a3, k3, F3.binds fun _ _ _ _ _ _ us hl => match us, hl with | [_, _, _], _ => rfl⟩
  have F4 := fun_mk (st := s_need_rule) l4 c4 k4
  have C4 : Cal l.prog w mg base Γ 3 "need_rule" ["thing"] g_need_rule := ⟨_, _, ok_need_rule n F4 X1 C2 C3, PySem.W.mg_of X G a4, k4, F4.binds fun _ _ _ _ _ _ us hl => match us, hl with | [_], _ => rfl⟩
  have F5 := fun_mk (st := s_is_rule) l5 c5 k5
  have C5 : Cal l.prog w mg base Γ 4 "is_rule" ["thing"] g_is_rule := ⟨_, _, ok_is_rule n F5 C4, PySem.W.mg_of X G a5, k5, F5.binds fun _ _ _ _ _ _ us hl => match us, hl with | [_], _ => rfl⟩
  have F6 := fun_mk (st := s_need_row) l6 c6 k6
  have C6 : Cal l.prog w mg base Γ 3 "need_row" ["thing"] g_need_row := ⟨_, _, ok_need_row n F6 X2 C2 C3, PySem.W.mg_of X G a6, k6, F6.binds fun _ _ _ _ _ _ us hl => match us, hl with | [_], _ => rfl⟩
  have F7 := fun_mk (st := s_is_factor) l7 c7 k7
  have C7 : Cal l.prog w mg base Γ 3 "is_factor" ["thing"] g_is_factor := ⟨_, _, ok_is_factor n F7 C1, PySem.W.mg_of X G a7, k7, F7.binds fun _ _ _ _ _ _ us hl => match us, hl with | [_], _ => rfl⟩
  have F8 := fun_mk (st := s_is_term) l8 c8 k8
  have C8 : Cal l.prog w mg base Γ 5 "is_term" ["thing"] g_is_term := ⟨_, _, ok_is_term n F8 C2 C5 C7, PySem.W.mg_of X G a8, k8, F8.binds fun _ _ _ _ _ _ us hl => match us, hl with | [_], _ => rfl⟩
  have F9 := fun_mk (st := s_need_bill) l9 c9 k9
  have C9 : Cal l.prog w mg base Γ 6 "need_bill" ["thing"] g_need_bill := ⟨_, _, ok_need_bill n F9 X3 C2 C7 C8, PySem.W.mg_of X G a9, k9, F9.binds fun _ _ _ _ _ _ us hl => match us, hl with | [_], _ => rfl⟩
  have F10 := fun_mk (st := s_words_of) l10 c10 k10
  have C10 : Cal l.prog w mg base Γ 1 "words_of" ["numbers"] g_words_of := ⟨_, _, ok_words_of n F10, PySem.W.mg_of X G a10, k10, F10.binds fun _ _ _ _ _ _ us hl => match us, hl with | [_], _ => rfl⟩
  have F11 := fun_mk (st := s_bill_text) l11 c11 k11
  have C11 : Cal l.prog w mg base Γ 7 "bill_text" ["bill"] g_bill_text := ⟨_, _, ok_bill_text n F11 C9 C10, PySem.W.mg_of X G a11, k11, F11.binds fun _ _ _ _ _ _ us hl => match us, hl with | [_], _ => rfl⟩
  have F12 := fun_mk (st := s_row_text) l12 c12 k12
  have C12 : Cal l.prog w mg base Γ 4 "row_text" ["row"] g_row_text := ⟨_, _, ok_row_text n F12 C6 C10, PySem.W.mg_of X G a12, k12, F12.binds fun _ _ _ _ _ _ us hl => match us, hl with | [_], _ => rfl⟩
  have F13 := fun_mk (st := s_is_number) l13 c13 k13
  have C13 : Cal l.prog w mg base Γ 1 "is_number" ["word", "most"] g_is_number := ⟨_, _, ok_is_number n F13, PySem.W.mg_of X G a13, k13, F13.binds fun _ _ _ _ _ _ us hl => match us, hl with | [_, _], _ => rfl⟩
  have F14 := fun_mk (st := s_are_numbers) l14 c14 k14
  have C14 : Cal l.prog w mg base Γ 2 "are_numbers" ["words", "most"] g_are_numbers := ⟨_, _, ok_are_numbers n F14 C13, PySem.W.mg_of X G a14, k14, F14.binds fun _ _ _ _ _ _ us hl => match us, hl with | [_, _], _ => rfl⟩
  have F15 := fun_mk (st := s_can_stand) l15 c15 k15
  have C15 : Cal l.prog w mg base Γ 3 "can_stand" ["words", "number"] g_can_stand := ⟨_, _, ok_can_stand n F15 C14, PySem.W.mg_of X G a15, k15, F15.binds fun _ _ _ _ _ _ us hl => match us, hl with | [_, _], _ => rfl⟩
  have F16 := fun_mk (st := s_read_bill) l16 c16 k16
  have C16 : Cal l.prog w mg base Γ 7 "read_bill" ["string"] g_read_bill := ⟨_, _, ok_read_bill n F16 X7 C15 C9, PySem.W.mg_of X G a16, k16, F16.binds fun _ _ _ _ _ _ us hl => match us, hl with | [_], _ => rfl⟩
  have F17 := fun_mk (st := s_number_in_row) l17 c17 k17
  have C17 : Cal l.prog w mg base Γ 3 "number_in_row" ["word"] g_number_in_row := ⟨_, _, ok_number_in_row n F17 X7 C13, PySem.W.mg_of X G a17, k17, F17.binds fun _ _ _ _ _ _ us hl => match us, hl with | [_], _ => rfl⟩
  have F18 := fun_mk (st := s_read_row) l18 c18 k18
  have C18 : Cal l.prog w mg base Γ 4 "read_row" ["string"] g_read_row := ⟨_, _, ok_read_row n F18 X7 C6 C17, PySem.W.mg_of X G a18, k18, F18.binds fun _ _ _ _ _ _ us hl => match us, hl with | [_], _ => rfl⟩
  have F19 := fun_mk (st := s__law_begun) l19 c19 k19
  have C19 : Cal l.prog w mg base Γ 1 "_law_begun" ["script"] g__law_begun := ⟨_, _, ok__law_begun n F19, PySem.W.mg_of X G a19, k19, F19.binds fun _ _ _ _ _ _ us hl => match us, hl with | [_], _ => rfl⟩
  have F20 := fun_mk (st := s__law_draw) l20 c20 k20
  have C20 : Cal l.prog w mg base Γ 1 "_law_draw" ["m", "many"] g__law_draw := ⟨_, _, ok__law_draw n F20, PySem.W.mg_of X G a20, k20, F20.binds fun _ _ _ _ _ _ us hl => match us, hl with | [_, _], _ => rfl⟩
  have F21 := fun_mk (st := s__law_of) l21 c21 k21
  have C21 : Cal l.prog w mg base Γ 2 "_law_of" ["m", "some"] g__law_of := ⟨_, _, ok__law_of n F21 C20, PySem.W.mg_of X G a21, k21, F21.binds fun _ _ _ _ _ _ us hl => match us, hl with | [_, _], _ => rfl⟩
  have F22 := fun_mk (st := s__law_weights) l22 c22 k22
  have C22 : Cal l.prog w mg base Γ 2 "_law_weights" ["m", "most"] g__law_weights := ⟨_, _, ok__law_weights n F22 C20, PySem.W.mg_of X G a22, k22, F22.binds fun _ _ _ _ _ _ us hl => match us, hl with | [_, _], _ => rfl⟩
  have F23 := fun_mk (st := s__law_drawn_bill) l23 c23 k23
  have C23 : Cal l.prog w mg base Γ 3 "_law_drawn_bill" ["m", "most"] g__law_drawn_bill := ⟨_, _, ok__law_drawn_bill n F23 C21 C20 C22, PySem.W.mg_of X G a23, k23, F23.binds fun _ _ _ _ _ _ us hl => match us, hl with | [_, _], _ => rfl⟩
  have F24 := fun_mk (st := s__law_drawn_row) l24 c24 k24
  have C24 : Cal l.prog w mg base Γ 2 "_law_drawn_row" ["m", "least", "more", "high"] g__law_drawn_row := ⟨_, _, ok__law_drawn_row n F24 C20, PySem.W.mg_of X G a24, k24, F24.binds fun _ _ _ _ _ _ us hl => match us, hl with | [_, _, _, _], _ => rfl⟩
  have F25 := fun_mk (st := s__law_word) l25 c25 k25
  have C25 : Cal l.prog w mg base Γ 1 "_law_word" ["error"] g__law_word := ⟨_, _, ok__law_word n F25, PySem.W.mg_of X G a25, k25, F25.binds fun _ _ _ _ _ _ us hl => match us, hl with | [_], _ => rfl⟩
  have F26 := fun_mk (st := s__law_outcome) l26 c26 k26
  have C26 : CalL l.prog w mg base Γ 9 8 "_law_outcome" ["call"] h__law_outcome := ⟨_, _, ok__law_outcome n F26 C25 hd__law_outcome, PySem.W.mg_of X G a26, k26, F26.binds fun _ _ _ _ _ _ us hl => match us, hl with | [_], _ => rfl⟩
  have F27 := fun_mk (st := s__law_is_number) l27 c27 k27
  have C27 : Cal l.prog w mg base Γ 1 "_law_is_number" ["word", "most"] g__law_is_number := ⟨_, _, ok__law_is_number n F27, PySem.W.mg_of X G a27, k27, F27.binds fun _ _ _ _ _ _ us hl => match us, hl with | [_, _], _ => rfl⟩
  have F28 := fun_mk (st := s__law_wrong_part) l28 c28 k28
  have C28 : Cal l.prog w mg base Γ 1 "_law_wrong_part" ["bill_so"] g__law_wrong_part := ⟨_, _, ok__law_wrong_part n F28, PySem.W.mg_of X G a28, k28, F28.binds fun _ _ _ _ _ _ us hl => match us, hl with | [_], _ => rfl⟩
  have F29 := fun_mk (st := s__law_bill_due) l29 c29 k29
  have C29 : Cal l.prog w mg base Γ 2 "_law_bill_due" ["page"] g__law_bill_due := ⟨_, _, ok__law_bill_due n F29 C27 C28, PySem.W.mg_of X G a29, k29, F29.binds fun _ _ _ _ _ _ us hl => match us, hl with | [_], _ => rfl⟩
  have F30 := fun_mk (st := s__law_row_due) l30 c30 k30
  have C30 : Cal l.prog w mg base Γ 2 "_law_row_due" ["page"] g__law_row_due := ⟨_, _, ok__law_row_due n F30 C27, PySem.W.mg_of X G a30, k30, F30.binds fun _ _ _ _ _ _ us hl => match us, hl with | [_], _ => rfl⟩
  have F31 := fun_mk (st := s__law_bent) l31 c31 k31
  have C31 : Cal l.prog w mg base Γ 3 "_law_bent" ["m", "page", "signs"] g__law_bent := ⟨_, _, ok__law_bent n F31 C20 C21, PySem.W.mg_of X G a31, k31, F31.binds fun _ _ _ _ _ _ us hl => match us, hl with | [_, _, _], _ => rfl⟩
  have F32 := fun_mk (st := s__law_judged) l32 c32 k32
  have C32 : Cal l.prog w mg base Γ 10 "_law_judged" ["page"] g__law_judged := ⟨_, _, ok__law_judged n F32 rfl TB0 C29 C30 C26 C16 C18, PySem.W.mg_of X G a32, k32, F32.binds fun _ _ _ _ _ _ us hl => match us, hl with | [_], _ => rfl⟩
  have F33 := fun_mk (st := s_law) l33 c33 k33
  exact ok_law n F33 C19 C32 C11 C23 C12 C24 C31
end MP.K20

set_option Elab.async false
set_option linter.all false
set_option maxRecDepth 100000
set_option maxHeartbeats 400000
namespace MP.K20
open PySem PySem.Spec PyProof.Rows L2 MP
@[simp] theorem isI_t {s : Sto} {i : Int} {b : Bool} : isD s (.int i) (.bl b) = some (.bl false) := rfl
@[simp] theorem isntI_t {s : Sto} {i : Int} {b : Bool} : isntD s (.int i) (.bl b) = some (.bl true) := rfl
theorem is_int_int (i : Int) (s : Sto) : g_is_int [.int i] s = .ok (.bl true) s := by
  simp [g_is_int, d_is_int]
theorem is_int_within_int (i a b : Int) (s : Sto) : g_is_int_within [.int i, .int a, .int b] s = .ok (.bl (decide (a ≤ i) && decide (i ≤ b))) s := by
  by_cases h : a ≤ i <;> simp [g_is_int_within, d_is_int_within, is_int_int, h]
theorem is_tuple_tup (ws : List Dv) (a b : Int) (s : Sto) : g_is_tuple [.tup ws, .int a, .int b] s = .ok (.bl (decide (a ≤ ws.length) && decide (ws.length ≤ b))) s := by
  by_cases h : a ≤ ws.length <;> simp [g_is_tuple, d_is_tuple, h]
theorem first_in (ns : List Int) (a b : Int) (s : Sto) (h : ∀ i ∈ ns, a ≤ i ∧ i ≤ b) : g_first_outside [tI ns, .int a, .int b] s = .ok .non s := by
  obtain ⟨ρ', s', h1, h2⟩ := for_ix (g := t_first_outside_1) (body := b_first_outside_1) (F := F_first_outside_1) (ρ := [some (tI ns), some (.int a), some (.int b), none, none]) (s := s) (s1 := s) (xs := enumD 0 (ns.map .int))
    (fun _ ρ s' => s' = s ∧ ∃ x y, ρ = [some (tI ns), some (.int a), some (.int b), x, y]) rfl ⟨rfl, _, _, rfl⟩ (fun i x ρ s' hx hJ => by
      obtain ⟨rfl, y, z, rfl⟩ := hJ
      obtain ⟨w, hw, rfl⟩ := enumD_get hx
      rw [List.getElem?_map] at hw
      cases hn : ns[i]? with
      | none => rw [hn] at hw; cases hw
      | some n =>
        rw [hn] at hw
        cases hw
        have hb := h n (List.mem_of_getElem? hn)
        refine ⟨[some (tI ns), some (.int a), some (.int b), some (.int (0 + i : Nat)), some (.int n)], [some (tI ns), some (.int a), some (.int b), some (.int (0 + i : Nat)), some (.int n)], s', rfl, .inl ?_, rfl, _, _, rfl⟩
        simp [b_first_outside_1, hb.1, hb.2])
  obtain ⟨rfl, x, y, rfl⟩ := h2
  simp [g_first_outside, d_first_outside, h1]
structure Rule (rs : List Int) : Prop where
  one : 1 ≤ rs.length
  six : rs.length ≤ 6
  ok : ∀ i ∈ rs, -20 ≤ i ∧ i ≤ 20
structure Row (ns : List Int) : Prop where
  most : ns.length ≤ 200
  ok : ∀ i ∈ ns, 0 ≤ i ∧ i ≤ 1000000
@[simp] theorem isnt_nn {s : Sto} : isntD s .non .non = some (.bl false) := rfl
@[simp] theorem is_nn {s : Sto} : isD s .non .non = some (.bl true) := rfl
theorem need_rule_ok {rs : List Int} (h : Rule rs) (s : Sto) : g_need_rule [tI rs] s = .ok (tI rs) s := by
  have h1 := h.one
  have h6 := h.six
  simp [g_need_rule, d_need_rule, is_tuple_tup, first_in rs _ _ _ h.ok, h6, show (1 : Int) ≤ rs.length by omega, show (rs.length : Int) ≤ 6 by omega]
theorem need_row_ok {ns : List Int} (h : Row ns) (s : Sto) : g_need_row [tI ns] s = .ok (tI ns) s := by
  have h1 := h.most
  simp [g_need_row, d_need_row, is_tuple_tup, first_in ns _ _ _ h.ok, show (ns.length : Int) ≤ 200 by omega]
end MP.K20

set_option Elab.async false
set_option linter.all false
set_option maxRecDepth 100000
set_option maxHeartbeats 400000
namespace MP.K20
open PySem PySem.Spec PyProof.Rows L2 MP
abbrev kCells : Key := .inr (Str.ofString "cells")
abbrev kLeft : Key := .inr (Str.ofString "left")
abbrev kSpot : Key := .inr (Str.ofString "spot")
def St (tl : Sto) (cs : List Int) (l p : Int) : Sto := .tab 0 lq__law_judged :: .dct [(kCells, .lst (cs.map .int)), (kLeft, .int l), (kSpot, .int p)] :: tl
theorem get_left {tl : Sto} {cs : List Int} {l p : Int} : ixA (St tl cs l p) (.ref 1) (.str "left") = some (.int l) := rfl
theorem get_spot {tl : Sto} {cs : List Int} {l p : Int} : ixA (St tl cs l p) (.ref 1) (.str "spot") = some (.int p) := rfl
theorem get_cells {tl : Sto} {cs : List Int} {l p : Int} : ixA (St tl cs l p) (.ref 1) (.str "cells") = some (.lst (cs.map .int)) := rfl
theorem put_left {tl : Sto} {cs : List Int} {l p l' : Int} {ρ : Env} {f : FE} {i : Nat} (h0 : mVar 0 ρ (St tl cs l p) = .ok (.ref 1) (St tl cs l p)) (h : f ρ (St tl cs l p) = .ok (.int l') (St tl cs l p)) : mDPut (mVar 0) (mK (.str "left")) f ρ (St tl cs l p) = .nx ρ (St tl cs l' p) := by
  unfold mDPut
  rw [h, then_ok, h0, then_ok, k_ev, then_ok]
  rfl
theorem put_spot {tl : Sto} {cs : List Int} {l p p' : Int} {ρ : Env} {f : FE} {i : Nat} (h0 : mVar 0 ρ (St tl cs l p) = .ok (.ref 1) (St tl cs l p)) (h : f ρ (St tl cs l p) = .ok (.int p') (St tl cs l p)) : mDPut (mVar 0) (mK (.str "spot")) f ρ (St tl cs l p) = .nx ρ (St tl cs l p') := by
  unfold mDPut
  rw [h, then_ok, h0, then_ok, k_ev, then_ok]
  rfl
theorem mod_ii {s : Sto} {i j : Int} (h : 0 < j) : modD s (.int i) (.int j) = some (.int (i % j)) := if_pos h
theorem div_ii {s : Sto} {i j : Int} (h : 0 < j) (h2 : j < 1073741824) : divD s (.int i) (.int j) = some (.int (i / j)) := if_pos ⟨h, h2⟩
structure Drawn (many : Int) (tl : Sto) (cs : List Int) (p : Int) (rr : R Dv) : Prop where
  ok : ∃ d l' p', rr = .ok (.int d) (St tl cs l' p') ∧ 0 ≤ d ∧ d < many ∧ 0 ≤ p' ∧ p' ≤ p + 1
theorem draw_ok {tl : Sto} {cs : List Int} {l p many : Int} (hc : cs ≠ []) (hm : 0 < many) (hm2 : many < 1073741824) (hp : 0 ≤ p) (hp2 : p < 1000000) : Drawn many tl cs p (g__law_draw [.ref 1, .int many] (St tl cs l p)) := by
  have e0 : startD 6 [.ref 1, .int many] = [some (.ref 1), some (.int many), none, none, none, none] := rfl
  have eT : ∀ ρ : Env, mTest (mBin gtD (mBin ixA (mVar 0) (mK (.str "left"))) (mK (.int 0))) (some (.ref 1) :: ρ) (St tl cs l p) = .ok (decide (0 < l)) (St tl cs l p) := fun ρ => by
    rw [test_ev, bin_ev, bin_ev, var_0, bind_ok, k_ev, bind_ok, get_left, of_some, bind_ok, k_ev, bind_ok]
    rfl
  by_cases hl : 0 < l
  · refine ⟨l % many, l / many, p, ?_, Int.emod_nonneg _ (by omega), Int.emod_lt_of_pos _ hm, hp, by omega⟩
    have e1 : mAsg (mBin modD (mBlt intD (mCons (mBin ixA (mVar 0) (mK (.str "left"))) mNil)) (mVar 1)) (gN 2) [some (.ref 1), some (.int many), none, none, none, none] (St tl cs l p) = .nx [some (.ref 1), some (.int many), some (.int (l % many)), none, none, none] (St tl cs l p) := by
      rw [asgN_ev, bin_ev, blt_ev, cons_ev, bin_ev, var_0, bind_ok, k_ev, bind_ok, get_left, of_some, bind_ok, nil_ev, bind_ok, bind_ok, int_i, of_some, bind_ok, var_s, var_0, bind_ok, mod_ii hm, of_some, then_ok]
      rfl
    have e2 : mDPut (mVar 0) (mK (.str "left")) (mBin divD (mBin ixA (mVar 0) (mK (.str "left"))) (mVar 1)) [some (.ref 1), some (.int many), some (.int (l % many)), none, none, none] (St tl cs l p) = .nx [some (.ref 1), some (.int many), some (.int (l % many)), none, none, none] (St tl cs (l / many) p) := by
      refine put_left (i := 0) rfl ?_
      rw [bin_ev, bin_ev, var_0, bind_ok, k_ev, bind_ok, get_left, of_some, bind_ok, var_s, var_0, bind_ok, div_ii hm hm2, of_some]
    unfold g__law_draw d__law_draw
    rw [den_ev, e0, seq_ev, ifS_ev, eT, then_ok, decide_eq_true hl, if_pos rfl, seq_ev, e1, seqK_nx, seq_ev, e2, seqK_nx, ret_ev, var_s, var_s, var_0, then_ok, seqK_rt]
    exact finC_rt (s := St tl cs (l / many) p)
  · have hcl : 0 < cs.length := List.length_pos_iff.mpr hc
    have hx : ((p + 1) % (cs.length : Int)).toNat < cs.length := by
      have h1 := Int.emod_lt_of_pos (p + 1) (show (0 : Int) < cs.length by omega)
      have h2 := Int.emod_nonneg (p + 1) (show (cs.length : Int) ≠ 0 by omega)
      omega
    have hy : ((((p + 1) % (cs.length : Int)).toNat : Nat) : Int) = (p + 1) % (cs.length : Int) := Int.toNat_of_nonneg (Int.emod_nonneg _ (by omega))
    generalize hq : ((p + 1) % (cs.length : Int)).toNat = q at hx hy
    let c := cs[q]
    let m1 := (c % 2147483629 + 6133 * (p + 1) + 23 * (p + 1) * (p + 1)) * 48271
    let m2 := (m1 % 2147483647 + 93241 * (p + 1)) * 69621
    refine ⟨m2 % 2147483587 / 13 % many, l, p + 1, ?_, Int.emod_nonneg _ (by omega), Int.emod_lt_of_pos _ hm, by omega, by omega⟩
    have hcq : (cs.map Dv.int)[q]? = some (.int c) := by rw [List.getElem?_map, List.getElem?_eq_getElem hx]; rfl
    have e1 : mAsg (mBin addD (mBin ixA (mVar 0) (mK (.str "spot"))) (mK (.int 1))) (gN 3) [some (.ref 1), some (.int many), none, none, none, none] (St tl cs l p) = .nx [some (.ref 1), some (.int many), none, some (.int (p + 1)), none, none] (St tl cs l p) := by
      rw [asgN_ev, bin_ev, bin_ev, var_0, bind_ok, k_ev, bind_ok, get_spot, of_some, bind_ok, k_ev, bind_ok, add_ii, of_some, then_ok]
      rfl
    have e2 : mDPut (mVar 0) (mK (.str "spot")) (mVar 3) [some (.ref 1), some (.int many), none, some (.int (p + 1)), none, none] (St tl cs l p) = .nx [some (.ref 1), some (.int many), none, some (.int (p + 1)), none, none] (St tl cs l (p + 1)) := put_spot (i := 0) rfl rfl
    have e3 : mAsg (mBin ixA (mBin ixA (mVar 0) (mK (.str "cells"))) (mBin modD (mBlt intD (mCons (mVar 3) mNil)) (mBlt lenD (mCons (mBin ixA (mVar 0) (mK (.str "cells"))) mNil)))) (gN 4) [some (.ref 1), some (.int many), none, some (.int (p + 1)), none, none] (St tl cs l (p + 1)) = .nx [some (.ref 1), some (.int many), none, some (.int (p + 1)), some (.int c), none] (St tl cs l (p + 1)) := by
      rw [asgN_ev, bin_ev, bin_ev, var_0, bind_ok, k_ev, bind_ok, get_cells, of_some, bind_ok, bin_ev, blt_ev, cons_ev, var_s, var_s, var_s, var_0, bind_ok, nil_ev, bind_ok, bind_ok, int_i, of_some, bind_ok, blt_ev, cons_ev, bin_ev, var_0, bind_ok, k_ev, bind_ok, get_cells, of_some, bind_ok, nil_ev, bind_ok, bind_ok, len_lst, of_some, bind_ok, List.length_map, mod_ii (by omega), of_some, bind_ok, ← hy, ix_lst hcq, of_some, then_ok]
      rfl
    have ee : ∀ (z : Option Dv), mBlt intD (mCons (mVar 3) mNil) [some (.ref 1), some (.int many), none, some (.int (p + 1)), some (.int c), z] (St tl cs l (p + 1)) = .ok (.int (p + 1)) (St tl cs l (p + 1)) := fun z => by
      rw [blt_ev, cons_ev, var_s, var_s, var_s, var_0, bind_ok, nil_ev, bind_ok, bind_ok, int_i, of_some]
    have v3 : ∀ (z : Option Dv), mVar 3 [some (.ref 1), some (.int many), none, some (.int (p + 1)), some (.int c), z] (St tl cs l (p + 1)) = .ok (.int (p + 1)) (St tl cs l (p + 1)) := fun z => rfl
    have v4 : ∀ (z : Option Dv), mVar 4 [some (.ref 1), some (.int many), none, some (.int (p + 1)), some (.int c), z] (St tl cs l (p + 1)) = .ok (.int c) (St tl cs l (p + 1)) := fun z => rfl
    have v5 : ∀ (z : Int), mVar 5 [some (.ref 1), some (.int many), none, some (.int (p + 1)), some (.int c), some (.int z)] (St tl cs l (p + 1)) = .ok (.int z) (St tl cs l (p + 1)) := fun z => rfl
    have v1 : ∀ (z : Option Dv), mVar 1 [some (.ref 1), some (.int many), none, some (.int (p + 1)), some (.int c), z] (St tl cs l (p + 1)) = .ok (.int many) (St tl cs l (p + 1)) := fun z => rfl
    have s5 : ∀ (z : Option Dv) (u : Int), [some (.ref 1), some (.int many), none, some (.int (p + 1)), some (.int c), z].set 5 (some (Dv.int u)) = [some (.ref 1), some (.int many), none, some (.int (p + 1)), some (.int c), some (.int u)] := fun z u => rfl
    have e4 : mAsg (mBin mulD (mBlt intD (mCons (mBin addD (mBin addD (mBin modD (mBlt intD (mCons (mVar 4) mNil)) (mK (.int 2147483629))) (mBin mulD (mK (.int 6133)) (mVar 3))) (mBin mulD (mBin mulD (mK (.int 23)) (mVar 3)) (mVar 3))) mNil)) (mK (.int 48271))) (gN 5) [some (.ref 1), some (.int many), none, some (.int (p + 1)), some (.int c), none] (St tl cs l (p + 1)) = .nx [some (.ref 1), some (.int many), none, some (.int (p + 1)), some (.int c), some (.int m1)] (St tl cs l (p + 1)) := by
      simp only [asgN_ev, bin_ev, blt_ev, cons_ev, nil_ev, v4, v3, k_ev, bind_ok, int_i, of_some, mod_ii (show (0 : Int) < 2147483629 by decide), mul_ii (cm_l (i := 6133) (j := p + 1) (by decide)), mul_ii (cm_l (i := 23) (j := p + 1) (by decide)), mul_ii (cm_r (i := 23 * (p + 1)) (j := p + 1) ⟨by omega, by omega⟩), add_ii, mul_ii (cm_r (j := 48271) (by decide)), then_ok, s5]
      rfl
    have e5 : mAsg (mBin mulD (mBlt intD (mCons (mBin addD (mBin modD (mBlt intD (mCons (mVar 5) mNil)) (mK (.int 2147483647))) (mBin mulD (mK (.int 93241)) (mVar 3))) mNil)) (mK (.int 69621))) (gN 5) [some (.ref 1), some (.int many), none, some (.int (p + 1)), some (.int c), some (.int m1)] (St tl cs l (p + 1)) = .nx [some (.ref 1), some (.int many), none, some (.int (p + 1)), some (.int c), some (.int m2)] (St tl cs l (p + 1)) := by
      simp only [asgN_ev, bin_ev, blt_ev, cons_ev, nil_ev, v5, v3, k_ev, bind_ok, int_i, of_some, mod_ii (show (0 : Int) < 2147483647 by decide), mul_ii (cm_l (i := 93241) (j := p + 1) (by decide)), add_ii, mul_ii (cm_r (j := 69621) (by decide)), then_ok, s5]
      rfl
    have e6 : mRet (mBin modD (mBlt intD (mCons (mBin divD (mBin modD (mBlt intD (mCons (mVar 5) mNil)) (mK (.int 2147483587))) (mK (.int 13))) mNil)) (mVar 1)) [some (.ref 1), some (.int many), none, some (.int (p + 1)), some (.int c), some (.int m2)] (St tl cs l (p + 1)) = .rt (.int (m2 % 2147483587 / 13 % many)) (St tl cs l (p + 1)) := by
      simp only [ret_ev, bin_ev, blt_ev, cons_ev, nil_ev, v5, v1, k_ev, bind_ok, int_i, of_some, mod_ii (show (0 : Int) < 2147483587 by decide), div_ii (show (0 : Int) < 13 by decide) (by decide), mod_ii hm, then_ok]
    unfold g__law_draw d__law_draw
    rw [den_ev, e0, seq_ev, ifS_ev, eT, then_ok, decide_eq_false hl, if_neg (by decide), next_ev, seqK_nx, seq_ev, e1, seqK_nx, seq_ev, e2, seqK_nx, seq_ev, e3, seqK_nx, seq_ev, e4, seqK_nx, seq_ev, e5, seqK_nx, e6]
    exact finC_rt (s := St tl cs l (p + 1))
end MP.K20

set_option Elab.async false
set_option linter.all false
set_option maxRecDepth 100000
set_option maxHeartbeats 400000
namespace MP.K20
open PySem PySem.Spec PyProof.Rows L2 MP
theorem eq_ii {s : Sto} {a b : Int} : eqD s (.int a) (.int b) = some (.bl (decide (a = b))) := by
  have e : decide (V.int a = V.int b) = decide (a = b) := by
    by_cases h : a = b
    · rw [h, decide_eq_true rfl, decide_eq_true rfl]
    · rw [decide_eq_false h, decide_eq_false fun z => h (V.int.inj z)]
  show (some (decide (V.int a = V.int b))).map Dv.bl = _
  rw [e]
  rfl
theorem fin_rt {n : Nat} {w : Dv} {s : Sto} (h : s.length ≤ n) : finC n (.rt w s) = .ok w s := finW_le h
theorem fin_St {tl : Sto} {cs : List Int} {l p l' p' : Int} {w : Dv} : finC (St tl cs l p).length (.rt w (St tl cs l' p')) = .ok w (St tl cs l' p') := fin_rt (Nat.le_refl _)
/-- a row of draws -/
theorem weights_ok {tl : Sto} {cs : List Int} {l p : Int} (hc : cs ≠ []) {most : Int} (hm : 1 ≤ most) (hm6 : most ≤ 6) (hp : 0 ≤ p) (hp2 : p < 900000) : ∃ rs l' p', g__law_weights [.ref 1, .int most] (St tl cs l p) = .ok (tI rs) (St tl cs l' p') ∧ Rule rs ∧ 0 ≤ p' ∧ p' ≤ p + 8 := by
  obtain ⟨wd, l1, p1, d1, w0, w2, p10, p11⟩ := (draw_ok (l := l) hc (show (0 : Int) < 2 by decide) (by decide) hp (by omega)).ok
  obtain ⟨k, l2, p2, d2, k0, k6, p20, p21⟩ := (draw_ok (l := l1) hc (show (0 : Int) < most by omega) (by omega) p10 (by omega)).ok
  have e0 : startD 5 [.ref 1, .int most] = [some (.ref 1), some (.int most), none, none, none] := rfl
  have hF : cF__law_weights_1 [some (.ref 1), some (.int most), some (.int wd), none, none] (St tl cs l1 p1) = .ok { ws := rng 0 (1 + k).toNat } (St tl cs l2 p2) := by
    refine range1_ok ?_ (okR_s (by omega) (by omega))
    rw [cons_ev, bin_ev, k_ev, bind_ok, call_ev, cons_ev, var_0, bind_ok, cons_ev, var_s, var_0, bind_ok, nil_ev, bind_ok, bind_ok, bind_ok, d2, bind_ok, add_ii, of_some, bind_ok, nil_ev, bind_ok]
  obtain ⟨zs, s', c1, c2, rs, l3, p3, rfl, rfl, r1, r2, r3, r4⟩ := comp_ix (vs := [4]) (g := ct__law_weights_1) (elt := ce__law_weights_1) (fun i acc s => ∃ (rs : List Int) (l3 p3 : Int), acc = rs.map .int ∧ s = St tl cs l3 p3 ∧ rs.length = i ∧ (∀ r ∈ rs, -20 ≤ r ∧ r ≤ 20) ∧ 0 ≤ p3 ∧ p3 ≤ p + 2 + i)
    hF (by rw [rng_len]; unfold lim; omega) ⟨[], l2, p2, rfl, rfl, rfl, fun _ h => (nomatch h), p20, by omega⟩ fun i x acc s hx hJ => by
      obtain ⟨rs, l3, p3, rfl, rfl, r1, r2, r3, r4⟩ := hJ
      obtain ⟨hi, rfl⟩ := rng_get hx
      have hp3 : p3 < 1000000 := by omega
      obtain ⟨a, l4, p4, d4, a0, a1, p40, p41⟩ := (draw_ok (l := l3) hc (show (0 : Int) < 41 by decide) (by decide) r3 hp3).ok
      obtain ⟨b, l5, p5, d5, b0, b1, p50, p51⟩ := (draw_ok (l := l3) hc (show (0 : Int) < 4 by decide) (by decide) r3 hp3).ok
      have et : mTest (mBin eqD (mVar 2) (mK (.int 1))) [some (.ref 1), some (.int most), some (.int wd), none, some (.int (0 + (i : Int)))] (St tl cs l3 p3) = .ok (decide (wd = 1)) (St tl cs l3 p3) := by
        rw [test_ev, bin_ev, var_s, var_s, var_0, bind_ok, k_ev, bind_ok, eq_ii]
        rfl
      by_cases hw : wd = 1
      · refine ⟨[some (.ref 1), some (.int most), some (.int wd), none, some (.int (0 + (i : Int)))], .int (a - 20), St tl cs l4 p4, rfl, ?_, rs ++ [a - 20], l4, p4, by rw [List.map_append]; rfl, rfl, by rw [List.length_append, r1]; rfl, fun r hr => ?_, p40, by omega⟩
        · unfold ce__law_weights_1
          rw [if_ev, et, bind_ok, decide_eq_true hw, if_pos rfl, bin_ev, call_ev, cons_ev, var_0, bind_ok, cons_ev, k_ev, bind_ok, nil_ev, bind_ok, bind_ok, bind_ok, d4, bind_ok, k_ev, bind_ok, sub_ev, of_some]
        · rcases List.mem_append.mp hr with h | h
          · exact r2 r h
          · rw [List.mem_singleton.mp h]; omega
      · refine ⟨[some (.ref 1), some (.int most), some (.int wd), none, some (.int (0 + (i : Int)))], .int b, St tl cs l5 p5, rfl, ?_, rs ++ [b], l5, p5, by rw [List.map_append]; rfl, rfl, by rw [List.length_append, r1]; rfl, fun r hr => ?_, p50, by omega⟩
        · unfold ce__law_weights_1
          rw [if_ev, et, bind_ok, decide_eq_false hw, if_neg (by decide), call_ev, cons_ev, var_0, bind_ok, cons_ev, k_ev, bind_ok, nil_ev, bind_ok, bind_ok, bind_ok, d5]
        · rcases List.mem_append.mp hr with h | h
          · exact r2 r h
          · rw [List.mem_singleton.mp h]; omega
  rw [rng_len] at r1 r4
  refine ⟨rs, l3, p3, ?_, ⟨by omega, by omega, r2⟩, r3, by omega⟩
  have e1 : mAsg (mCall g__law_draw (mCons (mVar 0) (mCons (mK (.int 2)) mNil))) (gN 2) [some (.ref 1), some (.int most), none, none, none] (St tl cs l p) = .nx [some (.ref 1), some (.int most), some (.int wd), none, none] (St tl cs l1 p1) := by
    rw [asgN_ev, call_ev, cons_ev, var_0, bind_ok, cons_ev, k_ev, bind_ok, nil_ev, bind_ok, bind_ok, bind_ok, d1, then_ok]
    rfl
  have c1' : mComp cF__law_weights_1 [4] ct__law_weights_1 ci__law_weights_1 ce__law_weights_1 [some (.ref 1), some (.int most), some (.int wd), none, none] (St tl cs l1 p1) = .ok (.lst (rs.map .int)) (St tl cs l3 p3) := c1
  unfold g__law_weights d__law_weights
  rw [den_ev, e0, seq_ev, e1, seqK_nx, seq_ev, asgN_ev, c1', then_ok, seqK_nx]
  show finC (St tl cs l p).length (mRet (mBlt tupleD (mCons (mVar 3) mNil)) [some (.ref 1), some (.int most), some (.int wd), some (.lst (rs.map .int)), none] (St tl cs l3 p3)) = _
  rw [ret_ev, blt_ev, cons_ev, var_s, var_s, var_s, var_0, bind_ok, nil_ev, bind_ok, bind_ok, tuple_lst, of_some, then_ok]
  exact fin_St
theorem drawn_row_ok {tl : Sto} {cs : List Int} {l p least more high : Int} (hc : cs ≠ []) (hp : 0 ≤ p) (hp2 : p < 900000) (h0 : 0 ≤ least) (h1 : 0 ≤ more) (h2 : least + more ≤ 200) (h3 : 0 ≤ high) (h4 : high ≤ 1000000) :
    ∃ ns l' p', g__law_drawn_row [.ref 1, .int least, .int more, .int high] (St tl cs l p) = .ok (tI ns) (St tl cs l' p') ∧ least ≤ ns.length ∧ ns.length ≤ least + more ∧ (∀ n ∈ ns, 0 ≤ n ∧ n ≤ high) ∧ 0 ≤ p' ∧ p' ≤ p + 1 + (least + more) := by
  obtain ⟨k, l2, p2, d2, k0, k6, p20, p21⟩ := (draw_ok (l := l) hc (show (0 : Int) < more + 1 by omega) (by omega) hp (by omega)).ok
  have e0 : startD 5 [.ref 1, .int least, .int more, .int high] = [some (.ref 1), some (.int least), some (.int more), some (.int high), none] := rfl
  have hF : cF__law_drawn_row_1 [some (.ref 1), some (.int least), some (.int more), some (.int high), none] (St tl cs l p) = .ok { ws := rng 0 (least + k).toNat } (St tl cs l2 p2) := by
    refine range1_ok ?_ (okR_s (by omega) (by omega))
    rw [cons_ev, bin_ev, var_s, var_0, bind_ok, call_ev, cons_ev, var_0, bind_ok, cons_ev, bin_ev, var_s, var_s, var_0, bind_ok, k_ev, bind_ok, add_ii, of_some, bind_ok, nil_ev, bind_ok, bind_ok, bind_ok, d2, bind_ok, add_ii, of_some, bind_ok, nil_ev, bind_ok]
  obtain ⟨zs, s', c1, c2, rs, l3, p3, rfl, rfl, r1, r2, r3, r4⟩ := comp_ix (vs := [4]) (g := ct__law_drawn_row_1) (elt := ce__law_drawn_row_1) (fun i acc s => ∃ (rs : List Int) (l3 p3 : Int), acc = rs.map .int ∧ s = St tl cs l3 p3 ∧ rs.length = i ∧ (∀ r ∈ rs, 0 ≤ r ∧ r ≤ high) ∧ 0 ≤ p3 ∧ p3 ≤ p + 1 + i)
    hF (by rw [rng_len]; unfold lim; omega) ⟨[], l2, p2, rfl, rfl, rfl, fun _ h => (nomatch h), p20, by omega⟩ fun i x acc s hx hJ => by
      obtain ⟨rs, l3, p3, rfl, rfl, r1, r2, r3, r4⟩ := hJ
      obtain ⟨hi, rfl⟩ := rng_get hx
      obtain ⟨a, l4, p4, d4, a0, a1, p40, p41⟩ := (draw_ok (l := l3) hc (show (0 : Int) < high + 1 by omega) (by omega) r3 (by omega)).ok
      refine ⟨[some (.ref 1), some (.int least), some (.int more), some (.int high), some (.int (0 + (i : Int)))], .int a, St tl cs l4 p4, rfl, ?_, rs ++ [a], l4, p4, by rw [List.map_append]; rfl, rfl, by rw [List.length_append, r1]; rfl, fun r hr => ?_, p40, by omega⟩
      · unfold ce__law_drawn_row_1
        rw [call_ev, cons_ev, var_0, bind_ok, cons_ev, bin_ev, var_s, var_s, var_s, var_0, bind_ok, k_ev, bind_ok, add_ii, of_some, bind_ok, nil_ev, bind_ok, bind_ok, bind_ok, d4]
      · rcases List.mem_append.mp hr with h | h
        · exact r2 r h
        · rw [List.mem_singleton.mp h]; omega
  rw [rng_len] at r1 r4
  refine ⟨rs, l3, p3, ?_, by omega, by omega, r2, r3, by omega⟩
  have c1' : mComp cF__law_drawn_row_1 [4] ct__law_drawn_row_1 ci__law_drawn_row_1 ce__law_drawn_row_1 [some (.ref 1), some (.int least), some (.int more), some (.int high), none] (St tl cs l p) = .ok (.lst (rs.map .int)) (St tl cs l3 p3) := c1
  unfold g__law_drawn_row d__law_drawn_row
  rw [den_ev, e0, ret_ev, blt_ev, cons_ev, c1', bind_ok, nil_ev, bind_ok, bind_ok, tuple_lst, of_some, then_ok]
  exact fin_St
/-- one of some -/
theorem law_of_ok {tl : Sto} {cs : List Int} {l p : Int} {ws : List Dv} (hc : cs ≠ []) (hp : 0 ≤ p) (hp2 : p < 1000000) (hw : ws ≠ []) (hw2 : ws.length < 1000) : ∃ w l' p', w ∈ ws ∧ g__law_of [.ref 1, .lst ws] (St tl cs l p) = .ok w (St tl cs l' p') ∧ 0 ≤ p' ∧ p' ≤ p + 1 := by
  have hl : 0 < ws.length := List.length_pos_iff.mpr hw
  obtain ⟨k, l2, p2, d2, k0, k6, p20, p21⟩ := (draw_ok (l := l) hc (show (0 : Int) < ws.length by omega) (by omega) hp hp2).ok
  obtain ⟨j, rfl⟩ := Int.eq_ofNat_of_zero_le k0
  have hj : j < ws.length := by omega
  refine ⟨ws[j], l2, p2, List.getElem_mem hj, ?_, p20, p21⟩
  have e0 : startD 2 [.ref 1, .lst ws] = [some (.ref 1), some (.lst ws)] := rfl
  unfold g__law_of d__law_of
  rw [den_ev, e0, ret_ev, bin_ev, var_s, var_0, bind_ok, call_ev, cons_ev, var_0, bind_ok, cons_ev, blt_ev, cons_ev, var_s, var_0, bind_ok, nil_ev, bind_ok, bind_ok, len_lst, of_some, bind_ok, nil_ev, bind_ok, bind_ok, bind_ok, d2, bind_ok, ix_lst (List.getElem?_eq_getElem hj), of_some, then_ok]
  exact fin_St
end MP.K20

set_option Elab.async false
set_option linter.all false
set_option maxRecDepth 100000
set_option maxHeartbeats 400000
/-! bills: what the program tells of them -/
namespace MP.K20
open PySem PySem.Spec PyProof.Rows L2 MP
structure Term where
  rs : List Int
  a : Int
  b : Int
abbrev tm (t : Term) : Dv := .tup [tI t.rs, .int t.a, .int t.b]
abbrev bi (o : Int) (ts : List Term) : Dv := .tup [.int o, .tup (ts.map tm)]
structure TermOk (t : Term) : Prop where
  rule : Rule t.rs
  a0 : -50 ≤ t.a
  a1 : t.a ≤ 50
  b0 : -50 ≤ t.b
  b1 : t.b ≤ 50
structure Bill (o : Int) (ts : List Term) : Prop where
  o0 : -50 ≤ o
  o1 : o ≤ 50
  two : ts.length ≤ 2
  ok : ∀ t ∈ ts, TermOk t
abbrev lens (ts : List Term) : List Int := ts.map fun t => (t.rs.length : Int)
def wd (ts : List Term) : Nat := (maxO 1 (lens ts)).toNat
theorem lens_ok {ts : List Term} (h : ∀ t ∈ ts, TermOk t) : ∀ n ∈ lens ts, 1 ≤ n ∧ n ≤ 6 := fun n hn => by
  obtain ⟨t, ht, rfl⟩ := List.mem_map.mp hn
  have h1 := (h t ht).rule.one
  have h6 := (h t ht).rule.six
  omega
theorem maxO_rng {ns : List Int} (h : ∀ n ∈ ns, 1 ≤ n ∧ n ≤ 6) : 1 ≤ maxO 1 ns ∧ maxO 1 ns ≤ 6 := by
  cases ns with
  | nil => exact ⟨by decide, by decide⟩
  | cons a ns => exact h _ (foldl_max_mem ns a)
theorem maxO_ge {ns : List Int} {d n : Int} (h : n ∈ ns) : n ≤ maxO d ns := by
  cases ns with
  | nil => cases h
  | cons a ns =>
    obtain ⟨h1, h2⟩ := foldl_max_le ns a
    rcases List.mem_cons.mp h with rfl | h
    · exact h1
    · exact h2 n h
theorem maxO_one {ns : List Int} (h : ∀ n ∈ ns, 1 ≤ n ∧ n ≤ 6) : maxO 0 (1 :: ns) = maxO 1 ns := by
  cases ns with
  | nil => rfl
  | cons a ns =>
    show ns.foldl max (max 1 a) = ns.foldl max a
    rw [show max 1 a = a by have := (h a List.mem_cons_self).1; omega]
theorem wd_int {ts : List Term} (h : ∀ t ∈ ts, TermOk t) : maxO 1 (lens ts) = (wd ts : Int) := by
  have := (maxO_rng (lens_ok h)).1
  unfold wd
  omega
theorem wd_rng {ts : List Term} (h : ∀ t ∈ ts, TermOk t) : 1 ≤ wd ts ∧ wd ts ≤ 6 := by
  have := maxO_rng (lens_ok h)
  rw [wd_int h] at this
  omega
theorem wd_ge {ts : List Term} (h : ∀ t ∈ ts, TermOk t) {t : Term} (ht : t ∈ ts) : t.rs.length ≤ wd ts := by
  have := maxO_ge (d := 1) (List.mem_map.mpr ⟨t, ht, rfl⟩ : (t.rs.length : Int) ∈ lens ts)
  rw [wd_int h] at this
  omega
variable {s : Sto} {o : Int} {ts : List Term} {ns : List Int}
theorem is_rule_ok {rs : List Int} (h : Rule rs) : g_is_rule [tI rs] s = .ok (.bl true) s := by
  have e0 : startD 1 [tI rs] = [some (tI rs)] := rfl
  have e1 : mTryOnly 1 (mExpr (mCall g_need_rule (mCons (mVar 0) mNil))) (mRet (mK (.bl false))) [some (tI rs)] s = .nx [some (tI rs)] s := by
    refine tryO_nx ?_
    rw [expr_ev, call_v (cons_v (w := tI rs) rfl nil_ev) (need_rule_ok h s), then_ok]
  unfold g_is_rule d_is_rule
  rw [den_ev, e0, seq_nx e1 (ret_v k_ev), finC_rt]
theorem is_factor_ok {i : Int} (h : -50 ≤ i) (h2 : i ≤ 50) : g_is_factor [.int i] s = .ok (.bl true) s := by
  have e0 : startD 1 [.int i] = [some (.int i)] := rfl
  have := is_int_within_int i (-50) 50 s
  rw [decide_eq_true h, decide_eq_true h2] at this
  unfold g_is_factor d_is_factor
  rw [den_ev, e0]
  simp [this]
theorem is_term_ok {t : Term} (h : TermOk t) : g_is_term [tm t] s = .ok (.bl true) s := by
  have e0 : startD 4 [tm t] = [some (tm t), none, none, none] := rfl
  have e1 := is_tuple_tup [tI t.rs, .int t.a, .int t.b] 3 3 s
  have e2 : g_is_tuple [tm t, .int 3, .int 3] s = .ok (.bl true) s := e1
  have e3 : mAsg (mVar 0) (gT 3 (gsC (gN 1) (gsC (gN 2) (gsC (gN 3) gs0)))) [some (tm t), none, none, none] s = .nx [some (tm t), some (tI t.rs), some (.int t.a), some (.int t.b)] s := rfl
  unfold g_is_term d_is_term
  rw [den_ev, e0, seq_nx ((ifS_f (by rw [not_ev, test_v (call_v (cons_v (w := tm t) rfl (cons_v k_ev (cons_v k_ev nil_ev))) e2), bind_ok]; rfl)).trans next_ev) (seq_nx e3 (ret_v (w := .bl true) ?_))]
  · exact finC_rt
  · rw [andV_ev, call_v (cons_v (w := tI t.rs) rfl nil_ev) (is_rule_ok h.rule), bind_ok, andK_bl, if_pos rfl, andV_ev, call_v (cons_v (w := .int t.a) rfl nil_ev) (is_factor_ok h.a0 h.a1), bind_ok, andK_bl, if_pos rfl, call_v (cons_v (w := .int t.b) rfl nil_ev) (is_factor_ok h.b0 h.b1)]
theorem need_bill_ok (h : Bill o ts) : g_need_bill [bi o ts] s = .ok (bi o ts) s := by
  have h2 := h.two
  have e0 : startD 5 [bi o ts] = [some (bi o ts), none, none, none, none] := rfl
  have e2 : g_is_tuple [bi o ts, .int 2, .int 2] s = .ok (.bl true) s := is_tuple_tup [.int o, .tup (ts.map tm)] 2 2 s
  have e4 : g_is_tuple [.tup (ts.map tm), .int 0, .int 2] s = .ok (.bl true) s := by
    rw [is_tuple_tup, List.length_map, decide_eq_true (by omega), decide_eq_true (by omega)]
    rfl
  have e3 : mAsg (mVar 0) (gT 2 (gsC (gN 1) (gsC (gN 2) gs0))) [some (bi o ts), none, none, none, none] s = .nx [some (bi o ts), some (.int o), some (.tup (ts.map tm)), none, none] s := rfl
  obtain ⟨ρ', s', h1, rfl, x, y, rfl⟩ := for_ix (g := t_need_bill_1) (body := b_need_bill_1) (F := F_need_bill_1) (ρ := [some (bi o ts), some (.int o), some (.tup (ts.map tm)), none, none]) (s := s) (s1 := s) (xs := enumD 0 (ts.map tm))
    (fun _ ρ s' => s' = s ∧ ∃ x y, ρ = [some (bi o ts), some (.int o), some (.tup (ts.map tm)), x, y]) rfl ⟨rfl, _, _, rfl⟩ (fun i x ρ s' hx hJ => by
      obtain ⟨rfl, y, z, rfl⟩ := hJ
      obtain ⟨w, hw, rfl⟩ := enumD_get hx
      rw [List.getElem?_map] at hw
      cases hn : ts[i]? with
      | none => rw [hn] at hw; cases hw
      | some t =>
        rw [hn] at hw
        cases hw
        refine ⟨[some (bi o ts), some (.int o), some (.tup (ts.map tm)), some (.int (0 + i : Nat)), some (tm t)], [some (bi o ts), some (.int o), some (.tup (ts.map tm)), some (.int (0 + i : Nat)), some (tm t)], s', rfl, .inl ?_, rfl, _, _, rfl⟩
        unfold b_need_bill_1
        exact (ifS_f (by rw [not_ev, test_v (call_v (cons_v (w := tm t) rfl nil_ev) (is_term_ok (h.ok t (List.mem_of_getElem? hn)))), bind_ok]; rfl)).trans next_ev)
  unfold g_need_bill d_need_bill
  rw [den_ev, e0, seq_nx ((ifS_f (by rw [not_ev, test_v (call_v (cons_v (w := bi o ts) rfl (cons_v k_ev (cons_v k_ev nil_ev))) e2), bind_ok]; rfl)).trans next_ev) (seq_nx e3
    (seq_nx ((ifS_f (by rw [not_ev, test_v (call_v (cons_v (w := .int o) rfl nil_ev) (is_factor_ok h.o0 h.o1)), bind_ok]; rfl)).trans next_ev)
    (seq_nx ((ifS_f (by rw [not_ev, test_v (call_v (cons_v (w := .tup (ts.map tm)) rfl (cons_v k_ev (cons_v k_ev nil_ev))) e4), bind_ok]; rfl)).trans next_ev)
    (seq_nx h1 (ret_v (w := bi o ts) rfl)))))]
  exact finC_rt
theorem ix_tup0 {a : Dv} {ws : List Dv} : ixA s (.tup (a :: ws)) (.int 0) = some a := ix_tup (k := 0) rfl
theorem ix_tup1 {a b : Dv} {ws : List Dv} : ixA s (.tup (a :: b :: ws)) (.int 1) = some b := ix_tup (k := 1) rfl
/-- the index of the results that end at e -/
abbrev e9 (o : Int) (ts : List Term) (ms : List Int) (c d e f g h : Option Dv) : Env := [some (bi o ts), some (tI ms), some (.int o), some (.tup (ts.map tm)), c, d, e, f, g]
end MP.K20

set_option Elab.async false
set_option linter.all false
set_option maxRecDepth 100000
set_option maxHeartbeats 400000
/-! bills: what the law draws and reckons -/
namespace MP.K20
open PySem PySem.Spec PyProof.Rows L2 MP
theorem cleans_int (n : Nat) : ∀ l : List Int, cleans n (l.map .int) = true
  | [] => rfl
  | _ :: l => by
    show (true && cleans n (l.map .int)) = true
    rw [cleans_int n l]
    rfl
theorem clean_tm (n : Nat) (t : Term) : clean n (tm t) = true := by
  show (cleans n (t.rs.map .int) && (true && (true && true))) = true
  rw [cleans_int]
  rfl
theorem cleans_tm (n : Nat) : ∀ l : List Term, cleans n (l.map tm) = true
  | [] => rfl
  | t :: l => by
    show (clean n (tm t) && cleans n (l.map tm)) = true
    rw [clean_tm, cleans_tm n l]
    rfl
theorem clean_bi (n : Nat) (o : Int) (ts : List Term) : clean n (bi o ts) = true := by
  show (true && (cleans n (ts.map tm) && true)) = true
  rw [cleans_tm]
  rfl
theorem St_clean {n : Nat} {cs : List Int} {l p : Int} : (St [] cs l p).all (Ob.clean n) = true := by
  show (true && ((cleans n (cs.map .int) && (true && (true && true))) && true)) = true
  rw [cleans_int]
  rfl
/-- a list of the callee's own goes out as it stands -/
theorem fin_bi {cs : List Int} {l p l' p' o : Int} {ts : List Term} {ob : Ob} : finC (St [] cs l p).length (.rt (bi o ts) (St [ob] cs l' p')) = .ok (bi o ts) (St [] cs l' p') := by
  show finW 2 (bi o ts) (St [ob] cs l' p') = _
  unfold finW
  have e1 : (St [ob] cs l' p').take 2 = St [] cs l' p' := rfl
  rw [if_neg (by show ¬ (2 + 1 ≤ 2); decide), e1, if_pos St_clean]
  have e2 : fz 4 (St [ob] cs l' p') 2 (bi o ts) = some (bi o ts) := by
    unfold fz
    exact if_pos (clean_bi _ _ _)
  rw [e2]
theorem app_v {f g : FE} {ρ : Env} {s s1 s2 : Sto} {n : Nat} {ws us : List Dv} {y : Dv} (h : f ρ s = .ok (.ref n) s1) (h1 : s1[n]? = some (.lst us)) (h2 : g ρ s1 = .ok y s2) (h3 : s2[n]? = some (.lst ws)) (hl : ws.length < lim) : mApp f g ρ s = .ok .non (s2.set n (.lst (ws ++ [y]))) := by
  unfold mApp
  rw [h, bind_ok]
  simp only [h1, h2, bind_ok, h3, if_pos hl]
theorem drawn_bill_ok {cs : List Int} {l p most : Int} (hc : cs ≠ []) (hp : 0 ≤ p) (hp2 : p < 800000) (hm : 1 ≤ most) (hm6 : most ≤ 6) :
    ∃ o ts l' p', g__law_drawn_bill [.ref 1, .int most] (St [] cs l p) = .ok (bi o ts) (St [] cs l' p') ∧ Bill o ts ∧ 0 ≤ p' ∧ p' ≤ p + 30 := by
  obtain ⟨d, l1, p1, d1, d0, d101, p10, p11⟩ := (draw_ok (tl := []) (l := l) hc (show (0 : Int) < 101 by decide) (by decide) hp (by omega)).ok
  obtain ⟨w, l2, p2, hw, d2, p20, p21⟩ := law_of_ok (tl := []) (l := l1) (ws := [.int 0, .int 1, .int 2, .int (-1), .int (d - 50)]) hc p10 (by omega) (by intro z; cases z) (by show 5 < 1000; decide)
  obtain ⟨o, rfl, o0, o1⟩ : ∃ o : Int, w = .int o ∧ -50 ≤ o ∧ o ≤ 50 := by
    rcases List.mem_cons.mp hw with rfl | hw
    · exact ⟨0, rfl, by omega, by omega⟩
    rcases List.mem_cons.mp hw with rfl | hw
    · exact ⟨1, rfl, by omega, by omega⟩
    rcases List.mem_cons.mp hw with rfl | hw
    · exact ⟨2, rfl, by omega, by omega⟩
    rcases List.mem_cons.mp hw with rfl | hw
    · exact ⟨-1, rfl, by omega, by omega⟩
    rcases List.mem_cons.mp hw with rfl | hw
    · exact ⟨d - 50, rfl, by omega, by omega⟩
    · cases hw
  obtain ⟨k, l3, p3, d3, k0, k3, p30, p31⟩ := (draw_ok (tl := [.lst []]) (l := l2) hc (show (0 : Int) < 3 by decide) (by decide) p20 (by omega)).ok
  have e0 : startD 5 [.ref 1, .int most] = [some (.ref 1), some (.int most), none, none, none] := rfl
  have eN : mUn negD (mK (.int 1)) [some (.ref 1), some (.int most), none, none, none] (St [] cs l p) = .ok (.int (-1)) (St [] cs l p) := by rw [un_ev, k_ev, bind_ok, neg_ev, of_some]
  have eO : mCall (g__law_of) (mCons (mVar 0) (mCons (mLst (mCons (mK (.int 0)) (mCons (mK (.int 1)) (mCons (mK (.int 2)) (mCons (mUn negD (mK (.int 1))) (mCons (mBin subD (mCall (g__law_draw) (mCons (mVar 0) (mCons (mK (.int 101)) mNil))) (mK (.int 50))) mNil)))))) mNil)) [some (.ref 1), some (.int most), none, none, none] (St [] cs l p) = .ok (.int o) (St [] cs l2 p2) :=
    call_v (cons_v (w := .ref 1) rfl (cons_v (lst_v (cons_v k_ev (cons_v k_ev (cons_v k_ev (cons_v eN (cons_v (bin_v (call_v (cons_v (w := .ref 1) rfl (cons_v k_ev nil_ev)) d1) k_ev sub_ev) nil_ev))))) (by show 5 ≤ _; decide)) nil_ev)) d2
  have e1 : mPar 2 3 (mCons (mCall (g__law_of) (mCons (mVar 0) (mCons (mLst (mCons (mK (.int 0)) (mCons (mK (.int 1)) (mCons (mK (.int 2)) (mCons (mUn negD (mK (.int 1))) (mCons (mBin subD (mCall (g__law_draw) (mCons (mVar 0) (mCons (mK (.int 101)) mNil))) (mK (.int 50))) mNil)))))) mNil))) (mCons (mLstM mNil) mNil)) [some (.ref 1), some (.int most), none, none, none] (St [] cs l p) = .nx [some (.ref 1), some (.int most), some (.int o), some (.ref 2), none] (St [.lst []] cs l2 p2) := by
    rw [par_ev, eO, then_ok]
    rfl
  have hF : F__law_drawn_bill_1 [some (.ref 1), some (.int most), some (.int o), some (.ref 2), none] (St [.lst []] cs l2 p2) = .ok { ws := rng 0 k.toNat } (St [.lst []] cs l3 p3) :=
    range1_ok (cons_v (call_v (cons_v (w := .ref 1) rfl (cons_v k_ev nil_ev)) d3) nil_ev) (okR_s (by omega) (by omega))
  obtain ⟨ρ', s', f1, us, l4, p4, y, g1, rfl, g2, g3, g4, rfl⟩ := for_ix (g := t__law_drawn_bill_1) (body := b__law_drawn_bill_1)
    (fun i ρ s' => ∃ (us : List Term) (l4 p4 : Int) (y : Option Dv), us.length = i ∧ s' = St [.lst (us.map tm)] cs l4 p4 ∧ (∀ t ∈ us, TermOk t) ∧ 0 ≤ p4 ∧ p4 ≤ p3 + 10 * (i : Int) ∧ ρ = [some (.ref 1), some (.int most), some (.int o), some (.ref 2), y])
    hF ⟨[], l3, p3, _, rfl, rfl, (fun _ h => nomatch h), p30, by omega, rfl⟩ fun i x ρ s' hx hJ => by
      obtain ⟨us, l4, p4, y, g1, rfl, g2, g3, g4, rfl⟩ := hJ
      obtain ⟨hi, rfl⟩ := rng_get hx
      obtain ⟨rs, l5, p5, w1, w2, w3, w4⟩ := weights_ok (tl := [.lst (us.map tm)]) (l := l4) hc hm hm6 g3 (by omega)
      obtain ⟨a, l6, p6, a1, a2, a3, a4, a5⟩ := (draw_ok (tl := [.lst (us.map tm)]) (l := l5) hc (show (0 : Int) < 7 by decide) (by decide) w3 (by omega)).ok
      obtain ⟨b, l7, p7, b1, b2, b3, b4, b5⟩ := (draw_ok (tl := [.lst (us.map tm)]) (l := l6) hc (show (0 : Int) < 7 by decide) (by decide) a4 (by omega)).ok
      have et : mTup (mCons (mCall (g__law_weights) (mCons (mVar 0) (mCons (mVar 1) mNil))) (mCons (mBin subD (mCall (g__law_draw) (mCons (mVar 0) (mCons (mK (.int 7)) mNil))) (mK (.int 3))) (mCons (mBin subD (mCall (g__law_draw) (mCons (mVar 0) (mCons (mK (.int 7)) mNil))) (mK (.int 3))) mNil))) [some (.ref 1), some (.int most), some (.int o), some (.ref 2), some (.int (0 + (i : Int)))] (St [.lst (us.map tm)] cs l4 p4) = .ok (tm (Term.mk rs (a - 3) (b - 3))) (St [.lst (us.map tm)] cs l7 p7) :=
        tup_v (cons_v (call_v (cons_v (w := .ref 1) rfl (cons_v (w := .int most) rfl nil_ev)) w1) (cons_v (bin_v (call_v (cons_v (w := .ref 1) rfl (cons_v k_ev nil_ev)) a1) k_ev sub_ev) (cons_v (bin_v (call_v (cons_v (w := .ref 1) rfl (cons_v k_ev nil_ev)) b1) k_ev sub_ev) nil_ev))) (by show 3 ≤ _; decide)
      refine ⟨[some (.ref 1), some (.int most), some (.int o), some (.ref 2), some (.int (0 + (i : Int)))], [some (.ref 1), some (.int most), some (.int o), some (.ref 2), some (.int (0 + (i : Int)))], St [.lst ((us ++ [Term.mk rs (a - 3) (b - 3)]).map tm)] cs l7 p7, rfl, .inl ?_, us ++ [Term.mk rs (a - 3) (b - 3)], l7, p7, _, by rw [List.length_append, g1]; rfl, rfl, fun t ht => ?_, b4, by omega, rfl⟩
      · unfold b__law_drawn_bill_1
        rw [expr_ev, app_v (n := 2) (us := us.map tm) rfl rfl et (ws := us.map tm) rfl (by rw [List.length_map]; unfold lim; omega), then_ok, List.map_append]
        rfl
      · rcases List.mem_append.mp ht with h | h
        · exact g2 t h
        · rw [List.mem_singleton.mp h]
          exact ⟨w2, by show (-50 : Int) ≤ a - 3; omega, by show a - 3 ≤ 50; omega, by show (-50 : Int) ≤ b - 3; omega, by show b - 3 ≤ 50; omega⟩
  rw [rng_len] at g1 g4
  refine ⟨o, us, l4, p4, ?_, ⟨o0, o1, by omega, g2⟩, g3, by omega⟩
  unfold g__law_drawn_bill d__law_drawn_bill
  rw [den_ev, e0, seq_nx e1 (seq_nx f1 (ret_v (w := bi o us) (tup_v (cons_v (w := .int o) rfl (cons_v (blt_v (cons_v (w := .ref 2) rfl nil_ev) (z := .tup (us.map tm)) rfl) nil_ev)) (by show 2 ≤ _; decide))))]
  exact fin_bi
variable {s : Sto} {o : Int} {ts : List Term} {ns : List Int}
abbrev ev (o : Int) (ts : List Term) (ns : List Int) (e : Nat) (w : Int) (a b c d : Option Dv) : Env := [some (bi o ts), some (tI ns), some (.ref 2), some (.int e), some (.int w), a, b, c, d]
end MP.K20

set_option Elab.async false
set_option linter.all false
set_option maxRecDepth 100000
set_option maxHeartbeats 400000
namespace MP.K20
open PySem PySem.Spec PyProof.Rows L2 MP
abbrev T0 : Sto := [.tab 0 lq__law_judged]
theorem pow_ii {s : Sto} {i j : Int} (h : 0 ≤ j ∧ j ≤ 1000000 ∧ i.natAbs < 2 ^ 64) : powD s (.int i) (.int j) = some (.int (i ^ j.toNat)) := if_pos h
theorem ge_ii {s : Sto} {i j : Int} : geD s (.int i) (.int j) = some (.bl (decide (j ≤ i))) := rfl
/-- what is begun with -/
theorem begun_ok {ns : List Int} (hn : ns.length ≤ 63) : ∃ l, g__law_begun [.sq (ns.map .int)] T0 = .ok (.ref 1) (St [] (ns ++ [(ns.length : Int)]) l 0) := by
  have e0 : startD 3 [.sq (ns.map .int)] = [some (.sq (ns.map .int)), none, none] := rfl
  have e1 : mComp cF__law_begun_1 [2] ct__law_begun_1 ci__law_begun_1 ce__law_begun_1 [some (.sq (ns.map .int)), none, none] T0 = .ok (lI (ns.filter fun n => decide ((10 : Int) ^ 18 ≤ n))) T0 := by
    refine comp_filt (e := .int) (φ := .int) (t := fun n => decide ((10 : Int) ^ 18 ≤ n)) rfl (by unfold lim; omega) fun n _ => ⟨[some (.sq (ns.map .int)), none, some (.int n)], rfl, ?_, fun _ => ?_⟩
    · unfold ci__law_begun_1
      rw [test_ev, bin_ev, var_s, var_s, var_0, bind_ok, bin_ev, k_ev, bind_ok, k_ev, bind_ok, pow_ii ⟨by decide, by decide, by decide⟩, of_some, bind_ok, ge_ii]
      rfl
    · rfl
  obtain ⟨gs, hg⟩ : ∃ gs, gs = ns.filter fun n => decide ((10 : Int) ^ 18 ≤ n) := ⟨_, rfl⟩
  rw [← hg] at e1
  have eL : mBin addD (mBlt listD (mCons (mVar 0) mNil)) (mLst (mCons (mBlt lenD (mCons (mVar 0) mNil)) mNil)) [some (.sq (ns.map .int)), some (lI gs), none] T0 = .ok (lI (ns ++ [(ns.length : Int)])) T0 := by
    rw [bin_ev, blt_ev, cons_ev, var_0, bind_ok, nil_ev, bind_ok, bind_ok]
    show (R.of (some (Dv.lst (ns.map .int))) T0).bind _ = _
    rw [of_some, bind_ok, lst_ev, cons_ev, blt_ev, cons_ev, var_0, bind_ok, nil_ev, bind_ok, bind_ok, len_sq, of_some, bind_ok, nil_ev, bind_ok, bind_ok, if_pos (by show 1 ≤ lim; unfold lim; decide), bind_ok]
    show R.of (if (ns.map Dv.int).length + 1 ≤ lim then some (Dv.lst (ns.map .int ++ [.int (ns.map Dv.int).length])) else none) T0 = _
    rw [if_pos (by rw [List.length_map]; unfold lim; omega), List.length_map, of_some, lI, List.map_append]
    rfl
  have eG : ∃ l, mIf (mTest (mBin neD (mVar 1) (mLst mNil))) (mBin ixA (mVar 1) (mK (.int 0))) (mK (.int 0)) [some (.sq (ns.map .int)), some (lI gs), none] T0 = .ok (.int l) T0 := by
    have et : mTest (mBin neD (mVar 1) (mLst mNil)) [some (.sq (ns.map .int)), some (lI gs), none] T0 = .ok (!decide (gs = [])) T0 := by
      rw [test_ev, bin_ev, var_s, var_0, bind_ok, lst_ev, nil_ev, bind_ok, if_pos (by show 0 ≤ lim; unfold lim; decide), bind_ok]
      show (R.of (neD T0 (lI gs) (lI [])) T0).bind testK = _
      rw [ne_lI]
      rfl
    rw [if_ev, et, bind_ok]
    cases gs with
    | nil => exact ⟨0, rfl⟩
    | cons a r =>
      refine ⟨a, ?_⟩
      rw [if_pos (by simp), bin_ev, var_s, var_0, bind_ok, k_ev, bind_ok]
      show R.of (ixA T0 (.lst (.int a :: r.map .int)) (.int ((0 : Nat) : Int))) T0 = _
      rw [ix_lst (w := .int a) rfl, of_some]
  obtain ⟨l, eG⟩ := eG
  refine ⟨l, ?_⟩
  have eD : mDctM [((mK (.str "cells")), (mBin addD (mBlt listD (mCons (mVar 0) mNil)) (mLst (mCons (mBlt lenD (mCons (mVar 0) mNil)) mNil)))), ((mK (.str "left")), (mIf (mTest (mBin neD (mVar 1) (mLst mNil))) (mBin ixA (mVar 1) (mK (.int 0))) (mK (.int 0)))), ((mK (.str "spot")), (mK (.int 0)))] [some (.sq (ns.map .int)), some (lI gs), none] T0 = .ok (.ref 1) (St [] (ns ++ [(ns.length : Int)]) l 0) := by
    have : mPairs [((mK (.str "cells")), (mBin addD (mBlt listD (mCons (mVar 0) mNil)) (mLst (mCons (mBlt lenD (mCons (mVar 0) mNil)) mNil)))), ((mK (.str "left")), (mIf (mTest (mBin neD (mVar 1) (mLst mNil))) (mBin ixA (mVar 1) (mK (.int 0))) (mK (.int 0)))), ((mK (.str "spot")), (mK (.int 0)))] [some (.sq (ns.map .int)), some (lI gs), none] T0 = .ok [(.str "cells", lI (ns ++ [(ns.length : Int)])), (.str "left", .int l), (.str "spot", .int 0)] T0 := by
      unfold mPairs
      rw [k_ev, bind_ok, eL, bind_ok]
      unfold mPairs
      rw [k_ev, bind_ok, eG, bind_ok]
      unfold mPairs
      rw [k_ev, bind_ok, k_ev, bind_ok]
      rfl
    unfold mDctM
    rw [this]
    rfl
  unfold g__law_begun d__law_begun
  rw [den_ev, e0, seq_ev, asgN_ev, e1, then_ok, seqK_nx]
  show finC 1 (mRet (mDctM _) [some (.sq (ns.map .int)), some (lI gs), none] T0) = _
  rw [ret_ev, eD, then_ok]
  rfl
/-! the size of an index -/
end MP.K20

set_option Elab.async false
set_option linter.all false
set_option maxRecDepth 100000
set_option maxHeartbeats 400000
/-! what an error is called, what a lambda's call comes to -/
namespace MP.K20
open PySem PySem.Spec PyProof.Rows L2 MP
section
variable {s : Sto} {ρ : Env} {w : Dv} {ws : List Dv} {k j : Nat} {f lab : Str}
theorem if_no {c : FS} (hk : k < 9) (hj : j < 9) (hu : under k j = false) : mIfS (mTest (mBlt isiA (mCons (mVar 0) (mCons (mK (.cl j)) mNil)))) c mNext (some (.exc k f w) :: ρ) s = .nx (some (.exc k f w) :: ρ) s := by
  simp only [ifS_ev, test_ev, blt_ev, cons_ev, var_0, bind_ok, k_ev, nil_ev, isA_ex hk hj, of_some, hu, testK_bl, then_ok, Bool.false_eq_true, if_false, next_ev]
theorem app_at {g : FE} {y : Dv} (hv : mVar 1 ρ (s ++ [.lst ws]) = .ok (.ref s.length) (s ++ [.lst ws])) (h : g ρ (s ++ [.lst ws]) = .ok y (s ++ [.lst ws])) (hl : ws.length < lim) : mApp (mVar 1) g ρ (s ++ [.lst ws]) = .ok .non (s ++ [.lst (ws ++ [y])]) := by
  have e : (s ++ [Ob.lst ws])[s.length]? = some (.lst ws) := by simp
  unfold mApp
  rw [hv, bind_ok]
  dsimp only
  rw [e]
  dsimp only
  rw [h, bind_ok, e]
  dsimp only
  rw [if_pos hl]
  congr 1
  simp [List.set_append]
theorem if_yes (hk : k < 9) (hj : j < 9) (hu : under k j = true) (hl : ws.length < lim) : mIfS (mTest (mBlt isiA (mCons (mVar 0) (mCons (mK (.cl j)) mNil)))) (mExpr (mApp (mVar 1) (mTup (mCons (mK (.str lab)) (mCons (mUn (fldD f) (mVar 0)) mNil))))) mNext [some (.exc k f w), some (.ref s.length)] (s ++ [.lst ws]) =
    .nx [some (.exc k f w), some (.ref s.length)] (s ++ [.lst (ws ++ [.tup [.str lab, w]])]) := by
  have e : mTup (mCons (mK (.str lab)) (mCons (mUn (fldD f) (mVar 0)) mNil)) [some (.exc k f w), some (.ref s.length)] (s ++ [.lst ws]) = .ok (.tup [.str lab, w]) (s ++ [.lst ws]) := by
    simp only [tup_ev, cons_ev, k_ev, bind_ok, un_ev, var_0, fld_ex hk, of_some, nil_ev]
    exact if_pos (by show 2 ≤ 16000000; decide)
  simp only [ifS_ev, test_ev, blt_ev, cons_ev, var_0, bind_ok, k_ev, nil_ev, isA_ex hk hj, of_some, hu, testK_bl, then_ok, if_true, expr_ev]
  rw [app_at (by rw [var_s, var_0]) e hl, then_ok]
end
/-- the end of a def that made one list, and holds it not -/
theorem fin_one {s : Sto} {w : Dv} {ob : Ob} (hs : s.all (Ob.clean s.length) = true) (hw : clean s.length w = true) : finC s.length (.rt w (s ++ [ob])) = .ok w s := by
  show finW s.length w (s ++ [ob]) = _
  unfold finW
  have e1 : (s ++ [ob]).take s.length = s := by simp
  rw [if_neg (by rw [List.length_append, List.length_singleton]; omega), e1, if_pos hs]
  have e2 : fz 4 (s ++ [ob]) s.length w = some w := by
    unfold fz
    exact if_pos hw
  rw [e2]
/-- what an error is called -/
def word (x : Ex) : Dv := .tup [.str (match x.c with | 1 => "rule" | 2 => "row" | 3 => "bill" | _ => "text"), x.w]
def Known (x : Ex) : Prop := (x.c = 1 ∧ x.f = "number") ∨ (x.c = 2 ∧ x.f = "number") ∨ (x.c = 3 ∧ x.f = "part") ∨ (x.c = 7 ∧ x.f = "line")
theorem word_ok {s : Sto} {x : Ex} (hx : Known x) (hs : s.all (Ob.clean s.length) = true) (hw : clean s.length x.w = true) : g__law_word [.exc x.c x.f x.w] s = .ok (word x) s := by
  obtain ⟨c, f, w⟩ := x
  have e0 : ∀ e : Dv, startD 2 [e] = [some e, none] := fun e => rfl
  have e1 : ∀ e : Dv, mAsg (mLstM mNil) (gN 1) [some e, none] s = .nx [some e, some (.ref s.length)] (s ++ [.lst []]) := fun e => by
    simp only [asgN_ev, lstM_ev, nil_ev, bind_ok]
    rw [if_pos (by show 0 ≤ 16000000; decide), then_ok]
    rfl
  have e9 : ∀ (e y : Dv), mRet (mIf (mTest (mBin eqD (mBlt lenD (mCons (mVar 1) mNil)) (mK (.int 1)))) (mBin ixA (mVar 1) (mK (.int 0))) (mTup (mCons (mK (.str "other")) (mCons (mK .non) mNil)))) [some e, some (.ref s.length)] (s ++ [.lst [y]]) = .rt y (s ++ [.lst [y]]) := fun e y => by
    have a1 : (s ++ [Ob.lst [y]])[s.length]? = some (.lst [y]) := by simp
    have a2 : lenD (s ++ [Ob.lst [y]]) [.ref s.length] = some (.int 1) := by
      have b0 : seqOf (s ++ [Ob.lst [y]]) (.ref s.length) = some [y] := by
        show lstOf (s ++ [Ob.lst [y]]) (.ref s.length) = _
        show (match (s ++ [Ob.lst [y]])[s.length]? with | some (.lst ws) => some ws | _ => none) = _
        rw [a1]
      unfold lenD
      dsimp only
      rw [b0]
      rfl
    have a3 : ixA (s ++ [Ob.lst [y]]) (.ref s.length) (.int 0) = some y := by
      have b1 : lstOrSq (s ++ [Ob.lst [y]]) (.ref s.length) = some [y] := by
        show (match (s ++ [Ob.lst [y]])[s.length]? with | some (.lst ws) => some ws | _ => none) = _
        rw [a1]
      have b2 : ixL (s ++ [Ob.lst [y]]) (.ref s.length) (.int 0) = some y := by
        show (lstOrSq (s ++ [Ob.lst [y]]) (.ref s.length)).bind (fun ws => atI ws 0) = _
        rw [b1]
        rfl
      show orO (orO ixL ixT) ixD (s ++ [Ob.lst [y]]) (.ref s.length) (.int 0) = _
      unfold orO
      rw [b2]
    simp only [ret_ev, if_ev, test_ev, bin_ev, blt_ev, cons_ev, var_s, var_0, bind_ok, nil_ev, a2, of_some, k_ev, eq_ii, decide_true, testK_bl, if_true, a3, then_ok]
  have hcl : ∀ y : Str, clean s.length (.tup [.str y, w]) = true := fun y => by
    show (true && (clean s.length w && true)) = true
    rw [show clean s.length w = true from hw]
    rfl
  rcases hx with ⟨h1, h2⟩ | ⟨h1, h2⟩ | ⟨h1, h2⟩ | ⟨h1, h2⟩ <;> (dsimp only at h1 h2; subst h1 h2)
  · show g__law_word [.exc 1 "number" w] s = .ok (word ⟨1, "number", w⟩) s
    unfold g__law_word d__law_word
    rw [den_ev, e0, seq_ev, e1, seqK_nx, seq_ev, if_yes (by decide) (by decide) rfl (by decide), seqK_nx]
    repeat (rw [seq_ev, if_no (by decide) (by decide) rfl, seqK_nx])
    rw [List.nil_append, e9, fin_one hs (hcl _)]
    rfl
  · show g__law_word [.exc 2 "number" w] s = .ok (word ⟨2, "number", w⟩) s
    unfold g__law_word d__law_word
    rw [den_ev, e0, seq_ev, e1, seqK_nx, seq_ev, if_no (by decide) (by decide) rfl, seqK_nx, seq_ev, if_yes (by decide) (by decide) rfl (by decide), seqK_nx]
    repeat (rw [seq_ev, if_no (by decide) (by decide) rfl, seqK_nx])
    rw [List.nil_append, e9, fin_one hs (hcl _)]
    rfl
  · show g__law_word [.exc 3 "part" w] s = .ok (word ⟨3, "part", w⟩) s
    unfold g__law_word d__law_word
    rw [den_ev, e0, seq_ev, e1, seqK_nx, seq_ev, if_no (by decide) (by decide) rfl, seqK_nx, seq_ev, if_no (by decide) (by decide) rfl, seqK_nx, seq_ev, if_yes (by decide) (by decide) rfl (by decide), seqK_nx]
    repeat (rw [seq_ev, if_no (by decide) (by decide) rfl, seqK_nx])
    rw [List.nil_append, e9, fin_one hs (hcl _)]
    rfl
  · show g__law_word [.exc 7 "line" w] s = .ok (word ⟨7, "line", w⟩) s
    unfold g__law_word d__law_word
    rw [den_ev, e0, seq_ev, e1, seqK_nx, seq_ev, if_no (by decide) (by decide) rfl, seqK_nx, seq_ev, if_no (by decide) (by decide) rfl, seqK_nx, seq_ev, if_no (by decide) (by decide) rfl, seqK_nx, seq_ev, if_no (by decide) (by decide) rfl, seqK_nx, seq_ev, if_no (by decide) (by decide) rfl, seqK_nx, seq_ev, if_no (by decide) (by decide) rfl, seqK_nx, seq_ev, if_yes (by decide) (by decide) rfl (by decide), seqK_nx]
    repeat (rw [seq_ev, if_no (by decide) (by decide) rfl, seqK_nx])
    rw [List.nil_append, e9, fin_one hs (hcl _)]
    rfl
end MP.K20

set_option Elab.async false
set_option linter.all false
set_option maxRecDepth 100000
set_option maxHeartbeats 400000
/-! what a lambda's call comes to -/
namespace MP.K20
open PySem PySem.Spec PyProof.Rows L2 MP
def finR (n : Nat) : R Dv → R Dv
  | .ok w s => finW n w s
  | .er x s => finX n x s
  | .no => .no
theorem fin_then {n : Nat} {ρ : Env} (r : R Dv) : finC n (r.thenC ρ fun w s1 => .rt w s1) = finR n r := by cases r <;> rfl
theorem start4 (wa : List Dv) : ∃ a b c r, ∀ cl : Dv, startD 4 (cl :: wa) = some cl :: a :: b :: c :: r := by
  match wa with
  | [] => exact ⟨none, none, none, [], fun _ => rfl⟩
  | [x] => exact ⟨some x, none, none, [], fun _ => rfl⟩
  | [x, y] => exact ⟨some x, some y, none, [], fun _ => rfl⟩
  | x :: y :: z :: t => exact ⟨some x, some y, some z, t.map some ++ List.replicate (4 - (t.length + 4)) none, fun _ => rfl⟩
theorem isn {s : Sto} {k : Nat} {f : Str} {w : Dv} : isD s (.exc k f w) .non = some (.bl false) := rfl
theorem out_ev {n : Nat} {cl : Dv} {g : Sto → R Dv} {a b c : Option Dv} {r : Env} {s : Sto} : finC n (d__law_outcome cl g (some cl :: a :: b :: c :: r) s) = (match g s with
    | .ok v s1 => finW n (.lst [v]) s1
    | .er x s1 => if x.c < 9 then finR n (g__law_word [.exc x.c x.f x.w] s1) else .no
    | .no => .no) := by
  have e1 : mAsg (mTup (mCons (mK .non) (mCons (mK .non) mNil))) (gT 2 (gsC (gN 1) (gsC (gN 2) gs0))) (some cl :: a :: b :: c :: r) s = .nx (some cl :: some .non :: some .non :: c :: r) s := rfl
  have t1 : mThk 0 cl g (some cl :: some .non :: some .non :: c :: r) s = g s := thk_ev
  have e3 : ∀ (v : Dv) (s1 : Sto), mRet (mIf (mTest (mBin isD (mVar 2) (mK .non))) (mLst (mCons (mVar 1) mNil)) (mCall (g__law_word) (mCons (mVar 2) mNil))) (some cl :: some v :: some .non :: c :: r) s1 = .rt (.lst [v]) s1 := fun v s1 => by
    simp only [ret_ev, if_ev, test_ev, bin_ev, var_s, var_0, bind_ok, k_ev, is_nn, of_some, testK_bl, if_true, lst_ev, cons_ev, nil_ev]
    rw [if_pos (by show 1 ≤ 16000000; decide), then_ok]
  unfold d__law_outcome
  rw [seq_ev, e1, seqK_nx, seq_ev]
  cases e : g s with
  | ok v s1 =>
    have e2 : mTryKeep 3 (mAsg (mThk 0 cl g) (gN 1)) (mAsg (mVar 3) (gN 2)) (some cl :: some .non :: some .non :: c :: r) s = .nx (some cl :: some v :: some .non :: c :: r) s1 := try_nx (by rw [asgN_ev, t1, e, then_ok]; rfl)
    rw [e2, seqK_nx, e3]
    rfl
  | er x s1 =>
    have e0 : mAsg (mThk 0 cl g) (gN 1) (some cl :: some .non :: some .non :: c :: r) s = .er x (some cl :: some .non :: some .non :: c :: r) s1 := by rw [asgN_ev, t1, e, then_er]
    by_cases hx : x.c < 9
    · have e2 : mTryKeep 3 (mAsg (mThk 0 cl g) (gN 1)) (mAsg (mVar 3) (gN 2)) (some cl :: some .non :: some .non :: c :: r) s = .nx (some cl :: some .non :: some (.exc x.c x.f x.w) :: none :: r) s1 := by
        rw [try_er e0 hx]
        rfl
      rw [e2, seqK_nx]
      dsimp only
      rw [if_pos hx]
      simp only [ret_ev, if_ev, test_ev, bin_ev, var_s, var_0, bind_ok, k_ev, isn, of_some, testK_bl, Bool.false_eq_true, if_false, call_ev, cons_ev, nil_ev]
      exact fin_then _
    · dsimp only
      rw [if_neg hx]
      unfold mTryKeep
      rw [e0]
      dsimp only
      rw [if_neg hx]
      rfl
  | no =>
    unfold mTryKeep
    rw [asgN_ev, t1, e]
    rfl
theorem hd__law_outcome (cl : Dv) (g : Sto → R Dv) (wa : List Dv) (s : Sto) : finC s.length (d__law_outcome cl g (startD 4 (cl :: wa)) s) = h__law_outcome g wa s := by
  obtain ⟨a, b, c, r, e⟩ := start4 wa
  unfold h__law_outcome
  rw [e cl, e .non, out_ev, out_ev]
theorem out_ok {g : Sto → R Dv} {s : Sto} {v : Dv} (h : g s = .ok v s) : h__law_outcome g [] s = .ok (.lst [v]) s := by
  unfold h__law_outcome
  rw [show startD 4 [Dv.non] = [some .non, none, none, none] from rfl, out_ev, h]
  exact finW_le (Nat.le_refl _)
theorem known_lt {x : Ex} (h : Known x) : x.c < 9 := by
  rcases h with ⟨h, _⟩ | ⟨h, _⟩ | ⟨h, _⟩ | ⟨h, _⟩ <;> (rw [h]; decide)
theorem out_er {g : Sto → R Dv} {s : Sto} {x : Ex} (h : g s = .er x s) (hx : Known x) (hs : s.all (Ob.clean s.length) = true) (hw : clean s.length x.w = true) : h__law_outcome g [] s = .ok (word x) s := by
  unfold h__law_outcome
  rw [show startD 4 [Dv.non] = [some .non, none, none, none] from rfl, out_ev, h]
  dsimp only
  rw [if_pos (known_lt hx), word_ok hx hs hw]
  exact finW_le (Nat.le_refl _)
end MP.K20

set_option Elab.async false
set_option linter.all false
set_option maxRecDepth 100000
set_option maxHeartbeats 400000
/-! what need_rule and need_row say of any thing -/
namespace MP.K20
open PySem PySem.Spec PyProof.Rows L2 MP
section
variable {F : FI} {g : FG} {body : FS} {ρ ρ1 ρ2 : Env} {s s1 s2 : Sto} {w v : Dv} {ws : List Dv}
theorem for_src (h : F ρ s = .ok { ws := ws } s1) : mFor F g body ρ s = forL none g body ws ρ s1 := by
  unfold mFor
  rw [h]
  rfl
theorem forL_nil : forL none g body [] ρ s = .nx ρ s := by
  rw [forL, if_pos (.inl rfl)]
theorem forL_nx (h1 : g w ρ s = some ρ1) (h2 : body ρ1 s = .nx ρ2 s2) : forL none g body (w :: ws) ρ s = forL none g body ws ρ2 s2 := by
  rw [forL, if_pos (.inl rfl), h1]
  dsimp only
  rw [h2]
theorem forL_rt (h1 : g w ρ s = some ρ1) (h2 : body ρ1 s = .rt v s2) : forL none g body (w :: ws) ρ s = .rt v s2 := by
  rw [forL, if_pos (.inl rfl), h1]
  dsimp only
  rw [h2]
theorem for_mem {I : Env → Prop} (hF : F ρ s = .ok { ws := ws } s) (j : I ρ) (h : ∀ x ∈ ws, ∀ ρ, I ρ → ∃ ρ1 ρ2, g x ρ s = some ρ1 ∧ body ρ1 s = .nx ρ2 s ∧ I ρ2) : ∃ ρ', mFor F g body ρ s = .nx ρ' s ∧ I ρ' := by
  obtain ⟨ρ', s', h1, rfl, h2⟩ := for_ix (g := g) (body := body) (fun _ ρ s' => s' = s ∧ I ρ) hF ⟨rfl, j⟩ (fun i x ρ s' hx hJ => by
    obtain ⟨rfl, hI⟩ := hJ
    obtain ⟨ρ1, ρ2, q1, q2, q3⟩ := h x (List.mem_of_getElem? hx) ρ hI
    exact ⟨ρ1, ρ2, s', q1, .inl q2, rfl, q3⟩)
  exact ⟨ρ', h1, h2⟩
end
/-- kinds of things that are asked -/
def Kn : Dv → Bool
  | .non => true | .bl _ => true | .int _ => true | .str _ => true | .tup _ => true | .lst _ => true | .dct _ _ => true
  | _ => false
def inB (a b : Int) : Dv → Bool
  | .int i => decide (a ≤ i) && decide (i ≤ b)
  | _ => false
def firstO (a b : Int) : Nat → List Dv → Option Nat
  | _, [] => none
  | k, w :: ws => if inB a b w = true then firstO a b (k + 1) ws else some k
@[simp] theorem isA_di {s : Sto} {ks : List Key} {ws : List Dv} : isiA s [.dct ks ws, .ty "int"] = some (.bl false) := rfl
@[simp] theorem isA_dt {s : Sto} {ks : List Key} {ws : List Dv} : isiA s [.dct ks ws, .ty "tuple"] = some (.bl false) := rfl
section
variable {s : Sto} {w : Dv} {ws : List Dv} {a b : Int}
theorem body_in {T : Dv} {k : Int} (h : inB a b w = true) : b_first_outside_1 [some T, some (.int a), some (.int b), some (.int k), some w] s = .nx [some T, some (.int a), some (.int b), some (.int k), some w] s := by
  cases w with
  | int i =>
    simp only [inB, Bool.and_eq_true, decide_eq_true_eq] at h
    simp [b_first_outside_1, h.1, h.2]
  | _ => cases h
theorem body_out {T : Dv} {k : Int} (hk : Kn w = true) (h : inB a b w = false) : b_first_outside_1 [some T, some (.int a), some (.int b), some (.int k), some w] s = .rt (.int k) s := by
  cases w with
  | int i =>
    by_cases h1 : a ≤ i
    · have h2 : ¬ i ≤ b := fun z => by simp [inB, h1, z] at h
      simp [b_first_outside_1, h1, h2]
    · simp [b_first_outside_1, h1]
  | bl c => cases c <;> simp [b_first_outside_1, isD, isBl]
  | non => simp [b_first_outside_1]
  | str _ => simp [b_first_outside_1]
  | tup _ => simp [b_first_outside_1]
  | lst _ => simp [b_first_outside_1]
  | dct _ _ => simp [b_first_outside_1]
  | _ => cases hk
theorem forL_first {T : Dv} : ∀ (ws : List Dv) (k : Nat) (x y : Option Dv), (∀ w ∈ ws, Kn w = true) → ∃ x' y', forL none t_first_outside_1 b_first_outside_1 (enumD k ws) [some T, some (.int a), some (.int b), x, y] s = (match firstO a b k ws with
    | some n => .rt (.int n) s
    | none => .nx [some T, some (.int a), some (.int b), x', y'] s)
  | [], k, x, y, _ => ⟨x, y, forL_nil⟩
  | w :: ws, k, x, y, hk => by
    have hw := hk w List.mem_cons_self
    unfold firstO enumD
    cases hb : inB a b w with
    | true =>
      obtain ⟨x', y', ih⟩ := forL_first ws (k + 1) (some (.int (k : Nat))) (some w) fun v hv => hk v (List.mem_cons_of_mem _ hv)
      refine ⟨x', y', ?_⟩
      rw [forL_nx (ρ1 := [some T, some (.int a), some (.int b), some (.int (k : Nat)), some w]) rfl (body_in hb), ih]
      rfl
    | false =>
      refine ⟨x, y, ?_⟩
      rw [forL_rt (ρ1 := [some T, some (.int a), some (.int b), some (.int (k : Nat)), some w]) rfl (body_out hw hb)]
      rfl
theorem first_eq (hk : ∀ w ∈ ws, Kn w = true) : g_first_outside [.tup ws, .int a, .int b] s = .ok (match firstO a b 0 ws with | some n => .int n | none => .non) s := by
  have e0 : startD 5 [Dv.tup ws, .int a, .int b] = [some (.tup ws), some (.int a), some (.int b), none, none] := rfl
  have eF : F_first_outside_1 [some (.tup ws), some (.int a), some (.int b), none, none] s = .ok { ws := enumD 0 ws } s := rfl
  obtain ⟨x', y', h⟩ := forL_first (s := s) (a := a) (b := b) (T := .tup ws) ws 0 none none hk
  unfold g_first_outside d_first_outside
  rw [den_ev, e0, seq_ev, for_src eF, h]
  cases firstO a b 0 ws with
  | some n => rw [seqK_rt, finC_rt]
  | none => rw [seqK_nx, ret_ev, k_ev, then_ok, finC_rt]
/-- what is wrong with a thing -/
def judge (lo hi a b : Int) : Dv → Option Dv
  | .tup ws => if lo ≤ ws.length ∧ ws.length ≤ hi then (match firstO a b 0 ws with | some n => some (.int n) | none => none) else some .non
  | _ => some .non
def Kn2 (w : Dv) : Prop := Kn w = true ∧ ∀ ws, w = .tup ws → ∀ v ∈ ws, Kn v = true
@[simp] theorem isnt_int {s : Sto} {i : Int} : isntD s (.int i) .non = some (.bl true) := rfl
theorem tuple_no (h : Kn w = true) (h2 : ∀ ws, w ≠ .tup ws) : g_is_tuple [w, .int a, .int b] s = .ok (.bl false) s := by
  cases w with
  | tup ws => exact absurd rfl (h2 ws)
  | non => simp [g_is_tuple, d_is_tuple]
  | bl _ => simp [g_is_tuple, d_is_tuple]
  | int _ => simp [g_is_tuple, d_is_tuple]
  | str _ => simp [g_is_tuple, d_is_tuple]
  | lst _ => simp [g_is_tuple, d_is_tuple]
  | dct _ _ => simp [g_is_tuple, d_is_tuple]
  | _ => cases h
theorem need_rule_eq (h : Kn2 w) : g_need_rule [w] s = (match judge 1 6 (-20) 20 w with | none => .ok w s | some x => .er ⟨1, "number", x⟩ s) := by
  cases w with
  | tup ws =>
    by_cases hl : (1 : Int) ≤ ws.length ∧ (ws.length : Int) ≤ 6
    · have e : judge 1 6 (-20) 20 (.tup ws) = (match firstO (-20) 20 0 ws with | some n => some (.int n) | none => none) := if_pos hl
      rw [e]
      have hf := first_eq (s := s) (a := -20) (b := 20) (h.2 ws rfl)
      cases hq : firstO (-20) 20 0 ws with
      | none => rw [hq] at hf; simp [g_need_rule, d_need_rule, is_tuple_tup, hf, hl.1, hl.2]
      | some n => rw [hq] at hf; simp [g_need_rule, d_need_rule, is_tuple_tup, hf, hl.1, hl.2]
    · have e : judge 1 6 (-20) 20 (.tup ws) = some .non := if_neg hl
      rw [e]
      have ht : g_is_tuple [.tup ws, .int 1, .int 6] s = .ok (.bl false) s := by
        rw [is_tuple_tup]
        by_cases h1 : (1 : Int) ≤ ws.length
        · have h2 : ¬ (ws.length : Int) ≤ 6 := fun z => hl ⟨h1, z⟩
          simp [h2]
        · simp [h1]
      simp [g_need_rule, d_need_rule, ht]
  | non => simp [g_need_rule, d_need_rule, tuple_no h.1 (fun _ e => by cases e), judge]
  | bl _ => simp [g_need_rule, d_need_rule, tuple_no h.1 (fun _ e => by cases e), judge]
  | int _ => simp [g_need_rule, d_need_rule, tuple_no h.1 (fun _ e => by cases e), judge]
  | str _ => simp [g_need_rule, d_need_rule, tuple_no h.1 (fun _ e => by cases e), judge]
  | lst _ => simp [g_need_rule, d_need_rule, tuple_no h.1 (fun _ e => by cases e), judge]
  | dct _ _ => simp [g_need_rule, d_need_rule, tuple_no h.1 (fun _ e => by cases e), judge]
  | _ => cases h.1
theorem need_row_eq (h : Kn2 w) : g_need_row [w] s = (match judge 0 200 0 1000000 w with | none => .ok w s | some x => .er ⟨2, "number", x⟩ s) := by
  cases w with
  | tup ws =>
    by_cases hl : (0 : Int) ≤ ws.length ∧ (ws.length : Int) ≤ 200
    · have e : judge 0 200 0 1000000 (.tup ws) = (match firstO 0 1000000 0 ws with | some n => some (.int n) | none => none) := if_pos hl
      rw [e]
      have hf := first_eq (s := s) (a := 0) (b := 1000000) (h.2 ws rfl)
      cases hq : firstO 0 1000000 0 ws with
      | none => rw [hq] at hf; simp [g_need_row, d_need_row, is_tuple_tup, hf, hl.2]
      | some n => rw [hq] at hf; simp [g_need_row, d_need_row, is_tuple_tup, hf, hl.2]
    · have e : judge 0 200 0 1000000 (.tup ws) = some .non := if_neg hl
      rw [e]
      have h2 : ¬ (ws.length : Int) ≤ 200 := fun z => hl ⟨by omega, z⟩
      have ht : g_is_tuple [.tup ws, .int 0, .int 200] s = .ok (.bl false) s := by
        rw [is_tuple_tup]
        simp [h2]
      simp [g_need_row, d_need_row, ht]
  | non => simp [g_need_row, d_need_row, tuple_no h.1 (fun _ e => by cases e), judge]
  | bl _ => simp [g_need_row, d_need_row, tuple_no h.1 (fun _ e => by cases e), judge]
  | int _ => simp [g_need_row, d_need_row, tuple_no h.1 (fun _ e => by cases e), judge]
  | str _ => simp [g_need_row, d_need_row, tuple_no h.1 (fun _ e => by cases e), judge]
  | lst _ => simp [g_need_row, d_need_row, tuple_no h.1 (fun _ e => by cases e), judge]
  | dct _ _ => simp [g_need_row, d_need_row, tuple_no h.1 (fun _ e => by cases e), judge]
  | _ => cases h.1
/-! ### the law's own look -/
end
end MP.K20

set_option Elab.async false
set_option linter.all false
set_option maxRecDepth 100000
set_option maxHeartbeats 400000
/-! what need_bill says of any thing -/
namespace MP.K20
open PySem PySem.Spec PyProof.Rows L2 MP
mutual
def KnR : Dv → Bool
  | .non => true | .bl _ => true | .int _ => true | .str _ => true | .lst _ => true | .dct _ _ => true
  | .tup ws => KnRs ws
  | _ => false
def KnRs : List Dv → Bool
  | [] => true
  | w :: ws => KnR w && KnRs ws
end
theorem knrs {ws : List Dv} (h : KnRs ws = true) : ∀ v ∈ ws, KnR v = true := by
  induction ws with
  | nil => intro v hv; cases hv
  | cons a r ih =>
    unfold KnRs at h
    rw [Bool.and_eq_true] at h
    intro v hv
    rcases List.mem_cons.mp hv with rfl | hv
    · exact h.1
    · exact ih h.2 v hv
theorem knrs_of {ws : List Dv} (h : ∀ v ∈ ws, KnR v = true) : KnRs ws = true := by
  induction ws with
  | nil => rfl
  | cons a r ih =>
    unfold KnRs
    rw [h a List.mem_cons_self, ih fun v hv => h v (List.mem_cons_of_mem _ hv)]
    rfl
theorem knr_kn {w : Dv} (h : KnR w = true) : Kn w = true := by
  cases w with
  | tup _ => rfl
  | _ => first | rfl | exact h
theorem knr_kn2 {w : Dv} (h : KnR w = true) : Kn2 w := ⟨knr_kn h, fun ws e v hv => by subst e; exact knr_kn (knrs h v hv)⟩
section
variable {s : Sto} {w : Dv} {ws : List Dv} {a b : Int}
def ruleB (w : Dv) : Bool := (judge 1 6 (-20) 20 w).isNone
theorem is_rule_eq (h : KnR w = true) : g_is_rule [w] s = .ok (.bl (ruleB w)) s := by
  have e0 : startD 1 [w] = [some w] := rfl
  have q := need_rule_eq (s := s) (knr_kn2 h)
  unfold g_is_rule d_is_rule ruleB
  rw [den_ev, e0]
  cases hj : judge 1 6 (-20) 20 w with
  | none =>
    rw [hj] at q
    rw [seq_nx (tryO_nx (by rw [expr_ev, call_v (cons_v (w := w) rfl nil_ev) q, then_ok])) (ret_v k_ev), finC_rt]
    rfl
  | some x =>
    rw [hj] at q
    have e : mTryOnly 1 (mExpr (mCall (g_need_rule) (mCons (mVar 0) mNil))) (mRet (mK (.bl false))) [some w] s = .rt (.bl false) s := by
      rw [tryO_er (x := ⟨1, "number", x⟩) (ρ' := [some w]) (s1 := s) (by rw [expr_ev, call_v (cons_v (w := w) rfl nil_ev) q, then_er]) (show 1 < 9 by decide) (by decide) rfl]
      rw [ret_v k_ev]
    rw [seq_rt e, finC_rt]
    rfl
theorem int_eq (h : Kn w = true) : g_is_int [w] s = .ok (.bl (match w with | .int _ => true | _ => false)) s := by
  cases w with
  | int i => exact is_int_int i s
  | bl c => cases c <;> simp [g_is_int, d_is_int, isntD, isBl]
  | non => simp [g_is_int, d_is_int]
  | str _ => simp [g_is_int, d_is_int]
  | tup _ => simp [g_is_int, d_is_int]
  | lst _ => simp [g_is_int, d_is_int]
  | dct _ _ => simp [g_is_int, d_is_int]
  | _ => cases h
theorem within_eq (h : Kn w = true) : g_is_int_within [w, .int a, .int b] s = .ok (.bl (inB a b w)) s := by
  cases w with
  | int i => rw [is_int_within_int]; rfl
  | bl c => simp [g_is_int_within, d_is_int_within, int_eq h, inB]
  | non => simp [g_is_int_within, d_is_int_within, int_eq h, inB]
  | str _ => simp [g_is_int_within, d_is_int_within, int_eq h, inB]
  | tup _ => simp [g_is_int_within, d_is_int_within, int_eq h, inB]
  | lst _ => simp [g_is_int_within, d_is_int_within, int_eq h, inB]
  | dct _ _ => simp [g_is_int_within, d_is_int_within, int_eq h, inB]
  | _ => cases h
theorem is_factor_eq (h : Kn w = true) : g_is_factor [w] s = .ok (.bl (inB (-50) 50 w)) s := by
  have e0 : startD 1 [w] = [some w] := rfl
  unfold g_is_factor d_is_factor
  rw [den_ev, e0, ret_v (call_v (cons_v (w := w) rfl (cons_v (un_v k_ev neg_ev) (cons_v k_ev nil_ev))) (within_eq h)), finC_rt]
def termB : Dv → Bool
  | .tup [r, a, b] => ruleB r && inB (-50) 50 a && inB (-50) 50 b
  | _ => false
theorem tuple_eq (h : Kn w = true) : g_is_tuple [w, .int a, .int b] s = .ok (.bl (match w with | .tup ws => decide (a ≤ ws.length) && decide (ws.length ≤ b) | _ => false)) s := by
  cases w with
  | tup ws => exact is_tuple_tup ws a b s
  | _ => exact tuple_no h (fun _ e => by cases e)
theorem andV_v {f g : FE} {ρ : Env} {c d : Bool} (h : f ρ s = .ok (.bl c) s) (h2 : g ρ s = .ok (.bl d) s) : mAndV f g ρ s = .ok (.bl (c && d)) s := by
  unfold mAndV
  rw [h, bind_ok]
  cases c with
  | true => exact h2
  | false => rfl
theorem not_tt {f : FE} {ρ : Env} {c d : FS} (h : f ρ s = .ok (.bl true) s) : mIfS (mNot (mTest f)) c d ρ s = d ρ s := ifS_f (not_v (test_v h))
theorem not_tf {f : FE} {ρ : Env} {c d : FS} (h : f ρ s = .ok (.bl false) s) : mIfS (mNot (mTest f)) c d ρ s = c ρ s := ifS_t (not_v (test_v h))
theorem tuple_n {n : Nat} : g_is_tuple [.tup ws, .int n, .int n] s = .ok (.bl (decide (ws.length = n))) s := by
  rw [is_tuple_tup]
  congr 2
  by_cases h : ws.length = n
  · simp [h]
  · rw [decide_eq_false h, Bool.and_eq_false_iff]
    by_cases h2 : (n : Int) ≤ ws.length
    · exact .inr (decide_eq_false (by omega))
    · exact .inl (decide_eq_false h2)
theorem is_term_eq (h : KnR w = true) : g_is_term [w] s = .ok (.bl (termB w)) s := by
  have e0 : startD 4 [w] = [some w, none, none, none] := rfl
  unfold g_is_term d_is_term
  rw [den_ev, e0]
  have no : g_is_tuple [w, .int 3, .int 3] s = .ok (.bl false) s → termB w = false → finC s.length (mSeq (mIfS (mNot (mTest (mCall (g_is_tuple) (mCons (mVar 0) (mCons (mK (.int 3)) (mCons (mK (.int 3)) mNil)))))) (mRet (mK (.bl false))) mNext)
      (mSeq (mAsg (mVar 0) (gT 3 (gsC (gN 1) (gsC (gN 2) (gsC (gN 3) gs0)))))
      (mRet (mAndV (mCall (g_is_rule) (mCons (mVar 1) mNil)) (mAndV (mCall (g_is_factor) (mCons (mVar 2) mNil)) (mCall (g_is_factor) (mCons (mVar 3) mNil)))))) [some w, none, none, none] s) = .ok (.bl (termB w)) s := fun h1 h2 => by
    exact fin_rtS (w := .bl false) (s1 := s) ((not_tf (call_v (cons_v (w := w) rfl (cons_v k_ev (cons_v k_ev nil_ev))) h1)).trans (ret_v k_ev)) (by rw [finC_rt, h2])
  cases w with
  | tup ws =>
    by_cases hl : ws.length = 3
    · match ws, hl, h with
      | [r, a, b], _, h =>
        have hr := knrs h r (by simp)
        have ha := knr_kn (knrs h a (by simp))
        have hb := knr_kn (knrs h b (by simp))
        have h1 : g_is_tuple [.tup [r, a, b], .int 3, .int 3] s = .ok (.bl true) s := tuple_n (n := 3)
        refine fin_nx (ρ1 := [some (.tup [r, a, b]), none, none, none]) (s1 := s) ((not_tt (call_v (cons_v (w := .tup [r, a, b]) rfl (cons_v k_ev (cons_v k_ev nil_ev))) h1)).trans rfl) ?_
        refine fin_nx (ρ1 := [some (.tup [r, a, b]), some r, some a, some b]) (s1 := s) rfl ?_
        refine fin_v (ret_v (andV_v (call_v (cons_v (w := r) rfl nil_ev) (is_rule_eq hr)) (andV_v (call_v (cons_v (w := a) rfl nil_ev) (is_factor_eq ha)) (call_v (cons_v (w := b) rfl nil_ev) (is_factor_eq hb))))) ?_
        rw [finC_rt]
        congr 2
        show _ = (ruleB r && inB (-50) 50 a && inB (-50) 50 b)
        rw [Bool.and_assoc]
    · refine no ((tuple_n (n := 3)).trans (by rw [decide_eq_false hl])) ?_
      match ws, hl with
      | [], _ => rfl
      | [_], _ => rfl
      | [_, _], _ => rfl
      | [_, _, _], h => exact absurd rfl h
      | _ :: _ :: _ :: _ :: _, _ => rfl
  | _ => exact no (tuple_no (knr_kn h) (fun _ e => by cases e)) rfl
def firstT : Nat → List Dv → Option Nat
  | _, [] => none
  | k, w :: ws => if termB w = true then firstT (k + 1) ws else some k
def wrongB : Dv → Option Dv
  | .tup [o, t] => if inB (-50) 50 o = true then (match t with
      | .tup ts => if ts.length ≤ 2 then (match firstT 0 ts with | some n => some (.int n) | none => none) else some (.str "terms")
      | _ => some (.str "terms")) else some (.str "own")
  | _ => some (.str "form")
theorem forL_terms {T o t : Dv} : ∀ (ws : List Dv) (k : Nat) (x y : Option Dv), KnRs ws = true → ∃ x' y', forL none t_need_bill_1 b_need_bill_1 (enumD k ws) [some T, some o, some t, x, y] s = (match firstT k ws with
    | some n => .er ⟨3, "part", .int n⟩ [some T, some o, some t, x', y'] s
    | none => .nx [some T, some o, some t, x', y'] s)
  | [], k, x, y, _ => ⟨x, y, forL_nil⟩
  | w :: ws, k, x, y, hk => by
    have hw := knrs hk w List.mem_cons_self
    have hr : KnRs ws = true := knrs_of fun v hv => knrs hk v (List.mem_cons_of_mem _ hv)
    unfold firstT enumD
    cases hb : termB w with
    | true =>
      obtain ⟨x', y', ih⟩ := forL_terms (T := T) (o := o) (t := t) ws (k + 1) (some (.int (k : Nat))) (some w) hr
      refine ⟨x', y', ?_⟩
      have hbd : b_need_bill_1 [some T, some o, some t, some (.int (k : Nat)), some w] s = .nx [some T, some o, some t, some (.int (k : Nat)), some w] s := by
        unfold b_need_bill_1
        exact (not_tt (call_v (cons_v (w := w) rfl nil_ev) ((is_term_eq hw).trans (by rw [hb])))).trans rfl
      rw [forL_nx (ρ1 := [some T, some o, some t, some (.int (k : Nat)), some w]) rfl hbd, ih]
      rfl
    | false =>
      refine ⟨some (.int (k : Nat)), some w, ?_⟩
      have hbd : b_need_bill_1 [some T, some o, some t, some (.int (k : Nat)), some w] s = .er ⟨3, "part", .int (k : Nat)⟩ [some T, some o, some t, some (.int (k : Nat)), some w] s := by
        unfold b_need_bill_1
        exact (not_tf (call_v (cons_v (w := w) rfl nil_ev) ((is_term_eq hw).trans (by rw [hb])))).trans rfl
      rw [forL_er (ρ1 := [some T, some o, some t, some (.int (k : Nat)), some w]) rfl hbd]
      rfl
theorem need_bill_eq (h : KnR w = true) : g_need_bill [w] s = (match wrongB w with | none => .ok w s | some x => .er ⟨3, "part", x⟩ s) := by
  have e0 : startD 5 [w] = [some w, none, none, none, none] := rfl
  unfold g_need_bill d_need_bill
  rw [den_ev, e0]
  have no : g_is_tuple [w, .int 2, .int 2] s = .ok (.bl false) s → wrongB w = some (.str "form") → finC s.length (mSeq (mIfS (mNot (mTest (mCall (g_is_tuple) (mCons (mVar 0) (mCons (mK (.int 2)) (mCons (mK (.int 2)) mNil)))))) (mRaise 3 "part" (mK (.str "form"))) mNext)
  (mSeq (mAsg (mVar 0) (gT 2 (gsC (gN 1) (gsC (gN 2) gs0))))
  (mSeq (mIfS (mNot (mTest (mCall (g_is_factor) (mCons (mVar 1) mNil)))) (mRaise 3 "part" (mK (.str "own"))) mNext)
  (mSeq (mIfS (mNot (mTest (mCall (g_is_tuple) (mCons (mVar 2) (mCons (mK (.int 0)) (mCons (mK (.int 2)) mNil)))))) (mRaise 3 "part" (mK (.str "terms"))) mNext)
  (mSeq (mFor F_need_bill_1 t_need_bill_1 b_need_bill_1)
  (mRet (mVar 0)))))) [some w, none, none, none, none] s) = (match wrongB w with | none => .ok w s | some x => .er ⟨3, "part", x⟩ s) := fun h1 h2 => by
    exact fin_erS (x := ⟨3, "part", .str "form"⟩) (ρ1 := [some w, none, none, none, none]) (s1 := s) ((not_tf (call_v (cons_v (w := w) rfl (cons_v k_ev (cons_v k_ev nil_ev))) h1)).trans rfl) (by rw [finC_er, h2])
  cases w with
  | tup ws =>
    by_cases hl : ws.length = 2
    · match ws, hl, h with
      | [o, t], _, h =>
        have ho := knr_kn (knrs h o (by simp))
        have ht := knrs h t (by simp)
        have h1 : g_is_tuple [.tup [o, t], .int 2, .int 2] s = .ok (.bl true) s := tuple_n (n := 2)
        refine fin_nx (ρ1 := [some (.tup [o, t]), none, none, none, none]) (s1 := s) ((not_tt (call_v (cons_v (w := .tup [o, t]) rfl (cons_v k_ev (cons_v k_ev nil_ev))) h1)).trans rfl) ?_
        refine fin_nx (ρ1 := [some (.tup [o, t]), some o, some t, none, none]) (s1 := s) rfl ?_
        cases hob : inB (-50) 50 o with
        | false =>
          have e : wrongB (.tup [o, t]) = some (.str "own") := by show (if inB (-50) 50 o = true then _ else _) = _; rw [hob]; rfl
          exact fin_erS (x := ⟨3, "part", .str "own"⟩) (ρ1 := [some (.tup [o, t]), some o, some t, none, none]) (s1 := s) ((not_tf (call_v (cons_v (w := o) rfl nil_ev) ((is_factor_eq ho).trans (by rw [hob])))).trans rfl) (by rw [finC_er, e])
        | true =>
          refine fin_nx (ρ1 := [some (.tup [o, t]), some o, some t, none, none]) (s1 := s) ((not_tt (call_v (cons_v (w := o) rfl nil_ev) ((is_factor_eq ho).trans (by rw [hob])))).trans rfl) ?_
          have bad : g_is_tuple [t, .int 0, .int 2] s = .ok (.bl false) s → wrongB (.tup [o, t]) = some (.str "terms") → finC s.length (mSeq (mIfS (mNot (mTest (mCall (g_is_tuple) (mCons (mVar 2) (mCons (mK (.int 0)) (mCons (mK (.int 2)) mNil)))))) (mRaise 3 "part" (mK (.str "terms"))) mNext)
              (mSeq (mFor F_need_bill_1 t_need_bill_1 b_need_bill_1) (mRet (mVar 0))) [some (.tup [o, t]), some o, some t, none, none] s) = (match wrongB (.tup [o, t]) with | none => .ok (.tup [o, t]) s | some x => .er ⟨3, "part", x⟩ s) := fun h2 h3 => by
            exact fin_erS (x := ⟨3, "part", .str "terms"⟩) (ρ1 := [some (.tup [o, t]), some o, some t, none, none]) (s1 := s) ((not_tf (call_v (cons_v (w := t) rfl (cons_v k_ev (cons_v k_ev nil_ev))) h2)).trans rfl) (by rw [finC_er, h3])
          cases t with
          | tup ts =>
            by_cases h2 : ts.length ≤ 2
            · have e : wrongB (.tup [o, .tup ts]) = (match firstT 0 ts with | some n => some (.int n) | none => none) := by
                show (if inB (-50) 50 o = true then (if ts.length ≤ 2 then _ else _) else _) = _
                rw [hob, if_pos rfl, if_pos h2]
              have h3 : g_is_tuple [.tup ts, .int 0, .int 2] s = .ok (.bl true) s := by
                rw [is_tuple_tup, decide_eq_true (show (0 : Int) ≤ ts.length by omega), decide_eq_true (show (ts.length : Int) ≤ 2 by omega)]; rfl
              rw [e]
              refine fin_nx (ρ1 := [some (.tup [o, .tup ts]), some o, some (.tup ts), none, none]) (s1 := s) ((not_tt (call_v (cons_v (w := .tup ts) rfl (cons_v k_ev (cons_v k_ev nil_ev))) h3)).trans rfl) ?_
              obtain ⟨x', y', hf⟩ := forL_terms (s := s) (T := .tup [o, .tup ts]) (o := o) (t := .tup ts) ts 0 none none ht
              have hfor : mFor F_need_bill_1 t_need_bill_1 b_need_bill_1 [some (.tup [o, .tup ts]), some o, some (.tup ts), none, none] s = _ := (for_src (ws := enumD 0 ts) (s1 := s) rfl).trans hf
              cases hq : firstT 0 ts with
              | none =>
                rw [hq] at hfor
                exact fin_nx hfor (fin_v (ret_v (w := .tup [o, .tup ts]) rfl) finC_rt)
              | some n =>
                rw [hq] at hfor
                exact fin_erS hfor finC_er
            · refine bad ?_ ?_
              · rw [is_tuple_tup, decide_eq_false (show ¬ (ts.length : Int) ≤ 2 by omega), Bool.and_false]
              · show (if inB (-50) 50 o = true then (if ts.length ≤ 2 then _ else _) else _) = _
                rw [hob, if_pos rfl, if_neg h2]
          | non => exact bad (tuple_no (knr_kn ht) (fun _ e => by cases e)) (by show (if inB (-50) 50 o = true then _ else _) = _; rw [hob]; rfl)
          | bl _ => exact bad (tuple_no (knr_kn ht) (fun _ e => by cases e)) (by show (if inB (-50) 50 o = true then _ else _) = _; rw [hob]; rfl)
          | int _ => exact bad (tuple_no (knr_kn ht) (fun _ e => by cases e)) (by show (if inB (-50) 50 o = true then _ else _) = _; rw [hob]; rfl)
          | str _ => exact bad (tuple_no (knr_kn ht) (fun _ e => by cases e)) (by show (if inB (-50) 50 o = true then _ else _) = _; rw [hob]; rfl)
          | lst _ => exact bad (tuple_no (knr_kn ht) (fun _ e => by cases e)) (by show (if inB (-50) 50 o = true then _ else _) = _; rw [hob]; rfl)
          | dct _ _ => exact bad (tuple_no (knr_kn ht) (fun _ e => by cases e)) (by show (if inB (-50) 50 o = true then _ else _) = _; rw [hob]; rfl)
          | _ => cases ht
    · refine no ((tuple_n (n := 2)).trans (by rw [decide_eq_false hl])) ?_
      match ws, hl with
      | [], _ => rfl
      | [_], _ => rfl
      | [_, _], h => exact absurd rfl h
      | _ :: _ :: _ :: _, _ => rfl
  | _ => exact no (tuple_no (knr_kn h) (fun _ e => by cases e)) rfl
end
end MP.K20

set_option Elab.async false
set_option linter.all false
set_option maxRecDepth 100000
set_option maxHeartbeats 400000
/-! texts of bills and rows -/
namespace MP.K20
open PySem PySem.Spec PyProof.Rows L2 MP TL
/-- ints of few figures -/
def Few (k : Nat) (ns : List Int) : Prop := ∀ i ∈ ns, i.natAbs < 10 ^ k
abbrev BL : Str := " "
abbrev NL : Str := "\n"
theorem W_len {i : Int} {k : Nat} (hk : 0 < k) (h : i.natAbs < 10 ^ k) : (Wi i).length ≤ k + 1 := by rw [len_tl, tl_W]; exact dg_len hk h
theorem sum_len {ns : List Int} {k : Nat} (hk : 0 < k) (h : Few k ns) : ((ns.map Wi).map (·.length)).sum ≤ ns.length * (k + 1) := by
  induction ns with
  | nil => exact Nat.zero_le _
  | cons i ns ih =>
    have h1 := W_len hk (h i List.mem_cons_self)
    have h2 := ih fun j hj => h j (List.mem_cons_of_mem _ hj)
    simp only [List.map_cons, List.sum_cons, List.length_cons, Nat.succ_mul] at h2 ⊢
    omega
section
variable {s : Sto} {ns : List Int} {k : Nat} {o : Int} {ts : List Term}
theorem join_ok {a : Str} {y : Dv} {ys : List Str} (h : seqOf s y = some (ys.map .str)) (hl : (ys.map (·.length)).sum + ys.length * a.length ≤ 1000000) : jnD s (.str a) y = some (.str (Txt.join a ys)) := by
  unfold jnD
  rw [h, show (some (ys.map Dv.str)).bind strsOf = some ys from strs_map ys]
  exact if_pos hl
theorem str1_v {o2 : O2} {f g : FE} {ρ : Env} {s1 s2 : Sto} {a : Str} {y w : Dv} (h : f ρ s = .ok (.str a) s1) (h2 : g ρ s1 = .ok y s2) (h3 : o2 s2 (.str a) y = some w) : mStr1 o2 f g ρ s = .ok w s2 := by
  unfold mStr1
  rw [h, bind_ok]
  dsimp only
  rw [h2, bind_ok, h3, of_some]
theorem str_i {i : Int} (h : i.natAbs < 10 ^ 7) : strD s [.int i] = some (.str (Wi i)) := if_pos (Nat.lt_trans h (by decide))
theorem BLl : BL.length = 1 := by decide +kernel
theorem NLl : NL.length = 1 := by decide +kernel
/-- words of ints -/
def wordsP (ns : List Int) : Str := Txt.join BL (ns.map Wi)
theorem words_bound (h : Few 7 ns) (hl : ns.length ≤ 210) : ((ns.map Wi).map (·.length)).sum + (ns.map Wi).length * BL.length ≤ 1000000 := by
  have := sum_len (by decide) h
  rw [BLl, List.length_map]
  omega
theorem words_of_ok (h : Few 7 ns) (hl : ns.length ≤ 210) : g_words_of [tI ns] s = .ok (.str (wordsP ns)) s := by
  have e0 : startD 2 [tI ns] = [some (tI ns), none] := rfl
  have hc : mComp cF_words_of_1 [1] ct_words_of_1 ci_words_of_1 ce_words_of_1 [some (tI ns), none] s = .ok (.lst (ns.map fun i => .str (Wi i))) s := by
    refine comp_mapA (e := .int) _ rfl (by unfold lim; omega) fun i hi => ⟨[some (tI ns), some (.int i)], rfl, ?_⟩
    unfold ce_words_of_1
    exact blt_v (cons_v (w := .int i) rfl nil_ev) (str_i (h i hi))
  unfold g_words_of d_words_of
  rw [den_ev, e0]
  refine fin_v (ret_v (str1_v k_ev hc (join_ok (ys := ns.map Wi) ?_ (words_bound h hl)))) finC_rt
  show some (ns.map fun i => Dv.str (Wi i)) = _
  rw [List.map_map]
  rfl
/-! ### a bill's page -/
abbrev tr (t : Term) : List Int := t.a :: t.b :: t.rs
def rowT (t : Term) : Str := ("term " : Str) ++ wordsP (tr t)
def rowsB (o : Int) (ts : List Term) : List Str := (("own " : Str) ++ Wi o) :: ts.map rowT
def billP (o : Int) (ts : List Term) : Str := Txt.join NL (rowsB o ts)
theorem few_tr {t : Term} (h : TermOk t) : Few 3 (tr t) := fun i hi => by
  have q1 := h.a0
  have q2 := h.a1
  have q3 := h.b0
  have q4 := h.b1
  simp only [List.mem_cons] at hi
  rcases hi with rfl | rfl | hi
  · omega
  · omega
  · have := h.rule.ok i hi
    omega
theorem Few.mono {j : Nat} (h : Few j ns) (hj : j ≤ k) : Few k ns := fun i hi => Nat.lt_of_lt_of_le (h i hi) (Nat.pow_le_pow_right (by decide) hj)
theorem tr_len {t : Term} (h : TermOk t) : (tr t).length ≤ 8 := by
  have := h.rule.six
  simp only [List.length_cons]
  omega
theorem joinL_len : ∀ {S : List Nat} {ps : List (List Nat)}, (joinL S ps).length ≤ (ps.map List.length).sum + ps.length * S.length
  | S, [] => Nat.zero_le _
  | S, [p] => by simp [joinL]
  | S, p :: q :: r => by
    have := joinL_len (S := S) (ps := q :: r)
    simp only [joinL, List.length_append, List.map_cons, List.sum_cons, List.length_cons] at this ⊢
    have e1 : (r.length + 1 + 1) * S.length = (r.length + 1) * S.length + S.length := Nat.succ_mul _ _
    omega
theorem join_len {a : Str} {ys : List Str} : (Txt.join a ys).length ≤ (ys.map (·.length)).sum + ys.length * a.length := by
  rw [len_tl, join_eq, tl_join]
  refine Nat.le_trans joinL_len ?_
  rw [List.map_map, List.length_map, ← len_tl]
  have : (ys.map (List.length ∘ tl)) = ys.map (·.length) := List.map_congr_left fun y _ => (len_tl y).symm
  rw [this]
  exact Nat.le_refl _
theorem app_len (a b : Str) : (a ++ b).length = a.length + b.length := by rw [len_tl, tl_append, List.length_append, ← len_tl, ← len_tl]
theorem words_len (h : Few 3 ns) (hl : ns.length ≤ 8) : (wordsP ns).length ≤ 40 := by
  have h1 : (wordsP ns).length ≤ ((ns.map Wi).map (·.length)).sum + (ns.map Wi).length * BL.length := join_len
  have h2 := sum_len (k := 3) (by decide) h
  rw [BLl, List.length_map] at h1
  omega
theorem t5 : ("term " : Str).length = 5 := by decide +kernel
theorem o4 : ("own " : Str).length = 4 := by decide +kernel
theorem rowT_len {t : Term} (h : TermOk t) : (rowT t).length ≤ 50 := by
  unfold rowT
  have := words_len (few_tr h) (tr_len h)
  rw [app_len, t5]
  omega
theorem rowsB_sum (ho : o.natAbs < 10 ^ 3) (h : ∀ t ∈ ts, TermOk t) : ((rowsB o ts).map (·.length)).sum ≤ 10 + 50 * ts.length := by
  have key : ∀ {ts : List Term}, (∀ t ∈ ts, TermOk t) → ((ts.map rowT).map (·.length)).sum ≤ 50 * ts.length := fun {ts} => by
    induction ts with
    | nil => intro _; exact Nat.zero_le _
    | cons t ts ih =>
      intro h
      have h1 := rowT_len (h t List.mem_cons_self)
      have h2 := ih fun u hu => h u (List.mem_cons_of_mem _ hu)
      simp only [List.map_cons, List.sum_cons, List.length_cons] at h2 ⊢
      omega
  have h1 := key h
  have h2 := W_len (k := 3) (by decide) ho
  unfold rowsB
  rw [List.map_cons, List.sum_cons, app_len, o4]
  omega
theorem add_ss {a b : Str} (h : a.length + b.length ≤ 1000000) : addD s (.str a) (.str b) = some (.str (a ++ b)) := if_pos (by unfold lim; omega)
theorem get_push {s : Sto} {ob : Ob} : (s ++ [ob])[s.length]? = some ob := by simp
theorem set_push {s : Sto} {ob ob' : Ob} : (s ++ [ob]).set s.length ob' = s ++ [ob'] := by simp [List.set_append]
theorem push_v {fa : FA} {ρ : Env} {ws : List Dv} {i : Nat} (h : fa ρ s = .ok ws s) (hl : ws.length ≤ 1000000) : mAsg (mLstM fa) (gN i) ρ s = .nx (ρ.set i (some (.ref s.length))) (s ++ [.lst ws]) := by
  rw [asgN_ev]
  unfold mLstM
  rw [h, bind_ok, if_pos (by unfold lim; omega), then_ok]
theorem fin_str {x : Str} {ob : Ob} (hs : s.all (Ob.clean s.length) = true) : finC s.length (.rt (.str x) (s ++ [ob])) = .ok (.str x) s := fin_one hs rfl
theorem rows_join {ws : List Dv} {ys : List Str} (e : ws = ys.map .str) (hl : (ys.map (·.length)).sum + ys.length * NL.length ≤ 1000000) : jnD (s ++ [.lst ws]) (.str NL) (.ref s.length) = some (.str (Txt.join NL ys)) := by
  refine join_ok ?_ hl
  show (match (s ++ [Ob.lst ws])[s.length]? with | some (.lst ws) => some ws | _ => none) = _
  rw [get_push, e]
theorem own_few (h : Bill o ts) : o.natAbs < 10 ^ 3 := by
  have q1 := h.o0
  have q2 := h.o1
  omega
theorem rowsB_bound (h : Bill o ts) : ((rowsB o ts).map (·.length)).sum + (rowsB o ts).length * NL.length ≤ 1000000 := by
  have h1 := rowsB_sum (own_few h) h.ok
  have h2 := h.two
  rw [NLl]
  unfold rowsB at h1 ⊢
  rw [List.length_cons, List.length_map]
  omega
theorem add_tt {t : Term} (h : TermOk t) : addD s (.tup [.int t.a, .int t.b]) (tI t.rs) = some (tI (tr t)) := by
  have := h.rule.six
  rw [add_tup (by rw [List.length_map]; simp; omega)]
  rfl
theorem bill_text_ok (h : Bill o ts) (hs : s.all (Ob.clean s.length) = true) : g_bill_text [bi o ts] s = .ok (.str (billP o ts)) s := by
  have e0 : startD 7 [bi o ts] = [some (bi o ts), none, none, none, none, none, none] := rfl
  have ho := own_few h
  unfold g_bill_text d_bill_text
  rw [den_ev, e0]
  refine fin_nx (ρ1 := [some (bi o ts), some (.int o), some (.tup (ts.map tm)), none, none, none, none]) (s1 := s) (asg_gv (call_v (cons_v (w := bi o ts) rfl nil_ev) (need_bill_ok h)) rfl) ?_
  have hf : mFmt2 "own " (mVar 1) [some (bi o ts), some (.int o), some (.tup (ts.map tm)), none, none, none, none] s = .ok (.str (("own " : Str) ++ Wi o)) s := by
    unfold mFmt2
    rw [if_pos (by rw [o4]; decide), show mVar 1 [some (bi o ts), some (.int o), some (.tup (ts.map tm)), none, none, none, none] s = .ok (.int o) s from rfl, bind_ok]
    have e : fmtD (.int o) = some (Wi o) := if_pos (Nat.lt_trans ho (by decide))
    rw [e]
    dsimp only
    rw [if_pos]
    have := W_len (k := 3) (by decide) ho
    rw [app_len, o4]
    omega
  refine fin_nx (ρ1 := [some (bi o ts), some (.int o), some (.tup (ts.map tm)), some (.ref s.length), none, none, none]) (s1 := s ++ [.lst [.str (("own " : Str) ++ Wi o)]]) ((push_v (cons_v hf nil_ev) (by simp)).trans rfl) ?_
  obtain ⟨ρ', s', f1, rfl, x4, x5, x6, rfl⟩ := for_ix (F := F_bill_text_1) (g := t_bill_text_1) (body := b_bill_text_1) (ρ := [some (bi o ts), some (.int o), some (.tup (ts.map tm)), some (.ref s.length), none, none, none]) (s := s ++ [.lst [.str (("own " : Str) ++ Wi o)]]) (xs := ts.map tm)
    (fun i ρ s' => s' = s ++ [.lst ((rowsB o (ts.take i)).map .str)] ∧ ∃ a b c, ρ = [some (bi o ts), some (.int o), some (.tup (ts.map tm)), some (.ref s.length), a, b, c]) rfl ⟨rfl, _, _, _, rfl⟩ fun i x ρ s' hx hJ => by
      obtain ⟨rfl, a, b, c, rfl⟩ := hJ
      rw [List.getElem?_map] at hx
      cases ht : ts[i]? with
      | none => rw [ht] at hx; cases hx
      | some t =>
        rw [ht] at hx
        cases hx
        have hok := h.ok t (List.mem_of_getElem? ht)
        have hi := (List.getElem?_eq_some_iff.mp ht).1
        have h2 := h.two
        refine ⟨[some (bi o ts), some (.int o), some (.tup (ts.map tm)), some (.ref s.length), some (tI t.rs), some (.int t.a), some (.int t.b)], [some (bi o ts), some (.int o), some (.tup (ts.map tm)), some (.ref s.length), some (tI t.rs), some (.int t.a), some (.int t.b)], s ++ [.lst ((rowsB o (ts.take (i + 1))).map .str)], rfl, .inl ?_, rfl, _, _, _, rfl⟩
        unfold b_bill_text_1
        have hrow : mBin addD (mK (.str "term ")) (mCall (g_words_of) (mCons (mBin addD (mTup (mCons (mVar 5) (mCons (mVar 6) mNil))) (mVar 4)) mNil)) [some (bi o ts), some (.int o), some (.tup (ts.map tm)), some (.ref s.length), some (tI t.rs), some (.int t.a), some (.int t.b)] (s ++ [.lst ((rowsB o (ts.take i)).map .str)]) = .ok (.str (rowT t)) (s ++ [.lst ((rowsB o (ts.take i)).map .str)]) := by
          refine bin_v k_ev (call_v (cons_v (bin_v (tup_v (cons_v (w := .int t.a) rfl (cons_v (w := .int t.b) rfl nil_ev)) (by simp)) (y := tI t.rs) rfl (add_tt hok)) nil_ev) (words_of_ok ((few_tr hok).mono (by decide)) (by have := tr_len hok; omega))) (add_ss ?_)
          have := words_len (few_tr hok) (tr_len hok)
          rw [t5]
          omega
        have happ := app_v (f := mVar 3) (ρ := [some (bi o ts), some (.int o), some (.tup (ts.map tm)), some (.ref s.length), some (tI t.rs), some (.int t.a), some (.int t.b)]) (n := s.length) (s := s ++ [.lst ((rowsB o (ts.take i)).map .str)]) rfl get_push hrow get_push (by
          unfold rowsB lim
          rw [List.length_map, List.length_cons, List.length_map, List.length_take]
          omega)
        rw [set_push] at happ
        rw [expr_v happ]
        congr 3
        have : ts.take (i + 1) = ts.take i ++ [t] := by rw [List.take_add_one, ht]; rfl
        rw [this]
        unfold rowsB
        simp
  rw [List.length_map, List.take_length] at f1
  refine fin_nx f1 (fin_v (ret_v (str1_v k_ev (y := .ref s.length) rfl (rows_join rfl (rowsB_bound h)))) (fin_str hs))
def rowP (ns : List Int) : Str := if ns = [] then "none" else wordsP ns
theorem row_few (h : Row ns) : Few 7 ns := fun i hi => by
  have := h.ok i hi
  omega
theorem row_text_ok (h : Row ns) : g_row_text [tI ns] s = .ok (.str (rowP ns)) s := by
  have e0 : startD 1 [tI ns] = [some (tI ns)] := rfl
  have hm := h.most
  unfold g_row_text d_row_text
  rw [den_ev, e0]
  refine fin_nx (expr_v (call_v (cons_v (w := tI ns) rfl nil_ev) (need_row_ok h s))) ?_
  have hl : mTest (mBin eqD (mBlt lenD (mCons (mVar 0) mNil)) (mK (.int 0))) [some (tI ns)] s = .ok (decide (((ns.map Dv.int).length : Int) = 0)) s := test_v (bin_v (blt_v (cons_v (w := tI ns) rfl nil_ev) len_tup) k_ev eq_ii)
  unfold rowP
  by_cases hz : ns = []
  · rw [decide_eq_true (by rw [hz]; rfl)] at hl
    rw [if_pos hz]
    exact fin_rtS ((ifS_t hl).trans (ret_v k_ev)) finC_rt
  · rw [decide_eq_false (by rw [List.length_map]; have := List.length_pos_iff.mpr hz; omega)] at hl
    rw [if_neg hz]
    exact fin_nx ((ifS_f hl).trans rfl) (fin_v (ret_v (call_v (cons_v (w := tI ns) rfl nil_ev) (words_of_ok (row_few h) (by omega)))) finC_rt)
end
end MP.K20

set_option Elab.async false
set_option linter.all false
set_option maxRecDepth 100000
set_option maxHeartbeats 400000
/-! words: both readers -/
namespace MP.K20
open PySem PySem.Spec PyProof.Rows L2 MP TL PySem.NumText
section
variable {s : Sto} {k : Nat} {w x : Str} {ws : List Str} {ρ : Env}
theorem dgs {c : Nat} : decide (c ∈ ("0123456789" : Str).cps.toList) = isDg c := by
  have e : ("0123456789" : Str).cps.toList = [48, 49, 50, 51, 52, 53, 54, 55, 56, 57] := by decide +kernel
  rw [e]
  refine decide_eq_decide.mpr ?_
  simp only [List.mem_cons, List.mem_nil_iff, or_false]
  omega
theorem sign0 {c : Nat} : ((⟨#[c]⟩ : Str) = ("0" : Str)) ↔ c = 48 := by
  have e : ("0" : Str) = ⟨#[48]⟩ := by decide +kernel
  rw [e]
  constructor
  · intro h
    injection h with h
    have := congrArg Array.toList h
    simpa using this
  · rintro rfl; rfl
theorem orV_v {f g : FE} {c d : Bool} (h : f ρ s = .ok (.bl c) s) (h2 : g ρ s = .ok (.bl d) s) : mOrV f g ρ s = .ok (.bl (c || d)) s := by
  rw [orV_ev, h, bind_ok, h2]
  cases c <;> rfl
theorem chain_v {o o' : O2} {f g h : FE} {ρ : Env} {x y z : Dv} {c d : Bool} (hf : f ρ s = .ok x s) (hg : g ρ s = .ok y s) (hh : h ρ s = .ok z s) (e : o s x y = some (.bl c)) (e2 : o' s y z = some (.bl d)) : mChain o o' f g h ρ s = .ok (.bl (c && d)) s := by
  rw [chain_ev, hf, bind_ok, hg, bind_ok, e, hh, bind_ok, e2]
  cases c <;> rfl
theorem or_v {t u : FT} {c d : Bool} (h : t ρ s = .ok c s) (h2 : u ρ s = .ok d s) : mOr t u ρ s = .ok (c || d) s := by
  cases c with
  | true => exact or_t h
  | false => exact or_f h h2
theorem and_v {t u : FT} {c d : Bool} (h : t ρ s = .ok c s) (h2 : u ρ s = .ok d s) : mAnd t u ρ s = .ok (c && d) s := by
  cases c with
  | true => exact and_t h h2
  | false => exact and_f h
theorem ifS_v {t : FT} {c d : FS} {b : Bool} (h : t ρ s = .ok b s) : mIfS t c d ρ s = if b = true then c ρ s else d ρ s := by
  cases b with
  | true => exact ifS_t h
  | false => exact ifS_f h
theorem tail_ok (h0 : mVar 0 ρ s = .ok (.str w) s) (h2 : mVar 2 ρ s = .ok (.str x) s) (hx : tl x = figL (tl w)) (hl : x.length ≤ 1000000) (h1 : 1 ≤ (figL (tl w)).length) :
    mOrV (mBin neD (mBin ixS (mVar 2) (mK (.int 0))) (mK (.str "0"))) (mBin eqD (mVar 0) (mK (.str "0"))) ρ s = .ok (.bl (decide ((figL (tl w)).head? ≠ some 48) || decide (w = ("0" : Str)))) s := by
  obtain ⟨c, r, hcr⟩ : ∃ c r, figL (tl w) = c :: r := by
    cases q : figL (tl w) with
    | nil => rw [q] at h1; simp at h1
    | cons c r => exact ⟨c, r, rfl⟩
  have hix : mBin ixS (mVar 2) (mK (.int 0)) ρ s = .ok (.str ⟨#[c]⟩) s := by
    refine bin_v h2 k_ev ?_
    show (if x.length ≤ 1000000 then (match atI x.cps.toList 0 with | some c => some (Dv.str ⟨#[c]⟩) | none => none) else none) = _
    rw [if_pos hl, show x.cps.toList = c :: r from by rw [← hcr, ← hx], show atI (c :: r) (0 : Int) = some c from atI_nat (j := 0) rfl]
  refine orV_v (bin_v hix k_ev ((ne_of_eq eqS).trans ?_)) (bin_v h0 k_ev eqS)
  rw [hcr, ← decide_not]
  congr 2
  refine decide_eq_decide.mpr ?_
  rw [sign0]
  simp
theorem chain_ok (h1 : mVar 1 ρ s = .ok (.int k) s) (h2 : mVar 2 ρ s = .ok (.str x) s) (hx : tl x = figL (tl w)) (hl : x.length ≤ 1000000) :
    mChain leD leD (mK (.int 1)) (mBlt lenD (mCons (mVar 2) mNil)) (mVar 1) ρ s = .ok (.bl (decide (1 ≤ (figL (tl w)).length) && decide ((figL (tl w)).length ≤ k))) s := by
  have hlen : mBlt lenD (mCons (mVar 2) mNil) ρ s = .ok (.int (figL (tl w)).length) s := by
    refine blt_v (cons_v h2 nil_ev) ?_
    show (if x.length ≤ lim then some (Dv.int x.length) else none) = _
    rw [if_pos (by unfold lim; omega), len_tl, hx]
  refine chain_v k_ev hlen h1 ?_ ?_
  · show some (Dv.bl (decide ((1 : Int) ≤ ((figL (tl w)).length : Int)))) = _
    congr 2
    exact decide_eq_decide.mpr (by omega)
  · show some (Dv.bl (decide (((figL (tl w)).length : Int) ≤ (k : Int)))) = _
    congr 2
    exact decide_eq_decide.mpr (by omega)
theorem fig_len {l : List Nat} : (figL l).length ≤ l.length := by
  unfold figL
  split
  · exact Nat.le_succ _
  · exact Nat.le_refl _
theorem numB_eq : numB k w = (if (decide (1 ≤ (figL (tl w)).length) && decide ((figL (tl w)).length ≤ k)) = true then (if (figL (tl w)).all isDg = true then (decide ((figL (tl w)).head? ≠ some 48) || decide (w = ("0" : Str))) else false) else false) := by
  unfold numB
  cases (decide (1 ≤ (figL (tl w)).length) && decide ((figL (tl w)).length ≤ k)) <;> cases (figL (tl w)).all isDg <;> rfl
theorem is_number_eq (hw : w.length ≤ 1000000) : g_is_number [.str w, .int k] s = .ok (.bl (numB k w)) s := by
  obtain ⟨x, hx⟩ : ∃ x, x = Txt.removeprefix w "-" := ⟨_, rfl⟩
  have hx2 : tl x = figL (tl w) := by rw [hx]; exact rmp_fig w
  have hlx : x.length ≤ 1000000 := by
    have := fig_len (l := tl w)
    rw [len_tl] at hw ⊢
    rw [hx2]
    omega
  obtain ⟨ρ, hρ⟩ : ∃ ρ : Env, ρ = [some (.str w), some (.int k), some (.str x), none] := ⟨_, rfl⟩
  have e0 : startD 4 [.str w, .int k] = [some (.str w), some (.int k), none, none] := rfl
  have v0 : mVar 0 ρ s = .ok (.str w) s := by rw [hρ]; rfl
  have v1 : mVar 1 ρ s = .ok (.int k) s := by rw [hρ]; rfl
  have v2 : mVar 2 ρ s = .ok (.str x) s := by rw [hρ]; rfl
  unfold g_is_number d_is_number
  rw [den_ev, e0]
  refine fin_nx (ρ1 := ρ) (s1 := s) ?_ ?_
  · rw [hρ]
    refine asg_gv (str1_v rfl k_ev (w := .str x) ?_) rfl
    show (if w.length ≤ 1000000 then some (Dv.str (Txt.removeprefix w "-")) else none) = _
    rw [if_pos hw, hx]
  have hcomp : mComp cF_is_number_1 [3] ct_is_number_1 ci_is_number_1 ce_is_number_1 ρ s = .ok (.lst ((figL (tl w)).map fun c => .bl (isDg c))) s := by
    refine comp_mapA (e := fun c => .str ⟨#[c]⟩) _ ?_ (by rw [len_tl, hx2] at hlx; unfold lim; omega) fun c hcm => ⟨[some (.str w), some (.int k), some (.str x), some (.str ⟨#[c]⟩)], by rw [hρ]; rfl, ?_⟩
    · unfold cF_is_number_1 iStrD
      rw [v2, bind_ok]
      rw [← hx2]
    · unfold ce_is_number_1
      refine bin_v (x := .str ⟨#[c]⟩) rfl k_ev ?_
      show some (Dv.bl (decide (c ∈ ("0123456789" : Str).cps.toList))) = _
      rw [dgs]
  have hall : mBlt allD (mCons (mComp cF_is_number_1 [3] ct_is_number_1 ci_is_number_1 ce_is_number_1) mNil) ρ s = .ok (.bl ((figL (tl w)).all isDg)) s := by
    refine blt_v (cons_v hcomp nil_ev) ?_
    show (match (some ((figL (tl w)).map fun c => Dv.bl (isDg c))).bind blsOf with | some bs => some (Dv.bl (bs.all id)) | none => none) = _
    rw [show (some ((figL (tl w)).map fun c => Dv.bl (isDg c))).bind blsOf = some ((figL (tl w)).map isDg) from by
      have := bls_map ((figL (tl w)).map isDg)
      rw [List.map_map] at this
      exact this]
    dsimp only
    rw [List.all_map]
    rfl
  have hor := or_v (not_v (test_v (chain_ok v1 v2 hx2 hlx))) (not_v (test_v hall))
  rw [numB_eq]
  cases hA : (decide (1 ≤ (figL (tl w)).length) && decide ((figL (tl w)).length ≤ k)) with
  | false =>
    rw [hA] at hor
    exact fin_rtS ((ifS_v hor).trans (ret_v k_ev)) finC_rt
  | true =>
    rw [hA] at hor
    cases hB : (figL (tl w)).all isDg with
    | false =>
      rw [hB] at hor
      exact fin_rtS ((ifS_v hor).trans (ret_v k_ev)) finC_rt
    | true =>
      rw [hB] at hor
      have h1 : 1 ≤ (figL (tl w)).length := by
        simp only [Bool.and_eq_true, decide_eq_true_eq] at hA
        exact hA.1
      exact fin_nx ((ifS_v hor).trans rfl) (fin_v (ret_v (tail_ok v0 v2 hx2 hlx h1)) finC_rt)
theorem law_is_number_eq (hw : Tx 100000 w) : g__law_is_number [.str w, .int k] s = .ok (.bl (numB k w)) s := by
  have hwl := hw.len
  have e0 : startD 4 [.str w, .int k] = [some (.str w), some (.int k), none, none] := rfl
  obtain ⟨x, hx2, hsel⟩ : ∃ x, tl x = figL (tl w) ∧ mIf (mTest (mBin eqD (mSl slS (mVar 0) mNoPart (mPart (mK (.int 1)))) (mK (.str "-")))) (mSl slS (mVar 0) (mPart (mK (.int 1))) mNoPart) (mVar 0) [some (.str w), some (.int k), none, none] s = .ok (.str x) s := by
    have c1 : mSl slS (mVar 0) mNoPart (mPart (mK (.int 1))) [some (.str w), some (.int k), none, none] s = .ok (.str (cutS w none (some 1))) s := by
      refine sl_v (x := .str w) rfl nopart_ev (part_v k_ev) ?_
      show (if w.length ≤ 1000000 then some (Dv.str (cutS w none (some 1))) else none) = _
      rw [if_pos (by omega)]
    have ct := test_v (bin_v c1 (k_ev (w := .str "-")) eqS)
    have tk1 : tl (cutS w none (some 1)) = (tl w).take 1 := cutS_to w 1
    have dash : tl ("-" : Str) = [45] := by decide +kernel
    by_cases h : (tl w).head? = some 45
    · obtain ⟨r, hr⟩ : ∃ r, tl w = 45 :: r := by
        cases q : tl w with
        | nil => rw [q] at h; cases h
        | cons c r => rw [q] at h; injection h with h; exact ⟨r, by rw [h]⟩
      rw [decide_eq_true (MP.str_inj (by rw [tk1, dash, hr]; rfl))] at ct
      refine ⟨cutS w (some 1) none, by rw [show tl (cutS w (some 1) none) = (tl w).drop 1 from cutS_from w 1, hr]; rfl, if_vt ct ?_⟩
      refine sl_v (x := .str w) rfl (part_v k_ev) nopart_ev ?_
      show (if w.length ≤ 1000000 then some (Dv.str (cutS w (some 1) none)) else none) = _
      rw [if_pos (by omega)]
    · rw [decide_eq_false (fun z => h (by
        have := congrArg tl z
        rw [tk1, dash] at this
        cases q : tl w with
        | nil => rw [q] at this; cases this
        | cons c r => rw [q] at this; injection this with a b; rw [a]; rfl))] at ct
      exact ⟨w, (figL_head h).symm, if_vf ct rfl⟩
  have hlx : x.length ≤ 1000000 := by
    have := fig_len (l := tl w)
    rw [len_tl] at hwl ⊢
    rw [hx2]
    omega
  obtain ⟨ρ, hρ⟩ : ∃ ρ : Env, ρ = [some (.str w), some (.int k), some (.str x), none] := ⟨_, rfl⟩
  have v0 : mVar 0 ρ s = .ok (.str w) s := by rw [hρ]; rfl
  have v1 : mVar 1 ρ s = .ok (.int k) s := by rw [hρ]; rfl
  have v2 : mVar 2 ρ s = .ok (.str x) s := by rw [hρ]; rfl
  unfold g__law_is_number d__law_is_number
  rw [den_ev, e0]
  refine fin_nx (ρ1 := ρ) (s1 := s) (by rw [hρ]; exact asg_gv hsel rfl) ?_
  have hcomp : mComp cF__law_is_number_1 [3] ct__law_is_number_1 ci__law_is_number_1 ce__law_is_number_1 ρ s = .ok (.lst ((((figL (tl w)).filter fun c => !isDg c).map fun c => (⟨#[c]⟩ : Str)).map .str)) s := by
    rw [List.map_map]
    refine comp_filt (e := fun c => .str ⟨#[c]⟩) _ (fun c => !isDg c) ?_ (by rw [len_tl, hx2] at hlx; unfold lim; omega) fun c hcm => ⟨[some (.str w), some (.int k), some (.str x), some (.str ⟨#[c]⟩)], by rw [hρ]; rfl, ?_, fun _ => ?_⟩
    · unfold cF__law_is_number_1 iStrD
      rw [v2, bind_ok]
      rw [← hx2]
    · unfold ci__law_is_number_1
      refine test_v (bin_v (x := .str ⟨#[c]⟩) rfl k_ev ?_)
      show some (Dv.bl (!decide (c ∈ ("0123456789" : Str).cps.toList))) = _
      rw [dgs]
    · unfold ce__law_is_number_1
      rfl
  have hne : mTest (mBin neD (mComp cF__law_is_number_1 [3] ct__law_is_number_1 ci__law_is_number_1 ce__law_is_number_1) (mLst mNil)) ρ s = .ok (!((figL (tl w)).all isDg)) s := by
    have q := test_v (bin_v hcomp (lst_v (ws := []) nil_ev (by decide)) (ne_of_eq (eq_strs_nil fun y hy => by
      obtain ⟨c, hc, rfl⟩ := List.mem_map.mp hy
      have hm := (List.mem_filter.mp hc).1
      have hlow : c < 128 := hw.low c (by
        unfold figL at hm
        split at hm
        · rename_i r hr; rw [hr]; exact List.mem_cons_of_mem _ hm
        · exact hm)
      exact ⟨fun d hd => by
        have : d ∈ [c] := hd
        rw [List.mem_singleton.mp this]; exact hlow, by show 1 ≤ 190000; decide⟩)))
    rw [q]
    congr 2
    cases hB : (figL (tl w)).all isDg with
    | true =>
      refine decide_eq_true ?_
      rw [List.map_eq_nil_iff, List.filter_eq_nil_iff]
      intro c hc
      rw [List.all_eq_true.mp hB c hc]
      decide
    | false =>
      refine decide_eq_false fun z => ?_
      rw [List.map_eq_nil_iff, List.filter_eq_nil_iff] at z
      have : (figL (tl w)).all isDg = true := List.all_eq_true.mpr fun c hc => by
        have := z c hc
        cases q : isDg c with
        | true => rfl
        | false => rw [q] at this; exact absurd rfl this
      rw [this] at hB
      cases hB
  have hor := or_v (not_v (test_v (chain_ok v1 v2 hx2 hlx))) hne
  rw [numB_eq]
  cases hA : (decide (1 ≤ (figL (tl w)).length) && decide ((figL (tl w)).length ≤ k)) with
  | false =>
    rw [hA] at hor
    exact fin_rtS ((ifS_v hor).trans (ret_v k_ev)) finC_rt
  | true =>
    rw [hA] at hor
    cases hB : (figL (tl w)).all isDg with
    | false =>
      rw [hB] at hor
      exact fin_rtS ((ifS_v hor).trans (ret_v k_ev)) finC_rt
    | true =>
      rw [hB] at hor
      have h1 : 1 ≤ (figL (tl w)).length := by
        simp only [Bool.and_eq_true, decide_eq_true_eq] at hA
        exact hA.1
      exact fin_nx ((ifS_v hor).trans rfl) (fin_v (ret_v (tail_ok v0 v2 hx2 hlx h1)) finC_rt)
end
end MP.K20

set_option Elab.async false
set_option linter.all false
set_option maxRecDepth 100000
set_option maxHeartbeats 400000
/-! a text as a bill: both readers -/
namespace MP.K20
open PySem PySem.Spec PyProof.Rows L2 MP TL PySem.NumText
section
variable {s : Sto} {k : Nat} {w x : Str} {ws : List Str} {ρ : Env} {n : Int}
abbrev DS (ws : List Str) : List Dv := ws.map .str
theorem tlBL : tl BL = [32] := by decide +kernel
theorem tlNL : tl NL = [10] := by decide +kernel
theorem okBL : BL.cps.all (· < 256) = true := by decide +kernel
theorem okNL : NL.cps.all (· < 256) = true := by decide +kernel
theorem BL0 : (BL.length == 0) = false := by decide +kernel
theorem NL0 : (NL.length == 0) = false := by decide +kernel
theorem spl_v {a b : Str} {f g : FE} (h : f ρ s = .ok (.str a) s) (h2 : g ρ s = .ok (.str b) s) (hb : (b.length == 0) = false) (hl : a.length ≤ 1000000) : mStr1 spD f g ρ s = .ok (.lst (DS (Txt.split a b))) s := by
  refine str1_v h h2 ?_
  show (if (b.length == 0) = false ∧ a.length ≤ 1000000 then some (Dv.lst ((Txt.split a b).map .str)) else none) = _
  rw [if_pos ⟨hb, hl⟩]
theorem are_numbers_eq (h : ∀ w ∈ ws, Tx 100000 w) (hl : ws.length ≤ 1000000) : g_are_numbers [.lst (DS ws), .int k] s = .ok (.bl (ws.all (numB k))) s := by
  have e0 : startD 3 [.lst (DS ws), .int k] = [some (.lst (DS ws)), some (.int k), none] := rfl
  have hcomp : mComp cF_are_numbers_1 [2] ct_are_numbers_1 ci_are_numbers_1 ce_are_numbers_1 [some (.lst (DS ws)), some (.int k), none] s = .ok (.lst (ws.map fun w => .bl (numB k w))) s := by
    refine comp_mapA (e := .str) _ rfl (by unfold lim; omega) fun w hw => ⟨[some (.lst (DS ws)), some (.int k), some (.str w)], rfl, ?_⟩
    unfold ce_are_numbers_1
    exact call_v (cons_v (w := .str w) rfl (cons_v (w := .int k) rfl nil_ev)) (is_number_eq (by have := (h w hw).len; omega))
  unfold g_are_numbers d_are_numbers
  rw [den_ev, e0]
  refine fin_v (ret_v (blt_v (cons_v hcomp nil_ev) (z := .bl (ws.all (numB k))) ?_)) finC_rt
  show (match (some (ws.map fun w => Dv.bl (numB k w))).bind blsOf with | some bs => some (Dv.bl (bs.all id)) | none => none) = _
  rw [show (some (ws.map fun w => Dv.bl (numB k w))).bind blsOf = some (ws.map (numB k)) from by
    have := bls_map (ws.map (numB k))
    rw [List.map_map] at this
    exact this]
  dsimp only
  rw [List.all_map]
  rfl
theorem cut1 {ws : List Dv} : cutD ws (some 1) none = ws.drop 1 := cut_from (k := 1)
theorem sl1_v {ws : List Dv} {f : FE} (h : f ρ s = .ok (.lst ws) s) : mSl slA f (mPart (mK (.int 1))) mNoPart ρ s = .ok (.lst (ws.drop 1)) s := by
  refine sl_v h (part_v k_ev) nopart_ev ?_
  show some (Dv.lst (cutD ws (some 1) none)) = _
  rw [cut1]
/-- whether a row can stand -/
def fitB (ws : List Str) (n : Int) : Bool := if n = 1 then decide (ws.headD "" = ("own" : Str)) && decide (ws.length = 2) else decide (ws.headD "" = ("term" : Str)) && decide (4 ≤ ws.length ∧ ws.length ≤ 9)
def canB (ws : List Str) (n : Int) : Bool := decide (n ≤ 3) && fitB ws n && (ws.drop 1).all (numB 3)
theorem len_v {f : FE} {us : List Dv} (h : f ρ s = .ok (.lst us) s) : mBlt lenD (mCons f mNil) ρ s = .ok (.int us.length) s := blt_v (cons_v h nil_ev) rfl
theorem head_v {f : FE} (hne : ws ≠ []) (h : f ρ s = .ok (.lst (DS ws)) s) : mBin ixA f (mK (.int 0)) ρ s = .ok (.str (ws.headD "")) s := by
  refine bin_v h k_ev (ix_lst (k := 0) ?_)
  cases ws with
  | nil => exact absurd rfl hne
  | cons a r => rfl
theorem can_stand_eq (hne : ws ≠ []) (h : ∀ w ∈ ws, Tx 100000 w) (hl : ws.length ≤ 1000000) : g_can_stand [.lst (DS ws), .int n] s = .ok (.bl (canB ws n)) s := by
  obtain ⟨L, hL⟩ : ∃ L, L = Dv.lst (DS ws) := ⟨_, rfl⟩
  have e0 : startD 3 [.lst (DS ws), .int n] = [some L, some (.int n), none] := by rw [hL]; rfl
  have hlen : (DS ws).length = ws.length := List.length_map _
  unfold g_can_stand d_can_stand
  rw [den_ev, e0]
  have c1 : mTest (mBin gtD (mVar 1) (mBin addD (mK (.int 1)) (mK (.int 2)))) [some L, some (.int n), none] s = .ok (decide ((3 : Int) < n)) s := test_v (bin_v (x := .int n) rfl (bin_v k_ev k_ev add_ii) rfl)
  unfold canB
  by_cases h3 : n ≤ 3
  · rw [decide_eq_false (by omega)] at c1
    rw [decide_eq_true h3, Bool.true_and]
    refine fin_nx (ρ1 := [some L, some (.int n), none]) (s1 := s) ((ifS_f c1).trans rfl) ?_
    have v0 : mVar 0 [some L, some (.int n), none] s = .ok (.lst (DS ws)) s := by rw [hL]; rfl
    have fits : mIfS (mTest (mBin eqD (mVar 1) (mK (.int 1)))) (mAsg (mAndV (mBin eqD (mBin ixA (mVar 0) (mK (.int 0))) (mK (.str "own"))) (mBin eqD (mBlt lenD (mCons (mVar 0) mNil)) (mK (.int 2)))) (gN 2)) (mAsg (mAndV (mBin eqD (mBin ixA (mVar 0) (mK (.int 0))) (mK (.str "term"))) (mChain leD leD (mK (.int 3)) (mBin subD (mBlt lenD (mCons (mVar 0) mNil)) (mK (.int 1))) (mBin addD (mK (.int 2)) (mK (.int 6))))) (gN 2)) [some L, some (.int n), none] s = .nx [some L, some (.int n), some (.bl (fitB ws n))] s := by
      have c2 : mTest (mBin eqD (mVar 1) (mK (.int 1))) [some L, some (.int n), none] s = .ok (decide (n = 1)) s := test_v (bin_v (x := .int n) rfl k_ev eq_ii)
      unfold fitB
      by_cases h1 : n = 1
      · rw [decide_eq_true h1] at c2
        rw [if_pos h1]
        refine (ifS_t c2).trans (asg_gv (andV_v (bin_v (head_v hne v0) k_ev eqS) (bin_v (len_v v0) k_ev (eq_ii.trans ?_))) rfl)
        rw [hlen]
        congr 2
        exact decide_eq_decide.mpr (by omega)
      · rw [decide_eq_false h1] at c2
        rw [if_neg h1]
        refine (ifS_f c2).trans (asg_gv (andV_v (bin_v (head_v hne v0) k_ev eqS) ((chain_v (c := decide (4 ≤ ws.length)) (d := decide (ws.length ≤ 9)) k_ev (bin_v (len_v v0) k_ev sub_ev) (bin_v k_ev k_ev add_ii) ?_ ?_).trans ?_)) rfl)
        · show some (Dv.bl (decide ((3 : Int) ≤ ((DS ws).length : Int) - 1))) = _
          rw [hlen]
          congr 2
          exact decide_eq_decide.mpr (by omega)
        · show some (Dv.bl (decide (((DS ws).length : Int) - 1 ≤ 8))) = _
          rw [hlen]
          congr 2
          exact decide_eq_decide.mpr (by omega)
        · rw [Bool.decide_and]
    refine fin_nx fits ?_
    have hd : DS (ws.drop 1) = (DS ws).drop 1 := List.map_drop
    refine fin_v (ret_v (andV_v (f := mVar 2) rfl (call_v (cons_v (sl1_v (ws := DS ws) (by rw [hL]; rfl)) (cons_v k_ev nil_ev)) ?_))) finC_rt
    rw [← hd]
    exact are_numbers_eq (k := 3) (fun w hw => h w (List.mem_of_mem_drop hw)) (by rw [List.length_drop]; omega)
  · rw [decide_eq_true (by omega)] at c1
    rw [decide_eq_false h3, Bool.false_and, Bool.false_and]
    exact fin_rtS ((ifS_t c1).trans (ret_v k_ev)) finC_rt
/-- the first row that can not stand, from 1 -/
def badB : Nat → List (List Str) → Option Nat
  | _, [] => none
  | i, ws :: r => if canB ws ((i : Int) + 1) = true then badB (i + 1) r else some (i + 1)
abbrev NS (ws : List Str) : List Int := (ws.drop 1).map vl
def tmOf (ws : List Str) : Term := ⟨(NS ws).drop 2, (NS ws).headD 0, ((NS ws).drop 1).headD 0⟩
def ownOf (rows : List (List Str)) : Int := (NS (rows.headD [])).headD 0
def tmsOf (rows : List (List Str)) : List Term := (rows.drop 1).map tmOf
def rowsOf (page : Str) : List (List Str) := (Txt.split page NL).map fun l => Txt.split l BL
/-- rows of words, as texts have them -/
structure Rws (rows : List (List Str)) : Prop where
  ne : rows ≠ []
  few : rows.length ≤ 100000
  all : ∀ ws ∈ rows, ws ≠ [] ∧ ws.length ≤ 100000 ∧ ∀ w ∈ ws, Tx 99999 w
theorem rows_ok {page : Str} (h : Tx 99999 page) : Rws (rowsOf page) := by
  obtain ⟨h1, h2, h3⟩ := split_tx tlNL okNL h
  refine ⟨by unfold rowsOf; simpa using h1, by unfold rowsOf; rw [List.length_map]; omega, fun ws hws => ?_⟩
  obtain ⟨l, hl, rfl⟩ := List.mem_map.mp hws
  obtain ⟨q1, q2, q3⟩ := split_tx tlBL okBL (h3 l hl)
  exact ⟨q1, by omega, q3⟩
abbrev DW (rows : List (List Str)) : List Dv := rows.map fun ws => .lst (DS ws)
theorem can_num {n : Int} (h : canB ws n = true) : ∀ w ∈ ws.drop 1, numB 3 w = true := fun w hw => by
  unfold canB at h
  rw [Bool.and_eq_true] at h
  exact List.all_eq_true.mp h.2 w hw
theorem int_num {w : Str} (hk : k ≤ 7) (h : numB k w = true) : intA s [.str w] = some (.int (vl w)) := by
  obtain ⟨h1, h2, h3⟩ := vl_ok (by omega) h
  unfold intA
  rw [show intD s [.str w] = none from rfl]
  dsimp only
  rw [h1]
  dsimp only
  rw [if_pos (by omega)]
end
end MP.K20

set_option Elab.async false
set_option linter.all false
set_option maxRecDepth 100000
set_option maxHeartbeats 400000
/-! the program's reader of bills, over any text -/
namespace MP.K20
open PySem PySem.Spec PyProof.Rows L2 MP TL PySem.NumText
section
variable {s : Sto} {k : Nat} {w x page : Str} {ws : List Str} {rows : List (List Str)} {ρ : Env} {n : Int}
theorem badB_none : ∀ {rows : List (List Str)} {i : Nat}, badB i rows = none → ∀ {j : Nat} {ws : List Str}, rows[j]? = some ws → canB ws (((i + j : Nat) : Int) + 1) = true
  | [], _, _, j, ws, h => by simp at h
  | a :: r, i, hb, j, ws, h => by
    unfold badB at hb
    split at hb
    · rename_i hc
      cases j with
      | zero =>
        simp only [List.getElem?_cons_zero, Option.some.injEq] at h
        subst h
        exact hc
      | succ j =>
        simp only [List.getElem?_cons_succ] at h
        have := badB_none hb h
        rw [show i + (j + 1) = i + 1 + j by omega]
        exact this
    · cases hb
/-- what stands if no row is bad -/
structure Std (rows : List (List Str)) : Prop where
  ne : rows ≠ []
  two : (rows.drop 1).length ≤ 2
  own : ∃ w, rows.headD [] = [("own" : Str), w] ∧ numB 3 w = true
  tms : ∀ ws ∈ rows.drop 1, 4 ≤ ws.length ∧ ws.length ≤ 9 ∧ ∀ w ∈ ws.drop 1, numB 3 w = true
theorem std_of (h : Rws rows) (hb : badB 0 rows = none) : Std rows := by
  have key := fun {j : Nat} {ws : List Str} (e : rows[j]? = some ws) => badB_none hb e
  cases rows with
  | nil => exact absurd rfl h.ne
  | cons a r =>
    have h0 := key (j := 0) (ws := a) rfl
    refine ⟨by simp, ?_, ?_, fun ws hws => ?_⟩
    · by_cases hl : r.length ≤ 2
      · exact hl
      · exfalso
        obtain ⟨b, e⟩ : ∃ b, r[2]? = some b := ⟨r[2], List.getElem?_eq_getElem (by omega)⟩
        have := key (j := 3) (ws := b) (by simpa using e)
        unfold canB at this
        rw [decide_eq_false (by decide), Bool.false_and, Bool.false_and] at this
        cases this
    · have hn := can_num h0
      unfold canB fitB at h0
      rw [if_pos (by decide)] at h0
      simp only [Bool.and_eq_true, decide_eq_true_eq] at h0
      obtain ⟨⟨_, h1, h2⟩, _⟩ := h0
      match a, h2, h1, hn with
      | [p, q], _, h1, hn =>
        have h1 : p = ("own" : Str) := h1
        subst h1
        exact ⟨q, rfl, hn q (by simp)⟩
    · obtain ⟨i, hi⟩ := List.mem_iff_getElem?.mp (show ws ∈ r from hws)
      have hc := key (j := i + 1) (ws := ws) (by simpa using hi)
      have hn := can_num hc
      unfold canB fitB at hc
      rw [if_neg (by omega)] at hc
      simp only [Bool.and_eq_true, decide_eq_true_eq] at hc
      exact ⟨hc.1.2.2.1, hc.1.2.2.2, hn⟩
theorem forL_rows {P L : Dv} : ∀ (rows : List (List Str)) (i : Nat) (x y : Option Dv), (∀ ws ∈ rows, ws ≠ [] ∧ ws.length ≤ 100000 ∧ ∀ w ∈ ws, Tx 99999 w) → ∃ x' y', forL none t_read_bill_1 b_read_bill_1 (enumF 1 i (DW rows)) [some P, some L, x, y, none, none, none, none, none] s = (match badB i rows with
    | some n => .er ⟨7, "line", .int n⟩ [some P, some L, x', y', none, none, none, none, none] s
    | none => .nx [some P, some L, x', y', none, none, none, none, none] s)
  | [], i, x, y, _ => ⟨x, y, forL_nil⟩
  | ws :: r, i, x, y, h => by
    obtain ⟨h1, h2, h3⟩ := h ws List.mem_cons_self
    have hc := can_stand_eq (s := s) (n := (i : Int) + 1) h1 (fun w hw => (h3 w hw).mono (by decide)) (by omega)
    have e1 : (1 : Int) + (i : Nat) = (i : Int) + 1 := by omega
    unfold badB
    show ∃ x' y', forL none t_read_bill_1 b_read_bill_1 (.tup [.int (1 + (i : Nat)), .lst (DS ws)] :: enumF 1 (i + 1) (DW r)) _ s = _
    rw [e1]
    cases hb : canB ws ((i : Int) + 1) with
    | true =>
      rw [hb] at hc
      obtain ⟨x', y', ih⟩ := forL_rows (P := P) (L := L) r (i + 1) (some (.int ((i : Int) + 1))) (some (.lst (DS ws))) fun v hv => h v (List.mem_cons_of_mem _ hv)
      refine ⟨x', y', ?_⟩
      have hbd : b_read_bill_1 [some P, some L, some (.int ((i : Int) + 1)), some (.lst (DS ws)), none, none, none, none, none] s = .nx [some P, some L, some (.int ((i : Int) + 1)), some (.lst (DS ws)), none, none, none, none, none] s := by
        unfold b_read_bill_1
        exact (not_tt (call_v (cons_v (w := .lst (DS ws)) rfl (cons_v (w := .int ((i : Int) + 1)) rfl nil_ev)) hc)).trans rfl
      rw [forL_nx (ρ1 := [some P, some L, some (.int ((i : Int) + 1)), some (.lst (DS ws)), none, none, none, none, none]) rfl hbd, ih]
      rfl
    | false =>
      rw [hb] at hc
      refine ⟨some (.int ((i : Int) + 1)), some (.lst (DS ws)), ?_⟩
      have hbd : b_read_bill_1 [some P, some L, some (.int ((i : Int) + 1)), some (.lst (DS ws)), none, none, none, none, none] s = .er ⟨7, "line", .int ((i : Int) + 1)⟩ [some P, some L, some (.int ((i : Int) + 1)), some (.lst (DS ws)), none, none, none, none, none] s := by
        unfold b_read_bill_1
        exact (not_tf (call_v (cons_v (w := .lst (DS ws)) rfl (cons_v (w := .int ((i : Int) + 1)) rfl nil_ev)) hc)).trans rfl
      rw [forL_er (ρ1 := [some P, some L, some (.int ((i : Int) + 1)), some (.lst (DS ws)), none, none, none, none, none]) rfl hbd]
      rfl
theorem rows_v {f : FE} {vs : List Nat} {g : FG} {elt : FE} {s : Sto} (h : Tx 99999 page) (hf : f ρ s = .ok (.str page) s) (he : ∀ l : Str, Tx 99999 l → ∃ ρ1, g (.str l) (wipeD ρ vs) s = some ρ1 ∧ elt ρ1 s = .ok (.lst (DS (Txt.split l BL))) s) :
    mComp (iSeq (mStr1 spD f (mK (.str NL)))) vs g mYes elt ρ s = .ok (.lst (DW (rowsOf page))) s := by
  obtain ⟨h1, h2, h3⟩ := split_tx tlNL okNL h
  unfold rowsOf DW
  rw [List.map_map]
  refine comp_mapA (e := .str) _ ?_ (by unfold lim; omega) fun l hl => he l (h3 l hl)
  unfold iSeq
  rw [spl_v hf k_ev NL0 (by have := h.len; omega), bind_ok]
  rfl
theorem knr_bi {o : Int} {ts : List Term} : KnR (bi o ts) = true := by
  have ki : ∀ ns : List Int, KnRs (ns.map .int) = true := fun ns => knrs_of fun v hv => by
    obtain ⟨i, _, rfl⟩ := List.mem_map.mp hv; rfl
  have kt : KnRs (ts.map tm) = true := knrs_of fun v hv => by
    obtain ⟨t, _, rfl⟩ := List.mem_map.mp hv
    show (KnRs (t.rs.map .int) && (true && (true && true))) = true
    rw [ki]
    rfl
  show (true && (KnRs (ts.map tm) && true)) = true
  rw [kt]
  rfl
abbrev nrow (ws : List Str) : Dv := .lst ((NS ws).map .int)
theorem read_bill_eq (h : Tx 99999 page) : g_read_bill [.str page] s = (match badB 0 (rowsOf page) with
    | some n => .er ⟨7, "line", .int n⟩ s
    | none => (match wrongB (bi (ownOf (rowsOf page)) (tmsOf (rowsOf page))) with | none => .ok (bi (ownOf (rowsOf page)) (tmsOf (rowsOf page))) s | some x => .er ⟨3, "part", x⟩ s)) := by
  have hr := rows_ok h
  obtain ⟨rows, hrows⟩ : ∃ rows, rows = rowsOf page := ⟨_, rfl⟩
  rw [← hrows] at hr
  obtain ⟨P, hP⟩ : ∃ P, P = Dv.str page := ⟨_, rfl⟩
  obtain ⟨L, hL⟩ : ∃ L, L = Dv.lst (DW rows) := ⟨_, rfl⟩
  have e0 : startD 9 [.str page] = [some P, none, none, none, none, none, none, none, none] := by rw [hP]; rfl
  unfold g_read_bill d_read_bill
  rw [den_ev, e0, ← hrows]
  refine fin_nx (ρ1 := [some P, none, none, none, none, none, none, none, none]) (s1 := s) ((not_tt (blt_v (cons_v (w := P) rfl (cons_v k_ev nil_ev)) ?_)).trans rfl) ?_
  · rw [hP]; rfl
  have c1 : mComp cF_read_bill_1 [6] ct_read_bill_1 ci_read_bill_1 ce_read_bill_1 [some P, none, none, none, none, none, none, none, none] s = .ok L s := by
    rw [hL, hrows]
    exact rows_v (ρ := [some P, none, none, none, none, none, none, none, none]) (f := mVar 0) h (by rw [hP]; rfl) fun l hl => ⟨[some P, none, none, none, none, none, some (.str l), none, none], rfl, spl_v (f := mVar 6) rfl k_ev BL0 (by have := hl.len; omega)⟩
  refine fin_nx (ρ1 := [some P, some L, none, none, none, none, none, none, none]) (s1 := s) (asg_gv c1 rfl) ?_
  obtain ⟨x2, x3, hf⟩ := forL_rows (s := s) (P := P) (L := L) rows 0 none none hr.all
  have hfor : mFor F_read_bill_1 t_read_bill_1 b_read_bill_1 [some P, some L, none, none, none, none, none, none, none] s = _ := (for_src (ws := enumF 1 0 (DW rows)) (s1 := s) (by rw [hL]; rfl)).trans hf
  cases hb : badB 0 rows with
  | some n =>
    rw [hb] at hfor
    exact fin_erS hfor finC_er
  | none =>
    rw [hb] at hfor
    have S := std_of hr hb
    refine fin_nx hfor ?_
    have hfew := hr.few
    have hnum : ∀ ws ∈ rows, ∀ w ∈ ws.drop 1, numB 3 w = true := fun ws hws => by
      cases rows with
      | nil => cases hws
      | cons a r =>
        rcases List.mem_cons.mp hws with rfl | hws
        · obtain ⟨w, e, hw⟩ := S.own
          have e : ws = [("own" : Str), w] := e
          rw [e]
          intro v hv
          have : v ∈ [w] := hv
          rw [List.mem_singleton.mp this]
          exact hw
        · exact (S.tms ws hws).2.2
    have c2 : mComp cF_read_bill_3 [3] ct_read_bill_3 ci_read_bill_3 ce_read_bill_3 [some P, some L, x2, x3, none, none, none, none, none] s = .ok (.lst (rows.map nrow)) s := by
      refine comp_mapA (e := fun ws => .lst (DS ws)) _ (by rw [hL]; rfl) (by unfold lim; omega) fun ws hws => ⟨[some P, some L, x2, some (.lst (DS ws)), none, none, none, none, none], rfl, ?_⟩
      have hl := (hr.all ws hws).2.1
      unfold ce_read_bill_3
      rw [show nrow ws = .lst ((ws.drop 1).map fun w => .int (vl w)) from by unfold nrow NS; rw [List.map_map]; rfl]
      refine comp_mapA (e := .str) _ ?_ (by rw [List.length_drop]; unfold lim; omega) fun w hw => ⟨[some P, some L, x2, some (.lst (DS ws)), none, none, none, some (.str w), none], rfl, ?_⟩
      · unfold cF_read_bill_2 iSeq
        rw [sl1_v (ws := DS ws) rfl, bind_ok, List.map_drop]
        rfl
      · unfold ce_read_bill_2
        exact blt_v (cons_v (w := .str w) rfl nil_ev) (int_num (by decide) (hnum ws hws w hw))
    obtain ⟨N, hN⟩ : ∃ N, N = Dv.lst (rows.map nrow) := ⟨_, rfl⟩
    rw [← hN] at c2
    refine fin_nx (ρ1 := [some P, some L, x2, x3, some N, none, none, none, none]) (s1 := s) (asg_gv c2 rfl) ?_
    have c3 : mComp cF_read_bill_4 [8] ct_read_bill_4 ci_read_bill_4 ce_read_bill_4 [some P, some L, x2, x3, some N, none, none, none, none] s = .ok (.lst ((tmsOf rows).map tm)) s := by
      unfold tmsOf
      rw [List.map_map]
      refine comp_mapA (e := nrow) _ ?_ (by have := S.two; unfold lim; omega) fun ws hws => ⟨[some P, some L, x2, x3, some N, none, none, none, some (nrow ws)], rfl, ?_⟩
      · unfold cF_read_bill_4 iSeq
        rw [sl1_v (ws := rows.map nrow) (by rw [← hN]; rfl), bind_ok, List.map_drop]
        rfl
      · obtain ⟨q1, q2, _⟩ := S.tms ws hws
        obtain ⟨a, b, r, hab⟩ : ∃ a b r, NS ws = a :: b :: r := by
          match ws, q1 with
          | _ :: p :: q :: r, _ => exact ⟨vl p, vl q, r.map vl, rfl⟩
        have et : tm (tmOf ws) = .tup [tI r, .int a, .int b] := by
          show Dv.tup [tI ((NS ws).drop 2), .int ((NS ws).headD 0), .int (((NS ws).drop 1).headD 0)] = _
          rw [hab]
          rfl
        have en : nrow ws = .lst (.int a :: .int b :: r.map .int) := by
          show Dv.lst ((NS ws).map .int) = _
          rw [hab]
          rfl
        show ce_read_bill_4 _ s = .ok (tm (tmOf ws)) s
        rw [et, en]
        unfold ce_read_bill_4
        refine tup_v (cons_v (w := tI r) (blt_v (cons_v (sl_v (x := .lst (.int a :: .int b :: r.map .int)) rfl (part_v k_ev) nopart_ev (w := .lst (r.map .int)) ?_) nil_ev) rfl) (cons_v (w := .int a) (bin_v (x := .lst (.int a :: .int b :: r.map .int)) rfl k_ev (ix_lst (k := 0) rfl)) (cons_v (w := .int b) (bin_v (x := .lst (.int a :: .int b :: r.map .int)) rfl k_ev (ix_lst (k := 1) rfl)) nil_ev))) (by simp)
        show some (Dv.lst (cutD (.int a :: .int b :: r.map Dv.int) (some ((2 : Nat) : Int)) none)) = _
        rw [cut_from]
        rfl
    refine fin_nx (ρ1 := [some P, some L, x2, x3, some N, some (.lst ((tmsOf rows).map tm)), none, none, none]) (s1 := s) (asg_gv c3 rfl) ?_
    have c4 : mBin ixA (mBin ixA (mVar 4) (mK (.int 0))) (mK (.int 0)) [some P, some L, x2, x3, some N, some (.lst ((tmsOf rows).map tm)), none, none, none] s = .ok (.int (ownOf rows)) s := by
      obtain ⟨w, e, _⟩ := S.own
      refine bin_v (x := nrow (rows.headD [])) (bin_v (x := N) rfl k_ev ?_) k_ev ?_
      · rw [hN]
        refine ix_lst (k := 0) ?_
        cases rows with
        | nil => exact absurd rfl hr.ne
        | cons a r => rfl
      · refine ix_lst (k := 0) ?_
        unfold ownOf
        rw [e]
        rfl
    have hcall : mCall (g_need_bill) (mCons (mTup (mCons (mBin ixA (mBin ixA (mVar 4) (mK (.int 0))) (mK (.int 0))) (mCons (mBlt tupleD (mCons (mVar 5) mNil)) mNil))) mNil) [some P, some L, x2, x3, some N, some (.lst ((tmsOf rows).map tm)), none, none, none] s = _ :=
      call_v (cons_v (w := bi (ownOf rows) (tmsOf rows)) (tup_v (cons_v c4 (cons_v (w := .tup ((tmsOf rows).map tm)) (blt_v (cons_v (w := .lst ((tmsOf rows).map tm)) rfl nil_ev) rfl) nil_ev)) (by simp)) nil_ev) (need_bill_eq knr_bi)
    cases hw : wrongB (bi (ownOf rows) (tmsOf rows)) with
    | none =>
      rw [hw] at hcall
      exact fin_v (ret_v hcall) finC_rt
    | some x =>
      rw [hw] at hcall
      rw [ret_er hcall, finC_er]
end
end MP.K20

set_option Elab.async false
set_option linter.all false
set_option maxRecDepth 100000
set_option maxHeartbeats 400000
/-! the law's reader of bills, over any text -/
namespace MP.K20
open PySem PySem.Spec PyProof.Rows L2 MP TL PySem.NumText
section
variable {s : Sto} {k : Nat} {w x page : Str} {ws : List Str} {rows : List (List Str)} {ρ : Env} {n : Int} {o : Int} {ts : List Term}
structure NumT (t : Term) : Prop where
  one : 1 ≤ t.rs.length
  six : t.rs.length ≤ 6
  sm : ∀ i ∈ t.rs, Sm i
abbrev in20 (i : Int) : Bool := decide (-20 ≤ i) && decide (i ≤ 20)
theorem firstO_all : ∀ {ns : List Int} {k : Nat}, (firstO (-20) 20 k (ns.map .int)).isNone = ns.all in20
  | [], _ => rfl
  | i :: ns, k => by
    show (firstO (-20) 20 k (.int i :: ns.map .int)).isNone = _
    unfold firstO
    have e : inB (-20) 20 (.int i) = in20 i := rfl
    rw [e, List.all_cons]
    cases in20 i with
    | true => rw [if_pos rfl, Bool.true_and]; exact firstO_all
    | false => rw [if_neg Bool.false_ne_true]; rfl
theorem ruleB_all {ns : List Int} (h1 : 1 ≤ ns.length) (h6 : ns.length ≤ 6) : ruleB (tI ns) = ns.all in20 := by
  unfold ruleB
  show (judge 1 6 (-20) 20 (.tup (ns.map .int))).isNone = _
  unfold judge
  dsimp only
  rw [if_pos (by rw [List.length_map]; omega), ← firstO_all (k := 0)]
  cases firstO (-20) 20 0 (ns.map .int) <;> rfl
theorem chainI {a b i : Int} {f g h : FE} (hf : f ρ s = .ok (.int a) s) (hg : g ρ s = .ok (.int i) s) (hh : h ρ s = .ok (.int b) s) : mTest (mChain leD leD f g h) ρ s = .ok (decide (a ≤ i) && decide (i ≤ b)) s := test_v (chain_v hf hg hh rfl rfl)
def firstW : Nat → List Term → Option Nat
  | _, [] => none
  | k, t :: r => if termB (tm t) = true then firstW (k + 1) r else some k
theorem firstW_eq : ∀ {ts : List Term} {k : Nat}, firstT k (ts.map tm) = firstW k ts
  | [], _ => rfl
  | t :: r, k => by
    show firstT k (tm t :: r.map tm) = _
    unfold firstT firstW
    rw [firstW_eq]
theorem forL_wrong {B : Dv} : ∀ (ts : List Term) (k : Nat) (x y z : Option Dv), (∀ t ∈ ts, NumT t) → ∃ x' y' z', forL none t__law_wrong_part_1 b__law_wrong_part_1 (enumD k (ts.map tm)) [some B, x, y, none] s = (match firstW k ts with
    | some n => .rt (.lst [.int n]) s
    | none => .nx [some B, x', y', z'] s)
  | [], k, x, y, z, _ => ⟨x, y, none, forL_nil⟩
  | t :: r, k, x, y, z, h => by
    have ht := h t List.mem_cons_self
    obtain ⟨ρ1, hρ⟩ : ∃ ρ1 : Env, ρ1 = [some B, some (.int (k : Nat)), some (tm t), none] := ⟨_, rfl⟩
    have v2 : mVar 2 ρ1 s = .ok (tm t) s := by rw [hρ]; rfl
    have hc : mComp cF__law_wrong_part_1 [3] ct__law_wrong_part_1 ci__law_wrong_part_1 ce__law_wrong_part_1 ρ1 s = .ok (.lst ((t.rs.filter fun i => !in20 i).map .int)) s := by
      refine comp_filt (e := .int) _ (fun i => !in20 i) ?_ (by have := ht.six; unfold lim; omega) fun i hi => ⟨[some B, some (.int (k : Nat)), some (tm t), some (.int i)], by rw [hρ]; rfl, ?_, fun _ => ?_⟩
      · unfold cF__law_wrong_part_1 iSeq
        rw [bin_v (x := tm t) v2 k_ev ix_tup0, bind_ok]
        rfl
      · unfold ci__law_wrong_part_1
        exact not_v (chainI (un_v k_ev neg_ev) rfl k_ev)
      · unfold ce__law_wrong_part_1
        rfl
    have hne := test_v (bin_v hc (lst_v (ws := []) nil_ev (by decide)) (ne_of_eq (eq_l_nil (pl_lst (pls_ints fun i hi => ht.sm i (List.mem_filter.mp hi).1)) (by decide))))
    have e1 : (!decide ((t.rs.filter fun i => !in20 i).map Dv.int = [])) = !(t.rs.all in20) := by
      congr 1
      cases hB : t.rs.all in20 with
      | true =>
        refine decide_eq_true ?_
        rw [List.map_eq_nil_iff, List.filter_eq_nil_iff]
        intro c hc
        rw [List.all_eq_true.mp hB c hc]
        decide
      | false =>
        refine decide_eq_false fun z => ?_
        rw [List.map_eq_nil_iff, List.filter_eq_nil_iff] at z
        have : t.rs.all in20 = true := List.all_eq_true.mpr fun c hc => by
          have := z c hc
          cases q : in20 c with
          | true => rfl
          | false => rw [q] at this; exact absurd rfl this
        rw [this] at hB
        cases hB
    rw [e1] at hne
    have hA : mNot (mTest (mChain leD leD (mUn negD (mK (.int 50))) (mBin ixA (mVar 2) (mK (.int 1))) (mK (.int 50)))) ρ1 s = .ok (!(decide (-50 ≤ t.a) && decide (t.a ≤ 50))) s := not_v (chainI (a := -50) (b := 50) (un_v k_ev neg_ev) (bin_v (x := tm t) v2 k_ev ix_tup1) k_ev)
    have hB : mNot (mTest (mChain leD leD (mUn negD (mK (.int 50))) (mBin ixA (mVar 2) (mK (.int 2))) (mK (.int 50)))) ρ1 s = .ok (!(decide (-50 ≤ t.b) && decide (t.b ≤ 50))) s := not_v (chainI (a := -50) (b := 50) (un_v k_ev neg_ev) (bin_v (x := tm t) v2 k_ev (ix_tup (k := 2) rfl)) k_ev)
    have hcond := or_v hne (or_v hA hB)
    have et : termB (tm t) = (t.rs.all in20 && inB (-50) 50 (.int t.a) && inB (-50) 50 (.int t.b)) := by
      show (ruleB (tI t.rs) && inB (-50) 50 (.int t.a) && inB (-50) 50 (.int t.b)) = _
      rw [ruleB_all ht.one ht.six]
    have ec : ((!t.rs.all in20) || ((!(decide (-50 ≤ t.a) && decide (t.a ≤ 50))) || !(decide (-50 ≤ t.b) && decide (t.b ≤ 50)))) = !termB (tm t) := by
      rw [et]
      show ((!t.rs.all in20) || ((!inB (-50) 50 (.int t.a)) || !inB (-50) 50 (.int t.b))) = _
      cases t.rs.all in20 <;> cases inB (-50) 50 (.int t.a) <;> cases inB (-50) 50 (.int t.b) <;> rfl
    rw [ec] at hcond
    unfold firstW
    show ∃ x' y' z', forL none t__law_wrong_part_1 b__law_wrong_part_1 (.tup [.int (k : Nat), tm t] :: enumD (k + 1) (r.map tm)) _ s = _
    cases hb : termB (tm t) with
    | true =>
      rw [hb] at hcond
      obtain ⟨x', y', z', ih⟩ := forL_wrong (B := B) r (k + 1) (some (.int (k : Nat))) (some (tm t)) none fun v hv => h v (List.mem_cons_of_mem _ hv)
      refine ⟨x', y', z', ?_⟩
      have hbd : b__law_wrong_part_1 ρ1 s = .nx ρ1 s := by
        unfold b__law_wrong_part_1
        exact (ifS_f hcond).trans rfl
      rw [hρ] at hbd
      rw [forL_nx (ρ1 := [some B, some (.int (k : Nat)), some (tm t), none]) rfl hbd, ih]
      rfl
    | false =>
      rw [hb] at hcond
      refine ⟨none, none, none, ?_⟩
      have hbd : b__law_wrong_part_1 ρ1 s = .rt (.lst [.int (k : Nat)]) s := by
        unfold b__law_wrong_part_1
        refine (ifS_t hcond).trans (ret_v (lst_v (cons_v (w := .int (k : Nat)) (by rw [hρ]; rfl) nil_ev) (by simp)))
      rw [hρ] at hbd
      rw [forL_rt (ρ1 := [some B, some (.int (k : Nat)), some (tm t), none]) rfl hbd]
      rfl
theorem wrong_part_eq (h : ∀ t ∈ ts, NumT t) (h2 : ts.length ≤ 2) : g__law_wrong_part [bi o ts] s = .ok (.lst (match wrongB (bi o ts) with | some x => [x] | none => [])) s := by
  obtain ⟨B, hB⟩ : ∃ B, B = bi o ts := ⟨_, rfl⟩
  have e0 : startD 4 [bi o ts] = [some B, none, none, none] := by rw [hB]; rfl
  have v0 : mVar 0 [some B, none, none, none] s = .ok (bi o ts) s := by rw [hB]; rfl
  have hc : mNot (mTest (mChain leD leD (mUn negD (mK (.int 50))) (mBin ixA (mVar 0) (mK (.int 0))) (mK (.int 50)))) [some B, none, none, none] s = .ok (!(decide (-50 ≤ o) && decide (o ≤ 50))) s := not_v (chainI (a := -50) (b := 50) (un_v k_ev neg_ev) (bin_v v0 k_ev ix_tup0) k_ev)
  unfold g__law_wrong_part d__law_wrong_part
  rw [den_ev, e0]
  cases hob : inB (-50) 50 (.int o) with
  | false =>
    have e : wrongB (bi o ts) = some (.str "own") := by show (if inB (-50) 50 (.int o) = true then _ else _) = _; rw [hob]; rfl
    rw [show (decide (-50 ≤ o) && decide (o ≤ 50)) = false from hob] at hc
    rw [e]
    exact fin_rtS ((ifS_t hc).trans (ret_v (lst_v (cons_v k_ev nil_ev) (by simp)))) finC_rt
  | true =>
    rw [show (decide (-50 ≤ o) && decide (o ≤ 50)) = true from hob] at hc
    have e : wrongB (bi o ts) = (match firstW 0 ts with | some n => some (.int n) | none => none) := by
      show (if inB (-50) 50 (.int o) = true then (if (ts.map tm).length ≤ 2 then (match firstT 0 (ts.map tm) with | some n => some (Dv.int n) | none => none) else some (Dv.str "terms")) else _) = _
      rw [hob, if_pos rfl, if_pos (by rw [List.length_map]; exact h2), firstW_eq]
    rw [e]
    refine fin_nx ((ifS_f hc).trans rfl) ?_
    obtain ⟨x', y', z', hf⟩ := forL_wrong (s := s) (B := B) ts 0 none none none h
    have hfor : mFor F__law_wrong_part_1 t__law_wrong_part_1 b__law_wrong_part_1 [some B, none, none, none] s = _ := (for_src (ws := enumD 0 (ts.map tm)) (s1 := s) (by
      unfold F__law_wrong_part_1 iEnum1
      rw [cons_v (bin_v v0 k_ev ix_tup1) nil_ev, bind_ok]
      rfl)).trans hf
    cases hq : firstW 0 ts with
    | none =>
      rw [hq] at hfor
      exact fin_nx hfor (fin_v (ret_v (lst_v (ws := []) nil_ev (by decide))) finC_rt)
    | some n =>
      rw [hq] at hfor
      exact fin_rtS hfor finC_rt
end
end MP.K20

set_option Elab.async false
set_option linter.all false
set_option maxRecDepth 100000
set_option maxHeartbeats 400000
namespace MP.K20
open PySem PySem.Spec PyProof.Rows L2 MP TL PySem.NumText
section
variable {s : Sto} {k i : Nat} {l page : Str} {ws : List Str} {rows : List (List Str)} {P own : Dv} {acc : List Term} {a5 a6 a7 : Option Dv}
abbrev spB (l : Str) : List Str := Txt.split l BL
def cond3 (ws : List Str) (i : Nat) : Bool := (decide ((i : Int) = 0) && ((!decide (ws.headD "" = ("own" : Str))) || !decide (ws.length = 2))) || ((!(ws.drop 1).all (numB 3)) || decide (2 < (i : Int)))
def cond4 (ws : List Str) (i : Nat) : Bool := decide (0 < (i : Int)) && ((!decide (ws.headD "" = ("term" : Str))) || !(decide (4 ≤ ws.length) && decide (ws.length ≤ 9)))
theorem cond_eq : canB ws ((i : Int) + 1) = !(cond3 ws i || cond4 ws i) := by
  unfold canB fitB cond3 cond4
  rw [Bool.decide_and]
  by_cases h0 : i = 0
  · subst h0
    rw [if_pos (by decide), decide_eq_true (show ((0 : Nat) : Int) + 1 ≤ 3 by decide), decide_eq_true (show ((0 : Nat) : Int) = 0 from rfl), decide_eq_false (show ¬ (2 : Int) < ((0 : Nat) : Int) by decide), decide_eq_false (show ¬ (0 : Int) < ((0 : Nat) : Int) by decide)]
    cases decide (ws.headD "" = ("own" : Str)) <;> cases decide (ws.length = 2) <;> cases (ws.drop 1).all (numB 3) <;> rfl
  · rw [if_neg (by omega), decide_eq_false (show ¬ (i : Int) = 0 by omega), decide_eq_true (show (0 : Int) < (i : Int) by omega)]
    rw [show decide ((i : Int) + 1 ≤ 3) = !decide (2 < (i : Int)) from by
      rw [← decide_not]
      exact decide_eq_decide.mpr (by omega)]
    cases decide (2 < (i : Int)) <;> cases decide (ws.headD "" = ("term" : Str)) <;> cases decide (4 ≤ ws.length) <;> cases decide (ws.length ≤ 9) <;> cases (ws.drop 1).all (numB 3) <;> rfl
abbrev E0 (P own : Dv) (acc : List Term) (i : Nat) (l : Str) (a5 a6 a7 : Option Dv) : Env := [some P, some own, some (.lst (acc.map tm)), some (.int (i : Nat)), some (.str l), a5, a6, a7, none, none, none]
/-- the body up to the two tests -/
theorem body_two (h : Tx 99999 l) {r : C}
    (h3 : cond3 (spB l) i = true → r = .rt (.tup [.str "text", .int ((i : Int) + 1)]) s) (h4 : cond4 (spB l) i = true → r = .rt (.tup [.str "text", .int ((i : Int) + 1)]) s)
    (h5 : cond3 (spB l) i = false → cond4 (spB l) i = false → (mSeq (mAsg (mComp cF__law_bill_due_2 [10] ct__law_bill_due_2 ci__law_bill_due_2 ce__law_bill_due_2) (gN 7))
  (mSeq (mAsg (mIf (mTest (mBin eqD (mVar 3) (mK (.int 0)))) (mBin ixA (mVar 7) (mK (.int 0))) (mVar 1)) (gN 1))
  (mAsg (mBin addD (mVar 2) (mIf (mTest (mBin gtD (mVar 3) (mK (.int 0)))) (mLst (mCons (mTup (mCons (mBlt tupleD (mCons (mSl slA (mVar 7) (mPart (mK (.int 2))) mNoPart) mNil)) (mCons (mBin ixA (mVar 7) (mK (.int 0))) (mCons (mBin ixA (mVar 7) (mK (.int 1))) mNil)))) mNil)) (mLst mNil))) (gN 2)))) (E0 P own acc i l (some (.lst (DS (spB l)))) (some (.bl (((spB l).drop 1).all (numB 3)))) a7) s = r) :
    b__law_bill_due_1 (E0 P own acc i l a5 a6 a7) s = r := by
  obtain ⟨q1, q2, q3⟩ := split_tx tlBL okBL h
  have q2 : (spB l).length ≤ 100000 := q2
  obtain ⟨W, hW⟩ : ∃ W, W = Dv.lst (DS (spB l)) := ⟨_, rfl⟩
  have hl := h.len
  have hlen : (DS (spB l)).length = (spB l).length := List.length_map _
  unfold b__law_bill_due_1
  refine seq_nx (ρ1 := E0 P own acc i l (some W) a6 a7) (s1 := s) (asg_gv (by rw [hW]; exact spl_v (f := mVar 4) rfl k_ev BL0 (by omega)) rfl) ?_
  have hc : mComp cF__law_bill_due_1 [10] ct__law_bill_due_1 ci__law_bill_due_1 ce__law_bill_due_1 (E0 P own acc i l (some W) a6 a7) s = .ok (.lst ((((spB l).drop 1).filter fun w => !numB 3 w).map .str)) s := by
    refine comp_filt (e := .str) _ (fun w => !numB 3 w) ?_ (by rw [List.length_drop]; unfold lim; omega) fun w hw => ⟨[some P, some own, some (.lst (acc.map tm)), some (.int (i : Nat)), some (.str l), some W, a6, a7, none, none, some (.str w)], rfl, ?_, fun _ => ?_⟩
    · unfold cF__law_bill_due_1 iSeq
      rw [sl1_v (ws := DS (spB l)) (by rw [← hW]; rfl), bind_ok, List.map_drop]
      rfl
    · unfold ci__law_bill_due_1
      exact not_v (test_v (call_v (cons_v (w := .str w) rfl (cons_v k_ev nil_ev)) (law_is_number_eq (k := 3) ((q3 w (List.mem_of_mem_drop hw)).mono (by decide)))))
    · unfold ce__law_bill_due_1
      rfl
  have hR : mBin eqD (mComp cF__law_bill_due_1 [10] ct__law_bill_due_1 ci__law_bill_due_1 ce__law_bill_due_1) (mLst mNil) (E0 P own acc i l (some W) a6 a7) s = .ok (.bl (((spB l).drop 1).all (numB 3))) s := by
    refine bin_v hc (lst_v (ws := []) nil_ev (by decide)) ((eq_strs_nil fun y hy => (q3 y (List.mem_of_mem_drop (List.mem_filter.mp hy).1)).mono (by decide)).trans ?_)
    congr 2
    cases hB : ((spB l).drop 1).all (numB 3) with
    | true =>
      refine decide_eq_true ?_
      rw [List.filter_eq_nil_iff]
      intro c hc
      rw [List.all_eq_true.mp hB c hc]
      decide
    | false =>
      refine decide_eq_false fun z => ?_
      rw [List.filter_eq_nil_iff] at z
      have : ((spB l).drop 1).all (numB 3) = true := List.all_eq_true.mpr fun c hc => by
        have := z c hc
        cases q : numB 3 c with
        | true => rfl
        | false => rw [q] at this; exact absurd rfl this
      rw [this] at hB
      cases hB
  obtain ⟨T, hT⟩ : ∃ T, T = Dv.bl (((spB l).drop 1).all (numB 3)) := ⟨_, rfl⟩
  refine seq_nx (ρ1 := E0 P own acc i l (some W) (some T) a7) (s1 := s) (asg_gv (by rw [hT]; exact hR) rfl) ?_
  have v5 : mVar 5 (E0 P own acc i l (some W) (some T) a7) s = .ok (.lst (DS (spB l))) s := by rw [hW]; rfl
  have v3 : mVar 3 (E0 P own acc i l (some W) (some T) a7) s = .ok (.int (i : Nat)) s := rfl
  have t3 : mOr (mAnd (mTest (mBin eqD (mVar 3) (mK (.int 0)))) (mOr (mTest (mBin neD (mBin ixA (mVar 5) (mK (.int 0))) (mK (.str "own")))) (mTest (mBin neD (mBlt lenD (mCons (mVar 5) mNil)) (mK (.int 2)))))) (mOr (mNot (mTest (mVar 6))) (mTest (mBin gtD (mVar 3) (mK (.int 2))))) (E0 P own acc i l (some W) (some T) a7) s = .ok (cond3 (spB l) i) s := by
    refine or_v (and_v (test_v (bin_v v3 k_ev eq_ii)) (or_v (test_v (bin_v (head_v q1 v5) k_ev (ne_of_eq eqS))) (test_v (bin_v (len_v v5) k_ev (ne_of_eq (eq_ii.trans ?_)))))) (or_v (not_v (test_v (by rw [hT]; rfl))) (test_v (bin_v v3 k_ev rfl)))
    rw [hlen]
    congr 2
    exact decide_eq_decide.mpr (by omega)
  have t4 : mAnd (mTest (mBin gtD (mVar 3) (mK (.int 0)))) (mOr (mTest (mBin neD (mBin ixA (mVar 5) (mK (.int 0))) (mK (.str "term")))) (mNot (mTest (mChain leD leD (mK (.int 4)) (mBlt lenD (mCons (mVar 5) mNil)) (mK (.int 9)))))) (E0 P own acc i l (some W) (some T) a7) s = .ok (cond4 (spB l) i) s := by
    refine and_v (test_v (bin_v v3 k_ev rfl)) (or_v (test_v (bin_v (head_v q1 v5) k_ev (ne_of_eq eqS))) (not_v ((chainI (a := 4) (b := 9) k_ev (len_v v5) k_ev).trans ?_)))
    rw [hlen]
    congr 2
    · exact decide_eq_decide.mpr (by omega)
    · exact decide_eq_decide.mpr (by omega)
  have hret : mRet (mTup (mCons (mK (.str "text")) (mCons (mBin addD (mVar 3) (mK (.int 1))) mNil))) (E0 P own acc i l (some W) (some T) a7) s = .rt (.tup [.str "text", .int ((i : Int) + 1)]) s :=
    ret_v (tup_v (cons_v k_ev (cons_v (bin_v v3 k_ev add_ii) nil_ev)) (by simp))
  cases c3 : cond3 (spB l) i with
  | true =>
    rw [c3] at t3
    rw [h3 c3, seq_rt ((ifS_t t3).trans hret)]
  | false =>
    rw [c3] at t3
    refine seq_nx (ρ1 := E0 P own acc i l (some W) (some T) a7) (s1 := s) ((ifS_f t3).trans rfl) ?_
    cases c4 : cond4 (spB l) i with
    | true =>
      rw [c4] at t4
      rw [h4 c4, seq_rt ((ifS_t t4).trans hret)]
    | false =>
      rw [c4] at t4
      refine seq_nx (ρ1 := E0 P own acc i l (some W) (some T) a7) (s1 := s) ((ifS_f t4).trans rfl) ?_
      rw [hW, hT]
      exact h5 c3 c4
theorem body_bad (h : Tx 99999 l) (hb : canB (spB l) ((i : Int) + 1) = false) : b__law_bill_due_1 (E0 P own acc i l a5 a6 a7) s = .rt (.tup [.str "text", .int ((i : Int) + 1)]) s := by
  rw [cond_eq] at hb
  refine body_two h (fun _ => rfl) (fun _ => rfl) fun c3 c4 => ?_
  rw [c3, c4] at hb
  cases hb
end
end MP.K20

set_option Elab.async false
set_option linter.all false
set_option maxRecDepth 100000
set_option maxHeartbeats 400000
namespace MP.K20
open PySem PySem.Spec PyProof.Rows L2 MP TL PySem.NumText
section
variable {s : Sto} {k i : Nat} {l page : Str} {ws : List Str} {rows : List (List Str)} {P own : Dv} {acc : List Term} {a5 a6 a7 : Option Dv}
def ownN (i : Nat) (own : Dv) (ws : List Str) : Dv := if i = 0 then .int ((NS ws).headD 0) else own
def tmsN (i : Nat) (ws : List Str) : List Term := if i = 0 then [] else [tmOf ws]
theorem body_ok (h : Tx 99999 l) (hb : canB (spB l) ((i : Int) + 1) = true) (ha : acc.length ≤ 900000) : ∃ b5 b6 b7, b__law_bill_due_1 (E0 P own acc i l a5 a6 a7) s = .nx (E0 P (ownN i own (spB l)) (acc ++ tmsN i (spB l)) i l b5 b6 b7) s := by
  obtain ⟨q1, q2, q3⟩ := split_tx tlBL okBL h
  have q2 : (spB l).length ≤ 100000 := q2
  have hnum := can_num hb
  have hb2 := hb
  rw [cond_eq] at hb
  refine ⟨some (.lst (DS (spB l))), some (.bl (((spB l).drop 1).all (numB 3))), some (.lst ((NS (spB l)).map .int)), ?_⟩
  refine body_two h (fun c3 => ?_) (fun c4 => ?_) fun c3 c4 => ?_
  · rw [c3] at hb; cases hb
  · rw [c4, Bool.or_true] at hb; cases hb
  obtain ⟨W, hW⟩ : ∃ W, W = Dv.lst (DS (spB l)) := ⟨_, rfl⟩
  obtain ⟨T, hT⟩ : ∃ T, T = Dv.bl (((spB l).drop 1).all (numB 3)) := ⟨_, rfl⟩
  obtain ⟨A, hA⟩ : ∃ A, A = Dv.lst (acc.map tm) := ⟨_, rfl⟩
  rw [← hW, ← hT]
  have hc : mComp cF__law_bill_due_2 [10] ct__law_bill_due_2 ci__law_bill_due_2 ce__law_bill_due_2 (E0 P own acc i l (some W) (some T) a7) s = .ok (.lst ((NS (spB l)).map .int)) s := by
    rw [show (NS (spB l)).map Dv.int = ((spB l).drop 1).map fun w => .int (vl w) from by unfold NS; rw [List.map_map]; rfl]
    refine comp_mapA (e := .str) _ ?_ (by rw [List.length_drop]; unfold lim; omega) fun w hw => ⟨[some P, some own, some (.lst (acc.map tm)), some (.int (i : Nat)), some (.str l), some W, some T, a7, none, none, some (.str w)], rfl, ?_⟩
    · unfold cF__law_bill_due_2 iSeq
      rw [sl1_v (ws := DS (spB l)) (by rw [← hW]; rfl), bind_ok, List.map_drop]
      rfl
    · unfold ce__law_bill_due_2
      exact blt_v (cons_v (w := .str w) rfl nil_ev) (int_num (by decide) (hnum w hw))
  refine seq_nx (ρ1 := E0 P own acc i l (some W) (some T) (some (.lst ((NS (spB l)).map .int)))) (s1 := s) (asg_gv hc rfl) ?_
  have v3 : ∀ o : Dv, mVar 3 (E0 P o acc i l (some W) (some T) (some (.lst ((NS (spB l)).map .int)))) s = .ok (.int (i : Nat)) s := fun _ => rfl
  have v7 : ∀ o : Dv, mVar 7 (E0 P o acc i l (some W) (some T) (some (.lst ((NS (spB l)).map .int)))) s = .ok (.lst ((NS (spB l)).map .int)) s := fun _ => rfl
  have hfit : fitB (spB l) ((i : Int) + 1) = true := by
    unfold canB at hb2
    simp only [Bool.and_eq_true] at hb2
    exact hb2.1.2
  have p1 : ∀ o : Dv, mTest (mBin eqD (mVar 3) (mK (.int 0))) (E0 P o acc i l (some W) (some T) (some (.lst ((NS (spB l)).map .int)))) s = .ok (decide ((i : Int) = 0)) s := fun o => test_v (bin_v (v3 o) k_ev eq_ii)
  have p2 : ∀ o : Dv, mTest (mBin gtD (mVar 3) (mK (.int 0))) (E0 P o acc i l (some W) (some T) (some (.lst ((NS (spB l)).map .int)))) s = .ok (decide ((0 : Int) < (i : Int))) s := fun o => test_v (bin_v (v3 o) k_ev rfl)
  unfold fitB at hfit
  by_cases h0 : i = 0
  · subst h0
    rw [if_pos (by decide)] at hfit
    simp only [Bool.and_eq_true, decide_eq_true_eq] at hfit
    obtain ⟨_, h2⟩ := hfit
    obtain ⟨v, hv⟩ : ∃ v, NS (spB l) = [v] := by
      match spB l, h2 with
      | [p, q], _ => exact ⟨vl q, rfl⟩
    have e1 : ownN 0 own (spB l) = .int v := by
      show (Dv.int ((NS (spB l)).headD 0)) = _
      rw [hv]
      rfl
    rw [e1, show tmsN 0 (spB l) = [] from rfl]
    refine seq_nx (ρ1 := E0 P (.int v) acc 0 l (some W) (some T) (some (.lst ((NS (spB l)).map .int)))) (s1 := s) (asg_gv (if_vt (p1 own) (bin_v (v7 own) k_ev (ix_lst (k := 0) (w := .int v) (by rw [hv]; rfl)))) rfl) ?_
    have hadd := add_lst (s := s) (ws := acc.map tm) (us := []) (by rw [List.length_map]; simp; omega)
    exact asg_gv (bin_v (x := .lst (acc.map tm)) rfl (if_vf (p2 (.int v)) (lst_v (ws := []) nil_ev (by decide))) hadd) (by unfold E0; rw [List.map_append]; rfl)
  · rw [if_neg (by omega)] at hfit
    simp only [Bool.and_eq_true, decide_eq_true_eq] at hfit
    obtain ⟨_, h4, h9⟩ := hfit
    obtain ⟨a, b, r, hab⟩ : ∃ a b r, NS (spB l) = a :: b :: r := by
      match spB l, h4 with
      | _ :: p :: q :: r, _ => exact ⟨vl p, vl q, r.map vl, rfl⟩
    have et : tm (tmOf (spB l)) = .tup [tI r, .int a, .int b] := by
      show Dv.tup [tI ((NS (spB l)).drop 2), .int ((NS (spB l)).headD 0), .int (((NS (spB l)).drop 1).headD 0)] = _
      rw [hab]
      rfl
    rw [show ownN i own (spB l) = own from if_neg h0, show tmsN i (spB l) = [tmOf (spB l)] from if_neg h0]
    have q1' := p1 own
    have q2' := p2 own
    rw [decide_eq_false (show ¬ (i : Int) = 0 by omega)] at q1'
    rw [decide_eq_true (show (0 : Int) < (i : Int) by omega)] at q2'
    refine seq_nx (ρ1 := E0 P own acc i l (some W) (some T) (some (.lst ((NS (spB l)).map .int)))) (s1 := s) (asg_gv (if_vf q1' (show mVar 1 _ s = .ok own s from rfl)) rfl) ?_
    have hv7 : mVar 7 (E0 P own acc i l (some W) (some T) (some (.lst ((NS (spB l)).map .int)))) s = .ok (.lst (.int a :: .int b :: r.map .int)) s := by
      rw [v7 own, hab]
      rfl
    have hsl : mSl slA (mVar 7) (mPart (mK (.int 2))) mNoPart (E0 P own acc i l (some W) (some T) (some (.lst ((NS (spB l)).map .int)))) s = .ok (.lst (r.map .int)) s := by
      refine sl_v hv7 (part_v k_ev) nopart_ev ?_
      show some (Dv.lst (cutD (.int a :: .int b :: r.map Dv.int) (some ((2 : Nat) : Int)) none)) = _
      rw [cut_from]
      rfl
    have hnew : mLst (mCons (mTup (mCons (mBlt tupleD (mCons (mSl slA (mVar 7) (mPart (mK (.int 2))) mNoPart) mNil)) (mCons (mBin ixA (mVar 7) (mK (.int 0))) (mCons (mBin ixA (mVar 7) (mK (.int 1))) mNil)))) mNil) (E0 P own acc i l (some W) (some T) (some (.lst ((NS (spB l)).map .int)))) s = .ok (.lst [tm (tmOf (spB l))]) s := by
      rw [et]
      exact lst_v (cons_v (tup_v (cons_v (w := tI r) (blt_v (cons_v hsl nil_ev) rfl) (cons_v (w := .int a) (bin_v hv7 k_ev (ix_lst (k := 0) rfl)) (cons_v (w := .int b) (bin_v hv7 k_ev (ix_lst (k := 1) rfl)) nil_ev))) (by simp)) nil_ev) (by simp)
    have hadd := add_lst (s := s) (ws := acc.map tm) (us := [tm (tmOf (spB l))]) (by rw [List.length_map]; simp; omega)
    exact asg_gv (bin_v (x := .lst (acc.map tm)) rfl (if_vt q2' hnew) hadd) (by unfold E0; rw [List.map_append]; rfl)
def ownF (i : Nat) (own : Dv) : List (List Str) → Dv
  | [] => own
  | ws :: _ => ownN i own ws
def tmsF : Nat → List (List Str) → List Term
  | _, [] => []
  | i, ws :: r => tmsN i ws ++ tmsF (i + 1) r
theorem forL_due : ∀ (lines : List Str) (i : Nat) (own : Dv) (acc : List Term) (a3 a4 a5 a6 a7 : Option Dv), (∀ l ∈ lines, Tx 99999 l) → acc.length + lines.length ≤ 900000 → ∃ b3 b4 b5 b6 b7, forL none t__law_bill_due_1 b__law_bill_due_1 (enumD i (DS lines)) [some P, some own, some (.lst (acc.map tm)), a3, a4, a5, a6, a7, none, none, none] s = (match badB i (lines.map spB) with
    | some n => .rt (.tup [.str "text", .int n]) s
    | none => .nx [some P, some (ownF i own (lines.map spB)), some (.lst ((acc ++ tmsF i (lines.map spB)).map tm)), b3, b4, b5, b6, b7, none, none, none] s)
  | [], i, own, acc, a3, a4, a5, a6, a7, _, _ => ⟨a3, a4, a5, a6, a7, by
      show forL none _ _ [] _ s = _
      rw [forL_nil]
      show _ = C.nx [some P, some own, some (.lst ((acc ++ []).map tm)), a3, a4, a5, a6, a7, none, none, none] s
      rw [List.append_nil]⟩
  | l :: r, i, own, acc, a3, a4, a5, a6, a7, h, hl => by
    have hx := h l List.mem_cons_self
    have hl' : acc.length + r.length + 1 ≤ 900000 := by simp only [List.length_cons] at hl; omega
    show ∃ b3 b4 b5 b6 b7, forL none t__law_bill_due_1 b__law_bill_due_1 (.tup [.int (i : Nat), .str l] :: enumD (i + 1) (DS r)) _ s = (match badB i (spB l :: r.map spB) with | some n => _ | none => _)
    unfold badB
    cases hb : canB (spB l) ((i : Int) + 1) with
    | false =>
      refine ⟨none, none, none, none, none, ?_⟩
      rw [forL_rt (ρ1 := E0 P own acc i l a5 a6 a7) rfl (body_bad hx hb)]
      rfl
    | true =>
      obtain ⟨c5, c6, c7, hbd⟩ := body_ok (s := s) (P := P) (own := own) (acc := acc) (a5 := a5) (a6 := a6) (a7 := a7) hx hb (by omega)
      have htl : (tmsN i (spB l)).length ≤ 1 := by unfold tmsN; split <;> simp
      obtain ⟨b3, b4, b5, b6, b7, ih⟩ := forL_due r (i + 1) (ownN i own (spB l)) (acc ++ tmsN i (spB l)) (some (.int (i : Nat))) (some (.str l)) c5 c6 c7 (fun v hv => h v (List.mem_cons_of_mem _ hv)) (by rw [List.length_append]; omega)
      refine ⟨b3, b4, b5, b6, b7, ?_⟩
      rw [forL_nx (ρ1 := E0 P own acc i l a5 a6 a7) rfl hbd, ih, if_pos rfl]
      cases badB (i + 1) (r.map spB) with
      | some n => rfl
      | none =>
        have e1 : ownF (i + 1) (ownN i own (spB l)) (r.map spB) = ownF i own (spB l :: r.map spB) := by
          show _ = ownN i own (spB l)
          cases r with
          | nil => rfl
          | cons a b =>
            have key : ∀ (j : Nat) (o : Dv) (ws : List Str), ownN (j + 1) o ws = o := fun j o ws => if_neg (Nat.succ_ne_zero j)
            exact key i _ _
        have e2 : (acc ++ tmsN i (spB l)) ++ tmsF (i + 1) (r.map spB) = acc ++ tmsF i (spB l :: r.map spB) := List.append_assoc _ _ _
        show C.nx [some P, some (ownF (i + 1) (ownN i own (spB l)) (r.map spB)), some (.lst (((acc ++ tmsN i (spB l)) ++ tmsF (i + 1) (r.map spB)).map tm)), b3, b4, b5, b6, b7, none, none, none] s = _
        rw [e1, e2]
        rfl
theorem tmsF_pos : ∀ {rows : List (List Str)} {i : Nat}, i ≠ 0 → tmsF i rows = rows.map tmOf
  | [], _, _ => rfl
  | a :: r, i, h => by
    show tmsN i a ++ tmsF (i + 1) r = _
    rw [tmsF_pos (by omega), show tmsN i a = [tmOf a] from if_neg h]
    rfl
theorem numT_of (S : Std rows) : ∀ t ∈ tmsOf rows, NumT t := fun t ht => by
  obtain ⟨ws, hws, rfl⟩ := List.mem_map.mp ht
  obtain ⟨h1, h2, h3⟩ := S.tms ws hws
  have hl : (tmOf ws).rs.length = ws.length - 3 := by
    show (((ws.drop 1).map vl).drop 2).length = _
    rw [List.length_drop, List.length_map, List.length_drop]
    omega
  refine ⟨by omega, by omega, fun i hi => ?_⟩
  obtain ⟨w, hw, rfl⟩ := List.mem_map.mp (List.mem_of_mem_drop (show i ∈ ((ws.drop 1).map vl).drop 2 from hi))
  have := (vl_ok (k := 3) (by decide) (h3 w hw)).2.1
  exact Sm.of (by omega) (by omega)
def dueB (page : Str) : Dv := match badB 0 (rowsOf page) with
  | some n => .tup [.str "text", .int n]
  | none => (match wrongB (bi (ownOf (rowsOf page)) (tmsOf (rowsOf page))) with | none => .lst [bi (ownOf (rowsOf page)) (tmsOf (rowsOf page))] | some x => .tup [.str "bill", x])
theorem bill_due_eq (h : Tx 99999 page) : g__law_bill_due [.str page] s = .ok (dueB page) s := by
  have hr := rows_ok h
  obtain ⟨h1, h2, h3⟩ := split_tx tlNL okNL h
  obtain ⟨rows, hrows⟩ : ∃ rows, rows = rowsOf page := ⟨_, rfl⟩
  obtain ⟨P, hP⟩ : ∃ P, P = Dv.str page := ⟨_, rfl⟩
  have e0 : startD 11 [.str page] = [some P, none, none, none, none, none, none, none, none, none, none] := by rw [hP]; rfl
  have hpl := h.len
  unfold g__law_bill_due d__law_bill_due dueB
  rw [den_ev, e0, ← hrows]
  rw [← hrows] at hr
  refine fin_nx (ρ1 := [some P, none, none, none, none, none, none, none, none, none, none]) (s1 := s) ((not_tt (blt_v (cons_v (w := P) rfl (cons_v k_ev nil_ev)) ?_)).trans rfl) ?_
  · rw [hP]; rfl
  refine fin_nx (ρ1 := [some P, some .non, some (.lst []), none, none, none, none, none, none, none, none]) (s1 := s) rfl ?_
  obtain ⟨b3, b4, b5, b6, b7, hf⟩ := forL_due (s := s) (P := P) (Txt.split page NL) 0 .non [] none none none none none h3 (by simp; omega)
  have hfor : mFor F__law_bill_due_1 t__law_bill_due_1 b__law_bill_due_1 [some P, some .non, some (.lst []), none, none, none, none, none, none, none, none] s = _ := (for_src (ws := enumD 0 (DS (Txt.split page NL))) (s1 := s) (by
    unfold F__law_bill_due_1 iEnum1
    rw [cons_v (spl_v (f := mVar 0) (a := page) (b := NL) (by rw [hP]; rfl) k_ev NL0 (by omega)) nil_ev, bind_ok]
    rfl)).trans hf
  rw [show (Txt.split page NL).map spB = rows from hrows.symm] at hfor
  cases hb : badB 0 rows with
  | some n =>
    rw [hb] at hfor
    exact fin_rtS hfor finC_rt
  | none =>
    rw [hb] at hfor
    have S := std_of hr hb
    have eo : ownF 0 .non rows = .int (ownOf rows) := by
      cases rows with
      | nil => exact absurd rfl hr.ne
      | cons a r => rfl
    have et : [] ++ tmsF 0 rows = tmsOf rows := by
      cases rows with
      | nil => rfl
      | cons a r =>
        show tmsF 1 r = r.map tmOf
        exact tmsF_pos (by decide)
    dsimp only at hfor
    rw [eo, et] at hfor
    refine fin_nx hfor ?_
    obtain ⟨B, hB⟩ : ∃ B, B = bi (ownOf rows) (tmsOf rows) := ⟨_, rfl⟩
    refine fin_nx (ρ1 := [some P, some (.int (ownOf rows)), some (.lst ((tmsOf rows).map tm)), b3, b4, b5, b6, b7, some B, none, none]) (s1 := s) (asg_gv (tup_v (cons_v (w := .int (ownOf rows)) rfl (cons_v (w := .tup ((tmsOf rows).map tm)) (blt_v (cons_v (w := .lst ((tmsOf rows).map tm)) rfl nil_ev) rfl) nil_ev)) (by simp)) (by rw [hB]; rfl)) ?_
    have hlen : (tmsOf rows).length ≤ 2 := by unfold tmsOf; rw [List.length_map]; exact S.two
    obtain ⟨Wd, hw, hWd⟩ : ∃ Wd, g__law_wrong_part [bi (ownOf rows) (tmsOf rows)] s = .ok (.lst Wd) s ∧ Wd = (wrongB (bi (ownOf rows) (tmsOf rows))).toList := ⟨_, wrong_part_eq (s := s) (o := ownOf rows) (numT_of S) hlen, by cases wrongB (bi (ownOf rows) (tmsOf rows)) <;> rfl⟩
    rw [← hB] at hw
    refine fin_nx (ρ1 := [some P, some (.int (ownOf rows)), some (.lst ((tmsOf rows).map tm)), b3, b4, b5, b6, b7, some B, some (.lst Wd), none]) (s1 := s) (asg_gv (call_v (cons_v (w := B) rfl nil_ev) hw) rfl) ?_
    cases hq : wrongB (bi (ownOf rows) (tmsOf rows)) with
    | none =>
      rw [hq] at hWd
      have hWd : Wd = [] := hWd
      have ct : mTest (mBin eqD (mVar 9) (mLst mNil)) [some P, some (.int (ownOf rows)), some (.lst ((tmsOf rows).map tm)), b3, b4, b5, b6, b7, some B, some (.lst Wd), none] s = .ok true s := by
        rw [hWd]
        exact test_v (bin_v (x := .lst []) rfl (lst_v (ws := []) nil_ev (by decide)) (eq_l_nil (pl_lst (pls_nil (k := 0))) (by decide)))
      refine fin_v (ret_v (if_vt ct (lst_v (cons_v (w := B) rfl nil_ev) (by simp)))) (finC_rt.trans (by rw [hB]))
    | some x =>
      rw [hq] at hWd
      have hWd : Wd = [x] := hWd
      obtain ⟨d, hd⟩ : ∃ d, Pl 1 1 x d := by
        revert hq
        show (if inB (-50) 50 (.int (ownOf rows)) = true then (if ((tmsOf rows).map tm).length ≤ 2 then (match firstT 0 ((tmsOf rows).map tm) with | some n => some (Dv.int n) | none => none) else some (Dv.str "terms")) else some (Dv.str "own")) = some x → _
        intro hq
        have ps : ∀ {x : Str}, (∀ c ∈ tl x, c < 128) → x.length ≤ 50 → ∃ d, Pl 1 1 (.str x) d := fun h1 h2 => ⟨_, (pl_text h1 (by omega)).mono (by omega) (by decide)⟩
        have wl : ∀ (ts : List Term) (k n : Nat), firstW k ts = some n → n < k + ts.length := fun ts => by
          induction ts with
          | nil => intro k n h; cases h
          | cons t r ih =>
            intro k n h
            unfold firstW at h
            split at h
            · have := ih _ _ h
              simp only [List.length_cons]
              omega
            · cases h
              simp only [List.length_cons]
              omega
        split at hq
        · rw [if_pos (by rw [List.length_map]; exact hlen), firstW_eq] at hq
          cases e : firstW 0 (tmsOf rows) with
          | none => rw [e] at hq; cases hq
          | some n =>
            rw [e] at hq
            cases hq
            have := wl _ _ _ e
            exact ⟨_, (pl_int (Sm.of (i := (n : Int)) (by omega) (by omega))).mono (by decide) (by decide)⟩
        · cases hq
          exact ps (by decide +kernel) (by decide +kernel)
      have ct : mTest (mBin eqD (mVar 9) (mLst mNil)) [some P, some (.int (ownOf rows)), some (.lst ((tmsOf rows).map tm)), b3, b4, b5, b6, b7, some B, some (.lst Wd), none] s = .ok false s := by
        rw [hWd]
        exact test_v (bin_v (x := .lst [x]) rfl (lst_v (ws := []) nil_ev (by decide)) ((eq_l_nil (pl_lst (pls_cons hd pls_nil)) (by decide)).trans (by rw [decide_eq_false (by simp)])))
      refine fin_v (ret_v (if_vf ct (tup_v (cons_v k_ev (cons_v (w := x) (bin_v (x := .lst Wd) rfl k_ev (by rw [hWd]; exact ix_lst (k := 0) rfl)) nil_ev)) (by simp)))) finC_rt
end
end MP.K20

set_option Elab.async false
set_option linter.all false
set_option maxRecDepth 100000
set_option maxHeartbeats 400000
/-! a text as a row: both readers -/
namespace MP.K20
open PySem PySem.Spec PyProof.Rows L2 MP TL PySem.NumText
section
variable {s : Sto} {k i : Nat} {l page w : Str} {ws : List Str} {ρ : Env}
theorem compX_eq {α : Type} {vs : List Nat} {g : FG} {elt : FE} {e φ : α → Dv} {p : α → Bool} {x : Ex} : ∀ {l : List α}, (∀ a ∈ l, ∃ ρ1, g (e a) (wipeD ρ vs) s = some ρ1 ∧ elt ρ1 s = if p a = true then .ok (φ a) s else .er x s) → compX none vs g mYes elt ρ (l.map e) s = if l.all p = true then .ok (l.map φ) s else .er x s
  | [], _ => by
    rw [List.map_nil, compX, if_pos (.inl rfl)]
    rfl
  | a :: r, h => by
    obtain ⟨ρ1, h1, h2⟩ := h a List.mem_cons_self
    have ih := compX_eq (l := r) fun b hb => h b (List.mem_cons_of_mem _ hb)
    rw [List.map_cons, compX, if_pos (.inl rfl), h1]
    dsimp only
    rw [show mYes ρ1 s = .ok true s from rfl]
    dsimp only
    rw [h2, List.all_cons]
    cases hp : p a with
    | false => rfl
    | true =>
      rw [if_pos rfl, Bool.true_and]
      dsimp only
      rw [ih]
      cases r.all p <;> rfl
theorem mCompX_eq {α : Type} {f : FI} {vs : List Nat} {g : FG} {elt : FE} {e φ : α → Dv} {p : α → Bool} {x : Ex} {l : List α} (hf : f ρ s = .ok { ws := l.map e } s) (hl : l.length ≤ lim) (h : ∀ a ∈ l, ∃ ρ1, g (e a) (wipeD ρ vs) s = some ρ1 ∧ elt ρ1 s = if p a = true then .ok (φ a) s else .er x s) :
    mCompX f vs g mYes elt ρ s = if l.all p = true then .ok (.lst (l.map φ)) s else .er x s := by
  unfold mCompX
  rw [hf, bind_ok]
  dsimp only
  rw [if_pos (by rw [List.length_map]; exact hl), compX_eq h]
  cases l.all p <;> rfl
theorem number_in_row_eq (h : Tx 99999 w) : g_number_in_row [.str w] s = if numB 7 w = true then .ok (.int (vl w)) s else .er ⟨7, "line", .int 1⟩ s := by
  have e0 : startD 1 [.str w] = [some (.str w)] := rfl
  have hn : mCall (g_is_number) (mCons (mVar 0) (mCons (mK (.int 7)) mNil)) [some (.str w)] s = .ok (.bl (numB 7 w)) s := call_v (cons_v (w := .str w) rfl (cons_v k_ev nil_ev)) (is_number_eq (k := 7) (by have := h.len; omega))
  unfold g_number_in_row d_number_in_row
  rw [den_ev, e0]
  cases hb : numB 7 w with
  | true =>
    rw [hb] at hn
    rw [if_pos rfl]
    exact fin_nx ((not_tt hn).trans rfl) (fin_v (ret_v (blt_v (cons_v (w := .str w) rfl nil_ev) (int_num (by decide) hb))) finC_rt)
  | false =>
    rw [hb] at hn
    exact fin_erS ((not_tf hn).trans rfl) finC_er
theorem kn2_tI {ns : List Int} : Kn2 (tI ns) := ⟨rfl, fun ws e v hv => by
  cases e
  obtain ⟨i, _, rfl⟩ := List.mem_map.mp hv
  rfl⟩
abbrev RV' (page : Str) : List Int := (spB page).map vl
theorem read_row_eq (h : Tx 99999 page) : g_read_row [.str page] s = if page = "none" then .ok (.tup []) s else if (spB page).all (numB 7) = true then (match judge 0 200 0 1000000 (tI (RV' page)) with | none => .ok (tI (RV' page)) s | some x => .er ⟨2, "number", x⟩ s) else .er ⟨7, "line", .int 1⟩ s := by
  obtain ⟨q1, q2, q3⟩ := split_tx tlBL okBL h
  have q2 : (spB page).length ≤ 100000 := q2
  obtain ⟨P, hP⟩ : ∃ P, P = Dv.str page := ⟨_, rfl⟩
  have e0 : startD 2 [.str page] = [some P, none] := by rw [hP]; rfl
  unfold g_read_row d_read_row
  rw [den_ev, e0]
  refine fin_nx (ρ1 := [some P, none]) (s1 := s) ((not_tt (blt_v (cons_v (w := P) rfl (cons_v k_ev nil_ev)) ?_)).trans rfl) ?_
  · rw [hP]; rfl
  have ct : mTest (mBin eqD (mVar 0) (mK (.str "none"))) [some P, none] s = .ok (decide (page = "none")) s := by
    rw [hP]
    exact test_v (bin_v (x := .str page) rfl k_ev eqS)
  by_cases hz : page = "none"
  · rw [decide_eq_true hz] at ct
    rw [if_pos hz]
    exact fin_rtS ((ifS_t ct).trans (ret_v (tup_v (ws := []) nil_ev (by decide)))) finC_rt
  · rw [decide_eq_false hz] at ct
    rw [if_neg hz]
    refine fin_nx ((ifS_f ct).trans rfl) ?_
    have hc : mCompX cF_read_row_1 [1] ct_read_row_1 ci_read_row_1 ce_read_row_1 [some P, none] s = if (spB page).all (numB 7) = true then .ok (.lst ((spB page).map fun w => .int (vl w))) s else .er ⟨7, "line", .int 1⟩ s := by
      refine mCompX_eq (e := .str) ?_ (by unfold lim; omega) fun w hw => ⟨[some P, some (.str w)], rfl, ?_⟩
      · unfold cF_read_row_1 iSeq
        rw [spl_v (f := mVar 0) (a := page) (b := BL) (by rw [hP]; rfl) k_ev BL0 (by have := h.len; omega), bind_ok]
        rfl
      · unfold ce_read_row_1
        exact call_v (cons_v (w := .str w) rfl nil_ev) (number_in_row_eq (q3 w hw))
    rw [show ((spB page).map fun w => Dv.int (vl w)) = (RV' page).map .int from by unfold RV'; rw [List.map_map]; rfl] at hc
    cases hb : (spB page).all (numB 7) with
    | true =>
      rw [hb, if_pos rfl] at hc
      rw [if_pos rfl]
      have hcall : mCall (g_need_row) (mCons (mBlt tupleD (mCons (mCompX cF_read_row_1 [1] ct_read_row_1 ci_read_row_1 ce_read_row_1) mNil)) mNil) [some P, none] s = _ := call_v (cons_v (w := tI (RV' page)) (blt_v (cons_v hc nil_ev) rfl) nil_ev) (need_row_eq kn2_tI)
      cases hj : judge 0 200 0 1000000 (tI (RV' page)) with
      | none =>
        rw [hj] at hcall
        exact fin_v (ret_v hcall) finC_rt
      | some x =>
        rw [hj] at hcall
        rw [ret_er hcall, finC_er]
    | false =>
      rw [hb] at hc
      rw [ret_er (call_er (cons_er (blt_er (cons_er hc)))), finC_er]
      rfl
/-! ### the law's -/
def enumI : Nat → List Int → List (Nat × Int)
  | _, [] => []
  | k, i :: r => (k, i) :: enumI (k + 1) r
def pr (p : Nat × Int) : Dv := .tup [.int (p.1 : Nat), .int p.2]
theorem enumI_eq : ∀ {ns : List Int} {k : Nat}, enumD k (ns.map .int) = (enumI k ns).map pr
  | [], _ => rfl
  | i :: r, k => by
    show .tup [.int (k : Nat), .int i] :: enumD (k + 1) (r.map .int) = pr (k, i) :: (enumI (k + 1) r).map pr
    rw [enumI_eq]
    rfl
theorem enumI_len : ∀ {ns : List Int} {k : Nat}, (enumI k ns).length = ns.length
  | [], _ => rfl
  | i :: r, k => by show (enumI (k + 1) r).length + 1 = r.length + 1; rw [enumI_len]
theorem enumI_lt : ∀ {ns : List Int} {k : Nat} {p : Nat × Int}, p ∈ enumI k ns → p.1 < k + ns.length
  | [], _, _, h => by cases h
  | i :: r, k, p, h => by
    rcases List.mem_cons.mp h with rfl | h
    · simp
    · have := enumI_lt h
      simp only [List.length_cons]
      omega
abbrev inR (i : Int) : Bool := decide (0 ≤ i) && decide (i ≤ 1000000)
theorem firstO_filt : ∀ {ns : List Int} {k : Nat}, firstO 0 1000000 k (ns.map .int) = (((enumI k ns).filter fun p => !inR p.2).head?).map (·.1)
  | [], _ => rfl
  | i :: r, k => by
    show firstO 0 1000000 k (.int i :: r.map .int) = (((k, i) :: enumI (k + 1) r).filter fun p => !inR p.2).head?.map (·.1)
    unfold firstO
    rw [show inB 0 1000000 (.int i) = inR i from rfl, List.filter_cons]
    cases inR i with
    | true => rw [if_pos rfl]; exact firstO_filt
    | false => rfl
def dueR (page : Str) : Dv := if page = "none" then .lst [.tup []] else if (spB page).all (numB 7) = true then (match judge 0 200 0 1000000 (tI (RV' page)) with | none => .lst [tI (RV' page)] | some x => .tup [.str "row", x]) else .tup [.str "text", .int 1]
theorem row_due_eq (h : Tx 99999 page) : g__law_row_due [.str page] s = .ok (dueR page) s := by
  obtain ⟨q1, q2, q3⟩ := split_tx tlBL okBL h
  have q2 : (spB page).length ≤ 100000 := q2
  have hpl := h.len
  obtain ⟨P, hP⟩ : ∃ P, P = Dv.str page := ⟨_, rfl⟩
  have e0 : startD 7 [.str page] = [some P, none, none, none, none, none, none] := by rw [hP]; rfl
  unfold g__law_row_due d__law_row_due dueR
  rw [den_ev, e0]
  refine fin_nx (ρ1 := [some P, none, none, none, none, none, none]) (s1 := s) ((not_tt (blt_v (cons_v (w := P) rfl (cons_v k_ev nil_ev)) ?_)).trans rfl) ?_
  · rw [hP]; rfl
  have ct : mTest (mBin eqD (mVar 0) (mK (.str "none"))) [some P, none, none, none, none, none, none] s = .ok (decide (page = "none")) s := by
    rw [hP]
    exact test_v (bin_v (x := .str page) rfl k_ev eqS)
  by_cases hz : page = "none"
  · rw [decide_eq_true hz] at ct
    rw [if_pos hz]
    exact fin_rtS ((ifS_t ct).trans (ret_v (lst_v (cons_v (tup_v (ws := []) nil_ev (by decide)) nil_ev) (by simp)))) finC_rt
  rw [decide_eq_false hz] at ct
  rw [if_neg hz]
  refine fin_nx ((ifS_f ct).trans rfl) ?_
  obtain ⟨W, hW⟩ : ∃ W, W = Dv.lst (DS (spB page)) := ⟨_, rfl⟩
  refine fin_nx (ρ1 := [some P, some W, none, none, none, none, none]) (s1 := s) (asg_gv (by rw [hW]; exact spl_v (f := mVar 0) (a := page) (b := BL) (by rw [hP]; rfl) k_ev BL0 (by omega)) rfl) ?_
  have hc : mComp cF__law_row_due_1 [4] ct__law_row_due_1 ci__law_row_due_1 ce__law_row_due_1 [some P, some W, none, none, none, none, none] s = .ok (.lst (((spB page).filter fun w => !numB 7 w).map .str)) s := by
    refine comp_filt (e := .str) _ (fun w => !numB 7 w) (by rw [hW]; rfl) (by unfold lim; omega) fun w hw => ⟨[some P, some W, none, none, some (.str w), none, none], rfl, ?_, fun _ => ?_⟩
    · unfold ci__law_row_due_1
      exact not_v (test_v (call_v (cons_v (w := .str w) rfl (cons_v k_ev nil_ev)) (law_is_number_eq (k := 7) ((q3 w hw).mono (by decide)))))
    · unfold ce__law_row_due_1
      rfl
  have hne : mTest (mBin neD (mComp cF__law_row_due_1 [4] ct__law_row_due_1 ci__law_row_due_1 ce__law_row_due_1) (mLst mNil)) [some P, some W, none, none, none, none, none] s = .ok (!(spB page).all (numB 7)) s := by
    refine (test_v (bin_v hc (lst_v (ws := []) nil_ev (by decide)) (ne_of_eq (eq_strs_nil fun y hy => (q3 y (List.mem_filter.mp hy).1).mono (by decide))))).trans ?_
    congr 2
    cases hB : (spB page).all (numB 7) with
    | true =>
      refine decide_eq_true ?_
      rw [List.filter_eq_nil_iff]
      intro c hc
      rw [List.all_eq_true.mp hB c hc]
      decide
    | false =>
      refine decide_eq_false fun z => ?_
      rw [List.filter_eq_nil_iff] at z
      have : (spB page).all (numB 7) = true := List.all_eq_true.mpr fun c hc => by
        have := z c hc
        cases q : numB 7 c with
        | true => rfl
        | false => rw [q] at this; exact absurd rfl this
      rw [this] at hB
      cases hB
  cases hb : (spB page).all (numB 7) with
  | false =>
    rw [hb] at hne
    exact fin_rtS ((ifS_t hne).trans (ret_v (tup_v (cons_v k_ev (cons_v k_ev nil_ev)) (by simp)))) finC_rt
  | true =>
    rw [hb] at hne
    rw [if_pos rfl]
    refine fin_nx ((ifS_f hne).trans rfl) ?_
    obtain ⟨F, hF⟩ : ∃ F, F = tI (RV' page) := ⟨_, rfl⟩
    have hnl : (RV' page).length = (spB page).length := List.length_map _
    have c2 : mComp cF__law_row_due_2 [4] ct__law_row_due_2 ci__law_row_due_2 ce__law_row_due_2 [some P, some W, none, none, none, none, none] s = .ok (.lst ((RV' page).map .int)) s := by
      rw [show (RV' page).map Dv.int = (spB page).map fun w => .int (vl w) from by unfold RV'; rw [List.map_map]; rfl]
      refine comp_mapA (e := .str) _ (by rw [hW]; rfl) (by unfold lim; omega) fun w hw => ⟨[some P, some W, none, none, some (.str w), none, none], rfl, ?_⟩
      unfold ce__law_row_due_2
      exact blt_v (cons_v (w := .str w) rfl nil_ev) (int_num (by decide) (List.all_eq_true.mp hb w hw))
    refine fin_nx (ρ1 := [some P, some W, some F, none, none, none, none]) (s1 := s) (asg_gv (blt_v (cons_v c2 nil_ev) (z := F) (by rw [hF]; rfl)) rfl) ?_
    have c200 : mTest (mBin gtD (mBlt lenD (mCons (mVar 2) mNil)) (mK (.int 200))) [some P, some W, some F, none, none, none, none] s = .ok (decide ((200 : Int) < ((RV' page).length : Int))) s := by
      refine test_v (bin_v (x := .int (RV' page).length) (blt_v (cons_v (w := tI (RV' page)) (by rw [hF]; rfl) nil_ev) (len_tup.trans (by rw [List.length_map]))) k_ev rfl)
    by_cases h200 : (RV' page).length ≤ 200
    · rw [decide_eq_false (by omega)] at c200
      refine fin_nx ((ifS_f c200).trans rfl) ?_
      have c3 : mComp cF__law_row_due_3 [5, 6] ct__law_row_due_3 ci__law_row_due_3 ce__law_row_due_3 [some P, some W, some F, none, none, none, none] s = .ok (.lst (((enumI 0 (RV' page)).filter fun p => !inR p.2).map fun p => .int (p.1 : Nat))) s := by
        refine comp_filt (e := pr) _ (fun p => !inR p.2) ?_ (by rw [enumI_len]; unfold lim; omega) fun p hp => ⟨[some P, some W, some F, none, none, some (.int (p.1 : Nat)), some (.int p.2)], rfl, ?_, fun _ => ?_⟩
        · rw [← enumI_eq]
          unfold cF__law_row_due_3 iEnum1
          rw [cons_v (w := F) rfl nil_ev, bind_ok, hF]
          rfl
        · unfold ci__law_row_due_3
          exact not_v (chainI (a := 0) (b := 1000000) k_ev rfl (bin_v k_ev k_ev (pow_ii ⟨by decide, by decide, by decide⟩)))
        · unfold ce__law_row_due_3
          rfl
      obtain ⟨Q, hQ⟩ : ∃ Q, Q = (enumI 0 (RV' page)).filter fun p => !inR p.2 := ⟨_, rfl⟩
      have ej : judge 0 200 0 1000000 (tI (RV' page)) = (Q.head?).map fun p => .int (p.1 : Nat) := by
        show (if (0 : Int) ≤ (((RV' page).map Dv.int).length : Int) ∧ (((RV' page).map Dv.int).length : Int) ≤ 200 then (match firstO 0 1000000 0 ((RV' page).map .int) with | some n => some (Dv.int n) | none => none) else some .non) = _
        rw [if_pos (by rw [List.length_map]; omega), firstO_filt, ← hQ]
        cases Q with
        | nil => rfl
        | cons a b => rfl
      have hsm : ∀ p ∈ Q, Sm ((p.1 : Nat) : Int) := fun p hp => by
        rw [hQ] at hp
        have := enumI_lt (List.mem_filter.mp hp).1
        exact Sm.of (by omega) (by omega)
      have hnil : eqD s (.lst (Q.map fun p => .int (p.1 : Nat))) (.lst []) = some (.bl (decide (Q = []))) := by
        rw [show (Q.map fun p => Dv.int (p.1 : Nat)) = (Q.map fun p => ((p.1 : Nat) : Int)).map .int from by rw [List.map_map]; rfl]
        rw [eq_l_nil (pl_lst (pls_ints fun i hi => by
          obtain ⟨p, hp, rfl⟩ := List.mem_map.mp hi
          exact hsm p hp)) (by decide)]
        congr 2
        simp
      rw [ej]
      rw [← hQ] at c3
      obtain ⟨M, hM⟩ : ∃ M, M = Dv.lst (Q.map fun p => .int (p.1 : Nat)) := ⟨_, rfl⟩
      rw [← hM] at c3 hnil
      refine fin_nx (ρ1 := [some P, some W, some F, some M, none, none, none]) (s1 := s) (asg_gv c3 rfl) ?_
      have c4 := test_v (bin_v (f := mVar 3) (ρ := [some P, some W, some F, some M, none, none, none]) (x := M) rfl (lst_v (ws := []) nil_ev (by decide)) hnil)
      cases Q with
      | nil =>
        exact fin_v (ret_v (if_vt c4 (lst_v (cons_v (w := F) rfl nil_ev) (by simp)))) (finC_rt.trans (by rw [hF]; rfl))
      | cons a b =>
        exact fin_v (ret_v (if_vf c4 (tup_v (cons_v k_ev (cons_v (w := .int (a.1 : Nat)) (bin_v (x := M) rfl k_ev (by rw [hM]; exact ix_lst (k := 0) rfl)) nil_ev)) (by simp)))) finC_rt
    · rw [decide_eq_true (by omega)] at c200
      have ej : judge 0 200 0 1000000 (tI (RV' page)) = some .non := by
        show (if (0 : Int) ≤ (((RV' page).map Dv.int).length : Int) ∧ (((RV' page).map Dv.int).length : Int) ≤ 200 then (match firstO 0 1000000 0 ((RV' page).map .int) with | some n => some (Dv.int n) | none => none) else some .non) = _
        rw [if_neg (by rw [List.length_map]; omega)]
      rw [ej]
      exact fin_rtS ((ifS_t c200).trans (ret_v (tup_v (cons_v k_ev (cons_v k_ev nil_ev)) (by simp)))) finC_rt
end
end MP.K20

set_option Elab.async false
set_option linter.all false
set_option maxRecDepth 100000
set_option maxHeartbeats 400000
/-! whether a thing is read as it is due -/
namespace MP.K20
open PySem PySem.Spec PyProof.Rows L2 MP TL PySem.NumText
section
variable {s : Sto} {w : Dv} {ws : List Dv}
theorem pl_bill : Pl 1 0 (.str "bill") (.str "bill") := ⟨rfl, by decide +kernel, by decide +kernel, by decide +kernel, by decide +kernel, by decide +kernel⟩
theorem pl_row : Pl 1 0 (.str "row") (.str "row") := ⟨rfl, by decide +kernel, by decide +kernel, by decide +kernel, by decide +kernel, by decide +kernel⟩
theorem pl_form : Pl 1 0 (.str "form") (.str "form") := ⟨rfl, by decide +kernel, by decide +kernel, by decide +kernel, by decide +kernel, by decide +kernel⟩
theorem pl_non : Pl 1 0 .non .none := ⟨rfl, by decide +kernel, by decide +kernel, by decide +kernel, by decide +kernel, by decide +kernel⟩
theorem row_sm {ns : List Int} (h : Row ns) : ∀ i ∈ ns, Sm i := fun i hi => by
  have := h.ok i hi
  exact Sm.of (by omega) (by omega)
theorem rule_sm {ns : List Int} (h : Rule ns) : ∀ i ∈ ns, Sm i := fun i hi => by
  have := h.ok i hi
  exact Sm.of (by omega) (by omega)
abbrev td (t : Term) : PyData := .tuple [.tuple (t.rs.map .int), .int t.a, .int t.b]
theorem pl_tm {t : Term} (h : TermOk t) : Pl 10 2 (tm t) (td t) := by
  have h6 := h.rule.six
  have q1 := h.a0
  have q2 := h.a1
  have q3 := h.b0
  have q4 := h.b1
  exact (pl_tup (pls_cons ((pl_tI (rule_sm h.rule)).mono (m := 7) (by omega) (Nat.le_refl _)) (pls_cons ((pl_int (i := t.a) (Sm.of (by omega) (by omega))).mono (Nat.le_refl _) (Nat.zero_le _)) (pls_cons ((pl_int (i := t.b) (Sm.of (by omega) (by omega))).mono (Nat.le_refl _) (Nat.zero_le _)) pls_nil)))).mono (by omega) (Nat.le_refl _)
theorem pls_tms : ∀ {ts : List Term}, (∀ t ∈ ts, TermOk t) → Pls (ts.length * 10) 2 (ts.map tm) (ts.map td)
  | [], _ => pls_nil
  | t :: ts, h => by
    have := pls_cons (pl_tm (h t List.mem_cons_self)) (pls_tms fun i hi => h i (List.mem_cons_of_mem _ hi))
    refine this.mono ?_ (Nat.le_refl _)
    rw [List.length_cons, Nat.succ_mul]
    omega
abbrev bd (o : Int) (ts : List Term) : PyData := .tuple [.int o, .tuple (ts.map td)]
theorem pl_bi {o : Int} {ts : List Term} (h : Bill o ts) : Pl 25 4 (bi o ts) (bd o ts) := by
  have h2 := h.two
  have q1 := h.o0
  have q2 := h.o1
  exact (pl_tup (pls_cons ((pl_int (i := o) (Sm.of (by omega) (by omega))).mono (Nat.le_refl _) (Nat.zero_le _)) (pls_cons ((pl_tup (pls_tms h.ok)).mono (m := 21) (by omega) (Nat.le_refl _)) pls_nil))).mono (by omega) (Nat.le_refl _)
end
section
variable {s : Sto} {page : Str} {rows : List (List Str)} {o : Int} {ts : List Term} {x w dB dR : Dv}
theorem pl_word {a : Str} (h : ∀ c ∈ tl a, c < 128) (h2 : a.length ≤ 50) : ∃ d, Pl 1 1 (.str a) d := ⟨_, (pl_text h (by omega)).mono (by omega) (by decide)⟩
theorem firstW_lt : ∀ {ts : List Term} {k n : Nat}, firstW k ts = some n → n < k + ts.length
  | [], _, _, h => by cases h
  | t :: r, k, n, h => by
    unfold firstW at h
    split at h
    · have := firstW_lt h
      simp only [List.length_cons]
      omega
    · cases h
      simp only [List.length_cons]
      omega
theorem firstW_none : ∀ {ts : List Term} {k : Nat}, firstW k ts = none → ∀ t ∈ ts, termB (tm t) = true
  | [], _, _, _, h => by cases h
  | t :: r, k, h, u, hu => by
    unfold firstW at h
    split at h
    · rename_i hb
      rcases List.mem_cons.mp hu with rfl | hu
      · exact hb
      · exact firstW_none h u hu
    · cases h
theorem wrong_ev (h2 : ts.length ≤ 2) : wrongB (bi o ts) = if inB (-50) 50 (.int o) = true then (match firstW 0 ts with | some n => some (.int n) | none => none) else some (.str "own") := by
  show (if inB (-50) 50 (.int o) = true then (if (ts.map tm).length ≤ 2 then (match firstT 0 (ts.map tm) with | some n => some (Dv.int n) | none => none) else some (Dv.str "terms")) else some (Dv.str "own")) = _
  rw [if_pos (show (ts.map tm).length ≤ 2 by rw [List.length_map]; exact h2), firstW_eq]
theorem wrong_some (h2 : ts.length ≤ 2) (hq : wrongB (bi o ts) = some x) : (∃ d, Pl 1 1 x d) ∧ ∀ n, clean n x = true := by
  rw [wrong_ev h2] at hq
  split at hq
  · cases e : firstW 0 ts with
    | none => rw [e] at hq; cases hq
    | some n =>
      rw [e] at hq
      cases hq
      have := firstW_lt e
      exact ⟨⟨_, (pl_int (Sm.of (i := (n : Int)) (by omega) (by omega))).mono (by decide) (by decide)⟩, fun _ => rfl⟩
  · cases hq
    exact ⟨pl_word (by decide +kernel) (by decide +kernel), fun _ => rfl⟩
theorem wrong_none (h : ∀ t ∈ ts, NumT t) (h2 : ts.length ≤ 2) (hq : wrongB (bi o ts) = none) : Bill o ts := by
  rw [wrong_ev h2] at hq
  split at hq
  · rename_i ho
    have ho : (decide (-50 ≤ o) && decide (o ≤ 50)) = true := ho
    simp only [Bool.and_eq_true, decide_eq_true_eq] at ho
    refine ⟨ho.1, ho.2, h2, fun t ht => ?_⟩
    have e : firstW 0 ts = none := by
      cases e : firstW 0 ts with
      | none => rfl
      | some n => rw [e] at hq; cases hq
    have hb := firstW_none e t ht
    have hn := h t ht
    have hb : (ruleB (tI t.rs) && (decide (-50 ≤ t.a) && decide (t.a ≤ 50)) && (decide (-50 ≤ t.b) && decide (t.b ≤ 50))) = true := hb
    rw [ruleB_all hn.one hn.six] at hb
    simp only [Bool.and_eq_true, decide_eq_true_eq, List.all_eq_true] at hb
    exact ⟨⟨hn.one, hn.six, hb.1.1⟩, hb.1.2.1, hb.1.2.2, hb.2.1, hb.2.2⟩
  · cases hq
theorem badB_le : ∀ {rows : List (List Str)} {i n : Nat}, badB i rows = some n → n ≤ i + rows.length
  | [], _, _, h => by cases h
  | a :: r, i, n, h => by
    unfold badB at h
    split at h
    · have := badB_le h
      simp only [List.length_cons]
      omega
    · cases h
      simp only [List.length_cons]
      omega
theorem known7 {w : Dv} : Known ⟨7, "line", w⟩ := .inr (.inr (.inr ⟨rfl, rfl⟩))
theorem known2 {w : Dv} : Known ⟨2, "number", w⟩ := .inr (.inl ⟨rfl, rfl⟩)
theorem known3 {w : Dv} : Known ⟨3, "part", w⟩ := .inr (.inr (.inl ⟨rfl, rfl⟩))
theorem pl_two {a : Str} {x : Dv} (h : ∃ d, Pl 1 1 (.str a) d) (h2 : ∃ d, Pl 1 1 x d) : ∃ d, Pl 400 6 (.tup [.str a, x]) d := by
  obtain ⟨d, h⟩ := h
  obtain ⟨e, h2⟩ := h2
  exact ⟨_, (pl_tup (pls_cons h (pls_cons h2 pls_nil))).mono (by decide) (by decide)⟩
/-- what is due, what is heard -/
structure Jd (s : Sto) (w dB dR : Dv) : Prop where
  b : g__law_bill_due [w] s = .ok dB s
  r : g__law_row_due [w] s = .ok dR s
  ob : ∀ g : Sto → R Dv, g s = g_read_bill [w] s → h__law_outcome g [] s = .ok dB s
  or' : ∀ g : Sto → R Dv, g s = g_read_row [w] s → h__law_outcome g [] s = .ok dR s
  pb : ∃ d, Pl 400 6 dB d
  pr : ∃ d, Pl 400 6 dR d
theorem jd_text (h : Tx 99999 page) (hs : s.all (Ob.clean s.length) = true) : Jd s (.str page) (dueB page) (dueR page) := by
  have hrd := read_bill_eq (s := s) h
  have hrr := read_row_eq (s := s) h
  have hr := rows_ok h
  obtain ⟨q1, q2, q3⟩ := split_tx tlBL okBL h
  refine ⟨bill_due_eq h, row_due_eq h, fun g e => ?_, fun g e => ?_, ?_, ?_⟩
  · rw [← e] at hrd
    unfold dueB
    cases hb : badB 0 (rowsOf page) with
    | some n =>
      rw [hb] at hrd
      exact out_er (x := ⟨7, "line", .int n⟩) hrd known7 hs rfl
    | none =>
      rw [hb] at hrd
      have S := std_of hr hb
      have hlen : (tmsOf (rowsOf page)).length ≤ 2 := by unfold tmsOf; rw [List.length_map]; exact S.two
      cases hw : wrongB (bi (ownOf (rowsOf page)) (tmsOf (rowsOf page))) with
      | none =>
        rw [hw] at hrd
        exact out_ok hrd
      | some x =>
        rw [hw] at hrd
        exact out_er (x := ⟨3, "part", x⟩) hrd known3 hs ((wrong_some hlen hw).2 _)
  · rw [← e] at hrr
    unfold dueR
    split
    · rename_i hz
      rw [if_pos hz] at hrr
      exact out_ok hrr
    · rename_i hz
      rw [if_neg hz] at hrr
      split
      · rename_i hn
        rw [if_pos hn] at hrr
        cases hj : judge 0 200 0 1000000 (tI (RV' page)) with
        | none =>
          rw [hj] at hrr
          exact out_ok hrr
        | some x =>
          rw [hj] at hrr
          refine out_er (x := ⟨2, "number", x⟩) hrr known2 hs ?_
          revert hj
          show (if (0 : Int) ≤ (((RV' page).map Dv.int).length : Int) ∧ (((RV' page).map Dv.int).length : Int) ≤ 200 then (match firstO 0 1000000 0 ((RV' page).map .int) with | some n => some (Dv.int n) | none => none) else some .non) = some x → _
          intro hj
          split at hj
          · cases hf : firstO 0 1000000 0 ((RV' page).map .int) with
            | none => rw [hf] at hj; cases hj
            | some n => rw [hf] at hj; cases hj; rfl
          · cases hj; rfl
      · rename_i hn
        rw [if_neg hn] at hrr
        exact out_er (x := ⟨7, "line", .int 1⟩) hrr known7 hs rfl
  · unfold dueB
    cases hb : badB 0 (rowsOf page) with
    | some n =>
      have := badB_le hb
      have hf := hr.few
      exact pl_two (pl_word (by decide +kernel) (by decide +kernel)) ⟨_, (pl_int (Sm.of (i := (n : Int)) (by omega) (by omega))).mono (by decide) (by decide)⟩
    | none =>
      have S := std_of hr hb
      have hlen : (tmsOf (rowsOf page)).length ≤ 2 := by unfold tmsOf; rw [List.length_map]; exact S.two
      cases hw : wrongB (bi (ownOf (rowsOf page)) (tmsOf (rowsOf page))) with
      | none => exact ⟨_, (pl_lst (pls_cons (pl_bi (wrong_none (numT_of S) hlen hw)) pls_nil)).mono (by decide) (by decide)⟩
      | some x => exact pl_two (pl_word (by decide +kernel) (by decide +kernel)) (wrong_some hlen hw).1
  · unfold dueR
    split
    · exact ⟨_, (pl_lst (pls_cons (pl_tup (pls_nil (k := 0))) pls_nil)).mono (by decide) (by decide)⟩
    · split
      · rename_i hn
        have ej : judge 0 200 0 1000000 (tI (RV' page)) = (if (0 : Int) ≤ (((RV' page).map Dv.int).length : Int) ∧ (((RV' page).map Dv.int).length : Int) ≤ 200 then (match firstO 0 1000000 0 ((RV' page).map .int) with | some n => some (Dv.int n) | none => none) else some .non) := rfl
        rw [firstO_filt] at ej
        rw [ej]
        split
        · rename_i hq
          split at hq
          · rename_i hl
            rw [List.length_map] at hl
            refine ⟨_, (pl_lst (pls_cons ((pl_tI fun i hi => ?_).mono (m := 201) (j := 4) (by omega) (by decide)) pls_nil)).mono (by decide) (by decide)⟩
            obtain ⟨v, hv, rfl⟩ := List.mem_map.mp hi
            have := (vl_ok (k := 7) (by decide) (List.all_eq_true.mp hn v hv)).2.1
            exact Sm.of (by omega) (by omega)
          · cases hq
        · rename_i x hq
          refine pl_two (pl_word (by decide +kernel) (by decide +kernel)) ?_
          split at hq
          · rename_i hl
            rw [List.length_map] at hl
            cases hh : ((enumI 0 (RV' page)).filter fun p => !inR p.2).head? with
            | none => rw [hh] at hq; cases hq
            | some p =>
              rw [hh] at hq
              cases hq
              have hm : p ∈ (enumI 0 (RV' page)).filter fun p => !inR p.2 := List.mem_of_mem_head? hh
              have := enumI_lt (List.mem_filter.mp hm).1
              exact ⟨_, (pl_int (Sm.of (i := (p.1 : Int)) (by omega) (by omega))).mono (by decide) (by decide)⟩
          · cases hq
            exact ⟨_, pl_non.mono (by decide) (by decide)⟩
      · exact pl_two (pl_word (by decide +kernel) (by decide +kernel)) ⟨_, (pl_int (Sm.of (i := 1) (by decide) (by decide))).mono (by decide) (by decide)⟩
theorem jd_odd (hw : isiA s [w, .ty "str"] = some (.bl false)) (hs : s.all (Ob.clean s.length) = true) : Jd s w (.tup [.str "text", .int 0]) (.tup [.str "text", .int 0]) := by
  have p0 : ∃ d, Pl 400 6 (.tup [.str "text", .int 0]) d := pl_two (pl_word (by decide +kernel) (by decide +kernel)) ⟨_, (pl_int (Sm.of (i := 0) (by decide) (by decide))).mono (by decide) (by decide)⟩
  refine ⟨?_, ?_, fun g e => ?_, fun g e => ?_, p0, p0⟩
  · have e0 : startD 11 [w] = [some w, none, none, none, none, none, none, none, none, none, none] := rfl
    unfold g__law_bill_due d__law_bill_due
    rw [den_ev, e0]
    exact fin_rtS ((not_tf (blt_v (cons_v (w := w) rfl (cons_v k_ev nil_ev)) hw)).trans (ret_v (tup_v (cons_v k_ev (cons_v k_ev nil_ev)) (by simp)))) finC_rt
  · have e0 : startD 7 [w] = [some w, none, none, none, none, none, none] := rfl
    unfold g__law_row_due d__law_row_due
    rw [den_ev, e0]
    exact fin_rtS ((not_tf (blt_v (cons_v (w := w) rfl (cons_v k_ev nil_ev)) hw)).trans (ret_v (tup_v (cons_v k_ev (cons_v k_ev nil_ev)) (by simp)))) finC_rt
  · refine out_er (x := ⟨7, "line", .int 0⟩) (e.trans ?_) known7 hs rfl
    have e0 : startD 9 [w] = [some w, none, none, none, none, none, none, none, none] := rfl
    unfold g_read_bill d_read_bill
    rw [den_ev, e0]
    exact fin_erS ((not_tf (blt_v (cons_v (w := w) rfl (cons_v k_ev nil_ev)) hw)).trans rfl) finC_er
  · refine out_er (x := ⟨7, "line", .int 0⟩) (e.trans ?_) known7 hs rfl
    have e0 : startD 2 [w] = [some w, none] := rfl
    unfold g_read_row d_read_row
    rw [den_ev, e0]
    exact fin_erS ((not_tf (blt_v (cons_v (w := w) rfl (cons_v k_ev nil_ev)) hw)).trans rfl) finC_er
end
end MP.K20

set_option Elab.async false
set_option linter.all false
set_option maxRecDepth 100000
set_option maxHeartbeats 400000
namespace MP.K20
open PySem PySem.Spec PyProof.Rows L2 MP TL PySem.NumText
section
variable {cs : List Int} {l p : Int} {w dB dR : Dv} {page : Str} {ρ : Env} {s : Sto}
abbrev S0 (cs : List Int) (l p : Int) : Sto := St [] cs l p
theorem lamA {gb : FE} {r : Dv} (h : h__law_outcome (gb ρ) [] (S0 cs l p) = .ok r (S0 cs l p)) : mLam 0 0 lq__law_judged gb h__law_outcome mNil ρ (S0 cs l p) = .ok r (S0 cs l p) := by
  rw [lam_ev rfl, nil_ev, bind_ok]
  exact h
theorem lst2 {f g : FE} {x y : Dv} (h : f ρ s = .ok x s) (h2 : g ρ s = .ok y s) : mLst (mCons f (mCons g mNil)) ρ s = .ok (.lst [x, y]) s := lst_v (cons_v h (cons_v h2 nil_ev)) (by simp)
theorem judged_ok (J : Jd (S0 cs l p) w dB dR) : g__law_judged [w] (S0 cs l p) = .ok (.bl true) (S0 cs l p) := by
  obtain ⟨d, hd⟩ := J.pb
  obtain ⟨e, he⟩ := J.pr
  obtain ⟨u, hu⟩ := sh_lst (pl_lst (pls_cons hd (pls_cons he pls_nil))) (by decide) (by decide) (S0 cs l p)
  obtain ⟨D, hD⟩ : ∃ D, D = Dv.lst [dB, dR] := ⟨_, rfl⟩
  rw [← hD] at hu
  have e0 : startD 4 [w] = [some w, none, none, none] := rfl
  unfold g__law_judged d__law_judged
  rw [den_ev, e0]
  refine fin_nx (ρ1 := [some w, some D, none, none]) (s1 := S0 cs l p) (asg_gv (lst2 (call_v (cons_v (w := w) rfl nil_ev) J.b) (call_v (cons_v (w := w) rfl nil_ev) J.r)) (by rw [hD]; rfl)) ?_
  obtain ⟨ρ', f1, x3, x4, rfl⟩ := for_mem (F := F__law_judged_1) (g := t__law_judged_1) (body := b__law_judged_1) (ρ := [some w, some D, none, none]) (s := S0 cs l p)
    (I := fun ρ => ∃ a b, ρ = [some w, some D, a, b]) (range1_ok (cons_v k_ev nil_ev) (okR_s (by decide) (by decide))) ⟨_, _, rfl⟩ fun x hx ρ ⟨a, b, e⟩ => by
      subst e
      refine ⟨[some w, some D, some x, b], [some w, some D, some x, some D], rfl, ?_, _, _, rfl⟩
      unfold b__law_judged_1
      refine seq_nx (ρ1 := [some w, some D, some x, some D]) (s1 := S0 cs l p) (asg_gv (lst2 (lamA (J.ob _ ?_)) (lamA (J.or' _ ?_))) (by rw [hD]; rfl)) ?_
      · exact call_v (cons_v (w := w) rfl nil_ev) rfl
      · exact call_v (cons_v (w := w) rfl nil_ev) rfl
      · exact (ifS_f (test_v (bin_v (blt_v (cons_v (w := D) rfl nil_ev) hu) (blt_v (cons_v (w := D) rfl nil_ev) hu) ne_refl_ss))).trans rfl
  exact fin_nx f1 (fin_v (ret_v k_ev) fin_St)
/-! ### a text bent -/
theorem slS_v {f : FE} {lo hi : FO} {a b : Option Int} {n : Nat} (hn : n ≤ 1000000) (h : Tx n page) (hf : f ρ s = .ok (.str page) s) (hl : lo ρ s = .ok a s) (hh : hi ρ s = .ok b s) : ∃ y, Tx n y ∧ mSl slS f lo hi ρ s = .ok (.str y) s := by
  refine ⟨cutS page a b, ⟨fun c hc => ?_, ?_⟩, sl_v hf hl hh ?_⟩
  · rw [tl_cutS] at hc
    exact h.low c (List.mem_of_mem_drop (List.mem_of_mem_take hc))
  · have := h.len
    rw [len_tl] at this ⊢
    rw [tl_cutS, List.length_take, List.length_drop]
    omega
  · show (if page.length ≤ 1000000 then some (Dv.str (cutS page a b)) else none) = _
    rw [if_pos (by have := h.len; omega)]
theorem slL_v {f : FE} {lo hi : FO} {a b : Option Int} {ys : List Str} {n m : Nat} (h : ∀ y ∈ ys, Tx n y) (hm : ys.length ≤ m) (hf : f ρ s = .ok (.lst (DS ys)) s) (hl : lo ρ s = .ok a s) (hh : hi ρ s = .ok b s) : ∃ zs, (∀ z ∈ zs, Tx n z) ∧ zs.length ≤ m ∧ mSl slA f lo hi ρ s = .ok (.lst (DS zs)) s := by
  refine ⟨(ys.drop (HT.sIx (DS ys).length 0 a)).take (HT.sIx (DS ys).length (DS ys).length b - HT.sIx (DS ys).length 0 a), fun z hz => h z (List.mem_of_mem_drop (List.mem_of_mem_take hz)), ?_, sl_v hf hl hh ?_⟩
  · rw [List.length_take, List.length_drop]
    omega
  · show some (Dv.lst (cutD (DS ys) a b)) = _
    unfold cutD DS
    rw [List.map_take, List.map_drop]
theorem tx_app {a b : Str} {n m : Nat} (h : Tx n a) (h2 : Tx m b) : Tx (n + m) (a ++ b) := ⟨fun c hc => by
    rw [tl_append] at hc
    exact (List.mem_append.mp hc).elim (h.low c) (h2.low c), by rw [app_len]; exact Nat.add_le_add h.len h2.len⟩
theorem tx_mul {a : Str} {n : Nat} {b : Bool} (h : Tx n a) : Tx n (Txt.mul a (if b = true then 1 else 0)) := by
  cases b with
  | true => exact h
  | false => exact ⟨fun c hc => (by cases hc), Nat.zero_le _⟩
theorem int_b {b : Bool} : intA s [.bl b] = some (.int (if b = true then 1 else 0)) := by cases b <;> rfl
theorem joinL_free {c : Nat} {S : List Nat} (hS : c ∉ S) : ∀ {ps : List (List Nat)}, (∀ p ∈ ps, c ∉ p) → c ∉ joinL S ps
  | [], _ => by simp [joinL]
  | [p], h => by simpa [joinL] using h p List.mem_cons_self
  | p :: q :: r, h => by
    have ih := joinL_free hS (ps := q :: r) fun x hx => h x (List.mem_cons_of_mem _ hx)
    have h1 := h p List.mem_cons_self
    intro hm
    simp only [joinL, List.mem_append, h1, hS, ih, or_self] at hm
theorem tx_join {a : Str} {ys : List Str} {n m : Nat} (ha : Tx 1 a) (h : ∀ y ∈ ys, Tx n y) (hm : ys.length ≤ m) : Tx (m * n + m) (Txt.join a ys) ∧ (ys.map (·.length)).sum + ys.length * a.length ≤ m * n + m := by
  have hs : (ys.map (·.length)).sum ≤ ys.length * n := by
    clear hm
    induction ys with
    | nil => exact Nat.zero_le _
    | cons y ys ih =>
      have h1 := (h y List.mem_cons_self).len
      have h2 := ih fun z hz => h z (List.mem_cons_of_mem _ hz)
      simp only [List.map_cons, List.sum_cons, List.length_cons, Nat.succ_mul] at h2 ⊢
      omega
  have h1 : ys.length * n ≤ m * n := Nat.mul_le_mul_right _ hm
  have h2 : ys.length * a.length ≤ m * 1 := Nat.mul_le_mul hm ha.len
  have hb : (ys.map (·.length)).sum + ys.length * a.length ≤ m * n + m := by omega
  refine ⟨⟨fun c hc => ?_, Nat.le_trans join_len hb⟩, hb⟩
  by_cases hlt : c < 128
  · exact hlt
  · rw [join_eq, tl_join] at hc
    exact absurd hc (joinL_free (fun z => hlt (ha.low c z)) fun p hp z => by
      obtain ⟨w, hw, rfl⟩ := List.mem_map.mp hp
      exact hlt ((h w hw).low c z))
theorem bent_ok (hc : cs ≠ []) (hp : 0 ≤ p) (hp2 : p < 900000) {signs : List Str} (hs1 : signs ≠ []) (hs2 : signs.length < 1000) (hs3 : ∀ y ∈ signs, Tx 10 y) (h : Tx 150 page) : ∃ y l' p', g__law_bent [.ref 1, .str page, .lst (DS signs)] (S0 cs l p) = .ok (.str y) (S0 cs l' p') ∧ Tx 99999 y ∧ 0 ≤ p' ∧ p' ≤ p + 5 := by
  have hl := h.len
  obtain ⟨sp, l1, p1, a1, a2, a3, a4, a5⟩ := (draw_ok (tl := []) (l := l) hc (show (0 : Int) < (page.length : Int) + 1 by omega) (by omega) hp (by omega)).ok
  obtain ⟨sg, l2, p2, hsg, b1, b2, b3⟩ := law_of_ok (tl := []) (l := l1) (p := p1) (ws := DS signs) hc a4 (by omega) (by simpa using hs1) (by rw [List.length_map]; exact hs2)
  obtain ⟨sgn, hsm, rfl⟩ := List.mem_map.mp hsg
  have hsx := hs3 sgn hsm
  obtain ⟨wy, l3, p3, c1, c2, c3, c4, c5⟩ := (draw_ok (tl := []) (l := l2) hc (show (0 : Int) < 6 by decide) (by decide) b2 (by omega)).ok
  obtain ⟨G, hG⟩ : ∃ G, G = Dv.lst (DS signs) := ⟨_, rfl⟩
  have e0 : startD 9 [.ref 1, .str page, .lst (DS signs)] = [some (.ref 1), some (.str page), some G, none, none, none, none, none, none] := by rw [hG]; rfl
  unfold g__law_bent d__law_bent
  rw [den_ev, e0]
  obtain ⟨ρ3, hρ⟩ : ∃ ρ3 : Env, ρ3 = [some (.ref 1), some (.str page), some G, some (.int sp), some (.str sgn), some (.int wy), none, none, none] := ⟨_, rfl⟩
  have hpar : mPar3 3 4 5 (mCons (mCall (g__law_draw) (mCons (mVar 0) (mCons (mBin addD (mBlt lenD (mCons (mVar 1) mNil)) (mK (.int 1))) mNil))) (mCons (mCall (g__law_of) (mCons (mVar 0) (mCons (mVar 2) mNil))) (mCons (mCall (g__law_draw) (mCons (mVar 0) (mCons (mK (.int 6)) mNil))) mNil))) [some (.ref 1), some (.str page), some G, none, none, none, none, none, none] (S0 cs l p) = .nx ρ3 (S0 cs l3 p3) := by
    unfold mPar3
    have hlen : mBlt lenD (mCons (mVar 1) mNil) [some (.ref 1), some (.str page), some G, none, none, none, none, none, none] (S0 cs l p) = .ok (.int page.length) (S0 cs l p) := by
      refine blt_v (cons_v (w := .str page) rfl nil_ev) ?_
      show (if page.length ≤ lim then some (Dv.int page.length) else none) = _
      rw [if_pos (by unfold lim; omega)]
    rw [cons_v (call_v (cons_v (w := .ref 1) rfl (cons_v (bin_v hlen k_ev add_ii) nil_ev)) a1) (cons_v (call_v (cons_v (w := .ref 1) rfl (cons_v (w := G) rfl nil_ev)) (by rw [hG]; exact b1)) (cons_v (call_v (cons_v (w := .ref 1) rfl (cons_v k_ev nil_ev)) c1) nil_ev)), hρ]
    rfl
  have v1 : ∀ s, mVar 1 ρ3 s = .ok (.str page) s := fun s => by rw [hρ]; rfl
  have v3 : ∀ s, mVar 3 ρ3 s = .ok (.int sp) s := fun s => by rw [hρ]; rfl
  have v4 : ∀ s, mVar 4 ρ3 s = .ok (.str sgn) s := fun s => by rw [hρ]; rfl
  have v5 : ∀ s, mVar 5 ρ3 s = .ok (.int wy) s := fun s => by rw [hρ]; rfl
  have c3t : mTest (mBin ltD (mVar 5) (mK (.int 3))) ρ3 (S0 cs l3 p3) = .ok (decide (wy < 3)) (S0 cs l3 p3) := test_v (bin_v (v5 _) k_ev rfl)
  by_cases h3 : wy < 3
  · rw [decide_eq_true h3] at c3t
    obtain ⟨y1, t1, u1⟩ := slS_v (ρ := ρ3) (s := S0 cs l3 p3) (by decide) h (v1 _) (lo := mNoPart) nopart_ev (part_v (v3 _))
    have hi2 : mBlt intA (mCons (mBin ltD (mVar 5) (mK (.int 2))) mNil) ρ3 (S0 cs l3 p3) = .ok (.int (if decide (wy < 2) = true then 1 else 0)) (S0 cs l3 p3) := blt_v (cons_v (w := .bl (decide (wy < 2))) (bin_v (v5 _) k_ev rfl) nil_ev) int_b
    have hi0 : mBlt intA (mCons (mBin gtD (mVar 5) (mK (.int 0))) mNil) ρ3 (S0 cs l3 p3) = .ok (.int (if decide (0 < wy) = true then 1 else 0)) (S0 cs l3 p3) := blt_v (cons_v (w := .bl (decide (0 < wy))) (bin_v (v5 _) k_ev rfl) nil_ev) int_b
    have t2 := tx_mul (b := decide (wy < 2)) hsx
    have u2 : mBin mulS (mVar 4) (mBlt intA (mCons (mBin ltD (mVar 5) (mK (.int 2))) mNil)) ρ3 (S0 cs l3 p3) = .ok (.str (Txt.mul sgn (if decide (wy < 2) = true then 1 else 0))) (S0 cs l3 p3) := by
      refine bin_v (v4 _) hi2 ?_
      show (if 0 ≤ (if decide (wy < 2) = true then (1 : Int) else 0) ∧ (if decide (wy < 2) = true then (1 : Int) else 0) ≤ 4 ∧ sgn.length ≤ 1000000 then some (Dv.str (Txt.mul sgn (if decide (wy < 2) = true then 1 else 0))) else none) = _
      have := hsx.len
      exact if_pos ⟨by split <;> decide, by split <;> decide, by omega⟩
    obtain ⟨y3, t3, u3⟩ := slS_v (ρ := ρ3) (s := S0 cs l3 p3) (by decide) h (v1 _) (part_v (bin_v (v3 _) hi0 add_ii)) (hi := mNoPart) nopart_ev
    have t12 := tx_app t1 t2
    have t123 := tx_app t12 t3
    refine ⟨_, l3, p3, fin_nx hpar (fin_rtS ((ifS_t c3t).trans (ret_v (bin_v (bin_v u1 u2 (add_ss ?_)) u3 (add_ss ?_)))) fin_St), t123.mono (by decide), c4, by omega⟩
    · have := t1.len
      have := t2.len
      omega
    · have := t12.len
      have := t3.len
      omega
  · rw [decide_eq_false h3] at c3t
    obtain ⟨cut, hcut, hcx, hk, s0, hs0⟩ : ∃ cut : Str, mIf (mTest (mBin ltD (mVar 5) (mK (.int 5)))) (mK (.str " ")) (mK (.str "\n")) ρ3 (S0 cs l3 p3) = .ok (.str cut) (S0 cs l3 p3) ∧ Tx 1 cut ∧ cut.cps.all (· < 256) = true ∧ ∃ c, tl cut = [c] := by
      have ct : mTest (mBin ltD (mVar 5) (mK (.int 5))) ρ3 (S0 cs l3 p3) = .ok (decide (wy < 5)) (S0 cs l3 p3) := test_v (bin_v (v5 _) k_ev rfl)
      by_cases h5 : wy < 5
      · rw [decide_eq_true h5] at ct
        exact ⟨BL, if_vt ct k_ev, ⟨by rw [tlBL]; decide, by rw [BLl]; exact Nat.le_refl _⟩, okBL, _, tlBL⟩
      · rw [decide_eq_false h5] at ct
        exact ⟨NL, if_vf ct k_ev, ⟨by rw [tlNL]; decide, by rw [NLl]; exact Nat.le_refl _⟩, okNL, _, tlNL⟩
    obtain ⟨q1, q2, q3⟩ := split_tx hs0 hk h
    have hcl : (cut.length == 0) = false := by rw [len_tl, hs0]; rfl
    obtain ⟨ps, hps⟩ : ∃ ps, ps = Txt.split page cut := ⟨_, rfl⟩
    rw [← hps] at q1 q2 q3
    have hpl : 0 < ps.length := List.length_pos_iff.mpr q1
    obtain ⟨at', l4, p4, d1, d2, d3, d4, d5⟩ := (draw_ok (tl := []) (l := l3) hc (show (0 : Int) < (ps.length : Int) by omega) (by omega) c4 (by omega)).ok
    obtain ⟨kk, l5, p5, hkk, f1, f2, f3⟩ := law_of_ok (tl := []) (l := l4) (p := p4) (ws := [.int 0, .int 2]) hc d4 (by omega) (by simp) (by simp)
    obtain ⟨ρ8, hρ8⟩ : ∃ ρ8 : Env, ρ8 = [some (.ref 1), some (.str page), some G, some (.int sp), some (.str sgn), some (.int wy), some (.str cut), some (.lst (DS ps)), some (.int at')] := ⟨_, rfl⟩
    have w6 : ∀ s, mVar 6 ρ8 s = .ok (.str cut) s := fun s => by rw [hρ8]; rfl
    have w7 : ∀ s, mVar 7 ρ8 s = .ok (.lst (DS ps)) s := fun s => by rw [hρ8]; rfl
    have w8 : ∀ s, mVar 8 ρ8 s = .ok (.int at') s := fun s => by rw [hρ8]; rfl
    obtain ⟨z1, g1, g2, g3⟩ := slL_v (ρ := ρ8) (s := S0 cs l4 p4) q3 q2 (w7 _) (lo := mNoPart) nopart_ev (part_v (w8 _))
    obtain ⟨z2, g4, g5, g6⟩ := slL_v (ρ := ρ8) (s := S0 cs l4 p4) q3 q2 (w7 _) (part_v (w8 _)) (part_v (bin_v (w8 _) k_ev (add_ii (j := 1))))
    obtain ⟨z3, g7, g8, g9⟩ := slL_v (ρ := ρ8) (s := S0 cs l5 p5) q3 q2 (w7 _) (part_v (bin_v (w8 _) k_ev (add_ii (j := 1)))) (hi := mNoPart) nopart_ev
    obtain ⟨kn, hkn, rfl⟩ : ∃ kn : Nat, kn ≤ 2 ∧ kk = .int (kn : Int) := by
      simp only [List.mem_cons, List.mem_nil_iff, or_false] at hkk
      rcases hkk with rfl | rfl
      · exact ⟨0, by decide, rfl⟩
      · exact ⟨2, by decide, rfl⟩
    have hz2l : z2.length * kn ≤ 302 := Nat.le_trans (Nat.mul_le_mul g5 hkn) (by decide)
    have gm : mBin mulD (mSl slA (mVar 7) (mPart (mVar 8)) (mPart (mBin addD (mVar 8) (mK (.int 1))))) (mCall (g__law_of) (mCons (mVar 0) (mCons (mLst (mCons (mK (.int 0)) (mCons (mK (.int 2)) mNil))) mNil))) ρ8 (S0 cs l4 p4) = .ok (.lst (DS (List.replicate kn z2).flatten)) (S0 cs l5 p5) := by
      refine bin_v g6 (call_v (cons_v (w := .ref 1) (by rw [hρ8]; rfl) (cons_v (lst2 k_ev k_ev) nil_ev)) f1) ?_
      rw [mul_lst (by rw [List.length_map]; omega) (by omega)]
      unfold DS
      rw [List.map_flatten, List.map_replicate]
    have hfl : (List.replicate kn z2).flatten.length ≤ 302 := by
      rw [List.length_flatten, List.map_replicate, List.sum_replicate_nat]
      rw [Nat.mul_comm] at hz2l
      exact hz2l
    have hft : ∀ z ∈ (List.replicate kn z2).flatten, Tx 150 z := fun z hz => by
      obtain ⟨q, hq, hzq⟩ := List.mem_flatten.mp hz
      rw [List.eq_of_mem_replicate hq] at hzq
      exact g4 z hzq
    have hall : ∀ z ∈ (z1 ++ (List.replicate kn z2).flatten) ++ z3, Tx 150 z := fun z hz => by
      rcases List.mem_append.mp hz with hz | hz
      · rcases List.mem_append.mp hz with hz | hz
        · exact g1 z hz
        · exact hft z hz
      · exact g7 z hz
    obtain ⟨tj, bj⟩ := tx_join (m := 604) hcx hall (by rw [List.length_append, List.length_append]; omega)
    have hcat : mBin addD (mBin addD (mSl slA (mVar 7) mNoPart (mPart (mVar 8))) (mBin mulD (mSl slA (mVar 7) (mPart (mVar 8)) (mPart (mBin addD (mVar 8) (mK (.int 1))))) (mCall (g__law_of) (mCons (mVar 0) (mCons (mLst (mCons (mK (.int 0)) (mCons (mK (.int 2)) mNil))) mNil))))) (mSl slA (mVar 7) (mPart (mBin addD (mVar 8) (mK (.int 1)))) mNoPart) ρ8 (S0 cs l4 p4) = .ok (.lst (DS ((z1 ++ (List.replicate kn z2).flatten) ++ z3))) (S0 cs l5 p5) := by
      refine bin_v (bin_v g3 gm (add_lst (by rw [List.length_map, List.length_map]; omega))) g9 ((add_lst (by rw [List.length_append, List.length_map, List.length_map, List.length_map]; omega)).trans ?_)
      unfold DS
      rw [List.map_append, List.map_append]
    have hj : mStr1 jnD (mVar 6) (mBin addD (mBin addD (mSl slA (mVar 7) mNoPart (mPart (mVar 8))) (mBin mulD (mSl slA (mVar 7) (mPart (mVar 8)) (mPart (mBin addD (mVar 8) (mK (.int 1))))) (mCall (g__law_of) (mCons (mVar 0) (mCons (mLst (mCons (mK (.int 0)) (mCons (mK (.int 2)) mNil))) mNil))))) (mSl slA (mVar 7) (mPart (mBin addD (mVar 8) (mK (.int 1)))) mNoPart)) ρ8 (S0 cs l4 p4) = .ok (.str (Txt.join cut ((z1 ++ (List.replicate kn z2).flatten) ++ z3))) (S0 cs l5 p5) :=
      str1_v (w6 _) hcat (join_ok rfl (by omega))
    refine ⟨_, l5, p5, fin_nx hpar (fin_nx ((ifS_f c3t).trans rfl) (fin_nx (ρ1 := [some (.ref 1), some (.str page), some G, some (.int sp), some (.str sgn), some (.int wy), some (.str cut), none, none]) (s1 := S0 cs l3 p3) (asg_gv hcut (by rw [hρ]; rfl)) (fin_nx (ρ1 := [some (.ref 1), some (.str page), some G, some (.int sp), some (.str sgn), some (.int wy), some (.str cut), some (.lst (DS ps)), none]) (s1 := S0 cs l3 p3) (asg_gv (by rw [hps]; exact spl_v (f := mVar 1) (a := page) (g := mVar 6) (b := cut) rfl rfl hcl (by omega)) rfl) (fin_nx (ρ1 := ρ8) (s1 := S0 cs l4 p4) (asg_gv (call_v (cons_v (w := .ref 1) rfl (cons_v (w := .int ps.length) (blt_v (cons_v (w := .lst (DS ps)) rfl nil_ev) (len_lst.trans (by rw [List.length_map]))) nil_ev)) d1) (by rw [hρ8]; rfl)) (fin_v (ret_v hj) fin_St))))), tj.mono (by decide), f2, by omega⟩
end
end MP.K20

set_option Elab.async false
set_option linter.all false
set_option maxRecDepth 100000
set_option maxHeartbeats 400000
namespace MP.K20
open PySem PySem.Spec PyProof.Rows L2 MP TL PySem.NumText
theorem seq_src {f : FE} {ρ : Env} {s s1 : Sto} {ws : List Dv} (h : f ρ s = .ok (.lst ws) s1) : iSeq f ρ s = .ok { ws := ws } s1 := by unfold iSeq; rw [h]; rfl
theorem seq_srcT {f : FE} {ρ : Env} {s s1 : Sto} {ws : List Dv} (h : f ρ s = .ok (.tup ws) s1) : iSeq f ρ s = .ok { ws := ws } s1 := by unfold iSeq; rw [h]; rfl
theorem none_left {f : FI} {ws : List Dv} {vs : List Nat} {g : FG} {tt : FT} {elt : FE} {ρ : Env} {s s1 : Sto} (hf : f ρ s = .ok { ws := ws } s1) (h : ∀ w ∈ ws, ∃ ρ1, g w (wipeD ρ vs) s1 = some ρ1 ∧ tt ρ1 s1 = .ok false s1) : mComp f vs g tt elt ρ s = .ok (.lst []) s1 := by
  have key : ∀ {ws : List Dv}, (∀ w ∈ ws, ∃ ρ1, g w (wipeD ρ vs) s1 = some ρ1 ∧ tt ρ1 s1 = .ok false s1) → compL none vs g tt elt ρ ws s1 = some ([], s1) := fun {ws} => by
    induction ws with
    | nil => intro _; simp [compL]
    | cons a l ih =>
      intro h
      obtain ⟨ρ1, h1, h2⟩ := h a List.mem_cons_self
      unfold compL
      rw [if_pos (.inl rfl), h1]
      simp only [h2]
      exact ih fun b hb => h b (List.mem_cons_of_mem _ hb)
  unfold mComp
  rw [hf, bind_ok]
  dsimp only
  rw [key h]
  dsimp only
  exact if_pos (Nat.zero_le _)

section
variable {s : Sto} {ns : List Int} {k : Nat} {o i : Int} {ts : List Term}
theorem low_W : ∀ c ∈ tl (Wi i), c < 128 := fun c hc => by
  rw [tl_W] at hc
  rcases dg_mem hc with h | h <;> omega
theorem low_join {a : Str} {ws : List Str} (ha : ∀ c ∈ tl a, c < 128) (h : ∀ w ∈ ws, ∀ c ∈ tl w, c < 128) : ∀ c ∈ tl (Txt.join a ws), c < 128 := fun c hc => by
  by_cases hlt : c < 128
  · exact hlt
  · rw [join_eq, tl_join] at hc
    exact absurd hc (joinL_free (fun m => hlt (ha c m)) fun p hp m => by
      obtain ⟨w, hw, rfl⟩ := List.mem_map.mp hp
      exact hlt (h w hw c m))
theorem low_BL : ∀ c ∈ tl BL, c < 128 := by rw [tlBL]; decide
theorem low_NL : ∀ c ∈ tl NL, c < 128 := by rw [tlNL]; decide
theorem low_words : ∀ c ∈ tl (wordsP ns), c < 128 := low_join low_BL fun w hw => by
  obtain ⟨j, _, rfl⟩ := List.mem_map.mp hw
  exact low_W
theorem low_app {a b : Str} (h : ∀ c ∈ tl a, c < 128) (h2 : ∀ c ∈ tl b, c < 128) : ∀ c ∈ tl (a ++ b), c < 128 := fun c hc => by
  rw [tl_append] at hc
  exact (List.mem_append.mp hc).elim (h c) (h2 c)
theorem low_bill : ∀ c ∈ tl (billP o ts), c < 128 := low_join low_NL fun w hw => by
  unfold rowsB at hw
  rcases List.mem_cons.mp hw with rfl | hw
  · exact low_app (by decide +kernel) low_W
  · obtain ⟨t, _, rfl⟩ := List.mem_map.mp hw
    exact low_app (by decide +kernel) low_words
theorem low_row : ∀ c ∈ tl (rowP ns), c < 128 := by
  unfold rowP
  split
  · decide +kernel
  · exact low_words
theorem bill_len2 (h : Bill o ts) : (billP o ts).length ≤ 1000 := by
  have h1 : (billP o ts).length ≤ ((rowsB o ts).map (·.length)).sum + (rowsB o ts).length * NL.length := join_len
  have h2 := rowsB_sum (own_few h) h.ok
  have h3 := h.two
  have h4 : (rowsB o ts).length = ts.length + 1 := by unfold rowsB; rw [List.length_cons, List.length_map]
  rw [NLl, h4] at h1
  omega

theorem tx_bill (h : Bill o ts) : Tx 150 (billP o ts) := ⟨low_bill, by
  have h1 : (billP o ts).length ≤ ((rowsB o ts).map (·.length)).sum + (rowsB o ts).length * NL.length := join_len
  have h2 := rowsB_sum (own_few h) h.ok
  have h3 := h.two
  have h4 : (rowsB o ts).length = ts.length + 1 := by unfold rowsB; rw [List.length_cons, List.length_map]
  rw [NLl, h4] at h1
  omega⟩
theorem tx_row (h : Few 3 ns) (hl : ns.length ≤ 8) : Tx 150 (rowP ns) := ⟨low_row, by
  unfold rowP
  split
  · decide +kernel
  · have := words_len h hl
    omega⟩
end
def txB (x : Str) : Bool := (tl x).all (fun c => decide (c < 128)) && decide (x.length ≤ 99999)
theorem tx_of {x : Str} (h : txB x = true) : Tx 99999 x := by
  unfold txB at h
  simp only [Bool.and_eq_true, List.all_eq_true, decide_eq_true_eq] at h
  exact ⟨h.1, h.2⟩
def P1 : List Str := ["", " ", "\n", "own", "own 5", "own -5", "own -0", "own 05", "own 51", "own 1000", "own 5 ", "own  5", "Own 5"]
def P2 : List Str := ["own 0\nterm 0 0 1", "own 0\nterm 0 0", "own 0\nterm 0 0 1 1 1 1 1 1", "own 0\nterm 0 0 1 1 1 1 1 1 1"]
def P3 : List Str := [(1 : Int), 2].map fun k => ("own 0\nterm 0 0 1" : Str) ++ Txt.mul ("\nterm 0 0 1" : Str) k
def P4 : List Str := ["own 0\nterm 0 51 1", "own 0\nterm 0 0 21"]
def P5 : List Str := ["own 0\nown 0", "term 0 0 1", "own 0\n", "own 999\nterm 0 0 999", "none", "none ", "0", "00", "-1", "7 8"]
def P6 : List Str := [Txt.join BL (List.replicate 200 ("1" : Str)), Txt.join BL (List.replicate 201 ("1" : Str)), "1000000", "1000001", "9999999", "10000000", "1\n2", "1 -", "+1"]
def PS : List Str := ((((P1 ++ P2) ++ P3) ++ P4) ++ P5) ++ P6
theorem one_tx : Tx 1 ("1" : Str) := ⟨by decide +kernel, by decide +kernel⟩
theorem BL_tx : Tx 1 BL := ⟨by rw [tlBL]; decide, by rw [BLl]; exact Nat.le_refl _⟩
theorem ones_tx {n : Nat} (hn : n ≤ 201) : Tx 99999 (Txt.join BL (List.replicate n ("1" : Str))) ∧ ((List.replicate n ("1" : Str)).map (·.length)).sum + (List.replicate n ("1" : Str)).length * BL.length ≤ 1000000 := by
  obtain ⟨h1, h2⟩ := tx_join (m := 201) (n := 1) BL_tx (ys := List.replicate n ("1" : Str)) (fun y hy => by rw [List.eq_of_mem_replicate hy]; exact one_tx) (by rw [List.length_replicate]; exact hn)
  exact ⟨h1.mono (by decide), by omega⟩
theorem PS_tx : ∀ x ∈ PS, Tx 99999 x := fun x hx => by
  unfold PS at hx
  simp only [List.mem_append] at hx
  rcases hx with ((((hx | hx) | hx) | hx) | hx) | hx
  · exact tx_of (List.all_eq_true.mp (show P1.all txB = true by decide +kernel) x hx)
  · exact tx_of (List.all_eq_true.mp (show P2.all txB = true by decide +kernel) x hx)
  · exact tx_of (List.all_eq_true.mp (show P3.all txB = true by decide +kernel) x hx)
  · exact tx_of (List.all_eq_true.mp (show P4.all txB = true by decide +kernel) x hx)
  · exact tx_of (List.all_eq_true.mp (show P5.all txB = true by decide +kernel) x hx)
  · unfold P6 at hx
    rcases List.mem_cons.mp hx with rfl | hx
    · exact (ones_tx (by decide)).1
    rcases List.mem_cons.mp hx with rfl | hx
    · exact (ones_tx (by decide)).1
    exact tx_of (List.all_eq_true.mp (show (["1000000", "1000001", "9999999", "10000000", "1\n2", "1 -", "+1"] : List Str).all txB = true by decide +kernel) x hx)
def ODD : List Dv := [.non, .int 5, .tup [], .lst [.str "own 5"], .bl true, .dct [] []]
theorem odd_no {s : Sto} {w : Dv} (h : w ∈ ODD) : isiA s [w, .ty "str"] = some (.bl false) := by
  unfold ODD at h
  simp only [List.mem_cons, List.mem_nil_iff, or_false] at h
  rcases h with rfl | rfl | rfl | rfl | rfl | rfl <;> rfl
def SG : List Str := ["0", "-", " ", "\n", "9", "a", "own 1", "term"]
theorem SG_tx : ∀ y ∈ SG, Tx 10 y := fun y hy => by
  have := List.all_eq_true.mp (show SG.all (fun x => (tl x).all (fun c => decide (c < 128)) && decide (x.length ≤ 10)) = true by decide +kernel) y hy
  simp only [Bool.and_eq_true, List.all_eq_true, decide_eq_true_eq] at this
  exact ⟨this.1, this.2⟩
section
variable {cs : List Int} {l p : Int} {ρ : Env} {s : Sto}
theorem any_judged {w : Dv} (h : (∃ x, w = .str x ∧ Tx 99999 x) ∨ isiA (S0 cs l p) [w, .ty "str"] = some (.bl false)) : g__law_judged [w] (S0 cs l p) = .ok (.bl true) (S0 cs l p) := by
  rcases h with ⟨x, rfl, hx⟩ | h
  · exact judged_ok (jd_text hx St_clean)
  · exact judged_ok (jd_odd h St_clean)
theorem cat_v {f g : FE} {xs ys : List Str} (h : f ρ s = .ok (.lst (DS xs)) s) (h2 : g ρ s = .ok (.lst (DS ys)) s) (hl : xs.length + ys.length ≤ 1000000) : mBin addD f g ρ s = .ok (.lst (DS (xs ++ ys))) s := by
  refine bin_v h h2 ((add_lst (by rw [List.length_map, List.length_map]; exact hl)).trans ?_)
  unfold DS
  rw [List.map_append]
theorem ones_ev {n : Nat} (hn : n ≤ 201) : mStr1 jnD (mK (.str " ")) (mBin mulD (mLst (mCons (mK (.str "1")) mNil)) (mK (.int (n : Int)))) ρ s = .ok (.str (Txt.join BL (List.replicate n ("1" : Str)))) s := by
  refine str1_v k_ev (bin_v (lst_v (cons_v k_ev nil_ev) (by simp)) k_ev (mul_lst (ws := [.str "1"]) (k := n) (by simp; omega) (by omega))) (join_ok (ys := List.replicate n ("1" : Str)) ?_ (ones_tx hn).2)
  show some (List.replicate n [Dv.str "1"]).flatten = some ((List.replicate n ("1" : Str)).map .str)
  rw [List.map_replicate]
  congr 1
  induction n with
  | zero => rfl
  | succ n ih => rw [List.replicate_succ, List.flatten_cons, ih (by omega), List.replicate_succ]; rfl
end
end MP.K20

set_option Elab.async false
set_option linter.all false
set_option maxRecDepth 100000
set_option maxHeartbeats 400000
namespace MP.K20
open PySem PySem.Spec PyProof.Rows L2 MP TL PySem.NumText
section
variable {cs : List Int} {l p : Int} {SC : Dv} {y3 y4 y5 y6 : Option Dv}
theorem sg_ev {ρ : Env} {s : Sto} : mLst (mCons (mK (.str "0")) (mCons (mK (.str "-")) (mCons (mK (.str " ")) (mCons (mK (.str "
")) (mCons (mK (.str "9")) (mCons (mK (.str "a")) (mCons (mK (.str "own 1")) (mCons (mK (.str "term")) mNil)))))))) ρ s = .ok (.lst (DS SG)) s :=
  lst_v (cons_v k_ev (cons_v k_ev (cons_v k_ev (cons_v k_ev (cons_v k_ev (cons_v k_ev (cons_v k_ev (cons_v k_ev nil_ev)))))))) (by first | (simp; done) | exact Nat.le_of_ble_eq_true rfl)
/-- one page, bent eight times -/
theorem page_ok (hc : cs ≠ []) (hp : 0 ≤ p) (hp2 : p < 800000) {Sm' : Dv} {page : Str} (h : Tx 150 page) : ∃ l' p' z5, b_law_2 [some SC, some (.ref 1), some Sm', y3, some (.str page), y5, y6] (S0 cs l p) = .nx [some SC, some (.ref 1), some Sm', y3, some (.str page), z5, y6] (S0 cs l' p') ∧ 0 ≤ p' ∧ p' ≤ p + 40 := by
  obtain ⟨zs, s3, c1, c2, l3, p3, ys, rfl, q1, q2, q3, q4, q5⟩ := comp_ix (vs := [6]) (f := cF_law_3) (g := ct_law_3) (elt := ce_law_3) (ρ := [some SC, some (.ref 1), some Sm', y3, some (.str page), y5, y6]) (s := S0 cs l p) (fun i acc s => ∃ (l3 p3 : Int) (ys : List Str), s = S0 cs l3 p3 ∧ acc = DS ys ∧ ys.length = i ∧ (∀ y ∈ ys, Tx 99999 y) ∧ 0 ≤ p3 ∧ p3 ≤ p + 5 * (i : Int))
    (range1_ok (cons_v k_ev nil_ev) (okR_s (by decide) (by decide))) (by rw [rng_len]; unfold lim; decide) ⟨l, p, [], rfl, rfl, rfl, (fun _ h => nomatch h), hp, by omega⟩ fun k x acc s hx hJ => by
      obtain ⟨l3, p3, ys, rfl, rfl, q2, q3, q4, q5⟩ := hJ
      obtain ⟨hk, rfl⟩ := rng_get hx
      have hk8 : k < 8 := hk
      obtain ⟨y, l4, p4, r1, r2, r3, r4⟩ := bent_ok (l := l3) hc q4 (by omega) (signs := SG) (by decide +kernel) (by decide +kernel) SG_tx h
      refine ⟨[some SC, some (.ref 1), some Sm', y3, some (.str page), y5, some (.int (0 + (k : Int)))], .str y, S0 cs l4 p4, rfl, ?_, l4, p4, ys ++ [y], rfl, by unfold DS; rw [List.map_append]; rfl, by rw [List.length_append, q2]; rfl, fun v hv => ?_, r3, by omega⟩
      · unfold ce_law_3
        exact call_v (cons_v (w := .ref 1) rfl (cons_v (w := .str page) rfl (cons_v sg_ev nil_ev))) r1
      · rcases List.mem_append.mp hv with h | h
        · exact q3 v h
        · rw [List.mem_singleton.mp h]; exact r2
  rw [rng_len] at q2 q5
  have q2 : ys.length = 8 := q2
  have q5 : p3 ≤ p + 5 * (((8 : Nat) : Int)) := q5
  rw [q1] at c1
  have c1' : mComp cF_law_3 [6] ct_law_3 ci_law_3 ce_law_3 [some SC, some (.ref 1), some Sm', y3, some (.str page), y5, y6] (S0 cs l p) = .ok (.lst (DS ys)) (S0 cs l3 p3) := c1
  have hF1 : F_law_1 [some SC, some (.ref 1), some Sm', y3, some (.str page), y5, y6] (S0 cs l p) = .ok { ws := DS (page :: ys) } (S0 cs l3 p3) := by
    refine seq_src (bin_v (lst_v (cons_v (w := .str page) rfl nil_ev) (by first | (simp; done) | exact Nat.le_of_ble_eq_true rfl)) c1' ?_)
    rw [add_lst (by rw [List.length_map]; simp; omega)]
    rfl
  obtain ⟨ρ2, s4, f2, rfl, z5, rfl⟩ := for_ix (g := t_law_1) (body := b_law_1) (ρ := [some SC, some (.ref 1), some Sm', y3, some (.str page), y5, y6]) (s := S0 cs l p)
    (fun k ρ s' => s' = S0 cs l3 p3 ∧ ∃ z, ρ = [some SC, some (.ref 1), some Sm', y3, some (.str page), z, y6]) hF1 ⟨rfl, _, rfl⟩ fun k x ρ s' hx hJ => by
      obtain ⟨rfl, z, rfl⟩ := hJ
      refine ⟨[some SC, some (.ref 1), some Sm', y3, some (.str page), some x, y6], [some SC, some (.ref 1), some Sm', y3, some (.str page), some x, y6], S0 cs l3 p3, rfl, .inl ?_, rfl, _, rfl⟩
      unfold b_law_1
      refine (not_tt (call_v (cons_v (w := x) rfl nil_ev) (any_judged (.inl ?_)))).trans rfl
      obtain ⟨y, hy, rfl⟩ := List.mem_map.mp (List.mem_of_getElem? hx)
      refine ⟨y, rfl, ?_⟩
      rcases List.mem_cons.mp hy with rfl | hy
      · exact h.mono (by decide)
      · exact q3 y hy
  exact ⟨l3, p3, z5, f2, q4, by omega⟩
/-- one lap -/
theorem lap_ok (hc : cs ≠ []) (hp : 0 ≤ p) (hp2 : p < 700000) {Sm' : Dv} : ∃ l' p' z4 z5, b_law_3 [some SC, some (.ref 1), some Sm', y3, y4, y5, y6] (S0 cs l p) = .nx [some SC, some (.ref 1), some Sm', y3, z4, z5, y6] (S0 cs l' p') ∧ 0 ≤ p' ∧ p' ≤ p + 200 := by
  obtain ⟨o, ts, l2, p2, b1, b2, b3, b4⟩ := drawn_bill_ok (cs := cs) (l := l) (p := p) (most := 6) hc hp (by omega) (by decide) (by decide)
  obtain ⟨ms, l4, p4, r1, r2, r3, r4, r5, r6⟩ := drawn_row_ok (tl := []) (l := l2) (p := p2) (least := 0) (more := 8) (high := 900) hc b3 (by omega) (by decide) (by decide) (by decide) (by decide) (by decide)
  have hrow : Row ms := ⟨by omega, fun i hi => ⟨(r4 i hi).1, by have := (r4 i hi).2; omega⟩⟩
  have hB := tx_bill b2
  have hR := tx_row (ns := ms) (fun i hi => by have := r4 i hi; omega) (by omega)
  have hF : F_law_2 [some SC, some (.ref 1), some Sm', y3, y4, y5, y6] (S0 cs l p) = .ok { ws := [.str (billP o ts), .str (rowP ms)] } (S0 cs l4 p4) := by
    refine seq_srcT (tup_v (cons_v (call_v (cons_v (call_v (cons_v (w := .ref 1) rfl (cons_v k_ev nil_ev)) b1) nil_ev) (bill_text_ok b2 St_clean)) (cons_v (call_v (cons_v (call_v (cons_v (w := .ref 1) rfl (cons_v k_ev (cons_v k_ev (cons_v k_ev nil_ev)))) r1) nil_ev) (row_text_ok hrow)) nil_ev)) (by first | (simp; done) | exact Nat.le_of_ble_eq_true rfl))
  obtain ⟨ρ2, s5, f2, l5, p5, z4, z5, rfl, g0, g1, rfl⟩ := for_ix (g := t_law_2) (body := b_law_2) (ρ := [some SC, some (.ref 1), some Sm', y3, y4, y5, y6]) (s := S0 cs l p)
    (fun k ρ s' => ∃ l5 p5 z4 z5, s' = S0 cs l5 p5 ∧ 0 ≤ p5 ∧ p5 ≤ p4 + 40 * (k : Int) ∧ ρ = [some SC, some (.ref 1), some Sm', y3, z4, z5, y6]) hF ⟨l4, p4, _, _, rfl, r5, by omega, rfl⟩ fun k x ρ s' hx hJ => by
      obtain ⟨l5, p5, z4, z5, rfl, g0, g1, rfl⟩ := hJ
      have hk : k < 2 := (List.getElem?_eq_some_iff.mp hx).1
      obtain ⟨pg, rfl, hpg⟩ : ∃ pg, x = .str pg ∧ Tx 150 pg := by
        have := List.mem_of_getElem? hx
        simp only [List.mem_cons, List.mem_nil_iff, or_false] at this
        rcases this with rfl | rfl
        · exact ⟨_, rfl, hB⟩
        · exact ⟨_, rfl, hR⟩
      obtain ⟨l6, p6, w5, h1, h2, h3⟩ := page_ok (l := l5) (SC := SC) (y3 := y3) (y5 := z5) (y6 := y6) (Sm' := Sm') hc g0 (by omega) hpg
      exact ⟨[some SC, some (.ref 1), some Sm', y3, some (.str pg), z5, y6], _, _, rfl, .inl h1, l6, p6, _, _, rfl, h2, by omega, rfl⟩
  have g1 : p5 ≤ p4 + 40 * (((2 : Nat) : Int)) := g1
  exact ⟨l5, p5, z4, z5, f2, g0, by omega⟩
theorem fact (ns : List Int) (hn : ns.length ≤ 63) : ∃ s', g_law [.sq (ns.map .int)] [.tab 0 lq__law_judged] = .ok (.bl true) s' := by
  obtain ⟨l, hb⟩ := begun_ok hn
  have hc : ns ++ [(ns.length : Int)] ≠ [] := by intro z; exact absurd (congrArg List.length z) (by first | (simp; done) | exact Nat.le_of_ble_eq_true rfl)
  obtain ⟨cs, ecs⟩ : ∃ cs, cs = ns ++ [(ns.length : Int)] := ⟨_, rfl⟩
  rw [← ecs] at hb hc
  obtain ⟨SC, hSC⟩ : ∃ SC, SC = Dv.sq (ns.map .int) := ⟨_, rfl⟩
  have e0 : startD 7 [.sq (ns.map .int)] = [some SC, none, none, none, none, none, none] := by rw [hSC]; rfl
  have e1 : mAsg (mCall (g__law_begun) (mCons (mVar 0) mNil)) (gN 1) [some SC, none, none, none, none, none, none] T0 = .nx [some SC, some (.ref 1), none, none, none, none, none] (S0 cs l 0) :=
    (asg_v (call_v (cons_v (w := SC) rfl nil_ev) (by rw [hSC]; exact hb))).trans rfl
  refine ⟨T0, ?_⟩
  unfold g_law d_law
  rw [den_ev, e0]
  refine fin_nx e1 ?_
  obtain ⟨A1, hA1⟩ : ∃ A, A = P1 := ⟨_, rfl⟩
  have hl1 : A1.length = 13 := by rw [hA1]; rfl
  refine fin_nx (ρ1 := [some SC, some (.ref 1), some (.lst (DS A1)), none, none, none, none]) (s1 := S0 cs l 0) (asg_gv (lst_v (cons_v k_ev (cons_v k_ev (cons_v k_ev (cons_v k_ev (cons_v k_ev (cons_v k_ev (cons_v k_ev (cons_v k_ev (cons_v k_ev (cons_v k_ev (cons_v k_ev (cons_v k_ev (cons_v k_ev nil_ev))))))))))))) (by first | (simp; done) | exact Nat.le_of_ble_eq_true rfl)) (by rw [hA1]; rfl)) ?_
  obtain ⟨A2, hA2⟩ : ∃ A, A = A1 ++ P2 := ⟨_, rfl⟩
  have hl2 : A2.length = 17 := by rw [hA2, List.length_append, hl1]; rfl
  refine fin_nx (ρ1 := [some SC, some (.ref 1), some (.lst (DS A2)), none, none, none, none]) (s1 := S0 cs l 0) (asg_gv (cat_v (xs := A1) (ys := P2) rfl (lst_v (cons_v k_ev (cons_v k_ev (cons_v k_ev (cons_v k_ev nil_ev)))) (by first | (simp; done) | exact Nat.le_of_ble_eq_true rfl)) (by rw [hl1]; decide)) (by rw [hA2]; rfl)) ?_
  obtain ⟨A3, hA3⟩ : ∃ A, A = (A2 ++ P3) ++ P4 := ⟨_, rfl⟩
  have hl3 : A3.length = 21 := by rw [hA3, List.length_append, List.length_append, hl2]; rfl
  have c1 : mComp cF_law_1 [6] ct_law_1 ci_law_1 ce_law_1 [some SC, some (.ref 1), some (.lst (DS A2)), none, none, none, none] (S0 cs l 0) = .ok (.lst (DS P3)) (S0 cs l 0) := by
    unfold P3 DS
    rw [List.map_map]
    refine comp_mapA (e := .int) _ (seq_srcT (tup_v (cons_v k_ev (cons_v k_ev nil_ev)) (by first | (simp; done) | exact Nat.le_of_ble_eq_true rfl))) (by unfold lim; decide) fun k hk => ⟨[some SC, some (.ref 1), some (.lst (A2.map .str)), none, none, none, some (.int k)], rfl, ?_⟩
    unfold ce_law_1
    have hk2 : 0 ≤ k ∧ k ≤ 4 := by
      simp only [List.mem_cons, List.mem_nil_iff, or_false] at hk
      omega
    refine bin_v k_ev (bin_v k_ev (y := .int k) rfl (if_pos ⟨hk2.1, hk2.2, by decide +kernel⟩)) (add_ss ?_)
    simp only [List.mem_cons, List.mem_nil_iff, or_false] at hk
    rcases hk with rfl | rfl <;> decide +kernel
  refine fin_nx (ρ1 := [some SC, some (.ref 1), some (.lst (DS A3)), none, none, none, none]) (s1 := S0 cs l 0) (asg_gv (cat_v (xs := A2 ++ P3) (ys := P4) (cat_v (xs := A2) (ys := P3) rfl c1 (by rw [hl2]; decide)) (lst_v (cons_v k_ev (cons_v k_ev nil_ev)) (by first | (simp; done) | exact Nat.le_of_ble_eq_true rfl)) (by rw [List.length_append, hl2]; decide)) (by rw [hA3]; rfl)) ?_
  obtain ⟨A5, hA5⟩ : ∃ A, A = A3 ++ P5 := ⟨_, rfl⟩
  have hl5 : A5.length = 31 := by rw [hA5, List.length_append, hl3]; rfl
  refine fin_nx (ρ1 := [some SC, some (.ref 1), some (.lst (DS A5)), none, none, none, none]) (s1 := S0 cs l 0) (asg_gv (cat_v (xs := A3) (ys := P5) rfl (lst_v (cons_v k_ev (cons_v k_ev (cons_v k_ev (cons_v k_ev (cons_v k_ev (cons_v k_ev (cons_v k_ev (cons_v k_ev (cons_v k_ev (cons_v k_ev nil_ev)))))))))) (by first | (simp; done) | exact Nat.le_of_ble_eq_true rfl)) (by rw [hl3]; decide)) (by rw [hA5]; rfl)) ?_
  obtain ⟨A6, hA6⟩ : ∃ A, A = A5 ++ P6 := ⟨_, rfl⟩
  have hl6 : A6.length = 40 := by rw [hA6, List.length_append, hl5]; rfl
  have hAll : ∀ x ∈ A6, Tx 99999 x := by
    rw [hA6, hA5, hA3, hA2, hA1]
    exact PS_tx
  refine fin_nx (ρ1 := [some SC, some (.ref 1), some (.lst (DS A6)), none, none, none, none]) (s1 := S0 cs l 0) (asg_gv (cat_v (xs := A5) (ys := P6) rfl (lst_v (cons_v (ones_ev (n := 200) (by decide)) (cons_v (ones_ev (n := 201) (by decide)) (cons_v k_ev (cons_v k_ev (cons_v k_ev (cons_v k_ev (cons_v k_ev (cons_v k_ev (cons_v k_ev nil_ev))))))))) (by first | (simp; done) | exact Nat.le_of_ble_eq_true rfl)) (by rw [hl5]; decide)) (by rw [hA6]; rfl)) ?_
  have c2 : mComp cF_law_2 [4] ct_law_2 ci_law_2 ce_law_2 [some SC, some (.ref 1), some (.lst (DS A6)), none, none, none, none] (S0 cs l 0) = .ok (.lst []) (S0 cs l 0) := by
    refine none_left (ws := DS A6 ++ ODD) (seq_src (bin_v (x := .lst (DS A6)) rfl (lst_v (cons_v k_ev (cons_v k_ev (cons_v (tup_v (ws := []) nil_ev (by decide)) (cons_v (lst_v (cons_v k_ev nil_ev) (by first | (simp; done) | exact Nat.le_of_ble_eq_true rfl)) (cons_v k_ev (cons_v k_ev nil_ev)))))) (by first | (simp; done) | exact Nat.le_of_ble_eq_true rfl)) (add_lst (by rw [List.length_map, hl6]; decide)))) fun w hw => ⟨[some SC, some (.ref 1), some (.lst (DS A6)), none, some w, none, none], rfl, ?_⟩
    unfold ci_law_2
    refine not_v (test_v (call_v (cons_v (w := w) rfl nil_ev) (any_judged ?_)))
    rcases List.mem_append.mp hw with h | h
    · obtain ⟨x, hx, rfl⟩ := List.mem_map.mp h
      exact .inl ⟨x, rfl, hAll x hx⟩
    · exact .inr (odd_no h)
  have ct : mTest (mBin neD (mComp cF_law_2 [4] ct_law_2 ci_law_2 ce_law_2) (mLst mNil)) [some SC, some (.ref 1), some (.lst (DS A6)), none, none, none, none] (S0 cs l 0) = .ok false (S0 cs l 0) := test_v (bin_v c2 (lst_v (ws := []) nil_ev (by decide)) (ne_of_eq (eq_l_nil (pl_lst (pls_nil (k := 0))) (by decide))))
  refine fin_nx (ρ1 := [some SC, some (.ref 1), some (.lst (DS A6)), none, none, none, none]) (s1 := S0 cs l 0) ((ifS_f ct).trans rfl) ?_
  obtain ⟨j, hj, j0, j1⟩ : ∃ j : Int, min2D (S0 cs l 0) [.int (ns.length : Int), .int 8] = some (.int j) ∧ 0 ≤ j ∧ j ≤ 8 := by
    refine ⟨if (8 : Int) < ns.length then 8 else ns.length, rfl, ?_, ?_⟩ <;> split <;> omega
  have hF : F_law_3 [some SC, some (.ref 1), some (.lst (DS A6)), none, none, none, none] (S0 cs l 0) = .ok { ws := rng 0 (4 + j).toNat } (S0 cs l 0) :=
    range1_ok (cons_v (bin_v k_ev (blt_v (cons_v (blt_v (cons_v (w := SC) rfl nil_ev) (by rw [hSC]; exact len_sq.trans (by rw [List.length_map]))) (cons_v k_ev nil_ev)) hj) add_ii) nil_ev) (okR_s (by omega) (by omega))
  obtain ⟨ρ', s', f1, l', p', y3, y4, y5, rfl, g0, g1, rfl⟩ := for_ix (g := t_law_3) (body := b_law_3)
    (fun i ρ s' => ∃ l p y3 y4 y5, s' = S0 cs l p ∧ 0 ≤ p ∧ p ≤ 200 * (i : Int) ∧ ρ = [some SC, some (.ref 1), some (.lst (DS A6)), y3, y4, y5, none]) hF ⟨l, 0, _, _, _, rfl, by omega, by omega, rfl⟩ fun i x ρ s' hx hJ => by
      obtain ⟨l', p', y3, y4, y5, rfl, g0, g1, rfl⟩ := hJ
      obtain ⟨hi, rfl⟩ := rng_get hx
      obtain ⟨l6, p6, w4, w5, h1, h2, h3⟩ := lap_ok (l := l') (SC := SC) (y3 := some (.int (0 + (i : Int)))) (y4 := y4) (y5 := y5) (y6 := none) (Sm' := .lst (DS A6)) hc g0 (by omega)
      exact ⟨[some SC, some (.ref 1), some (.lst (DS A6)), some (.int (0 + (i : Int))), y4, y5, none], _, _, rfl, .inl h1, l6, p6, _, _, _, rfl, h2, by omega, rfl⟩
  refine fin_nx f1 (fin_v (ret_v k_ev) ?_)
  show finW 1 (.bl true) (S0 cs l' p') = _
  unfold finW
  rw [if_neg (by show ¬ (2 ≤ 1); decide)]
  have e1 : (S0 cs l' p').take 1 = T0 := rfl
  rw [e1, if_pos (show T0.all (Ob.clean 1) = true from rfl)]
  rfl
end
end MP.K20

set_option Elab.async false
set_option linter.all false
set_option maxRecDepth 100000
open PySem PySem.W PyProof.Rows
set_option maxHeartbeats 0 in
theorem PySem.Challenge.cw_bestoflast_k20_texts_refused_holds : PySem.Challenge.rw_bestoflast_k20_texts_refused.Holds := by
  w_on; o_law; k_head; (case hw => w_witness2)
  k_fill
  refine MP.walk_GTs (l := PySem.Challenge.rw_bestoflast_k20_texts_refused) (n := 63) (k := 11) (x := "script") (ys := ["_law_judged"]) (qs := [MP.K20.lq__law_judged]) rfl (by decide) rfl ⟨rfl, by decide, by decide⟩ (fun w h Y => PySem.W.km_in_of Y) ?Y ?F
  case Y =>
    intro y hy
    simp only [List.mem_cons, List.mem_nil_iff, or_false] at hy
    subst hy; exact ⟨_, rfl⟩
  case F =>
    intro w mg fa h KX G hmg
    refine' MP.K20.all_mk KX G hmg ?a0 ?l0 ?c0 ?k0 ?a1 ?l1 ?c1 ?k1 ?a2 ?l2 ?c2 ?k2 ?a3 ?l3 ?c3 ?k3 ?a4 ?l4 ?c4 ?k4 ?a5 ?l5 ?c5 ?k5 ?a6 ?l6 ?c6 ?k6 ?a7 ?l7 ?c7 ?k7 ?a8 ?l8 ?c8 ?k8 ?a9 ?l9 ?c9 ?k9 ?a10 ?l10 ?c10 ?k10 ?a11 ?l11 ?c11 ?k11 ?a12 ?l12 ?c12 ?k12 ?a13 ?l13 ?c13 ?k13 ?a14 ?l14 ?c14 ?k14 ?a15 ?l15 ?c15 ?k15 ?a16 ?l16 ?c16 ?k16 ?a17 ?l17 ?c17 ?k17 ?a18 ?l18 ?c18 ?k18 ?a19 ?l19 ?c19 ?k19 ?a20 ?l20 ?c20 ?k20 ?a21 ?l21 ?c21 ?k21 ?a22 ?l22 ?c22 ?k22 ?a23 ?l23 ?c23 ?k23 ?a24 ?l24 ?c24 ?k24 ?a25 ?l25 ?c25 ?k25 ?a26 ?l26 ?c26 ?k26 ?a27 ?l27 ?c27 ?k27 ?a28 ?l28 ?c28 ?k28 ?a29 ?l29 ?c29 ?k29 ?a30 ?l30 ?c30 ?k30 ?a31 ?l31 ?c31 ?k31 ?a32 ?l32 ?c32 ?k32 ?a33 ?l33 ?c33 ?k33 ?z0 ?z1 ?z2 ?z3 ?z4 ?z5 ?z6 ?z7 ?z8 ?z9 ?z10 ?v0 ?v1 ?v2 ?v3 ?v4 ?v5 ?v6 ?v7 ?v8 ?v9 ?xt0 ?xp0 ?xn0 ?ka0 ?ka1 ?ka2 ?ka3 ?ka4 ?ka5 ?ka6 ?ka7 ?ka8 ?kg0 ?kk0 ?ks0 ?kd0 ?kc0 ?km0 ?ki0 ?ky0 ?kv0 ?kw0 ?kf0_line ?kf0_number ?kf0_part ?kf0_value ?s0_0 ?s0_1 ?s0_2 ?s0_3 ?s0_4 ?s0_5 ?s0_6 ?s0_7 ?s0_8 ?kg1 ?kk1 ?ks1 ?kd1 ?kc1 ?km1 ?ki1 ?ky1 ?kv1 ?kw1 ?kf1_line ?kf1_number ?kf1_part ?kf1_value ?s1_0 ?s1_1 ?s1_2 ?s1_3 ?s1_4 ?s1_5 ?s1_6 ?s1_7 ?s1_8 ?kg2 ?kk2 ?ks2 ?kd2 ?kc2 ?km2 ?ki2 ?ky2 ?kv2 ?kw2 ?kf2_line ?kf2_number ?kf2_part ?kf2_value ?s2_0 ?s2_1 ?s2_2 ?s2_3 ?s2_4 ?s2_5 ?s2_6 ?s2_7 ?s2_8 ?kg3 ?kk3 ?ks3 ?kd3 ?kc3 ?km3 ?ki3 ?ky3 ?kv3 ?kw3 ?kf3_line ?kf3_number ?kf3_part ?kf3_value ?s3_0 ?s3_1 ?s3_2 ?s3_3 ?s3_4 ?s3_5 ?s3_6 ?s3_7 ?s3_8 ?kg4 ?kk4 ?ks4 ?kd4 ?kc4 ?km4 ?ki4 ?ky4 ?kv4 ?kw4 ?kf4_line ?kf4_number ?kf4_part ?kf4_value ?s4_0 ?s4_1 ?s4_2 ?s4_3 ?s4_4 ?s4_5 ?s4_6 ?s4_7 ?s4_8 ?kg5 ?kk5 ?ks5 ?kd5 ?kc5 ?km5 ?ki5 ?ky5 ?kv5 ?kw5 ?kf5_line ?kf5_number ?kf5_part ?kf5_value ?s5_0 ?s5_1 ?s5_2 ?s5_3 ?s5_4 ?s5_5 ?s5_6 ?s5_7 ?s5_8 ?kg6 ?kk6 ?ks6 ?kd6 ?kc6 ?km6 ?ki6 ?ky6 ?kv6 ?kw6 ?kf6_line ?kf6_number ?kf6_part ?kf6_value ?s6_0 ?s6_1 ?s6_2 ?s6_3 ?s6_4 ?s6_5 ?s6_6 ?s6_7 ?s6_8 ?kg7 ?kk7 ?ks7 ?kd7 ?kc7 ?km7 ?ki7 ?ky7 ?kv7 ?kw7 ?kf7_line ?kf7_number ?kf7_part ?kf7_value ?s7_0 ?s7_1 ?s7_2 ?s7_3 ?s7_4 ?s7_5 ?s7_6 ?s7_7 ?s7_8 ?kg8 ?kk8 ?ks8 ?kd8 ?kc8 ?km8 ?ki8 ?ky8 ?kv8 ?kw8 ?kf8_line ?kf8_number ?kf8_part ?kf8_value ?s8_0 ?s8_1 ?s8_2 ?s8_3 ?s8_4 ?s8_5 ?s8_6 ?s8_7 ?s8_8 ?kn ?kt ?xl1 ?xr1 ?xs1 ?xk1 ?xi1 ?xy1 ?xf1 ?xc1 ?xl2 ?xr2 ?xs2 ?xk2 ?xi2 ?xy2 ?xf2 ?xc2 ?xl3 ?xr3 ?xs3 ?xk3 ?xi3 ?xy3 ?xf3 ?xc3 ?xl7 ?xr7 ?xs7 ?xk7 ?xi7 ?xy7 ?xf7 ?xc7 MP.K20.hd__law_outcome MP.K20.fact
    (case a0 => k_is)
    (case l0 => k_is)
    (case c0 => k_is)
    (case k0 => k_is)
    (case a1 => k_is)
    (case l1 => k_is)
    (case c1 => k_is)
    (case k1 => k_is)
    (case a2 => k_is)
    (case l2 => k_is)
    (case c2 => k_is)
    (case k2 => k_is)
    (case a3 => k_is)
    (case l3 => k_is)
    (case c3 => k_is)
    (case k3 => k_is)
    (case a4 => k_is)
    (case l4 => k_is)
    (case c4 => k_is)
    (case k4 => k_is)
    (case a5 => k_is)
    (case l5 => k_is)
    (case c5 => k_is)
    (case k5 => k_is)
    (case a6 => k_is)
    (case l6 => k_is)
    (case c6 => k_is)
    (case k6 => k_is)
    (case a7 => k_is)
    (case l7 => k_is)
    (case c7 => k_is)
    (case k7 => k_is)
    (case a8 => k_is)
    (case l8 => k_is)
    (case c8 => k_is)
    (case k8 => k_is)
    (case a9 => k_is)
    (case l9 => k_is)
    (case c9 => k_is)
    (case k9 => k_is)
    (case a10 => k_is)
    (case l10 => k_is)
    (case c10 => k_is)
    (case k10 => k_is)
    (case a11 => k_is)
    (case l11 => k_is)
    (case c11 => k_is)
    (case k11 => k_is)
    (case a12 => k_is)
    (case l12 => k_is)
    (case c12 => k_is)
    (case k12 => k_is)
    (case a13 => k_is)
    (case l13 => k_is)
    (case c13 => k_is)
    (case k13 => k_is)
    (case a14 => k_is)
    (case l14 => k_is)
    (case c14 => k_is)
    (case k14 => k_is)
    (case a15 => k_is)
    (case l15 => k_is)
    (case c15 => k_is)
    (case k15 => k_is)
    (case a16 => k_is)
    (case l16 => k_is)
    (case c16 => k_is)
    (case k16 => k_is)
    (case a17 => k_is)
    (case l17 => k_is)
    (case c17 => k_is)
    (case k17 => k_is)
    (case a18 => k_is)
    (case l18 => k_is)
    (case c18 => k_is)
    (case k18 => k_is)
    (case a19 => k_is)
    (case l19 => k_is)
    (case c19 => k_is)
    (case k19 => k_is)
    (case a20 => k_is)
    (case l20 => k_is)
    (case c20 => k_is)
    (case k20 => k_is)
    (case a21 => k_is)
    (case l21 => k_is)
    (case c21 => k_is)
    (case k21 => k_is)
    (case a22 => k_is)
    (case l22 => k_is)
    (case c22 => k_is)
    (case k22 => k_is)
    (case a23 => k_is)
    (case l23 => k_is)
    (case c23 => k_is)
    (case k23 => k_is)
    (case a24 => k_is)
    (case l24 => k_is)
    (case c24 => k_is)
    (case k24 => k_is)
    (case a25 => k_is)
    (case l25 => k_is)
    (case c25 => k_is)
    (case k25 => k_is)
    (case a26 => k_is)
    (case l26 => k_is)
    (case c26 => k_is)
    (case k26 => k_is)
    (case a27 => k_is)
    (case l27 => k_is)
    (case c27 => k_is)
    (case k27 => k_is)
    (case a28 => k_is)
    (case l28 => k_is)
    (case c28 => k_is)
    (case k28 => k_is)
    (case a29 => k_is)
    (case l29 => k_is)
    (case c29 => k_is)
    (case k29 => k_is)
    (case a30 => k_is)
    (case l30 => k_is)
    (case c30 => k_is)
    (case k30 => k_is)
    (case a31 => k_is)
    (case l31 => k_is)
    (case c31 => k_is)
    (case k31 => k_is)
    (case a32 => k_is)
    (case l32 => k_is)
    (case c32 => k_is)
    (case k32 => k_is)
    (case a33 => k_is)
    (case l33 => k_is)
    (case c33 => k_is)
    (case k33 => k_is)
    (case z0 => k_is)
    (case z1 => k_is)
    (case z2 => k_is)
    (case z3 => k_is)
    (case z4 => k_is)
    (case z5 => k_is)
    (case z6 => k_is)
    (case z7 => k_is)
    (case z8 => k_is)
    (case z9 => k_is)
    (case z10 => k_is)
    (case v0 => k_is)
    (case v1 => k_is)
    (case v2 => k_is)
    (case v3 => k_is)
    (case v4 => k_is)
    (case v5 => k_is)
    (case v6 => k_is)
    (case v7 => k_is)
    (case v8 => k_is)
    (case v9 => k_is)
    (case xt0 => k_is)
    (case xp0 => rfl)
    (case xn0 => kernel_rfl)
    (case ka0 => k_is)
    (case ka1 => k_is)
    (case ka2 => k_is)
    (case ka3 => k_is)
    (case ka4 => k_is)
    (case ka5 => k_is)
    (case ka6 => k_is)
    (case ka7 => k_is)
    (case ka8 => k_is)
    (case kg0 => k_is)
    (case kk0 => k_is)
    (case ks0 => k_is)
    (case kd0 => k_is)
    (case kc0 => k_is)
    (case km0 => k_is)
    (case ki0 => k_is)
    (case ky0 => k_is)
    (case kv0 => k_is)
    (case kw0 => k_is)
    (case kf0_line => k_is)
    (case kf0_number => k_is)
    (case kf0_part => k_is)
    (case kf0_value => k_is)
    (case s0_0 => k_is)
    (case s0_1 => k_is)
    (case s0_2 => k_is)
    (case s0_3 => k_is)
    (case s0_4 => k_is)
    (case s0_5 => k_is)
    (case s0_6 => k_is)
    (case s0_7 => k_is)
    (case s0_8 => k_is)
    (case kg1 => k_is)
    (case kk1 => k_is)
    (case ks1 => k_is)
    (case kd1 => k_is)
    (case kc1 => k_is)
    (case km1 => k_is)
    (case ki1 => k_is)
    (case ky1 => k_is)
    (case kv1 => k_is)
    (case kw1 => k_is)
    (case kf1_line => k_is)
    (case kf1_number => k_is)
    (case kf1_part => k_is)
    (case kf1_value => k_is)
    (case s1_0 => k_is)
    (case s1_1 => k_is)
    (case s1_2 => k_is)
    (case s1_3 => k_is)
    (case s1_4 => k_is)
    (case s1_5 => k_is)
    (case s1_6 => k_is)
    (case s1_7 => k_is)
    (case s1_8 => k_is)
    (case kg2 => k_is)
    (case kk2 => k_is)
    (case ks2 => k_is)
    (case kd2 => k_is)
    (case kc2 => k_is)
    (case km2 => k_is)
    (case ki2 => k_is)
    (case ky2 => k_is)
    (case kv2 => k_is)
    (case kw2 => k_is)
    (case kf2_line => k_is)
    (case kf2_number => k_is)
    (case kf2_part => k_is)
    (case kf2_value => k_is)
    (case s2_0 => k_is)
    (case s2_1 => k_is)
    (case s2_2 => k_is)
    (case s2_3 => k_is)
    (case s2_4 => k_is)
    (case s2_5 => k_is)
    (case s2_6 => k_is)
    (case s2_7 => k_is)
    (case s2_8 => k_is)
    (case kg3 => k_is)
    (case kk3 => k_is)
    (case ks3 => k_is)
    (case kd3 => k_is)
    (case kc3 => k_is)
    (case km3 => k_is)
    (case ki3 => k_is)
    (case ky3 => k_is)
    (case kv3 => k_is)
    (case kw3 => k_is)
    (case kf3_line => k_is)
    (case kf3_number => k_is)
    (case kf3_part => k_is)
    (case kf3_value => k_is)
    (case s3_0 => k_is)
    (case s3_1 => k_is)
    (case s3_2 => k_is)
    (case s3_3 => k_is)
    (case s3_4 => k_is)
    (case s3_5 => k_is)
    (case s3_6 => k_is)
    (case s3_7 => k_is)
    (case s3_8 => k_is)
    (case kg4 => k_is)
    (case kk4 => k_is)
    (case ks4 => k_is)
    (case kd4 => k_is)
    (case kc4 => k_is)
    (case km4 => k_is)
    (case ki4 => k_is)
    (case ky4 => k_is)
    (case kv4 => k_is)
    (case kw4 => k_is)
    (case kf4_line => k_is)
    (case kf4_number => k_is)
    (case kf4_part => k_is)
    (case kf4_value => k_is)
    (case s4_0 => k_is)
    (case s4_1 => k_is)
    (case s4_2 => k_is)
    (case s4_3 => k_is)
    (case s4_4 => k_is)
    (case s4_5 => k_is)
    (case s4_6 => k_is)
    (case s4_7 => k_is)
    (case s4_8 => k_is)
    (case kg5 => k_is)
    (case kk5 => k_is)
    (case ks5 => k_is)
    (case kd5 => k_is)
    (case kc5 => k_is)
    (case km5 => k_is)
    (case ki5 => k_is)
    (case ky5 => k_is)
    (case kv5 => k_is)
    (case kw5 => k_is)
    (case kf5_line => k_is)
    (case kf5_number => k_is)
    (case kf5_part => k_is)
    (case kf5_value => k_is)
    (case s5_0 => k_is)
    (case s5_1 => k_is)
    (case s5_2 => k_is)
    (case s5_3 => k_is)
    (case s5_4 => k_is)
    (case s5_5 => k_is)
    (case s5_6 => k_is)
    (case s5_7 => k_is)
    (case s5_8 => k_is)
    (case kg6 => k_is)
    (case kk6 => k_is)
    (case ks6 => k_is)
    (case kd6 => k_is)
    (case kc6 => k_is)
    (case km6 => k_is)
    (case ki6 => k_is)
    (case ky6 => k_is)
    (case kv6 => k_is)
    (case kw6 => k_is)
    (case kf6_line => k_is)
    (case kf6_number => k_is)
    (case kf6_part => k_is)
    (case kf6_value => k_is)
    (case s6_0 => k_is)
    (case s6_1 => k_is)
    (case s6_2 => k_is)
    (case s6_3 => k_is)
    (case s6_4 => k_is)
    (case s6_5 => k_is)
    (case s6_6 => k_is)
    (case s6_7 => k_is)
    (case s6_8 => k_is)
    (case kg7 => k_is)
    (case kk7 => k_is)
    (case ks7 => k_is)
    (case kd7 => k_is)
    (case kc7 => k_is)
    (case km7 => k_is)
    (case ki7 => k_is)
    (case ky7 => k_is)
    (case kv7 => k_is)
    (case kw7 => k_is)
    (case kf7_line => k_is)
    (case kf7_number => k_is)
    (case kf7_part => k_is)
    (case kf7_value => k_is)
    (case s7_0 => k_is)
    (case s7_1 => k_is)
    (case s7_2 => k_is)
    (case s7_3 => k_is)
    (case s7_4 => k_is)
    (case s7_5 => k_is)
    (case s7_6 => k_is)
    (case s7_7 => k_is)
    (case s7_8 => k_is)
    (case kg8 => k_is)
    (case kk8 => k_is)
    (case ks8 => k_is)
    (case kd8 => k_is)
    (case kc8 => k_is)
    (case km8 => k_is)
    (case ki8 => k_is)
    (case ky8 => k_is)
    (case kv8 => k_is)
    (case kw8 => k_is)
    (case kf8_line => k_is)
    (case kf8_number => k_is)
    (case kf8_part => k_is)
    (case kf8_value => k_is)
    (case s8_0 => k_is)
    (case s8_1 => k_is)
    (case s8_2 => k_is)
    (case s8_3 => k_is)
    (case s8_4 => k_is)
    (case s8_5 => k_is)
    (case s8_6 => k_is)
    (case s8_7 => k_is)
    (case s8_8 => k_is)
    (case kn => k_is)
    (case kt => k_is)
    (case xl1 => k_is)
    (case xr1 => rfl)
    (case xs1 => k_is)
    (case xk1 => k_is)
    (case xi1 => k_is)
    (case xy1 => k_is)
    (case xf1 => k_is)
    (case xc1 => k_is)
    (case xl2 => k_is)
    (case xr2 => rfl)
    (case xs2 => k_is)
    (case xk2 => k_is)
    (case xi2 => k_is)
    (case xy2 => k_is)
    (case xf2 => k_is)
    (case xc2 => k_is)
    (case xl3 => k_is)
    (case xr3 => rfl)
    (case xs3 => k_is)
    (case xk3 => k_is)
    (case xi3 => k_is)
    (case xy3 => k_is)
    (case xf3 => k_is)
    (case xc3 => k_is)
    (case xl7 => k_is)
    (case xr7 => rfl)
    (case xs7 => k_is)
    (case xk7 => k_is)
    (case xi7 => k_is)
    (case xy7 => k_is)
    (case xf7 => k_is)
    (case xc7 => k_is)

