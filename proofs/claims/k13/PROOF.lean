import PyProof.Rows.All
import Wide.All
import OpenK.AllK
import Wide.FinOn
import HandS.ForMost
import HandS.ForExc
import HandS.WideBits
import HandS.Wide
import HandS.TupAny
import HandS.IsInst
import HandS.SortInts
import HandS.CallSlots
import HandS.MakeKw
import HandS.Flow
import HandS.ExcInit
import HandS.ExcValue
import HandS.Lambda
import HandS.TupMul
import KE.GoesNew
import KE.GoesMore
import KE.GoesEnum
import HandS.SetFor
import HandS.Strs
import HandS.Style
import KE.DataMinMax
import HandS.SortKw
import HandS.Zip
import KE.KDictZip
import HandS.ExcIs
import HandS.ExcField
import KE.KExcIs
import HandS.TryMany
import KE.KDflt
import HandS.EndTab
import HandS.TryOnly
import PyProof.EqAt
import PyProof.NeKinds
import HandS.StrMore
import HandS.FStr
import HandS.RaiseMore
import KE.GoesEnumKw
import HandS.Text
import PyProof.StrLaws
import PyProof.StrLawsRepr
import PyProof.StrBlock2
import KE.KExcInit
import HandS.Property
import HandS.Star
import HandS.MakeKwOnly
import OpenK.KOps
import OpenK.KMeth
import HandS.Conv
import HandS.RevRange
import HandS.Dict
import HandS.Flt
import HandS.Deep
import HandS.HeadWalk
import HandS.HeadEnd
import PySem.Challenge.RW_bestoflast_k13_whole_once_gains
set_option Elab.async false
set_option linter.all false
set_option maxRecDepth 100000
set_option maxHeartbeats 4000000
namespace MP
open PySem PySem.Spec PyProof.Rows L2
inductive Dv where
  | non | bl (b : Bool) | int (i : Int) | str (x : Str) | ty (n : String) | cl (c : Nat) | ref (n : Nat)
  | tup (ws : List Dv) | lst (ws : List Dv) | sq (ws : List Dv) | dct (ks : List Key) (ws : List Dv) | exc (c : Nat) (f : Str) (w : Dv) | exn (c : Nat) | clo (a c : Addr) (q : Str) (ws : List Dv) (vs : List V)
  deriving Inhabited
inductive Ob where
  | lst (ws : List Dv) | dct (kws : List (Key × Dv)) | obj (c : Nat) (fs : List (Str × Dv)) | tab (n : Nat) (q : Str)
  deriving Inhabited
abbrev Sto := List Ob
abbrev Env := List (Option Dv)
structure Ex where
  c : Nat
  f : Str
  w : Dv
inductive R (α : Type) where
  | ok (a : α) (s : Sto) | er (x : Ex) (s : Sto) | no
def R.bind {α β : Type} (r : R α) (k : α → Sto → R β) : R β := match r with
  | .ok a s => k a s | .er x s => .er x s | .no => .no
inductive C where
  | nx (ρ : Env) (s : Sto) | rt (w : Dv) (s : Sto) | bk (ρ : Env) (s : Sto) | ct (ρ : Env) (s : Sto) | er (x : Ex) (ρ : Env) (s : Sto) | no
abbrev FE := Env → Sto → R Dv
abbrev FT := Env → Sto → R Bool
abbrev FA := Env → Sto → R (List Dv)
abbrev FS := Env → Sto → C
abbrev Fn := List Dv → Sto → R Dv
def lim : Nat := 16000000
abbrev Mu := Nat → Option Addr
/-- what is fixed: the written part, the classes of exceptions, the tables of code objects -/
structure Ct where
  K : PySem.W.Frag
  cls : Nat → Addr
  tb : Nat → Addr
abbrev Zs := Addr → Prop
def Fz (μ : Mu) (Z : Zs) (a : Addr) : Prop := (∀ n, μ n ≠ some a) ∧ ¬ Z a
def KL (K : PySem.W.Frag) (a : Addr) (xs : List V) : Prop := ∃ (o : Obj) (its : Array Value) (n : Nat), K.lookup a = some o ∧ o.cls = .type "list" ∧ o.dict = none ∧ o.data = .seq its n ∧ its.size ≤ sizeLine ∧ Vals xs its.toList
def KT (K : PySem.W.Frag) (a : Addr) (xs : List V) : Prop := ∃ (o : Obj) (its : Array Value) (n : Nat), K.lookup a = some o ∧ o.cls = .type "tuple" ∧ o.data = .seq its n ∧ its.size ≤ sizeLine ∧ Vals xs its.toList
def AtL (K : PySem.W.Frag) (H : Hp) (μ : Mu) (Z : Zs) (a : Addr) (xs : List V) : Prop := (Rd H a (.lst xs) ∧ Fz μ Z a) ∨ KL K a xs
def AtT (K : PySem.W.Frag) (H : Hp) (μ : Mu) (Z : Zs) (a : Addr) (xs : List V) : Prop := (Rd H a (.tup xs) ∧ Fz μ Z a) ∨ KT K a xs
theorem AtL.sq {K : PySem.W.Frag} {H : Hp} {μ : Mu} {Z : Zs} {a : Addr} {xs : List V} (h : AtL K H μ Z a xs) : SqL K H a xs := h.elim (fun z => .inl z.1) .inr
theorem AtT.sq {K : PySem.W.Frag} {H : Hp} {μ : Mu} {Z : Zs} {a : Addr} {xs : List V} (h : AtT K H μ Z a xs) : SqT K H a xs := h.elim (fun z => .inl z.1) .inr
structure Evo (H : Hp) (μ : Mu) (H' : Hp) (μ' : Mu) : Prop where
  keep : ∀ a o, H a = some o → (∀ n, μ n ≠ some a) → H' a = some o
  mu : ∀ n a, μ n = some a → μ' n = some a
  new : ∀ n a, μ' n = some a → μ n = some a ∨ H a = none
  stay : ∀ n a, μ n = some a → H a ≠ none → H' a ≠ none
section
variable {H H1 H' : Hp} {μ μ1 μ' : Mu} {Z : Zs} {a : Addr} {o : HO} {xs : List V} {K : PySem.W.Frag}
theorem Evo.refl : Evo H μ H μ := ⟨fun _ _ h _ => h, fun _ _ h => h, fun _ _ h => .inl h, fun _ _ _ h => h⟩
theorem Evo.alive (e : Evo H μ H' μ') (h : H a ≠ none) : H' a ≠ none := by
  by_cases hm : ∃ n, μ n = some a
  · obtain ⟨n, hn⟩ := hm
    exact e.stay n a hn h
  · cases q : H a with
    | none => exact absurd q h
    | some o => rw [e.keep a o q (fun n hn => hm ⟨n, hn⟩)]; intro z; cases z
theorem Evo.fz (e : Evo H μ H' μ') (h : H a ≠ none) (f : Fz μ Z a) : Fz μ' Z a := ⟨fun n hn => by
  rcases e.new n a hn with q | q
  · exact f.1 n q
  · exact h q, f.2⟩
theorem Evo.trans (e : Evo H μ H1 μ1) (f : Evo H1 μ1 H' μ') : Evo H μ H' μ' where
  keep := fun a o h hn => by
    have h1 := e.keep a o h hn
    exact f.keep a o h1 fun n q => by
      rcases e.new n a q with z | z
      · exact hn n z
      · rw [h] at z; cases z
  mu := fun n a h => f.mu n a (e.mu n a h)
  new := fun n a h => by
    rcases f.new n a h with q | q
    · exact e.new n a q
    · right
      cases z : H a with
      | none => rfl
      | some o => exact absurd q (e.alive (by rw [z]; intro y; cases y))
  stay := fun n a h q => f.alive (e.alive q)
theorem Rd.alive (h : Rd H a o) : H a ≠ none := by
  rcases h with h | ⟨_, h⟩ <;> (rw [h]; intro z; cases z)
theorem Rd.evo (e : Evo H μ H' μ') (h : Rd H a o) (f : Fz μ Z a) : Rd H' a o := by
  rcases h with h | ⟨u, h⟩
  · exact .inl (e.keep _ _ h f.1)
  · exact .inr ⟨u, e.keep _ _ h f.1⟩
theorem AtL.mono (e : Evo H μ H' μ') (h : AtL K H μ Z a xs) : AtL K H' μ' Z a xs := h.elim (fun ⟨r, f⟩ => .inl ⟨Rd.evo e r f, e.fz (Rd.alive r) f⟩) .inr
theorem AtT.mono (e : Evo H μ H' μ') (h : AtT K H μ Z a xs) : AtT K H' μ' Z a xs := h.elim (fun ⟨r, f⟩ => .inl ⟨Rd.evo e r f, e.fz (Rd.alive r) f⟩) .inr
/-- a new object -/
theorem Evo.laid {p : Addr} (hp : H p = none) : Evo H μ (upd H p o) μ where
  keep := fun a o h _ => by rw [upd_ne (ne_of_none h hp)]; exact h
  mu := fun _ _ h => h
  new := fun _ _ h => .inl h
  stay := fun n a _ h => by
    by_cases e : a = p
    · subst e; exact absurd hp h
    · rw [upd_ne e]; exact h
end
/-- an exception of the class at C, held as a value; its dict is at dx -/
def ExK (a C dx : Addr) : HO := .ext fun h => ∃ (oe : Obj) (vs : Array Value), h.get? a = some oe ∧ Zc (.ref C) (some dx) oe ∧ oe.data = .fields vs
mutual
def RV (Γ : Ct) (H : Hp) (μ : Mu) (Z : Zs) : Dv → V → Prop
  | .non, v => v = .non
  | .bl b, v => v = .bl b
  | .int i, v => v = .int i
  | .str x, v => v = .str x
  | .ty n, v => v = .ty n
  | .cl c, v => v = .ref (Γ.cls c)
  | .ref n, v => ∃ a, v = .ref a ∧ μ n = some a
  | .tup ws, v => ∃ a xs, v = .ref a ∧ AtT Γ.K H μ Z a xs ∧ RVs Γ H μ Z ws xs
  | .lst ws, v => ∃ a xs, v = .ref a ∧ H a = some (.lst xs) ∧ Fz μ Z a ∧ RVs Γ H μ Z ws xs
  | .sq ws, v => ∃ a xs, v = .ref a ∧ AtL Γ.K H μ Z a xs ∧ RVs Γ H μ Z ws xs
  | .dct ks ws, v => ∃ a kvs, v = .ref a ∧ H a = some (.dK kvs) ∧ Fz μ Z a ∧ kvs.map (·.1) = ks ∧ RVs Γ H μ Z ws (kvs.map (·.2))
  | .exc c f w, v => ∃ a dx x, v = .ref a ∧ H a = some (ExK a (Γ.cls c) dx) ∧ Fz μ Z a ∧ H dx = some (.xd [(f, x)]) ∧ Fz μ Z dx ∧ RV Γ H μ Z w x
  | .exn c, v => ∃ a, v = .ref a ∧ H a = some (ExO (.ref (Γ.cls c)) a) ∧ Fz μ Z a
  | .clo a c q ws vs, v => v = .ref a ∧ H c = some (LamX.CodeO c q) ∧ Fz μ Z c ∧ RVs Γ H μ Z ws vs
def RVs (Γ : Ct) (H : Hp) (μ : Mu) (Z : Zs) : List Dv → List V → Prop
  | [], vs => vs = []
  | w :: ws, vs => ∃ x xs, vs = x :: xs ∧ RV Γ H μ Z w x ∧ RVs Γ H μ Z ws xs
end
section
variable {Γ : Ct} {H H1 H' : Hp} {μ μ1 μ' : Mu} {Z Z' : Zs}
mutual
theorem RV.mono (e : Evo H μ H' μ') : ∀ (w : Dv) {v : V}, RV Γ H μ Z w v → RV Γ H' μ' Z w v
  | .non, _, h => h
  | .bl _, _, h => h
  | .int _, _, h => h
  | .str _, _, h => h
  | .ty _, _, h => h
  | .cl _, _, h => h
  | .ref n, _, h => by
    obtain ⟨a, h1, h2⟩ := h
    exact ⟨a, h1, e.mu n a h2⟩
  | .tup ws, _, h => by
    obtain ⟨a, xs, h1, h2, h3⟩ := h
    exact ⟨a, xs, h1, h2.mono e, RVs.mono e ws h3⟩
  | .lst ws, _, h => by
    obtain ⟨a, xs, h1, h2, h3, h4⟩ := h
    exact ⟨a, xs, h1, e.keep _ _ h2 h3.1, e.fz (by rw [h2]; intro z; cases z) h3, RVs.mono e ws h4⟩
  | .sq ws, _, h => by
    obtain ⟨a, xs, h1, h2, h3⟩ := h
    exact ⟨a, xs, h1, h2.mono e, RVs.mono e ws h3⟩
  | .dct ks ws, _, h => by
    obtain ⟨a, kvs, h1, h2, h3, h4, h5⟩ := h
    exact ⟨a, kvs, h1, e.keep _ _ h2 h3.1, e.fz (by rw [h2]; intro z; cases z) h3, h4, RVs.mono e ws h5⟩
  | .exc c f w, _, h => by
    obtain ⟨a, dx, x, h1, h2, h3, h4, h5, h6⟩ := h
    exact ⟨a, dx, x, h1, e.keep _ _ h2 h3.1, e.fz (by rw [h2]; intro z; cases z) h3, e.keep _ _ h4 h5.1, e.fz (by rw [h4]; intro z; cases z) h5, RV.mono e w h6⟩
  | .exn c, _, h => by
    obtain ⟨a, h1, h2, h3⟩ := h
    exact ⟨a, h1, e.keep _ _ h2 h3.1, e.fz (by rw [h2]; intro z; cases z) h3⟩
  | .clo a c q ws vs, _, h => by
    obtain ⟨h1, h2, h3, h4⟩ := h
    exact ⟨h1, e.keep _ _ h2 h3.1, e.fz (by rw [h2]; intro z; cases z) h3, RVs.mono e ws h4⟩
theorem RVs.mono (e : Evo H μ H' μ') : ∀ (ws : List Dv) {vs : List V}, RVs Γ H μ Z ws vs → RVs Γ H' μ' Z ws vs
  | [], _, h => h
  | w :: ws, _, h => by
    obtain ⟨x, xs, h1, h2, h3⟩ := h
    exact ⟨x, xs, h1, RV.mono e w h2, RVs.mono e ws h3⟩
end
/-- what is hidden may change -/
structure EvoZ (Z : Zs) (H : Hp) (μ : Mu) (H' : Hp) (μ' : Mu) : Prop where
  keep : ∀ a o, H a = some o → (∀ n, μ n ≠ some a) → ¬ Z a → H' a = some o
  mu : ∀ n a, μ n = some a → μ' n = some a
  new : ∀ n a, μ' n = some a → μ n = some a ∨ H a = none
  live : ∀ a, H a ≠ none → H' a ≠ none
theorem Evo.z {H H' : Hp} {μ μ' : Mu} {Z : Zs} (e : Evo H μ H' μ') : EvoZ Z H μ H' μ' := ⟨fun a o h hn _ => e.keep a o h hn, e.mu, e.new, fun _ h => e.alive h⟩
theorem EvoZ.more {H H' : Hp} {μ μ' : Mu} {Z Z' : Zs} (h : ∀ a, Z a → Z' a) (e : EvoZ Z H μ H' μ') : EvoZ Z' H μ H' μ' := ⟨fun a o q hn z => e.keep a o q hn fun y => z (h a y), e.mu, e.new, e.live⟩
theorem EvoZ.trans {H H1 H' : Hp} {μ μ1 μ' : Mu} {Z : Zs} (e : EvoZ Z H μ H1 μ1) (f : EvoZ Z H1 μ1 H' μ') : EvoZ Z H μ H' μ' where
  keep := fun a o h hn z => by
    have h1 := e.keep a o h hn z
    exact f.keep a o h1 (fun n q => by
      rcases e.new n a q with y | y
      · exact hn n y
      · rw [h] at y; cases y) z
  mu := fun n a h => f.mu n a (e.mu n a h)
  new := fun n a h => by
    rcases f.new n a h with q | q
    · exact e.new n a q
    · right
      cases z : H a with
      | none => rfl
      | some o => exact absurd q (e.live a (by rw [z]; intro y; cases y))
  live := fun a h => f.live a (e.live a h)
theorem EvoZ.fz {H H' : Hp} {μ μ' : Mu} {Z : Zs} {a : Addr} (e : EvoZ Z H μ H' μ') (h : H a ≠ none) (f : Fz μ Z a) : Fz μ' Z a := ⟨fun n hn => by
  rcases e.new n a hn with q | q
  · exact f.1 n q
  · exact h q, f.2⟩
theorem Rd.evoZ {H H' : Hp} {μ μ' : Mu} {Z : Zs} {a : Addr} {o : HO} (e : EvoZ Z H μ H' μ') (h : Rd H a o) (f : Fz μ Z a) : Rd H' a o := by
  rcases h with h | ⟨u, h⟩
  · exact .inl (e.keep _ _ h f.1 f.2)
  · exact .inr ⟨u, e.keep _ _ h f.1 f.2⟩
theorem AtL.monoZ {K : PySem.W.Frag} {H H' : Hp} {μ μ' : Mu} {Z : Zs} {a : Addr} {xs : List V} (e : EvoZ Z H μ H' μ') (h : AtL K H μ Z a xs) : AtL K H' μ' Z a xs := h.elim (fun ⟨r, f⟩ => .inl ⟨Rd.evoZ e r f, e.fz (Rd.alive r) f⟩) .inr
theorem AtT.monoZ {K : PySem.W.Frag} {H H' : Hp} {μ μ' : Mu} {Z : Zs} {a : Addr} {xs : List V} (e : EvoZ Z H μ H' μ') (h : AtT K H μ Z a xs) : AtT K H' μ' Z a xs := h.elim (fun ⟨r, f⟩ => .inl ⟨Rd.evoZ e r f, e.fz (Rd.alive r) f⟩) .inr
/-- base, then only D changed -/
theorem Evo.thenZ {H0 H1 H' : Hp} {μ0 μ1 μ' : Mu} {D : Addr} (e : Evo H0 μ0 H1 μ1) (hD : H0 D = none) (f : EvoZ (fun a => a = D) H1 μ1 H' μ') : Evo H0 μ0 H' μ' where
  keep := fun a o h hn => by
    have h1 := e.keep a o h hn
    exact f.keep a o h1 (fun n q => by
      rcases e.new n a q with y | y
      · exact hn n y
      · rw [h] at y; cases y) (fun z => by rw [z, hD] at h; cases h)
  mu := fun n a h => f.mu n a (e.mu n a h)
  new := fun n a h => by
    rcases f.new n a h with q | q
    · exact e.new n a q
    · right
      cases z : H0 a with
      | none => rfl
      | some o => exact absurd q (e.alive (by rw [z]; intro y; cases y))
  stay := fun n a h q => f.live a (e.alive q)
theorem EvoZ.upd {H H' : Hp} {μ μ' : Mu} {D : Addr} {o : HO} (e : EvoZ (fun a => a = D) H μ H' μ') : EvoZ (fun a => a = D) H μ (upd H' D o) μ' where
  keep := fun a u h hn z => by rw [upd_ne z]; exact e.keep a u h hn z
  mu := e.mu
  new := e.new
  live := fun a h => by
    by_cases z : a = D
    · rw [z, upd_same]; intro y; cases y
    · rw [upd_ne z]; exact e.live a h
mutual
theorem RV.monoZ (e : EvoZ Z H μ H' μ') : ∀ (w : Dv) {v : V}, RV Γ H μ Z w v → RV Γ H' μ' Z w v
  | .non, _, h => h
  | .bl _, _, h => h
  | .int _, _, h => h
  | .str _, _, h => h
  | .ty _, _, h => h
  | .cl _, _, h => h
  | .ref n, _, h => by
    obtain ⟨a, h1, h2⟩ := h
    exact ⟨a, h1, e.mu n a h2⟩
  | .tup ws, _, h => by
    obtain ⟨a, xs, h1, h2, h3⟩ := h
    exact ⟨a, xs, h1, h2.monoZ e, RVs.monoZ e ws h3⟩
  | .lst ws, _, h => by
    obtain ⟨a, xs, h1, h2, h3, h4⟩ := h
    exact ⟨a, xs, h1, e.keep _ _ h2 h3.1 h3.2, e.fz (by rw [h2]; intro z; cases z) h3, RVs.monoZ e ws h4⟩
  | .sq ws, _, h => by
    obtain ⟨a, xs, h1, h2, h3⟩ := h
    exact ⟨a, xs, h1, h2.monoZ e, RVs.monoZ e ws h3⟩
  | .dct ks ws, _, h => by
    obtain ⟨a, kvs, h1, h2, h3, h4, h5⟩ := h
    exact ⟨a, kvs, h1, e.keep _ _ h2 h3.1 h3.2, e.fz (by rw [h2]; intro z; cases z) h3, h4, RVs.monoZ e ws h5⟩
  | .exc c f w, _, h => by
    obtain ⟨a, dx, x, h1, h2, h3, h4, h5, h6⟩ := h
    exact ⟨a, dx, x, h1, e.keep _ _ h2 h3.1 h3.2, e.fz (by rw [h2]; intro z; cases z) h3, e.keep _ _ h4 h5.1 h5.2, e.fz (by rw [h4]; intro z; cases z) h5, RV.monoZ e w h6⟩
  | .exn c, _, h => by
    obtain ⟨a, h1, h2, h3⟩ := h
    exact ⟨a, h1, e.keep _ _ h2 h3.1 h3.2, e.fz (by rw [h2]; intro z; cases z) h3⟩
  | .clo a c q ws vs, _, h => by
    obtain ⟨h1, h2, h3, h4⟩ := h
    exact ⟨h1, e.keep _ _ h2 h3.1 h3.2, e.fz (by rw [h2]; intro z; cases z) h3, RVs.monoZ e ws h4⟩
theorem RVs.monoZ (e : EvoZ Z H μ H' μ') : ∀ (ws : List Dv) {vs : List V}, RVs Γ H μ Z ws vs → RVs Γ H' μ' Z ws vs
  | [], _, h => h
  | w :: ws, _, h => by
    obtain ⟨x, xs, h1, h2, h3⟩ := h
    exact ⟨x, xs, h1, RV.monoZ e w h2, RVs.monoZ e ws h3⟩
end
theorem Fz.weak {a : Addr} (h : ∀ a, Z a → Z' a) (f : Fz μ Z' a) : Fz μ Z a := ⟨f.1, fun z => f.2 (h a z)⟩
mutual
theorem RV.weak (h : ∀ a, Z a → Z' a) : ∀ (w : Dv) {v : V}, RV Γ H μ Z' w v → RV Γ H μ Z w v
  | .non, _, q => q
  | .bl _, _, q => q
  | .int _, _, q => q
  | .str _, _, q => q
  | .ty _, _, q => q
  | .cl _, _, q => q
  | .ref n, _, q => q
  | .tup ws, _, q => by
    obtain ⟨a, xs, h1, h2, h3⟩ := q
    exact ⟨a, xs, h1, h2.elim (fun z => .inl ⟨z.1, z.2.weak h⟩) .inr, RVs.weak h ws h3⟩
  | .lst ws, _, q => by
    obtain ⟨a, xs, h1, h2, h3, h4⟩ := q
    exact ⟨a, xs, h1, h2, h3.weak h, RVs.weak h ws h4⟩
  | .sq ws, _, q => by
    obtain ⟨a, xs, h1, h2, h3⟩ := q
    exact ⟨a, xs, h1, h2.elim (fun z => .inl ⟨z.1, z.2.weak h⟩) .inr, RVs.weak h ws h3⟩
  | .dct ks ws, _, q => by
    obtain ⟨a, kvs, h1, h2, h3, h4, h5⟩ := q
    exact ⟨a, kvs, h1, h2, h3.weak h, h4, RVs.weak h ws h5⟩
  | .exc c f w, _, q => by
    obtain ⟨a, dx, x, h1, h2, h3, h4, h5, h6⟩ := q
    exact ⟨a, dx, x, h1, h2, h3.weak h, h4, h5.weak h, RV.weak h w h6⟩
  | .exn c, _, q => by
    obtain ⟨a, h1, h2, h3⟩ := q
    exact ⟨a, h1, h2, h3.weak h⟩
  | .clo a c _ ws vs, _, q => by
    obtain ⟨h1, h2, h3, h4⟩ := q
    exact ⟨h1, h2, h3.weak h, RVs.weak h ws h4⟩
theorem RVs.weak (h : ∀ a, Z a → Z' a) : ∀ (ws : List Dv) {vs : List V}, RVs Γ H μ Z' ws vs → RVs Γ H μ Z ws vs
  | [], _, q => q
  | w :: ws, _, q => by
    obtain ⟨x, xs, h1, h2, h3⟩ := q
    exact ⟨x, xs, h1, RV.weak h w h2, RVs.weak h ws h3⟩
end
/-- under a reserved address all may change -/
theorem Fz.evoZ {p a : Addr} (f : Fz μ (fun b => b = p ∨ Z b) a) : a ≠ p := fun e => f.2 (.inl e)
mutual
theorem RV.updZ {p : Addr} {o : HO} : ∀ (w : Dv) {v : V}, RV Γ H μ (fun b => b = p ∨ Z b) w v → RV Γ (upd H p o) μ (fun b => b = p ∨ Z b) w v
  | .non, _, q => q
  | .bl _, _, q => q
  | .int _, _, q => q
  | .str _, _, q => q
  | .ty _, _, q => q
  | .cl _, _, q => q
  | .ref n, _, q => q
  | .tup ws, _, q => by
    obtain ⟨a, xs, h1, h2, h3⟩ := q
    refine ⟨a, xs, h1, ?_, RVs.updZ ws h3⟩
    rcases h2 with ⟨h2, f⟩ | h2
    · refine .inl ⟨?_, f⟩
      unfold Rd
      rw [upd_ne f.evoZ]
      exact h2
    · exact .inr h2
  | .lst ws, _, q => by
    obtain ⟨a, xs, h1, h2, h3, h4⟩ := q
    exact ⟨a, xs, h1, by rw [upd_ne h3.evoZ]; exact h2, h3, RVs.updZ ws h4⟩
  | .sq ws, _, q => by
    obtain ⟨a, xs, h1, h2, h3⟩ := q
    refine ⟨a, xs, h1, ?_, RVs.updZ ws h3⟩
    rcases h2 with ⟨h2, f⟩ | h2
    · refine .inl ⟨?_, f⟩
      unfold Rd
      rw [upd_ne f.evoZ]
      exact h2
    · exact .inr h2
  | .dct ks ws, _, q => by
    obtain ⟨a, kvs, h1, h2, h3, h4, h5⟩ := q
    exact ⟨a, kvs, h1, by rw [upd_ne h3.evoZ]; exact h2, h3, h4, RVs.updZ ws h5⟩
  | .exc c f w, _, q => by
    obtain ⟨a, dx, x, h1, h2, h3, h4, h5, h6⟩ := q
    exact ⟨a, dx, x, h1, by rw [upd_ne h3.evoZ]; exact h2, h3, by rw [upd_ne h5.evoZ]; exact h4, h5, RV.updZ w h6⟩
  | .exn c, _, q => by
    obtain ⟨a, h1, h2, h3⟩ := q
    exact ⟨a, h1, by rw [upd_ne h3.evoZ]; exact h2, h3⟩
  | .clo a c _ ws vs, _, q => by
    obtain ⟨h1, h2, h3, h4⟩ := q
    exact ⟨h1, by rw [upd_ne h3.evoZ]; exact h2, h3, RVs.updZ ws h4⟩
theorem RVs.updZ {p : Addr} {o : HO} : ∀ (ws : List Dv) {vs : List V}, RVs Γ H μ (fun b => b = p ∨ Z b) ws vs → RVs Γ (upd H p o) μ (fun b => b = p ∨ Z b) ws vs
  | [], _, q => q
  | w :: ws, _, q => by
    obtain ⟨x, xs, h1, h2, h3⟩ := q
    exact ⟨x, xs, h1, RV.updZ w h2, RVs.updZ ws h3⟩
end
theorem RVs.nil : RVs Γ H μ Z [] [] := rfl
theorem RVs.cons {w : Dv} {ws : List Dv} {x : V} {xs : List V} (h : RV Γ H μ Z w x) (t : RVs Γ H μ Z ws xs) : RVs Γ H μ Z (w :: ws) (x :: xs) := ⟨x, xs, rfl, h, t⟩
theorem RVs.len : ∀ {ws : List Dv} {xs : List V}, RVs Γ H μ Z ws xs → xs.length = ws.length
  | [], _, h => by rw [show _ = [] from h]; rfl
  | w :: ws, _, h => by
    obtain ⟨x, xs, rfl, _, h3⟩ := h
    rw [List.length_cons, List.length_cons, RVs.len h3]
theorem RVs.get : ∀ {ws : List Dv} {xs : List V} {i : Nat} {w : Dv}, RVs Γ H μ Z ws xs → ws[i]? = some w → ∃ x, xs[i]? = some x ∧ RV Γ H μ Z w x
  | [], _, _, _, _, e => by cases e
  | a :: ws, _, 0, w, h, e => by
    obtain ⟨x, xs, rfl, h2, _⟩ := h
    cases e
    exact ⟨x, rfl, h2⟩
  | a :: ws, _, i + 1, w, h, e => by
    obtain ⟨x, xs, rfl, _, h3⟩ := h
    obtain ⟨y, e1, e2⟩ := RVs.get (i := i) (w := w) h3 (by simpa using e)
    exact ⟨y, by simpa using e1, e2⟩
theorem RVs.append : ∀ {ws us : List Dv} {xs ys : List V}, RVs Γ H μ Z ws xs → RVs Γ H μ Z us ys → RVs Γ H μ Z (ws ++ us) (xs ++ ys)
  | [], _, _, _, h, q => by rw [show _ = [] from h]; exact q
  | a :: ws, _, _, _, h, q => by
    obtain ⟨x, xs, rfl, h2, h3⟩ := h
    exact RVs.cons h2 (RVs.append h3 q)
theorem RVs.drop : ∀ {ws : List Dv} {xs : List V} (n : Nat), RVs Γ H μ Z ws xs → RVs Γ H μ Z (ws.drop n) (xs.drop n)
  | _, _, 0, h => h
  | [], _, _ + 1, h => by rw [show _ = [] from h]; exact rfl
  | _ :: ws, _, n + 1, h => by
    obtain ⟨x, xs, rfl, _, h3⟩ := h
    exact RVs.drop n h3
theorem RVs.take : ∀ {ws : List Dv} {xs : List V} (n : Nat), RVs Γ H μ Z ws xs → RVs Γ H μ Z (ws.take n) (xs.take n)
  | _, _, 0, _ => rfl
  | [], _, _ + 1, h => by rw [show _ = [] from h]; exact rfl
  | _ :: ws, _, n + 1, h => by
    obtain ⟨x, xs, rfl, h2, h3⟩ := h
    exact RVs.cons h2 (RVs.take n h3)
theorem RVs.ints : ∀ {ns : List Int} {xs : List V}, RVs Γ H μ Z (ns.map .int) xs → xs = ns.map .int
  | [], _, h => h
  | n :: ns, _, h => by
    obtain ⟨x, xs, rfl, h2, h3⟩ := h
    rw [show x = V.int n from h2, RVs.ints h3]
    rfl
theorem RVs.of_ints : ∀ (ns : List Int), RVs Γ H μ Z (ns.map .int) (ns.map .int)
  | [] => rfl
  | n :: ns => RVs.cons rfl (RVs.of_ints ns)
theorem RVs.rep {ws : List Dv} {xs : List V} (h : RVs Γ H μ Z ws xs) : ∀ k : Nat, RVs Γ H μ Z (List.replicate k ws).flatten (List.replicate k xs).flatten
  | 0 => rfl
  | k + 1 => by
    rw [List.replicate_succ, List.replicate_succ, List.flatten_cons, List.flatten_cons]
    exact RVs.append h (RVs.rep h k)
end
def RO (Γ : Ct) (H : Hp) (μ : Mu) (Z : Zs) (a : Addr) : Ob → Prop
  | .lst ws => ∃ xs, H a = some (.lst xs) ∧ RVs Γ H μ Z ws xs
  | .dct kws => ∃ kvs, H a = some (.dK kvs) ∧ kvs.map (·.1) = kws.map (·.1) ∧ RVs Γ H μ Z (kws.map (·.2)) (kvs.map (·.2))
  | .obj c fs => ∃ dx kvs, H a = some (.ins (Γ.cls c) dx kvs) ∧ kvs.map (·.1) = fs.map (·.1) ∧ RVs Γ H μ Z (fs.map (·.2)) (kvs.map (·.2))
  | .tab n q => a = Γ.tb n ∧ ∃ ps : Array Value, H a = some (.tbl ps) ∧ TriplesOk ps.toList ∧ ∀ (pos : Pos) (cv : Value), codeAmong pos ps.toList = some cv → ∃ c, cv = .ref c ∧ H c = some (LamX.CodeO c q) ∧ Fz μ Z c
theorem tab_imp {H H' : Hp} {μ μ' : Mu} {Z Z' : Zs} {a : Addr} {q : Str} (hH : H' a = H a) (k : ∀ c, H c = some (LamX.CodeO c q) → Fz μ Z c → H' c = some (LamX.CodeO c q) ∧ Fz μ' Z' c)
    (h : ∃ ps : Array Value, H a = some (.tbl ps) ∧ TriplesOk ps.toList ∧ ∀ (pos : Pos) (cv : Value), codeAmong pos ps.toList = some cv → ∃ c, cv = .ref c ∧ H c = some (LamX.CodeO c q) ∧ Fz μ Z c) :
    ∃ ps : Array Value, H' a = some (.tbl ps) ∧ TriplesOk ps.toList ∧ ∀ (pos : Pos) (cv : Value), codeAmong pos ps.toList = some cv → ∃ c, cv = .ref c ∧ H' c = some (LamX.CodeO c q) ∧ Fz μ' Z' c := by
  obtain ⟨ps, h1, h2, h3⟩ := h
  refine ⟨ps, hH.trans h1, h2, fun pos cv e => ?_⟩
  obtain ⟨c, e1, e2, e3⟩ := h3 pos cv e
  exact ⟨c, e1, k c e2 e3⟩
structure Rep (Γ : Ct) (H : Hp) (μ : Mu) (Z : Zs) (s : Sto) : Prop where
  «at» : ∀ (n : Nat) (o : Ob), s[n]? = some o → ∃ a, μ n = some a ∧ ¬ Z a ∧ RO Γ H μ Z a o
  inj : ∀ n m a, μ n = some a → μ m = some a → n = m
  dom : ∀ n a, μ n = some a → n < s.length
  za : ∀ a, Z a → H a ≠ none
def RE (Γ : Ct) (H : Hp) (μ : Mu) (Z : Zs) (ρ : Env) (σ : L2.St) : Prop := ρ.length = σ.length ∧ ∀ (i : Nat) (w : Dv), ρ[i]? = some (some w) → ∃ v, σ[i]? = some (some v) ∧ RV Γ H μ Z w v
/-- an exception on its way: its class, its dict -/
def RX (Γ : Ct) (H : Hp) (μ : Mu) (Z : Zs) (x : Ex) (cls : Value) (d : Option Addr) : Prop := cls = .ref (Γ.cls x.c) ∧ ∃ dd v, d = some dd ∧ H dd = some (.xd [(x.f, v)]) ∧ Fz μ Z dd ∧ RV Γ H μ Z x.w v
section
variable {Γ : Ct} {H H1 H' : Hp} {μ μ1 μ' : Mu} {Z Z' : Zs} {ρ : Env} {σ : L2.St} {s : Sto} {p : Addr} {o : HO}
theorem RE.mono (e : Evo H μ H' μ') (h : RE Γ H μ Z ρ σ) : RE Γ H' μ' Z ρ σ := ⟨h.1, fun i w q => by
  obtain ⟨v, h1, h2⟩ := h.2 i w q
  exact ⟨v, h1, h2.mono e⟩⟩
theorem RE.set {w : Dv} {v : V} (i : Nat) (h : RE Γ H μ Z ρ σ) (r : RV Γ H μ Z w v) : RE Γ H μ Z (ρ.set i (some w)) (σ.set i (some v)) := by
  refine ⟨by rw [List.length_set, List.length_set]; exact h.1, fun j u q => ?_⟩
  by_cases e : i = j
  · subst e
    have hl : i < ρ.length := by
      have := (List.getElem?_eq_some_iff.mp q).1
      simpa using this
    rw [List.getElem?_set_self hl] at q
    cases q
    exact ⟨v, List.getElem?_set_self (by rw [← h.1]; exact hl), r⟩
  · rw [List.getElem?_set_ne e] at q
    rw [List.getElem?_set_ne e]
    exact h.2 j u q
theorem RE.del (i : Nat) (h : RE Γ H μ Z ρ σ) : RE Γ H μ Z (ρ.set i none) (σ.set i none) := by
  refine ⟨by rw [List.length_set, List.length_set]; exact h.1, fun j u q => ?_⟩
  by_cases e : i = j
  · subst e
    have hl : i < ρ.length := by
      have := (List.getElem?_eq_some_iff.mp q).1
      simpa using this
    rw [List.getElem?_set_self hl] at q
    cases q
  · rw [List.getElem?_set_ne e] at q
    rw [List.getElem?_set_ne e]
    exact h.2 j u q
theorem RE.weak (h : ∀ a, Z a → Z' a) (r : RE Γ H μ Z' ρ σ) : RE Γ H μ Z ρ σ := ⟨r.1, fun i w q => by
  obtain ⟨v, h1, h2⟩ := r.2 i w q
  exact ⟨v, h1, h2.weak h⟩⟩
theorem RX.mono {x : Ex} {cls : Value} {d : Option Addr} (e : Evo H μ H' μ') (h : RX Γ H μ Z x cls d) : RX Γ H' μ' Z x cls d := by
  obtain ⟨h1, dd, v, h2, h3, h4, h5⟩ := h
  exact ⟨h1, dd, v, h2, e.keep _ _ h3 h4.1, e.fz (by rw [h3]; intro z; cases z) h4, h5.mono e⟩
/-- the store's objects stay where the heap grows beside them -/
theorem Rep.keep (R : Rep Γ H μ Z s) (e : Evo H μ H' μ) (h : ∀ n a, μ n = some a → H' a = H a) : Rep Γ H' μ Z s := ⟨fun n o q => by
  obtain ⟨a, h1, h2, h3⟩ := R.at n o q
  refine ⟨a, h1, h2, ?_⟩
  cases o with
  | lst ws =>
    obtain ⟨xs, h4, h5⟩ := h3
    exact ⟨xs, (h n a h1).trans h4, h5.mono e⟩
  | dct kws =>
    obtain ⟨kvs, h4, h5, h6⟩ := h3
    exact ⟨kvs, (h n a h1).trans h4, h5, h6.mono e⟩
  | obj c fs =>
    obtain ⟨dx, kvs, h4, h5, h6⟩ := h3
    exact ⟨dx, kvs, (h n a h1).trans h4, h5, h6.mono e⟩
  | tab m q => exact ⟨h3.1, tab_imp (h n a h1) (fun c e1 e2 => ⟨e.keep _ _ e1 e2.1, e.fz (by rw [e1]; intro z; cases z) e2⟩) h3.2⟩, R.inj, R.dom, fun a q => e.alive (R.za a q)⟩
theorem RO.alive {a : Addr} {o : Ob} (h : RO Γ H μ Z a o) : H a ≠ none := by
  cases o with
  | lst ws => obtain ⟨_, h, _⟩ := h; rw [h]; intro z; cases z
  | dct kws => obtain ⟨_, h, _⟩ := h; rw [h]; intro z; cases z
  | obj c fs => obtain ⟨_, _, h, _⟩ := h; rw [h]; intro z; cases z
  | tab m q => obtain ⟨_, _, h, _⟩ := h; rw [h]; intro z; cases z
theorem Rep.alive (R : Rep Γ H μ Z s) {n : Nat} {a : Addr} (h : μ n = some a) : H a ≠ none := by
  have hl := R.dom n a h
  obtain ⟨b, h1, _, h3⟩ := R.at n _ (List.getElem?_eq_getElem hl)
  rw [h] at h1
  cases h1
  exact h3.alive
theorem Rep.notZ (R : Rep Γ H μ Z s) {n : Nat} {a : Addr} (h : μ n = some a) : ¬ Z a := by
  have hl := R.dom n a h
  obtain ⟨b, h1, h2, h3⟩ := R.at n _ (List.getElem?_eq_getElem hl)
  rw [h] at h1
  cases h1
  exact h2
theorem Rep.laid (R : Rep Γ H μ Z s) (hp : H p = none) : Rep Γ (upd H p o) μ Z s := R.keep (Evo.laid hp) fun n a h => upd_ne fun e => R.alive h (e ▸ hp)
theorem Rep.fz (R : Rep Γ H μ Z s) (hp : H p = none) : Fz μ Z p := ⟨fun n h => R.alive h hp, fun z => R.za p z hp⟩
end
end MP
set_option Elab.async false
set_option linter.all false
set_option maxRecDepth 100000
set_option maxHeartbeats 4000000
namespace MP
open PySem PySem.Spec PyProof.Rows L2
section
variable (Γ : Ct) (W : WX) (H : Hp) (μ : Mu) (Z : Zs) (σ : L2.St)
def PostE (Q : VK) : R Dv → Prop
  | .ok w s' => ∀ v H' μ', Evo H μ H' μ' → Rep Γ H' μ' Z s' → RV Γ H' μ' Z w v → Q v H'
  | .er x s' => ∀ cls d H' μ', Evo H μ H' μ' → Rep Γ H' μ' Z s' → RX Γ H' μ' Z x cls d → W cls d σ H'
  | .no => False
def PostT (Q : Bool → Hp → Prop) : R Bool → Prop
  | .ok b s' => ∀ H' μ', Evo H μ H' μ' → Rep Γ H' μ' Z s' → Q b H'
  | .er x s' => ∀ cls d H' μ', Evo H μ H' μ' → Rep Γ H' μ' Z s' → RX Γ H' μ' Z x cls d → W cls d σ H'
  | .no => False
def PostA (Q : List V → Hp → Prop) : R (List Dv) → Prop
  | .ok ws s' => ∀ vs H' μ', Evo H μ H' μ' → Rep Γ H' μ' Z s' → RVs Γ H' μ' Z ws vs → Q vs H'
  | .er x s' => ∀ cls d H' μ', Evo H μ H' μ' → Rep Γ H' μ' Z s' → RX Γ H' μ' Z x cls d → W cls d σ H'
  | .no => False
def PostS (D : Ends) : C → Prop
  | .nx ρ' s' => ∀ σ' H' μ', Evo H μ H' μ' → Rep Γ H' μ' Z s' → RE Γ H' μ' Z ρ' σ' → D.nx σ' H'
  | .bk ρ' s' => ∀ σ' H' μ', Evo H μ H' μ' → Rep Γ H' μ' Z s' → RE Γ H' μ' Z ρ' σ' → D.bk σ' H'
  | .ct ρ' s' => ∀ σ' H' μ', Evo H μ H' μ' → Rep Γ H' μ' Z s' → RE Γ H' μ' Z ρ' σ' → D.ct σ' H'
  | .rt w s' => ∀ v H' μ', Evo H μ H' μ' → Rep Γ H' μ' Z s' → RV Γ H' μ' Z w v → D.rt v H'
  | .er x ρ' s' => ∀ cls d σ' H' μ', Evo H μ H' μ' → Rep Γ H' μ' Z s' → RE Γ H' μ' Z ρ' σ' → RX Γ H' μ' Z x cls d → W cls d σ' H'
  | .no => False
end
def rdE (Γ : Ct) (W : WX) (f : FE) : TE := fun σ H Q => ∃ μ Z ρ s, RE Γ H μ Z ρ σ ∧ Rep Γ H μ Z s ∧ PostE Γ W H μ Z σ Q (f ρ s)
def rdT (Γ : Ct) (W : WX) (f : FT) : TT := fun σ H Q => ∃ μ Z ρ s, RE Γ H μ Z ρ σ ∧ Rep Γ H μ Z s ∧ PostT Γ W H μ Z σ Q (f ρ s)
def rdA (Γ : Ct) (W : WX) (f : FA) : TA := fun σ H Q => ∃ μ Z ρ s, RE Γ H μ Z ρ σ ∧ Rep Γ H μ Z s ∧ PostA Γ W H μ Z σ Q (f ρ s)
def rdS (Γ : Ct) (W : WX) (f : FS) : TS := fun D σ H => ∃ μ Z ρ s, RE Γ H μ Z ρ σ ∧ Rep Γ H μ Z s ∧ PostS Γ W H μ Z D (f ρ s)
def ME (X : Cx) (Γ : Ct) (W : WX) (e : Expr) (f : FE) : Prop := PE X e (rdE Γ W f)
def MT (X : Cx) (Γ : Ct) (W : WX) (e : Expr) (f : FT) : Prop := PT X e (rdT Γ W f)
def MW (X : Cx) (Γ : Ct) (W : WX) (e : Expr) (f : FT) : Prop := PW X e (rdT Γ W f)
def MA (X : Cx) (Γ : Ct) (W : WX) (es : List Expr) (f : FA) : Prop := PA X es (rdA Γ W f)
def MS (X : Cx) (Γ : Ct) (W : WX) (st : Stmt) (f : FS) : Prop := PS X st (rdS Γ W f)
def MB (X : Cx) (Γ : Ct) (W : WX) (st : List Stmt) (f : FS) : Prop := PSs X st (rdS Γ W f)
theorem PE.imp {X : Cx} {e : Expr} {t t' : TE} (h : PE X e t) (k : ∀ σ H Q, t' σ H Q → t σ H Q) : PE X e t' := ⟨fun pins s σ H Q I q => h.run pins s σ H Q I (k σ H Q q)⟩
theorem PT.imp {X : Cx} {e : Expr} {t t' : TT} (h : PT X e t) (k : ∀ σ H Q, t' σ H Q → t σ H Q) : PT X e t' := ⟨fun pins s σ H Q I q => h.run pins s σ H Q I (k σ H Q q)⟩
theorem PW.imp {X : Cx} {e : Expr} {t t' : TT} (h : PW X e t) (k : ∀ σ H Q, t' σ H Q → t σ H Q) : PW X e t' := ⟨fun wh pins s σ H Q I q => h.run wh pins s σ H Q I (k σ H Q q)⟩
theorem PA.imp {X : Cx} {e : List Expr} {t t' : TA} (h : PA X e t) (k : ∀ σ H Q, t' σ H Q → t σ H Q) : PA X e t' := ⟨fun pos pins s σ H Q I q => h.run pos pins s σ H Q I (k σ H Q q)⟩
theorem PS.imp {X : Cx} {e : Stmt} {t t' : TS} (h : PS X e t) (k : ∀ D σ H, t' D σ H → t D σ H) : PS X e t' := ⟨fun pins s σ H D I q => h.run pins s σ H D I (k D σ H q)⟩
theorem PSs.imp {X : Cx} {e : List Stmt} {t t' : TS} (h : PSs X e t) (k : ∀ D σ H, t' D σ H → t D σ H) : PSs X e t' := ⟨fun pins s σ H D I q => h.run pins s σ H D I (k D σ H q)⟩
theorem PE.or {X : Cx} {e : Expr} {t t' : TE} (h : PE X e t) (h' : PE X e t') : PE X e (fun σ H Q => t σ H Q ∨ t' σ H Q) := ⟨fun pins s σ H Q I q => q.elim (h.run pins s σ H Q I) (h'.run pins s σ H Q I)⟩
theorem OpR.or2 {X : Cx} {f : Value → Value → Sem Value} {r r' : R2} (h : OpR X f r) (h' : OpR X f r') : OpR X f (fun x y H Q => r x y H Q ∨ r' x y H Q) := fun pins s σ H x y v u Q I rx ry q => q.elim (h pins s σ H x y v u Q I rx ry) (h' pins s σ H x y v u Q I rx ry)
theorem CallR.or2 {X : Cx} {f : Value} {r r' : List V → Hp → VK → Prop} (h : CallR X f r) (h' : CallR X f r') : CallR X f (fun x H Q => r x H Q ∨ r' x H Q) := fun pins s σ H x v Q I rx q => q.elim (h pins s σ H x v Q I rx) (h' pins s σ H x v Q I rx)
def R.thenC {α : Type} (r : R α) (ρ : Env) (k : α → Sto → C) : C := match r with
  | .ok a s => k a s | .er x s => .er x ρ s | .no => .no
def R.of {α : Type} (o : Option α) (s : Sto) : R α := match o with
  | some a => .ok a s | none => .no
section
variable {Γ : Ct} {W : WX} {H H1 : Hp} {μ μ1 : Mu} {Z : Zs} {σ : L2.St} {ρ : Env} {s : Sto}
theorem PostE.evo {Q : VK} {r : R Dv} (e : Evo H μ H1 μ1) (h : PostE Γ W H μ Z σ Q r) : PostE Γ W H1 μ1 Z σ Q r := by
  cases r with
  | ok w s' => exact fun v H' μ' e' => h v H' μ' (e.trans e')
  | er x s' => exact fun c d H' μ' e' => h c d H' μ' (e.trans e')
  | no => exact h
theorem PostT.evo {Q : Bool → Hp → Prop} {r : R Bool} (e : Evo H μ H1 μ1) (h : PostT Γ W H μ Z σ Q r) : PostT Γ W H1 μ1 Z σ Q r := by
  cases r with
  | ok w s' => exact fun H' μ' e' => h H' μ' (e.trans e')
  | er x s' => exact fun c d H' μ' e' => h c d H' μ' (e.trans e')
  | no => exact h
theorem PostA.evo {Q : List V → Hp → Prop} {r : R (List Dv)} (e : Evo H μ H1 μ1) (h : PostA Γ W H μ Z σ Q r) : PostA Γ W H1 μ1 Z σ Q r := by
  cases r with
  | ok w s' => exact fun v H' μ' e' => h v H' μ' (e.trans e')
  | er x s' => exact fun c d H' μ' e' => h c d H' μ' (e.trans e')
  | no => exact h
theorem PostS.evo {D : Ends} {r : C} (e : Evo H μ H1 μ1) (h : PostS Γ W H μ Z D r) : PostS Γ W H1 μ1 Z D r := by
  cases r with
  | nx ρ' s' => exact fun v H' μ' e' => h v H' μ' (e.trans e')
  | bk ρ' s' => exact fun v H' μ' e' => h v H' μ' (e.trans e')
  | ct ρ' s' => exact fun v H' μ' e' => h v H' μ' (e.trans e')
  | rt w s' => exact fun v H' μ' e' => h v H' μ' (e.trans e')
  | er x ρ' s' => exact fun c d σ' H' μ' e' => h c d σ' H' μ' (e.trans e')
  | no => exact h
theorem eE {f : FE} {k : Dv → Sto → R Dv} {Q Q' : VK} (hE : RE Γ H μ Z ρ σ) (hR : Rep Γ H μ Z s) (h : PostE Γ W H μ Z σ Q ((f ρ s).bind k))
    (hk : ∀ x s1 v H1 μ1, Evo H μ H1 μ1 → RE Γ H1 μ1 Z ρ σ → Rep Γ H1 μ1 Z s1 → RV Γ H1 μ1 Z x v → PostE Γ W H1 μ1 Z σ Q (k x s1) → Q' v H1) : rdE Γ W f σ H Q' := by
  refine ⟨μ, Z, ρ, s, hE, hR, ?_⟩
  cases e : f ρ s with
  | ok x s1 =>
    rw [e] at h
    exact fun v H1 μ1 ev R1 r1 => hk x s1 v H1 μ1 ev (hE.mono ev) R1 r1 (PostE.evo ev h)
  | er x s1 => rw [e] at h; exact h
  | no => rw [e] at h; exact h.elim
theorem eT {f : FE} {k : Dv → Sto → R Bool} {Q : Bool → Hp → Prop} {Q' : VK} (hE : RE Γ H μ Z ρ σ) (hR : Rep Γ H μ Z s) (h : PostT Γ W H μ Z σ Q ((f ρ s).bind k))
    (hk : ∀ x s1 v H1 μ1, Evo H μ H1 μ1 → RE Γ H1 μ1 Z ρ σ → Rep Γ H1 μ1 Z s1 → RV Γ H1 μ1 Z x v → PostT Γ W H1 μ1 Z σ Q (k x s1) → Q' v H1) : rdE Γ W f σ H Q' := by
  refine ⟨μ, Z, ρ, s, hE, hR, ?_⟩
  cases e : f ρ s with
  | ok x s1 =>
    rw [e] at h
    exact fun v H1 μ1 ev R1 r1 => hk x s1 v H1 μ1 ev (hE.mono ev) R1 r1 (PostT.evo ev h)
  | er x s1 => rw [e] at h; exact h
  | no => rw [e] at h; exact h.elim
theorem eA {f : FE} {k : Dv → Sto → R (List Dv)} {Q : List V → Hp → Prop} {Q' : VK} (hE : RE Γ H μ Z ρ σ) (hR : Rep Γ H μ Z s) (h : PostA Γ W H μ Z σ Q ((f ρ s).bind k))
    (hk : ∀ x s1 v H1 μ1, Evo H μ H1 μ1 → RE Γ H1 μ1 Z ρ σ → Rep Γ H1 μ1 Z s1 → RV Γ H1 μ1 Z x v → PostA Γ W H1 μ1 Z σ Q (k x s1) → Q' v H1) : rdE Γ W f σ H Q' := by
  refine ⟨μ, Z, ρ, s, hE, hR, ?_⟩
  cases e : f ρ s with
  | ok x s1 =>
    rw [e] at h
    exact fun v H1 μ1 ev R1 r1 => hk x s1 v H1 μ1 ev (hE.mono ev) R1 r1 (PostA.evo ev h)
  | er x s1 => rw [e] at h; exact h
  | no => rw [e] at h; exact h.elim
theorem eS {f : FE} {k : Dv → Sto → C} {D : Ends} {Q' : VK} (hE : RE Γ H μ Z ρ σ) (hR : Rep Γ H μ Z s) (h : PostS Γ W H μ Z D ((f ρ s).thenC ρ k))
    (hk : ∀ x s1 v H1 μ1, Evo H μ H1 μ1 → RE Γ H1 μ1 Z ρ σ → Rep Γ H1 μ1 Z s1 → RV Γ H1 μ1 Z x v → PostS Γ W H1 μ1 Z D (k x s1) → Q' v H1) : rdE Γ W f σ H Q' := by
  refine ⟨μ, Z, ρ, s, hE, hR, ?_⟩
  cases e : f ρ s with
  | ok x s1 =>
    rw [e] at h
    exact fun v H1 μ1 ev R1 r1 => hk x s1 v H1 μ1 ev (hE.mono ev) R1 r1 (PostS.evo ev h)
  | er x s1 => rw [e] at h; exact fun c d H' μ' ev R' rx => h c d σ H' μ' ev R' (hE.mono ev) rx
  | no => rw [e] at h; exact h.elim
theorem tE {f : FT} {k : Bool → Sto → R Dv} {Q : VK} {Q' : Bool → Hp → Prop} (hE : RE Γ H μ Z ρ σ) (hR : Rep Γ H μ Z s) (h : PostE Γ W H μ Z σ Q ((f ρ s).bind k))
    (hk : ∀ b s1 H1 μ1, Evo H μ H1 μ1 → RE Γ H1 μ1 Z ρ σ → Rep Γ H1 μ1 Z s1 → PostE Γ W H1 μ1 Z σ Q (k b s1) → Q' b H1) : rdT Γ W f σ H Q' := by
  refine ⟨μ, Z, ρ, s, hE, hR, ?_⟩
  cases e : f ρ s with
  | ok x s1 =>
    rw [e] at h
    exact fun H1 μ1 ev R1 => hk x s1 H1 μ1 ev (hE.mono ev) R1 (PostE.evo ev h)
  | er x s1 => rw [e] at h; exact h
  | no => rw [e] at h; exact h.elim
theorem tT {f : FT} {k : Bool → Sto → R Bool} {Q Q' : Bool → Hp → Prop} (hE : RE Γ H μ Z ρ σ) (hR : Rep Γ H μ Z s) (h : PostT Γ W H μ Z σ Q ((f ρ s).bind k))
    (hk : ∀ b s1 H1 μ1, Evo H μ H1 μ1 → RE Γ H1 μ1 Z ρ σ → Rep Γ H1 μ1 Z s1 → PostT Γ W H1 μ1 Z σ Q (k b s1) → Q' b H1) : rdT Γ W f σ H Q' := by
  refine ⟨μ, Z, ρ, s, hE, hR, ?_⟩
  cases e : f ρ s with
  | ok x s1 =>
    rw [e] at h
    exact fun H1 μ1 ev R1 => hk x s1 H1 μ1 ev (hE.mono ev) R1 (PostT.evo ev h)
  | er x s1 => rw [e] at h; exact h
  | no => rw [e] at h; exact h.elim
theorem tS {f : FT} {k : Bool → Sto → C} {D : Ends} {Q' : Bool → Hp → Prop} (hE : RE Γ H μ Z ρ σ) (hR : Rep Γ H μ Z s) (h : PostS Γ W H μ Z D ((f ρ s).thenC ρ k))
    (hk : ∀ b s1 H1 μ1, Evo H μ H1 μ1 → RE Γ H1 μ1 Z ρ σ → Rep Γ H1 μ1 Z s1 → PostS Γ W H1 μ1 Z D (k b s1) → Q' b H1) : rdT Γ W f σ H Q' := by
  refine ⟨μ, Z, ρ, s, hE, hR, ?_⟩
  cases e : f ρ s with
  | ok x s1 =>
    rw [e] at h
    exact fun H1 μ1 ev R1 => hk x s1 H1 μ1 ev (hE.mono ev) R1 (PostS.evo ev h)
  | er x s1 => rw [e] at h; exact fun c d H' μ' ev R' rx => h c d σ H' μ' ev R' (hE.mono ev) rx
  | no => rw [e] at h; exact h.elim
theorem aE {f : FA} {k : List Dv → Sto → R Dv} {Q : VK} {Q' : List V → Hp → Prop} (hE : RE Γ H μ Z ρ σ) (hR : Rep Γ H μ Z s) (h : PostE Γ W H μ Z σ Q ((f ρ s).bind k))
    (hk : ∀ ws s1 vs H1 μ1, Evo H μ H1 μ1 → RE Γ H1 μ1 Z ρ σ → Rep Γ H1 μ1 Z s1 → RVs Γ H1 μ1 Z ws vs → PostE Γ W H1 μ1 Z σ Q (k ws s1) → Q' vs H1) : rdA Γ W f σ H Q' := by
  refine ⟨μ, Z, ρ, s, hE, hR, ?_⟩
  cases e : f ρ s with
  | ok x s1 =>
    rw [e] at h
    exact fun v H1 μ1 ev R1 r1 => hk x s1 v H1 μ1 ev (hE.mono ev) R1 r1 (PostE.evo ev h)
  | er x s1 => rw [e] at h; exact h
  | no => rw [e] at h; exact h.elim
theorem aA {f : FA} {k : List Dv → Sto → R (List Dv)} {Q : List V → Hp → Prop} {Q' : List V → Hp → Prop} (hE : RE Γ H μ Z ρ σ) (hR : Rep Γ H μ Z s) (h : PostA Γ W H μ Z σ Q ((f ρ s).bind k))
    (hk : ∀ ws s1 vs H1 μ1, Evo H μ H1 μ1 → RE Γ H1 μ1 Z ρ σ → Rep Γ H1 μ1 Z s1 → RVs Γ H1 μ1 Z ws vs → PostA Γ W H1 μ1 Z σ Q (k ws s1) → Q' vs H1) : rdA Γ W f σ H Q' := by
  refine ⟨μ, Z, ρ, s, hE, hR, ?_⟩
  cases e : f ρ s with
  | ok x s1 =>
    rw [e] at h
    exact fun v H1 μ1 ev R1 r1 => hk x s1 v H1 μ1 ev (hE.mono ev) R1 r1 (PostA.evo ev h)
  | er x s1 => rw [e] at h; exact h
  | no => rw [e] at h; exact h.elim
theorem aS {f : FA} {k : List Dv → Sto → C} {D : Ends} {Q' : List V → Hp → Prop} (hE : RE Γ H μ Z ρ σ) (hR : Rep Γ H μ Z s) (h : PostS Γ W H μ Z D ((f ρ s).thenC ρ k))
    (hk : ∀ ws s1 vs H1 μ1, Evo H μ H1 μ1 → RE Γ H1 μ1 Z ρ σ → Rep Γ H1 μ1 Z s1 → RVs Γ H1 μ1 Z ws vs → PostS Γ W H1 μ1 Z D (k ws s1) → Q' vs H1) : rdA Γ W f σ H Q' := by
  refine ⟨μ, Z, ρ, s, hE, hR, ?_⟩
  cases e : f ρ s with
  | ok x s1 =>
    rw [e] at h
    exact fun v H1 μ1 ev R1 r1 => hk x s1 v H1 μ1 ev (hE.mono ev) R1 r1 (PostS.evo ev h)
  | er x s1 => rw [e] at h; exact fun c d H' μ' ev R' rx => h c d σ H' μ' ev R' (hE.mono ev) rx
  | no => rw [e] at h; exact h.elim
theorem okE {w : Dv} {Q : VK} {v : V} (hR : Rep Γ H μ Z s) (r : RV Γ H μ Z w v) (h : PostE Γ W H μ Z σ Q (.ok w s)) : Q v H := h v H μ .refl hR r
theorem okT {b : Bool} {Q : Bool → Hp → Prop} (hR : Rep Γ H μ Z s) (h : PostT Γ W H μ Z σ Q (.ok b s)) : Q b H := h H μ .refl hR
/-- a value at a new address -/
theorem newE {w : Dv} {Q : VK} {p : Addr} {o : HO} (hR : Rep Γ H μ Z s) (hp : H p = none) (r : RV Γ (upd H p o) μ Z w (.ref p)) (h : PostE Γ W H μ Z σ Q (.ok w s)) : Q (.ref p) (upd H p o) := h _ _ μ (Evo.laid hp) (hR.laid hp) r
end
section
variable {X : Cx} {Γ : Ct} {W : WX}
def mVar (i : Nat) : FE := fun ρ s => match ρ[i]? with
  | some (some w) => .ok w s
  | _ => .no
def mK (w : Dv) : FE := fun _ s => .ok w s
theorem me_var {i : Nat} {e : Expr} (h : PE X e (tVar i)) : ME X Γ W e (mVar i) := PE.imp h fun σ H Q ⟨μ, Z, ρ, s, hE, hR, q⟩ => by
  unfold mVar at q
  split at q
  · rename_i w e
    obtain ⟨v, h1, h2⟩ := hE.2 i w e
    exact ⟨v, h1, okE hR h2 q⟩
  · exact q.elim
theorem me_int {i : Int} {j pos} : ME X Γ W (.Constant (.int i) j pos) (mK (.int i)) := PE.imp pe_int fun σ H Q ⟨μ, Z, ρ, s, hE, hR, q⟩ => okE (w := .int i) hR rfl q
theorem me_bl {i : Bool} {j pos} : ME X Γ W (.Constant (.bool i) j pos) (mK (.bl i)) := PE.imp pe_bl fun σ H Q ⟨μ, Z, ρ, s, hE, hR, q⟩ => okE (w := .bl i) hR rfl q
theorem me_str {i : Str} {j pos} : ME X Γ W (.Constant (.str i) j pos) (mK (.str i)) := PE.imp pe_str fun σ H Q ⟨μ, Z, ρ, s, hE, hR, q⟩ => okE (w := .str i) hR rfl q
theorem me_non {j pos} : ME X Γ W (.Constant .none j pos) (mK .non) := PE.imp pe_non fun σ H Q ⟨μ, Z, ρ, s, hE, hR, q⟩ => okE (w := .non) hR rfl q
/-- a module's constant: an int, a class -/
theorem me_globI {x : Str} {i : Int} {t : Tok} {pos : Pos} (hg : Gl X x) (hm : X.mg x = some (.int i t)) (hd : (x == ("__debug__" : Str)) = false := by decide) : ME X Γ W (.Name x pos) (mK (.int i)) :=
  PE.imp (pe_glob (v := .int i) hg hm ⟨t, rfl⟩ hd) fun σ H Q ⟨μ, Z, ρ, s, hE, hR, q⟩ => okE (w := .int i) hR rfl q
theorem me_ty {x : Str} {n : String} {pos : Pos} (hg : Gl X x) (hm : X.mg x = none) (hv : bootBuiltins x = some (.type n)) (hn : x ≠ "__name__" := by decide) (hd : (x == ("__debug__" : Str)) = false := by decide) : ME X Γ W (.Name x pos) (mK (.ty n)) :=
  PE.imp (pe_bltn (v := .ty n) hg hm hv rfl hn hd) fun σ H Q ⟨μ, Z, ρ, s, hE, hR, q⟩ => okE (w := .ty n) hR rfl q
abbrev O2 := Sto → Dv → Dv → Option Dv
abbrev O1 := Sto → Dv → Option Dv
def mBin (op : O2) (f g : FE) : FE := fun ρ s => (f ρ s).bind fun x s1 => (g ρ s1).bind fun y s2 => R.of (op s2 x y) s2
def mUn (op : O1) (f : FE) : FE := fun ρ s => (f ρ s).bind fun x s1 => R.of (op s1 x) s1
/-- what an operator gives: its rule r is met -/
def Op2 (Γ : Ct) (r : R2) (op : O2) : Prop := ∀ (H : Hp) (μ : Mu) (Z : Zs) (s : Sto) (x y w : Dv) (u v : V) (Q : VK), Rep Γ H μ Z s → RV Γ H μ Z x u → RV Γ H μ Z y v → op s x y = some w →
  (∀ v' H', Evo H μ H' μ → Rep Γ H' μ Z s → RV Γ H' μ Z w v' → Q v' H') → r u v H Q
def Op1 (Γ : Ct) (r : V → Hp → VK → Prop) (op : O1) : Prop := ∀ (H : Hp) (μ : Mu) (Z : Zs) (s : Sto) (x w : Dv) (u : V) (Q : VK), Rep Γ H μ Z s → RV Γ H μ Z x u → op s x = some w →
  (∀ v' H', Evo H μ H' μ → Rep Γ H' μ Z s → RV Γ H' μ Z w v' → Q v' H') → r u H Q
theorem ofE {H : Hp} {μ : Mu} {Z : Zs} {σ : L2.St} {s : Sto} {o : Option Dv} {Q : VK} (h : PostE Γ W H μ Z σ Q (R.of o s)) : ∃ w, o = some w ∧ ∀ v' H', Evo H μ H' μ → Rep Γ H' μ Z s → RV Γ H' μ Z w v' → Q v' H' := by
  cases o with
  | none => exact h.elim
  | some w => exact ⟨w, rfl, fun v' H' e R r => h v' H' μ e R r⟩
variable {a b c : Expr} {f g h' : FE} {pos : Pos}
theorem me_op {op : Operator} {r : R2} {o : O2} (ho : OpR X (binaryOp op) r) (hs : Op2 Γ r o) (ha : ME X Γ W a f) (hb : ME X Γ W b g) : ME X Γ W (.BinOp a op b pos) (mBin o f g) :=
  PE.imp (pe_op ho ha hb) fun σ H Q ⟨μ, Z, ρ, s, hE, hR, q⟩ => eE hE hR q fun x s1 u H1 μ1 e1 hE1 R1 r1 q1 => eE hE1 R1 q1 fun y s2 v H2 μ2 e2 hE2 R2 r2 q2 => by
    obtain ⟨w, hw, k⟩ := ofE q2
    exact hs H2 μ2 Z s2 x y w u v Q R2 (r1.mono e2) r2 hw k
theorem me_cmp {op : CmpOp} {r : R2} {o : O2} (ho : OpR X (compareOp op) r) (hs : Op2 Γ r o) (hm : behindInMarks op b = false) (ha : ME X Γ W a f) (hb : ME X Γ W b g) : ME X Γ W (.Compare a [op] [b] pos) (mBin o f g) :=
  PE.imp (pe_cmpR ho ha hb hm) fun σ H Q ⟨μ, Z, ρ, s, hE, hR, q⟩ => eE hE hR q fun x s1 u H1 μ1 e1 hE1 R1 r1 q1 => eE hE1 R1 q1 fun y s2 v H2 μ2 e2 hE2 R2 r2 q2 => by
    obtain ⟨w, hw, k⟩ := ofE q2
    exact hs H2 μ2 Z s2 x y w u v Q R2 (r1.mono e2) r2 hw k
theorem me_un {op : UnaryOp} {r : V → Hp → VK → Prop} {o : O1} (ho : UnR X (unaryOp op) r) (hs : Op1 Γ r o) (ha : ME X Γ W a f) : ME X Γ W (.UnaryOp op a pos) (mUn o f) :=
  PE.imp (pe_un ho ha) fun σ H Q ⟨μ, Z, ρ, s, hE, hR, q⟩ => eE hE hR q fun x s1 u H1 μ1 e1 hE1 R1 r1 q1 => by
    obtain ⟨w, hw, k⟩ := ofE q1
    exact hs H1 μ1 Z s1 x w u Q R1 r1 hw k
/-- a < b < c -/
def mChain (o o' : O2) (f g h : FE) : FE := fun ρ s => (f ρ s).bind fun x s1 => (g ρ s1).bind fun y s2 => match o s2 x y with
  | some (.bl true) => (h ρ s2).bind fun z s3 => R.of (o' s3 y z) s3
  | some (.bl false) => .ok (.bl false) s2
  | _ => .no
theorem me_chain {op op' : CmpOp} {r r' : R2} {o o' : O2} (ho : OpR X (compareOp op) r) (ho' : OpR X (compareOp op') r') (hs : Op2 Γ r o) (hs' : Op2 Γ r' o') (hm : lastMarks [op, op'] [b, c] = false)
    (ha : ME X Γ W a f) (hb : ME X Γ W b g) (hc : ME X Γ W c h') : ME X Γ W (.Compare a [op, op'] [b, c] pos) (mChain o o' f g h') :=
  PE.imp (pe_chain ho ho' ha hb hc hm) fun σ H Q ⟨μ, Z, ρ, s, hE, hR, q⟩ => eE hE hR q fun x s1 u H1 μ1 e1 hE1 R1 r1 q1 => eE hE1 R1 q1 fun y s2 v H2 μ2 e2 hE2 R2 r2 q2 => by
    cases hw : o s2 x y with
    | none => rw [hw] at q2; exact q2.elim
    | some w =>
      rw [hw] at q2
      refine hs H2 μ2 Z s2 x y w u v _ R2 (r1.mono e2) r2 hw fun z H3 e3 R3 r3 => ?_
      cases w with
      | bl k =>
        refine ⟨k, r3, ?_⟩
        cases k with
        | true =>
          rw [if_pos rfl]
          exact eE (hE2.mono e3) R3 (PostE.evo e3 q2) fun z' s3 v3 H4 μ4 e4 hE4 R4 r4 q4 => by
            obtain ⟨w', hw', k'⟩ := ofE q4
            exact hs' H4 μ4 Z s3 y z' w' v v3 Q R4 ((r2.mono e3).mono e4) r4 hw' k'
        | false =>
          rw [if_neg Bool.false_ne_true]
          exact okE R3 (w := .bl false) rfl (PostE.evo e3 q2)
      | _ => exact q2.elim
def mTest (f : FE) : FT := fun ρ s => (f ρ s).bind fun x s1 => match x with
  | .bl b => .ok b s1
  | _ => .no
theorem mt_of {e : Expr} (h : ∀ (t : TE), PE X e t → PT X e (tTest t)) (ha : ME X Γ W e f) : MT X Γ W e (mTest f) :=
  PT.imp (h _ ha) fun σ H Q ⟨μ, Z, ρ, s, hE, hR, q⟩ => eT hE hR q fun x s1 u H1 μ1 e1 hE1 R1 r1 q1 => by
    cases x with
    | bl b => exact ⟨b, r1, okT R1 q1⟩
    | _ => exact q1.elim
theorem mt_val {e : Expr} (ha : ME X Γ W e f) (he : ∀ whole, isTrue e X.env whole = (do let v ← whole; standAt e.pos; holding [v] (truthy v)) := by intro _; rfl) : MT X Γ W e (mTest f) :=
  mt_of (fun t h => pt_val h he) ha
theorem mt_cmp {op : CmpOp} {r : R2} {o : O2} (ho : OpR X (compareOp op) r) (hs : Op2 Γ r o) (hm : behindInMarks op b = false) (ha : ME X Γ W a f) (hb : ME X Γ W b g) : MT X Γ W (.Compare a [op] [b] pos) (mTest (mBin o f g)) :=
  PT.imp (pt_cmpR ho ha hb hm) fun σ H Q ⟨μ, Z, ρ, s, hE, hR, q⟩ => by
    have q' : PostT Γ W H μ Z σ Q ((f ρ s).bind fun x s1 => (g ρ s1).bind fun y s2 => (R.of (o s2 x y) s2).bind fun x s1 => match x with
      | .bl b => .ok b s1
      | _ => .no) := by
      unfold mTest mBin at q
      revert q
      cases f ρ s with
      | ok x s1 =>
        dsimp only [R.bind]
        cases g ρ s1 <;> exact id
      | er x s1 => exact id
      | no => exact id
    exact eT hE hR q' fun x s1 u H1 μ1 e1 hE1 R1 r1 q1 => eT hE1 R1 q1 fun y s2 v H2 μ2 e2 hE2 R2 r2 q2 => by
      cases hw : o s2 x y with
      | none => rw [hw] at q2; exact q2.elim
      | some w =>
        rw [hw] at q2
        refine hs H2 μ2 Z s2 x y w u v _ R2 (r1.mono e2) r2 hw fun z H3 e3 R3 r3 => ?_
        cases w with
        | bl k => exact ⟨k, r3, okT R3 (PostT.evo e3 q2)⟩
        | _ => exact q2.elim
def mAnd (t u : FT) : FT := fun ρ s => (t ρ s).bind fun c s1 => if c = true then u ρ s1 else .ok false s1
def mOr (t u : FT) : FT := fun ρ s => (t ρ s).bind fun c s1 => if c = true then .ok true s1 else u ρ s1
def mNot (t : FT) : FT := fun ρ s => (t ρ s).bind fun c s1 => .ok (!c) s1
variable {t u : FT} {rest : List Expr}
theorem mw_and1 (ha : MT X Γ W a t) : MW X Γ W (.BoolOp .And [a] pos) t := pw_and1 ha
theorem mw_or1 (ha : MT X Γ W a t) : MW X Γ W (.BoolOp .Or [a] pos) t := pw_or1 ha
theorem ifT {H : Hp} {μ : Mu} {Z : Zs} {σ : L2.St} {ρ : Env} {s : Sto} {Q : Bool → Hp → Prop} {v : FT} (hE : RE Γ H μ Z ρ σ) (hR : Rep Γ H μ Z s) (q : PostT Γ W H μ Z σ Q (v ρ s)) : rdT Γ W v σ H Q := ⟨μ, Z, ρ, s, hE, hR, q⟩
theorem ifE {H : Hp} {μ : Mu} {Z : Zs} {σ : L2.St} {ρ : Env} {s : Sto} {Q : VK} {v : FE} (hE : RE Γ H μ Z ρ σ) (hR : Rep Γ H μ Z s) (q : PostE Γ W H μ Z σ Q (v ρ s)) : rdE Γ W v σ H Q := ⟨μ, Z, ρ, s, hE, hR, q⟩
theorem mw_and (ha : MT X Γ W a t) (hb : MW X Γ W (.BoolOp .And (b :: rest) pos) u) : MW X Γ W (.BoolOp .And (a :: b :: rest) pos) (mAnd t u) :=
  PW.imp (pw_and ha hb) fun σ H Q ⟨μ, Z, ρ, s, hE, hR, q⟩ => tT hE hR q fun c s1 H1 μ1 e1 hE1 R1 q1 => by
    cases c with
    | true => rw [if_pos rfl] at q1 ⊢; exact ifT hE1 R1 q1
    | false => rw [if_neg Bool.false_ne_true] at q1 ⊢; exact okT R1 q1
theorem mw_or (ha : MT X Γ W a t) (hb : MW X Γ W (.BoolOp .Or (b :: rest) pos) u) : MW X Γ W (.BoolOp .Or (a :: b :: rest) pos) (mOr t u) :=
  PW.imp (pw_or ha hb) fun σ H Q ⟨μ, Z, ρ, s, hE, hR, q⟩ => tT hE hR q fun c s1 H1 μ1 e1 hE1 R1 q1 => by
    cases c with
    | true => rw [if_pos rfl] at q1 ⊢; exact okT R1 q1
    | false => rw [if_neg Bool.false_ne_true] at q1 ⊢; exact ifT hE1 R1 q1
theorem mt_w {e : Expr} (h : MW X Γ W e t) : MT X Γ W e t := PW.pt h
theorem mt_not (ha : MT X Γ W a t) : MT X Γ W (.UnaryOp .Not a pos) (mNot t) :=
  PT.imp (pt_not ha) fun σ H Q ⟨μ, Z, ρ, s, hE, hR, q⟩ => tT hE hR q fun c s1 H1 μ1 e1 hE1 R1 q1 => okT R1 q1
/-- and, or, not as values: bools -/
def mAndV (f g : FE) : FE := fun ρ s => (f ρ s).bind fun x s1 => match x with
  | .bl true => g ρ s1
  | .bl false => .ok (.bl false) s1
  | _ => .no
def mOrV (f g : FE) : FE := fun ρ s => (f ρ s).bind fun x s1 => match x with
  | .bl false => g ρ s1
  | .bl true => .ok (.bl true) s1
  | _ => .no
def mNotV (f : FE) : FE := fun ρ s => (f ρ s).bind fun x s1 => match x with
  | .bl c => .ok (.bl (!c)) s1
  | _ => .no
theorem me_one {op} (h : ME X Γ W a f) : ME X Γ W (.BoolOp op [a] pos) f := pe_one h
theorem me_and (ha : ME X Γ W a f) (hb : ME X Γ W (.BoolOp .And (b :: rest) pos) g) : ME X Γ W (.BoolOp .And (a :: b :: rest) pos) (mAndV f g) :=
  PE.imp (pe_and ha hb) fun σ H Q ⟨μ, Z, ρ, s, hE, hR, q⟩ => eE hE hR q fun x s1 u H1 μ1 e1 hE1 R1 r1 q1 => by
    cases x with
    | bl c =>
      refine ⟨c, r1, ?_⟩
      cases c with
      | true => rw [if_pos rfl]; exact ifE hE1 R1 q1
      | false => rw [if_neg Bool.false_ne_true]; exact okE (w := .bl false) R1 rfl q1
    | _ => exact q1.elim
def mIf (t : FT) (f g : FE) : FE := fun ρ s => (t ρ s).bind fun c s1 => if c = true then f ρ s1 else g ρ s1
theorem me_if {c : Expr} (hc : MT X Γ W c t) (ha : ME X Γ W a f) (hb : ME X Γ W b g) : ME X Γ W (.IfExp c a b pos) (mIf t f g) :=
  PE.imp (pe_ifExp hc ha hb) fun σ H Q ⟨μ, Z, ρ, s, hE, hR, q⟩ => tE hE hR q fun c s1 H1 μ1 e1 hE1 R1 q1 => by
    cases c with
    | true => rw [if_pos rfl] at q1 ⊢; exact ifE hE1 R1 q1
    | false => rw [if_neg Bool.false_ne_true] at q1 ⊢; exact ifE hE1 R1 q1
def mNil : FA := fun _ s => .ok [] s
def mCons (f : FE) (g : FA) : FA := fun ρ s => (f ρ s).bind fun x s1 => (g ρ s1).bind fun xs s2 => .ok (x :: xs) s2
theorem ma_nil : MA X Γ W [] mNil := PA.imp pa_nil fun σ H Q ⟨μ, Z, ρ, s, hE, hR, q⟩ => q _ H μ .refl hR rfl
theorem ma_cons {e : Expr} {es : List Expr} {g : FA} (ha : ME X Γ W e f) (hr : MA X Γ W es g) (hs : starEach (e :: es) X.env = (false, eval e X.env) :: starEach es X.env := by rfl) : MA X Γ W (e :: es) (mCons f g) :=
  PA.imp (pa_cons ha hr hs) fun σ H Q ⟨μ, Z, ρ, s, hE, hR, q⟩ => eA hE hR q fun x s1 u H1 μ1 e1 hE1 R1 r1 q1 => aA hE1 R1 q1 fun ws s2 vs H2 μ2 e2 hE2 R2 r2 q2 =>
    q2 _ H2 μ2 .refl R2 (RVs.cons (r1.mono e2) r2)
def mTup (g : FA) : FE := fun ρ s => (g ρ s).bind fun ws s1 => if ws.length ≤ lim then .ok (.tup ws) s1 else .no
def mLst (g : FA) : FE := fun ρ s => (g ρ s).bind fun ws s1 => if ws.length ≤ lim then .ok (.lst ws) s1 else .no
/-- a list that will be changed: an object of the store -/
def mLstM (g : FA) : FE := fun ρ s => (g ρ s).bind fun ws s1 => if ws.length ≤ lim then .ok (.ref s1.length) (s1 ++ [.lst ws]) else .no
theorem lim_ok {n : Nat} (h : n ≤ lim) : n ≤ sizeLine := Nat.le_trans h (by rw [sizeLine_eq]; decide)
theorem lim_lt {n : Nat} (h : n ≤ lim) : n < sizeLine := Nat.lt_of_le_of_lt h (by rw [sizeLine_eq]; decide)
section
variable {H : Hp} {μ : Mu} {Z : Zs} {s : Sto} {p : Addr} {ws : List Dv} {vs : List V}
theorem new_tup (hR : Rep Γ H μ Z s) (hp : H p = none) (r : RVs Γ H μ Z ws vs) : RV Γ (upd H p (.tup vs)) μ Z (.tup ws) (.ref p) :=
  ⟨p, vs, rfl, .inl ⟨.inl upd_same, hR.fz hp⟩, r.mono (Evo.laid hp)⟩
theorem new_lst (hR : Rep Γ H μ Z s) (hp : H p = none) (r : RVs Γ H μ Z ws vs) : RV Γ (upd H p (.lst vs)) μ Z (.lst ws) (.ref p) :=
  ⟨p, vs, rfl, upd_same, hR.fz hp, r.mono (Evo.laid hp)⟩
/-- a new object of the store -/
def ext (μ : Mu) (n : Nat) (p : Addr) : Mu := fun m => if m = n then some p else μ m
theorem Evo.ext {o : HO} (hp : H p = none) (hn : μ n = none) : Evo H μ (upd H p o) (ext μ n p) where
  keep := fun a o h _ => by rw [upd_ne (ne_of_none h hp)]; exact h
  mu := fun m a h => by
    unfold MP.ext
    rw [if_neg fun e => by rw [e, hn] at h; cases h]
    exact h
  new := fun m a h => by
    unfold MP.ext at h
    split at h
    · cases h; exact .inr hp
    · exact .inl h
  stay := fun m a h q => by
    by_cases e : a = p
    · subst e; exact absurd hp q
    · rw [upd_ne e]; exact q
theorem Rep.mu_new (hR : Rep Γ H μ Z s) : μ s.length = none := by
  cases e : μ s.length with
  | none => rfl
  | some a => exact absurd (hR.dom _ _ e) (Nat.lt_irrefl _)
theorem RO.mono' {a : Addr} {o : Ob} {H' : Hp} {μ' : Mu} (e : Evo H μ H' μ') (q : H' a = H a) (h : RO Γ H μ Z a o) : RO Γ H' μ' Z a o := by
  cases o with
  | lst ws =>
    obtain ⟨xs, h4, h5⟩ := h
    exact ⟨xs, q.trans h4, h5.mono e⟩
  | dct kws =>
    obtain ⟨kvs, h4, h5, h6⟩ := h
    exact ⟨kvs, q.trans h4, h5, h6.mono e⟩
  | obj c fs =>
    obtain ⟨dx, kvs, h4, h5, h6⟩ := h
    exact ⟨dx, kvs, q.trans h4, h5, h6.mono e⟩
  | tab m y => exact ⟨h.1, tab_imp q (fun c e1 e2 => ⟨e.keep _ _ e1 e2.1, e.fz (by rw [e1]; intro z; cases z) e2⟩) h.2⟩
theorem Rep.push (hR : Rep Γ H μ Z s) (hp : H p = none) {o : HO} {ob : Ob} (ho : RO Γ (upd H p o) (MP.ext μ s.length p) Z p ob) : Rep Γ (upd H p o) (MP.ext μ s.length p) Z (s ++ [ob]) := by
  have ev : Evo H μ (upd H p o) (MP.ext μ s.length p) := Evo.ext hp hR.mu_new
  refine ⟨fun n o' q => ?_, fun n m a h1 h2 => ?_, fun n a h => ?_, fun a q => ev.alive (hR.za a q)⟩
  · by_cases hn : n = s.length
    · subst hn
      rw [List.getElem?_append_right (Nat.le_refl _)] at q
      simp at q
      subst q
      exact ⟨p, by unfold MP.ext; rw [if_pos rfl], fun z => hR.za p z hp, ho⟩
    · have hl : n < s.length := by
        have := (List.getElem?_eq_some_iff.mp q).1
        rw [List.length_append, List.length_singleton] at this
        omega
      rw [List.getElem?_append_left hl] at q
      obtain ⟨a, h1, h2, h3⟩ := hR.at n o' q
      exact ⟨a, ev.mu _ _ h1, h2, h3.mono' ev (upd_ne fun e => hR.alive h1 (e ▸ hp))⟩
  · unfold MP.ext at h1 h2
    split at h1 <;> split at h2
    · rename_i e1 e2; rw [e1, e2]
    · cases h1; exact absurd hp (hR.alive h2)
    · cases h2; exact absurd hp (hR.alive h1)
    · exact hR.inj _ _ _ h1 h2
  · unfold MP.ext at h
    rw [List.length_append, List.length_singleton]
    split at h
    · omega
    · have := hR.dom _ _ h
      omega
end
theorem me_tup {es : List Expr} {g : FA} {x1} (h : MA X Γ W es g) : ME X Γ W (.Tuple es x1 pos) (mTup g) :=
  PE.imp (pe_tup h) fun σ H Q ⟨μ, Z, ρ, s, hE, hR, q⟩ => aE hE hR q fun ws s1 vs H1 μ1 e1 hE1 R1 r1 q1 => by
    split at q1
    · rename_i hl
      exact ⟨by rw [r1.len]; exact lim_ok hl, fun p hp => newE R1 hp (new_tup R1 hp r1) q1⟩
    · exact q1.elim
theorem me_lst {es : List Expr} {g : FA} (h : MA X Γ W es g) : ME X Γ W (.List es pos) (mLst g) :=
  PE.imp (pe_lst h) fun σ H Q ⟨μ, Z, ρ, s, hE, hR, q⟩ => aE hE hR q fun ws s1 vs H1 μ1 e1 hE1 R1 r1 q1 => by
    split at q1
    · rename_i hl
      exact ⟨by rw [r1.len]; exact lim_ok hl, fun p hp => newE R1 hp (new_lst R1 hp r1) q1⟩
    · exact q1.elim
theorem me_lstM {es : List Expr} {g : FA} (h : MA X Γ W es g) : ME X Γ W (.List es pos) (mLstM g) :=
  PE.imp (pe_lst h) fun σ H Q ⟨μ, Z, ρ, s, hE, hR, q⟩ => aE hE hR q fun ws s1 vs H1 μ1 e1 hE1 R1 r1 q1 => by
    split at q1
    · rename_i hl
      refine ⟨by rw [r1.len]; exact lim_ok hl, fun p hp => ?_⟩
      have ev : Evo H1 μ1 (upd H1 p (.lst vs)) (ext μ1 s1.length p) := Evo.ext hp R1.mu_new
      exact q1 _ _ _ ev (R1.push hp ⟨vs, upd_same, r1.mono ev⟩) ⟨p, rfl, by unfold ext; rw [if_pos rfl]⟩
    · exact q1.elim
end
end MP
set_option Elab.async false
set_option linter.all false
set_option maxRecDepth 100000
set_option maxHeartbeats 4000000
namespace MP
open PySem PySem.Spec PyProof.Rows L2
theorem tuple_mul1 (l : Addr) (items : Array Value) (n : Nat) (dd : Option Addr) (sl : Array (Option Value)) (x : Int) (u : Tok) (c0 : (decide (x < -(2 ^ 63)) || decide (x ≥ 2 ^ 63)) = false) (c1 : (items.isEmpty || x == 1) = true) :
    Meets (Builtin.«tuple.__mul__» ⟨[.ref l, .int x u], []⟩) (fun _ R s => s.heap.get? l = some { cls := .type "tuple", dict := dd, data := .seq items n, slots := sl } ∧
      R (.ok (.ret (Value.ref l))) s) :=
  .of_wp fun prog w A R s h => by
    obtain ⟨hp, g, d, tk, os⟩ := s
    obtain ⟨hl, h⟩ := h
    have f1 := AutoSeq1.idx_int
    wp_walk using wpAny_loadPart' hl
    repeat (first
      | (refine wpAny_ite_false (decide_eq_false (by rw [c0]; exact Bool.false_ne_true)) ?_; wp_walk using wpAny_loadPart' hl)
      | (refine wpAny_ite_true (decide_eq_true c1) ?_; wp_walk using wpAny_loadPart' hl))
    exact ⟨_, rfl, h⟩
theorem tuple_mul0 (l : Addr) (items : Array Value) (n : Nat) (dd : Option Addr) (sl : Array (Option Value)) (x : Int) (u : Tok) (c0 : (decide (x < -(2 ^ 63)) || decide (x ≥ 2 ^ 63)) = false) (c1 : (items.isEmpty || x == 1) = false) (c2 : (decide (x ≤ 0) || items.isEmpty) = true) :
    Meets (Builtin.«tuple.__mul__» ⟨[.ref l, .int x u], []⟩) (fun _ R s => s.heap.get? l = some { cls := .type "tuple", dict := dd, data := .seq items n, slots := sl } ∧
      R (.ok (.ret (Value.ref s.heap.objs.size))) { s with heap := s.heap.push { cls := Value.type "tuple", data := Data.seq #[] } }) :=
  .of_wp fun prog w A R s h => by
    obtain ⟨hp, g, d, tk, os⟩ := s
    obtain ⟨hl, h⟩ := h
    have f1 := AutoSeq1.idx_int
    wp_walk using wpAny_loadPart' hl
    repeat (first
      | (refine wpAny_ite_false (decide_eq_false (by rw [c0]; exact Bool.false_ne_true)) ?_; wp_walk using wpAny_loadPart' hl)
      | (refine wpAny_ite_false (decide_eq_false (by rw [c1]; exact Bool.false_ne_true)) ?_; wp_walk using wpAny_loadPart' hl)
      | (refine wpAny_ite_true (decide_eq_true c2) ?_; wp_walk using wpAny_loadPart' hl))
    exact ⟨_, rfl, h⟩
theorem tuple_mulN (l : Addr) (items : Array Value) (n : Nat) (dd : Option Addr) (sl : Array (Option Value)) (x : Int) (u : Tok) (c0 : (decide (x < -(2 ^ 63)) || decide (x ≥ 2 ^ 63)) = false) (c1 : (items.isEmpty || x == 1) = false) (c2 : (decide (x ≤ 0) || items.isEmpty) = false)
    (c3 : ¬ ((items.size : Nat) : Int) * x > (2 ^ 63 - 1) / 8) (c4 : Builtin.Tuple.tupleTooMany (((items.size : Nat) : Int) * x) = false) (hsz : (List.foldl (fun x1 x2 => x1 ++ x2) #[] (List.replicate x.toNat items)).size ≤ sizeLine) :
    Meets (Builtin.«tuple.__mul__» ⟨[.ref l, .int x u], []⟩) (fun _ R s => s.heap.get? l = some { cls := .type "tuple", dict := dd, data := .seq items n, slots := sl } ∧
      R (.ok (.ret (Value.ref s.heap.objs.size))) { s with heap := s.heap.push { cls := Value.type "tuple", data := Data.seq (List.foldl (fun x1 x2 => x1 ++ x2) #[] (List.replicate x.toNat items)) }, toks := s.toks }) := L2.tuple_mulW l items n dd sl x u c0 c1 c2 c3 c4 hsz
def rRepA (K : PySem.W.Frag) : R2 := fun x y H Q => ∃ l k xs, x = .ref l ∧ y = .int k ∧ SqT K H l xs ∧ -(2 ^ 63) ≤ k ∧ k < 2 ^ 63 ∧ xs.length * k.toNat ≤ 16000000 ∧
  (xs = [] ∨ k = 1 → Q (.ref l) H) ∧ (¬ (xs = [] ∨ k = 1) → ∀ p, H p = none → Q (.ref p) (upd H p (.tup (List.replicate k.toNat xs).flatten)))
section
variable {X : Cx}
theorem op_repA : OpR X (binaryOp .Mult) (rRepA X.K) := by
  intro pins s σ H x y v u Q I rx ry h
  obtain ⟨l, k, xs, rfl, rfl, hT, h1, h2, hz, qs, qn⟩ := h
  cases rx
  obtain ⟨t, rfl⟩ := ry
  obtain ⟨its, r, ⟨⟨cls, dd, data, sl⟩, ho, hc, n, hd⟩, hs⟩ := I.tuple hT
  simp only at hc hd
  subst hc hd
  have hle : its.length = xs.length := r.length.symm
  have hsz0 : its.toArray.size = xs.length := by rw [List.size_toArray, hle]
  have he : (its.toArray.isEmpty = true) ↔ xs = [] := by
    rw [← List.length_eq_zero_iff (l := xs), ← hle]
    clear hT r ho hs hle hsz0 qs qn hz
    cases its with
    | nil => exact ⟨fun _ => rfl, fun _ => rfl⟩
    | cons a b => exact ⟨fun z => (Bool.false_ne_true z).elim, fun z => (Nat.succ_ne_zero _ z).elim⟩
  have c0 : (decide (k < -(2 ^ 63)) || decide (k ≥ 2 ^ 63)) = false := by
    clear he qs qn
    rw [decide_eq_false (Int.not_lt.mpr h1), decide_eq_false (Int.not_le.mpr h2)] <;> rfl
  by_cases hsame : xs = [] ∨ k = 1
  · have c1 : (its.toArray.isEmpty || k == 1) = true := by
      rw [Bool.or_eq_true]
      rcases hsame with z | z
      · exact .inl (he.mpr z)
      · exact .inr (beq_iff_eq.mpr z)
    refine wpAny_binaryOp_repeat_ref (T := "tuple") (U := "int") (by decide) ⟨_, ho, rfl⟩ (fun s' => typeIs_int s' k t) noFill_tuple_mul F.fills_int_mul F.slot_int_rmul repeat_tuple F.slot_int_index.lookup
      (call_meets F.slot_int_rmul (typeIs_int s k t) F.entry_int_rmul (F.args_int_rmul_2 _ _) (int_rmul_tuple k t l its.toArray n dd sl)
        ⟨ho, rfl, ⟨_, ho, rfl⟩, call_meets F.slot_tuple_mul ⟨_, ho, rfl⟩ F.entry_tuple_mul (F.args_tuple_mul_2 _ _) (tuple_mul1 l its.toArray n dd sl k t c0 c1) ⟨ho, ?_⟩⟩)
    exact ⟨.ref l, H, I, rfl, qs hsame⟩
  · have hx : xs ≠ [] := fun z => hsame (.inl z)
    have hk : k ≠ 1 := fun z => hsame (.inr z)
    have hi : its.toArray.isEmpty = false := by
      cases e : its.toArray.isEmpty with
      | false => rfl
      | true => exact absurd (he.mp e) hx
    have c1 : (its.toArray.isEmpty || k == 1) = false := by
      rw [hi, Bool.false_or]
      exact beq_eq_false_iff_ne.mpr hk
    by_cases hk0 : k ≤ 0
    · have c2 : (decide (k ≤ 0) || its.toArray.isEmpty) = true := by rw [decide_eq_true hk0, Bool.true_or]
      have q := qn hsame
      have hk' : k.toNat = 0 := by omega
      rw [hk'] at q
      refine wpAny_binaryOp_repeat_ref (T := "tuple") (U := "int") (by decide) ⟨_, ho, rfl⟩ (fun s' => typeIs_int s' k t) noFill_tuple_mul F.fills_int_mul F.slot_int_rmul repeat_tuple F.slot_int_index.lookup
        (call_meets F.slot_int_rmul (typeIs_int s k t) F.entry_int_rmul (F.args_int_rmul_2 _ _) (int_rmul_tuple k t l its.toArray n dd sl)
          ⟨ho, rfl, ⟨_, ho, rfl⟩, call_meets F.slot_tuple_mul ⟨_, ho, rfl⟩ F.entry_tuple_mul (F.args_tuple_mul_2 _ _) (tuple_mul0 l its.toArray n dd sl k t c0 c1 c2) ⟨ho, ?_⟩⟩)
      refine ⟨.ref s.heap.objs.size, _, I.laid (t' := s.toks) (o := .tup []) (fun b ob q => Heap.get?_push_of_some _ q) (Nat.le_refl _) ?_, rfl, q _ (I.hok.fresh (Nat.le_refl _))⟩
      exact ⟨Nat.zero_le _, [], .nil, IsTup.new _ _⟩
    · have c2 : (decide (k ≤ 0) || its.toArray.isEmpty) = false := by
        rw [hi, Bool.or_false]
        exact decide_eq_false hk0
      have hkk : (k.toNat : Int) = k := Int.toNat_of_nonneg (by omega)
      have hm : ((its.toArray.size : Nat) : Int) * k ≤ 16000000 := by
        have z1 : ((xs.length * k.toNat : Nat) : Int) ≤ ((16000000 : Nat) : Int) := Int.ofNat_le.mpr hz
        rw [Int.natCast_mul, hkk] at z1
        rw [hsz0]
        exact z1
      have c4 : Builtin.Tuple.tupleTooMany (((its.toArray.size : Nat) : Int) * k) = false := by
        unfold Builtin.Tuple.tupleTooMany
        rw [sizeLine_eq]
        exact decide_eq_false (by omega)
      have flen : (List.replicate k.toNat its).flatten.length ≤ sizeLine := by
        rw [PyProof.Rows.lm_len_rep_flat, hle, sizeLine_eq, Nat.mul_comm]
        omega
      refine wpAny_binaryOp_repeat_ref (T := "tuple") (U := "int") (by decide) ⟨_, ho, rfl⟩ (fun s' => typeIs_int s' k t) noFill_tuple_mul F.fills_int_mul F.slot_int_rmul repeat_tuple F.slot_int_index.lookup
        (call_meets F.slot_int_rmul (typeIs_int s k t) F.entry_int_rmul (F.args_int_rmul_2 _ _) (int_rmul_tuple k t l its.toArray n dd sl)
          ⟨ho, rfl, ⟨_, ho, rfl⟩, call_meets F.slot_tuple_mul ⟨_, ho, rfl⟩ F.entry_tuple_mul (F.args_tuple_mul_2 _ _) (tuple_mulN l its.toArray n dd sl k t c0 c1 c2 (by omega) c4 (by rw [size_rep, List.size_toArray]; exact flen)) ⟨ho, ?_⟩⟩)
      rw [size_rep]
      refine ⟨.ref s.heap.objs.size, _, I.laid (t' := s.toks) (o := .tup (List.replicate k.toNat xs).flatten) (fun b ob q => Heap.get?_push_of_some _ q) (Nat.le_refl _) ?_, rfl, qn hsame _ (I.hok.fresh (Nat.le_refl _))⟩
      exact ⟨by rw [PyProof.Rows.lm_len_rep_flat, sizeLine_eq, Nat.mul_comm]; omega, _, r.rep k.toNat, IsTup.new _ _⟩
end
def lstOf (s : Sto) : Dv → Option (List Dv)
  | .lst ws => some ws
  | .ref n => match s[n]? with
    | some (.lst ws) => some ws
    | _ => none
  | _ => none
/-- a sequence that is read -/
def seqOf (s : Sto) : Dv → Option (List Dv)
  | .tup ws => some ws
  | .sq ws => some ws
  | w => lstOf s w
def tupOf : Dv → Option (List Dv)
  | .tup ws => some ws
  | _ => none
def flat : Dv → Option V
  | .non => some .non | .bl b => some (.bl b) | .int i => some (.int i) | .str x => some (.str x)
  | _ => none
mutual
def toD0 : Dv → Option PyData
  | .non => some .none | .bl b => some (.bool b) | .int i => some (.int i) | .str x => some (.str x)
  | .tup ws => (toDs ws).map .tuple
  | .lst ws => (toDs ws).map .list
  | .sq ws => (toDs ws).map .list
  | _ => none
def toDs : List Dv → Option (List PyData)
  | [] => some []
  | w :: ws => match toD0 w, toDs ws with
    | some d, some ds => some (d :: ds)
    | _, _ => none
end
def toD (s : Sto) : Dv → Option PyData
  | .ref n => match s[n]? with
    | some (.lst ws) => (toDs ws).map .list
    | _ => none
  | w => toD0 w
section
variable {Γ : Ct} {H : Hp} {μ : Mu} {Z : Zs} {s : Sto}
theorem lstOf_ok {w : Dv} {v : V} {ws : List Dv} (hR : Rep Γ H μ Z s) (r : RV Γ H μ Z w v) (e : lstOf s w = some ws) : ∃ a xs, v = .ref a ∧ H a = some (.lst xs) ∧ RVs Γ H μ Z ws xs := by
  cases w with
  | lst us =>
    cases e
    obtain ⟨a, xs, h1, h2, _, h4⟩ := r
    exact ⟨a, xs, h1, h2, h4⟩
  | ref n =>
    simp only [lstOf] at e
    split at e
    · rename_i us q
      cases e
      obtain ⟨a, h1, h2⟩ := r
      obtain ⟨b, h3, _, xs, h4, h5⟩ := hR.at n _ q
      rw [h2] at h3
      cases h3
      exact ⟨a, xs, h1, h4, h5⟩
    · cases e
  | _ => cases e
theorem seqOf_ok {w : Dv} {v : V} {ws : List Dv} (hR : Rep Γ H μ Z s) (r : RV Γ H μ Z w v) (e : seqOf s w = some ws) : ∃ a xs, v = .ref a ∧ (SqL Γ.K H a xs ∨ SqT Γ.K H a xs) ∧ RVs Γ H μ Z ws xs := by
  cases w with
  | tup us =>
    cases e
    obtain ⟨a, xs, h1, h2, h3⟩ := r
    exact ⟨a, xs, h1, .inr h2.sq, h3⟩
  | sq us =>
    cases e
    obtain ⟨a, xs, h1, h2, h3⟩ := r
    exact ⟨a, xs, h1, .inl h2.sq, h3⟩
  | lst us =>
    obtain ⟨a, xs, h1, h2, h3⟩ := lstOf_ok hR r (show lstOf s (.lst us) = some ws from e)
    exact ⟨a, xs, h1, .inl (SqL.of h2), h3⟩
  | ref n =>
    obtain ⟨a, xs, h1, h2, h3⟩ := lstOf_ok hR r (show lstOf s (.ref n) = some ws from e)
    exact ⟨a, xs, h1, .inl (SqL.of h2), h3⟩
  | _ => cases e
theorem flat_ok {w : Dv} {v u : V} (r : RV Γ H μ Z w v) (e : flat w = some u) : v = u := by
  cases w <;> first
    | (cases e; exact r)
    | cases e
mutual
theorem toD0_ok : ∀ (w : Dv) {v : V} {d : PyData}, RV Γ H μ Z w v → toD0 w = some d → Dp Γ.K H v d
  | .non, _, _, r, e => by cases e; rw [show _ = _ from r]; exact .non
  | .bl b, _, _, r, e => by cases e; rw [show _ = _ from r]; exact .bl b
  | .int b, _, _, r, e => by cases e; rw [show _ = _ from r]; exact .int b
  | .str b, _, _, r, e => by cases e; rw [show _ = _ from r]; exact .str b
  | .tup ws, _, d, r, e => by
    obtain ⟨a, xs, rfl, h2, h3⟩ := r
    simp only [toD0] at e
    cases q : toDs ws with
    | none => rw [q] at e; cases e
    | some ds => rw [q] at e; cases e; exact .tup h2.sq (toDs_ok ws h3 q)
  | .sq ws, _, d, r, e => by
    obtain ⟨a, xs, rfl, h2, h3⟩ := r
    simp only [toD0] at e
    cases q : toDs ws with
    | none => rw [q] at e; cases e
    | some ds => rw [q] at e; cases e; exact .lst h2.sq (toDs_ok ws h3 q)
  | .lst ws, _, d, r, e => by
    obtain ⟨a, xs, rfl, h2, _, h3⟩ := r
    simp only [toD0] at e
    cases q : toDs ws with
    | none => rw [q] at e; cases e
    | some ds => rw [q] at e; cases e; exact .lst (SqL.of h2) (toDs_ok ws h3 q)
  | .ty _, _, _, _, e => by cases e
  | .cl _, _, _, _, e => by cases e
  | .ref _, _, _, _, e => by cases e
  | .dct _ _, _, _, _, e => by cases e
  | .exc _ _ _, _, _, _, e => by cases e
  | .exn _, _, _, _, e => by cases e
  | .clo _ _ _ _ _, _, _, _, e => by cases e
theorem toDs_ok : ∀ (ws : List Dv) {vs : List V} {ds : List PyData}, RVs Γ H μ Z ws vs → toDs ws = some ds → DpAll Γ.K H vs ds
  | [], _, _, r, e => by cases e; rw [show _ = _ from r]; exact .nil
  | w :: ws, _, _, r, e => by
    obtain ⟨x, xs, rfl, h2, h3⟩ := r
    simp only [toDs] at e
    split at e
    · rename_i d ds q1 q2
      cases e
      exact .cons (toD0_ok w h2 q1) (toDs_ok ws h3 q2)
    · cases e
end
theorem toD_ok {w : Dv} {v : V} {d : PyData} (hR : Rep Γ H μ Z s) (r : RV Γ H μ Z w v) (e : toD s w = some d) : Dp Γ.K H v d := by
  cases w with
  | ref n =>
    simp only [toD] at e
    split at e
    · rename_i us q
      obtain ⟨a, h1, h2⟩ := r
      obtain ⟨b, h3, _, xs, h4, h5⟩ := hR.at n _ q
      rw [h2] at h3
      cases h3
      subst h1
      cases q2 : toDs us with
      | none => rw [q2] at e; cases e
      | some ds => rw [q2] at e; cases e; exact .lst (SqL.of h4) (toDs_ok us h5 q2)
    · cases e
  | _ => exact toD0_ok _ r e
end
def cm (i j : Int) : Bool := decide ((-(2 ^ 64) < i ∧ i < 2 ^ 64) ∨ (-(2 ^ 64) < j ∧ j < 2 ^ 64))
theorem cm_ok {i j : Int} (h : cm i j = true) : CMul i j := (of_decide_eq_true h : (-(2 ^ 64) < i ∧ i < 2 ^ 64) ∨ (-(2 ^ 64) < j ∧ j < 2 ^ 64))
def addD : O2 := fun s x y => match x, y with
  | .int i, .int j => some (.int (i + j))
  | .str a, .str b => if a.length + b.length ≤ lim then some (.str (a ++ b)) else none
  | .tup a, .tup b => if a.length + b.length ≤ lim then some (.tup (a ++ b)) else none
  | x, y => match lstOf s x, lstOf s y with
    | some a, some b => if a.length + b.length ≤ lim then some (.lst (a ++ b)) else none
    | _, _ => none
def subD : O2 := fun _ x y => match x, y with
  | .int i, .int j => some (.int (i - j))
  | _, _ => none
def mulD : O2 := fun s x y => match x, y with
  | .int i, .int j => if cm i j = true then some (.int (i * j)) else none
  | .tup a, .int k => if -(2 ^ 63) ≤ k ∧ k < 2 ^ 63 ∧ a.length * k.toNat ≤ lim then some (.tup (List.replicate k.toNat a).flatten) else none
  | x, .int k => match lstOf s x with
    | some a => if -(2 ^ 63) ≤ k ∧ k < 2 ^ 63 ∧ a.length * k.toNat ≤ lim then some (.lst (List.replicate k.toNat a).flatten) else none
    | none => none
  | _, _ => none
def modD : O2 := fun _ x y => match x, y with
  | .int i, .int j => if 0 < j then some (.int (i % j)) else none
  | _, _ => none
def divD : O2 := fun _ x y => match x, y with
  | .int i, .int j => if 0 < j ∧ j < 1073741824 then some (.int (i / j)) else none
  | _, _ => none
def powD : O2 := fun _ x y => match x, y with
  | .int i, .int j => if 0 ≤ j ∧ j ≤ 1000000 ∧ i.natAbs < 2 ^ 64 then some (.int (i ^ j.toNat)) else none
  | _, _ => none
def negD : O1 := fun _ x => match x with
  | .int i => some (.int (-i))
  | _ => none
def cmpD (p : Int → Int → Bool) : O2 := fun _ x y => match x, y with
  | .int i, .int j => some (.bl (p i j))
  | _, _ => none
abbrev ltD : O2 := cmpD fun i j => decide (i < j)
abbrev leD : O2 := cmpD fun i j => decide (i ≤ j)
abbrev gtD : O2 := cmpD fun i j => decide (j < i)
abbrev geD : O2 := cmpD fun i j => decide (j ≤ i)
def eqB (s : Sto) (x y : Dv) : Option Bool := match flat x, flat y with
  | some a, some b => if scal a b = true then some (decide (a = b)) else none
  | _, _ => match toD s x, toD s y with
    | some d, some e => if SeqAt.shaped d = true ∧ SeqAt.shaped e = true then some (PyData.eqv d e) else none
    | _, _ => none
def eqD : O2 := fun s x y => (eqB s x y).map .bl
def neD : O2 := fun s x y => (eqB s x y).map fun b => .bl (!b)
def isN : Dv → Option Bool
  | .non => some true
  | .bl _ => some false | .int _ => some false | .str _ => some false | .tup _ => some false | .lst _ => some false | .sq _ => some false | .dct _ _ => some false | .exc _ _ _ => some false | .exn _ => some false | .ref _ => some false | .ty _ => some false | .cl _ => some false | .clo _ _ _ _ _ => some false
def isBl (c : Bool) : Dv → Bool
  | .bl b => b == c
  | _ => false
def isD : O2 := fun _ x y => match y with
  | .non => (isN x).map .bl
  | .bl c => some (.bl (isBl c x))
  | _ => none
def isntD : O2 := fun _ x y => match y with
  | .non => (isN x).map fun b => .bl (!b)
  | .bl c => some (.bl (!isBl c x))
  | _ => none
section
variable {Γ : Ct} {X : Cx}
abbrev rAdd (K : PySem.W.Frag) : R2 := fun x y H Q => ((rI0 fun i j => .int (i + j)) x y H Q ∨ (∃ i j, x = .str i ∧ y = .str j ∧ i.length + j.length ≤ sizeLine ∧ Q (.str (i ++ j)) H)) ∨ (rCatA K x y H Q ∨ rCat x y H Q)
theorem opAdd : OpR X (binaryOp .Add) (rAdd X.K) := OpR.or2 (OpR.or2 op_add op_add_str) (OpR.or2 op_catA op_cat)
theorem sAdd : Op2 Γ (rAdd Γ.K) addD := fun H μ Z s x y w u v Q hR r1 r2 e k => by
  unfold addD at e
  split at e
  · cases e
    exact .inl (.inl ⟨_, _, r1, r2, k _ H .refl hR rfl⟩)
  · rename_i a b
    split at e
    · rename_i hl
      cases e
      exact .inl (.inr ⟨_, _, r1, r2, lim_ok hl, k _ H .refl hR rfl⟩)
    · cases e
  · rename_i a b
    split at e
    · rename_i hl
      cases e
      obtain ⟨p, xs, h1, h2, h3⟩ := id r1
      obtain ⟨p', ys, g1, g2, g3⟩ := id r2
      refine .inr (.inl ⟨p, p', xs, ys, h1, g1, h2.sq, g2.sq, by rw [h3.len, g3.len]; exact lim_ok hl, fun z => ?_, fun z z' => ?_, fun z z' q hq => ?_⟩)
      · have hn : a = [] := by
          have := h3.len
          rw [z] at this
          exact List.eq_nil_of_length_eq_zero this.symm
        rw [hn, List.nil_append] at k
        exact k _ H .refl hR (g1 ▸ r2)
      · have hn : b = [] := by
          have := g3.len
          rw [z'] at this
          exact List.eq_nil_of_length_eq_zero this.symm
        rw [hn, List.append_nil] at k
        exact k _ H .refl hR (h1 ▸ r1)
      · exact k _ _ (Evo.laid hq) (hR.laid hq) (new_tup hR hq (h3.append g3))
    · cases e
  · split at e
    · rename_i a b q1 q2
      split at e
      · rename_i hl
        cases e
        obtain ⟨p, xs, h1, h2, h3⟩ := lstOf_ok hR r1 q1
        obtain ⟨p', ys, g1, g2, g3⟩ := lstOf_ok hR r2 q2
        exact .inr (.inr ⟨p, p', xs, ys, h1, g1, h2, g2, by rw [h3.len, g3.len]; exact lim_ok hl, fun q hq => k _ _ (Evo.laid hq) (hR.laid hq) (new_lst hR hq (h3.append g3))⟩)
      · cases e
    · cases e
theorem sSub : Op2 Γ (rI0 fun i j => .int (i - j)) subD := fun H μ Z s x y w u v Q hR r1 r2 e k => by
  unfold subD at e
  split at e
  · cases e
    exact ⟨_, _, r1, r2, k _ H .refl hR rfl⟩
  · cases e
abbrev rMul (K : PySem.W.Frag) : R2 := fun x y H Q => (rI CMul fun i j => .int (i * j)) x y H Q ∨ (rRepA K x y H Q ∨ rRep x y H Q)
theorem opMul : OpR X (binaryOp .Mult) (rMul X.K) := OpR.or2 op_mul (OpR.or2 op_repA op_rep)
theorem flat_one {α : Type} (l : List α) : (List.replicate 1 l).flatten = l := by simp
theorem flat_nil {α : Type} (n : Nat) : (List.replicate n ([] : List α)).flatten = [] := by
  induction n with
  | zero => rfl
  | succ n ih => rw [List.replicate_succ, List.flatten_cons, ih]; rfl
theorem sMul : Op2 Γ (rMul Γ.K) mulD := fun H μ Z s x y w u v Q hR r1 r2 e k => by
  unfold mulD at e
  split at e
  · split at e
    · rename_i hc
      cases e
      exact .inl ⟨_, _, r1, r2, cm_ok hc, k _ H .refl hR rfl⟩
    · cases e
  · rename_i a n
    split at e
    · rename_i hl
      cases e
      obtain ⟨p, xs, h1, h2, h3⟩ := id r1
      refine .inr (.inl ⟨p, n, xs, h1, r2, h2.sq, hl.1, hl.2.1, by rw [h3.len]; exact hl.2.2, fun z => ?_, fun z q hq => ?_⟩)
      · have hn : (List.replicate n.toNat a).flatten = a := by
          rcases z with z | z
          · have h0 : a = [] := by
              have := h3.len
              rw [z] at this
              exact List.eq_nil_of_length_eq_zero this.symm
            rw [h0, flat_nil]
          · rw [z]
            exact flat_one a
        rw [hn] at k
        exact k _ H .refl hR (h1 ▸ r1)
      · exact k _ _ (Evo.laid hq) (hR.laid hq) (new_tup hR hq (h3.rep _))
    · cases e
  · rename_i n _ _
    split at e
    · rename_i a q1
      split at e
      · rename_i hl
        cases e
        obtain ⟨p, xs, h1, h2, h3⟩ := lstOf_ok hR r1 q1
        exact .inr (.inr ⟨p, n, xs, h1, r2, h2, hl.1, hl.2.1, by rw [h3.len]; exact lim_ok hl.2.2, fun q hq => k _ _ (Evo.laid hq) (hR.laid hq) (new_lst hR hq (h3.rep _))⟩)
      · cases e
    · cases e
  · cases e
theorem sMod : Op2 Γ (rI (fun _ j => 0 < j) fun i j => .int (i % j)) modD := fun H μ Z s x y w u v Q hR r1 r2 e k => by
  unfold modD at e
  split at e
  · split at e
    · rename_i hc
      cases e
      exact ⟨_, _, r1, r2, hc, k _ H .refl hR rfl⟩
    · cases e
  · cases e
theorem sDiv : Op2 Γ (rI CDiv fun i j => .int (i / j)) divD := fun H μ Z s x y w u v Q hR r1 r2 e k => by
  unfold divD at e
  split at e
  · split at e
    · rename_i hc
      cases e
      exact ⟨_, _, r1, r2, hc, k _ H .refl hR rfl⟩
    · cases e
  · cases e
theorem sPow : Op2 Γ (rI CPow fun i j => .int (i ^ j.toNat)) powD := fun H μ Z s x y w u v Q hR r1 r2 e k => by
  unfold powD at e
  split at e
  · split at e
    · rename_i hc
      cases e
      exact ⟨_, _, r1, r2, hc, k _ H .refl hR rfl⟩
    · cases e
  · cases e
theorem sNeg : Op1 Γ (rU fun i => .int (-i)) negD := fun H μ Z s x w u Q hR r1 e k => by
  unfold negD at e
  split at e
  · cases e
    exact ⟨_, r1, k _ H .refl hR rfl⟩
  · cases e
theorem sCmp {p : Int → Int → Bool} : Op2 Γ (rI0 fun i j => .bl (p i j)) (cmpD p) := fun H μ Z s x y w u v Q hR r1 r2 e k => by
  unfold cmpD at e
  split at e
  · cases e
    exact ⟨_, _, r1, r2, k _ H .refl hR rfl⟩
  · cases e
abbrev rEqM (K : PySem.W.Frag) : R2 := fun x y H Q => rEq x y H Q ∨ rEqD K x y H Q
abbrev rNeM (K : PySem.W.Frag) : R2 := fun x y H Q => rNe x y H Q ∨ rNeD K x y H Q
theorem opEq (hu : X.A.units + 64 < cLine) : OpR X (compareOp .Eq) (rEqM X.K) := OpR.or2 op_eq (op_eqD hu)
theorem opNe (hu : X.A.units + 64 < cLine) : OpR X (compareOp .NotEq) (rNeM X.K) := OpR.or2 op_ne (op_neD hu)
theorem sEq : Op2 Γ (rEqM Γ.K) eqD := fun H μ Z s x y w u v Q hR r1 r2 e k => by
  unfold eqD eqB at e
  split at e
  · rename_i a b q1 q2
    split at e
    · rename_i hs
      cases e
      rw [flat_ok r1 q1, flat_ok r2 q2]
      exact .inl ⟨hs, k _ H .refl hR rfl⟩
    · cases e
  · split at e
    · rename_i d d' q1 q2
      split at e
      · rename_i hs
        cases e
        exact .inr ⟨d, d', toD_ok hR r1 q1, toD_ok hR r2 q2, hs.1, hs.2, k _ H .refl hR rfl⟩
      · cases e
    · cases e
theorem sNe : Op2 Γ (rNeM Γ.K) neD := fun H μ Z s x y w u v Q hR r1 r2 e k => by
  unfold neD eqB at e
  split at e
  · rename_i a b q1 q2
    split at e
    · rename_i hs
      cases e
      rw [flat_ok r1 q1, flat_ok r2 q2]
      exact .inl ⟨hs, k _ H .refl hR rfl⟩
    · cases e
  · split at e
    · rename_i d d' q1 q2
      split at e
      · rename_i hs
        cases e
        exact .inr ⟨d, d', toD_ok hR r1 q1, toD_ok hR r2 q2, hs.1, hs.2, k _ H .refl hR rfl⟩
      · cases e
    · cases e
theorem isN_ok {H : Hp} {μ : Mu} {Z : Zs} {w : Dv} {v : V} {b : Bool} (r : RV Γ H μ Z w v) (e : isN w = some b) : decide (v = V.non) = b := by
  cases w with
  | non => cases e; rw [show v = _ from r]; rfl
  | bl _ => cases e; rw [show v = _ from r]; rfl
  | int _ => cases e; rw [show v = _ from r]; rfl
  | str _ => cases e; rw [show v = _ from r]; rfl
  | ty _ => cases e; rw [show v = _ from r]; rfl
  | cl _ => cases e; rw [show v = _ from r]; rfl
  | ref n => cases e; obtain ⟨_, h, _⟩ := r; rw [h]; rfl
  | tup _ => cases e; obtain ⟨_, _, h, _⟩ := r; rw [h]; rfl
  | lst _ => cases e; obtain ⟨_, _, h, _⟩ := r; rw [h]; rfl
  | sq _ => cases e; obtain ⟨_, _, h, _⟩ := r; rw [h]; rfl
  | dct _ _ => cases e; obtain ⟨_, _, h, _⟩ := r; rw [h]; rfl
  | exc _ _ _ => cases e; obtain ⟨_, _, _, h, _⟩ := r; rw [h]; rfl
  | exn _ => cases e; obtain ⟨_, h, _⟩ := r; rw [h]; rfl
  | clo _ _ _ _ _ => cases e; rw [show v = _ from r.1]; rfl
theorem isBl_ok {H : Hp} {μ : Mu} {Z : Zs} {w : Dv} {v : V} {c : Bool} (r : RV Γ H μ Z w v) : decide (v = V.bl c) = isBl c w := by
  cases w with
  | non => rw [show v = _ from r]; rfl
  | bl b => rw [show v = _ from r]; cases b <;> cases c <;> rfl
  | int _ => rw [show v = _ from r]; rfl
  | str _ => rw [show v = _ from r]; rfl
  | ty _ => rw [show v = _ from r]; rfl
  | cl _ => rw [show v = _ from r]; rfl
  | ref n => obtain ⟨_, h, _⟩ := r; rw [h]; rfl
  | tup _ => obtain ⟨_, _, h, _⟩ := r; rw [h]; rfl
  | lst _ => obtain ⟨_, _, h, _⟩ := r; rw [h]; rfl
  | sq _ => obtain ⟨_, _, h, _⟩ := r; rw [h]; rfl
  | dct _ _ => obtain ⟨_, _, h, _⟩ := r; rw [h]; rfl
  | exc _ _ _ => obtain ⟨_, _, _, h, _⟩ := r; rw [h]; rfl
  | exn _ => obtain ⟨_, h, _⟩ := r; rw [h]; rfl
  | clo _ _ _ _ _ => rw [show v = _ from r.1]; rfl
/-- x is c, c one of None, True, False -/
def rIsC (n : Bool) : R2 := fun x y H Q => (y = .non ∨ ∃ b, y = .bl b) ∧ Q (.bl (decide (x = y) != n)) H
theorem rel_bl {x : V} {v : Value} (r : RelV x v) (b : Bool) : plainIs v (.bool b) = true ∧ (v == Value.bool b) = decide (x = V.bl b) := by
  cases x with
  | bl c => cases r; cases b <;> cases c <;> exact ⟨rfl, rfl⟩
  | ref a => cases r; exact ⟨rfl, rfl⟩
  | non => cases r; exact ⟨rfl, rfl⟩
  | int i => obtain ⟨t, rfl⟩ := r; exact ⟨rfl, rfl⟩
  | str x => obtain ⟨t, rfl⟩ := r; exact ⟨rfl, rfl⟩
  | byt x => obtain ⟨t, rfl⟩ := r; exact ⟨rfl, rfl⟩
  | flt x => obtain ⟨t, rfl⟩ := r; exact ⟨rfl, rfl⟩
  | ty n => cases r; exact ⟨rfl, rfl⟩
theorem op_isC : OpR X (compareOp .Is) (rIsC false) := by
  intro pins s σ H x y v u Q I rx ry h
  obtain ⟨hy | ⟨b, hy⟩, q⟩ := h
  · subst hy
    exact op_isN pins s σ H x .non v u Q I rx ry ⟨rfl, by simpa using q⟩
  · subst hy
    cases ry
    obtain ⟨h1, h2⟩ := rel_bl rx b
    exact wpAny_is_plain h1 (fin_bl I q (by rw [h2]; simp))
theorem op_notC : OpR X (compareOp .IsNot) (rIsC true) := by
  intro pins s σ H x y v u Q I rx ry h
  obtain ⟨hy | ⟨b, hy⟩, q⟩ := h
  · subst hy
    exact op_notN pins s σ H x .non v u Q I rx ry ⟨rfl, by simpa using q⟩
  · subst hy
    cases ry
    obtain ⟨h1, h2⟩ := rel_bl rx b
    exact wpAny_isNot_plain h1 (fin_bl I q (by rw [h2]; simp))
theorem sIsC : Op2 Γ (rIsC false) isD := fun H μ Z s x y w u v Q hR r1 r2 e k => by
  unfold isD at e
  split at e
  · cases q : isN x with
    | none => rw [q] at e; cases e
    | some b =>
      rw [q] at e
      cases e
      refine ⟨.inl r2, k _ H .refl hR ?_⟩
      rw [show v = _ from r2, isN_ok r1 q]
      simp [RV]
  · rename_i c
    cases e
    refine ⟨.inr ⟨c, r2⟩, k _ H .refl hR ?_⟩
    rw [show v = _ from r2, isBl_ok r1]
    simp [RV]
  · cases e
theorem sIsntC : Op2 Γ (rIsC true) isntD := fun H μ Z s x y w u v Q hR r1 r2 e k => by
  unfold isntD at e
  split at e
  · cases q : isN x with
    | none => rw [q] at e; cases e
    | some b =>
      rw [q] at e
      cases e
      refine ⟨.inl r2, k _ H .refl hR ?_⟩
      rw [show v = _ from r2, isN_ok r1 q]
      simp [RV]
  · rename_i c
    cases e
    refine ⟨.inr ⟨c, r2⟩, k _ H .refl hR ?_⟩
    rw [show v = _ from r2, isBl_ok r1]
    simp [RV]
  · cases e
end
end MP
set_option Elab.async false
set_option linter.all false
set_option maxRecDepth 100000
set_option maxHeartbeats 4000000
namespace MP
open PySem PySem.Spec PyProof.Rows L2
section
variable {X : Cx} {Γ : Ct} {W : WX} {st : Stmt} {rest : List Stmt} {e : Expr} {f : FE} {c c' : FS} {t : FT} {pos : Pos}
def mNext : FS := fun ρ s => .nx ρ s
def mSeq (c c' : FS) : FS := fun ρ s => match c ρ s with
  | .nx ρ' s' => c' ρ' s'
  | r => r
theorem mb_nil : MB X Γ W [] mNext := PSs.imp pss_nil fun D σ H ⟨μ, Z, ρ, s, hE, hR, q⟩ => q σ H μ .refl hR hE
theorem goS {H : Hp} {μ : Mu} {Z : Zs} {σ : L2.St} {ρ : Env} {s : Sto} {D : Ends} (hE : RE Γ H μ Z ρ σ) (hR : Rep Γ H μ Z s) (q : PostS Γ W H μ Z D (c ρ s)) : rdS Γ W c D σ H := ⟨μ, Z, ρ, s, hE, hR, q⟩
/-- a statement, then what goes on -/
theorem sS {H : Hp} {μ : Mu} {Z : Zs} {σ : L2.St} {ρ : Env} {s : Sto} {D : Ends} {nx : L2.St → Hp → Prop} (hE : RE Γ H μ Z ρ σ) (hR : Rep Γ H μ Z s) (h : PostS Γ W H μ Z D (mSeq c c' ρ s))
    (hk : ∀ ρ1 s1 σ1 H1 μ1, Evo H μ H1 μ1 → RE Γ H1 μ1 Z ρ1 σ1 → Rep Γ H1 μ1 Z s1 → PostS Γ W H1 μ1 Z D (c' ρ1 s1) → nx σ1 H1) : rdS Γ W c { D with nx := nx } σ H := by
  refine ⟨μ, Z, ρ, s, hE, hR, ?_⟩
  unfold mSeq at h
  cases q : c ρ s with
  | nx ρ1 s1 =>
    rw [q] at h
    exact fun σ1 H1 μ1 ev R1 E1 => hk ρ1 s1 σ1 H1 μ1 ev E1 R1 (PostS.evo ev h)
  | bk ρ1 s1 => rw [q] at h; exact h
  | ct ρ1 s1 => rw [q] at h; exact h
  | rt w s1 => rw [q] at h; exact h
  | er x ρ1 s1 => rw [q] at h; exact h
  | no => rw [q] at h; exact h
theorem mb_cons (h1 : MS X Γ W st c) (h2 : MB X Γ W rest c') : MB X Γ W (st :: rest) (mSeq c c') :=
  PSs.imp (pss_cons h1 h2) fun D σ H ⟨μ, Z, ρ, s, hE, hR, q⟩ => sS hE hR q fun ρ1 s1 σ1 H1 μ1 _ E1 R1 q1 => goS E1 R1 q1
theorem mb_one (h1 : MS X Γ W st c) : MB X Γ W [st] c := pss_one h1
def mBreak : FS := fun ρ s => .bk ρ s
theorem ms_break : MS X Γ W (.Break pos) mBreak := PS.imp ps_break fun D σ H ⟨μ, Z, ρ, s, hE, hR, q⟩ => q σ H μ .refl hR hE
def mExpr (f : FE) : FS := fun ρ s => (f ρ s).thenC ρ fun _ s1 => .nx ρ s1
theorem ms_expr (he : ME X Γ W e f) (hs : swapsWith e none pos.line X.env = pure false := by rfl) : MS X Γ W (.Expr e pos) (mExpr f) :=
  PS.imp (ps_expr he hs) fun D σ H ⟨μ, Z, ρ, s, hE, hR, q⟩ => eS hE hR q fun x s1 v H1 μ1 _ E1 R1 _ q1 => q1 σ H1 μ1 .refl R1 E1
def mRet (f : FE) : FS := fun ρ s => (f ρ s).thenC ρ fun w s1 => .rt w s1
theorem ms_ret (he : ME X Γ W e f) : MS X Γ W (.Return (some e) pos) (mRet f) :=
  PS.imp (ps_ret he) fun D σ H ⟨μ, Z, ρ, s, hE, hR, q⟩ => eS hE hR q fun x s1 v H1 μ1 _ E1 R1 r1 q1 => q1 v H1 μ1 .refl R1 r1
def mIfS (t : FT) (c c' : FS) : FS := fun ρ s => (t ρ s).thenC ρ fun b s1 => if b = true then c ρ s1 else c' ρ s1
theorem ms_if {cond : Expr} {a b : List Stmt} (hc : MT X Γ W cond t) (ha : MB X Γ W a c) (hb : MB X Γ W b c') : MS X Γ W (.If cond a b pos) (mIfS t c c') :=
  PS.imp (ps_if hc ha hb) fun D σ H ⟨μ, Z, ρ, s, hE, hR, q⟩ => tS hE hR q fun b s1 H1 μ1 _ E1 R1 q1 => by
    cases b with
    | true => rw [if_pos rfl] at q1 ⊢; exact goS E1 R1 q1
    | false => rw [if_neg Bool.false_ne_true] at q1 ⊢; exact goS E1 R1 q1
abbrev FG := Dv → Env → Sto → Option Env
/-- a target: what it does to the names -/
def GOk (Γ : Ct) (g : TG) (fg : FG) : Prop := ∀ (H : Hp) (μ : Mu) (Z : Zs) (ρ ρ' : Env) (s : Sto) (σ : L2.St) (w : Dv) (v : V) (Q : L2.St → Hp → Prop), RE Γ H μ Z ρ σ → Rep Γ H μ Z s → RV Γ H μ Z w v → fg w ρ s = some ρ' →
  (∀ σ', RE Γ H μ Z ρ' σ' → Q σ' H) → g v σ H Q
def GsOk (Γ : Ct) (g : TGs) (fg : List Dv → Env → Sto → Option Env) : Prop := ∀ (H : Hp) (μ : Mu) (Z : Zs) (ρ ρ' : Env) (s : Sto) (σ : L2.St) (ws : List Dv) (vs : List V) (Q : L2.St → Hp → Prop), RE Γ H μ Z ρ σ → Rep Γ H μ Z s → RVs Γ H μ Z ws vs → fg ws ρ s = some ρ' →
  (∀ σ', RE Γ H μ Z ρ' σ' → Q σ' H) → g vs σ H Q
def MG (X : Cx) (Γ : Ct) (tg : Expr) (g : TG) (fg : FG) : Prop := PG X tg g ∧ GOk Γ g fg
def MGs (X : Cx) (Γ : Ct) (tg : List Expr) (g : TGs) (fg : List Dv → Env → Sto → Option Env) : Prop := PGs X tg g ∧ GsOk Γ g fg
def gN (i : Nat) : FG := fun w ρ _ => some (ρ.set i (some w))
theorem mg_name {tg : Expr} {i : Nat} (h : PG X tg (gName i)) : MG X Γ tg (gName i) (gN i) := ⟨h, fun H μ Z ρ ρ' s σ w v Q hE hR r e k => by
  cases e
  exact k _ (hE.set i r)⟩
def gs0 : List Dv → Env → Sto → Option Env := fun ws ρ _ => match ws with
  | [] => some ρ
  | _ => none
def gsC (g : FG) (gs : List Dv → Env → Sto → Option Env) : List Dv → Env → Sto → Option Env := fun ws ρ s => match ws with
  | w :: r => (g w ρ s).bind fun ρ1 => gs r ρ1 s
  | [] => none
theorem mgs_nil : MGs X Γ [] gNil gs0 := ⟨pgs_nil, fun H μ Z ρ ρ' s σ ws vs Q hE hR r e k => by
  cases ws with
  | nil => cases e; exact ⟨r, k σ hE⟩
  | cons _ _ => cases e⟩
theorem mgs_cons {tg : Expr} {tgs : List Expr} {g : TG} {gs : TGs} {fg : FG} {fgs : List Dv → Env → Sto → Option Env} (h1 : MG X Γ tg g fg) (h2 : MGs X Γ tgs gs fgs) (h : PGs X (tg :: tgs) (gCons g gs)) : MGs X Γ (tg :: tgs) (gCons g gs) (gsC fg fgs) := ⟨h, fun H μ Z ρ ρ' s σ ws vs Q hE hR r e k => by
  cases ws with
  | nil => cases e
  | cons w ws =>
    obtain ⟨x, xs, rfl, r1, r2⟩ := r
    simp only [gsC] at e
    cases q : fg w ρ s with
    | none => rw [q] at e; cases e
    | some ρ1 =>
      rw [q] at e
      exact ⟨x, xs, rfl, h1.2 H μ Z ρ ρ1 s σ w x _ hE hR r1 q fun σ1 E1 => h2.2 H μ Z ρ1 ρ' s σ1 ws xs Q E1 hR r2 e k⟩⟩
def gT (n : Nat) (gs : List Dv → Env → Sto → Option Env) : FG := fun w ρ s => match tupOf w with
  | some ws => if ws.length = n then gs ws ρ s else none
  | none => none
theorem mg_tup {tg : Expr} {K : PySem.W.Frag} {n : Nat} {gs : TGs} {fgs : List Dv → Env → Sto → Option Env} (hK : K = Γ.K) (h : PG X tg (gTup K n gs)) (h2 : GsOk Γ gs fgs) : MG X Γ tg (gTup K n gs) (gT n fgs) := ⟨h, fun H μ Z ρ ρ' s σ w v Q hE hR r e k => by
  subst hK
  unfold gT at e
  split at e
  · rename_i ws q
    split at e
    · rename_i hl
      cases w with
      | tup us =>
        cases q
        obtain ⟨a, xs, h1, h3, h4⟩ := r
        exact ⟨a, xs, h1, h3.sq, by rw [h4.len]; exact hl, h2 H μ Z ρ ρ' s σ _ xs Q hE hR h4 e k⟩
      | _ => cases q
    · cases e
  · cases e⟩
/-- g = e -/
def mAsg (f : FE) (g : FG) : FS := fun ρ s => (f ρ s).thenC ρ fun w s1 => match g w ρ s1 with
  | some ρ' => .nx ρ' s1
  | none => .no
theorem asg_ok {g : TG} {fg : FG} {D : Ends} {σ : L2.St} {H : Hp} (hg : GOk Γ g fg) (h : rdS Γ W (mAsg f fg) D σ H) : tAsg (rdE Γ W f) g D σ H := by
  obtain ⟨μ, Z, ρ, s, hE, hR, q⟩ := h
  exact eS hE hR q fun w s1 v H1 μ1 _ E1 R1 r1 q1 => by
    split at q1
    · rename_i ρ' e
      exact hg H1 μ1 Z ρ ρ' s1 σ w v _ E1 R1 r1 e fun σ' E' => q1 σ' H1 μ1 .refl R1 E'
    · exact q1.elim
theorem ms_asg {g : TG} {fg : FG} (h : PS X st (tAsg (rdE Γ W f) g)) (hg : GOk Γ g fg) : MS X Γ W st (mAsg f fg) := PS.imp h fun D σ H => asg_ok hg
/-- the walk J yields these items -/
def Walks (Γ : Ct) (Z : Zs) (H : Hp) (μ : Mu) (ow : Option (Nat × List Dv)) (J : It) (ws : List Dv) : Prop := ∀ (H' : Hp) (μ' : Mu) (Z' : Zs) (s' : Sto), EvoZ Z H μ H' μ' → Rep Γ H' μ' Z' s' → (∀ a, Z a → Z' a) → (∀ a, Z' a → Z a ∨ H a = none) → (∀ n us, ow = some (n, us) → s'[n]? = some (.lst us)) →
  J.stop ws.length H' ∧ ∀ i w, ws[i]? = some w → J.go i H' ∧ ∀ x H'', J.yld i H' x H'' → Evo H' μ' H'' μ' ∧ Rep Γ H'' μ' Z' s' ∧ RV Γ H'' μ' Z' w x
structure Src where
  ws : List Dv
  ow : Option (Nat × List Dv) := none
abbrev FI := Env → Sto → R Src
def PostI (Γ : Ct) (W : WX) (H : Hp) (μ : Mu) (Z : Zs) (σ : L2.St) (Q : It → Hp → Prop) : R Src → Prop
  | .ok r s' => ∀ J H' μ', Evo H μ H' μ' → Rep Γ H' μ' Z s' → Walks Γ Z H' μ' r.ow J r.ws → Q J H'
  | .er x s' => ∀ cls d H' μ', Evo H μ H' μ' → Rep Γ H' μ' Z s' → RX Γ H' μ' Z x cls d → W cls d σ H'
  | .no => False
def rdI (Γ : Ct) (W : WX) (f : FI) : TI := fun σ H Q => ∃ μ Z ρ s, RE Γ H μ Z ρ σ ∧ Rep Γ H μ Z s ∧ PostI Γ W H μ Z σ Q (f ρ s)
def MI (X : Cx) (Γ : Ct) (W : WX) (tg iter : Expr) (f : FI) : Prop := PI X tg iter (rdI Γ W f)
theorem PI.imp {tg iter : Expr} {t t' : TI} (h : PI X tg iter t) (k : ∀ σ H Q, t' σ H Q → t σ H Q) : PI X tg iter t' := ⟨fun pins s σ H Q I q => h.run pins s σ H Q I (k σ H Q q)⟩
theorem PI.or {tg iter : Expr} {t t' : TI} (h : PI X tg iter t) (h' : PI X tg iter t') : PI X tg iter (fun σ H Q => t σ H Q ∨ t' σ H Q) := ⟨fun pins s σ H Q I q => q.elim (h.run pins s σ H Q I) (h'.run pins s σ H Q I)⟩
def srcOf (s : Sto) : Dv → Option Src
  | .tup ws => some { ws := ws }
  | .lst ws => some { ws := ws }
  | .sq ws => some { ws := ws }
  | .ref n => match s[n]? with
    | some (.lst ws) => some { ws := ws, ow := some (n, ws) }
    | _ => none
  | _ => none
def iSeq (f : FE) : FI := fun ρ s => (f ρ s).bind fun w s1 => R.of (srcOf s1 w) s1
mutual
theorem RV.strong {H : Hp} {μ : Mu} {Z Z' : Zs} (h : ∀ a, Z' a → Z a ∨ H a = none) : ∀ (w : Dv) {v : V}, RV Γ H μ Z w v → RV Γ H μ Z' w v
  | .non, _, q => q
  | .bl _, _, q => q
  | .int _, _, q => q
  | .str _, _, q => q
  | .ty _, _, q => q
  | .cl _, _, q => q
  | .ref n, _, q => q
  | .tup ws, _, q => by
    obtain ⟨a, xs, h1, h2, h3⟩ := q
    refine ⟨a, xs, h1, ?_, RVs.strong h ws h3⟩
    rcases h2 with ⟨h2, f⟩ | h2
    · exact .inl ⟨h2, f.1, fun z => (h a z).elim f.2 (Rd.alive h2)⟩
    · exact .inr h2
  | .sq ws, _, q => by
    obtain ⟨a, xs, h1, h2, h3⟩ := q
    refine ⟨a, xs, h1, ?_, RVs.strong h ws h3⟩
    rcases h2 with ⟨h2, f⟩ | h2
    · exact .inl ⟨h2, f.1, fun z => (h a z).elim f.2 (Rd.alive h2)⟩
    · exact .inr h2
  | .lst ws, _, q => by
    obtain ⟨a, xs, h1, h2, h3, h4⟩ := q
    exact ⟨a, xs, h1, h2, ⟨h3.1, fun z => (h a z).elim h3.2 (by rw [h2]; intro y; cases y)⟩, RVs.strong h ws h4⟩
  | .dct ks ws, _, q => by
    obtain ⟨a, kvs, h1, h2, h3, h4, h5⟩ := q
    exact ⟨a, kvs, h1, h2, ⟨h3.1, fun z => (h a z).elim h3.2 (by rw [h2]; intro y; cases y)⟩, h4, RVs.strong h ws h5⟩
  | .exc c f w, _, q => by
    obtain ⟨a, dx, x, h1, h2, h3, h4, h5, h6⟩ := q
    exact ⟨a, dx, x, h1, h2, ⟨h3.1, fun z => (h a z).elim h3.2 (by rw [h2]; intro y; cases y)⟩, h4, ⟨h5.1, fun z => (h dx z).elim h5.2 (by rw [h4]; intro y; cases y)⟩, RV.strong h w h6⟩
  | .exn c, _, q => by
    obtain ⟨a, h1, h2, h3⟩ := q
    exact ⟨a, h1, h2, ⟨h3.1, fun z => (h a z).elim h3.2 (by rw [h2]; intro y; cases y)⟩⟩
  | .clo a c _ ws vs, _, q => by
    obtain ⟨h1, h2, h3, h4⟩ := q
    exact ⟨h1, h2, ⟨h3.1, fun z => (h c z).elim h3.2 (by rw [h2]; intro y; cases y)⟩, RVs.strong h ws h4⟩
theorem RVs.strong {H : Hp} {μ : Mu} {Z Z' : Zs} (h : ∀ a, Z' a → Z a ∨ H a = none) : ∀ (ws : List Dv) {vs : List V}, RVs Γ H μ Z ws vs → RVs Γ H μ Z' ws vs
  | [], _, q => q
  | w :: ws, _, q => by
    obtain ⟨x, xs, h1, h2, h3⟩ := q
    exact ⟨x, xs, h1, RV.strong h w h2, RVs.strong h ws h3⟩
end
/-- a list, a tuple: walked -/
theorem walk_l {H : Hp} {μ : Mu} {Z : Zs} {a : Addr} {xs : List V} {ws : List Dv} (h : ∀ H' μ', EvoZ Z H μ H' μ' → SqL Γ.K H' a xs) (r : RVs Γ H μ Z ws xs) : Walks Γ Z H μ none (Itl Γ.K a) ws := fun H' μ' Z' s' ev hR hy hz _ => by
  have q := h H' μ' ev
  refine ⟨⟨xs, q, by rw [r.len]; exact Nat.le_refl _⟩, fun i w e => ?_⟩
  obtain ⟨x, e1, e2⟩ := r.get e
  refine ⟨⟨xs, x, q, e1⟩, fun y H'' hq => ?_⟩
  obtain ⟨rfl, hq⟩ := hq
  have e3 := hq xs q
  rw [e1] at e3
  cases e3
  exact ⟨.refl, hR, (RV.strong hz w e2).monoZ (ev.more hy)⟩
theorem walk_t {H : Hp} {μ : Mu} {Z : Zs} {a : Addr} {xs : List V} {ws : List Dv} (h : ∀ H' μ', EvoZ Z H μ H' μ' → SqT Γ.K H' a xs) (r : RVs Γ H μ Z ws xs) : Walks Γ Z H μ none (Itt Γ.K a) ws := fun H' μ' Z' s' ev hR hy hz _ => by
  have q := h H' μ' ev
  refine ⟨⟨xs, q, by rw [r.len]; exact Nat.le_refl _⟩, fun i w e => ?_⟩
  obtain ⟨x, e1, e2⟩ := r.get e
  refine ⟨⟨xs, x, q, e1⟩, fun y H'' hq => ?_⟩
  obtain ⟨rfl, hq⟩ := hq
  have e3 := hq xs q
  rw [e1] at e3
  cases e3
  exact ⟨.refl, hR, (RV.strong hz w e2).monoZ (ev.more hy)⟩
/-- a list of the store: walked while it stands -/
theorem walk_m {H : Hp} {μ : Mu} {Z : Zs} {a : Addr} {n : Nat} {xs : List V} {ws : List Dv} (hn : μ n = some a) (hH : H a = some (.lst xs)) (r : RVs Γ H μ Z ws xs) : Walks Γ Z H μ (some (n, ws)) (Itl Γ.K a) ws := fun H' μ' Z' s' ev hR hy hz ho => by
  obtain ⟨b, h1, _, ys, h3, h4⟩ := hR.at n _ (ho n ws rfl)
  rw [ev.mu n a hn] at h1
  cases h1
  have q : SqL Γ.K H' a ys := SqL.of h3
  refine ⟨⟨ys, q, by rw [h4.len]; exact Nat.le_refl _⟩, fun i w e => ?_⟩
  obtain ⟨x, e1, e2⟩ := h4.get e
  refine ⟨⟨ys, x, q, e1⟩, fun y H'' hq => ?_⟩
  obtain ⟨rfl, hq⟩ := hq
  have e3 := hq ys q
  rw [e1] at e3
  cases e3
  exact ⟨.refl, hR, e2⟩
theorem iI {H : Hp} {μ : Mu} {Z : Zs} {σ : L2.St} {ρ : Env} {s : Sto} {f : FE} {k : Dv → Sto → R Src} {Q : It → Hp → Prop} {Q' : VK} (hE : RE Γ H μ Z ρ σ) (hR : Rep Γ H μ Z s) (h : PostI Γ W H μ Z σ Q ((f ρ s).bind k))
    (hk : ∀ x s1 v H1 μ1, Evo H μ H1 μ1 → RE Γ H1 μ1 Z ρ σ → Rep Γ H1 μ1 Z s1 → RV Γ H1 μ1 Z x v → PostI Γ W H1 μ1 Z σ Q (k x s1) → Q' v H1) : rdE Γ W f σ H Q' := by
  refine ⟨μ, Z, ρ, s, hE, hR, ?_⟩
  cases e : f ρ s with
  | ok x s1 =>
    rw [e] at h
    refine fun v H1 μ1 ev R1 r1 => hk x s1 v H1 μ1 ev (hE.mono ev) R1 r1 ?_
    have h' : PostI Γ W H μ Z σ Q (k x s1) := h
    cases q : k x s1 with
    | ok r s' => rw [q] at h'; exact fun J H' μ' e' => h' J H' μ' (ev.trans e')
    | er y s' => rw [q] at h'; exact fun c d H' μ' e' => h' c d H' μ' (ev.trans e')
    | no => rw [q] at h'; exact h'.elim
  | er x s1 => rw [e] at h; exact h
  | no => rw [e] at h; exact h.elim
theorem iA {H : Hp} {μ : Mu} {Z : Zs} {σ : L2.St} {ρ : Env} {s : Sto} {f : FA} {k : List Dv → Sto → R Src} {Q : It → Hp → Prop} {Q' : List V → Hp → Prop} (hE : RE Γ H μ Z ρ σ) (hR : Rep Γ H μ Z s) (h : PostI Γ W H μ Z σ Q ((f ρ s).bind k))
    (hk : ∀ x s1 v H1 μ1, Evo H μ H1 μ1 → RE Γ H1 μ1 Z ρ σ → Rep Γ H1 μ1 Z s1 → RVs Γ H1 μ1 Z x v → PostI Γ W H1 μ1 Z σ Q (k x s1) → Q' v H1) : rdA Γ W f σ H Q' := by
  refine ⟨μ, Z, ρ, s, hE, hR, ?_⟩
  cases e : f ρ s with
  | ok x s1 =>
    rw [e] at h
    refine fun v H1 μ1 ev R1 r1 => hk x s1 v H1 μ1 ev (hE.mono ev) R1 r1 ?_
    have h' : PostI Γ W H μ Z σ Q (k x s1) := h
    cases q : k x s1 with
    | ok r s' => rw [q] at h'; exact fun J H' μ' e' => h' J H' μ' (ev.trans e')
    | er y s' => rw [q] at h'; exact fun c d H' μ' e' => h' c d H' μ' (ev.trans e')
    | no => rw [q] at h'; exact h'.elim
  | er x s1 => rw [e] at h; exact h
  | no => rw [e] at h; exact h.elim
theorem mi_seq {tg l : Expr} {f : FE} (hK : Γ.K = X.K) (hl : ME X Γ W l f) : MI X Γ W tg l (iSeq f) :=
  PI.imp (PI.or (pi_list hl) (pi_tup hl)) fun σ H Q ⟨μ, Z, ρ, s, hE, hR, q⟩ => by
    rw [← hK]
    unfold iSeq at q
    cases e : f ρ s with
    | no => rw [e] at q; exact q.elim
    | er x s1 => rw [e] at q; exact .inl ⟨μ, Z, ρ, s, hE, hR, by rw [e]; exact q⟩
    | ok x s1 =>
      rw [e] at q
      have q' : PostI Γ W H μ Z σ Q (R.of (srcOf s1 x) s1) := q
      cases x with
      | tup ws =>
        refine .inr ⟨μ, Z, ρ, s, hE, hR, ?_⟩
        rw [e]
        rintro v H1 μ1 e1 R1 ⟨a, xs, h1, h2, h3⟩
        exact ⟨a, h1, ⟨xs, h2.sq⟩, q' _ _ _ e1 R1 (walk_t (fun H' μ' ev => (h2.monoZ ev).sq) h3)⟩
      | sq ws =>
        refine .inl ⟨μ, Z, ρ, s, hE, hR, ?_⟩
        rw [e]
        rintro v H1 μ1 e1 R1 ⟨a, xs, h1, h2, h3⟩
        exact ⟨a, h1, ⟨xs, h2.sq⟩, q' _ _ _ e1 R1 (walk_l (fun H' μ' ev => (h2.monoZ ev).sq) h3)⟩
      | lst ws =>
        refine .inl ⟨μ, Z, ρ, s, hE, hR, ?_⟩
        rw [e]
        rintro v H1 μ1 e1 R1 ⟨a, xs, h1, h2, h3, h4⟩
        exact ⟨a, h1, ⟨xs, SqL.of h2⟩, q' _ _ _ e1 R1 (walk_l (fun H' μ' ev => SqL.of (ev.keep _ _ h2 h3.1 h3.2)) h4)⟩
      | ref n =>
        simp only [srcOf] at q'
        split at q'
        · rename_i us e2
          refine .inl ⟨μ, Z, ρ, s, hE, hR, ?_⟩
          rw [e]
          rintro v H1 μ1 e1 R1 ⟨a, h1, h2⟩
          obtain ⟨b, g1, _, xs, g3, g4⟩ := R1.at n _ e2
          rw [h2] at g1
          cases g1
          exact ⟨a, h1, ⟨xs, SqL.of g3⟩, q' _ _ _ e1 R1 (walk_m h2 g3 g4)⟩
        · exact q'.elim
      | _ => exact q'.elim
/-- range(n), range(a, b) -/
def rng (lo : Int) (n : Nat) : List Dv := (List.range n).map fun (i : Nat) => .int (lo + i)
theorem rng_get {lo : Int} {n i : Nat} {w : Dv} (h : (rng lo n)[i]? = some w) : i < n ∧ w = .int (lo + i) := by
  unfold rng at h
  rw [List.getElem?_map] at h
  cases e : (List.range n)[i]? with
  | none => rw [e] at h; cases h
  | some j =>
    rw [e] at h
    cases h
    obtain ⟨h1, h2⟩ := List.getElem?_eq_some_iff.mp e
    rw [List.length_range] at h1
    rw [List.getElem_range] at h2
    exact ⟨h1, by rw [h2]⟩
theorem rng_len (lo : Int) (n : Nat) : (rng lo n).length = n := by unfold rng; rw [List.length_map, List.length_range]
theorem walk_r {H : Hp} {μ : Mu} {Z : Zs} {lo : Int} {n : Nat} : Walks Γ Z H μ none (Itr lo n) (rng lo n) := fun H' μ' Z' s' ev hR hy hz _ => by
  refine ⟨by rw [rng_len]; exact Nat.le_refl n, fun i w e => ?_⟩
  obtain ⟨h1, rfl⟩ := rng_get e
  refine ⟨h1, fun x H'' hq => ?_⟩
  obtain ⟨rfl, rfl⟩ := hq
  exact ⟨.refl, hR, rfl⟩
def okR (i : Int) : Bool := decide (-(2 ^ 62) ≤ i ∧ i < 2 ^ 62)
def iRange1 (fa : FA) : FI := fun ρ s => (fa ρ s).bind fun ws s1 => match ws with
  | [.int j] => if okR j = true then .ok { ws := rng 0 j.toNat } s1 else .no
  | _ => .no
def iRange2 (fa : FA) : FI := fun ρ s => (fa ρ s).bind fun ws s1 => match ws with
  | [.int i, .int j] => if okR i = true ∧ okR j = true then .ok { ws := rng i (j - i).toNat } s1 else .no
  | _ => .no
theorem mi_range1 {tg a : Expr} {fa : FA} {p pos : Pos} (hg : Gl X "range") (hm : X.mg "range" = none) (ha : MA X Γ W [a] fa) (hs : starEach [a] X.env = [(false, eval a X.env)] := by rfl) : MI X Γ W tg (.Call (.Name "range" p) [a] [] pos) (iRange1 fa) :=
  PI.imp (pi_range1 hg hm ha hs) fun σ H Q ⟨μ, Z, ρ, s, hE, hR, q⟩ => iA hE hR q fun ws s1 vs H1 μ1 e1 E1 R1 r1 q1 => by
    split at q1
    · rename_i j
      split at q1
      · rename_i hj
        have hj' : -(2 ^ 62) ≤ j ∧ j < 2 ^ 62 := of_decide_eq_true hj
        obtain ⟨x, xs, rfl, g1, g2⟩ := r1
        rw [show x = .int j from g1, show xs = [] from g2]
        exact ⟨j, rfl, hj'.1, hj'.2, q1 _ _ _ .refl R1 walk_r⟩
      · exact q1.elim
    · exact q1.elim
theorem mi_range2 {tg a b : Expr} {fa : FA} {p pos : Pos} (hg : Gl X "range") (hm : X.mg "range" = none) (ha : MA X Γ W [a, b] fa) (hs : starEach [a, b] X.env = [(false, eval a X.env), (false, eval b X.env)] := by rfl) (hs2 : starEach [b] X.env = [(false, eval b X.env)] := by rfl) :
    MI X Γ W tg (.Call (.Name "range" p) [a, b] [] pos) (iRange2 fa) :=
  PI.imp (pi_range2 hg hm ha hs hs2) fun σ H Q ⟨μ, Z, ρ, s, hE, hR, q⟩ => iA hE hR q fun ws s1 vs H1 μ1 e1 E1 R1 r1 q1 => by
    split at q1
    · rename_i i j
      split at q1
      · rename_i hj
        have hi : -(2 ^ 62) ≤ i ∧ i < 2 ^ 62 := of_decide_eq_true hj.1
        have hj' : -(2 ^ 62) ≤ j ∧ j < 2 ^ 62 := of_decide_eq_true hj.2
        obtain ⟨x, xs, rfl, g1, y, ys, rfl, g2, g3⟩ := r1
        rw [show x = .int i from g1, show y = .int j from g2, show ys = [] from g3]
        exact ⟨i, j, rfl, ⟨hi.1, hi.2, hj'.1, hj'.2⟩, q1 _ _ _ .refl R1 walk_r⟩
      · exact q1.elim
    · exact q1.elim
/-- whether the list that is walked stands as it did -/
def still (s : Sto) (r : Option (Nat × List Dv)) : Prop := ∀ n us, r = some (n, us) → s[n]? = some (.lst us)
open Classical in
noncomputable def stB (s : Sto) (r : Option (Nat × List Dv)) : Bool := decide (still s r)
noncomputable def forL (ow : Option (Nat × List Dv)) (g : FG) (body : FS) : List Dv → FS
  | [], ρ, s => if ow.isNone = true ∨ stB s ow = true then .nx ρ s else .no
  | w :: ws, ρ, s => if ow.isNone = true ∨ stB s ow = true then match g w ρ s with
    | none => .no
    | some ρ1 => match body ρ1 s with
      | .nx ρ2 s2 => forL ow g body ws ρ2 s2
      | .ct ρ2 s2 => forL ow g body ws ρ2 s2
      | .bk ρ2 s2 => .nx ρ2 s2
      | .rt v s2 => .rt v s2
      | .er x ρ2 s2 => .er x ρ2 s2
      | .no => .no
    else .no
noncomputable def mFor (f : FI) (g : FG) (body : FS) : FS := fun ρ s => (f ρ s).thenC ρ fun r s1 => forL r.ow g body r.ws ρ s1
open Classical in
theorem st_of {s : Sto} {ow : Option (Nat × List Dv)} (h : ow.isNone = true ∨ stB s ow = true) : still s ow := by
  rcases h with h | h
  · intro n us e
    rw [e] at h
    cases h
  · unfold stB at h
    exact of_decide_eq_true h
theorem iS {H : Hp} {μ : Mu} {Z : Zs} {σ : L2.St} {ρ : Env} {s : Sto} {f : FI} {k : Src → Sto → C} {D : Ends} {Q' : It → Hp → Prop} (hE : RE Γ H μ Z ρ σ) (hR : Rep Γ H μ Z s) (h : PostS Γ W H μ Z D ((f ρ s).thenC ρ k))
    (hk : ∀ r s1 J H1 μ1, Evo H μ H1 μ1 → RE Γ H1 μ1 Z ρ σ → Rep Γ H1 μ1 Z s1 → Walks Γ Z H1 μ1 r.ow J r.ws → PostS Γ W H1 μ1 Z D (k r s1) → Q' J H1) : rdI Γ W f σ H Q' := by
  refine ⟨μ, Z, ρ, s, hE, hR, ?_⟩
  cases e : f ρ s with
  | ok r s1 => rw [e] at h; exact fun J H1 μ1 ev R1 w => hk r s1 J H1 μ1 ev (hE.mono ev) R1 w (PostS.evo ev h)
  | er x s1 => rw [e] at h; exact fun c d H' μ' ev R' rx => h c d σ H' μ' ev R' (hE.mono ev) rx
  | no => rw [e] at h; exact h.elim
theorem for_ok {H : Hp} {μ : Mu} {Z : Zs} {σ : L2.St} {ρ : Env} {s : Sto} {D : Ends} {g : TG} {fg : FG} {body : FS} {ow : Option (Nat × List Dv)} {ws : List Dv} {J : It} (hg : GOk Γ g fg) (hE : RE Γ H μ Z ρ σ) (hR : Rep Γ H μ Z s) (hw : Walks Γ Z H μ ow J ws)
    (q : PostS Γ W H μ Z D (forL ow fg body ws ρ s)) :
    ∃ Wn : Nat → Nat → L2.St → Hp → Prop, (∃ m, Wn 0 m σ H) ∧ ∀ i m σ H, Wn i m σ H → (J.stop i H ∧ D.nx σ H) ∨ (J.go i H ∧ ∃ N : L2.St → Hp → Prop, (∀ σ' H', N σ' H' → ∃ m', m' < m ∧ Wn (i + 1) m' σ' H') ∧
      ∀ x H', J.yld i H x H' → g x σ H' fun σ2 H2 => rdS Γ W body { D with nx := N, ct := N, bk := D.nx } σ2 H2) := by
  let P : Nat → L2.St → Hp → Prop := fun i σ1 H1 => ∃ μ1 ρ1 s1, Evo H μ H1 μ1 ∧ RE Γ H1 μ1 Z ρ1 σ1 ∧ Rep Γ H1 μ1 Z s1 ∧ PostS Γ W H1 μ1 Z D (forL ow fg body (ws.drop i) ρ1 s1)
  refine ⟨fun i m σ1 H1 => m = ws.length - i ∧ i ≤ ws.length ∧ P i σ1 H1, ⟨ws.length, by omega, Nat.zero_le _, μ, ρ, s, .refl, hE, hR, q⟩, ?_⟩
  rintro i m σ1 H1 ⟨rfl, hi, μ1, ρ1, s1, ev, E1, R1, q1⟩
  by_cases hl : i < ws.length
  · have hd : ws.drop i = ws[i] :: ws.drop (i + 1) := List.drop_eq_getElem_cons hl
    rw [hd] at q1
    simp only [forL] at q1
    split at q1
    · rename_i hst
      obtain ⟨_, hgo⟩ := hw H1 μ1 Z s1 ev.z R1 (fun _ z => z) (fun a z => .inl z) (st_of hst)
      obtain ⟨h1, h2⟩ := hgo i ws[i] (List.getElem?_eq_getElem hl)
      refine .inr ⟨h1, P (i + 1), fun σ' H' p => ⟨_, by omega, rfl, hl, p⟩, fun x H' hy => ?_⟩
      obtain ⟨e2, R2, r2⟩ := h2 x H' hy
      cases eg : fg ws[i] ρ1 s1 with
      | none => rw [eg] at q1; exact q1.elim
      | some ρ2 =>
        rw [eg] at q1
        dsimp only at q1
        refine hg H' μ1 Z ρ1 ρ2 s1 σ1 ws[i] x _ (E1.mono e2) R2 r2 eg fun σ2 E2 => ⟨μ1, Z, ρ2, s1, E2, R2, ?_⟩
        cases eb : body ρ2 s1 with
        | nx ρ3 s3 => rw [eb] at q1; exact fun σ3 H3 μ3 e3 R3 E3 => ⟨μ3, ρ3, s3, (ev.trans e2).trans e3, E3, R3, PostS.evo (e2.trans e3) q1⟩
        | ct ρ3 s3 => rw [eb] at q1; exact fun σ3 H3 μ3 e3 R3 E3 => ⟨μ3, ρ3, s3, (ev.trans e2).trans e3, E3, R3, PostS.evo (e2.trans e3) q1⟩
        | bk ρ3 s3 => rw [eb] at q1; exact fun σ3 H3 μ3 e3 R3 E3 => q1 σ3 H3 μ3 (e2.trans e3) R3 E3
        | rt v s3 => rw [eb] at q1; exact fun v3 H3 μ3 e3 R3 r3 => q1 v3 H3 μ3 (e2.trans e3) R3 r3
        | er x3 ρ3 s3 => rw [eb] at q1; exact fun c d σ3 H3 μ3 e3 R3 E3 r3 => q1 c d σ3 H3 μ3 (e2.trans e3) R3 E3 r3
        | no => rw [eb] at q1; exact q1.elim
    · exact q1.elim
  · have he : i = ws.length := by omega
    subst he
    rw [List.drop_length] at q1
    simp only [forL] at q1
    split at q1
    · rename_i hst
      obtain ⟨hs, _⟩ := hw H1 μ1 Z s1 ev.z R1 (fun _ z => z) (fun a z => .inl z) (st_of hst)
      exact .inl ⟨hs, q1 σ1 H1 μ1 .refl R1 E1⟩
    · exact q1.elim
theorem ms_for {tg iter : Expr} {bd : List Stmt} {f : FI} {g : TG} {fg : FG} {body : FS} (hp : PassesOwn (model X.prog X.w) X.A X.env X.xe) (hc : X.calm = true) (hi : MI X Γ W tg iter f) (hg : MG X Γ tg g fg) (hb : MB X Γ W bd body)
    (hs : ∀ x, foldedSetIterable iter X.env x = pure x := by intro _; rfl) : MS X Γ W (.For tg iter bd [] pos) (mFor f fg body) :=
  PS.imp (ps_for hp hc hi hg.1 hb hs) fun D σ H ⟨μ, Z, ρ, s, hE, hR, q⟩ => iS hE hR q fun r s1 J H1 μ1 e1 E1 R1 w1 q1 => for_ok hg.2 E1 R1 w1 q1
def whL (t : FT) (body : FS) : Nat → FS
  | 0, _, _ => .no
  | n + 1, ρ, s => (t ρ s).thenC ρ fun b s1 => if b = true then match body ρ s1 with
      | .nx ρ2 s2 => whL t body n ρ2 s2
      | .ct ρ2 s2 => whL t body n ρ2 s2
      | .bk ρ2 s2 => .nx ρ2 s2
      | .rt v s2 => .rt v s2
      | .er x ρ2 s2 => .er x ρ2 s2
      | .no => .no
    else .nx ρ s1
theorem ms_while {cond : Expr} {bd : List Stmt} {body : FS} (n : Nat) (hp : PassesOwn (model X.prog X.w) X.A X.env X.xe) (hc : MT X Γ W cond t) (hb : MB X Γ W bd body) : MS X Γ W (.While cond bd [] pos) (whL t body n) :=
  PS.imp (ps_while hp hc hb) fun D σ H ⟨μ, Z, ρ, s, hE, hR, q⟩ => by
    refine ⟨fun m σ1 H1 => ∃ μ1 ρ1 s1, RE Γ H1 μ1 Z ρ1 σ1 ∧ Rep Γ H1 μ1 Z s1 ∧ PostS Γ W H1 μ1 Z D (whL t body m ρ1 s1), ⟨n, μ, ρ, s, hE, hR, q⟩, ?_⟩
    rintro m σ1 H1 ⟨μ1, ρ1, s1, E1, R1, q1⟩
    cases m with
    | zero => exact q1.elim
    | succ m =>
      refine tS E1 R1 q1 fun b s2 H2 μ2 e2 E2 R2 q2 => ?_
      cases b with
      | false =>
        rw [if_neg Bool.false_ne_true] at q2 ⊢
        exact q2 σ1 H2 μ2 .refl R2 E2
      | true =>
        rw [if_pos rfl] at q2 ⊢
        refine ⟨fun σ3 H3 => ∃ μ1 ρ1 s1, RE Γ H3 μ1 Z ρ1 σ3 ∧ Rep Γ H3 μ1 Z s1 ∧ PostS Γ W H3 μ1 Z D (whL t body m ρ1 s1), fun σ' H' p => ⟨m, Nat.lt_succ_self m, p⟩, μ2, Z, ρ1, s2, E2, R2, ?_⟩
        cases eb : body ρ1 s2 with
        | nx ρ3 s3 => rw [eb] at q2; exact fun σ3 H3 μ3 e3 R3 E3 => ⟨μ3, ρ3, s3, E3, R3, PostS.evo e3 q2⟩
        | ct ρ3 s3 => rw [eb] at q2; exact fun σ3 H3 μ3 e3 R3 E3 => ⟨μ3, ρ3, s3, E3, R3, PostS.evo e3 q2⟩
        | bk ρ3 s3 => rw [eb] at q2; exact fun σ3 H3 μ3 e3 R3 E3 => q2 σ3 H3 μ3 e3 R3 E3
        | rt v s3 => rw [eb] at q2; exact fun v3 H3 μ3 e3 R3 r3 => q2 v3 H3 μ3 e3 R3 r3
        | er x3 ρ3 s3 => rw [eb] at q2; exact fun c d σ3 H3 μ3 e3 R3 E3 r3 => q2 c d σ3 H3 μ3 e3 R3 E3 r3
        | no => rw [eb] at q2; exact q2.elim
end
end MP
set_option Elab.async false
set_option linter.all false
set_option maxRecDepth 100000
set_option maxHeartbeats 4000000
namespace MP
open PySem PySem.Spec PyProof.Rows L2
/-- nothing is raised here -/
abbrev W0 : WX := fun _ _ _ _ => False
section
variable {X : Cx} {Γ : Ct} {W : WX} {H H1 H' : Hp} {μ μ1 μ' : Mu} {Z Z' : Zs} {ρ : Env} {σ : L2.St} {s : Sto} {p : Addr} {o : HO}
abbrev hid (p : Addr) (Z : Zs) : Zs := fun b => b = p ∨ Z b
theorem RO.strong {a : Addr} {ob : Ob} (h : ∀ a, Z' a → Z a ∨ H a = none) (r : RO Γ H μ Z a ob) : RO Γ H μ Z' a ob := by
  cases ob with
  | lst ws =>
    obtain ⟨xs, h4, h5⟩ := r
    exact ⟨xs, h4, RVs.strong h ws h5⟩
  | dct kws =>
    obtain ⟨kvs, h4, h5, h6⟩ := r
    exact ⟨kvs, h4, h5, RVs.strong h _ h6⟩
  | obj c fs =>
    obtain ⟨dx, kvs, h4, h5, h6⟩ := r
    exact ⟨dx, kvs, h4, h5, RVs.strong h _ h6⟩
  | tab m q => exact ⟨r.1, tab_imp rfl (fun c e1 e2 => ⟨e1, e2.1, fun z => (h c z).elim e2.2 (by rw [e1]; intro y; cases y)⟩) r.2⟩
theorem RO.weak {a : Addr} {ob : Ob} (h : ∀ a, Z a → Z' a) (r : RO Γ H μ Z' a ob) : RO Γ H μ Z a ob := by
  cases ob with
  | lst ws =>
    obtain ⟨xs, h4, h5⟩ := r
    exact ⟨xs, h4, RVs.weak h ws h5⟩
  | dct kws =>
    obtain ⟨kvs, h4, h5, h6⟩ := r
    exact ⟨kvs, h4, h5, RVs.weak h _ h6⟩
  | obj c fs =>
    obtain ⟨dx, kvs, h4, h5, h6⟩ := r
    exact ⟨dx, kvs, h4, h5, RVs.weak h _ h6⟩
  | tab m q => exact ⟨r.1, tab_imp rfl (fun c e1 e2 => ⟨e1, e2.weak h⟩) r.2⟩
theorem Rep.weak (h : ∀ a, Z a → Z' a) (hR : Rep Γ H μ Z' s) : Rep Γ H μ Z s := ⟨fun n ob q => by
  obtain ⟨a, h1, h2, h3⟩ := hR.at n ob q
  exact ⟨a, h1, fun z => h2 (h a z), h3.weak h⟩, hR.inj, hR.dom, fun a z => hR.za a (h a z)⟩
/-- a fresh object, hidden -/
theorem Rep.hide (hR : Rep Γ H μ Z s) (hp : H p = none) : Rep Γ (upd H p o) μ (hid p Z) s := by
  have hz : ∀ a, hid p Z a → Z a ∨ H a = none := fun a z => z.elim (fun e => .inr (e ▸ hp)) .inl
  have ev : Evo H μ (upd H p o) μ := Evo.laid hp
  refine ⟨fun n ob q => ?_, hR.inj, hR.dom, fun a z => ?_⟩
  · obtain ⟨a, h1, h2, h3⟩ := hR.at n ob q
    have hne : a ≠ p := fun e => hR.alive h1 (e ▸ hp)
    exact ⟨a, h1, fun z => z.elim hne h2, (h3.strong hz).mono' ev (upd_ne hne)⟩
  · by_cases e : a = p
    · rw [e, upd_same]; intro y; cases y
    · rw [upd_ne e]
      exact hR.za a (z.resolve_left e)
theorem RE.hide (hE : RE Γ H μ Z ρ σ) (hp : H p = none) : RE Γ (upd H p o) μ (hid p Z) ρ σ := ⟨hE.1, fun i w q => by
  obtain ⟨v, h1, h2⟩ := hE.2 i w q
  exact ⟨v, h1, (RV.strong (fun a z => z.elim (fun e => .inr (e ▸ hp)) .inl) w h2).mono (Evo.laid hp)⟩⟩
theorem Evo.hid (e : Evo H μ H1 μ1) (hp : H p = none) : Evo H μ (upd H1 p o) μ1 where
  keep := fun a ob h hn => by rw [upd_ne (ne_of_none h hp)]; exact e.keep a ob h hn
  mu := e.mu
  new := e.new
  stay := fun n a h q => by
    rw [upd_ne (fun z : a = p => q (by rw [z]; exact hp))]
    exact e.stay n a h q
theorem RO.updZ {a : Addr} {ob : Ob} (hne : a ≠ p) (r : RO Γ H μ (MP.hid p Z) a ob) : RO Γ (upd H p o) μ (MP.hid p Z) a ob := by
  cases ob with
  | lst ws =>
    obtain ⟨xs, h4, h5⟩ := r
    exact ⟨xs, by rw [upd_ne hne]; exact h4, RVs.updZ ws h5⟩
  | dct kws =>
    obtain ⟨kvs, h4, h5, h6⟩ := r
    exact ⟨kvs, by rw [upd_ne hne]; exact h4, h5, RVs.updZ _ h6⟩
  | obj c fs =>
    obtain ⟨dx, kvs, h4, h5, h6⟩ := r
    exact ⟨dx, kvs, by rw [upd_ne hne]; exact h4, h5, RVs.updZ _ h6⟩
  | tab m q => exact ⟨r.1, tab_imp (upd_ne hne) (fun c e1 e2 => ⟨by rw [upd_ne e2.evoZ]; exact e1, e2⟩) r.2⟩
theorem Rep.updZ (hR : Rep Γ H μ (MP.hid p Z) s) : Rep Γ (upd H p o) μ (MP.hid p Z) s := ⟨fun n ob q => by
  obtain ⟨a, h1, h2, h3⟩ := hR.at n ob q
  exact ⟨a, h1, h2, h3.updZ fun e => h2 (.inl e)⟩, hR.inj, hR.dom, fun a z => by
    by_cases e : a = p
    · rw [e, upd_same]; intro y; cases y
    · rw [upd_ne e]; exact hR.za a z⟩
theorem RE.wipe (hE : RE Γ H μ Z ρ σ) : ∀ vs : List Nat, RE Γ H μ Z (vs.foldr (fun v r => r.set v none) ρ) (L2.wipe σ vs)
  | [] => hE
  | v :: vs => (RE.wipe hE vs).del v
end
def wipeD (ρ : Env) (vs : List Nat) : Env := vs.foldr (fun v r => r.set v none) ρ
noncomputable def compL (ow : Option (Nat × List Dv)) (vs : List Nat) (g : FG) (tt : FT) (elt : FE) (ρ : Env) : List Dv → Sto → Option (List Dv × Sto)
  | [], s => if ow.isNone = true ∨ stB s ow = true then some ([], s) else none
  | w :: ws, s => if ow.isNone = true ∨ stB s ow = true then match g w (wipeD ρ vs) s with
    | none => none
    | some ρ1 => match tt ρ1 s with
      | .ok true s2 => match elt ρ1 s2 with
        | .ok y s3 => (compL ow vs g tt elt ρ ws s3).map fun r => (y :: r.1, r.2)
        | _ => none
      | .ok false s2 => compL ow vs g tt elt ρ ws s2
      | _ => none
    else none
noncomputable def mComp (f : FI) (vs : List Nat) (g : FG) (tt : FT) (elt : FE) : FE := fun ρ s => (f ρ s).bind fun r s1 => match compL r.ow vs g tt elt ρ r.ws s1 with
  | some (ws, s2) => if ws.length ≤ lim then .ok (.lst ws) s2 else .no
  | none => .no
def mYes : FT := fun _ s => .ok true s
/-- a target within the block's own names -/
def GWk (Γ : Ct) (g : TG) (fg : FG) (vs : List Nat) : Prop := ∀ (H : Hp) (μ : Mu) (Z : Zs) (ρ ρ' : Env) (s : Sto) (σ : L2.St) (w : Dv) (v : V) (Q : L2.St → Hp → Prop), RE Γ H μ Z ρ σ → Rep Γ H μ Z s → RV Γ H μ Z w v → fg w ρ s = some ρ' →
  (∀ σ', RE Γ H μ Z ρ' σ' → L2.wipe σ' vs = L2.wipe σ vs → Q σ' H) → g v σ H Q
def GsWk (Γ : Ct) (g : TGs) (fg : List Dv → Env → Sto → Option Env) (vs : List Nat) : Prop := ∀ (H : Hp) (μ : Mu) (Z : Zs) (ρ ρ' : Env) (s : Sto) (σ : L2.St) (ws : List Dv) (xs : List V) (Q : L2.St → Hp → Prop), RE Γ H μ Z ρ σ → Rep Γ H μ Z s → RVs Γ H μ Z ws xs → fg ws ρ s = some ρ' →
  (∀ σ', RE Γ H μ Z ρ' σ' → L2.wipe σ' vs = L2.wipe σ vs → Q σ' H) → g xs σ H Q
theorem wipe_set (σ : L2.St) (i : Nat) (v : Option V) : ∀ vs : List Nat, i ∈ vs → L2.wipe (σ.set i v) vs = L2.wipe σ vs
  | [], h => nomatch h
  | j :: vs, h => by
    show (L2.wipe (σ.set i v) vs).set j none = (L2.wipe σ vs).set j none
    by_cases hm : i ∈ vs
    · rw [wipe_set σ i v vs hm]
    · have e : i = j := (List.mem_cons.mp h).resolve_right hm
      subst e
      have comm : ∀ (us : List Nat), i ∉ us → L2.wipe (σ.set i v) us = (L2.wipe σ us).set i v := fun us => by
        induction us with
        | nil => intro _; rfl
        | cons k us ih =>
          intro hk
          show (L2.wipe (σ.set i v) us).set k none = ((L2.wipe σ us).set k none).set i v
          rw [ih fun z => hk (List.mem_cons_of_mem _ z)]
          exact List.set_comm _ _ fun z => hk (by rw [z]; exact List.mem_cons_self)
      rw [comm vs hm, List.set_set]
theorem wipe_wipe (σ : L2.St) (vs : List Nat) : L2.wipe (L2.wipe σ vs) vs = L2.wipe σ vs := by
  have key : ∀ (us : List Nat), (∀ i ∈ us, i ∈ vs) → L2.wipe (L2.wipe σ us) vs = L2.wipe σ vs := fun us => by
    induction us with
    | nil => intro _; rfl
    | cons j us ih =>
      intro h
      show L2.wipe ((L2.wipe σ us).set j none) vs = _
      rw [wipe_set _ j none vs (h j List.mem_cons_self)]
      exact ih fun i hi => h i (List.mem_cons_of_mem _ hi)
  exact key vs fun _ h => h
section
variable {X : Cx} {Γ : Ct} {W : WX}
theorem gw_name {i : Nat} {vs : List Nat} (h : i ∈ vs) : GWk Γ (gName i) (gN i) vs := fun H μ Z ρ ρ' s σ w v Q hE hR r e k => by
  cases e
  exact k _ (hE.set i r) (wipe_set σ i (some v) vs h)
theorem gws_nil {vs : List Nat} : GsWk Γ gNil gs0 vs := fun H μ Z ρ ρ' s σ ws xs Q hE hR r e k => by
  cases ws with
  | nil => cases e; exact ⟨r, k σ hE rfl⟩
  | cons _ _ => cases e
theorem gws_cons {g : TG} {gs : TGs} {fg : FG} {fgs : List Dv → Env → Sto → Option Env} {vs : List Nat} (h1 : GWk Γ g fg vs) (h2 : GsWk Γ gs fgs vs) : GsWk Γ (gCons g gs) (gsC fg fgs) vs := fun H μ Z ρ ρ' s σ ws xs Q hE hR r e k => by
  cases ws with
  | nil => cases e
  | cons w ws =>
    obtain ⟨x, xs, rfl, r1, r2⟩ := r
    simp only [gsC] at e
    cases q : fg w ρ s with
    | none => rw [q] at e; cases e
    | some ρ1 =>
      rw [q] at e
      exact ⟨x, xs, rfl, h1 H μ Z ρ ρ1 s σ w x _ hE hR r1 q fun σ1 E1 hw => h2 H μ Z ρ1 ρ' s σ1 ws xs Q E1 hR r2 e fun σ' E' hw' => k σ' E' (hw'.trans hw)⟩
theorem gw_tup {K : PySem.W.Frag} {n : Nat} {gs : TGs} {fgs : List Dv → Env → Sto → Option Env} {vs : List Nat} (hK : K = Γ.K) (h2 : GsWk Γ gs fgs vs) : GWk Γ (gTup K n gs) (gT n fgs) vs := fun H μ Z ρ ρ' s σ w v Q hE hR r e k => by
  subst hK
  unfold gT at e
  split at e
  · rename_i ws q
    split at e
    · rename_i hl
      cases w with
      | tup us =>
        cases q
        obtain ⟨a, xs, h1, h3, h4⟩ := r
        exact ⟨a, xs, h1, h3.sq, by rw [h4.len]; exact hl, h2 H μ Z ρ ρ' s σ _ xs Q hE hR h4 e k⟩
      | _ => cases q
    · cases e
  · cases e
theorem iE {H : Hp} {μ : Mu} {Z : Zs} {σ : L2.St} {ρ : Env} {s : Sto} {f : FI} {k : Src → Sto → R Dv} {Q : VK} {Q' : It → Hp → Prop} (hE : RE Γ H μ Z ρ σ) (hR : Rep Γ H μ Z s) (h : PostE Γ W H μ Z σ Q ((f ρ s).bind k))
    (hk : ∀ r s1 J H1 μ1, Evo H μ H1 μ1 → RE Γ H1 μ1 Z ρ σ → Rep Γ H1 μ1 Z s1 → Walks Γ Z H1 μ1 r.ow J r.ws → PostE Γ W H1 μ1 Z σ Q (k r s1) → Q' J H1) : rdI Γ W f σ H Q' := by
  refine ⟨μ, Z, ρ, s, hE, hR, ?_⟩
  cases e : f ρ s with
  | ok r s1 => rw [e] at h; exact fun J H1 μ1 ev R1 w => hk r s1 J H1 μ1 ev (hE.mono ev) R1 w (PostE.evo ev h)
  | er x s1 => rw [e] at h; exact h
  | no => rw [e] at h; exact h.elim
/-- the walk of a comprehension -/
theorem comp_ok {H1 : Hp} {μ1 : Mu} {Z : Zs} {σ : L2.St} {ρ : Env} {s1 s2 : Sto} {g : TG} {fg : FG} {tt : FT} {elt : FE} {vs : List Nat} {ow : Option (Nat × List Dv)} {ws tot : List Dv} {J : It} {Qd : Hp → Prop} {D : Addr} (hg : GWk Γ g fg vs) (hE : RE Γ H1 μ1 Z ρ σ) (hR : Rep Γ H1 μ1 Z s1) (hw : Walks Γ Z H1 μ1 ow J ws) (hD : H1 D = none)
    (q : compL ow vs fg tt elt ρ ws s1 = some (tot, s2)) (hl : tot.length ≤ lim)
    (fin : ∀ H μ acc, Evo H1 μ1 H μ → Rep Γ H μ (hid D Z) s2 → H D = some (.lst acc) → RVs Γ H μ (hid D Z) tot acc → Qd H) :
    ∃ Wn : Nat → Nat → Hp → Prop, (∃ m, Wn 0 m (upd H1 D (.lst []))) ∧ ∀ i m H, Wn i m H → (J.stop i H ∧ Qd H) ∨ (J.go i H ∧ ∃ Nx : Hp → Prop, (∀ H', Nx H' → ∃ m', m' < m ∧ Wn (i + 1) m' H') ∧
      ∀ x H', J.yld i H x H' → g x (L2.wipe σ vs) H' fun σ2 H2 => L2.wipe σ2 vs = L2.wipe σ vs ∧ rdT Γ W0 tt σ2 H2 fun b H3 =>
        if b = true then rdE Γ W0 elt σ2 H3 fun y H4 => ∃ acc, H4 D = some (.lst acc) ∧ acc.length < sizeLine ∧ Nx (upd H4 D (.lst (acc ++ [y]))) else Nx H3) := by
  let P : Nat → Hp → Prop := fun i H => ∃ μ s wa acc r, Evo H1 μ1 H μ ∧ Rep Γ H μ (hid D Z) s ∧ H D = some (.lst acc) ∧ RVs Γ H μ (hid D Z) wa acc ∧ compL ow vs fg tt elt ρ (ws.drop i) s = some (r, s2) ∧ wa ++ r = tot
  refine ⟨fun i m H => m = ws.length - i ∧ i ≤ ws.length ∧ P i H, ⟨ws.length, by omega, Nat.zero_le _, μ1, s1, [], [], tot, Evo.laid hD, hR.hide hD, upd_same, rfl, q, rfl⟩, ?_⟩
  rintro i m H ⟨rfl, hi, μ, s, wa, acc, r, ev, R, hH, ra, qr, ht⟩
  have hz : ∀ a, hid D Z a → Z a ∨ H1 a = none := fun a z => z.elim (fun e => .inr (e ▸ hD)) .inl
  have E : RE Γ H μ (hid D Z) ρ σ := ⟨hE.1, fun j w e => by
    obtain ⟨v, g1, g2⟩ := hE.2 j w e
    exact ⟨v, g1, (RV.strong hz w g2).mono ev⟩⟩
  by_cases hlt : i < ws.length
  · have hd : ws.drop i = ws[i] :: ws.drop (i + 1) := List.drop_eq_getElem_cons hlt
    rw [hd] at qr
    simp only [compL] at qr
    split at qr
    · rename_i hst
      obtain ⟨_, hgo⟩ := hw H μ (hid D Z) s ev.z R (fun a z => .inr z) hz (st_of hst)
      obtain ⟨h1, h2⟩ := hgo i ws[i] (List.getElem?_eq_getElem hlt)
      refine .inr ⟨h1, P (i + 1), fun H' p => ⟨_, by omega, rfl, hlt, p⟩, fun x H' hy => ?_⟩
      obtain ⟨e2, R2, r2⟩ := h2 x H' hy
      cases eg : fg ws[i] (wipeD ρ vs) s with
      | none => rw [eg] at qr; cases qr
      | some ρ2 =>
        rw [eg] at qr
        dsimp only at qr
        refine hg H' μ (hid D Z) (wipeD ρ vs) ρ2 s (L2.wipe σ vs) ws[i] x _ ((E.mono e2).wipe vs) R2 r2 eg fun σ2 E2 hwp => ⟨hwp.trans (wipe_wipe σ vs), μ, hid D Z, ρ2, s, E2, R2, ?_⟩
        cases et : tt ρ2 s with
        | no => rw [et] at qr; cases qr
        | er x3 s3 => rw [et] at qr; cases qr
        | ok b s3 =>
          rw [et] at qr
          intro H3 μ3 e3 R3
          have hH3 : H3 D = some (.lst acc) := e3.keep _ _ (e2.keep _ _ hH fun n hn => R.notZ hn (.inl rfl)) fun n hn => R2.notZ hn (.inl rfl)
          have ra3 : RVs Γ H3 μ3 (hid D Z) wa acc := (ra.mono e2).mono e3
          cases b with
          | false =>
            rw [if_neg Bool.false_ne_true]
            exact ⟨μ3, s3, wa, acc, r, (ev.trans e2).trans e3, R3, hH3, ra3, qr, ht⟩
          | true =>
            rw [if_pos rfl]
            dsimp only at qr
            refine ⟨μ3, hid D Z, ρ2, s3, E2.mono e3, R3, ?_⟩
            cases ee : elt ρ2 s3 with
            | no => rw [ee] at qr; cases qr
            | er x4 s4 => rw [ee] at qr; cases qr
            | ok y s4 =>
              rw [ee] at qr
              dsimp only at qr
              intro v H4 μ4 e4 R4 r4
              cases ec : compL ow vs fg tt elt ρ (ws.drop (i + 1)) s4 with
              | none => rw [ec] at qr; cases qr
              | some rr =>
                rw [ec] at qr
                obtain ⟨r', s''⟩ := rr
                cases qr
                have hH4 : H4 D = some (.lst acc) := e4.keep _ _ hH3 fun n hn => R3.notZ hn (.inl rfl)
                have hlen : acc.length < sizeLine := by
                  have := ra.len
                  rw [← ht, List.length_append] at hl
                  exact lim_lt (by omega)
                refine ⟨acc, hH4, hlen, μ4, s4, wa ++ [y], acc ++ [v], r', (((ev.trans e2).trans e3).trans e4).hid hD, R4.updZ, upd_same, RVs.append (RVs.updZ wa (ra3.mono e4)) (RVs.cons (RV.updZ y r4) rfl), ec, ?_⟩
                rw [← ht]
                simp
    · cases qr
  · have he : i = ws.length := by omega
    subst he
    rw [List.drop_length] at qr
    simp only [compL] at qr
    split at qr
    · rename_i hst
      cases qr
      obtain ⟨hs, _⟩ := hw H μ (hid D Z) _ ev.z R (fun a z => .inr z) hz (st_of hst)
      rw [List.append_nil] at ht
      subst ht
      exact .inl ⟨hs, fin H μ acc ev R hH ra⟩
    · cases qr
theorem PTs.imp {ifs : List Expr} {t t' : TT} (h : PTs X ifs t) (k : ∀ σ H Q, t' σ H Q → t σ H Q) : PTs X ifs t' := ⟨fun pins s σ H Q I q => h.run pins s σ H Q I (k σ H Q q)⟩
def MTs (X : Cx) (Γ : Ct) (ifs : List Expr) (t : FT) : Prop := PTs X ifs (rdT Γ W0 t)
theorem mts_nil : MTs X Γ [] mYes := PTs.imp pts_nil fun σ H Q ⟨μ, Z, ρ, s, hE, hR, q⟩ => q H μ .refl hR
theorem mts_one {c : Expr} {t : FT} (h : MT X Γ W0 c t) : MTs X Γ [c] t := pts_one h
theorem fin_lst {H1 H : Hp} {μ1 μ : Mu} {Z : Zs} {σ : L2.St} {s1 s2 : Sto} {tot : List Dv} {acc : List V} {D : Addr} {Q : VK} (hR1 : Rep Γ H1 μ1 Z s1) (hD : H1 D = none) (ev : Evo H1 μ1 H μ) (R : Rep Γ H μ (hid D Z) s2) (hH : H D = some (.lst acc)) (ra : RVs Γ H μ (hid D Z) tot acc)
    (q : PostE Γ W H1 μ1 Z σ Q (.ok (.lst tot) s2)) : Q (.ref D) H :=
  q _ H μ ev (R.weak fun a z => .inr z) ⟨D, acc, rfl, hH, ⟨fun n hn => R.notZ hn (.inl rfl), fun z => hR1.za D z hD⟩, RVs.weak (fun a z => .inr z) tot ra⟩
theorem me_comp {elt tg iter : Expr} {ifs : List Expr} {scope : Scope} {own : List (Str × Nat)} {pos : Pos} {f : FI} {g : TG} {fg : FG} {tt : FT} {fe : FE} (hc : X.calm = true) (hN : X.N.Nodup) (hi : MI X Γ W tg iter f) (ok : BlkOk X.N X.env.scope scope own)
    (hg : ∀ (s : Shared) (H : Hp) (C : Addr) (cl : List (Str × Addr)) (fp : List Addr), PG (X.blk s H scope (compEnvC scope cl C X.env) fp) tg g) (hw : GWk Γ g fg (own.map (·.2)))
    (ht : ∀ (s : Shared) (H : Hp) (C : Addr) (cl : List (Str × Addr)) (fp : List Addr), MTs (X.blk s H scope (compEnvC scope cl C X.env) fp) Γ ifs tt)
    (he : ∀ (s : Shared) (H : Hp) (C : Addr) (cl : List (Str × Addr)) (fp : List Addr), ME (X.blk s H scope (compEnvC scope cl C X.env) fp) Γ W0 elt fe) (hs : ∀ x, foldedSetIterable iter X.env x = pure x := by intro _; rfl) :
    ME X Γ W (.ListComp elt [⟨tg, iter, ifs, 0⟩] scope pos) (mComp f (own.map (·.2)) fg tt fe) :=
  PE.imp (pe_lc hc hN hi ok hg ht he hs) fun σ H Q ⟨μ, Z, ρ, s, hE, hR, q⟩ => iE hE hR q fun r s1 J H1 μ1 e1 E1 R1 w1 q1 D hD => by
    cases e : compL r.ow (own.map (·.2)) fg tt fe ρ r.ws s1 with
    | none => rw [e] at q1; exact q1.elim
    | some p =>
      obtain ⟨tot, s2⟩ := p
      rw [e] at q1
      dsimp only at q1
      split at q1
      · rename_i hl
        exact comp_ok hw E1 R1 w1 hD e hl fun H2 μ2 acc ev R2 hH ra => fin_lst R1 hD ev R2 hH ra q1
      · exact q1.elim
theorem asg_post {H : Hp} {μ : Mu} {Z : Zs} {σ : L2.St} {ρ : Env} {s : Sto} {f : FE} {i : Nat} {D : Ends} (hE : RE Γ H μ Z ρ σ) (q : PostS Γ W H μ Z D (mAsg f (gN i) ρ s)) : PostE Γ W H μ Z σ (fun x H1 => D.nx (σ.set i (some x)) H1) (f ρ s) := by
  unfold mAsg at q
  cases e : f ρ s with
  | ok w s1 => rw [e] at q; exact fun v H1 μ1 ev R1 r1 => q _ H1 μ1 ev R1 ((hE.mono ev).set i r1)
  | er x s1 => rw [e] at q; exact fun c d H1 μ1 ev R1 r1 => q c d σ H1 μ1 ev R1 (hE.mono ev) r1
  | no => rw [e] at q; exact q
/-- name = [..] on one line -/
theorem ms_setComp {i : Nat} {y : Str} {py : Pos} {elt tg iter : Expr} {ifs : List Expr} {scope : Scope} {own : List (Str × Nat)} {pos spos : Pos} {f : FI} {g : TG} {fg : FG} {tt : FT} {fe : FE} (hc : X.calm = true) (hN : X.N.Nodup) (hy : X.N[i]? = some y) (hyl : X.env.scope.names.lookup y = some .local)
    (hsw : swapsWith (.ListComp elt [⟨tg, iter, ifs, 0⟩] scope pos) (some (.Name y py)) spos.line X.env = pure true) (hi : MI X Γ W tg iter f) (ok : BlkOk X.N X.env.scope scope own)
    (hg : ∀ (s : Shared) (H : Hp) (C : Addr) (cl : List (Str × Addr)) (fp : List Addr), PG (X.blk s H scope (compEnvC scope cl C X.env) fp) tg g) (hw : GWk Γ g fg (own.map (·.2)))
    (ht : ∀ (s : Shared) (H : Hp) (C : Addr) (cl : List (Str × Addr)) (fp : List Addr), MTs (X.blk s H scope (compEnvC scope cl C X.env) fp) Γ ifs tt)
    (he : ∀ (s : Shared) (H : Hp) (C : Addr) (cl : List (Str × Addr)) (fp : List Addr), ME (X.blk s H scope (compEnvC scope cl C X.env) fp) Γ W0 elt fe) (hs : ∀ x, foldedSetIterable iter X.env x = pure x := by intro _; rfl) :
    MS X Γ W (.Assign [.Name y py] (.ListComp elt [⟨tg, iter, ifs, 0⟩] scope pos) spos) (mAsg (mComp f (own.map (·.2)) fg tt fe) (gN i)) :=
  PS.imp (ps_setLc hc hN hy hyl hsw hi ok hg ht he hs) fun D σ H h => by
    obtain ⟨μ, Z, ρ, s, hE, hR, q⟩ := h
    replace q := asg_post hE q
    exact iE hE hR q fun r s1 J H1 μ1 e1 E1 R1 w1 q1 D hD => by
      cases e : compL r.ow (own.map (·.2)) fg tt fe ρ r.ws s1 with
      | none => rw [e] at q1; exact q1.elim
      | some p =>
        obtain ⟨tot, s2⟩ := p
        rw [e] at q1
        dsimp only at q1
        split at q1
        · rename_i hl
          exact comp_ok hw E1 R1 w1 hD e hl fun H2 μ2 acc ev R2 hH ra => fin_lst R1 hD ev R2 hH ra q1
        · exact q1.elim
end
section
variable {X : Cx} {Γ : Ct} {W : WX}
noncomputable def compL2 (ow : Option (Nat × List Dv)) (vs : List Nat) (g : FG) (tt : FT) (f1 : FI) (vs1 : List Nat) (g1 : FG) (tt1 : FT) (elt : FE) (ρ : Env) : List Dv → Sto → Option (List Dv × Sto)
  | [], s => if ow.isNone = true ∨ stB s ow = true then some ([], s) else none
  | w :: ws, s => if ow.isNone = true ∨ stB s ow = true then match g w (wipeD ρ vs) s with
    | none => none
    | some ρ1 => match tt ρ1 s with
      | .ok true s2 => match f1 ρ1 s2 with
        | .ok r s3 => match compL r.ow vs1 g1 tt1 elt ρ1 r.ws s3 with
          | some (ys, s4) => (compL2 ow vs g tt f1 vs1 g1 tt1 elt ρ ws s4).map fun r => (ys ++ r.1, r.2)
          | none => none
        | _ => none
      | .ok false s2 => compL2 ow vs g tt f1 vs1 g1 tt1 elt ρ ws s2
      | _ => none
    else none
noncomputable def mComp2 (f : FI) (vs : List Nat) (g : FG) (tt : FT) (f1 : FI) (vs1 : List Nat) (g1 : FG) (tt1 : FT) (elt : FE) : FE := fun ρ s => (f ρ s).bind fun r s1 => match compL2 r.ow vs g tt f1 vs1 g1 tt1 elt ρ r.ws s1 with
  | some (ws, s2) => if ws.length ≤ lim then .ok (.lst ws) s2 else .no
  | none => .no
theorem compin_ok {H1 : Hp} {μ1 : Mu} {Z : Zs} {σ : L2.St} {ρ : Env} {s1 s2 : Sto} {g : TG} {fg : FG} {tt : FT} {elt : FE} {vs : List Nat} {ow : Option (Nat × List Dv)} {ws r0 wa0 : List Dv} {acc0 : List V} {J : It} {Nx : Hp → Prop} {D : Addr} (hg : GWk Γ g fg vs) (hE : RE Γ H1 μ1 (hid D Z) ρ σ) (hR : Rep Γ H1 μ1 (hid D Z) s1) (hw : Walks Γ (hid D Z) H1 μ1 ow J ws)
    (hH : H1 D = some (.lst acc0)) (ra0 : RVs Γ H1 μ1 (hid D Z) wa0 acc0) (q : compL ow vs fg tt elt ρ ws s1 = some (r0, s2)) (hl : (wa0 ++ r0).length ≤ lim)
    (fin : ∀ H μ acc, EvoZ (fun a => a = D) H1 μ1 H μ → Rep Γ H μ (hid D Z) s2 → H D = some (.lst acc) → RVs Γ H μ (hid D Z) (wa0 ++ r0) acc → Nx H) :
    ∃ Wn : Nat → Nat → Hp → Prop, (∃ m, Wn 0 m H1) ∧ ∀ i m H, Wn i m H → (J.stop i H ∧ Nx H) ∨ (J.go i H ∧ ∃ Nx1 : Hp → Prop, (∀ H', Nx1 H' → ∃ m', m' < m ∧ Wn (i + 1) m' H') ∧
      ∀ x H', J.yld i H x H' → g x (L2.wipe σ vs) H' fun σ2 H2 => L2.wipe σ2 vs = L2.wipe σ vs ∧ rdT Γ W0 tt σ2 H2 fun b H3 =>
        if b = true then rdE Γ W0 elt σ2 H3 fun y H4 => ∃ acc, H4 D = some (.lst acc) ∧ acc.length < sizeLine ∧ Nx1 (upd H4 D (.lst (acc ++ [y]))) else Nx1 H3) := by
  have hdz : ∀ a, a = D → hid D Z a := fun a e => .inl e
  let P : Nat → Hp → Prop := fun i H => ∃ μ s wa acc r, EvoZ (fun a => a = D) H1 μ1 H μ ∧ Rep Γ H μ (hid D Z) s ∧ H D = some (.lst acc) ∧ RVs Γ H μ (hid D Z) wa acc ∧ compL ow vs fg tt elt ρ (ws.drop i) s = some (r, s2) ∧ wa ++ r = wa0 ++ r0
  refine ⟨fun i m H => m = ws.length - i ∧ i ≤ ws.length ∧ P i H, ⟨ws.length, by omega, Nat.zero_le _, μ1, s1, wa0, acc0, r0, Evo.refl.z, hR, hH, ra0, q, rfl⟩, ?_⟩
  rintro i m H ⟨rfl, hi, μ, s, wa, acc, r, ev, R, hH, ra, qr, ht⟩
  have evz := ev.more hdz
  have E : RE Γ H μ (hid D Z) ρ σ := ⟨hE.1, fun j w e => by
    obtain ⟨v, g1, g2⟩ := hE.2 j w e
    exact ⟨v, g1, g2.monoZ evz⟩⟩
  by_cases hlt : i < ws.length
  · have hd : ws.drop i = ws[i] :: ws.drop (i + 1) := List.drop_eq_getElem_cons hlt
    rw [hd] at qr
    simp only [compL] at qr
    split at qr
    · rename_i hst
      obtain ⟨_, hgo⟩ := hw H μ (hid D Z) s evz R (fun _ z => z) (fun _ z => .inl z) (st_of hst)
      obtain ⟨h1, h2⟩ := hgo i ws[i] (List.getElem?_eq_getElem hlt)
      refine .inr ⟨h1, P (i + 1), fun H' p => ⟨_, by omega, rfl, hlt, p⟩, fun x H' hy => ?_⟩
      obtain ⟨e2, R2, r2⟩ := h2 x H' hy
      cases eg : fg ws[i] (wipeD ρ vs) s with
      | none => rw [eg] at qr; cases qr
      | some ρ2 =>
        rw [eg] at qr
        dsimp only at qr
        refine hg H' μ (hid D Z) (wipeD ρ vs) ρ2 s (L2.wipe σ vs) ws[i] x _ ((E.mono e2).wipe vs) R2 r2 eg fun σ2 E2 hwp => ⟨hwp.trans (wipe_wipe σ vs), μ, hid D Z, ρ2, s, E2, R2, ?_⟩
        cases et : tt ρ2 s with
        | no => rw [et] at qr; cases qr
        | er x3 s3 => rw [et] at qr; cases qr
        | ok b s3 =>
          rw [et] at qr
          intro H3 μ3 e3 R3
          have hH3 : H3 D = some (.lst acc) := e3.keep _ _ (e2.keep _ _ hH fun n hn => R.notZ hn (.inl rfl)) fun n hn => R2.notZ hn (.inl rfl)
          have ra3 : RVs Γ H3 μ3 (hid D Z) wa acc := (ra.mono e2).mono e3
          have ev3 : EvoZ (fun a => a = D) H1 μ1 H3 μ3 := (ev.trans e2.z).trans e3.z
          cases b with
          | false =>
            rw [if_neg Bool.false_ne_true]
            exact ⟨μ3, s3, wa, acc, r, ev3, R3, hH3, ra3, qr, ht⟩
          | true =>
            rw [if_pos rfl]
            dsimp only at qr
            refine ⟨μ3, hid D Z, ρ2, s3, E2.mono e3, R3, ?_⟩
            cases ee : elt ρ2 s3 with
            | no => rw [ee] at qr; cases qr
            | er x4 s4 => rw [ee] at qr; cases qr
            | ok y s4 =>
              rw [ee] at qr
              dsimp only at qr
              intro v H4 μ4 e4 R4 r4
              cases ec : compL ow vs fg tt elt ρ (ws.drop (i + 1)) s4 with
              | none => rw [ec] at qr; cases qr
              | some rr =>
                rw [ec] at qr
                obtain ⟨r', s''⟩ := rr
                cases qr
                have hH4 : H4 D = some (.lst acc) := e4.keep _ _ hH3 fun n hn => R3.notZ hn (.inl rfl)
                have hlen : acc.length < sizeLine := by
                  have := ra.len
                  rw [← ht, List.length_append] at hl
                  exact lim_lt (by simp at hl; omega)
                refine ⟨acc, hH4, hlen, μ4, s4, wa ++ [y], acc ++ [v], r', (ev3.trans e4.z).upd, R4.updZ, upd_same, RVs.append (RVs.updZ wa (ra3.mono e4)) (RVs.cons (RV.updZ y r4) rfl), ec, ?_⟩
                rw [← ht]
                simp
    · cases qr
  · have he : i = ws.length := by omega
    subst he
    rw [List.drop_length] at qr
    simp only [compL] at qr
    split at qr
    · rename_i hst
      cases qr
      obtain ⟨hs, _⟩ := hw H μ (hid D Z) _ evz R (fun _ z => z) (fun _ z => .inl z) (st_of hst)
      rw [List.append_nil] at ht
      subst ht
      exact .inl ⟨hs, fin H μ acc ev R hH ra⟩
    · cases qr
theorem comp2_ok {H1 : Hp} {μ1 : Mu} {Z : Zs} {σ : L2.St} {ρ : Env} {s1 s2 : Sto} {g g1 : TG} {fg fg1 : FG} {tt tt1 : FT} {f1 : FI} {elt : FE} {vs vs1 : List Nat} {ow : Option (Nat × List Dv)} {ws tot : List Dv} {J : It} {Qd : Hp → Prop} {D : Addr} (hg : GWk Γ g fg vs) (hg1 : GWk Γ g1 fg1 vs1) (hE : RE Γ H1 μ1 Z ρ σ) (hR : Rep Γ H1 μ1 Z s1) (hw : Walks Γ Z H1 μ1 ow J ws) (hD : H1 D = none)
    (q : compL2 ow vs fg tt f1 vs1 fg1 tt1 elt ρ ws s1 = some (tot, s2)) (hl : tot.length ≤ lim)
    (fin : ∀ H μ acc, Evo H1 μ1 H μ → Rep Γ H μ (hid D Z) s2 → H D = some (.lst acc) → RVs Γ H μ (hid D Z) tot acc → Qd H) :
    ∃ Wn : Nat → Nat → Hp → Prop, (∃ m, Wn 0 m (upd H1 D (.lst []))) ∧ ∀ i m H, Wn i m H → (J.stop i H ∧ Qd H) ∨ (J.go i H ∧ ∃ Nx : Hp → Prop, (∀ H', Nx H' → ∃ m', m' < m ∧ Wn (i + 1) m' H') ∧
      ∀ x H', J.yld i H x H' → g x (L2.wipe σ vs) H' fun σ2 H2 => L2.wipe σ2 vs = L2.wipe σ vs ∧ rdT Γ W0 tt σ2 H2 fun b H3 =>
        if b = true then rdI Γ W0 f1 σ2 H3 fun J1 H4 => ∃ W1 : Nat → Nat → Hp → Prop, (∃ m, W1 0 m H4) ∧ ∀ j k H, W1 j k H →
          (J1.stop j H ∧ Nx H) ∨ (J1.go j H ∧ ∃ Nx1 : Hp → Prop, (∀ H', Nx1 H' → ∃ k', k' < k ∧ W1 (j + 1) k' H') ∧ ∀ x H', J1.yld j H x H' → g1 x (L2.wipe σ2 vs1) H' fun σ3 H5 => L2.wipe σ3 vs1 = L2.wipe σ2 vs1 ∧ rdT Γ W0 tt1 σ3 H5 fun b H6 =>
            if b = true then rdE Γ W0 elt σ3 H6 fun y H7 => ∃ acc, H7 D = some (.lst acc) ∧ acc.length < sizeLine ∧ Nx1 (upd H7 D (.lst (acc ++ [y]))) else Nx1 H6)
        else Nx H3) := by
  let P : Nat → Hp → Prop := fun i H => ∃ μ s wa acc r, Evo H1 μ1 H μ ∧ Rep Γ H μ (hid D Z) s ∧ H D = some (.lst acc) ∧ RVs Γ H μ (hid D Z) wa acc ∧ compL2 ow vs fg tt f1 vs1 fg1 tt1 elt ρ (ws.drop i) s = some (r, s2) ∧ wa ++ r = tot
  refine ⟨fun i m H => m = ws.length - i ∧ i ≤ ws.length ∧ P i H, ⟨ws.length, by omega, Nat.zero_le _, μ1, s1, [], [], tot, Evo.laid hD, hR.hide hD, upd_same, rfl, q, rfl⟩, ?_⟩
  rintro i m H ⟨rfl, hi, μ, s, wa, acc, r, ev, R, hH, ra, qr, ht⟩
  have hz : ∀ a, hid D Z a → Z a ∨ H1 a = none := fun a z => z.elim (fun e => .inr (e ▸ hD)) .inl
  have E : RE Γ H μ (hid D Z) ρ σ := ⟨hE.1, fun j w e => by
    obtain ⟨v, g1, g2⟩ := hE.2 j w e
    exact ⟨v, g1, (RV.strong hz w g2).mono ev⟩⟩
  by_cases hlt : i < ws.length
  · have hd : ws.drop i = ws[i] :: ws.drop (i + 1) := List.drop_eq_getElem_cons hlt
    rw [hd] at qr
    simp only [compL2] at qr
    split at qr
    · rename_i hst
      obtain ⟨_, hgo⟩ := hw H μ (hid D Z) s ev.z R (fun a z => .inr z) hz (st_of hst)
      obtain ⟨h1, h2⟩ := hgo i ws[i] (List.getElem?_eq_getElem hlt)
      refine .inr ⟨h1, P (i + 1), fun H' p => ⟨_, by omega, rfl, hlt, p⟩, fun x H' hy => ?_⟩
      obtain ⟨e2, R2, r2⟩ := h2 x H' hy
      cases eg : fg ws[i] (wipeD ρ vs) s with
      | none => rw [eg] at qr; cases qr
      | some ρ2 =>
        rw [eg] at qr
        dsimp only at qr
        refine hg H' μ (hid D Z) (wipeD ρ vs) ρ2 s (L2.wipe σ vs) ws[i] x _ ((E.mono e2).wipe vs) R2 r2 eg fun σ2 E2 hwp => ⟨hwp.trans (wipe_wipe σ vs), μ, hid D Z, ρ2, s, E2, R2, ?_⟩
        cases et : tt ρ2 s with
        | no => rw [et] at qr; cases qr
        | er x3 s3 => rw [et] at qr; cases qr
        | ok b s3 =>
          rw [et] at qr
          intro H3 μ3 e3 R3
          have hH3 : H3 D = some (.lst acc) := e3.keep _ _ (e2.keep _ _ hH fun n hn => R.notZ hn (.inl rfl)) fun n hn => R2.notZ hn (.inl rfl)
          have ra3 : RVs Γ H3 μ3 (hid D Z) wa acc := (ra.mono e2).mono e3
          cases b with
          | false =>
            rw [if_neg Bool.false_ne_true]
            exact ⟨μ3, s3, wa, acc, r, (ev.trans e2).trans e3, R3, hH3, ra3, qr, ht⟩
          | true =>
            rw [if_pos rfl]
            dsimp only at qr
            refine ⟨μ3, hid D Z, ρ2, s3, E2.mono e3, R3, ?_⟩
            cases ef : f1 ρ2 s3 with
            | no => rw [ef] at qr; cases qr
            | er x4 s4 => rw [ef] at qr; cases qr
            | ok src s4 =>
              rw [ef] at qr
              dsimp only at qr
              intro J1 H4 μ4 e4 R4 w4
              cases ec : compL src.ow vs1 fg1 tt1 elt ρ2 src.ws s4 with
              | none => rw [ec] at qr; cases qr
              | some rr =>
                rw [ec] at qr
                obtain ⟨ys, s5⟩ := rr
                dsimp only at qr
                cases ed : compL2 ow vs fg tt f1 vs1 fg1 tt1 elt ρ (ws.drop (i + 1)) s5 with
                | none => rw [ed] at qr; cases qr
                | some rr =>
                  rw [ed] at qr
                  obtain ⟨r', s''⟩ := rr
                  cases qr
                  have hH4 : H4 D = some (.lst acc) := e4.keep _ _ hH3 fun n hn => R3.notZ hn (.inl rfl)
                  have hlen : (wa ++ ys).length ≤ lim := by
                    rw [← ht] at hl
                    simp at hl ⊢
                    omega
                  exact compin_ok hg1 ((E2.mono e3).mono e4) R4 w4 hH4 (ra3.mono e4) ec hlen fun H5 μ5 acc5 e5 R5 hH5 ra5 => ⟨μ5, s5, wa ++ ys, acc5, r', (((ev.trans e2).trans e3).trans e4).thenZ hD e5, R5, hH5, ra5, ed, by rw [← ht, List.append_assoc]⟩
    · cases qr
  · have he : i = ws.length := by omega
    subst he
    rw [List.drop_length] at qr
    simp only [compL2] at qr
    split at qr
    · rename_i hst
      cases qr
      obtain ⟨hs, _⟩ := hw H μ (hid D Z) _ ev.z R (fun a z => .inr z) hz (st_of hst)
      rw [List.append_nil] at ht
      subst ht
      exact .inl ⟨hs, fin H μ acc ev R hH ra⟩
    · cases qr
theorem ms_setComp2 {i : Nat} {y : Str} {py : Pos} {elt tg iter tg1 iter1 : Expr} {ifs ifs1 : List Expr} {scope : Scope} {own : List (Str × Nat)} {vs1 : List Nat} {pos spos : Pos} {f f1 : FI} {g g1 : TG} {fg fg1 : FG} {tt tt1 : FT} {fe : FE} (hc : X.calm = true) (hN : X.N.Nodup) (hy : X.N[i]? = some y) (hyl : X.env.scope.names.lookup y = some .local)
    (hsw : swapsWith (.ListComp elt [⟨tg, iter, ifs, 0⟩, ⟨tg1, iter1, ifs1, 0⟩] scope pos) (some (.Name y py)) spos.line X.env = pure true) (hi : MI X Γ W tg iter f) (ok : BlkOk X.N X.env.scope scope own) (hv : ∀ i ∈ vs1, i ∈ own.map (·.2))
    (hg : ∀ (s : Shared) (H : Hp) (C : Addr) (cl : List (Str × Addr)) (fp : List Addr), PG (X.blk s H scope (compEnvC scope cl C X.env) fp) tg g) (hw : GWk Γ g fg (own.map (·.2)))
    (ht : ∀ (s : Shared) (H : Hp) (C : Addr) (cl : List (Str × Addr)) (fp : List Addr), MTs (X.blk s H scope (compEnvC scope cl C X.env) fp) Γ ifs tt)
    (hi1 : ∀ (s : Shared) (H : Hp) (C : Addr) (cl : List (Str × Addr)) (fp : List Addr), MI (X.blk s H scope (compEnvC scope cl C X.env) fp) Γ W0 tg1 iter1 f1)
    (hg1 : ∀ (s : Shared) (H : Hp) (C : Addr) (cl : List (Str × Addr)) (fp : List Addr), PG (X.blk s H scope (compEnvC scope cl C X.env) fp) tg1 g1) (hw1 : GWk Γ g1 fg1 vs1)
    (ht1 : ∀ (s : Shared) (H : Hp) (C : Addr) (cl : List (Str × Addr)) (fp : List Addr), MTs (X.blk s H scope (compEnvC scope cl C X.env) fp) Γ ifs1 tt1)
    (he : ∀ (s : Shared) (H : Hp) (C : Addr) (cl : List (Str × Addr)) (fp : List Addr), ME (X.blk s H scope (compEnvC scope cl C X.env) fp) Γ W0 elt fe) (hs : ∀ x, foldedSetIterable iter X.env x = pure x := by intro _; rfl) (hs1 : ∀ env x, foldedSetIterable iter1 env x = pure x := by intro _ _; rfl) :
    MS X Γ W (.Assign [.Name y py] (.ListComp elt [⟨tg, iter, ifs, 0⟩, ⟨tg1, iter1, ifs1, 0⟩] scope pos) spos) (mAsg (mComp2 f (own.map (·.2)) fg tt f1 vs1 fg1 tt1 fe) (gN i)) :=
  PS.imp (ps_setLc2 hc hN hy hyl hsw hi ok hv hg ht hi1 hg1 ht1 he hs hs1) fun D σ H h => by
    obtain ⟨μ, Z, ρ, s, hE, hR, q⟩ := h
    replace q := asg_post hE q
    exact iE hE hR q fun r s1 J H1 μ1 e1 E1 R1 w1 q1 D hD => by
      cases e : compL2 r.ow (own.map (·.2)) fg tt f1 vs1 fg1 tt1 fe ρ r.ws s1 with
      | none => rw [e] at q1; exact q1.elim
      | some p =>
        obtain ⟨tot, s2⟩ := p
        rw [e] at q1
        dsimp only at q1
        split at q1
        · rename_i hl
          exact comp2_ok hw hw1 E1 R1 w1 hD e hl fun H2 μ2 acc ev R2 hH ra => fin_lst R1 hD ev R2 hH ra q1
        · exact q1.elim
end
mutual
def clean (n : Nat) : Dv → Bool
  | .ref k => decide (k < n)
  | .tup ws => cleans n ws
  | .lst ws => cleans n ws
  | .sq ws => cleans n ws
  | .dct _ ws => cleans n ws
  | .exc _ _ w => clean n w
  | .clo _ _ _ ws _ => cleans n ws
  | _ => true
def cleans (n : Nat) : List Dv → Bool
  | [] => true
  | w :: ws => clean n w && cleans n ws
end
def Ob.clean (n : Nat) : Ob → Bool
  | .lst ws => cleans n ws
  | .dct kws => cleans n (kws.map (·.2))
  | .obj _ fs => cleans n (fs.map (·.2))
  | .tab _ _ => true
def mapO {α β : Type} (f : α → Option β) : List α → Option (List β)
  | [] => some []
  | a :: r => match f a, mapO f r with
    | some b, some bs => some (b :: bs)
    | _, _ => none
/-- lists of the callee's own are handed out as they stand -/
def fz : Nat → Sto → Nat → Dv → Option Dv
  | 0, _, n, w => if clean n w = true then some w else none
  | f + 1, s, n, w => if clean n w = true then some w else match w with
    | .tup ws => (mapO (fz f s n) ws).map .tup
    | .lst ws => (mapO (fz f s n) ws).map .lst
    | .ref k => match s[k]? with
      | some (.lst ws) => (mapO (fz f s n) ws).map .lst
      | _ => none
    | _ => none
/-- a def's end: what it made and nobody holds is forgotten -/
def finW (n : Nat) (w : Dv) (s : Sto) : R Dv :=
  if s.length ≤ n then .ok w s else if (s.take n).all (Ob.clean n) = true then match fz 4 s n w with
    | some w' => .ok w' (s.take n)
    | none => .ok w s
  else .ok w s
def finX (n : Nat) (x : Ex) (s : Sto) : R Dv :=
  if s.length ≤ n then .er x s else if (s.take n).all (Ob.clean n) = true then match fz 4 s n x.w with
    | some w' => .er { x with w := w' } (s.take n)
    | none => .er x s
  else .er x s
def finC (n : Nat) : C → R Dv
  | .nx _ s => finW n .non s
  | .rt w s => finW n w s
  | .er x _ s => finX n x s
  | _ => .no
def res (n : Nat) (μ : Mu) : Mu := fun m => if m < n then μ m else none
section
variable {Γ : Ct} {H : Hp} {μ : Mu} {Z : Zs} {s : Sto} {n : Nat}
theorem res_some {m : Nat} {a : Addr} (h : res n μ m = some a) : m < n ∧ μ m = some a := by
  unfold res at h
  split at h
  · exact ⟨by assumption, h⟩
  · cases h
theorem res_lt {m : Nat} {a : Addr} (h : m < n) (q : μ m = some a) : res n μ m = some a := by
  unfold res
  rw [if_pos h, q]
theorem Fz.res {a : Addr} (f : Fz μ Z a) : Fz (res n μ) Z a := ⟨fun m h => f.1 m (res_some h).2, f.2⟩
mutual
theorem RV.res : ∀ (w : Dv) {v : V}, clean n w = true → RV Γ H μ Z w v → RV Γ H (MP.res n μ) Z w v
  | .non, _, _, q => q
  | .bl _, _, _, q => q
  | .int _, _, _, q => q
  | .str _, _, _, q => q
  | .ty _, _, _, q => q
  | .cl _, _, _, q => q
  | .ref k, _, c, q => by
    obtain ⟨a, h1, h2⟩ := q
    exact ⟨a, h1, res_lt (of_decide_eq_true c) h2⟩
  | .tup ws, _, c, q => by
    obtain ⟨a, xs, h1, h2, h3⟩ := q
    exact ⟨a, xs, h1, h2.elim (fun z => .inl ⟨z.1, z.2.res⟩) .inr, RVs.res ws c h3⟩
  | .sq ws, _, c, q => by
    obtain ⟨a, xs, h1, h2, h3⟩ := q
    exact ⟨a, xs, h1, h2.elim (fun z => .inl ⟨z.1, z.2.res⟩) .inr, RVs.res ws c h3⟩
  | .lst ws, _, c, q => by
    obtain ⟨a, xs, h1, h2, h3, h4⟩ := q
    exact ⟨a, xs, h1, h2, h3.res, RVs.res ws c h4⟩
  | .dct ks ws, _, c, q => by
    obtain ⟨a, kvs, h1, h2, h3, h4, h5⟩ := q
    exact ⟨a, kvs, h1, h2, h3.res, h4, RVs.res ws c h5⟩
  | .exc cc f w, _, c, q => by
    obtain ⟨a, dx, x, h1, h2, h3, h4, h5, h6⟩ := q
    exact ⟨a, dx, x, h1, h2, h3.res, h4, h5.res, RV.res w c h6⟩
  | .exn cc, _, c, q => by
    obtain ⟨a, h1, h2, h3⟩ := q
    exact ⟨a, h1, h2, h3.res⟩
  | .clo a b _ ws vs, _, c, q => by
    obtain ⟨h1, h2, h3, h4⟩ := q
    exact ⟨h1, h2, h3.res, RVs.res ws c h4⟩
theorem RVs.res : ∀ (ws : List Dv) {vs : List V}, cleans n ws = true → RVs Γ H μ Z ws vs → RVs Γ H (MP.res n μ) Z ws vs
  | [], _, _, q => q
  | w :: ws, _, c, q => by
    obtain ⟨x, xs, h1, h2, h3⟩ := q
    have c' : clean n w = true ∧ cleans n ws = true := Bool.and_eq_true_iff.mp c
    exact ⟨x, xs, h1, RV.res w c'.1 h2, RVs.res ws c'.2 h3⟩
end
theorem mapO_ok {f : Dv → Option Dv} (hf : ∀ w w' v, f w = some w' → RV Γ H μ Z w v → RV Γ H (res n μ) Z w' v) : ∀ (ws ws' : List Dv) (vs : List V), mapO f ws = some ws' → RVs Γ H μ Z ws vs → RVs Γ H (res n μ) Z ws' vs
  | [], _, _, e, q => by cases e; exact q
  | w :: ws, _, _, e, q => by
    obtain ⟨x, xs, rfl, h2, h3⟩ := q
    simp only [mapO] at e
    split at e
    · rename_i b bs e1 e2
      cases e
      exact RVs.cons (hf _ _ _ e1 h2) (mapO_ok hf ws bs xs e2 h3)
    · cases e
theorem fz_ok (hR : Rep Γ H μ Z s) : ∀ (f : Nat) (w w' : Dv) (v : V), fz f s n w = some w' → RV Γ H μ Z w v → RV Γ H (res n μ) Z w' v := fun f => by
  induction f with
  | zero =>
    intro w w' v e q
    simp only [fz] at e
    split at e
    · cases e; exact q.res w (by assumption)
    · cases e
  | succ f ih =>
    intro w w' v e q
    simp only [fz] at e
    split at e
    · cases e; exact q.res w (by assumption)
    · rename_i hc
      split at e
      · rename_i ws
        cases em : mapO (fz f s n) ws with
        | none => rw [em] at e; cases e
        | some us =>
          rw [em] at e
          cases e
          obtain ⟨a, xs, h1, h2, h3⟩ := q
          exact ⟨a, xs, h1, h2.elim (fun z => .inl ⟨z.1, z.2.res⟩) .inr, mapO_ok (fun w w' v => ih w w' v) _ _ _ em h3⟩
      · rename_i ws
        cases em : mapO (fz f s n) ws with
        | none => rw [em] at e; cases e
        | some us =>
          rw [em] at e
          cases e
          obtain ⟨a, xs, h1, h2, h3, h4⟩ := q
          exact ⟨a, xs, h1, h2, h3.res, mapO_ok (fun w w' v => ih w w' v) _ _ _ em h4⟩
      · rename_i k
        split at e
        · rename_i ws es
          cases em : mapO (fz f s n) ws with
          | none => rw [em] at e; cases e
          | some us =>
            rw [em] at e
            cases e
            obtain ⟨a, h1, h2⟩ := q
            obtain ⟨b, g1, g2, xs, g3, g4⟩ := hR.at k _ es
            rw [h2] at g1
            cases g1
            refine ⟨a, xs, h1, g3, ⟨fun m hm => ?_, g2⟩, mapO_ok (fun w w' v => ih w w' v) _ _ _ em g4⟩
            obtain ⟨m1, m2⟩ := res_some hm
            have := hR.inj _ _ _ m2 h2
            subst this
            exact hc (decide_eq_true m1)
        · cases e
      · cases e
theorem RO.res {a : Addr} {ob : Ob} (c : ob.clean n = true) (h : RO Γ H μ Z a ob) : RO Γ H (MP.res n μ) Z a ob := by
  cases ob with
  | lst ws =>
    obtain ⟨xs, h1, h2⟩ := h
    exact ⟨xs, h1, h2.res ws c⟩
  | dct kws =>
    obtain ⟨kvs, h1, h2, h3⟩ := h
    exact ⟨kvs, h1, h2, h3.res _ c⟩
  | obj c fs =>
    obtain ⟨dx, kvs, h1, h2, h3⟩ := h
    exact ⟨dx, kvs, h1, h2, h3.res _ c⟩
  | tab m q => exact ⟨h.1, tab_imp rfl (fun c e1 e2 => ⟨e1, e2.res⟩) h.2⟩
theorem Rep.res (hR : Rep Γ H μ Z s) (hn : n ≤ s.length) (c : (s.take n).all (Ob.clean n) = true) : Rep Γ H (MP.res n μ) Z (s.take n) := ⟨fun m ob q => by
  have hm : m < n := by
    have := (List.getElem?_eq_some_iff.mp q).1
    rw [List.length_take] at this
    omega
  have q' : s[m]? = some ob := by rw [List.getElem?_take_of_lt hm] at q; exact q
  obtain ⟨a, h1, h2, h3⟩ := hR.at m ob q'
  exact ⟨a, res_lt hm h1, h2, h3.res (List.all_eq_true.mp c ob (List.mem_of_getElem? q))⟩,
  fun m k a h1 h2 => hR.inj _ _ _ (res_some h1).2 (res_some h2).2, fun m a h => by rw [List.length_take]; have := (res_some h).1; omega, hR.za⟩
theorem Evo.res {H0 : Hp} {μ0 : Mu} (e : Evo H0 μ0 H μ) (hd : ∀ m a, μ0 m = some a → m < n) : Evo H0 μ0 H (MP.res n μ) :=
  ⟨e.keep, fun m a h => res_lt (hd m a h) (e.mu m a h), fun m a h => e.new m a (res_some h).2, e.stay⟩
end
/-- what a def promises -/
def spM (Γ : Ct) (ps : List Str) (den : Fn) : Sp := fun vs H Q E => vs.length = ps.length ∧ ∃ μ Z s ws, Rep Γ H μ Z s ∧ RVs Γ H μ Z ws vs ∧ PostE Γ (fun c d _ H => E c d H) H μ Z [] Q (den ws s)
structure FnG (P : Program) (w : World) (mg : Str → Option Value) (base : Heap) (Γ : Ct) (k : Nat) (f : Addr) (fd : FuncData) (ps : List Str) (den : Fn) : Prop where
  run : ∀ (A : Around) (outer : List PySem.Env) (s : Shared) (H : Hp) (args : Args) (us : List Value) (vs : List V) (Q : VK) (E : XK), Room k A → A.guards = some [] → Env0 P w Γ.K mg base A outer s H → BindsTo s fd args (ps.zip us) → Vals vs us → spM Γ ps den vs H Q E →
    codeAny (model P w) A (.call (.ref f) args) (CR (L2.CX P w) outer P w H s Q E) s
def startD (n : Nat) (ws : List Dv) : Env := ws.map some ++ List.replicate (n - ws.length) none
def denOf (n : Nat) (body : FS) : Fn := fun ws s => finC s.length (body (startD n ws) s)
theorem re_start {Γ : Ct} {H : Hp} {μ : Mu} {Z : Zs} {N : List Str} {ws : List Dv} {vs : List V} (r : RVs Γ H μ Z ws vs) : RE Γ H μ Z (startD N.length ws) (L2.start N vs) := by
  have hl := r.len
  refine ⟨?_, fun i w q => ?_⟩
  · unfold startD L2.start
    rw [List.length_append, List.length_append, List.length_map, List.length_map, List.length_replicate, List.length_replicate, hl]
  · unfold startD at q
    unfold L2.start
    by_cases hi : i < ws.length
    · rw [List.getElem?_append_left (by rw [List.length_map]; exact hi), List.getElem?_map] at q
      rw [List.getElem?_append_left (by rw [List.length_map, hl]; exact hi), List.getElem?_map]
      cases e : ws[i]? with
      | none => rw [e] at q; cases q
      | some u =>
        rw [e] at q
        cases q
        obtain ⟨x, h1, h2⟩ := r.get e
        exact ⟨x, by rw [h1]; rfl, h2⟩
    · rw [List.getElem?_append_right (by rw [List.length_map]; omega), List.getElem?_replicate] at q
      split at q <;> cases q
end MP
set_option Elab.async false
set_option linter.all false
set_option maxRecDepth 100000
set_option maxHeartbeats 4000000
namespace MP
open PySem PySem.Spec PyProof.Rows L2
/-- the end of a body is the end of its def -/
theorem body_end {Γ : Ct} {H : Hp} {μ : Mu} {Z : Zs} {s : Sto} {Q : VK} {E : XK} {c : C} (hR : Rep Γ H μ Z s) (q : PostE Γ (fun c d _ H => E c d H) H μ Z [] Q (finC s.length c)) :
    PostS Γ (fun c d _ H => E c d H) H μ Z { nx := fun _ H' => Q .non H', rt := Q } c := by
  have key : ∀ (w : Dv) (s' : Sto), PostE Γ (fun c d _ H => E c d H) H μ Z [] Q (finW s.length w s') → ∀ v H' μ', Evo H μ H' μ' → Rep Γ H' μ' Z s' → RV Γ H' μ' Z w v → Q v H' := fun w s' q v H' μ' ev R' r' => by
    unfold finW at q
    split at q
    · exact q v H' μ' ev R' r'
    · rename_i hl
      split at q
      · rename_i hc
        split at q
        · rename_i w' e
          exact q v H' _ (ev.res hR.dom) (R'.res (by omega) hc) (fz_ok R' 4 w w' v e r')
        · exact q v H' μ' ev R' r'
      · exact q v H' μ' ev R' r'
  cases c with
  | nx ρ' s' => exact fun σ' H' μ' ev R' _ => key .non s' q .non H' μ' ev R' rfl
  | rt w s' => exact fun v H' μ' ev R' r' => key w s' q v H' μ' ev R' r'
  | bk ρ' s' => exact q.elim
  | ct ρ' s' => exact q.elim
  | no => exact q.elim
  | er x ρ' s' =>
    intro c d σ' H' μ' ev R' _ rx
    unfold finC finX at q
    dsimp only at q
    split at q
    · exact q c d H' μ' ev R' rx
    · rename_i hl
      split at q
      · rename_i hc
        split at q
        · rename_i w' e
          obtain ⟨h1, dd, v, h2, h3, h4, h5⟩ := rx
          exact q c d H' _ (ev.res hR.dom) (R'.res (by omega) hc) ⟨h1, dd, v, h2, h3, h4.res, fz_ok R' 4 _ w' v e h5⟩
        · exact q c d H' μ' ev R' rx
      · exact q c d H' μ' ev R' rx
abbrev envF (qual : Str) (st : Stmt) (s : Shared) (f : Addr) (cdv : Value) : PySem.Env := envOfC qual (defScope st) s.heap.objs.size f cdv
abbrev cxF (Γ : Ct) (P : Program) (w : World) (mg : Str → Option Value) (base : Heap) (N : List Str) (qual : Str) (st : Stmt) (f : Addr) (cdv : Value) (A : Around) (outer : List PySem.Env) (s : Shared) (H : Hp) (E : XK) : Cx :=
  cxOf (L2.CX P w) P w Γ.K mg base N qual (defScope st) f cdv A outer s H E
/-- A def keeps what its body's reading says -/
theorem ok_fn {P : Program} {w : World} {mg : Str → Option Value} {base : Heap} {Γ : Ct} {x qual : Str} {st : Stmt} {f : Addr} {fd : FuncData} {N ps : List Str} {k : Nat} {c : FS} (F : Fun Γ.K x qual st f fd) (S : FnScope N ps (defScope st))
    (hbody : ∀ (cdv : Value) (A : Around) (outer : List PySem.Env) (s : Shared) (H : Hp) (E : XK) (W : WX), Room k (A.deeper (envF qual st s f cdv)) → (A.deeper (envF qual st s f cdv)).guards = some [] → Takes (cxF Γ P w mg base N qual st f cdv A outer s H E) W →
      MB (cxF Γ P w mg base N qual st f cdv A outer s H E) Γ W (defBody st) c) : FnG P w mg base Γ (k + 1) f fd ps (denOf N.length c) := by
  obtain ⟨oc, od, kV, doc, pm, an, cdv, ct, osl, rfl, lk, hcd⟩ := F.ex
  refine ⟨fun A outer s H args us vs Q E room guards e0 binds rel ⟨hlen, μ, Z, st0, ws, hR, rws, post⟩ => ?_⟩
  have stays : ∀ b o, base.get? b = some o → s.heap.get? b = some o := fun b o e => (e0.bs b o e).1
  have inK : Γ.K.In s.heap := e0.mod.kin.keeps stays
  have kinds : ∀ y ∈ ps.zip us, (defScope st).names.lookup y.1 = some .local ∨ ((defScope st).names.lookup y.1 = some .cell ∧ ((cellsFrom (s.heap.objs.size + 1) (defScope st).names []).lookup y.1).isSome = true) := by
    rintro ⟨n, v⟩ hy
    exact (S.par n (List.of_mem_zip hy).1).imp id fun q => ⟨q, PySem.W.cellsFrom_some _ _ _ (.inl q)⟩
  refine codeAny_call_function room.depth (inK _ _ lk) rfl S.co S.gen rfl (PySem.W.codeRec_of inK hcd) (binds _ _ _ _ ?_)
  refine wpAny_newFunctionEnv_cells S.kind kinds fun env he s1 entered => ?_
  subst he
  refine ⟨(e0.mod.nolimit.keeps stays).keeps entered.toInCall.keep, codeAny_func ?_⟩
  have I := inv_start (CX := L2.CX P w) (E := E) (cd := cdv) S room.hd e0 hlen rel entered
  have tk : Takes (cxF Γ P w mg base N qual st f cdv A outer s H E) (fun cls d _ H' => E cls d H') := takes_of rfl rfl rfl rfl
  have run := (hbody cdv A outer s H E _ (room.deeper _) (by show (A.deeper _).guards = _; rw [← guards]; rfl) tk).run [] s1 (L2.start N vs) H { nx := fun _ H' => Q .non H', rt := Q } I
    ⟨μ, Z, startD N.length ws, st0, re_start rws, hR, body_end hR post⟩
  refine wpAny_mono run (fun fl s' hs => ?_) fun e s' hs => hs
  cases fl with
  | ret u =>
    obtain ⟨v, σ', H', J, rv, q⟩ := hs
    exact ⟨v, H', J.os, J.bare, J.base, J.hok, rv, q⟩
  | next =>
    obtain ⟨σ', H', J, q⟩ := hs
    exact ⟨V.non, H', J.os, J.bare, J.base, J.hok, rfl, q⟩
  | brk => exact hs.elim fun _ z => z.elim fun _ z => z.2.elim
  | cont => exact hs.elim fun _ z => z.elim fun _ z => z.2.elim
section
variable {X : Cx} {Γ : Ct} {W : WX} {k : Nat} {f : Addr} {fd : FuncData} {ps : List Str} {den : Fn} {x : Str} {p pos : Pos} {e : Expr} {es : List Expr} {fa : FA}
def mCall (den : Fn) (fa : FA) : FE := fun ρ s => (fa ρ s).bind den
theorem post_call {H : Hp} {μ : Mu} {Z : Zs} {σ : L2.St} {Q : VK} {r : R Dv} (h : PostE Γ W H μ Z σ Q r) : PostE Γ (fun c d _ H' => WE W σ c d H') H μ Z [] Q r := by
  cases r with
  | ok w s => exact h
  | er x s => exact h
  | no => exact h
theorem run_G {pins : List (Addr × Obj)} {σ : L2.St} {H : Hp} {s : Shared} {Q : VK} {us : List Value} {ds : List Value} {vs dvs : List V} (F : FnG X.prog X.w X.mg X.base Γ k f fd ps den) (hK : Γ.K = X.K) (hr : Room k X.A) (hg : X.A.guards = some []) (hb : Binds X.K fd ps ds) (hd : Vals dvs ds) (tk : Takes X W)
    (I : Inv X pins σ H s) (r : Vals vs us) (h : spM Γ ps den (vs ++ dvs) H Q (WE W σ)) : wpAny (model X.prog X.w) X.A (call (.ref f) us) (EP X pins σ Q) X.xe s := by
  have r2 : Vals (vs ++ dvs) (us ++ ds) := r.append hd
  have hl : (us ++ ds).length = ps.length := r2.length.symm.trans h.1
  refine wpAny_call (codeAny_mono (F.run X.A X.stack s H ⟨us, []⟩ (us ++ ds) (vs ++ dvs) Q (WE W σ) hr hg (by rw [hK]; exact I.env0) (hb s us I.kIn hl) r2 h) fun r' s' hq => ?_)
  cases r' with
  | error e => exact passAt tk σ pins H s e s' I hq
  | ok fl =>
    cases fl with
    | ret u => exact I.after hq
    | next => exact hq.elim
    | brk => exact hq.elim
    | cont => exact hq.elim
/-- f(e, ..), f a def of the text; ds its defaults -/
theorem me_call {ds : List Value} {dvs : List V} {dws : List Dv} (F : FnG X.prog X.w X.mg X.base Γ k f fd ps den) (hK : Γ.K = X.K) (hr : Room k X.A) (hg : X.A.guards = some []) (hgl : Gl X x) (hm : X.mg x = some (.ref f)) (hk : PySem.W.keepIn X.K (.ref f) = true) (hb : Binds X.K fd ps ds) (hd : Vals dvs ds)
    (hdw : ∀ H μ Z, RVs Γ H μ Z dws dvs) (n : Nat) (hn : n + dws.length = ps.length) (hnl : (e :: es).length = n) (tk : Takes X W) (ha : MA X Γ W (e :: es) fa) (hlen : ∀ ρ s ws s', fa ρ s = .ok ws s' → ws.length = n) (hdb : (x == ("__debug__" : Str)) = false := by decide)
    (he : starEach (e :: es) X.env = (false, eval e X.env) :: starEach es X.env := by rfl) (hpl : (backTo pos (starEach es X.env)).any (·.1) = false := by rfl) :
    ME X Γ W (.Call (.Name x p) (e :: es) [] pos) (mCall (fun ws => den (ws ++ dws)) fa) := by
  refine ⟨fun pins s σ H Q I ⟨μ, Z, ρ, s0, hE, hR, q⟩ => ?_⟩
  refine wpAny_Call_Name_kw (ld_glob I hgl hm ?_ hdb)
  have q' : rdA Γ W fa σ H fun vs H1 => spM Γ ps den (vs ++ dvs) H1 Q (WE W σ) := by
    refine ⟨μ, Z, ρ, s0, hE, hR, ?_⟩
    unfold mCall at q
    cases e1 : fa ρ s0 with
    | ok ws s1 =>
      rw [e1] at q
      have q2 : PostE Γ W H μ Z σ Q (den (ws ++ dws) s1) := q
      intro vs H1 μ1 ev R1 r1
      refine ⟨?_, μ1, Z, s1, ws ++ dws, R1, r1.append (hdw H1 μ1 Z), post_call (PostE.evo ev q2)⟩
      rw [List.length_append, r1.len, hlen _ _ _ _ e1, (hdw H1 μ1 Z).len, hn]
    | er x1 s1 => rw [e1] at q; exact q
    | no => rw [e1] at q; exact q
  refine PySem.W.callWith_K (h₀ := X.base) I.ok.mod.kin hk (thn (ha.run pos pins s σ H _ I q') fun us s1 ⟨vs, H1, I1, r, z⟩ => ⟨I1.kIn, ?_⟩) he hpl
  exact run_G F hK hr hg hb hd tk I1 r z
end
end MP
set_option Elab.async false
set_option linter.all false
set_option maxRecDepth 100000
set_option maxHeartbeats 4000000
namespace MP
open PySem PySem.Spec PyProof.Rows L2
abbrev ON := Sto → List Dv → Option Dv
def OpN (Γ : Ct) (r : List V → Hp → VK → Prop) (op : ON) : Prop := ∀ (H : Hp) (μ : Mu) (Z : Zs) (s : Sto) (xs : List Dv) (w : Dv) (vs : List V) (Q : VK), Rep Γ H μ Z s → RVs Γ H μ Z xs vs → op s xs = some w →
  (∀ v' H', Evo H μ H' μ → Rep Γ H' μ Z s → RV Γ H' μ Z w v' → Q v' H') → r vs H Q
def mBlt (op : ON) (fa : FA) : FE := fun ρ s => (fa ρ s).bind fun ws s1 => R.of (op s1 ws) s1
section
variable {X : Cx} {Γ : Ct} {W : WX} {x : Str} {p pos : Pos} {e : Expr} {es : List Expr} {fa : FA} {id T : String} {r r' : List V → Hp → VK → Prop} {op op' : ON}
theorem blt_ok {t : TE} {ta : TA} (ht : t = tCB r (rdA Γ W fa)) (hs : OpN Γ r op) (h : PE X e t) : ME X Γ W e (mBlt op fa) := by
  subst ht
  exact PE.imp h fun σ H Q ⟨μ, Z, ρ, s, hE, hR, q⟩ => aE hE hR q fun ws s1 vs H1 μ1 e1 E1 R1 r1 q1 => by
    obtain ⟨w, hw, k⟩ := ofE q1
    exact hs H1 μ1 Z s1 ws w vs Q R1 r1 hw k
theorem me_callB (hc : CallR X (.builtin id) r) (hs : OpN Γ r op) (hg : Gl X x) (hm : X.mg x = none) (hv : bootBuiltins x = some (.builtin id)) (ha : MA X Γ W (e :: es) fa) (hn : x ≠ "__name__" := by decide) (hdb : (x == ("__debug__" : Str)) = false := by decide)
    (he : starEach (e :: es) X.env = (false, eval e X.env) :: starEach es X.env := by rfl) (hpl : (backTo pos (starEach es X.env)).any (·.1) = false := by rfl) : ME X Γ W (.Call (.Name x p) (e :: es) [] pos) (mBlt op fa) :=
  blt_ok (ta := rdA Γ W fa) rfl hs (pe_callB hc hg hm hv ha hn hdb he hpl)
theorem me_callTy (hc : CallR X (.type T) r) (hs : OpN Γ r op) (hg : Gl X x) (hm : X.mg x = none) (hv : bootBuiltins x = some (.type T)) (ha : MA X Γ W (e :: es) fa) (hn : x ≠ "__name__" := by decide) (hdb : (x == ("__debug__" : Str)) = false := by decide)
    (he : starEach (e :: es) X.env = (false, eval e X.env) :: starEach es X.env := by rfl) (hpl : (backTo pos (starEach es X.env)).any (·.1) = false := by rfl) : ME X Γ W (.Call (.Name x p) (e :: es) [] pos) (mBlt op fa) :=
  blt_ok (ta := rdA Γ W fa) rfl hs (pe_callTy hc hg hm hv ha hn hdb he hpl)
theorem OpN.or (h : OpN Γ r op) (h' : OpN Γ r' op') : OpN Γ (fun x H Q => r x H Q ∨ r' x H Q) (fun s xs => match op s xs with
    | some w => some w
    | none => op' s xs) := fun H μ Z s xs w vs Q hR rx e k => by
  dsimp only at e
  split at e
  · rename_i w' e'
    cases e
    exact .inl (h H μ Z s xs _ vs Q hR rx e' k)
  · exact .inr (h' H μ Z s xs w vs Q hR rx e k)
/-- len -/
def lenD : ON := fun s xs => match xs with
  | [.str x] => if x.length ≤ lim then some (.int x.length) else none
  | [x] => (seqOf s x).map fun ws => .int ws.length
  | _ => none
theorem one {H : Hp} {μ : Mu} {Z : Zs} {x : Dv} {vs : List V} (r : RVs Γ H μ Z [x] vs) : ∃ v, vs = [v] ∧ RV Γ H μ Z x v := by
  obtain ⟨v, xs, rfl, h1, h2⟩ := r
  exact ⟨v, by rw [show xs = [] from h2], h1⟩
theorem two {H : Hp} {μ : Mu} {Z : Zs} {x y : Dv} {vs : List V} (r : RVs Γ H μ Z [x, y] vs) : ∃ v u, vs = [v, u] ∧ RV Γ H μ Z x v ∧ RV Γ H μ Z y u := by
  obtain ⟨v, xs, rfl, h1, u, ys, rfl, h2, h3⟩ := r
  exact ⟨v, u, by rw [show ys = [] from h3], h1, h2⟩
theorem sLen (hK : Γ.K = X.K) : OpN Γ (fun xs H Q => ∃ x n, xs = [x] ∧ LenV X.K x H n ∧ Q (.int n) H) lenD := fun H μ Z s xs w vs Q hR rx e k => by
  rw [← hK]
  unfold lenD at e
  split at e
  · rename_i y
    split at e
    · rename_i hl
      cases e
      obtain ⟨v, rfl, r1⟩ := one rx
      exact ⟨v, _, rfl, by rw [show v = .str y from r1]; exact ⟨lim_ok hl, rfl⟩, k _ H .refl hR rfl⟩
    · cases e
  · rename_i y _
    cases q : seqOf s y with
    | none => rw [q] at e; cases e
    | some ws =>
      rw [q] at e
      cases e
      obtain ⟨v, rfl, r1⟩ := one rx
      obtain ⟨a, ys, rfl, h2, h3⟩ := seqOf_ok hR r1 q
      refine ⟨_, ws.length, rfl, ?_, k _ H .refl hR rfl⟩
      rcases h2 with h2 | h2
      · exact .inl ⟨ys, h2, h3.len.symm⟩
      · exact .inr ⟨ys, h2, h3.len.symm⟩
  · cases e
/-- tuple(xs), list(xs) -/
def tupleD : ON := fun s xs => match xs with
  | [.tup ws] => some (.tup ws)
  | [.sq ws] => some (.tup ws)
  | [x] => (lstOf s x).map .tup
  | _ => none
theorem sTuple (hK : Γ.K = X.K) : OpN Γ (fun xs H Q => ∃ p ys, xs = [.ref p] ∧ ((SqL X.K H p ys ∧ ∀ l, H l = none → Q (.ref l) (upd H l (.tup ys))) ∨ (SqT X.K H p ys ∧ Q (.ref p) H))) tupleD := fun H μ Z s xs w vs Q hR rx e k => by
  rw [← hK]
  unfold tupleD at e
  split at e
  · cases e
    obtain ⟨v, rfl, a, ys, rfl, h2, h3⟩ := one rx
    exact ⟨a, ys, rfl, .inr ⟨h2.sq, k _ H .refl hR ⟨a, ys, rfl, h2, h3⟩⟩⟩
  · cases e
    obtain ⟨v, rfl, a, ys, rfl, h2, h3⟩ := one rx
    exact ⟨a, ys, rfl, .inl ⟨h2.sq, fun l hl => k _ _ (Evo.laid hl) (hR.laid hl) (new_tup hR hl h3)⟩⟩
  · rename_i y _ _
    cases q : lstOf s y with
    | none => rw [q] at e; cases e
    | some ws =>
      rw [q] at e
      cases e
      obtain ⟨v, rfl, r1⟩ := one rx
      obtain ⟨a, ys, rfl, h2, h3⟩ := lstOf_ok hR r1 q
      exact ⟨a, ys, rfl, .inl ⟨SqL.of h2, fun l hl => k _ _ (Evo.laid hl) (hR.laid hl) (new_tup hR hl h3)⟩⟩
  · cases e
def listD : ON := fun s xs => match xs with
  | [x] => (seqOf s x).map .lst
  | _ => none
theorem sList (hK : Γ.K = X.K) : OpN Γ (fun xs H Q => ∃ p ys, xs = [.ref p] ∧ (SqL X.K H p ys ∨ SqT X.K H p ys) ∧ ∀ l, H l = none → Q (.ref l) (upd H l (.lst ys))) listD := fun H μ Z s xs w vs Q hR rx e k => by
  rw [← hK]
  unfold listD at e
  split at e
  · rename_i y
    cases q : seqOf s y with
    | none => rw [q] at e; cases e
    | some ws =>
      rw [q] at e
      cases e
      obtain ⟨v, rfl, r1⟩ := one rx
      obtain ⟨a, ys, rfl, h2, h3⟩ := seqOf_ok hR r1 q
      exact ⟨a, ys, rfl, h2, fun l hl => k _ _ (Evo.laid hl) (hR.laid hl) (new_lst hR hl h3)⟩
  · cases e
/-- ints of a list -/
def intOf : Dv → Option Int
  | .int i => some i
  | _ => none
def intsOf (ws : List Dv) : Option (List Int) := mapO intOf ws
theorem intsOf_ok : ∀ {ws : List Dv} {ns : List Int}, intsOf ws = some ns → ws = ns.map .int
  | [], ns, e => by cases e; rfl
  | w :: ws, ns, e => by
    unfold intsOf at e
    simp only [mapO] at e
    split at e
    · rename_i b bs e1 e2
      cases e
      rw [intsOf_ok (ws := ws) (ns := bs) e2]
      cases w with
      | int i => cases e1; rfl
      | _ => cases e1
    · cases e
theorem intsOf_map : ∀ ns : List Int, intsOf (ns.map .int) = some ns
  | [] => rfl
  | n :: ns => by
    have := intsOf_map ns
    unfold intsOf at this ⊢
    rw [List.map_cons, mapO, this]
    rfl
/-- sorting by insertion -/
def ins (a : Int) : List Int → List Int
  | [] => [a]
  | b :: r => if a ≤ b then a :: b :: r else b :: ins a r
def srt : List Int → List Int
  | [] => []
  | a :: r => ins a (srt r)
theorem ins_perm (a : Int) : ∀ l : List Int, (ins a l).Perm (a :: l)
  | [] => .refl _
  | b :: r => by
    unfold ins
    split
    · exact .refl _
    · exact ((ins_perm a r).cons b).trans (.swap a b r)
theorem srt_perm : ∀ l : List Int, (srt l).Perm l
  | [] => .refl _
  | a :: r => (ins_perm a (srt r)).trans ((srt_perm r).cons a)
theorem ins_sorted (a : Int) : ∀ l : List Int, l.Pairwise (· ≤ ·) → (ins a l).Pairwise (· ≤ ·)
  | [], _ => List.pairwise_singleton _ _
  | b :: r, h => by
    unfold ins
    obtain ⟨h1, h2⟩ := List.pairwise_cons.mp h
    split
    · rename_i hab
      refine List.pairwise_cons.mpr ⟨fun c hc => ?_, h⟩
      rcases List.mem_cons.mp hc with e | e
      · rw [e]; exact hab
      · exact Int.le_trans hab (h1 c e)
    · rename_i hab
      refine List.pairwise_cons.mpr ⟨fun c hc => ?_, ins_sorted a r h2⟩
      rcases List.mem_cons.mp ((ins_perm a r).mem_iff.mp hc) with e | e
      · rw [e]; omega
      · exact h1 c e
theorem srt_sorted : ∀ l : List Int, (srt l).Pairwise (· ≤ ·)
  | [] => .nil
  | a :: r => ins_sorted a _ (srt_sorted r)
theorem sorted_eq : ∀ {l l' : List Int}, l.Perm l' → l.Pairwise (· ≤ ·) → l'.Pairwise (· ≤ ·) → l = l'
  | [], l', p, _, _ => (List.nil_perm.mp p).symm
  | a :: r, [], p, _, _ => (List.cons_ne_nil a r (List.perm_nil.mp p)).elim
  | a :: r, b :: t, p, h, h' => by
    obtain ⟨h1, h2⟩ := List.pairwise_cons.mp h
    obtain ⟨g1, g2⟩ := List.pairwise_cons.mp h'
    have hab : a = b := by
      have ha : a ∈ b :: t := p.mem_iff.mp List.mem_cons_self
      have hb : b ∈ a :: r := p.mem_iff.mpr List.mem_cons_self
      rcases List.mem_cons.mp ha with e | e
      · exact e
      · rcases List.mem_cons.mp hb with e' | e'
        · exact e'.symm
        · exact Int.le_antisymm (h1 b e') (g1 a e)
    subst hab
    rw [sorted_eq (List.perm_cons a |>.mp p) h2 g2]
theorem srt_uniq {l l' : List Int} (p : l'.Perm l) (h : l'.Pairwise (· ≤ ·)) : l' = srt l := sorted_eq (p.trans (srt_perm l).symm) h (srt_sorted l)
def sortedD : ON := fun s xs => match xs with
  | [x] => match lstOf s x with
    | some ws => (intsOf ws).map fun ns => .lst ((srt ns).map .int)
    | none => none
  | _ => none
theorem sSorted (hK : Γ.K = X.K) : OpN Γ (rSortedI X.K) sortedD := fun H μ Z s xs w vs Q hR rx e k => by
  rw [← hK]
  unfold sortedD at e
  split at e
  · rename_i y
    split at e
    · rename_i ws q
      cases q2 : intsOf ws with
      | none => rw [q2] at e; cases e
      | some ns =>
        rw [q2] at e
        cases e
        obtain ⟨v, rfl, r1⟩ := one rx
        obtain ⟨a, ys, rfl, h2, h3⟩ := lstOf_ok hR r1 q
        rw [intsOf_ok q2] at h3
        have h4 := h3.ints
        subst h4
        refine ⟨a, ns, rfl, SqL.of h2, fun ns' p hp hs hn => ?_⟩
        rw [srt_uniq hp hs]
        exact k _ _ (Evo.laid hn) (hR.laid hn) (new_lst hR hn (RVs.of_ints _))
    · cases e
  · cases e
def sumD : ON := fun s xs => match xs with
  | [x] => match lstOf s x with
    | some ws => (intsOf ws).map fun ns => .int ns.sum
    | none => none
  | _ => none
theorem sSum (hK : Γ.K = X.K) : OpN Γ (rSum X.K) sumD := fun H μ Z s xs w vs Q hR rx e k => by
  rw [← hK]
  unfold sumD at e
  split at e
  · rename_i y
    split at e
    · rename_i ws q
      cases q2 : intsOf ws with
      | none => rw [q2] at e; cases e
      | some ns =>
        rw [q2] at e
        cases e
        obtain ⟨v, rfl, r1⟩ := one rx
        obtain ⟨a, ys, rfl, h2, h3⟩ := lstOf_ok hR r1 q
        rw [intsOf_ok q2] at h3
        have h4 := h3.ints
        subst h4
        exact ⟨a, ns, rfl, SqL.of h2, k _ H .refl hR rfl⟩
    · cases e
  · cases e
def min2D : ON := fun _ xs => match xs with
  | [.int i, .int j] => some (.int (if j < i then j else i))
  | _ => none
theorem sMin2 : OpN Γ (fun xs H Q => ∃ i j, xs = [.int i, .int j] ∧ Q (.int (if j < i then j else i)) H) min2D := fun H μ Z s xs w vs Q hR rx e k => by
  unfold min2D at e
  split at e
  · rename_i i j
    cases e
    obtain ⟨v, u, rfl, r1, r2⟩ := two rx
    exact ⟨i, j, by rw [show v = _ from r1, show u = _ from r2], k _ H .refl hR rfl⟩
  · cases e
def max2D : ON := fun _ xs => match xs with
  | [.int i, .int j] => some (.int (if j > i then j else i))
  | _ => none
theorem sMax2 : OpN Γ (fun xs H Q => ∃ i j, xs = [.int i, .int j] ∧ Q (.int (if j > i then j else i)) H) max2D := fun H μ Z s xs w vs Q hR rx e k => by
  unfold max2D at e
  split at e
  · rename_i i j
    cases e
    obtain ⟨v, u, rfl, r1, r2⟩ := two rx
    exact ⟨i, j, by rw [show v = _ from r1, show u = _ from r2], k _ H .refl hR rfl⟩
  · cases e
def intD : ON := fun _ xs => match xs with
  | [.int i] => some (.int i)
  | [.bl b] => some (.int (if b then 1 else 0))
  | _ => none
theorem sInt : OpN Γ (fun xs H Q => (∃ i, xs = [.int i] ∧ Q (.int i) H) ∨ ∃ k, xs = [.bl k] ∧ Q (.int (if k then 1 else 0)) H) intD := fun H μ Z s xs w vs Q hR rx e k => by
  unfold intD at e
  split at e
  · rename_i i
    cases e
    obtain ⟨v, rfl, r1⟩ := one rx
    exact .inl ⟨i, by rw [show v = _ from r1], k _ H .refl hR rfl⟩
  · rename_i b
    cases e
    obtain ⟨v, rfl, r1⟩ := one rx
    exact .inr ⟨b, by rw [show v = _ from r1], k _ H .refl hR rfl⟩
  · cases e
/-- isinstance of a built-in class -/
def tyName : Dv → Option String
  | .non => some "NoneType" | .bl _ => some "bool" | .int _ => some "int" | .str _ => some "str" | .tup _ => some "tuple" | .lst _ => some "list" | .dct _ _ => some "dict"
  | _ => none
def sub (a b : String) : Option Bool := match a, b with
  | "NoneType", "int" => some false | "NoneType", "bool" => some false | "NoneType", "tuple" => some false | "NoneType", "str" => some false | "NoneType", "list" => some false
  | "bool", "int" => some true | "bool", "bool" => some true | "bool", "tuple" => some false | "bool", "str" => some false | "bool", "list" => some false
  | "int", "int" => some true | "int", "bool" => some false | "int", "tuple" => some false | "int", "str" => some false | "int", "list" => some false
  | "str", "int" => some false | "str", "bool" => some false | "str", "tuple" => some false | "str", "str" => some true | "str", "list" => some false
  | "tuple", "int" => some false | "tuple", "bool" => some false | "tuple", "tuple" => some true | "tuple", "str" => some false | "tuple", "list" => some false
  | "list", "int" => some false | "list", "bool" => some false | "list", "tuple" => some false | "list", "str" => some false | "list", "list" => some true
  | "dict", "int" => some false | "dict", "bool" => some false | "dict", "tuple" => some false | "dict", "str" => some false | "dict", "list" => some false
  | _, _ => none
theorem sub_ok {a b : String} {r : Bool} (h : sub a b = some r) : kitB a b = some r := by
  unfold sub at h
  split at h <;> first
    | (cases h; decide +kernel)
    | cases h
def isiD : ON := fun _ xs => match xs with
  | [x, .ty n] => match tyName x with
    | some t => (sub t n).map .bl
    | none => none
  | _ => none
theorem tyName_ok {H : Hp} {μ : Mu} {Z : Zs} {x : Dv} {v : V} {t : String} (r : RV Γ H μ Z x v) (e : tyName x = some t) : TyX Γ.K H v (.type t) := by
  cases x with
  | non => cases e; rw [show v = _ from r]; exact .base .non
  | bl b => cases e; rw [show v = _ from r]; exact .base (.bl b)
  | int b => cases e; rw [show v = _ from r]; exact .base (.int b)
  | str b => cases e; rw [show v = _ from r]; exact .base (.str b)
  | tup ws =>
    cases e
    obtain ⟨a, xs, rfl, h2, h3⟩ := r
    rcases h2 with ⟨h2 | ⟨o, h2⟩, _⟩ | ⟨o, its, n, h2, h4, _⟩
    · exact .base (.tup h2)
    · exact .fTuple h2
    · exact .kTuple h2 h4
  | lst ws =>
    cases e
    obtain ⟨a, xs, rfl, h2, h3⟩ := r
    exact .base (.lst h2)
  | dct ks ws =>
    cases e
    obtain ⟨a, kvs, rfl, h2, h3⟩ := r
    exact .base (.dK h2)
  | _ => cases e
theorem sIsi (hK : Γ.K = X.K) : OpN Γ (rIsi X.K) isiD := fun H μ Z s xs w vs Q hR rx e k => by
  rw [← hK]
  unfold isiD at e
  split at e
  · rename_i y n
    split at e
    · rename_i t q
      cases q2 : sub t n with
      | none => rw [q2] at e; cases e
      | some b =>
        rw [q2] at e
        cases e
        obtain ⟨v, u, rfl, r1, r2⟩ := two rx
        exact ⟨v, u, .type t, .type n, b, rfl, by rw [show u = _ from r2]; exact .ty n, tyName_ok r1 q, kit_ty (sub_ok q2), k _ H .refl hR rfl⟩
    · cases e
  · cases e
def rRepr (K : PySem.W.Frag) : List V → Hp → VK → Prop := fun xs H Q => ∃ (x : V) (a : Addr) (d : PyData), xs = [x] ∧ x = .ref a ∧ Dp K H x d ∧ d.showable = true ∧ d.hasDict = false ∧ d.depth ≤ 60 ∧ d.shown.length ≤ sizeLine ∧ Q (.str d.shown) H
theorem call_repr (hg : X.A.guards = some []) (hu : X.A.units + 64 < cLine) : CallR X (.builtin "repr") (rRepr X.K) := by
  intro pins s σ H xs us Q I r h
  obtain ⟨x, a, d, rfl, rfl, hd, h1, h2, h3, h4, q⟩ := h
  obtain ⟨us', e, _⟩ : ∃ u, us = [u] ∧ RelV (.ref a) u := by
    cases r with
    | cons ru rn => cases rn; exact ⟨_, rfl, ru⟩
  subst e
  have er : us' = Value.ref a := by
    cases r with
    | cons ru rn => exact ru
  subst er
  obtain ⟨as, rd⟩ := hd.reads I d _ _ rfl
  exact repr_of_reads' rd h1 (fun z => by rw [h2] at z; cases z) hg (by omega) (fun _ _ z => z) (fun h' u tk k => ⟨.str d.shown, H, I.kept (t' := tk) k, ⟨u, rfl⟩, q⟩) h4
end
end MP
set_option Elab.async false
set_option linter.all false
set_option maxRecDepth 100000
set_option maxHeartbeats 4000000
namespace MP
open PySem PySem.Spec PyProof.Rows L2
section
variable {X : Cx} {Γ : Ct} {W : WX} {a b e : Expr} {f g : FE} {pos : Pos}
def orO (o o' : O2) : O2 := fun s x y => match o s x y with
  | some w => some w
  | none => o' s x y
theorem bin_or {o o' : O2} (h : ME X Γ W e (mBin o f g)) (h' : ME X Γ W e (mBin o' f g)) : ME X Γ W e (mBin (orO o o') f g) :=
  PE.imp (PE.or h h') fun σ H Q ⟨μ, Z, ρ, s, hE, hR, q⟩ => by
    have key : PostE Γ W H μ Z σ Q (mBin o f g ρ s) ∨ PostE Γ W H μ Z σ Q (mBin o' f g ρ s) := by
      unfold mBin at q ⊢
      revert q
      cases f ρ s with
      | no => exact .inl
      | er x s1 => exact .inl
      | ok x s1 =>
        dsimp only [R.bind]
        cases g ρ s1 with
        | no => exact .inl
        | er y s2 => exact .inl
        | ok y s2 =>
          dsimp only
          intro q
          unfold orO at q
          cases e1 : o s2 x y with
          | some w => rw [e1] at q; exact .inl q
          | none => rw [e1] at q; exact .inr q
    exact key.imp (fun z => ⟨μ, Z, ρ, s, hE, hR, z⟩) fun z => ⟨μ, Z, ρ, s, hE, hR, z⟩
theorem RVs.at {H : Hp} {μ : Mu} {Z : Zs} {ws : List Dv} {xs : List V} {i : Int} {w : Dv} (r : RVs Γ H μ Z ws xs) (e : atI ws i = some w) : ∃ x, atI xs i = some x ∧ RV Γ H μ Z w x := by
  unfold atI at e ⊢
  rw [r.len]
  cases q : ixN ws.length i with
  | none => rw [q] at e; cases e
  | some j =>
    rw [q] at e
    exact r.get e
def lstOrSq (s : Sto) : Dv → Option (List Dv)
  | .sq ws => some ws
  | w => lstOf s w
def ixL : O2 := fun s x y => match y with
  | .int i => (lstOrSq s x).bind fun ws => atI ws i
  | _ => none
def ixT : O2 := fun _ x y => match y with
  | .int i => (tupOf x).bind fun ws => atI ws i
  | _ => none
theorem lstOrSq_ok {H : Hp} {μ : Mu} {Z : Zs} {s : Sto} {w : Dv} {v : V} {ws : List Dv} (hR : Rep Γ H μ Z s) (r : RV Γ H μ Z w v) (e : lstOrSq s w = some ws) : ∃ a xs, v = .ref a ∧ SqL Γ.K H a xs ∧ RVs Γ H μ Z ws xs := by
  unfold lstOrSq at e
  split at e
  · cases e
    obtain ⟨a, xs, h1, h2, h3⟩ := r
    exact ⟨a, xs, h1, h2.sq, h3⟩
  · obtain ⟨a, xs, h1, h2, h3⟩ := lstOf_ok hR r e
    exact ⟨a, xs, h1, SqL.of h2, h3⟩
theorem tupOf_ok {H : Hp} {μ : Mu} {Z : Zs} {w : Dv} {v : V} {ws : List Dv} (r : RV Γ H μ Z w v) (e : tupOf w = some ws) : ∃ a xs, v = .ref a ∧ SqT Γ.K H a xs ∧ RVs Γ H μ Z ws xs := by
  cases w with
  | tup us =>
    cases e
    obtain ⟨a, xs, h1, h2, h3⟩ := r
    exact ⟨a, xs, h1, h2.sq, h3⟩
  | _ => cases e
theorem sIxL : Op2 Γ (rIxL Γ.K) ixL := fun H μ Z s x y w u v Q hR r1 r2 e k => by
  unfold ixL at e
  split at e
  · rename_i i
    cases q : lstOrSq s x with
    | none => rw [q] at e; cases e
    | some ws =>
      rw [q] at e
      obtain ⟨p, xs, h1, h2, h3⟩ := lstOrSq_ok hR r1 q
      obtain ⟨z, g1, g2⟩ := h3.at e
      exact ⟨p, xs, i, z, h1, r2, h2, g1, k _ H .refl hR g2⟩
  · cases e
theorem sIxT : Op2 Γ (rIxT Γ.K) ixT := fun H μ Z s x y w u v Q hR r1 r2 e k => by
  unfold ixT at e
  split at e
  · rename_i i
    cases q : tupOf x with
    | none => rw [q] at e; cases e
    | some ws =>
      rw [q] at e
      obtain ⟨p, xs, h1, h2, h3⟩ := tupOf_ok r1 q
      obtain ⟨z, g1, g2⟩ := h3.at e
      exact ⟨p, xs, i, z, h1, r2, h2, g1, k _ H .refl hR g2⟩
  · cases e
/-- dicts of the store -/
def keyOf : Dv → Option Key
  | .int i => some (.inl i)
  | .str x => some (.inr x)
  | _ => none
def valD (kws : List (Key × Dv)) (k : Key) : Option Dv := (kws.find? fun p => decide (p.1 = k)).map (·.2)
def putD (kws : List (Key × Dv)) (k : Key) (w : Dv) : List (Key × Dv) :=
  if (kws.any fun p => decide (p.1 = k)) = true then kws.map (fun p => if p.1 = k then (p.1, w) else p) else kws ++ [(k, w)]
def dctOf (s : Sto) : Dv → Option (List (Key × Dv))
  | .ref n => match s[n]? with
    | some (.dct kws) => some kws
    | _ => none
  | _ => none
def ixD : O2 := fun s x y => match dctOf s x, keyOf y with
  | some kws, some k => valD kws k
  | _, _ => none
theorem keyOf_ok {H : Hp} {μ : Mu} {Z : Zs} {w : Dv} {v : V} {k : Key} (r : RV Γ H μ Z w v) (e : keyOf w = some k) : v = kV k := by
  cases w with
  | int i => cases e; exact r
  | str x => cases e; exact r
  | _ => cases e
theorem valD_ok {H : Hp} {μ : Mu} {Z : Zs} {k : Key} {w : Dv} : ∀ {kws : List (Key × Dv)} {kvs : List (Key × V)}, kvs.map (·.1) = kws.map (·.1) → RVs Γ H μ Z (kws.map (·.2)) (kvs.map (·.2)) → valD kws k = some w → ∃ v, valV kvs k = some v ∧ RV Γ H μ Z w v
  | [], kvs, _, _, e => by cases e
  | p :: kws, [], h, _, e => by cases h
  | p :: kws, q :: kvs, h, r, e => by
    obtain ⟨h1, h2⟩ := List.cons.inj h
    obtain ⟨x, xs, h3, r1, r2⟩ := r
    obtain ⟨h4, h5⟩ := List.cons.inj h3
    subst h4
    by_cases hk : p.1 = k
    · have e1 : valD (p :: kws) k = some p.2 := by simp [valD, List.find?_cons, hk]
      rw [e1] at e
      cases e
      exact ⟨q.2, valV_pos (show q.1 = k from h1.trans hk), r1⟩
    · have e1 : valD (p :: kws) k = valD kws k := by simp [valD, List.find?_cons, hk]
      rw [e1] at e
      obtain ⟨v, g1, g2⟩ := valD_ok (kvs := kvs) h2 (h5 ▸ r2) e
      exact ⟨v, by rw [valV_neg (show ¬ q.1 = k from fun z => hk (h1.symm.trans z))]; exact g1, g2⟩
theorem putD_ok {H : Hp} {μ : Mu} {Z : Zs} {k : Key} {w : Dv} {v : V} (rw' : RV Γ H μ Z w v) {kws : List (Key × Dv)} {kvs : List (Key × V)} (h : kvs.map (·.1) = kws.map (·.1)) (r : RVs Γ H μ Z (kws.map (·.2)) (kvs.map (·.2))) :
    (putK kvs k v).map (·.1) = (putD kws k w).map (·.1) ∧ RVs Γ H μ Z ((putD kws k w).map (·.2)) ((putK kvs k v).map (·.2)) := by
  have hany : ∀ (kws : List (Key × Dv)) (kvs : List (Key × V)), kvs.map (·.1) = kws.map (·.1) → (kvs.any fun p => decide (p.1 = k)) = (kws.any fun p => decide (p.1 = k)) := fun kws => by
    induction kws with
    | nil => intro kvs h; cases kvs with
      | nil => rfl
      | cons _ _ => cases h
    | cons p kws ih => intro kvs h; cases kvs with
      | nil => cases h
      | cons q kvs =>
        obtain ⟨h1, h2⟩ := List.cons.inj h
        have h1' : q.1 = p.1 := h1
        rw [List.any_cons, List.any_cons, ih kvs h2, h1']
  have hmap : ∀ (kws : List (Key × Dv)) (kvs : List (Key × V)), kvs.map (·.1) = kws.map (·.1) → RVs Γ H μ Z (kws.map (·.2)) (kvs.map (·.2)) →
      (kvs.map (fun p => if p.1 = k then (p.1, v) else p)).map (·.1) = (kws.map (fun p => if p.1 = k then (p.1, w) else p)).map (·.1) ∧ RVs Γ H μ Z ((kws.map (fun p => if p.1 = k then (p.1, w) else p)).map (·.2)) ((kvs.map (fun p => if p.1 = k then (p.1, v) else p)).map (·.2)) := fun kws => by
    induction kws with
    | nil => intro kvs h r; cases kvs with
      | nil => exact ⟨rfl, rfl⟩
      | cons _ _ => cases h
    | cons p kws ih => intro kvs h r; cases kvs with
      | nil => cases h
      | cons q kvs =>
        obtain ⟨h1, h2⟩ := List.cons.inj h
        obtain ⟨x, xs, h3, r1, r2⟩ := r
        obtain ⟨h4, h5⟩ := List.cons.inj h3
        have h1' : q.1 = p.1 := h1
        subst h4
        obtain ⟨i1, i2⟩ := ih kvs h2 (h5 ▸ r2)
        by_cases hk : p.1 = k
        · have e1 : (if q.1 = k then (q.1, v) else q) = (q.1, v) := if_pos (h1'.trans hk)
          have e2 : (if p.1 = k then (p.1, w) else p) = (p.1, w) := if_pos hk
          have m1 : ((q :: kvs).map fun p => if p.1 = k then (p.1, v) else p) = (q.1, v) :: kvs.map fun p => if p.1 = k then (p.1, v) else p := by rw [List.map_cons, e1]
          have m2 : ((p :: kws).map fun p => if p.1 = k then (p.1, w) else p) = (p.1, w) :: kws.map fun p => if p.1 = k then (p.1, w) else p := by rw [List.map_cons, e2]
          rw [m1, m2]
          exact ⟨by rw [List.map_cons, List.map_cons, i1, h1'], RVs.cons rw' i2⟩
        · have e1 : (if q.1 = k then (q.1, v) else q) = q := if_neg fun z => hk (h1'.symm.trans z)
          have e2 : (if p.1 = k then (p.1, w) else p) = p := if_neg hk
          have m1 : ((q :: kvs).map fun p => if p.1 = k then (p.1, v) else p) = q :: kvs.map fun p => if p.1 = k then (p.1, v) else p := by rw [List.map_cons, e1]
          have m2 : ((p :: kws).map fun p => if p.1 = k then (p.1, w) else p) = p :: kws.map fun p => if p.1 = k then (p.1, w) else p := by rw [List.map_cons, e2]
          rw [m1, m2]
          exact ⟨by rw [List.map_cons, List.map_cons, i1, h1'], RVs.cons r1 i2⟩
  unfold putK putD
  rw [hany kws kvs h]
  split
  · exact hmap kws kvs h r
  · rw [List.map_append, List.map_append, List.map_append, List.map_append, h]
    exact ⟨rfl, r.append (RVs.cons rw' rfl)⟩
theorem dctOf_ok {H : Hp} {μ : Mu} {Z : Zs} {s : Sto} {w : Dv} {v : V} {kws : List (Key × Dv)} (hR : Rep Γ H μ Z s) (r : RV Γ H μ Z w v) (e : dctOf s w = some kws) : ∃ a kvs, v = .ref a ∧ H a = some (.dK kvs) ∧ kvs.map (·.1) = kws.map (·.1) ∧ RVs Γ H μ Z (kws.map (·.2)) (kvs.map (·.2)) := by
  cases w with
  | ref n =>
    simp only [dctOf] at e
    split at e
    · rename_i us q
      cases e
      obtain ⟨a, h1, h2⟩ := r
      obtain ⟨b', h3, _, kvs, h4, h5, h6⟩ := hR.at n _ q
      rw [h2] at h3
      cases h3
      exact ⟨a, kvs, h1, h4, h5, h6⟩
    · cases e
  | _ => cases e
theorem sIxD : Op2 Γ (fun x y H Q => ∃ a v, x = .ref a ∧ DGet H a y (some v) ∧ Q v H) ixD := fun H μ Z s x y w u v Q hR r1 r2 e k => by
  unfold ixD at e
  split at e
  · rename_i kws kk q1 q2
    obtain ⟨p, kvs, h1, h2, h3, h4⟩ := dctOf_ok hR r1 q1
    obtain ⟨z, g1, g2⟩ := valD_ok h3 h4 e
    refine ⟨p, z, h1, ?_, k _ H .refl hR g2⟩
    rw [keyOf_ok r2 q2, ← g1]
    exact DGet.k h2
  · cases e
theorem me_ixL (hK : Γ.K = X.K) (ha : ME X Γ W a f) (hb : ME X Γ W b g) (hs : PlainIx b) : ME X Γ W (.Subscript a b pos) (mBin ixL f g) :=
  PE.imp (pe_ix ix_list ha hb hs) fun σ H Q ⟨μ, Z, ρ, s, hE, hR, q⟩ => eE hE hR q fun x s1 u H1 μ1 e1 hE1 R1 r1 q1 => eE hE1 R1 q1 fun y s2 v H2 μ2 e2 hE2 R2 r2 q2 => by
    obtain ⟨w, hw, k⟩ := ofE q2
    rw [← hK]
    exact sIxL H2 μ2 Z s2 x y w u v Q R2 (r1.mono e2) r2 hw k
theorem me_ixT (hK : Γ.K = X.K) (ha : ME X Γ W a f) (hb : ME X Γ W b g) (hs : PlainIx b) : ME X Γ W (.Subscript a b pos) (mBin ixT f g) :=
  PE.imp (pe_ix ix_tup ha hb hs) fun σ H Q ⟨μ, Z, ρ, s, hE, hR, q⟩ => eE hE hR q fun x s1 u H1 μ1 e1 hE1 R1 r1 q1 => eE hE1 R1 q1 fun y s2 v H2 μ2 e2 hE2 R2 r2 q2 => by
    obtain ⟨w, hw, k⟩ := ofE q2
    rw [← hK]
    exact sIxT H2 μ2 Z s2 x y w u v Q R2 (r1.mono e2) r2 hw k
theorem me_ixD (hu : X.A.units + 1 < cLine) (ha : ME X Γ W a f) (hb : ME X Γ W b g) (hs : NoSl b) : ME X Γ W (.Subscript a b pos) (mBin ixD f g) :=
  PE.imp (pe_dget hu ha hb hs) fun σ H Q ⟨μ, Z, ρ, s, hE, hR, q⟩ => eE hE hR q fun x s1 u H1 μ1 e1 hE1 R1 r1 q1 => eE hE1 R1 q1 fun y s2 v H2 μ2 e2 hE2 R2 r2 q2 => by
    obtain ⟨w, hw, k⟩ := ofE q2
    exact sIxD H2 μ2 Z s2 x y w u v Q R2 (r1.mono e2) r2 hw k
/-- a[b]: of a list, a tuple, a dict -/
def ixA : O2 := orO (orO ixL ixT) ixD
theorem me_ix (hK : Γ.K = X.K) (hu : X.A.units + 1 < cLine) (ha : ME X Γ W a f) (hb : ME X Γ W b g) (hs : PlainIx b) (hs' : NoSl b) : ME X Γ W (.Subscript a b pos) (mBin ixA f g) :=
  bin_or (bin_or (me_ixL hK ha hb hs) (me_ixT hK ha hb hs)) (me_ixD hu ha hb hs')
abbrev FO := Env → Sto → R (Option Int)
def PostO (Γ : Ct) (W : WX) (H : Hp) (μ : Mu) (Z : Zs) (σ : L2.St) (Q : Option Int → Hp → Prop) : R (Option Int) → Prop
  | .ok b s' => ∀ H' μ', Evo H μ H' μ' → Rep Γ H' μ' Z s' → Q b H'
  | .er x s' => ∀ cls d H' μ', Evo H μ H' μ' → Rep Γ H' μ' Z s' → RX Γ H' μ' Z x cls d → W cls d σ H'
  | .no => False
def rdO (Γ : Ct) (W : WX) (f : FO) : TO := fun σ H Q => ∃ μ Z ρ s, RE Γ H μ Z ρ σ ∧ Rep Γ H μ Z s ∧ PostO Γ W H μ Z σ Q (f ρ s)
def MO (X : Cx) (Γ : Ct) (W : WX) (e : Option Expr) (f : FO) : Prop := PO X e (rdO Γ W f)
theorem PO.imp {e : Option Expr} {t t' : TO} (h : PO X e t) (k : ∀ σ H Q, t' σ H Q → t σ H Q) : PO X e t' := ⟨fun pins s σ H Q I q => h.run pins s σ H Q I (k σ H Q q)⟩
def mPart (f : FE) : FO := fun ρ s => (f ρ s).bind fun x s1 => match x with
  | .int i => .ok (some i) s1
  | _ => .no
def mNoPart : FO := fun _ s => .ok none s
theorem mo_none : MO X Γ W none mNoPart := PO.imp po_none fun σ H Q ⟨μ, Z, ρ, s, hE, hR, q⟩ => q H μ .refl hR
theorem mo_some (h : ME X Γ W e f) : MO X Γ W (some e) (mPart f) := PO.imp (po_some h) fun σ H Q ⟨μ, Z, ρ, s, hE, hR, q⟩ => by
  refine ⟨μ, Z, ρ, s, hE, hR, ?_⟩
  unfold mPart at q
  cases e1 : f ρ s with
  | no => rw [e1] at q; exact q.elim
  | er x s1 => rw [e1] at q; exact q
  | ok x s1 =>
    rw [e1] at q
    intro v H1 μ1 ev R1 r1
    cases x with
    | int i => exact ⟨i, r1, q H1 μ1 ev R1⟩
    | _ => exact q.elim
abbrev OS := Sto → Dv → Option Int → Option Int → Option Dv
def mSl (op : OS) (f : FE) (lo hi : FO) : FE := fun ρ s => (f ρ s).bind fun x s1 => (lo ρ s1).bind fun l s2 => (hi ρ s2).bind fun u s3 => R.of (op s3 x l u) s3
theorem oE {H : Hp} {μ : Mu} {Z : Zs} {σ : L2.St} {ρ : Env} {s : Sto} {fo : FO} {k : Option Int → Sto → R Dv} {Q : VK} {Q' : Option Int → Hp → Prop} (hE : RE Γ H μ Z ρ σ) (hR : Rep Γ H μ Z s) (h : PostE Γ W H μ Z σ Q ((fo ρ s).bind k))
    (hk : ∀ b s1 H1 μ1, Evo H μ H1 μ1 → RE Γ H1 μ1 Z ρ σ → Rep Γ H1 μ1 Z s1 → PostE Γ W H1 μ1 Z σ Q (k b s1) → Q' b H1) : rdO Γ W fo σ H Q' := by
  refine ⟨μ, Z, ρ, s, hE, hR, ?_⟩
  cases e : fo ρ s with
  | ok x s1 =>
    rw [e] at h
    exact fun H1 μ1 ev R1 => hk x s1 H1 μ1 ev (hE.mono ev) R1 (PostE.evo ev h)
  | er x s1 => rw [e] at h; exact h
  | no => rw [e] at h; exact h.elim
def cutD (ws : List Dv) (lo hi : Option Int) : List Dv := (ws.drop (HT.sIx ws.length 0 lo)).take (HT.sIx ws.length ws.length hi - HT.sIx ws.length 0 lo)
theorem cut_ok {H : Hp} {μ : Mu} {Z : Zs} {ws : List Dv} {xs : List V} (r : RVs Γ H μ Z ws xs) (lo hi : Option Int) : RVs Γ H μ Z (cutD ws lo hi) (cutV xs lo hi) := by
  unfold cutD cutV
  rw [r.len]
  exact (r.drop _).take _
def slL : OS := fun s x lo hi => (lstOrSq s x).map fun ws => .lst (cutD ws lo hi)
def slT : OS := fun _ x lo hi => (tupOf x).map fun ws => .tup (cutD ws lo hi)
variable {lo hi : Option Expr} {flo fhi : FO} {p2 : Pos}
theorem me_slL (hK : Γ.K = X.K) (ha : ME X Γ W e f) (hl : MO X Γ W lo flo) (hh : MO X Γ W hi fhi) : ME X Γ W (.Subscript e (.Slice lo hi none p2) pos) (mSl slL f flo fhi) :=
  PE.imp (pe_slice sl_list ha hl hh) fun σ H Q ⟨μ, Z, ρ, s, hE, hR, q⟩ => eE hE hR q fun x s1 u H1 μ1 e1 hE1 R1 r1 q1 => oE hE1 R1 q1 fun l s2 H2 μ2 e2 hE2 R2 q2 => oE hE2 R2 q2 fun h s3 H3 μ3 e3 hE3 R3 q3 => by
    obtain ⟨w, hw, k⟩ := ofE q3
    unfold slL at hw
    cases q : lstOrSq s3 x with
    | none => rw [q] at hw; cases hw
    | some ws =>
      rw [q] at hw
      cases hw
      obtain ⟨p, xs, h1, h2, h3⟩ := lstOrSq_ok R3 ((r1.mono e2).mono e3) q
      exact ⟨p, xs, h1, hK ▸ h2, fun l' hl' => k _ _ (Evo.laid hl') (R3.laid hl') (new_lst R3 hl' (cut_ok h3 l h))⟩
theorem cut_all {ws : List Dv} {lo hi : Option Int} (h1 : HT.sIx ws.length 0 lo = 0) (h2 : HT.sIx ws.length ws.length hi = ws.length) : cutD ws lo hi = ws := by
  unfold cutD
  rw [h1, h2, List.drop_zero, Nat.sub_zero, List.take_length]
theorem me_slT (hK : Γ.K = X.K) (ha : ME X Γ W e f) (hl : MO X Γ W lo flo) (hh : MO X Γ W hi fhi) : ME X Γ W (.Subscript e (.Slice lo hi none p2) pos) (mSl slT f flo fhi) :=
  PE.imp (pe_slice sl_tupA ha hl hh) fun σ H Q ⟨μ, Z, ρ, s, hE, hR, q⟩ => eE hE hR q fun x s1 u H1 μ1 e1 hE1 R1 r1 q1 => oE hE1 R1 q1 fun l s2 H2 μ2 e2 hE2 R2 q2 => oE hE2 R2 q2 fun h s3 H3 μ3 e3 hE3 R3 q3 => by
    obtain ⟨w, hw, k⟩ := ofE q3
    unfold slT at hw
    have r3 := (r1.mono e2).mono e3
    cases q : tupOf x with
    | none => rw [q] at hw; cases hw
    | some ws =>
      rw [q] at hw
      cases hw
      have hx : x = .tup ws := by cases x <;> cases q <;> rfl
      subst hx
      obtain ⟨p, xs, h1, h2, h3⟩ := id r3
      refine ⟨p, xs, h1, hK ▸ h2.sq, fun ⟨z1, z2⟩ => ?_, fun _ l' hl' => k _ _ (Evo.laid hl') (R3.laid hl') (new_tup R3 hl' (cut_ok h3 l h))⟩
      rw [h3.len] at z1 z2
      refine k _ H3 .refl R3 ?_
      show RV Γ H3 μ3 Z (.tup (cutD ws l h)) _
      rw [cut_all z1 z2, ← h1]
      exact r3
def orS (o o' : OS) : OS := fun s x l u => match o s x l u with
  | some w => some w
  | none => o' s x l u
theorem sl_or {o o' : OS} (h : ME X Γ W e (mSl o f flo fhi)) (h' : ME X Γ W e (mSl o' f flo fhi)) : ME X Γ W e (mSl (orS o o') f flo fhi) :=
  PE.imp (PE.or h h') fun σ H Q ⟨μ, Z, ρ, s, hE, hR, q⟩ => by
    have key : PostE Γ W H μ Z σ Q (mSl o f flo fhi ρ s) ∨ PostE Γ W H μ Z σ Q (mSl o' f flo fhi ρ s) := by
      unfold mSl at q ⊢
      revert q
      cases f ρ s with
      | no => exact .inl
      | er x s1 => exact .inl
      | ok x s1 =>
        dsimp only [R.bind]
        cases flo ρ s1 with
        | no => exact .inl
        | er y s2 => exact .inl
        | ok y s2 =>
          dsimp only
          cases fhi ρ s2 with
          | no => exact .inl
          | er y s3 => exact .inl
          | ok z s3 =>
            dsimp only
            intro q
            unfold orS at q
            cases e1 : o s3 x y z with
            | some w => rw [e1] at q; exact .inl q
            | none => rw [e1] at q; exact .inr q
    exact key.imp (fun z => ⟨μ, Z, ρ, s, hE, hR, z⟩) fun z => ⟨μ, Z, ρ, s, hE, hR, z⟩
def slA : OS := orS slL slT
theorem me_sl (hK : Γ.K = X.K) (ha : ME X Γ W e f) (hl : MO X Γ W lo flo) (hh : MO X Γ W hi fhi) : ME X Γ W (.Subscript e (.Slice lo hi none p2) pos) (mSl slA f flo fhi) := sl_or (me_slL hK ha hl hh) (me_slT hK ha hl hh)
theorem Evo.put {H : Hp} {μ : Mu} {n : Nat} {p : Addr} {o : HO} (hn : μ n = some p) : Evo H μ (upd H p o) μ where
  keep := fun a ob h hm => by rw [upd_ne (fun z : a = p => hm n (by rw [z]; exact hn))]; exact h
  mu := fun _ _ h => h
  new := fun _ _ h => .inl h
  stay := fun m a h q => by
    by_cases z : a = p
    · rw [z, upd_same]; intro y; cases y
    · rw [upd_ne z]; exact q
theorem Rep.put {H : Hp} {μ : Mu} {Z : Zs} {s : Sto} {n : Nat} {p : Addr} {o : HO} {ob : Ob} (hR : Rep Γ H μ Z s) (hn : μ n = some p) (ho : RO Γ (upd H p o) μ Z p ob) : Rep Γ (upd H p o) μ Z (s.set n ob) := by
  have ev : Evo H μ (upd H p o) μ := Evo.put hn
  refine ⟨fun m ob' q => ?_, hR.inj, fun m a h => by rw [List.length_set]; exact hR.dom m a h, fun a z => ev.alive (hR.za a z)⟩
  by_cases hm : n = m
  · subst hm
    have hl : n < s.length := hR.dom n p hn
    rw [List.getElem?_set_self hl] at q
    cases q
    exact ⟨p, hn, hR.notZ hn, ho⟩
  · rw [List.getElem?_set_ne hm] at q
    obtain ⟨a, h1, h2, h3⟩ := hR.at m ob' q
    exact ⟨a, h1, h2, h3.mono' ev (upd_ne (fun z : a = p => hm (hR.inj n m p hn (by rw [← z]; exact h1))))⟩
/-- xs.append(e) -/
def mApp (f g : FE) : FE := fun ρ s => (f ρ s).bind fun x s1 => match x with
  | .ref n => match s1[n]? with
    | some (.lst _) => (g ρ s1).bind fun y s2 => match s2[n]? with
      | some (.lst ws) => if ws.length < lim then .ok .non (s2.set n (.lst (ws ++ [y]))) else .no
      | _ => .no
    | _ => .no
  | _ => .no
theorem me_app (h : PE X e (tBM Γ.K "list" rAppend (rdE Γ W f) (tCons (rdE Γ W g) tNil))) : ME X Γ W e (mApp f g) :=
  PE.imp h fun σ H Q ⟨μ, Z, ρ, s, hE, hR, q⟩ => eE hE hR q fun x s1 u H1 μ1 e1 hE1 R1 r1 q1 => by
    cases x with
    | ref n =>
      dsimp only at q1
      split at q1
      · rename_i us q0
        obtain ⟨p, h1, h2⟩ := r1
        obtain ⟨p', g1, _, xs, g3, g4⟩ := R1.at n _ q0
        rw [h2] at g1
        cases g1
        subst h1
        refine ⟨.inl ⟨rfl, xs, SqL.of g3⟩, ?_⟩
        refine eE hE1 R1 q1 fun y s2 v H2 μ2 e2 hE2 R2 r2 q2 => ?_
        split at q2
        · rename_i ws q3
          split at q2
          · rename_i hl
            obtain ⟨p'', k1, _, ys, k3, k4⟩ := R2.at n _ q3
            rw [e2.mu _ _ h2] at k1
            cases k1
            refine ⟨p, ys, v, rfl, rfl, k3, by rw [k4.len]; exact Nat.lt_of_lt_of_le hl (lim_ok (Nat.le_refl _)), ?_⟩
            have ev : Evo H2 μ2 (upd H2 p (.lst (ys ++ [v]))) μ2 := Evo.put (e2.mu _ _ h2)
            exact q2 .non _ μ2 ev (R2.put (e2.mu _ _ h2) ⟨_, upd_same, (k4.append (RVs.cons r2 RVs.nil)).mono ev⟩) rfl
          · exact q2.elim
        · exact q2.elim
      · exact q1.elim
    | _ => exact q1.elim
/-- d[k] = e -/
def mDPut (fo fi fv : FE) : FS := fun ρ s => (fv ρ s).thenC ρ fun v s1 => (fo ρ s1).thenC ρ fun x s2 => (fi ρ s2).thenC ρ fun y s3 => match x, keyOf y with
  | .ref n, some k => match s3[n]? with
    | some (.dct kws) => if kws.length < lim then .nx ρ (s3.set n (.dct (putD kws k v))) else .no
    | _ => .no
  | _, _ => .no
theorem map_len {α β γ : Type} {l : List (α × β)} {l' : List (α × γ)} (h : l.map (·.1) = l'.map (·.1)) : l.length = l'.length := by
  have := congrArg List.length h
  rw [List.length_map, List.length_map] at this
  exact this
theorem ms_dput {o i value : Expr} {pos' : Pos} {fo fi fv : FE} (hu : X.A.units + 1 < cLine) (ho : ME X Γ W o fo) (hi : ME X Γ W i fi) (hv : ME X Γ W value fv) (hs : swapsWith value (some (.Subscript o i pos')) pos.line X.env = pure false) :
    MS X Γ W (.Assign [.Subscript o i pos'] value pos) (mDPut fo fi fv) :=
  PS.imp (ps_dput hu ho hi hv hs) fun D σ H ⟨μ, Z, ρ, s, hE, hR, q⟩ => eS hE hR q fun v s1 uv H1 μ1 e1 hE1 R1 r1 q1 => eS hE1 R1 q1 fun x s2 ux H2 μ2 e2 hE2 R2 r2 q2 => eS hE2 R2 q2 fun y s3 uy H3 μ3 e3 hE3 R3 r3 q3 => by
    split at q3
    · rename_i n k hk
      split at q3
      · rename_i kws q0
        split at q3
        · rename_i hl
          obtain ⟨p, h1, h2⟩ := r2.mono e3
          obtain ⟨p', g1, _, kvs, g3, g4, g5⟩ := R3.at n _ q0
          rw [h2] at g1
          cases g1
          have rv := (r1.mono e2).mono e3
          obtain ⟨k1, k2⟩ := putD_ok (k := k) rv g4 g5
          have ev : Evo H3 μ3 (upd H3 p (.dK (putK kvs k uv))) μ3 := Evo.put h2
          refine ⟨p, upd H3 p (.dK (putK kvs k uv)), h1, .inl ⟨kvs, k, g3, keyOf_ok r3 hk, by rw [map_len g4]; exact Nat.lt_of_lt_of_le hl (lim_ok (Nat.le_refl _)), rfl⟩, ?_⟩
          exact q3 σ _ μ3 ev (R3.put h2 ⟨_, upd_same, k1, k2.mono ev⟩) (hE3.mono ev)
        · exact q3.elim
      · exact q3.elim
    · exact q3.elim
end
end MP
set_option Elab.async false
set_option linter.all false
set_option maxRecDepth 100000
set_option maxHeartbeats 4000000
namespace MP
open PySem PySem.Spec PyProof.Rows L2
end MP
set_option Elab.async false
set_option linter.all false
set_option maxRecDepth 100000
set_option maxHeartbeats 4000000
namespace MP
open PySem PySem.Spec PyProof.Rows L2
def SqX (K : PySem.W.Frag) (H : Hp) (t : Bool) (a : Addr) (xs : List V) : Prop := if t = true then SqT K H a xs else SqL K H a xs
def ItX (h : Heap) (t : Bool) (it a : Addr) (i : Nat) : Prop := if t = true then h.IsTupleIter it a i else h.IsListIter it a i
def HasX (h : Heap) (t : Bool) (a : Addr) (its : Array Value) : Prop := if t = true then h.IsTuple a its else h.IsList a its
theorem ItX.at {h h' : Heap} {t : Bool} {it a : Addr} {i : Nat} (x : ItX h t it a i) (k : ∀ o, h.get? it = some o → h'.get? it = some o) : ItX h' t it a i := by
  unfold ItX at x ⊢
  cases t with
  | true => rw [if_pos rfl] at x ⊢; exact x.at k
  | false => rw [if_neg Bool.false_ne_true] at x ⊢; exact x.at k
theorem ItX.obj {h : Heap} {t : Bool} {it a : Addr} {i : Nat} (x : ItX h t it a i) : ∃ o, h.get? it = some o ∧ ∀ v, o.data ≠ .cell v := by
  unfold ItX at x
  cases t with
  | true => rw [if_pos rfl] at x; obtain ⟨o, e, _, d⟩ := x; exact ⟨o, e, fun v q => by rw [d] at q; cases q⟩
  | false => rw [if_neg Bool.false_ne_true] at x; obtain ⟨o, e, _, d⟩ := x; exact ⟨o, e, fun v q => by rw [d] at q; cases q⟩
theorem drawsX {prog : Program} {w : World} {A : Around} (hh : A.handled = none) (t : Bool) (it a : Addr) (hne : a ≠ it) (items : Array Value) :
    Draws prog w A it [it, a] items.size (fun i v => items[i]? = some v) (fun i h => ItX h t it a i ∧ HasX h t a items) := by
  unfold ItX HasX
  cases t with
  | true => exact Draws.tuple hh it a hne items
  | false => exact Draws.list hh it a hne items
theorem beginsX (t : Bool) (a : Addr) (items : Array Value) : Begins (.ref a) { cls := .type (if t = true then "tuple_iterator" else "list_iterator"), data := .fields #[.ref a, .int 0 0] } fun h => HasX h t a items := by
  unfold HasX
  cases t with
  | true => exact begins_tuple a items
  | false => exact begins_list a items
theorem SqX.has {X : Cx} {pins : List (Addr × Obj)} {σ : L2.St} {H : Hp} {s : Shared} {t : Bool} {a : Addr} {xs : List V} (I : Inv X pins σ H s) (h : SqX X.K H t a xs) : ∃ its : List Value, Vals xs its ∧ HasX s.heap t a its.toArray ∧ a < s.heap.objs.size := by
  unfold SqX at h
  unfold HasX
  cases t with
  | true =>
    rw [if_pos rfl] at h
    obtain ⟨its, r, p, _⟩ := I.tuple h
    exact ⟨its, r, p, p.lt⟩
  | false =>
    rw [if_neg Bool.false_ne_true] at h
    obtain ⟨its, r, p, _⟩ := I.list h
    exact ⟨its, r, p.isList, p.lt⟩
theorem SqX.inj {X : Cx} {pins : List (Addr × Obj)} {σ : L2.St} {H : Hp} {s : Shared} {t : Bool} {a : Addr} {xs ys : List V} (I : Inv X pins σ H s) (h : SqX X.K H t a xs) (h' : SqX X.K H t a ys) : xs = ys := by
  unfold SqX at h h'
  cases t with
  | true => rw [if_pos rfl] at h h'; exact I.tuple_inj h h'
  | false => rw [if_neg Bool.false_ne_true] at h h'; exact I.list_inj h h'
/-- an iterator of new tuples, by the library's own walk: a turn of ours -/
theorem turn_item {X : Cx} {tg : Expr} {it : Addr} {fp fp' wr : List Addr} {n i : Nat} {Y : Nat → Heap → Value → Heap → Prop} {St tn : Nat → Heap → Prop} {pins : List (Addr × Obj)} {s : Shared} {σ : L2.St} {H : Hp} {E : Value → Shared → Prop} {J : It} (I : Inv X pins σ H s) (hf : ∀ b ∈ fp, FpOk X pins H b) (live : ∀ b ∈ fp, b < s.heap.objs.size)
    (G : GoesN X.prog X.w X.A tg it fp' wr n Y St) (hi : i < n) (hst : St i s.heap) (hw : ∀ b ∈ wr, b ∈ fp) (next : ∀ h', (∀ b o, b ∉ wr → s.heap.get? b = some o → h'.get? b = some o) → St (i + 1) h' → tn (i + 1) h')
    (yl : ∀ v h', Y i s.heap v h' → ∃ T vals us, v = .ref T ∧ s.heap.objs.size ≤ T ∧ h'.IsTuple T us ∧ Vals vals us.toList ∧ vals.length ≤ sizeLine ∧ J.yld i H (.ref T) (upd H T (.tup vals))) :
    wpAny (model X.prog X.w) X.A (pyNext (.ref it)) (fun r s1 => ∃ u, r = some u ∧
      wpAny (model X.prog X.w) X.A (letOwnedTupleGo tg (.ref it) u) (fun _ s2 => ∃ x H', Inv X pins σ H' s2 ∧ RelV x u ∧ J.yld i H x H' ∧ tn (i + 1) s2.heap ∧ ∀ b ∈ fp, H' b = none) E s1) E s := by
  refine G.goes i s (fun u s2 => ∃ x H', Inv X pins σ H' s2 ∧ RelV x u ∧ J.yld i H x H' ∧ tn (i + 1) s2.heap ∧ ∀ b ∈ fp, H' b = none) E hi hst fun v h' tk hY st' hk _ => ?_
  obtain ⟨T, vals, us, rfl, hT, ht, rv, hl, hy⟩ := yl v h' hY
  have new : ObjOk X.prog X.w (upd H T (.tup vals)) h' T (.tup vals) := ⟨hl, us.toList, rv, by rw [Array.toArray_toList]; exact ht⟩
  have J1 : Inv X pins σ (upd H T (.tup vals)) { s with heap := h', toks := tk } := I.turnedNew (ch := fp) (fun b o hb q => hk b o (fun z => hb (hw b z)) q) hf hT new
  refine ⟨.ref T, _, J1, rfl, hy, next h' hk st', fun b hb => ?_⟩
  rw [upd_ne (Nat.ne_of_lt (Nat.lt_of_lt_of_le (live b hb) hT))]
  exact (hf b hb).1
def JZip (K : PySem.W.Frag) (t u : Bool) (a b : Addr) : It :=
  ⟨fun i H => ∃ (xs ys : List V) (x y : V), SqX K H t a xs ∧ SqX K H u b ys ∧ xs[i]? = some x ∧ ys[i]? = some y,
   fun i H v H' => ∃ T x y, v = .ref T ∧ H T = none ∧ H' = upd H T (.tup [x, y]) ∧ (∀ xs, SqX K H t a xs → xs[i]? = some x) ∧ ∀ ys, SqX K H u b ys → ys[i]? = some y,
   fun i H => ∃ xs ys : List V, SqX K H t a xs ∧ SqX K H u b ys ∧ min xs.length ys.length = i⟩
def ZipTn (t u : Bool) (a b : Addr) (N : Nat) (i : Nat) (h : Heap) : Prop := IsZip h (N + 4) (N + 2) (N + 3) .none ∧ IsTupOf2 h (N + 2) (.ref N) (.ref (N + 1)) ∧ (∃ x y, IsTupOf2 h (N + 3) x y) ∧ ItX h t N a i ∧ ItX h u (N + 1) b i
theorem turn_zipX {P : Program} {w : World} {K : PySem.W.Frag} {elts : List Expr} {kk : Nat} {tpos : Pos} {t u : Bool} {a b : Addr} {N : Nat} (la : a < N) (lb : b < N) :
    Turn P w K (.Tuple elts kk tpos) (JZip K t u a b) [N + 4, N + 2, N + 3, N, N + 1] (N + 4) (ZipTn t u a b N) where
  mem := by simp
  obj := fun i h st c hc => by
    obtain ⟨hz, hTI, ⟨x, y, hTO⟩, h1, h2⟩ := st
    have e : c = N + 4 ∨ c = N + 2 ∨ c = N + 3 ∨ c = N ∨ c = N + 1 := by simpa using hc
    rcases e with q | q | q | q | q
    · rw [q]; exact ⟨_, hz, fun v q => nomatch q⟩
    · rw [q]; exact ⟨_, hTI, fun v q => nomatch q⟩
    · rw [q]; exact ⟨_, hTO, fun v q => nomatch q⟩
    · rw [q]; exact h1.obj
    · rw [q]; exact h2.obj
  keep := fun i h h' st k => by
    obtain ⟨hz, hTI, ⟨x, y, hTO⟩, h1, h2⟩ := st
    exact ⟨k _ (by simp) _ hz, k _ (by simp) _ hTI, ⟨x, y, k _ (by simp) _ hTO⟩, h1.at fun o q => k N (by simp) o q, h2.at fun o q => k (N + 1) (by simp) o q⟩
  item := by
    intro X hP hw hK hc i pins s σ H E I hf st hg
    subst hP hw hK
    obtain ⟨xs, ys, x, y, hqx, hqy, hx, hy⟩ := hg
    obtain ⟨its, rv, p, _⟩ := hqx.has I
    obtain ⟨its2, rv2, p2, _⟩ := hqy.has I
    obtain ⟨v1, hv1, r1⟩ := rv.get hx
    obtain ⟨v2, hv2, r2⟩ := rv2.get hy
    have hh : X.A.in1.handled = none := I.ok.hd hc
    have sep := zip_sep2 (N := N) (fp1 := [a]) (fp2 := [b]) (by simpa using la) (by simpa using lb)
    have G := GoesN.zip2 (prog := X.prog) (w := X.w) (A := X.A) (elts := elts) (x1 := kk) (pos := tpos) sep (drawsX hh t N a (Nat.ne_of_lt la) its.toArray) (drawsX hh u (N + 1) b (Nat.ne_of_lt (Nat.lt_succ_of_lt lb)) its2.toArray)
    obtain ⟨hz, hTI, hTO, h1, h2⟩ := id st
    have l1 := (List.getElem?_eq_some_iff.mp hv1).1
    have l2 := (List.getElem?_eq_some_iff.mp hv2).1
    have liveX : ∀ c ∈ [N + 4, N + 2, N + 3, N, N + 1], c < s.heap.objs.size := fun c hc => by
      have hN : N + 4 < s.heap.objs.size := Heap.lt_size hz
      have e : c = N + 4 ∨ c = N + 2 ∨ c = N + 3 ∨ c = N ∨ c = N + 1 := by simpa using hc
      omega
    refine turn_item (tn := ZipTn t u a b N) I hf liveX G (by simp; omega) ⟨hz, hTI, hTO, ⟨h1, p⟩, h2, p2⟩ (fun c hc => by
      have e : c = N + 4 ∨ c = N + 3 ∨ c = N ∨ c = N + 1 := by simpa using hc
      rcases e with q | q | q | q <;> (rw [q]; simp)) (fun h' _ st' => show ZipTn t u a b N (i + 1) h' from ⟨st'.1, st'.2.1, st'.2.2.1, st'.2.2.2.1.1, st'.2.2.2.2.1⟩) fun v h' hY => ?_
    obtain ⟨T, c1, c2, rfl, hT, e1, e2, ht⟩ := hY
    have e1' : its[i]? = some c1 := by simpa using e1
    have e2' : its2[i]? = some c2 := by simpa using e2
    rw [hv1] at e1'
    rw [hv2] at e2'
    cases e1'
    cases e2'
    exact ⟨T, [x, y], #[v1, v2], rfl, hT, ht, .cons r1 (.cons r2 .nil), (show 2 ≤ sizeLine by rw [sizeLine_eq]; decide), T, x, y, rfl, I.hok.fresh hT, rfl, fun l hl => by rw [SqX.inj I hl hqx]; exact hx, fun l hl => by rw [SqX.inj I hl hqy]; exact hy⟩
  done := by
    intro X hP hw hK hc i pins s σ H E I hf st hg
    subst hP hw hK
    obtain ⟨xs, ys, hqx, hqy, hend⟩ := hg
    obtain ⟨its, rv, p, _⟩ := hqx.has I
    obtain ⟨its2, rv2, p2, _⟩ := hqy.has I
    have hh : X.A.in1.handled = none := I.ok.hd hc
    have sep := zip_sep2 (N := N) (fp1 := [a]) (fp2 := [b]) (by simpa using la) (by simpa using lb)
    have G := GoesN.zip2 (prog := X.prog) (w := X.w) (A := X.A) (elts := elts) (x1 := kk) (pos := tpos) sep (drawsX hh t N a (Nat.ne_of_lt la) its.toArray) (drawsX hh u (N + 1) b (Nat.ne_of_lt (Nat.lt_succ_of_lt lb)) its2.toArray)
    obtain ⟨hz, hTI, hTO, h1, h2⟩ := id st
    have l1 := rv.length
    have l2 := rv2.length
    have hn : min its.toArray.size its2.toArray.size = i := by simp; omega
    rw [hn] at G
    exact G.stops s (fun s1 => Inv X pins σ H s1) E ⟨hz, hTI, hTO, ⟨h1, p⟩, h2, p2⟩ fun h' tk hk _ => I.turnedL (ch := [N + 4, N + 2, N + 3, N, N + 1]) (fun c o hb q => hk c o (fun z => hb (by
      have e : c = N + 4 ∨ c = N + 3 ∨ c = N ∨ c = N + 1 := by simpa using z
      rcases e with q | q | q | q <;> (rw [q]; simp))) q) hf
  self := fun A i s Q E st h => wpAny_pyIter_zip st.1 h
def JEnum (K : PySem.W.Frag) (t : Bool) (a : Addr) : It :=
  ⟨fun i H => ∃ (xs : List V) (x : V), SqX K H t a xs ∧ xs[i]? = some x,
   fun i H v H' => ∃ T x, v = .ref T ∧ H T = none ∧ H' = upd H T (.tup [.int (i : Nat), x]) ∧ ∀ xs, SqX K H t a xs → xs[i]? = some x,
   fun i H => ∃ xs : List V, SqX K H t a xs ∧ xs.length = i⟩
def EnumTn (t : Bool) (a : Addr) (N : Nat) (i : Nat) (h : Heap) : Prop := (∃ old, IsEnum h (N + 1) N ((0 : Int) + (i : Int)) old) ∧ ItX h t N a i
theorem turn_enumX {P : Program} {w : World} {K : PySem.W.Frag} {elts : List Expr} {kk : Nat} {tpos : Pos} {t : Bool} {a : Addr} {N : Nat} (la : a < N) :
    Turn P w K (.Tuple elts kk tpos) (JEnum K t a) [N + 1, N] (N + 1) (EnumTn t a N) where
  mem := by simp
  obj := fun i h st c hc => by
    obtain ⟨⟨old, he⟩, h1⟩ := st
    have e : c = N + 1 ∨ c = N := by simpa using hc
    rcases e with q | q
    · rw [q]; exact ⟨_, he, fun v q => nomatch q⟩
    · rw [q]; exact h1.obj
  keep := fun i h h' st k => by
    obtain ⟨⟨old, he⟩, h1⟩ := st
    exact ⟨⟨old, k _ (by simp) _ he⟩, h1.at fun o q => k N (by simp) o q⟩
  item := by
    intro X hP hw hK hc i pins s σ H E I hf st hg
    subst hP hw hK
    obtain ⟨xs, x, hqx, hx⟩ := hg
    obtain ⟨its, rv, p, _⟩ := hqx.has I
    obtain ⟨v1, hv1, r1⟩ := rv.get hx
    have hh : X.A.in1.handled = none := I.ok.hd hc
    have nf : N + 1 ∉ [N, a] := fun m => by
      rcases List.mem_cons.mp m with e | e
      · exact Nat.succ_ne_self N e
      · exact Nat.lt_irrefl a (Nat.lt_trans la ((List.mem_singleton.mp e) ▸ Nat.lt_succ_self N))
    have G := GoesN.enumFrom (prog := X.prog) (w := X.w) (A := X.A) (elts := elts) (x1 := kk) (pos := tpos) 0 (drawsX hh t N a (Nat.ne_of_lt la) its.toArray) (N + 1) (Nat.succ_ne_self N) nf (by simp)
    obtain ⟨⟨old, he⟩, h1⟩ := id st
    have l1 := (List.getElem?_eq_some_iff.mp hv1).1
    have liveX : ∀ c ∈ [N + 1, N], c < s.heap.objs.size := fun c hc => by
      have hN : N + 1 < s.heap.objs.size := Heap.lt_size he
      have e : c = N + 1 ∨ c = N := by simpa using hc
      omega
    refine turn_item (tn := EnumTn t a N) I hf liveX G (by simpa using l1) ⟨⟨old, he⟩, h1, p⟩ (fun c hc => hc) (fun h' _ st' => show EnumTn t a N (i + 1) h' from ⟨st'.1, st'.2.1⟩) fun v h' hY => ?_
    obtain ⟨T, tt, c1, rfl, hT, e1, ht⟩ := hY
    have e1' : its[i]? = some c1 := by simpa using e1
    rw [hv1] at e1'
    cases e1'
    rw [Int.zero_add] at ht
    exact ⟨T, [.int (i : Nat), x], #[.int (i : Nat) tt, v1], rfl, hT, ht, .cons ⟨tt, rfl⟩ (.cons r1 .nil), (show 2 ≤ sizeLine by rw [sizeLine_eq]; decide), T, x, rfl, I.hok.fresh hT, rfl, fun l hl => by rw [SqX.inj I hl hqx]; exact hx⟩
  done := by
    intro X hP hw hK hc i pins s σ H E I hf st hg
    subst hP hw hK
    obtain ⟨xs, hqx, hend⟩ := hg
    obtain ⟨its, rv, p, _⟩ := hqx.has I
    have hh : X.A.in1.handled = none := I.ok.hd hc
    have nf : N + 1 ∉ [N, a] := fun m => by
      rcases List.mem_cons.mp m with e | e
      · exact Nat.succ_ne_self N e
      · exact Nat.lt_irrefl a (Nat.lt_trans la ((List.mem_singleton.mp e) ▸ Nat.lt_succ_self N))
    have G := GoesN.enumFrom (prog := X.prog) (w := X.w) (A := X.A) (elts := elts) (x1 := kk) (pos := tpos) 0 (drawsX hh t N a (Nat.ne_of_lt la) its.toArray) (N + 1) (Nat.succ_ne_self N) nf (by simp)
    obtain ⟨⟨old, he⟩, h1⟩ := id st
    have l1 := rv.length
    have hn : its.toArray.size = i := by simp; omega
    rw [hn] at G
    exact G.stops s (fun s1 => Inv X pins σ H s1) E ⟨⟨old, he⟩, h1, p⟩ fun h' tk hk _ => I.turnedL (ch := [N + 1, N]) (fun c o hb q => hk c o hb q) hf
  self := fun A i s Q E st h => let ⟨⟨_, he⟩, _⟩ := st; wpAny_pyIter_enum he h
section
variable {X : Cx} {Γ : Ct} {W : WX}
def iZipG (K : PySem.W.Frag) (ta : TA) : TI := fun σ H R => ta σ H fun vs H1 => ∃ t u a b xs ys, vs = [.ref a, .ref b] ∧ SqX K H1 t a xs ∧ SqX K H1 u b ys ∧ R (JZip K t u a b) H1
theorem pi_zipG {e e2 : Expr} {ta : TA} {p pos tpos : Pos} {elts : List Expr} {kk : Nat} (hg : Gl X "zip") (hm : X.mg "zip" = none) (ha : PA X [e, e2] ta) (hs : starEach [e, e2] X.env = (false, eval e X.env) :: starEach [e2] X.env := by rfl) (hpl : (backTo pos (starEach [e2] X.env)).any (·.1) = false := by rfl) :
    PI X (.Tuple elts kk tpos) (.Call (.Name "zip" p) [e, e2] [] pos) (iZipG X.K ta) := by
  refine ⟨fun pins s σ H R I h => ?_⟩
  refine Call_ (ld_blt I hg hm boot_zip (callWith_type1 (thn (ha.run pos pins s σ H _ I h) fun us s1 ⟨vs, H1, I1, r1, q1⟩ => ?_) hs hpl))
  obtain ⟨t, u, a, b, xs, ys, rfl, hqx, hqy, q⟩ := q1
  obtain ⟨v, us', rfl, rfl⟩ : ∃ v us', us = v :: us' ∧ v = Value.ref a := by cases r1 with | cons r rr => exact ⟨_, _, rfl, r⟩
  obtain ⟨v', rfl, rfl⟩ : ∃ v', us' = [v'] ∧ v' = Value.ref b := by
    cases r1 with
    | cons r rr => cases rr with
      | cons r' rr' => cases rr'; exact ⟨_, rfl, r'⟩
  obtain ⟨its, rv, p1, la⟩ := hqx.has I1
  obtain ⟨its2, rv2, p2, lb⟩ := hqy.has I1
  refine zip_begins2 (beginsX t a its.toArray) (beginsX u b its2.toArray) p1 p2 fun h' hz hTI hTO h1 h2 _ hk => wpAny_pyIter_zip hz ?_
  have I2 : Inv X pins σ H1 { s1 with heap := h' } := I1.kept (t' := s1.toks) hk
  refine ⟨_, [s1.heap.objs.size + 4, s1.heap.objs.size + 2, s1.heap.objs.size + 3, s1.heap.objs.size, s1.heap.objs.size + 1], _, _, H1, rfl, I2, turn_zipX la lb, ⟨hz, hTI, ⟨_, _, hTO⟩, ?_, ?_⟩, fun c hc => ?_, q⟩
  · unfold ItX
    cases t with
    | true => exact ⟨_, h1, rfl, rfl⟩
    | false => exact ⟨_, h1, rfl, rfl⟩
  · unfold ItX
    cases u with
    | true => exact ⟨_, h2, rfl, rfl⟩
    | false => exact ⟨_, h2, rfl, rfl⟩
  · have e' : c = s1.heap.objs.size + 4 ∨ c = s1.heap.objs.size + 2 ∨ c = s1.heap.objs.size + 3 ∨ c = s1.heap.objs.size ∨ c = s1.heap.objs.size + 1 := by simpa using hc
    have hle : s1.heap.objs.size ≤ c := by rcases e' with z | z | z | z | z <;> (rw [z]; first | exact Nat.le_refl _ | exact Nat.le_add_right _ _)
    exact I1.fpOk hle (I1.hok.fresh hle)
def zipD : List Dv → List Dv → List Dv
  | a :: r, b :: t => .tup [a, b] :: zipD r t
  | _, _ => []
theorem zipD_len : ∀ (l m : List Dv), (zipD l m).length = min l.length m.length
  | [], _ => by simp [zipD]
  | _ :: _, [] => by simp [zipD]
  | a :: r, b :: t => by simp [zipD, zipD_len r t]
theorem zipD_get : ∀ {l m : List Dv} {i : Nat} {w : Dv}, (zipD l m)[i]? = some w → ∃ x y, l[i]? = some x ∧ m[i]? = some y ∧ w = .tup [x, y]
  | [], _, _, _, h => by simp [zipD] at h
  | _ :: _, [], _, _, h => by simp [zipD] at h
  | a :: r, b :: t, 0, w, h => by simp [zipD] at h; exact ⟨a, b, rfl, rfl, h.symm⟩
  | a :: r, b :: t, i + 1, w, h => by
    have h' : (zipD r t)[i]? = some w := by simpa [zipD] using h
    obtain ⟨x, y, h1, h2, h3⟩ := zipD_get h'
    exact ⟨x, y, by simpa using h1, by simpa using h2, h3⟩
/-- a plain sequence, not of the store -/
def plainOf : Dv → Option (Bool × List Dv)
  | .tup ws => some (true, ws)
  | .lst ws => some (false, ws)
  | .sq ws => some (false, ws)
  | _ => none
theorem plain_ok {H : Hp} {μ : Mu} {Z : Zs} {w : Dv} {v : V} {t : Bool} {ws : List Dv} (r : RV Γ H μ Z w v) (e : plainOf w = some (t, ws)) : ∃ a xs, v = .ref a ∧ RVs Γ H μ Z ws xs ∧ ∀ H' μ', EvoZ Z H μ H' μ' → SqX Γ.K H' t a xs := by
  cases w with
  | tup us =>
    cases e
    obtain ⟨a, xs, h1, h2, h3⟩ := r
    exact ⟨a, xs, h1, h3, fun H' μ' ev => (h2.monoZ ev).sq⟩
  | sq us =>
    cases e
    obtain ⟨a, xs, h1, h2, h3⟩ := r
    exact ⟨a, xs, h1, h3, fun H' μ' ev => (h2.monoZ ev).sq⟩
  | lst us =>
    cases e
    obtain ⟨a, xs, h1, h2, h3, h4⟩ := r
    exact ⟨a, xs, h1, h4, fun H' μ' ev => SqL.of (ev.keep _ _ h2 h3.1 h3.2)⟩
  | _ => cases e
def iZip2 (fa : FA) : FI := fun ρ s => (fa ρ s).bind fun ws s1 => match ws with
  | [x, y] => match plainOf x, plainOf y with
    | some (_, a), some (_, b) => .ok { ws := zipD a b } s1
    | _, _ => .no
  | _ => .no
theorem mi_zip {e e2 : Expr} {fa : FA} {p pos tpos : Pos} {elts : List Expr} {kk : Nat} (hK : Γ.K = X.K) (hg : Gl X "zip") (hm : X.mg "zip" = none) (ha : MA X Γ W [e, e2] fa) (hs : starEach [e, e2] X.env = (false, eval e X.env) :: starEach [e2] X.env := by rfl) (hpl : (backTo pos (starEach [e2] X.env)).any (·.1) = false := by rfl) :
    MI X Γ W (.Tuple elts kk tpos) (.Call (.Name "zip" p) [e, e2] [] pos) (iZip2 fa) :=
  PI.imp (pi_zipG hg hm ha hs hpl) fun σ H Q ⟨μ, Z, ρ, s, hE, hR, q⟩ => iA hE hR q fun ws s1 vs H1 μ1 e1 E1 R1 r1 q1 => by
    split at q1
    · rename_i x y
      split at q1
      · rename_i t a u b qx qy
        obtain ⟨v, v', rfl, rx, ry⟩ := two r1
        obtain ⟨pa, xs, rfl, r2, k2⟩ := plain_ok rx qx
        obtain ⟨pb, ys, rfl, r3, k3⟩ := plain_ok ry qy
        rw [← hK]
        refine ⟨t, u, pa, pb, xs, ys, rfl, k2 _ _ Evo.refl.z, k3 _ _ Evo.refl.z, q1 _ _ _ .refl R1 fun H' μ' Z' s' ev hR' hy hz _ => ⟨⟨xs, ys, k2 _ _ ev, k3 _ _ ev, by rw [zipD_len, r2.len, r3.len]⟩, fun i w hi => ?_⟩⟩
        obtain ⟨x', y', g1, g2, rfl⟩ := zipD_get hi
        obtain ⟨ux, h1, h2⟩ := r2.get g1
        obtain ⟨uy, h3, h4⟩ := r3.get g2
        refine ⟨⟨xs, ys, ux, uy, k2 _ _ ev, k3 _ _ ev, h1, h3⟩, fun z H'' hq => ?_⟩
        obtain ⟨T, zx, zy, rfl, hT, rfl, j1, j2⟩ := hq
        have e3 := j1 xs (k2 _ _ ev)
        have e4 := j2 ys (k3 _ _ ev)
        rw [h1] at e3
        rw [h3] at e4
        cases e3
        cases e4
        exact ⟨Evo.laid hT, hR'.laid hT, new_tup hR' hT (RVs.cons ((RV.strong hz _ h2).monoZ (ev.more hy)) (RVs.cons ((RV.strong hz _ h4).monoZ (ev.more hy)) RVs.nil))⟩
      · exact q1.elim
    · exact q1.elim
def iEnumG (K : PySem.W.Frag) (ta : TA) : TI := fun σ H R => ta σ H fun vs H1 => ∃ t a xs, vs = [.ref a] ∧ SqX K H1 t a xs ∧ R (JEnum K t a) H1
def enumD : Nat → List Dv → List Dv
  | _, [] => []
  | n, a :: r => .tup [.int (n : Nat), a] :: enumD (n + 1) r
theorem enumD_len : ∀ (n : Nat) (l : List Dv), (enumD n l).length = l.length
  | _, [] => rfl
  | n, a :: r => by simp [enumD, enumD_len (n + 1) r]
theorem enumD_get : ∀ {l : List Dv} {n i : Nat} {w : Dv}, (enumD n l)[i]? = some w → ∃ x, l[i]? = some x ∧ w = .tup [.int ((n + i : Nat) : Int), x]
  | [], _, _, _, h => by simp [enumD] at h
  | a :: r, n, 0, w, h => by simp [enumD] at h; exact ⟨a, rfl, h.symm⟩
  | a :: r, n, i + 1, w, h => by
    have h' : (enumD (n + 1) r)[i]? = some w := by simpa [enumD] using h
    obtain ⟨x, h1, h2⟩ := enumD_get h'
    exact ⟨x, by simpa using h1, by rw [h2]; simp; omega⟩
def iEnum1 (fa : FA) : FI := fun ρ s => (fa ρ s).bind fun ws s1 => match ws with
  | [x] => match plainOf x with
    | some (_, a) => .ok { ws := enumD 0 a } s1
    | none => .no
  | _ => .no
end
end MP
set_option Elab.async false
set_option linter.all false
set_option maxRecDepth 100000
set_option maxHeartbeats 4000000
namespace MP
open PySem PySem.Spec PyProof.Rows L2
theorem enum_new {v : Value} {o : Obj} {Hh : Heap → Prop} (B : Begins v o Hh) : Meets (Builtin.«enumerate.__new__» ⟨[.type "enumerate", v], []⟩) (fun _ R s => Hh s.heap ∧
    R (.ok (.ret (.ref (s.heap.push o).objs.size))) { s with heap := (s.heap.push o).push { cls := .type "enumerate", data := .fields #[.none, .bool false, .ref s.heap.objs.size, rawInt 0, .none, .none] } }) :=
  .of_wp fun prog w A R s h => by
    obtain ⟨hp, g, d, tk, os⟩ := s
    obtain ⟨h1, h⟩ := h
    have hsub := sub_enumerate
    have it : ∀ {A' : Around} {E Q : Value → Shared → Prop}, Q (.ref hp.objs.size) ⟨hp.push o, g, d, tk, os⟩ → wpAny (model prog w) A' (pyIter v) Q E ⟨hp, g, d, tk, os⟩ := fun q => B.iter prog w _ _ ⟨hp, g, d, tk, os⟩ _ h1 q
    wp_walk using it
    refine wpAny_stack_any fun st => wpAny_pure ?_
    split
    · rename_i c _ _ _ _ _
      cases (c == Value.type "enumerate") <;> (wp_walk using it; exact ⟨_, rfl, h⟩)
    · wp_walk using it
      exact ⟨_, rfl, h⟩
section
variable {prog : Program} {w : World} {A : Around} {E : Value → Shared → Prop} {s : Shared}
theorem enum_call {v : Value} {o : Obj} {Hh : Heap → Prop} {Q : Value → Shared → Prop} (B : Begins v o Hh) (h1 : Hh s.heap)
    (h : ∀ h', IsEnum h' (s.heap.objs.size + 1) s.heap.objs.size 0 .none → h'.get? s.heap.objs.size = some o → (∀ b o, s.heap.get? b = some o → h'.get? b = some o) → Q (.ref (s.heap.objs.size + 1)) { s with heap := h' }) :
    wpAny (model prog w) A (call (.type "enumerate") [v]) Q E s := by
  refine callType_new F.called_enumerate (by decide) (F.typeCall_enumerate_1 _) (F.newCall_enumerate_1 _) (fun obj => F.args_object_init_2 obj _) F.entry_enumerate_new (enum_new B) ⟨h1, ?_⟩
  have sz : (s.heap.push o).objs.size = s.heap.objs.size + 1 := Heap.size_push ..
  show _ ∧ _
  rw [sz]
  have e := Heap.get?_push_size (s.heap.push o) (o := { cls := .type "enumerate", data := .fields #[.none, .bool false, .ref s.heap.objs.size, rawInt 0, .none, .none] }) rfl
  rw [sz] at e
  exact ⟨⟨_, e, rfl⟩, h _ e (Heap.get?_push_of_some _ (Heap.get?_push_size _ B.free)) fun b o x => Heap.get?_push_of_some _ (Heap.get?_push_of_some _ x)⟩
end
section
variable {X : Cx} {Γ : Ct} {W : WX}
theorem pi_enumG {e : Expr} {ta : TA} {p pos tpos : Pos} {elts : List Expr} {kk : Nat} (hg : Gl X "enumerate") (hm : X.mg "enumerate" = none) (ha : PA X [e] ta) (hs : starEach [e] X.env = [(false, eval e X.env)] := by rfl) :
    PI X (.Tuple elts kk tpos) (.Call (.Name "enumerate" p) [e] [] pos) (iEnumG X.K ta) := by
  refine ⟨fun pins s σ H R I h => ?_⟩
  refine Call_ (ld_blt I hg hm boot_enumerate (callWith_type1 (thn (ha.run pos pins s σ H _ I h) fun us s1 ⟨vs, H1, I1, r1, q1⟩ => ?_) hs rfl))
  obtain ⟨t, a, xs, rfl, hqx, q⟩ := q1
  obtain ⟨v, rfl, rfl⟩ : ∃ v, us = [v] ∧ v = Value.ref a := by
    cases r1 with
    | cons r rr => cases rr; exact ⟨_, rfl, r⟩
  obtain ⟨its, rv, p1, la⟩ := hqx.has I1
  refine enum_call (beginsX t a its.toArray) p1 fun h' he h1 hk => wpAny_pyIter_enum he ?_
  have I2 : Inv X pins σ H1 { s1 with heap := h' } := I1.kept (t' := s1.toks) hk
  refine ⟨_, [s1.heap.objs.size + 1, s1.heap.objs.size], _, _, H1, rfl, I2, turn_enumX la, ⟨⟨.none, he⟩, ?_⟩, fun c hc => ?_, q⟩
  · unfold ItX
    cases t with
    | true => exact ⟨_, h1, rfl, rfl⟩
    | false => exact ⟨_, h1, rfl, rfl⟩
  · have e' : c = s1.heap.objs.size + 1 ∨ c = s1.heap.objs.size := by simpa using hc
    have hle : s1.heap.objs.size ≤ c := by rcases e' with z | z <;> (rw [z]; first | exact Nat.le_refl _ | exact Nat.le_add_right _ _)
    exact I1.fpOk hle (I1.hok.fresh hle)
theorem mi_enum {e : Expr} {fa : FA} {p pos tpos : Pos} {elts : List Expr} {kk : Nat} (hK : Γ.K = X.K) (hg : Gl X "enumerate") (hm : X.mg "enumerate" = none) (ha : MA X Γ W [e] fa) (hs : starEach [e] X.env = [(false, eval e X.env)] := by rfl) :
    MI X Γ W (.Tuple elts kk tpos) (.Call (.Name "enumerate" p) [e] [] pos) (iEnum1 fa) :=
  PI.imp (pi_enumG hg hm ha hs) fun σ H Q ⟨μ, Z, ρ, s, hE, hR, q⟩ => iA hE hR q fun ws s1 vs H1 μ1 e1 E1 R1 r1 q1 => by
    split at q1
    · rename_i x
      split at q1
      · rename_i t a qx
        obtain ⟨v, rfl, rx⟩ := one r1
        obtain ⟨pa, xs, rfl, r2, k2⟩ := plain_ok rx qx
        rw [← hK]
        refine ⟨t, pa, xs, rfl, k2 _ _ Evo.refl.z, q1 _ _ _ .refl R1 fun H' μ' Z' s' ev hR' hy hz _ => ⟨⟨xs, k2 _ _ ev, by rw [enumD_len, r2.len]⟩, fun i w hi => ?_⟩⟩
        obtain ⟨x', g1, rfl⟩ := enumD_get hi
        obtain ⟨ux, h1, h2⟩ := r2.get g1
        refine ⟨⟨xs, ux, k2 _ _ ev, h1⟩, fun z H'' hq => ?_⟩
        obtain ⟨T, zx, rfl, hT, rfl, j1⟩ := hq
        have e3 := j1 xs (k2 _ _ ev)
        rw [h1] at e3
        cases e3
        rw [Nat.zero_add]
        exact ⟨Evo.laid hT, hR'.laid hT, new_tup hR' hT (RVs.cons (w := .int (i : Nat)) rfl (RVs.cons ((RV.strong hz _ h2).monoZ (ev.more hy)) RVs.nil))⟩
      · exact q1.elim
    · exact q1.elim
def disp : Dv → Bool
  | .tup _ => true | .lst _ => true | .sq _ => true | .ref _ => true
  | _ => false
def reprD : ON := fun s xs => match xs with
  | [x] => if disp x = true then match toD s x with
      | some d => if d.showable = true ∧ d.hasDict = false ∧ d.depth ≤ 60 ∧ d.shown.length ≤ lim then some (.str d.shown) else none
      | none => none
    else none
  | _ => none
theorem sRepr (hK : Γ.K = X.K) : OpN Γ (rRepr X.K) reprD := fun H μ Z s xs w vs Q hR rx e k => by
  rw [← hK]
  unfold reprD at e
  split at e
  · rename_i x
    split at e
    · rename_i hd
      split at e
      · rename_i d q
        split at e
        · rename_i hc
          cases e
          obtain ⟨v, rfl, r1⟩ := one rx
          have hv : ∃ a, v = .ref a := by
            cases x with
            | tup _ => obtain ⟨a, _, h, _⟩ := r1; exact ⟨a, h⟩
            | lst _ => obtain ⟨a, _, h, _⟩ := r1; exact ⟨a, h⟩
            | sq _ => obtain ⟨a, _, h, _⟩ := r1; exact ⟨a, h⟩
            | ref _ => obtain ⟨a, h, _⟩ := r1; exact ⟨a, h⟩
            | _ => cases hd
          obtain ⟨a, rfl⟩ := hv
          exact ⟨_, a, d, rfl, rfl, toD_ok hR r1 q, hc.1, hc.2.1, hc.2.2.1, lim_ok hc.2.2.2, k _ H .refl hR rfl⟩
        · cases e
      · cases e
    · cases e
  · cases e
def mPairs : List (FE × FE) → Env → Sto → R (List (Dv × Dv))
  | [], _, s => .ok [] s
  | (f, g) :: r, ρ, s => (f ρ s).bind fun x s1 => (g ρ s1).bind fun y s2 => (mPairs r ρ s2).bind fun ps s3 => .ok ((x, y) :: ps) s3
def keysOf : List (Dv × Dv) → Option (List (Key × Dv))
  | [] => some []
  | (x, y) :: r => match keyOf x, keysOf r with
    | some k, some l => some ((k, y) :: l)
    | _, _ => none
def mDctM (ps : List (FE × FE)) : FE := fun ρ s => match mPairs ps ρ s with
  | .ok l s1 => match keysOf l with
    | some kws => if kws.length ≤ 15 then .ok (.ref s1.length) (s1 ++ [.dct (kws.foldl (fun acc kv => putD acc kv.1 kv.2) [])]) else .no
    | none => .no
  | _ => .no
theorem pairs_ok {Z : Zs} {σ : L2.St} {ρ : Env} : ∀ {ps : List (FE × FE)} {H : Hp} {μ : Mu} {s s' : Sto} {l : List (Dv × Dv)} {Q' : List (V × V) → Hp → Prop}, RE Γ H μ Z ρ σ → Rep Γ H μ Z s → mPairs ps ρ s = .ok l s' →
    (∀ vs H1 μ1, Evo H μ H1 μ1 → Rep Γ H1 μ1 Z s' → RVs Γ H1 μ1 Z (l.map (·.1)) (vs.map (·.1)) → RVs Γ H1 μ1 Z (l.map (·.2)) (vs.map (·.2)) → Q' vs H1) →
    tPairs (ps.map fun p => (rdE Γ W p.1, rdE Γ W p.2)) σ H Q'
  | [], H, μ, s, s', l, Q', hE, hR, q, hk => by
    cases q
    exact hk [] H μ .refl hR rfl rfl
  | (f, g) :: r, H, μ, s, s', l, Q', hE, hR, q, hk => by
    simp only [mPairs] at q
    cases e1 : f ρ s with
    | no => rw [e1] at q; cases q
    | er x s1 => rw [e1] at q; cases q
    | ok x s1 =>
      rw [e1] at q
      dsimp only [R.bind] at q
      cases e2 : g ρ s1 with
      | no => rw [e2] at q; cases q
      | er y s2 => rw [e2] at q; cases q
      | ok y s2 =>
        rw [e2] at q
        dsimp only at q
        cases e3 : mPairs r ρ s2 with
        | no => rw [e3] at q; cases q
        | er y s2 => rw [e3] at q; cases q
        | ok l' s3 =>
          rw [e3] at q
          cases q
          refine ⟨μ, Z, ρ, s, hE, hR, ?_⟩
          show PostE Γ W H μ Z σ _ (f ρ s)
          rw [e1]
          intro u H1 μ1 v1 R1 r1
          refine ⟨μ1, Z, ρ, s1, hE.mono v1, R1, ?_⟩
          show PostE Γ W H1 μ1 Z σ _ (g ρ s1)
          rw [e2]
          intro v H2 μ2 v2 R2 r2
          exact pairs_ok ((hE.mono v1).mono v2) R2 e3 fun vs H3 μ3 v3 R3 g1 g2 => hk ((u, v) :: vs) H3 μ3 ((v1.trans v2).trans v3) R3 (RVs.cons ((r1.mono v2).mono v3) g1) (RVs.cons (r2.mono v3) g2)
theorem keysOf_ok {H : Hp} {μ : Mu} {Z : Zs} : ∀ {l : List (Dv × Dv)} {vs : List (V × V)} {kws : List (Key × Dv)}, RVs Γ H μ Z (l.map (·.1)) (vs.map (·.1)) → RVs Γ H μ Z (l.map (·.2)) (vs.map (·.2)) → keysOf l = some kws →
    ∃ kvs : List (Key × V), vs = kvs.map (fun kv => (kV kv.1, kv.2)) ∧ kvs.map (·.1) = kws.map (·.1) ∧ RVs Γ H μ Z (kws.map (·.2)) (kvs.map (·.2))
  | [], vs, _, h1, _, e => by
    cases e
    cases vs with
    | nil => exact ⟨[], rfl, rfl, rfl⟩
    | cons _ _ => cases h1
  | (x, y) :: l, vs, kws, h1, h2, e => by
    cases vs with
    | nil => obtain ⟨_, _, z, _⟩ := h1; cases z
    | cons p vs =>
      obtain ⟨u, us, z1, r1, r2⟩ := h1
      obtain ⟨v, ws, z2, r3, r4⟩ := h2
      obtain ⟨a1, a2⟩ := List.cons.inj z1
      obtain ⟨b1, b2⟩ := List.cons.inj z2
      simp only [keysOf] at e
      split at e
      · rename_i k l' e1 e2
        cases e
        obtain ⟨kvs, c1, c2, c3⟩ := keysOf_ok (a2 ▸ r2) (b2 ▸ r4) e2
        refine ⟨(k, v) :: kvs, ?_, by rw [List.map_cons, List.map_cons, c2], RVs.cons r3 c3⟩
        rw [List.map_cons, ← c1]
        have p1 : p.1 = u := a1
        have p2 : p.2 = v := b1
        show p :: vs = (kV k, v) :: vs
        rw [← keyOf_ok r1 e1, ← p1, ← p2]
      · cases e
theorem merge_ok {H : Hp} {μ : Mu} {Z : Zs} : ∀ {kws acc : List (Key × Dv)} {kvs bcc : List (Key × V)}, kvs.map (·.1) = kws.map (·.1) → RVs Γ H μ Z (kws.map (·.2)) (kvs.map (·.2)) → bcc.map (·.1) = acc.map (·.1) → RVs Γ H μ Z (acc.map (·.2)) (bcc.map (·.2)) →
    (mergeK bcc kvs).map (·.1) = (kws.foldl (fun acc kv => putD acc kv.1 kv.2) acc).map (·.1) ∧ RVs Γ H μ Z ((kws.foldl (fun acc kv => putD acc kv.1 kv.2) acc).map (·.2)) ((mergeK bcc kvs).map (·.2))
  | [], acc, kvs, bcc, h1, _, h3, h4 => by
    cases kvs with
    | nil => exact ⟨h3, h4⟩
    | cons _ _ => cases h1
  | p :: kws, acc, kvs, bcc, h1, h2, h3, h4 => by
    cases kvs with
    | nil => cases h1
    | cons q kvs =>
      obtain ⟨a1, a2⟩ := List.cons.inj h1
      obtain ⟨v, vs, z, r1, r2⟩ := h2
      obtain ⟨b1, b2⟩ := List.cons.inj z
      subst b1
      have a1' : q.1 = p.1 := a1
      obtain ⟨c1, c2⟩ := putD_ok (k := p.1) r1 h3 h4
      have := merge_ok (kws := kws) (acc := putD acc p.1 p.2) (kvs := kvs) (bcc := putK bcc p.1 q.2) a2 (b2 ▸ r2) c1 c2
      show (mergeK (putK bcc q.1 q.2) kvs).map (·.1) = _ ∧ RVs Γ H μ Z _ ((mergeK (putK bcc q.1 q.2) kvs).map (·.2))
      rw [a1']
      exact this
theorem ext_fz {μ : Mu} {Z : Zs} {n : Nat} {p a : Addr} (f : Fz μ (hid p Z) a) : Fz (MP.ext μ n p) Z a := ⟨fun m h => by
  unfold MP.ext at h
  split at h
  · cases h; exact f.2 (.inl rfl)
  · exact f.1 m h, fun z => f.2 (.inr z)⟩
theorem ext_mu {μ : Mu} {n m : Nat} {p a : Addr} (hn : μ n = none) (h : μ m = some a) : MP.ext μ n p m = some a := by
  unfold MP.ext
  rw [if_neg fun z => by rw [z, hn] at h; cases h]
  exact h
mutual
theorem RV.adopt {H : Hp} {μ : Mu} {Z : Zs} {n : Nat} {p : Addr} (hn : μ n = none) : ∀ (w : Dv) {v : V}, RV Γ H μ (hid p Z) w v → RV Γ H (MP.ext μ n p) Z w v
  | .non, _, q => q
  | .bl _, _, q => q
  | .int _, _, q => q
  | .str _, _, q => q
  | .ty _, _, q => q
  | .cl _, _, q => q
  | .ref n, _, q => by
    obtain ⟨a, h1, h2⟩ := q
    exact ⟨a, h1, ext_mu hn h2⟩
  | .tup ws, _, q => by
    obtain ⟨a, xs, h1, h2, h3⟩ := q
    exact ⟨a, xs, h1, h2.elim (fun z => .inl ⟨z.1, ext_fz z.2⟩) .inr, RVs.adopt hn ws h3⟩
  | .sq ws, _, q => by
    obtain ⟨a, xs, h1, h2, h3⟩ := q
    exact ⟨a, xs, h1, h2.elim (fun z => .inl ⟨z.1, ext_fz z.2⟩) .inr, RVs.adopt hn ws h3⟩
  | .lst ws, _, q => by
    obtain ⟨a, xs, h1, h2, h3, h4⟩ := q
    exact ⟨a, xs, h1, h2, ext_fz h3, RVs.adopt hn ws h4⟩
  | .dct ks ws, _, q => by
    obtain ⟨a, kvs, h1, h2, h3, h4, h5⟩ := q
    exact ⟨a, kvs, h1, h2, ext_fz h3, h4, RVs.adopt hn ws h5⟩
  | .exc c f w, _, q => by
    obtain ⟨a, dx, x, h1, h2, h3, h4, h5, h6⟩ := q
    exact ⟨a, dx, x, h1, h2, ext_fz h3, h4, ext_fz h5, RV.adopt hn w h6⟩
  | .exn c, _, q => by
    obtain ⟨a, h1, h2, h3⟩ := q
    exact ⟨a, h1, h2, ext_fz h3⟩
  | .clo a c _ ws vs, _, q => by
    obtain ⟨h1, h2, h3, h4⟩ := q
    exact ⟨h1, h2, ext_fz h3, RVs.adopt hn ws h4⟩
theorem RVs.adopt {H : Hp} {μ : Mu} {Z : Zs} {n : Nat} {p : Addr} (hn : μ n = none) : ∀ (ws : List Dv) {vs : List V}, RVs Γ H μ (hid p Z) ws vs → RVs Γ H (MP.ext μ n p) Z ws vs
  | [], _, q => q
  | w :: ws, _, q => by
    obtain ⟨x, xs, h1, h2, h3⟩ := q
    exact ⟨x, xs, h1, RV.adopt hn w h2, RVs.adopt hn ws h3⟩
end
theorem RO.adopt {H : Hp} {μ : Mu} {Z : Zs} {n : Nat} {p a : Addr} {ob : Ob} (hn : μ n = none) (r : RO Γ H μ (hid p Z) a ob) : RO Γ H (MP.ext μ n p) Z a ob := by
  cases ob with
  | lst ws =>
    obtain ⟨xs, h4, h5⟩ := r
    exact ⟨xs, h4, h5.adopt hn⟩
  | dct kws =>
    obtain ⟨kvs, h4, h5, h6⟩ := r
    exact ⟨kvs, h4, h5, h6.adopt hn⟩
  | obj c fs =>
    obtain ⟨dx, kvs, h4, h5, h6⟩ := r
    exact ⟨dx, kvs, h4, h5, h6.adopt hn⟩
  | tab m q => exact ⟨r.1, tab_imp rfl (fun c e1 e2 => ⟨e1, ext_fz e2⟩) r.2⟩
/-- what was hidden becomes an object of the store -/
theorem Rep.adoptO {H : Hp} {μ : Mu} {Z : Zs} {s : Sto} {D : Addr} {ob : Ob} (R : Rep Γ H μ (hid D Z) s) (hz : ¬ Z D) (ro : RO Γ H μ (hid D Z) D ob) : Rep Γ H (MP.ext μ s.length D) Z (s ++ [ob]) := by
  have nm := R.mu_new
  have noD : ∀ {m : Nat} {a : Addr}, μ m = some a → a ≠ D := fun h e => R.notZ h (.inl e)
  refine ⟨fun n o' q => ?_, fun n m a h1 h2 => ?_, fun n a h => ?_, fun a z => R.za a (.inr z)⟩
  · by_cases hn : n = s.length
    · subst hn
      rw [List.getElem?_append_right (Nat.le_refl _)] at q
      simp at q
      subst q
      exact ⟨D, by unfold MP.ext; rw [if_pos rfl], hz, ro.adopt nm⟩
    · have hl : n < s.length := by
        have := (List.getElem?_eq_some_iff.mp q).1
        rw [List.length_append, List.length_singleton] at this
        omega
      rw [List.getElem?_append_left hl] at q
      obtain ⟨a, h1, h2, h3⟩ := R.at n o' q
      exact ⟨a, ext_mu nm h1, fun z => h2 (.inr z), h3.adopt nm⟩
  · unfold MP.ext at h1 h2
    split at h1 <;> split at h2
    · rename_i e1 e2; rw [e1, e2]
    · cases h1; exact absurd rfl (noD h2)
    · cases h2; exact absurd rfl (noD h1)
    · exact R.inj _ _ _ h1 h2
  · unfold MP.ext at h
    rw [List.length_append, List.length_singleton]
    split at h
    · omega
    · have := R.dom _ _ h
      omega
theorem Evo.adopt {H H1 : Hp} {μ μ1 : Mu} {n : Nat} {p : Addr} (e : Evo H μ H1 μ1) (hp : H p = none) (hn : μ1 n = none) : Evo H μ H1 (MP.ext μ1 n p) :=
  ⟨e.keep, fun m a h => ext_mu hn (e.mu m a h), fun m a h => by
    unfold MP.ext at h
    split at h
    · cases h; exact .inr hp
    · exact e.new m a h, e.stay⟩
theorem me_dctM {pos : Pos} {keys : List (Option Expr)} {values : List Expr} {ps : List (FE × FE)} (h : PPs X pos keys values (ps.map fun p => (rdE Γ W p.1, rdE Γ W p.2))) (hall : keys.all (·.isSome) = true) (hl : keys.length = values.length) (h0 : keys ≠ []) (h15 : keys.length ≤ 15) :
    ME X Γ W (.Dict keys values pos) (mDctM ps) :=
  PE.imp (pe_disp h hall hl h0 h15) fun σ H Q ⟨μ, Z, ρ, s, hE, hR, q⟩ p hp => by
    unfold mDctM at q
    cases e : mPairs ps ρ s with
    | no => rw [e] at q; exact q.elim
    | er x s1 => rw [e] at q; exact q.elim
    | ok l s1 =>
      rw [e] at q
      dsimp only at q
      split at q
      · rename_i kws ek
        split at q
        · rename_i h15'
          refine pairs_ok (hE.hide hp) (hR.hide hp) e fun vs H1 μ1 ev R1 g1 g2 => ?_
          obtain ⟨kvs, c1, c2, c3⟩ := keysOf_ok g1 g2 ek
          have hH : H1 p = some (.dK []) := ev.keep p _ upd_same fun n hn => hR.alive hn hp
          refine ⟨hH, kvs, c1, by rw [map_len c2]; exact h15', ?_⟩
          obtain ⟨d1, d2⟩ := merge_ok (Γ := Γ) (H := upd H1 p (.dK (mergeK [] kvs))) (μ := μ1) (Z := hid p Z) (acc := []) (bcc := []) c2 (RVs.updZ _ c3) rfl rfl
          have R2 : Rep Γ (upd H1 p (.dK (mergeK [] kvs))) μ1 (hid p Z) s1 := R1.updZ
          have nz : ¬ Z p := fun z => hR.za p z hp
          have e0 : Evo H μ (upd H1 p (.dK (mergeK [] kvs))) μ1 := ((Evo.laid hp).trans ev).hid hp
          exact q (.ref p) _ _ (e0.adopt hp R1.mu_new) (R2.adoptO nz ⟨_, upd_same, d1, d2⟩) ⟨p, rfl, by unfold MP.ext; rw [if_pos rfl]⟩
        · exact q.elim
      · exact q.elim
end
end MP
set_option Elab.async false
set_option linter.all false
set_option maxRecDepth 100000
set_option maxHeartbeats 4000000
namespace MP
open PySem PySem.Spec PyProof.Rows L2
section
variable {X : Cx} {Γ : Ct} {W : WX} {a b c e : Expr} {f g h h' : FE} {pos : Pos} {x y : Str} {i j : Nat}
/-- a < b < c as a test -/
theorem mt_chain {op op' : CmpOp} {r r' : R2} {o o' : O2} (ho : OpR X (compareOp op) r) (ho' : OpR X (compareOp op') r') (hs : Op2 Γ r o) (hs' : Op2 Γ r' o') (hm : lastMarks [op, op'] [b, c] = false)
    (ha : ME X Γ W a f) (hb : ME X Γ W b g) (hc : ME X Γ W c h') : MT X Γ W (.Compare a [op, op'] [b, c] pos) (mTest (mChain o o' f g h')) := by
  have key : ∀ σ H (Q : VK), rdE Γ W (mChain o o' f g h') σ H Q → tChain r r' (rdE Γ W f) (rdE Γ W g) (rdE Γ W h') σ H Q := fun σ H Q ⟨μ, Z, ρ, s, hE, hR, q⟩ => eE hE hR q fun x s1 u H1 μ1 e1 hE1 R1 r1 q1 => eE hE1 R1 q1 fun y s2 v H2 μ2 e2 hE2 R2 r2 q2 => by
    cases hw : o s2 x y with
    | none => rw [hw] at q2; exact q2.elim
    | some w =>
      rw [hw] at q2
      refine hs H2 μ2 Z s2 x y w u v _ R2 (r1.mono e2) r2 hw fun z H3 e3 R3 r3 => ?_
      cases w with
      | bl k =>
        refine ⟨k, r3, ?_⟩
        cases k with
        | true =>
          rw [if_pos rfl]
          exact eE (hE2.mono e3) R3 (PostE.evo e3 q2) fun z' s3 v3 H4 μ4 e4 hE4 R4 r4 q4 => by
            obtain ⟨w', hw', k'⟩ := ofE q4
            exact hs' H4 μ4 Z s3 y z' w' v v3 Q R4 ((r2.mono e3).mono e4) r4 hw' k'
        | false =>
          rw [if_neg Bool.false_ne_true]
          exact okE R3 (w := .bl false) rfl (PostE.evo e3 q2)
      | _ => exact q2.elim
  refine PT.imp (pt_chain ho ho' ha hb hc hm) fun σ H Q ⟨μ, Z, ρ, s, hE, hR, q⟩ => key σ H _ ?_
  refine ⟨μ, Z, ρ, s, hE, hR, ?_⟩
  have q' : PostT Γ W H μ Z σ Q ((mChain o o' f g h' ρ s).bind fun x s1 => match x with
      | .bl b => .ok b s1
      | _ => .no) := q
  revert q'
  cases mChain o o' f g h' ρ s with
  | ok w s1 =>
    intro q' v H' μ' ev R' rv
    cases w with
    | bl b => exact ⟨b, rv, okT R' (PostT.evo ev q')⟩
    | _ => exact q'.elim
  | er x s1 => exact id
  | no => exact id
def mPar (i j : Nat) (fa : FA) : FS := fun ρ s => (fa ρ s).thenC ρ fun ws s1 => match ws with
  | [v, w] => .nx ((ρ.set i (some v)).set j (some w)) s1
  | _ => .no
theorem ms_par {px py pt : Pos} {kt k2 pt2} {fa : FA} (hc : X.calm = true) (hN : X.N.Nodup) (hi : X.N[i]? = some x) (hj : X.N[j]? = some y) (hij : i ≠ j)
    (hx : X.env.scope.names.lookup x = some .local) (hy : X.env.scope.names.lookup y = some .local) (ha : MA X Γ W [a, b] fa)
    (hw : swappedStores [.Tuple [.Name x px, .Name y py] kt pt] (.Tuple [a, b] k2 pt2) X.env = pure (some [x, y]))
    (hs : swapsWithSole [.Tuple [.Name x px, .Name y py] kt pt] (.Tuple [a, b] k2 pt2) pos.line X.env = pure false := by rfl) :
    MS X Γ W (.Assign [.Tuple [.Name x px, .Name y py] kt pt] (.Tuple [a, b] k2 pt2) pos) (mPar i j fa) :=
  PS.imp (ps_par hc hN hi hj hij hx hy ha hw hs) fun D σ H ⟨μ, Z, ρ, s, hE, hR, q⟩ => aS hE hR q fun ws s1 vs H1 μ1 ev E1 R1 r1 q1 => by
    match ws, q1, r1 with
    | [v, w], q1, r1 =>
      obtain ⟨x1, xs, rfl, ra, rb⟩ := r1
      obtain ⟨x2, xs, rfl, rb, rfl⟩ := rb
      exact ⟨x1, x2, rfl, q1 _ H1 μ1 .refl R1 ((E1.set i ra).set j rb)⟩
    | [], q1, _ => exact q1.elim
    | [_], q1, _ => exact q1.elim
    | _ :: _ :: _ :: _, q1, _ => exact q1.elim
def mStuck : FS := fun _ _ => .no
theorem ms_stuck {st : Stmt} : MS X Γ W st mStuck := PS.imp ps_never fun D σ H ⟨μ, Z, ρ, s, hE, hR, q⟩ => q.elim
theorem tk0 {X : Cx} : Takes X W0 := fun u s' ⟨_, _, _, _, _, _, _, _, _, _, _, _, _, _, _, _, w⟩ => w.elim
theorem me_globJ {x : Str} {i : Int} {pos : Pos} (hg : Gl X x) (hm : ∃ t, X.mg x = some (.int i t)) (hd : (x == ("__debug__" : Str)) = false := by decide) : ME X Γ W (.Name x pos) (mK (.int i)) := by
  obtain ⟨t, h⟩ := hm
  exact me_globI hg h hd
theorem go_name {i : Nat} : GOk Γ (gName i) (gN i) := fun H μ Z ρ ρ' s σ w v Q hE hR r e k => by
  cases e
  exact k _ (hE.set i r)
theorem ms_set {i : Nat} {x : Str} {pos' : Pos} (hN : X.N.Nodup) (hi : X.N[i]? = some x) (hx : Loc X.env.scope x) (he : ME X Γ W e f) (hs : swapsWith e (some (.Name x pos')) pos.line X.env = pure false := by rfl) (hf : X.fn x = true ∨ X.env.scope.names.lookup x = some .local := by first | exact .inl rfl | exact .inr rfl | assumption) :
    MS X Γ W (.Assign [.Name x pos'] e pos) (mAsg f (gN i)) := ms_asg (ps_set hN hi hx he hs hf) go_name
theorem mgs_cons' {tg : Expr} {tgs : List Expr} {g : TG} {gs : TGs} {fg : FG} {fgs : List Dv → Env → Sto → Option Env} (h1 : MG X Γ tg g fg) (h2 : MGs X Γ tgs gs fgs)
    (hs : (assignEach (tg :: tgs) X.env).map (·.2) = assign tg X.env :: (assignEach tgs X.env).map (·.2) := by rfl) : MGs X Γ (tg :: tgs) (gCons g gs) (gsC fg fgs) := mgs_cons h1 h2 (pgs_cons h1.1 h2.1 hs)
theorem mg_tup' {tgs : List Expr} {kk n : Nat} {gs : TGs} {fgs : List Dv → Env → Sto → Option Env} (hK : Γ.K = X.K) (hc : X.calm = true) (h : MGs X Γ tgs gs fgs)
    (hn : (assignEach tgs X.env).length = n := by rfl) (hst : (assignEach tgs X.env).findIdx? (·.1) = none := by rfl) : MG X Γ (.Tuple tgs kk pos) (gTup X.K n gs) (gT n fgs) := mg_tup hK.symm (pg_tup hc h.1 hn hst) h.2
theorem ms_setT {tg e : Expr} {g : TG} {fg : FG} (he : ME X Γ W e f) (hg : MG X Γ tg g fg) (hs : swapsWithSole [tg] e pos.line X.env = pure false := by rfl) (hw : swappedStores [tg] e X.env = pure none := by rfl)
    (h1 : (assignEach [tg] X.env).map (·.2) = [assign tg X.env] := by rfl) : MS X Γ W (.Assign [tg] e pos) (mAsg f fg) := ms_asg (ps_asg he hg.1 hs hw h1) hg.2
def FA.Len (fa : FA) (n : Nat) : Prop := ∀ ρ s ws s', fa ρ s = .ok ws s' → ws.length = n
theorem len_nil : FA.Len mNil 0 := fun ρ s ws s' q => by cases q; rfl
theorem len_cons {fa : FA} {n : Nat} (q : fa.Len n) : FA.Len (mCons f fa) (n + 1) := fun ρ s ws s' p => by
  unfold mCons at p
  cases h1 : f ρ s with
  | ok w s1 =>
    rw [h1] at p
    have p2 : (fa ρ s1).bind (fun xs s2 => R.ok (w :: xs) s2) = .ok ws s' := p
    cases h2 : fa ρ s1 with
    | ok xs s2 =>
      rw [h2] at p2
      cases p2
      rw [List.length_cons, q ρ s1 xs _ h2]
    | er z s2 => rw [h2] at p2; cases p2
    | no => rw [h2] at p2; cases p2
  | er z s1 => rw [h1] at p; cases p
  | no => rw [h1] at p; cases p
end
/-- what a call of x must know -/
def Cal (P : Program) (w : World) (mg : Str → Option Value) (base : Heap) (Γ : Ct) (k : Nat) (x : Str) (ps : List Str) (den : Fn) : Prop :=
  ∃ (f : Addr) (fd : FuncData), FnG P w mg base Γ k f fd ps den ∧ mg x = some (.ref f) ∧ PySem.W.keepIn Γ.K (.ref f) = true ∧ Binds Γ.K fd ps []
section
variable {X : Cx} {Γ : Ct} {W : WX} {k k' : Nat} {ps : List Str} {den : Fn} {x : Str} {p pos : Pos} {e : Expr} {es : List Expr} {fa : FA}
theorem me_cal (C : Cal X.prog X.w X.mg X.base Γ k x ps den) (hK : Γ.K = X.K) (hr : Room k X.A) (hg : X.A.guards = some []) (tk : Takes X W) (hgl : Gl X x) (ha : MA X Γ W (e :: es) fa) (n : Nat) (hl : FA.Len fa n) (hn : n = ps.length) (hnl : (e :: es).length = n) (hdb : (x == ("__debug__" : Str)) = false := by decide)
    (he : starEach (e :: es) X.env = (false, eval e X.env) :: starEach es X.env := by rfl) (hpl : (backTo pos (starEach es X.env)).any (·.1) = false := by rfl) :
    ME X Γ W (.Call (.Name x p) (e :: es) [] pos) (mCall den fa) := by
  obtain ⟨f, fd, F, hm, hk, hb⟩ := C
  have := me_call (ds := []) (dvs := []) (dws := []) (pos := pos) (p := p) F hK hr hg hgl hm (hK ▸ hk) (hK ▸ hb) .nil (fun _ _ _ => rfl) n (by simpa using hn) hnl tk ha hl hdb he hpl
  have e1 : mCall (fun ws => den (ws ++ [])) fa = mCall den fa := by
    congr 1
    funext ws
    rw [List.append_nil]
  rwa [e1] at this
end
end MP
set_option Elab.async false
set_option linter.all false
set_option maxRecDepth 100000
set_option maxHeartbeats 4000000
namespace MP
open PySem PySem.Spec PyProof.Rows L2
abbrev bare : Obj := seqObj "list" #[] 0
abbrev grown (h : Heap) (vs : List Value) : Heap := (h.push bare).update h.objs.size (Obj.mapSeq (· ++ vs.toArray))
section
variable {P : Program} {w : World} {A : Around} {E : Value → Shared → Prop} {s : Shared} {t : Addr} {vs : List Value}
theorem gather_tup {Q : List Value → Shared → Prop} (ht : IsTup s.heap t vs.toArray) (hz : vs.length ≤ sizeLine) (h : Q vs { s with heap := grown s.heap vs }) : wpAny (model P w) A (collect (.ref t)) Q E s := by
  obtain ⟨o, e1, e2, n, e3⟩ := id ht
  have m1 : (s.heap.push bare).get? s.heap.objs.size = some bare := Heap.get?_push_size _ rfl
  have m2 : (s.heap.push bare).get? t = some o := Heap.get?_push_of_some _ e1
  unfold collect
  apply wpAny_bind
  apply wpAny_runValue
  apply codeAny_builtin entry_proto_collect'
  apply wpAny_bind
  apply wpAny_newList (h := ?_) (Nat.zero_le _)
  refine wpAny_pure ⟨Code.quiet_builtin _ (by decide +kernel), codeAny_builtin entry_list_iadd' ?_⟩
  show wpAny _ _ (Builtin.List.listExtendWith _ _ _) _ _ _
  unfold Builtin.List.listExtendWith
  apply wpAny_bind
  refine wpAny_typeOf (T := "tuple") ⟨o, m2, e2⟩ ?_
  have tt : (Value.type "tuple" == Value.type "tuple") = true := by rfl
  rw [if_pos (by rw [tt, Bool.or_true])]
  apply wpAny_bind
  apply listItems_at m2 e3
  apply wpAny_bind
  apply listItems_at (xs := #[]) (n := 0) m1 rfl
  rw [if_neg (fun z => by simp at z)]
  apply wpAny_bind
  refine listUpdate_at (xs := #[]) (n := 0) m1 rfl (wpAny_pure ?_) (Nat.zero_le _) (by simp only [Array.size_append, List.size_toArray, List.length_nil]; omega)
  dsimp only
  apply wpAny_bind
  refine wpAny_load (get?_update_seq m1 _) ?_
  refine wpAny_pure (cast ?_ h)
  congr 1
  simp
theorem sorted_tup {lt : Value → Value → Bool} {Q : Value → Shared → Prop} (O : SrtO.Swo lt) (ht : IsTup s.heap t vs.toArray) (hz : vs.length ≤ sizeLine)
    (hS : 2 ≤ vs.length → ∀ (h1 : Heap) (a : Addr), SrtO.SortableO P w A.in1.in1 { s with heap := h1 } a vs lt)
    (h : ∀ out : List Value, SrtO.Srtd lt out → SrtO.Stb lt out vs → Q (.ref (s.heap.objs.size + 1)) { s with heap := sortedAll s.heap vs out.toArray }) :
    wpAny (model P w) A (call (.builtin "sorted") [.ref t]) Q E s := by
  apply Calls.call_function_entry kind_sorted plain_sorted entry_sorted (args_sorted1 _)
  unfold Builtin.«sorted»
  apply wpAny_bind (m := checkCount "sorted" 1 1 _)
  apply wpAny_pure
  apply wpAny_bind
  apply gather_tup ht hz
  apply wpAny_bind
  refine wpAny_newList ?_ hz
  have n1 : (grown s.heap vs).objs.size = s.heap.objs.size + 1 := (Heap.size_update _ _ _).trans (size_push' _ _)
  dsimp only
  rw [n1]
  have n2 : ((grown s.heap vs).push (seqObj "list" vs.toArray 0)).get? (s.heap.objs.size + 1) = some (seqObj "list" vs.toArray 0) := n1 ▸ Heap.get?_push_size _ rfl
  apply wpAny_bind
  apply wpAny_holding
  refine wpAny_call_entry slot_list_sort ⟨_, n2, rfl⟩ entry_list_sort ?_ (args_list_sort _)
  exact SrtO.list_sort_ord O n2 hz (fun h2 => hS h2 _ _) fun out a b => ⟨_, rfl, wpAny_pure ⟨_, rfl, h out a b⟩⟩
end
section
variable {X : Cx} {Γ : Ct}
def rSortedTI (K : PySem.W.Frag) : List V → Hp → VK → Prop := fun vs H Q => ∃ (a : Addr) (ns : List Int), vs = [V.ref a] ∧ SqT K H a (ns.map V.int) ∧
  ∀ (ms : List Int) (p : Addr), ms.Perm ns → ms.Pairwise (· ≤ ·) → H p = none → Q (.ref p) (upd H p (.lst (ms.map V.int)))
theorem cr_sortedTI : CallR X (.builtin "sorted") (rSortedTI X.K) := by
  intro pins s σ H vs us Q I r h
  obtain ⟨a, ns, rfl, ht, q⟩ := h
  obtain ⟨its, rv, it, hz⟩ := I.tuple ht
  rw [Vals.ref1 r]
  have ia := rv.ints
  have hz' : its.length ≤ sizeLine := by rw [← rv.length]; exact hz
  refine sorted_tup SrtO.swo_int it hz' (fun h2 _ _ => SrtO.ints_sortable ia h2) fun out h1 h2 => ?_
  obtain ⟨k1, k2, k3⟩ := SrtO.ints_out ia h1 h2
  obtain ⟨ep, at1⟩ := sortedAll_at s.heap its out.toArray
  have hl : ((out.map SrtO.iv).map V.int).length ≤ sizeLine := by
    rw [List.length_map] at hz ⊢
    rwa [k2.length_eq]
  refine ⟨.ref _, upd H (s.heap.objs.size + 1) (.lst ((out.map SrtO.iv).map V.int)), I.laid (t' := s.toks) (fun _ _ e => sortedAll_old e) (Nat.le_succ _) ?_, rfl, q _ _ k2 k3 (I.hok.fresh (Nat.le_succ _))⟩
  exact ⟨hl, out, ep, vals_of_ints k1, at1⟩
theorem IsTup.isTuple {h : Heap} {a : Addr} {xs : Array Value} (x : IsTup h a xs) : h.IsTuple a xs := by
  obtain ⟨o, e1, e2, n, e3⟩ := x
  exact ⟨o, e1, e2, n, e3⟩
theorem cr_sumT (hc : X.calm = true) : CallR X (.builtin "sum") (fun vs H Q => ∃ (a : Addr) (ns : List Int), vs = [V.ref a] ∧ SqT X.K H a (ns.map V.int) ∧ Q (.int ns.sum) H) := by
  intro pins s σ H vs us Q I r h
  obtain ⟨a, ns, rfl, ht, q⟩ := h
  obtain ⟨its, rv, it, hz⟩ := I.tuple ht
  rw [Vals.ref1 r]
  obtain ⟨xs, e⟩ := rv.ints.allInts.items
  have hn : numsOf (intItems xs).toList = ns := by rw [← e]; exact rv.ints.numsOf
  rw [nums_intItems] at hn
  rw [e] at it
  refine PySem.call_sum_walkG ?_
  have tu := IsTup.isTuple it
  obtain ⟨_, e0, _⟩ := id tu
  have lt := Heap.lt_size e0
  refine wpAny_pyIter_tuple tu ⟨s.heap.objs.size, _, _, _, _, _, numAt xs, rfl, Walks.tuple (A := X.A.in1) (I.ok.hd hc) _ a (Nat.ne_of_lt lt) (intItems xs), ⟨⟨_, Heap.get?_push_size _ rfl, rfl, rfl⟩, tu.push _⟩, fun b hb => ?_, fun _ _ => intItems_at, fun h' tk t' hk => ?_⟩
  · have : (s.heap.push { cls := .type "tuple_iterator", data := .fields #[.ref a, .int 0 0] }).objs.size = s.heap.objs.size + 1 := Heap.size_push _ _
    dsimp only
    rw [this]
    rcases List.mem_cons.mp hb with rfl | hb
    · exact Nat.lt_succ_self _
    · rw [List.mem_singleton.mp hb]; exact Nat.lt_succ_of_lt lt
  · refine ⟨.int _, H, I.kept (t' := tk) (h' := h') fun b o eb => hk b o (fun z => ?_) (Heap.get?_push_of_some _ eb), ⟨_, rfl⟩, ?_⟩
    · rw [List.mem_singleton.mp z] at eb
      exact Nat.lt_irrefl _ (Heap.lt_size eb)
    · have hs : (intItems xs).size = xs.size := by simp [intItems]
      rw [hs, preSum_eq, List.take_of_length_le (by simp), hn]
      exact q
def orN (o o' : ON) : ON := fun s xs => match o s xs with
  | some w => some w
  | none => o' s xs
def sortTD : ON := fun _ xs => match xs with
  | [.tup ws] => (intsOf ws).map fun ns => .lst ((srt ns).map .int)
  | _ => none
def sumTD : ON := fun _ xs => match xs with
  | [.tup ws] => (intsOf ws).map fun ns => .int ns.sum
  | _ => none
def sortedA : ON := orN sortedD sortTD
def sumA : ON := orN sumD sumTD
theorem sSortT (hK : Γ.K = X.K) : OpN Γ (rSortedTI X.K) sortTD := fun H μ Z s xs w vs Q hR rx e k => by
  rw [← hK]
  unfold sortTD at e
  split at e
  · rename_i ws
    cases q2 : intsOf ws with
    | none => rw [q2] at e; cases e
    | some ns =>
      rw [q2] at e
      cases e
      obtain ⟨v, rfl, a, ys, rfl, h2, h3⟩ := one rx
      rw [intsOf_ok q2] at h3
      have h4 := h3.ints
      subst h4
      refine ⟨a, ns, rfl, h2.sq, fun ms p hp hs hn => ?_⟩
      rw [srt_uniq hp hs]
      exact k _ _ (Evo.laid hn) (hR.laid hn) (new_lst hR hn (RVs.of_ints _))
  · cases e
theorem sSumT (hK : Γ.K = X.K) : OpN Γ (fun vs H Q => ∃ (a : Addr) (ns : List Int), vs = [V.ref a] ∧ SqT X.K H a (ns.map V.int) ∧ Q (.int ns.sum) H) sumTD := fun H μ Z s xs w vs Q hR rx e k => by
  rw [← hK]
  unfold sumTD at e
  split at e
  · rename_i ws
    cases q2 : intsOf ws with
    | none => rw [q2] at e; cases e
    | some ns =>
      rw [q2] at e
      cases e
      obtain ⟨v, rfl, a, ys, rfl, h2, h3⟩ := one rx
      rw [intsOf_ok q2] at h3
      have h4 := h3.ints
      subst h4
      exact ⟨a, ns, rfl, h2.sq, k _ H .refl hR rfl⟩
  · cases e
theorem cr_sortedA : CallR X (.builtin "sorted") (fun x H Q => rSortedI X.K x H Q ∨ rSortedTI X.K x H Q) := CallR.or2 cr_sortedI cr_sortedTI
theorem sSortedA (hK : Γ.K = X.K) : OpN Γ (fun x H Q => rSortedI X.K x H Q ∨ rSortedTI X.K x H Q) sortedA := OpN.or (sSorted hK) (sSortT hK)
def rSumA (K : PySem.W.Frag) : List V → Hp → VK → Prop := fun x H Q => rSum K x H Q ∨ ∃ (a : Addr) (ns : List Int), x = [V.ref a] ∧ SqT K H a (ns.map V.int) ∧ Q (.int ns.sum) H
theorem cr_sumA (hc : X.calm = true) : CallR X (.builtin "sum") (rSumA X.K) := CallR.or2 (cr_sum hc) (cr_sumT hc)
theorem sSumA (hK : Γ.K = X.K) : OpN Γ (rSumA X.K) sumA := OpN.or (sSum hK) (sSumT hK)
end
end MP
set_option Elab.async false
set_option linter.all false
set_option maxRecDepth 100000
set_option maxHeartbeats 4000000
namespace MP
open PySem PySem.Spec PyProof.Rows L2
section
variable {α β : Type} {a : α} {s s1 s2 : Sto} {ρ : Env} {x : Ex} {w v : Dv} {f g h : FE} {t u : FT} {c c' : FS} {fa : FA} {b : Bool} {o o' : O2}
@[simp] theorem bind_ok {k : α → Sto → R β} : (R.ok a s).bind k = k a s := rfl
@[simp] theorem bind_er {k : α → Sto → R β} : (R.er x s : R α).bind k = .er x s := rfl
@[simp] theorem bind_no {k : α → Sto → R β} : (R.no : R α).bind k = .no := rfl
@[simp] theorem then_ok {k : α → Sto → C} : (R.ok a s).thenC ρ k = k a s := rfl
@[simp] theorem then_er {k : α → Sto → C} : (R.er x s : R α).thenC ρ k = .er x ρ s := rfl
@[simp] theorem then_no {k : α → Sto → C} : (R.no : R α).thenC ρ k = .no := rfl
@[simp] theorem of_some : R.of (some a) s = .ok a s := rfl
@[simp] theorem of_none : (R.of none s : R α) = .no := rfl
@[simp] theorem var_0 : mVar 0 (some w :: ρ) s = .ok w s := rfl
@[simp] theorem var_s {y : Option Dv} {i : Nat} : mVar (i + 1) (y :: ρ) s = mVar i ρ s := by unfold mVar; rw [List.getElem?_cons_succ]
@[simp] theorem k_ev : mK w ρ s = .ok w s := rfl
@[simp] theorem bin_ev : mBin o f g ρ s = (f ρ s).bind fun x s1 => (g ρ s1).bind fun y s2 => R.of (o s2 x y) s2 := rfl
@[simp] theorem un_ev {o : O1} : mUn o f ρ s = (f ρ s).bind fun x s1 => R.of (o s1 x) s1 := rfl
@[simp] theorem blt_ev {o : ON} : mBlt o fa ρ s = (fa ρ s).bind fun ws s1 => R.of (o s1 ws) s1 := rfl
@[simp] theorem call_ev {d : Fn} : mCall d fa ρ s = (fa ρ s).bind d := rfl
@[simp] theorem nil_ev : mNil ρ s = .ok [] s := rfl
@[simp] theorem cons_ev : mCons f fa ρ s = (f ρ s).bind fun x s1 => (fa ρ s1).bind fun xs s2 => .ok (x :: xs) s2 := rfl
def chainK (o : Option Dv) (s : Sto) (k : R Dv) : R Dv := match o with
  | some (.bl true) => k
  | some (.bl false) => .ok (.bl false) s
  | _ => .no
@[simp] theorem chainK_bl {k : R Dv} : chainK (some (.bl b)) s k = if b = true then k else .ok (.bl false) s := by cases b <;> rfl
@[simp] theorem chain_ev : mChain o o' f g h ρ s = (f ρ s).bind fun x s1 => (g ρ s1).bind fun y s2 => chainK (o s2 x y) s2 ((h ρ s2).bind fun z s3 => R.of (o' s3 y z) s3) := rfl
def andK (d : Dv) (s : Sto) (k : R Dv) : R Dv := match d with
  | .bl true => k
  | .bl false => .ok (.bl false) s
  | _ => .no
@[simp] theorem andK_bl {k : R Dv} : andK (.bl b) s k = if b = true then k else .ok (.bl false) s := by cases b <;> rfl
@[simp] theorem andV_ev : mAndV f g ρ s = (f ρ s).bind fun x s1 => andK x s1 (g ρ s1) := rfl
def orK (d : Dv) (s : Sto) (k : R Dv) : R Dv := match d with
  | .bl true => .ok (.bl true) s
  | .bl false => k
  | _ => .no
@[simp] theorem orK_bl {k : R Dv} : orK (.bl b) s k = if b = true then .ok (.bl true) s else k := by cases b <;> rfl
@[simp] theorem orV_ev : mOrV f g ρ s = (f ρ s).bind fun x s1 => orK x s1 (g ρ s1) := by
  unfold mOrV
  congr 1
  funext x s1
  cases x with
  | bl b => cases b <;> rfl
  | _ => rfl
def notK (d : Dv) (s : Sto) : R Dv := match d with
  | .bl b => .ok (.bl (!b)) s
  | _ => .no
@[simp] theorem notK_bl : notK (.bl b) s = .ok (.bl (!b)) s := rfl
@[simp] theorem notV_ev : mNotV f ρ s = (f ρ s).bind notK := rfl
def testK (d : Dv) (s : Sto) : R Bool := match d with
  | .bl b => .ok b s
  | _ => .no
@[simp] theorem testK_bl : testK (.bl b) s = .ok b s := rfl
@[simp] theorem test_ev : mTest f ρ s = (f ρ s).bind testK := rfl
@[simp] theorem and_ev : mAnd t u ρ s = (t ρ s).bind fun c s1 => if c = true then u ρ s1 else .ok false s1 := rfl
@[simp] theorem or_ev : mOr t u ρ s = (t ρ s).bind fun c s1 => if c = true then .ok true s1 else u ρ s1 := rfl
@[simp] theorem not_ev : mNot t ρ s = (t ρ s).bind fun c s1 => .ok (!c) s1 := rfl
@[simp] theorem if_ev : mIf t f g ρ s = (t ρ s).bind fun c s1 => if c = true then f ρ s1 else g ρ s1 := rfl
@[simp] theorem tup_ev : mTup fa ρ s = (fa ρ s).bind fun ws s1 => if ws.length ≤ lim then .ok (.tup ws) s1 else .no := rfl
@[simp] theorem lst_ev : mLst fa ρ s = (fa ρ s).bind fun ws s1 => if ws.length ≤ lim then .ok (.lst ws) s1 else .no := rfl
@[simp] theorem lstM_ev : mLstM fa ρ s = (fa ρ s).bind fun ws s1 => if ws.length ≤ lim then .ok (.ref s1.length) (s1 ++ [.lst ws]) else .no := rfl
/-- what follows -/
def seqK (c : C) (k : FS) : C := match c with
  | .nx ρ s => k ρ s
  | c => c
@[simp] theorem seqK_nx {k : FS} : seqK (.nx ρ s) k = k ρ s := rfl
@[simp] theorem seqK_rt {k : FS} : seqK (.rt w s) k = .rt w s := rfl
@[simp] theorem seqK_bk {k : FS} : seqK (.bk ρ s) k = .bk ρ s := rfl
@[simp] theorem seqK_ct {k : FS} : seqK (.ct ρ s) k = .ct ρ s := rfl
@[simp] theorem seqK_er {k : FS} : seqK (.er x ρ s) k = .er x ρ s := rfl
@[simp] theorem seqK_no {k : FS} : seqK .no k = .no := rfl
@[simp] theorem seq_ev : mSeq c c' ρ s = seqK (c ρ s) c' := by
  unfold mSeq seqK
  cases c ρ s <;> rfl
@[simp] theorem next_ev : mNext ρ s = .nx ρ s := rfl
@[simp] theorem break_ev : mBreak ρ s = .bk ρ s := rfl
@[simp] theorem ret_ev : mRet f ρ s = (f ρ s).thenC ρ fun w s1 => .rt w s1 := rfl
@[simp] theorem expr_ev : mExpr f ρ s = (f ρ s).thenC ρ fun _ s1 => .nx ρ s1 := rfl
@[simp] theorem ifS_ev : mIfS t c c' ρ s = (t ρ s).thenC ρ fun b s1 => if b = true then c ρ s1 else c' ρ s1 := rfl
@[simp] theorem asgN_ev {i : Nat} : mAsg f (gN i) ρ s = (f ρ s).thenC ρ fun w s1 => .nx (ρ.set i (some w)) s1 := rfl
@[simp] theorem par_ev {i j : Nat} : mPar i j (mCons f (mCons g mNil)) ρ s = (f ρ s).thenC ρ fun v s1 => (g ρ s1).thenC ρ fun w s2 => .nx ((ρ.set i (some v)).set j (some w)) s2 := by
  unfold mPar mCons mNil
  cases f ρ s with
  | ok v s1 =>
    simp only [bind_ok, then_ok]
    cases g ρ s1 <;> rfl
  | er _ _ => rfl
  | no => rfl
theorem finW_le {n : Nat} (hn : s.length ≤ n) : finW n w s = .ok w s := by unfold finW; rw [if_pos hn]
@[simp] theorem finC_rt : finC s.length (.rt w s) = .ok w s := finW_le (Nat.le_refl _)
@[simp] theorem finC_nx : finC s.length (.nx ρ s) = .ok .non s := finW_le (Nat.le_refl _)
@[simp] theorem den_ev {n : Nat} {d : FS} {ws : List Dv} : denOf n d ws s = finC s.length (d (startD n ws) s) := rfl
@[simp] theorem start_ev {n : Nat} {ws : List Dv} : startD n ws = ws.map some ++ List.replicate (n - ws.length) none := rfl
@[simp] theorem cmp_ev {p : Int → Int → Bool} {i j : Int} : cmpD p s (.int i) (.int j) = some (.bl (p i j)) := rfl
@[simp] theorem sub_ev {i j : Int} : subD s (.int i) (.int j) = some (.int (i - j)) := rfl
@[simp] theorem neg_ev {i : Int} : negD s (.int i) = some (.int (-i)) := rfl
@[simp] theorem isi_ii {i : Int} : isiD s [.int i, .ty "int"] = some (.bl true) := rfl
@[simp] theorem isi_ib {i : Int} : isiD s [.int i, .ty "bool"] = some (.bl false) := rfl
@[simp] theorem isi_tt {ws : List Dv} : isiD s [.tup ws, .ty "tuple"] = some (.bl true) := rfl
@[simp] theorem isi_it {i : Int} : isiD s [.int i, .ty "tuple"] = some (.bl false) := rfl
@[simp] theorem len_tup {ws : List Dv} : lenD s [.tup ws] = some (.int ws.length) := rfl
@[simp] theorem len_lst {ws : List Dv} : lenD s [.lst ws] = some (.int ws.length) := rfl
@[simp] theorem len_sq {ws : List Dv} : lenD s [.sq ws] = some (.int ws.length) := rfl
abbrev tI (ns : List Int) : Dv := .tup (ns.map .int)
abbrev lI (ns : List Int) : Dv := .lst (ns.map .int)
section
variable {s : Sto} {ns ms : List Int} {ρ : Env} {ws : List Dv} {i j : Int} {f : FE}
@[simp] theorem sorted_TI : sortedA s [.tup (ns.map .int)] = some (.lst ((srt ns).map .int)) := by
  show (match sortedD s [.tup (ns.map .int)] with | some w => some w | none => sortTD s [.tup (ns.map .int)]) = _
  rw [show sortedD s [.tup (ns.map .int)] = none from rfl]
  show (intsOf (ns.map .int)).map _ = _
  rw [intsOf_map]
  rfl
@[simp] theorem sorted_LI : sortedA s [.lst (ns.map .int)] = some (.lst ((srt ns).map .int)) := by
  have : sortedD s [.lst (ns.map .int)] = some (.lst ((srt ns).map .int)) := by
    show (intsOf (ns.map .int)).map _ = _
    rw [intsOf_map]
    rfl
  show (match sortedD s [.lst (ns.map .int)] with | some w => some w | none => sortTD s [.lst (ns.map .int)]) = _
  rw [this]
@[simp] theorem sum_LI : sumA s [.lst (ns.map .int)] = some (.int ns.sum) := by
  have : sumD s [.lst (ns.map .int)] = some (.int ns.sum) := by
    show (intsOf (ns.map .int)).map _ = _
    rw [intsOf_map]
    rfl
  show (match sumD s [.lst (ns.map .int)] with | some w => some w | none => sumTD s [.lst (ns.map .int)]) = _
  rw [this]
@[simp] theorem sum_TI : sumA s [.tup (ns.map .int)] = some (.int ns.sum) := by
  show (match sumD s [.tup (ns.map .int)] with | some w => some w | none => sumTD s [.tup (ns.map .int)]) = _
  rw [show sumD s [.tup (ns.map .int)] = none from rfl]
  show (intsOf (ns.map .int)).map _ = _
  rw [intsOf_map]
  rfl
@[simp] theorem sl_tup {lo hi : Option Int} : slA s (.tup ws) lo hi = some (.tup (cutD ws lo hi)) := rfl
@[simp] theorem sl_lst {lo hi : Option Int} : slA s (.lst ws) lo hi = some (.lst (cutD ws lo hi)) := rfl
theorem cut_last {k : Nat} (h : k ≤ ws.length) (h0 : 0 < k) : cutD ws (some (-(k : Int))) none = ws.drop (ws.length - k) := by
  unfold cutD
  rw [HT.sIx_none]
  have e : HT.sIx ws.length 0 (some (-(k : Int))) = ws.length - k := by
    show (if -(k : Int) < 0 then (-(k : Int) + (ws.length : Int)).toNat else min (-(k : Int)).toNat ws.length) = _
    rw [if_pos (by omega)]
    omega
  rw [e]
  exact List.take_of_length_le (by rw [List.length_drop]; omega)
theorem cut_to {k : Nat} : cutD ws none (some (k : Int)) = ws.take k := by
  unfold cutD
  rw [HT.sIx_none, HT.sIx_nat, Nat.sub_zero, List.drop_zero, ← List.take_take, List.take_length]
theorem cut_mid {a b : Nat} (ha : a ≤ ws.length) (hb : b ≤ ws.length) : cutD ws (some (a : Int)) (some (b : Int)) = (ws.drop a).take (b - a) := by
  unfold cutD
  rw [HT.sIx_nat, HT.sIx_nat, Nat.min_eq_left ha, Nat.min_eq_left hb]
@[simp] theorem part_ev : mPart f ρ s = (f ρ s).bind fun x s1 => match x with
  | .int i => .ok (some i) s1
  | _ => .no := rfl
@[simp] theorem nopart_ev : mNoPart ρ s = .ok none s := rfl
@[simp] theorem sl_ev {op : OS} {lo hi : FO} : mSl op f lo hi ρ s = (f ρ s).bind fun x s1 => (lo ρ s1).bind fun l s2 => (hi ρ s2).bind fun u s3 => R.of (op s3 x l u) s3 := rfl
@[simp] theorem add_ii : addD s (.int i) (.int j) = some (.int (i + j)) := rfl
theorem mul_ii (h : cm i j = true) : mulD s (.int i) (.int j) = some (.int (i * j)) := by
  show (if cm i j = true then _ else _) = _
  rw [if_pos h]
theorem cm_l (h : -(2 ^ 64) < i ∧ i < 2 ^ 64) : cm i j = true := decide_eq_true (.inl h)
theorem cm_r (h : -(2 ^ 64) < j ∧ j < 2 ^ 64) : cm i j = true := decide_eq_true (.inr h)
@[simp] theorem int_i : intD s [.int i] = some (.int i) := rfl
@[simp] theorem int_b {b : Bool} : intD s [.bl b] = some (.int (if b then 1 else 0)) := rfl
theorem range1_ok {fa : FA} {s1 : Sto} (h : fa ρ s = .ok [.int j] s1) (hj : okR j = true) : iRange1 fa ρ s = .ok { ws := rng 0 j.toNat } s1 := by
  unfold iRange1
  rw [h, bind_ok]
  exact if_pos hj
theorem range2_ok {fa : FA} {s1 : Sto} (h : fa ρ s = .ok [.int i, .int j] s1) (hi : okR i = true) (hj : okR j = true) : iRange2 fa ρ s = .ok { ws := rng i (j - i).toNat } s1 := by
  unfold iRange2
  rw [h, bind_ok]
  exact if_pos ⟨hi, hj⟩
theorem rng_ev {lo : Int} {n : Nat} : rng lo n = (List.range n).map fun i : Nat => Dv.int (lo + (i : Int)) := by unfold rng; rfl
theorem okR_s {i : Int} (h : -1000000 ≤ i) (h2 : i ≤ 1000000) : okR i = true := decide_eq_true ⟨by omega, by omega⟩
@[simp] theorem tuple_lst : tupleD s [.lst ws] = some (.tup ws) := rfl
@[simp] theorem tuple_tup : tupleD s [.tup ws] = some (.tup ws) := rfl
theorem ix_tup {k : Nat} {w : Dv} (h : ws[k]? = some w) : ixA s (.tup ws) (.int (k : Int)) = some w := by
  have e : ixT s (.tup ws) (.int (k : Int)) = some w := atI_nat h
  show (match (match ixL s (.tup ws) (.int (k : Int)) with | some w => some w | none => ixT s (.tup ws) (.int (k : Int))) with | some w => some w | none => ixD s (.tup ws) (.int (k : Int))) = _
  rw [show ixL s (.tup ws) (.int (k : Int)) = none from rfl, e]
theorem ix_lst {k : Nat} {w : Dv} (h : ws[k]? = some w) : ixA s (.lst ws) (.int (k : Int)) = some w := by
  have e : ixL s (.lst ws) (.int (k : Int)) = some w := atI_nat h
  show (match (match ixL s (.lst ws) (.int (k : Int)) with | some w => some w | none => ixT s (.lst ws) (.int (k : Int))) with | some w => some w | none => ixD s (.lst ws) (.int (k : Int))) = _
  rw [e]
theorem zip_ints : ∀ (ns ms : List Int), zipD (ns.map .int) (ms.map .int) = (ns.zip ms).map fun p => .tup [.int p.1, .int p.2]
  | [], _ => by simp [zipD]
  | _ :: _, [] => by simp [zipD]
  | a :: r, b :: t => by simp [zipD, zip_ints r t]
end
section
open Classical
variable {vs : List Nat} {g : FG} {tt : FT} {elt : FE} {ρ : Env} {s : Sto}
@[simp] theorem yes_ev : mYes ρ s = .ok true s := rfl
theorem compL_map {φ : Dv → Dv} : ∀ {xs : List Dv}, (∀ x ∈ xs, ∃ ρ1, g x (wipeD ρ vs) s = some ρ1 ∧ elt ρ1 s = .ok (φ x) s) → compL none vs g mYes elt ρ xs s = some (xs.map φ, s)
  | [], _ => by unfold compL; rw [if_pos (.inl rfl)]; rfl
  | x :: xs, h => by
    obtain ⟨ρ1, h1, h2⟩ := h x List.mem_cons_self
    unfold compL
    rw [if_pos (.inl rfl), h1]
    simp only [yes_ev, h2]
    rw [compL_map fun y hy => h y (List.mem_cons_of_mem _ hy)]
    rfl
theorem comp_mapA {α : Type} {f : FI} {l : List α} {e : α → Dv} (φ : α → Dv) (hf : f ρ s = .ok { ws := l.map e } s) (hl : l.length ≤ lim) (h : ∀ a ∈ l, ∃ ρ1, g (e a) (wipeD ρ vs) s = some ρ1 ∧ elt ρ1 s = .ok (φ a) s) : mComp f vs g mYes elt ρ s = .ok (.lst (l.map φ)) s := by
  have key : ∀ {l : List α}, (∀ a ∈ l, ∃ ρ1, g (e a) (wipeD ρ vs) s = some ρ1 ∧ elt ρ1 s = .ok (φ a) s) → compL none vs g mYes elt ρ (l.map e) s = some (l.map φ, s) := fun {l} => by
    induction l with
    | nil => intro _; rw [List.map_nil]; simp [compL]
    | cons a l ih =>
      intro h
      obtain ⟨ρ1, h1, h2⟩ := h a List.mem_cons_self
      rw [List.map_cons]
      unfold compL
      rw [if_pos (.inl rfl), h1]
      simp only [yes_ev, h2]
      rw [ih fun b hb => h b (List.mem_cons_of_mem _ hb)]
      rfl
  unfold mComp
  rw [hf, bind_ok]
  dsimp only
  rw [key h]
  dsimp only
  rw [if_pos (by rw [List.length_map]; exact hl)]
/-- a comprehension, turn by turn: J i acc stands when i turns are done -/
theorem compL_ix {xs : List Dv} (J : Nat → List Dv → Sto → Prop) (h : ∀ i x acc s, xs[i]? = some x → J i acc s → ∃ ρ1 y s2, g x (wipeD ρ vs) s = some ρ1 ∧ elt ρ1 s = .ok y s2 ∧ J (i + 1) (acc ++ [y]) s2) :
    ∀ {k : Nat} {ys acc : List Dv} {s : Sto}, ys = xs.drop k → k ≤ xs.length → J k acc s → ∃ zs s', compL none vs g mYes elt ρ ys s = some (zs, s') ∧ zs.length = ys.length ∧ J xs.length (acc ++ zs) s'
  | k, [], acc, s, e, hk, j => by
    have : k = xs.length := by
      have := congrArg List.length e
      rw [List.length_drop, List.length_nil] at this
      omega
    subst this
    exact ⟨[], s, by unfold compL; rw [if_pos (.inl rfl)], rfl, by rw [List.append_nil]; exact j⟩
  | k, x :: ys, acc, s, e, hk, j => by
    have hx : xs[k]? = some x := by
      have := congrArg (·[0]?) e
      simpa using this.symm
    have hy : ys = xs.drop (k + 1) := by
      have := congrArg List.tail e
      simpa using this
    have hlt : k < xs.length := (List.getElem?_eq_some_iff.mp hx).1
    obtain ⟨ρ1, y, s2, h1, h2, h3⟩ := h k x acc s hx j
    obtain ⟨zs, s', h4, h5, h6⟩ := compL_ix J h hy hlt h3
    refine ⟨y :: zs, s', ?_, by rw [List.length_cons, h5, List.length_cons], ?_⟩
    · unfold compL
      rw [if_pos (.inl rfl), h1]
      simp only [yes_ev, h2, h4]
      rfl
    · rw [List.append_assoc] at h6
      exact h6
theorem comp_ix {f : FI} {xs : List Dv} {s1 : Sto} (J : Nat → List Dv → Sto → Prop) (hf : f ρ s = .ok { ws := xs } s1) (hl : xs.length ≤ lim) (j : J 0 [] s1)
    (h : ∀ i x acc s, xs[i]? = some x → J i acc s → ∃ ρ1 y s2, g x (wipeD ρ vs) s = some ρ1 ∧ elt ρ1 s = .ok y s2 ∧ J (i + 1) (acc ++ [y]) s2) : ∃ zs s', mComp f vs g mYes elt ρ s = .ok (.lst zs) s' ∧ zs.length = xs.length ∧ J xs.length zs s' := by
  obtain ⟨zs, s', h1, h2, h3⟩ := compL_ix J h (k := 0) (ys := xs) (acc := []) rfl (Nat.zero_le _) j
  refine ⟨zs, s', ?_, h2, h3⟩
  unfold mComp
  rw [hf, bind_ok]
  dsimp only
  rw [h1]
  dsimp only
  rw [if_pos (by rw [h2]; exact hl)]
/-- a loop, turn by turn: J i stands when i turns are done -/
theorem forL_ix {body : FS} {xs : List Dv} (J : Nat → Env → Sto → Prop) (h : ∀ i x ρ s, xs[i]? = some x → J i ρ s → ∃ ρ1 ρ2 s2, g x ρ s = some ρ1 ∧ (body ρ1 s = .nx ρ2 s2 ∨ body ρ1 s = .ct ρ2 s2) ∧ J (i + 1) ρ2 s2) :
    ∀ {k : Nat} {ys : List Dv} {ρ : Env} {s : Sto}, ys = xs.drop k → k ≤ xs.length → J k ρ s → ∃ ρ' s', forL none g body ys ρ s = .nx ρ' s' ∧ J xs.length ρ' s'
  | k, [], ρ, s, e, hk, j => by
    have : k = xs.length := by
      have := congrArg List.length e
      rw [List.length_drop, List.length_nil] at this
      omega
    subst this
    exact ⟨ρ, s, by unfold forL; rw [if_pos (.inl rfl)], j⟩
  | k, x :: ys, ρ, s, e, hk, j => by
    have hx : xs[k]? = some x := by
      have := congrArg (·[0]?) e
      simpa using this.symm
    have hy : ys = xs.drop (k + 1) := by
      have := congrArg List.tail e
      simpa using this
    have hlt : k < xs.length := (List.getElem?_eq_some_iff.mp hx).1
    obtain ⟨ρ1, ρ2, s2, h1, h2, h3⟩ := h k x ρ s hx j
    obtain ⟨ρ', s', h4, h5⟩ := forL_ix J h hy hlt h3
    refine ⟨ρ', s', ?_, h5⟩
    unfold forL
    rw [if_pos (.inl rfl), h1]
    rcases h2 with h2 | h2 <;> (simp only [h2]; exact h4)
theorem for_ix {F : FI} {body : FS} {xs : List Dv} {s1 : Sto} (J : Nat → Env → Sto → Prop) (hF : F ρ s = .ok { ws := xs } s1) (j : J 0 ρ s1) (h : ∀ i x ρ s, xs[i]? = some x → J i ρ s → ∃ ρ1 ρ2 s2, g x ρ s = some ρ1 ∧ (body ρ1 s = .nx ρ2 s2 ∨ body ρ1 s = .ct ρ2 s2) ∧ J (i + 1) ρ2 s2) :
    ∃ ρ' s', mFor F g body ρ s = .nx ρ' s' ∧ J xs.length ρ' s' := by
  obtain ⟨ρ', s', h1, h2⟩ := forL_ix J h (k := 0) (ys := xs) rfl (Nat.zero_le _) j
  refine ⟨ρ', s', ?_, h2⟩
  unfold mFor
  rw [hF]
  exact h1
end
end
end MP
set_option Elab.async false
set_option linter.all false
set_option maxRecDepth 100000
set_option maxHeartbeats 400000
namespace MP
open PySem PySem.Spec PyProof.Rows L2
def dot (rs ls : List Int) : Int := ((rs.zip ls).map fun p => p.1 * p.2).sum
theorem dot_nil {ls : List Int} : dot [] ls = 0 := by simp [dot]
theorem dot_nil' : ∀ {rs : List Int}, dot rs [] = 0 := by intro rs; simp [dot]
theorem dot_cons {a b : Int} {rs ls : List Int} : dot (a :: rs) (b :: ls) = a * b + dot rs ls := by simp [dot]
def at1 (lev n : Int) : Int := if lev ≤ n then 1 else 0
theorem sum_map_mul {α : Type} (k : Int) (f : α → Int) : ∀ l : List α, (l.map fun a => k * f a).sum = k * (l.map f).sum
  | [] => by simp
  | a :: l => by simp [sum_map_mul k f l, Int.mul_add]
theorem sum_map_add {α : Type} (f g : α → Int) : ∀ l : List α, (l.map fun a => f a + g a).sum = (l.map f).sum + (l.map g).sum
  | [] => by simp
  | a :: l => by simp [sum_map_add f g l]; omega
theorem sum_zero {α : Type} : ∀ l : List α, (l.map fun _ => (0 : Int)).sum = 0
  | [] => rfl
  | _ :: l => by simp [sum_zero l]
/-- each result is what its levels tell; so is each sum of them -/
theorem dot_levels {L : List (Int × Int)} : ∀ {rs ls : List Int}, (∀ n ∈ ls, (L.map fun p => p.2 * at1 p.1 n).sum = n) → (L.map fun p => p.2 * dot rs (ls.map (at1 p.1))).sum = dot rs ls
  | [], ls, _ => by
    simp only [dot_nil, Int.mul_zero]
    exact sum_zero L
  | a :: rs, [], _ => by
    simp only [List.map_nil, dot_nil', Int.mul_zero]
    exact sum_zero L
  | a :: rs, b :: ls, h => by
    have ih := dot_levels (L := L) (rs := rs) (ls := ls) fun n hn => h n (List.mem_cons_of_mem _ hn)
    have hb := h b List.mem_cons_self
    simp only [List.map_cons, dot_cons]
    rw [show (fun p : Int × Int => p.2 * (a * at1 p.1 b + dot rs (ls.map (at1 p.1)))) = fun p => a * (p.2 * at1 p.1 b) + p.2 * dot rs (ls.map (at1 p.1)) from funext fun p => by rw [Int.mul_add, Int.mul_left_comm]]
    rw [sum_map_add, sum_map_mul, hb, ih]
theorem at1_mono {lev a b : Int} (h : a ≤ b) : at1 lev a ≤ at1 lev b := by unfold at1; split <;> split <;> omega
theorem srt_at1 (lev : Int) (ns : List Int) : srt (ns.map (at1 lev)) = (srt ns).map (at1 lev) := by
  refine (srt_uniq (l := ns.map (at1 lev)) ((srt_perm ns).map _) ?_).symm
  rw [List.pairwise_map]
  exact (srt_sorted ns).imp fun h => at1_mono h
def last (k : Nat) (ns : List Int) : List Int := ns.drop (ns.length - k)
def idx (rs ns : List Int) : Int := dot rs (srt (last rs.length ns))
end MP
namespace MP
end MP
set_option Elab.async false
set_option linter.all false
set_option maxRecDepth 100000
set_option maxHeartbeats 400000
namespace MP
open PySem PySem.Spec PyProof.Rows L2
/-- a thing of at most n parts, at most k deep -/
structure Pl (n k : Nat) (w : Dv) (d : PyData) : Prop where
  to : toD0 w = some d
  lay : d.canLay0 = true
  shw : d.showable = true
  nod : d.hasDict = false
  deep : d.depth ≤ k
  len : d.shown.length + 2 ≤ 2000 * n
structure Pls (n k : Nat) (ws : List Dv) (ds : List PyData) : Prop where
  to : toDs ws = some ds
  lay : PyData.canLayAll0 ds = true
  shw : PyData.showableAll ds = true
  nod : PyData.hasDictAll ds = false
  deep : PyData.depthAll ds ≤ k
  len : piled (PyData.shownAll ds) ≤ 2000 * n
def Sm (i : Int) : Prop := i.natAbs < 2 ^ 300
theorem Sm.of {i : Int} (h : -1000000000000 ≤ i) (h2 : i ≤ 1000000000000) : Sm i := by
  have h3 : i.natAbs ≤ 1000000000000 := by omega
  exact Nat.lt_of_le_of_lt h3 (Nat.lt_of_lt_of_le (by decide : 1000000000000 < 2 ^ 40) (Nat.pow_le_pow_right (by decide) (by decide)))
theorem Sm.log {i : Int} (h : Sm i) : i.natAbs.log2 < 1920 := by
  by_cases h0 : i.natAbs = 0
  · rw [h0]; decide
  · exact (Nat.log2_lt h0).mpr (Nat.lt_of_lt_of_le h (Nat.pow_le_pow_right (by decide) (by decide)))
variable {n m k j : Nat} {w : Dv} {d : PyData} {ws us : List Dv} {ds es : List PyData} {i : Int} {ns : List Int} {s : Sto}
theorem pl_int (h : Sm i) : Pl 1 0 (.int i) (.int i) where
  to := rfl
  lay := by simp only [PyData.canLay0]
  shw := by
    simp only [PyData.showable]
    exact decide_eq_true h.log
  nod := by simp only [PyData.hasDict]
  deep := by simp only [PyData.depth]; exact Nat.le_refl _
  len := by
    have := int_text_len_1921 h.log
    simp only [PyData.shown]
    exact Nat.le_trans (Nat.add_le_add_right this 2) (by decide)
theorem pls_nil : Pls 0 k [] [] where
  to := rfl
  lay := by simp only [PyData.canLayAll0]
  shw := by simp only [PyData.showableAll]
  nod := by simp only [PyData.hasDictAll]
  deep := by simp only [PyData.depthAll]; exact Nat.zero_le _
  len := by simp only [PyData.shownAll, piled_nil]; exact Nat.zero_le _
theorem pls_cons (h : Pl n k w d) (t : Pls m k ws ds) : Pls (n + m) k (w :: ws) (d :: ds) where
  to := by simp only [toDs, h.to, t.to]
  lay := by simp only [PyData.canLayAll0, h.lay, t.lay]; rfl
  shw := by simp only [PyData.showableAll, h.shw, t.shw]; rfl
  nod := by simp only [PyData.hasDictAll, h.nod, t.nod]; rfl
  deep := by simp only [PyData.depthAll]; exact Nat.max_le.mpr ⟨h.deep, t.deep⟩
  len := by
    have h1 := h.len
    have h2 := t.len
    simp only [PyData.shownAll, piled_cons]
    omega
theorem Pl.mono (h : Pl n k w d) (hn : n ≤ m) (hk : k ≤ j) : Pl m j w d := ⟨h.to, h.lay, h.shw, h.nod, Nat.le_trans h.deep hk, Nat.le_trans h.len (Nat.mul_le_mul_left _ hn)⟩
theorem Pls.mono (h : Pls n k ws ds) (hn : n ≤ m) (hk : k ≤ j) : Pls m j ws ds := ⟨h.to, h.lay, h.shw, h.nod, Nat.le_trans h.deep hk, Nat.le_trans h.len (Nat.mul_le_mul_left _ hn)⟩
theorem listText_len : ∀ ts : List Str, (listText ts).length ≤ piled ts + 2
  | [] => by decide
  | t :: r => by
    unfold listText
    rw [strLen_append]
    show (textFrom 1 (("[" : Str) ++ ("" : String) ++ t) r).length + 1 ≤ _
    rw [textFrom_length_pos _ _ _ (by decide), strLen_append, strLen_append, piled_cons]
    show 1 + 0 + t.length + piled r + 1 ≤ _
    omega
theorem tupleText_len (ts : List Str) : (tupleText ts).length ≤ piled ts + 3 := by
  unfold tupleText
  rw [strLen_append, strLen_append]
  have e1 : ((("(" : String) : Str)).length = 1 := rfl
  have e3 : (((if ts.length == 1 then ",)" else ")" : String) : Str)).length ≤ 2 := by split <;> decide
  rw [e1]
  by_cases h : ts = []
  · subst h
    show 1 + 0 + _ ≤ _
    omega
  · have := join_length_add ts h
    omega
theorem pl_lst (h : Pls n k ws ds) : Pl (n + 1) (k + 1) (.lst ws) (.list ds) where
  to := by simp only [toD0, h.to]; rfl
  lay := by simp only [PyData.canLay0, h.lay]
  shw := by simp only [PyData.showable, h.shw]
  nod := by simp only [PyData.hasDict, h.nod]
  deep := by simp only [PyData.depth]; exact Nat.succ_le_succ h.deep
  len := by
    have h1 := h.len
    have h2 := listText_len (PyData.shownAll ds)
    simp only [PyData.shown]
    omega
theorem pl_tup (h : Pls n k ws ds) : Pl (n + 1) (k + 1) (.tup ws) (.tuple ds) where
  to := by simp only [toD0, h.to]; rfl
  lay := by simp only [PyData.canLay0, h.lay]
  shw := by simp only [PyData.showable, h.shw]
  nod := by simp only [PyData.hasDict, h.nod]
  deep := by simp only [PyData.depth]; exact Nat.succ_le_succ h.deep
  len := by
    have h1 := h.len
    have h2 := tupleText_len (PyData.shownAll ds)
    simp only [PyData.shown]
    omega
theorem pls_ints : ∀ {ns : List Int}, (∀ i ∈ ns, Sm i) → Pls ns.length 0 (ns.map .int) (ns.map .int)
  | [], _ => pls_nil
  | a :: ns, h => by
    have := pls_cons (pl_int (h a List.mem_cons_self)) (pls_ints fun i hi => h i (List.mem_cons_of_mem _ hi))
    rw [Nat.add_comm] at this
    exact this
theorem pl_tI (h : ∀ i ∈ ns, Sm i) : Pl (ns.length + 1) 1 (tI ns) (.tuple (ns.map .int)) := pl_tup (pls_ints h)
theorem repr_pl (hd : disp w = true) (ht : toD s w = toD0 w) (h : Pl n k w d) (hn : n ≤ 8000) (hk : k ≤ 60) : reprD s [w] = some (.str d.shown) := by
  show (if disp w = true then match toD s w with
      | some d => if d.showable = true ∧ d.hasDict = false ∧ d.depth ≤ 60 ∧ d.shown.length ≤ lim then some (Dv.str d.shown) else none
      | none => none
    else none) = _
  rw [if_pos hd, ht, h.to]
  have h1 := h.len
  exact if_pos ⟨h.shw, h.nod, Nat.le_trans h.deep hk, by unfold lim; omega⟩
theorem repr_lst (h : Pl n k (.lst ws) d) (hn : n ≤ 8000) (hk : k ≤ 60) : reprD s [.lst ws] = some (.str d.shown) := repr_pl rfl rfl h hn hk
theorem repr_tup (h : Pl n k (.tup ws) d) (hn : n ≤ 8000) (hk : k ≤ 60) : reprD s [.tup ws] = some (.str d.shown) := repr_pl rfl rfl h hn hk
theorem eq_ss {a b : Str} : eqD s (.str a) (.str b) = some (.bl (decide (a = b))) := by
  have e : decide (V.str a = V.str b) = decide (a = b) := by
    by_cases h : a = b
    · rw [h, decide_eq_true rfl, decide_eq_true rfl]
    · rw [decide_eq_false h, decide_eq_false fun z => h (V.str.inj z)]
  show (some (decide (V.str a = V.str b))).map Dv.bl = _
  rw [e]
  rfl
theorem eq_refl_ss {a : Str} : eqD s (.str a) (.str a) = some (.bl true) := by rw [eq_ss, decide_eq_true rfl]
/-- ints of any size -/
theorem toDs_ints : ∀ ns : List Int, toDs (ns.map .int) = some (ns.map .int)
  | [] => rfl
  | a :: ns => by
    rw [List.map_cons]
    simp only [toDs, toD0, toDs_ints ns]
    rfl
theorem lay_ints : ∀ ns : List Int, PyData.canLayAll0 (ns.map .int) = true
  | [] => by simp only [List.map_nil, PyData.canLayAll0]
  | a :: ns => by simp only [List.map_cons, PyData.canLayAll0, PyData.canLay0, lay_ints ns]; rfl
theorem deep_ints : ∀ ns : List Int, PyData.depthAll (ns.map .int) = 0
  | [] => by simp only [List.map_nil, PyData.depthAll]
  | a :: ns => by simp only [List.map_cons, PyData.depthAll, PyData.depth, deep_ints ns]; rfl
theorem shaped_list_ints : SeqAt.shaped (.list (ns.map .int)) = true := by
  unfold SeqAt.shaped
  simp only [PyData.canLay0, lay_ints, PyData.depth, deep_ints]
  rfl
theorem eqv_ints : ∀ ns ms : List Int, PyData.eqvAll (ns.map .int) (ms.map .int) = decide (ns = ms)
  | [], [] => by simp [PyData.eqvAll]
  | [], _ :: _ => by simp [PyData.eqvAll]
  | _ :: _, [] => by simp [PyData.eqvAll]
  | a :: ns, b :: ms => by
    rw [List.map_cons, List.map_cons]
    simp only [PyData.eqvAll, PyData.eqv, eqv_ints ns ms]
    by_cases h : a = b <;> by_cases h2 : ns = ms <;> simp [h, h2]
theorem eqB_lI {ms : List Int} : eqB s (lI ns) (lI ms) = some (decide (ns = ms)) := by
  have e1 : toD s (lI ns) = some (.list (ns.map .int)) := by
    show (toDs (ns.map .int)).map PyData.list = _
    rw [toDs_ints]; rfl
  have e2 : toD s (lI ms) = some (.list (ms.map .int)) := by
    show (toDs (ms.map .int)).map PyData.list = _
    rw [toDs_ints]; rfl
  show (match toD s (lI ns), toD s (lI ms) with
    | some d, some e => if SeqAt.shaped d = true ∧ SeqAt.shaped e = true then some (PyData.eqv d e) else none
    | _, _ => none) = _
  rw [e1, e2]
  dsimp only
  rw [if_pos ⟨shaped_list_ints, shaped_list_ints⟩]
  simp only [PyData.eqv, eqv_ints]
theorem ne_lI {ms : List Int} : neD s (lI ns) (lI ms) = some (.bl (!decide (ns = ms))) := by
  unfold neD
  rw [eqB_lI]
  rfl
/-- the branch that is not taken -/
theorem ifS_f {t : FT} {c c' : FS} {ρ : Env} {s1 : Sto} (h : t ρ s = .ok false s1) : mIfS t c c' ρ s = c' ρ s1 := by
  rw [ifS_ev, h, then_ok, if_neg (by decide)]
theorem ifS_t {t : FT} {c c' : FS} {ρ : Env} {s1 : Sto} (h : t ρ s = .ok true s1) : mIfS t c c' ρ s = c ρ s1 := by
  rw [ifS_ev, h, then_ok, if_pos rfl]
theorem lst_v {fa : FA} {ρ : Env} {s1 : Sto} {ws : List Dv} (h : fa ρ s = .ok ws s1) (hl : ws.length ≤ 1000000) : mLst fa ρ s = .ok (.lst ws) s1 := by
  rw [lst_ev, h, bind_ok, if_pos (by unfold lim; omega)]
theorem tup_v {fa : FA} {ρ : Env} {s1 : Sto} {ws : List Dv} (h : fa ρ s = .ok ws s1) (hl : ws.length ≤ 1000000) : mTup fa ρ s = .ok (.tup ws) s1 := by
  rw [tup_ev, h, bind_ok, if_pos (by unfold lim; omega)]
theorem cons_v {f : FE} {fa : FA} {ρ : Env} {s1 s2 : Sto} {w : Dv} {ws : List Dv} (h : f ρ s = .ok w s1) (h2 : fa ρ s1 = .ok ws s2) : mCons f fa ρ s = .ok (w :: ws) s2 := by
  rw [cons_ev, h, bind_ok, h2, bind_ok]
theorem call_v {d : Fn} {fa : FA} {ρ : Env} {s1 : Sto} {ws : List Dv} {r : R Dv} (h : fa ρ s = .ok ws s1) (h2 : d ws s1 = r) : mCall d fa ρ s = r := by
  rw [call_ev, h, bind_ok, h2]
theorem bin_v {o : O2} {f g : FE} {ρ : Env} {s1 s2 : Sto} {x y z : Dv} (h : f ρ s = .ok x s1) (h2 : g ρ s1 = .ok y s2) (h3 : o s2 x y = some z) : mBin o f g ρ s = .ok z s2 := by
  rw [bin_ev, h, bind_ok, h2, bind_ok, h3, of_some]
theorem blt_v {o : ON} {fa : FA} {ρ : Env} {s1 : Sto} {ws : List Dv} {z : Dv} (h : fa ρ s = .ok ws s1) (h3 : o s1 ws = some z) : mBlt o fa ρ s = .ok z s1 := by
  rw [blt_ev, h, bind_ok, h3, of_some]
theorem asg_v {f : FE} {i : Nat} {ρ : Env} {s1 : Sto} {w : Dv} (h : f ρ s = .ok w s1) : mAsg f (gN i) ρ s = .nx (ρ.set i (some w)) s1 := by
  rw [asgN_ev, h, then_ok]
theorem ret_v {f : FE} {ρ : Env} {s1 : Sto} {w : Dv} (h : f ρ s = .ok w s1) : mRet f ρ s = .rt w s1 := by
  rw [ret_ev, h, then_ok]
theorem seq_nx {c c' : FS} {ρ ρ1 : Env} {s1 : Sto} {r : C} (h : c ρ s = .nx ρ1 s1) (h2 : c' ρ1 s1 = r) : mSeq c c' ρ s = r := by
  rw [seq_ev, h, seqK_nx, h2]
theorem seq_rt {c c' : FS} {ρ : Env} {s1 : Sto} {w : Dv} (h : c ρ s = .rt w s1) : mSeq c c' ρ s = .rt w s1 := by
  rw [seq_ev, h, seqK_rt]
theorem test_v {f : FE} {ρ : Env} {s1 : Sto} {b : Bool} (h : f ρ s = .ok (.bl b) s1) : mTest f ρ s = .ok b s1 := by
  rw [test_ev, h, bind_ok, testK_bl]
section
open Classical
variable {vs : List Nat} {g : FG} {tt : FT} {elt : FE} {ρ : Env}
/-- a comprehension with a test that changes nothing -/
theorem comp_filt {α : Type} {f : FI} {l : List α} {e : α → Dv} (φ : α → Dv) (t : α → Bool) (hf : f ρ s = .ok { ws := l.map e } s) (hl : l.length ≤ lim) (h : ∀ a ∈ l, ∃ ρ1, g (e a) (wipeD ρ vs) s = some ρ1 ∧ tt ρ1 s = .ok (t a) s ∧ (t a = true → elt ρ1 s = .ok (φ a) s)) : mComp f vs g tt elt ρ s = .ok (.lst ((l.filter t).map φ)) s := by
  have key : ∀ {l : List α}, (∀ a ∈ l, ∃ ρ1, g (e a) (wipeD ρ vs) s = some ρ1 ∧ tt ρ1 s = .ok (t a) s ∧ (t a = true → elt ρ1 s = .ok (φ a) s)) → compL none vs g tt elt ρ (l.map e) s = some ((l.filter t).map φ, s) := fun {l} => by
    induction l with
    | nil => intro _; rw [List.map_nil]; simp [compL]
    | cons a l ih =>
      intro h
      obtain ⟨ρ1, h1, h2, h3⟩ := h a List.mem_cons_self
      rw [List.map_cons]
      unfold compL
      rw [if_pos (.inl rfl), h1]
      simp only [h2]
      cases q : t a with
      | true =>
        rw [List.filter_cons_of_pos q]
        simp only [h3 q]
        rw [ih fun b hb => h b (List.mem_cons_of_mem _ hb)]
        rfl
      | false =>
        rw [List.filter_cons_of_neg (by rw [q]; decide)]
        exact ih fun b hb => h b (List.mem_cons_of_mem _ hb)
  unfold mComp
  rw [hf, bind_ok]
  dsimp only
  rw [key h]
  dsimp only
  rw [if_pos (by rw [List.length_map]; exact Nat.le_trans (List.length_filter_le _ _) hl)]
end
end MP
set_option Elab.async false
set_option linter.all false
set_option maxRecDepth 100000
set_option maxHeartbeats 4000000
namespace MP
open PySem PySem.Spec PyProof.Rows L2
def maxO (d : Int) : List Int → Int
  | [] => d
  | n :: ns => ns.foldl max n
theorem foldl_max_le : ∀ (ns : List Int) (n : Int), n ≤ ns.foldl max n ∧ ∀ m ∈ ns, m ≤ ns.foldl max n
  | [], n => ⟨Int.le_refl _, fun _ h => nomatch h⟩
  | a :: ns, n => by
    obtain ⟨h1, h2⟩ := foldl_max_le ns (max n a)
    refine ⟨Int.le_trans (by omega : n ≤ max n a) h1, fun m hm => ?_⟩
    rcases List.mem_cons.mp hm with rfl | hm
    · exact Int.le_trans (by omega : m ≤ max n m) h1
    · exact h2 m hm
theorem foldl_max_mem : ∀ (ns : List Int) (n : Int), ns.foldl max n ∈ n :: ns
  | [], n => List.mem_cons_self
  | a :: ns, n => by
    have := foldl_max_mem ns (max n a)
    show ns.foldl max (max n a) ∈ _
    rcases List.mem_cons.mp this with h | h
    · rw [h]
      by_cases q : n ≤ a
      · rw [show max n a = a by omega]; exact List.mem_cons_of_mem _ List.mem_cons_self
      · rw [show max n a = n by omega]; exact List.mem_cons_self
    · exact List.mem_cons_of_mem _ (List.mem_cons_of_mem _ h)
theorem maxO_uniq {d m : Int} {ns : List Int} (h : m ∈ ns) (h2 : ∀ y ∈ ns, y ≤ m) : m = maxO d ns := by
  cases ns with
  | nil => cases h
  | cons a ns =>
    have h3 := h2 _ (foldl_max_mem ns a)
    obtain ⟨h4, h5⟩ := foldl_max_le ns a
    show m = ns.foldl max a
    rcases List.mem_cons.mp h with rfl | h
    · omega
    · have := h5 m h; omega
section
variable {X : Cx} {Γ : Ct} {W : WX}
def rMaxDef (K : PySem.W.Frag) : List V → List V → Hp → VK → Prop := fun vs zs H Q => ∃ (a : Addr) (ns : List Int) (d : Int), vs = [V.ref a] ∧ zs = [V.int d] ∧ SqL K H a (ns.map V.int) ∧ Q (.int (maxO d ns)) H
theorem cr_maxDef (hc : X.calm = true) (hu : X.A.units + 64 < cLine) : CallRK X (.builtin "max") [Str.ofString "default"] (rMaxDef X.K) := by
  intro pins s σ H vs zs us ws Q I r rz h
  obtain ⟨a, ns, d, rfl, rfl, hs, q⟩ := h
  obtain ⟨its, rv, hl, _⟩ := I.list hs
  rw [Vals.ref1 r]
  obtain ⟨w1, rfl, e1⟩ := vals1 rz
  have hd : PyData.depthAll (ns.map .int) = 0 := deep_ints ns
  refine PySem.W.max_list_default (xs := ns.map .int) (I.ok.hd hc) hl.isList (IntsAre.reads _ rv.ints) ?_ (by rw [hd]; omega) (fun h0 h' tk hk => ?_) fun y ys i v h' tk bs hx hv hr hk => ?_
  · constructor
    · intro x hx y hy
      obtain ⟨i, _, rfl⟩ := List.mem_map.mp hx
      obtain ⟨j, _, rfl⟩ := List.mem_map.mp hy
      simp [PySem.W.alike]
    · intro x hx
      obtain ⟨i, _, rfl⟩ := List.mem_map.mp hx
      intro z; cases z
  · have : ns = [] := by simpa using h0
    subst this
    exact ⟨.int d, H, I.kept hk, e1, q⟩
  · cases ns with
    | nil => cases hx
    | cons n ns =>
      cases hx
      rw [PySem.W.maxD_ints] at hr
      cases hr
      exact ⟨.int _, H, I.kept hk, ⟨_, rfl⟩, q⟩
/-- max(x, default=d) -/
def maxDefD : O2 := fun s x y => match y with
  | .int d => match lstOf s x with
    | some ws => (intsOf ws).map fun ns => .int (maxO d ns)
    | none => none
  | _ => none
theorem me_maxDef {e e2 : Expr} {f g : FE} {p pos kp : Pos} (hK : Γ.K = X.K) (hc : X.calm = true) (hu : X.A.units + 64 < cLine) (hg : Gl X "max") (hm : X.mg "max" = none) (ha : ME X Γ W e f) (hb : ME X Γ W e2 g)
    (he : backTo pos (starEach [e] X.env) = (false, eval e X.env) :: backTo pos (starEach [] X.env) := by rfl) (he' : starEach [e] X.env = (false, eval e X.env) :: starEach [] X.env := by rfl) (hpl : (backTo pos (starEach [e] X.env)).any (·.1) = false := by rfl)
    (hall : (backToKw pos (keywordEach [⟨some "default", e2, kp⟩] X.env)).all (·.1.isSome) = true := by rfl) (hnone : (backToKw pos (keywordEach [⟨some "default", e2, kp⟩] X.env)).any (·.1.isNone) = false := by rfl) (hks : (backToKw pos (keywordEach [⟨some "default", e2, kp⟩] X.env)).filterMap (·.1) = [Str.ofString "default"] := by rfl) :
    ME X Γ W (.Call (.Name "max" p) [e] [⟨some "default", e2, kp⟩] pos) (mBin maxDefD f g) :=
  PE.imp (pe_callBK (cr_maxDef hc hu) hg hm (by decide +kernel) (pa_cons ha pa_nil he') (pk_cons hb pk_nil) (by decide) (by decide) he hpl hall hnone hks) fun σ H Q ⟨μ, Z, ρ, s, hE, hR, q⟩ =>
    eE hE hR q fun x s1 u H1 μ1 e1 hE1 R1 r1 q1 => eE hE1 R1 q1 fun y s2 v H2 μ2 e2 hE2 R2 r2 q2 => by
      obtain ⟨w, hw, k⟩ := ofE q2
      unfold maxDefD at hw
      split at hw
      · rename_i d
        split at hw
        · rename_i ws ql
          cases qi : intsOf ws with
          | none => rw [qi] at hw; cases hw
          | some ns =>
            rw [qi] at hw
            cases hw
            obtain ⟨a, ys, rfl, h2, h3⟩ := lstOf_ok R2 (r1.mono e2) ql
            rw [intsOf_ok qi] at h3
            have h4 := h3.ints
            subst h4
            refine ⟨a, ns, d, rfl, ?_, SqL.of h2, k _ H2 .refl R2 rfl⟩
            rw [show v = .int d from r2]
        · cases hw
      · cases hw
/-- max(x), some ints -/
def maxLD : ON := fun s xs => match xs with
  | [x] => match lstOf s x with
    | some ws => match intsOf ws with
      | some (n :: ns) => some (.int (maxO 0 (n :: ns)))
      | _ => none
    | none => none
  | _ => none
theorem sMaxL (hK : Γ.K = X.K) : OpN Γ (rMax X.K) maxLD := fun H μ Z s xs w vs Q hR rx e k => by
  rw [← hK]
  unfold maxLD at e
  split at e
  · rename_i y
    split at e
    · rename_i ws q
      split at e
      · rename_i n ns q2
        cases e
        obtain ⟨v, rfl, r1⟩ := one rx
        obtain ⟨a, ys, rfl, h2, h3⟩ := lstOf_ok hR r1 q
        rw [intsOf_ok q2] at h3
        have h4 := h3.ints
        subst h4
        refine ⟨a, n :: ns, rfl, SqL.of h2, Nat.succ_pos _, fun m hm h => ?_⟩
        rw [maxO_uniq (d := 0) hm h]
        exact k _ H .refl hR rfl
      · cases e
    · cases e
  · cases e
/-- a try whose body raises nothing -/
def mTryN (c : FS) : FS := fun ρ s => match c ρ s with
  | .er _ _ _ => .no
  | r => r
theorem ms_tryN {body : List Stmt} {h₀ : ExceptHandler} {hs : List ExceptHandler} {pos : Pos} {c : FS} (hb : MB X.nox Γ W0 body c) : MS X Γ W (.Try body (h₀ :: hs) [] [] pos) (mTryN c) :=
  PS.imp (ps_try_thru0 hb) fun D σ H ⟨μ, Z, ρ, s, hE, hR, q⟩ => by
    refine ⟨μ, Z, ρ, s, hE, hR, ?_⟩
    unfold mTryN at q
    cases e : c ρ s with
    | er x ρ' s' => rw [e] at q; exact q.elim
    | nx _ _ => rw [e] at q; exact q
    | rt _ _ => rw [e] at q; exact q
    | bk _ _ => rw [e] at q; exact q
    | ct _ _ => rw [e] at q; exact q
    | no => rw [e] at q; exact q
end
end MP
set_option Elab.async false
set_option linter.all false
set_option maxRecDepth 100000
set_option maxHeartbeats 4000000
namespace MPZ
open PySem PySem.W
section
variable {prog : Program} {w : World} {A : Around} {E : Value → Shared → Prop} {s : Shared} {z TI TO T i1 i2 l1 l2 : Addr} {f : Bool} {oT : Obj} {k1 k2 : Nat} {xs ys : Array Value}
/-- a zip that goes on while its last tuple is still held -/
structure On (h : Heap) (z TI i1 i2 l1 l2 : Addr) (k1 k2 : Nat) (xs ys : Array Value) : Prop where
  tI : PySem.IsPair h TI (.ref i1) (.ref i2)
  a : h.IsTupleIter i1 l1 k1
  b : h.IsTupleIter i2 l2 k2
  la : h.IsTuple l1 xs
  lb : h.IsTuple l2 ys
/-- where a zip of two tuples stands -/
structure Zst (h : Heap) (z TI TO i1 i2 l1 l2 S : Addr) (k : Nat) (xs ys : Array Value) : Prop where
  on : On h z TI i1 i2 l1 l2 k k xs ys
  st : (PySem.IsZip h z TI TO .none ∧ PySem.IsPair h TO .none .none) ∨ ∃ T f oT, IsZipHeld h z TI TO T f ∧ h.get? T = some oT ∧ T ≠ z ∧ T ≠ i1 ∧ T ≠ i2 ∧ T ≠ S
variable {S : Addr} {k : Nat}
/-- the pairs, as new tuples above lo -/
structure Prs (xs ys : Array Value) (lo : Addr) (h : Heap) (as : List Addr) : Prop where
  rise : as.Pairwise (· < ·)
  over : ∀ a ∈ as, lo < a
  pair : ∀ (j : Nat) (a : Addr), as[j]? = some a → ∃ x y, xs[j]? = some x ∧ ys[j]? = some y ∧ PySem.IsPair h a x y
theorem Prs.low {lo lo' : Addr} {h : Heap} {as : List Addr} (p : Prs xs ys lo h as) (hl : lo' ≤ lo) : Prs xs ys lo' h as := ⟨p.rise, fun a ha => Nat.lt_of_le_of_lt hl (p.over a ha), p.pair⟩
theorem Prs.keep {lo : Addr} {h g : Heap} {as : List Addr} (p : Prs xs ys lo h as) (hk : ∀ b u, lo < b → h.get? b = some u → g.get? b = some u) : Prs xs ys lo g as :=
  ⟨p.rise, p.over, fun j a q => let ⟨x, y, e1, e2, e3⟩ := p.pair j a q; ⟨x, y, e1, e2, hk a _ (p.over a (List.mem_of_getElem? q)) e3⟩⟩
end
section
variable {prog : Program} {w : World} {A : Around} {s : Shared} {R : Result → Shared → Prop} {z TI TO i1 i2 l1 l2 S : Addr} {xs ys : Array Value}
theorem Zst.ty {h : Heap} {k : Nat} (zs : Zst h z TI TO i1 i2 l1 l2 S k xs ys) {s : Shared} (e : s.heap = h) : s.TypeIs (.ref z) "zip" := by
  subst e
  rcases zs.st with ⟨hz, _⟩ | ⟨_, _, _, hz, _⟩
  · exact ⟨_, hz, rfl⟩
  · exact ⟨_, hz, rfl⟩
end
end MPZ
set_option Elab.async false
set_option linter.all false
set_option maxRecDepth 100000
set_option maxHeartbeats 4000000
namespace MP
open PySem PySem.Spec PyProof.Rows L2
theorem Un.more {fs ex : List Addr} {H H1 : Hp} {h h' : Heap} {a : Addr} {o : HO} (u : Un fs ex H H1 h h') (hp : h.objs.size ≤ a) (hn : H1 a = none) : Un fs ex H (upd H1 a o) h h' where
  keep := u.keep
  slot := u.slot
  free := fun b ob q n hx => by rw [upd_ne (Nat.ne_of_lt (Nat.lt_of_lt_of_le (Heap.lt_size q) hp))]; exact u.free b ob q n hx
  there := u.there
  tups := fun b xs q => by rw [upd_ne (ne_of_none (u.tups b xs q) hn)]; exact u.tups b xs q
  frzs := fun b ob xs q => by rw [upd_ne (ne_of_none (u.frzs b ob xs q) hn)]; exact u.frzs b ob xs q
  tbls := fun b ps q => by
    obtain ⟨m, e⟩ := u.tbls b ps q
    exact ⟨m, by rw [upd_ne (ne_of_none e hn)]; exact e⟩
theorem HOk.more {P : Program} {w : World} {H : Hp} {h : Heap} {a : Addr} {o : HO} (x : HOk P w H h) (hn : H a = none) (new : ObjOk P w (upd H a o) h a o) : HOk P w (upd H a o) h := fun b u e => by
  by_cases hb : b = a
  · subst hb
    rw [upd_same] at e
    cases e
    exact new
  · rw [upd_ne hb] at e
    exact (x b u e).stay (fun _ _ _ q => q) (fun c q => (upd_ne (ne_of_none q hn)).trans q) fun c ps q => (upd_ne (ne_of_none q hn)).trans q
end MP
set_option Elab.async false
set_option linter.all false
set_option maxRecDepth 100000
set_option maxHeartbeats 4000000
namespace MP
open PySem PySem.Spec PyProof.Rows L2
def under (c j : Nat) : Bool := decide (c = j) || (decide (j = 0) && decide (c ≤ 7))
def underT (c : Nat) (n : String) : Option Bool := if n = "ValueError" then some (decide (c ≤ 7)) else if n = "LookupError" then some (decide (c = 8)) else none
def exCls : Dv → Option Nat
  | .exc c _ _ => if c < 9 then some c else none
  | .exn c => if c < 9 then some c else none
  | _ => none
def isxD : ON := fun _ xs => match xs with
  | [x, .cl j] => match exCls x with
    | some c => if j < 9 then some (.bl (under c j)) else none
    | none => none
  | [x, .ty n] => match exCls x with
    | some c => (underT c n).map .bl
    | none => none
  | _ => none
section
variable {X : Cx} {Γ : Ct}
/-- isinstance, of data and of exceptions -/
def isiA : ON := fun s xs => match isiD s xs with
  | some w => some w
  | none => isxD s xs
end
end MP
set_option Elab.async false
set_option linter.all false
set_option maxRecDepth 100000
set_option maxHeartbeats 4000000
namespace MP
open PySem PySem.Spec PyProof.Rows L2
/-- raise C(e) -/
def mRaise (c : Nat) (f : Str) (g : FE) : FS := fun ρ s => (g ρ s).thenC ρ fun w s1 => .er ⟨c, f, w⟩ ρ s1
end MP
set_option Elab.async false
set_option linter.all false
set_option maxRecDepth 100000
set_option maxHeartbeats 4000000
namespace MP
open PySem PySem.Spec PyProof.Rows L2
end MP
set_option Elab.async false
set_option linter.all false
set_option maxRecDepth 100000
set_option maxHeartbeats 4000000
namespace MP
open PySem PySem.Spec PyProof.Rows L2
end MP
set_option Elab.async false
set_option linter.all false
set_option maxRecDepth 100000
set_option maxHeartbeats 4000000
namespace MP
open PySem PySem.Spec PyProof.Rows L2
/-- the names of a lambda: captured ones, globals, and of its own none but what its maker has not -/
structure LamN (N : List Str) (sc scope : Scope) : Prop where
  kind : scope.kind = .function
  co : scope.isCoroutine = false
  gen : scope.isGenerator = false
  cell : ∀ y ∈ scope.names, y.2 ≠ .cell
  own : ∀ y ∈ scope.names, y.2 = .local → y.1 ∉ N
  free : ∀ y ∈ scope.names, y.2 = .free → sc.names.lookup y.1 = some .cell ∨ sc.names.lookup y.1 = some .free
theorem LamN.has {N : List Str} {X : Cx} {scope : Scope} (L : LamN N X.env.scope scope) (ok : X.Ok) : ∀ y ∈ scope.names, y.2 = .free → ∃ c, X.env.cells.lookup y.1 = some c := fun y hy e => ok.has _ (L.free y hy e)
end MP
set_option Elab.async false
set_option linter.all false
set_option maxRecDepth 100000
set_option maxHeartbeats 4000000
namespace MP
open PySem PySem.Spec PyProof.Rows L2
abbrev lamFd (q : Str) (params : Arguments) (body : Expr) (scope : Scope) (cl : List (Str × Addr)) (dV doc pm : Value) (c' : Addr) (ctv : Value) : FuncData := PySem.W.kdv_fn "<lambda>" q params (.expr body) scope cl dV doc pm (.ref c') ctv
abbrev lamObj (q : Str) (params : Arguments) (body : Expr) (scope : Scope) (cl : List (Str × Addr)) (dV doc pm : Value) (c' : Addr) (ctv : Value) : Obj := { cls := .type "function", data := .func (lamFd q params body scope cl dV doc pm c' ctv) }
/-- a lambda on its way, made ahead of the state s0 under the frames outer: what holds of it and what its call does -/
structure Thk (P : Program) (w : World) (Γ : Ct) (mg : Str → Option Value) (base : Heap) (kk : Nat) (outer : List PySem.Env) (s0 : Shared) (H0 : Hp) (f c' : Addr) (q : Str) (ws : List Dv) (vs : List V) (g : Sto → R Dv) : Prop where
  fn : ∀ (s1 : Shared) (HZ : Hp), Un (frs outer) [] H0 HZ s0.heap s1.heap → HOk P w HZ s1.heap → PySem.W.FnAt f s1.heap
  run : ∀ (A : Around) (outer1 : List PySem.Env) (s1 : Shared) (HZ : Hp) (Q : VK) (E : XK) (μ : Mu) (Z : Zs) (st : Sto), Room kk A → A.guards = some [] → Env0 P w Γ.K mg base A outer1 s1 HZ → Un (frs outer) [] H0 HZ s0.heap s1.heap →
    HZ c' = some (LamX.CodeO c' q) → RVs Γ HZ μ Z ws vs → Rep Γ HZ μ Z st → PostE Γ (fun c d _ H => E c d H) HZ μ Z [] Q (g st) → codeAny (model P w) A (.call (.ref f) ⟨[], []⟩) (CR (L2.CX P w) outer1 P w HZ s1 Q E) s1
theorem un_comp {fs : List Addr} {L : Addr} {H H1 H2 : Hp} {h h1 h2 : Heap} (u : Un fs [] H H1 h h1) (v : Un (L :: fs) [] H1 H2 h1 h2) (hL : h.objs.size ≤ L) : Un fs [] H H2 h h2 where
  keep := fun b o q n hb hx => v.keep b o (u.keep b o q n hb hx) (u.free b o q n hx) (fun z => (List.mem_cons.mp z).elim (fun e => Nat.lt_irrefl _ (Nat.lt_of_lt_of_le (Heap.lt_size q) (by rw [e]; exact hL))) hb) hx
  slot := fun b o q n hb hx => by
    obtain ⟨sl, e1⟩ := u.slot b o q n hb hx
    obtain ⟨sl2, e2⟩ := v.slot b _ e1 (u.free b o q n hx) (List.mem_cons_of_mem _ hb) hx
    exact ⟨sl2, e2⟩
  free := fun b o q n hx => by
    obtain ⟨o1, e1⟩ := u.there b o q hx
    exact v.free b o1 e1 (u.free b o q n hx) hx
  there := fun b o q hx => by
    obtain ⟨o1, e1⟩ := u.there b o q hx
    exact v.there b o1 e1 hx
  tups := fun b xs q => v.tups b xs (u.tups b xs q)
  frzs := fun b o xs q => v.frzs b o xs (u.frzs b o xs q)
  tbls := fun b ps q => by
    obtain ⟨m1, e1⟩ := u.tbls b ps q
    obtain ⟨m2, e2⟩ := v.tbls b _ e1
    exact ⟨m1 ++ m2, by rw [e2, Array.append_assoc]⟩
/-- one frame deeper -/
theorem Thk.deeper {P : Program} {w : World} {Γ : Ct} {mg : Str → Option Value} {base : Heap} {kk : Nat} {outer : List PySem.Env} {s0 s' : Shared} {H0 H' : Hp} {f c' : Addr} {q : Str} {ws : List Dv} {vs : List V} {g : Sto → R Dv} {env : PySem.Env} {L : Addr}
    (T : Thk P w Γ mg base kk outer s0 H0 f c' q ws vs g) (hf : env.frame = some L) (hL : s0.heap.objs.size ≤ L) (u : Un (frs outer) [] H0 H' s0.heap s'.heap) : Thk P w Γ mg base kk (env :: outer) s' H' f c' q ws vs g := by
  have e : frs (env :: outer) = L :: frs outer := by unfold frs; rw [List.filterMap_cons, hf]
  exact ⟨fun s1 HZ v ok => T.fn s1 HZ (un_comp u (e ▸ v) hL) ok, fun A outer1 s1 HZ Q E μ Z st h1 h2 h3 v => T.run A outer1 s1 HZ Q E μ Z st h1 h2 h3 (un_comp u (e ▸ v) hL)⟩
end MP
set_option Elab.async false
set_option linter.all false
set_option maxRecDepth 100000
set_option maxHeartbeats 4000000
namespace MP
open PySem PySem.Spec PyProof.Rows L2
end MP
set_option Elab.async false
set_option linter.all false
set_option maxRecDepth 100000
set_option maxHeartbeats 4000000
namespace MP
open PySem PySem.Spec PyProof.Rows L2
section
variable {X : Cx} {Γ : Ct} {W : WX} {k kk : Nat} {f : Addr} {fd : FuncData} {ps : List Str} {den : (Sto → R Dv) → Fn} {x a : Str} {i : Nat} {p p1 p2 pos lpos : Pos} {es : List Expr} {fa : FA}
open Classical in
/-- a(): the lambda that the name holds -/
noncomputable def mThk (i : Nat) (cl : Dv) (g : Sto → R Dv) : FE := fun ρ s => if ρ[i]? = some (some cl) then g s else .no
open Classical in
/-- x(a, ..): the lambda is handed on -/
noncomputable def mPass (cl : Dv) (g : Sto → R Dv) (den : (Sto → R Dv) → Fn) (fa : FA) : FE := fun ρ s => (fa ρ s).bind fun ws s1 => match ws with
  | w :: wa => if w = cl then den g wa s1 else .no
  | [] => .no
end
end MP
set_option Elab.async false
set_option linter.all false
set_option maxRecDepth 100000
set_option maxHeartbeats 4000000
namespace MP
open PySem PySem.Spec PyProof.Rows L2
end MP
set_option Elab.async false
set_option linter.all false
set_option maxRecDepth 100000
set_option maxHeartbeats 4000000
namespace MP
open PySem PySem.Spec PyProof.Rows L2
end MP
set_option Elab.async false
set_option linter.all false
set_option maxRecDepth 100000
set_option maxHeartbeats 4000000
namespace MP
open PySem PySem.Spec PyProof.Rows L2
end MP
set_option Elab.async false
set_option linter.all false
set_option maxRecDepth 100000
set_option maxHeartbeats 4000000
namespace MP
open PySem PySem.Spec PyProof.Rows L2
section
variable {s s1 : Sto} {ρ : Env} {w v : Dv} {f g : FE} {fa : FA} {c su : FS} {ws : List Dv} {i n : Nat} {j : Int} {b : Bool} {y : Str} {ks : List Key}
@[simp] theorem isA_ii : isiA s [.int j, .ty "int"] = some (.bl true) := rfl
@[simp] theorem isA_ib : isiA s [.int j, .ty "bool"] = some (.bl false) := rfl
@[simp] theorem isA_it : isiA s [.int j, .ty "tuple"] = some (.bl false) := rfl
@[simp] theorem isA_bi : isiA s [.bl b, .ty "int"] = some (.bl true) := rfl
@[simp] theorem isA_bb : isiA s [.bl b, .ty "bool"] = some (.bl true) := rfl
@[simp] theorem isA_bt : isiA s [.bl b, .ty "tuple"] = some (.bl false) := rfl
@[simp] theorem isA_ni : isiA s [.non, .ty "int"] = some (.bl false) := rfl
@[simp] theorem isA_nt : isiA s [.non, .ty "tuple"] = some (.bl false) := rfl
@[simp] theorem isA_si : isiA s [.str y, .ty "int"] = some (.bl false) := rfl
@[simp] theorem isA_st : isiA s [.str y, .ty "tuple"] = some (.bl false) := rfl
@[simp] theorem isA_tt : isiA s [.tup ws, .ty "tuple"] = some (.bl true) := rfl
@[simp] theorem isA_ti : isiA s [.tup ws, .ty "int"] = some (.bl false) := rfl
@[simp] theorem isA_lt : isiA s [.lst ws, .ty "tuple"] = some (.bl false) := rfl
@[simp] theorem isA_li : isiA s [.lst ws, .ty "int"] = some (.bl false) := rfl
@[simp] theorem raise_ev {k : Nat} : mRaise k y f ρ s = (f ρ s).thenC ρ fun w s1 => .er ⟨k, y, w⟩ ρ s1 := rfl
@[simp] theorem finC_er {x : Ex} : finC s.length (.er x ρ s) = .er x s := by
  show finX s.length x s = _
  unfold finX
  rw [if_pos (Nat.le_refl _)]
@[simp] theorem thk_ev {cl : Dv} {t : Sto → R Dv} : mThk 0 cl t (some cl :: ρ) s = t s := by unfold mThk; exact if_pos rfl
@[simp] theorem pass_ev {cl : Dv} {t : Sto → R Dv} {den : (Sto → R Dv) → Fn} : mPass cl t den (mCons (mVar 0) fa) (some cl :: ρ) s = (fa (some cl :: ρ) s).bind fun wa s1 => den t wa s1 := by
  unfold mPass mCons
  rw [var_0, bind_ok]
  cases fa (some cl :: ρ) s with
  | ok wa s1 => exact if_pos rfl
  | er _ _ => rfl
  | no => rfl
end
end MP
set_option Elab.async false
set_option linter.all false
set_option maxRecDepth 100000
set_option maxHeartbeats 4000000
namespace MP
open PySem PySem.Spec PyProof.Rows L2
mutual
def toX : Dv → Option PyData
  | .non => some .none | .bl b => some (.bool b) | .int i => some (.int i) | .str x => some (.str x)
  | .tup ws => (toXs ws).map .tuple
  | .dct ks ws => match ks, ws with
    | [], [] => some (.dict [])
    | _, _ => none
  | _ => none
def toXs : List Dv → Option (List PyData)
  | [] => some []
  | w :: ws => match toX w, toXs ws with
    | some d, some ds => some (d :: ds)
    | _, _ => none
end
section
variable {X : Cx} {Γ : Ct} {pins : List (Addr × Obj)} {σ : L2.St} {H : Hp} {s : Shared} {μ : Mu} {Z : Zs}
mutual
theorem rx_reads (I : Inv X pins σ H s) (hK : Γ.K = X.K) : ∀ (w : Dv) {v : V} {u : Value} {d : PyData}, RV Γ H μ Z w v → L2.RelV v u → toX w = some d → ∃ as, Reads s.heap u d as ∧ sysModules ∉ as
  | .non, _, _, _, r, ru, e => by cases e; rw [show _ = _ from r] at ru; cases ru; exact ⟨_, Reads.none, fun z => nomatch z⟩
  | .bl b, _, _, _, r, ru, e => by cases e; rw [show _ = _ from r] at ru; cases ru; exact ⟨_, Reads.bool b, fun z => nomatch z⟩
  | .int i, _, _, _, r, ru, e => by cases e; rw [show _ = _ from r] at ru; obtain ⟨t, rfl⟩ := ru; exact ⟨_, Reads.int i t, fun z => nomatch z⟩
  | .str x, _, _, _, r, ru, e => by cases e; rw [show _ = _ from r] at ru; obtain ⟨t, rfl⟩ := ru; exact ⟨_, Reads.str x t, fun z => nomatch z⟩
  | .tup ws, _, _, _, r, ru, e => by
    obtain ⟨a, xs, rfl, h2, h3⟩ := r
    cases ru
    cases q : toXs ws with
    | none => unfold toX at e; rw [q] at e; cases e
    | some ds =>
      unfold toX at e
      rw [q] at e
      cases e
      have hs := h2.sq
      rw [hK] at hs
      obtain ⟨its, rv, ⟨o, ho, hc, n, hd⟩, _⟩ := I.tuple hs
      obtain ⟨as, hr, hn⟩ := rxs_reads I hK ws h3 rv q
      exact ⟨_, Reads.tuple ho hc hd hr, hn⟩
  | .ty _, _, _, _, _, _, e => by cases e
  | .cl _, _, _, _, _, _, e => by cases e
  | .ref _, _, _, _, _, _, e => by cases e
  | .lst _, _, _, _, _, _, e => by cases e
  | .sq _, _, _, _, _, _, e => by cases e
  | .exc _ _ _, _, _, _, _, _, e => by cases e
  | .exn _, _, _, _, _, _, e => by cases e
  | .clo _ _ _ _ _, _, _, _, _, _, e => by cases e
  | .dct ks ws, _, _, _, r, ru, e => by
    unfold toX at e
    split at e
    · cases e
      obtain ⟨a, kvs, rfl, h1, _, h3, _⟩ := r
      cases ru
      have hk : kvs = [] := by cases kvs with
        | nil => rfl
        | cons _ _ => cases h3
      subst hk
      obtain ⟨_, hsm, vs, kv, o, es, ep, ho, hx, hd, _, hp, _⟩ := I.hok a _ h1
      cases kv
      have he : es.toList = [] := by
        generalize es.toList = l at hp
        cases hp
        rfl
      refine ⟨_, Reads.dict (as := []) (bs := []) ho hx.1 hd (by rw [he]; exact ReadsAll.nil) (by rw [he]; exact ReadsAll.nil), ?_⟩
      intro hm
      simp at hm
      rw [← hm] at hsm
      simp at hsm
    · cases e
theorem rxs_reads (I : Inv X pins σ H s) (hK : Γ.K = X.K) : ∀ (ws : List Dv) {vs : List V} {us : List Value} {ds : List PyData}, RVs Γ H μ Z ws vs → Vals vs us → toXs ws = some ds → ∃ as, ReadsAll s.heap us ds as ∧ sysModules ∉ as
  | [], _, _, _, r, ru, e => by
    cases e
    rw [show _ = _ from r] at ru
    cases ru
    exact ⟨_, ReadsAll.nil, fun z => nomatch z⟩
  | w :: ws, _, _, _, r, ru, e => by
    obtain ⟨x, xs, rfl, r1, r2⟩ := r
    cases ru with
    | cons u1 u2 =>
      unfold toXs at e
      split at e
      · rename_i d ds q1 q2
        cases e
        obtain ⟨as, h1, n1⟩ := rx_reads I hK w r1 u1 q1
        obtain ⟨bs, h2, n2⟩ := rxs_reads I hK ws r2 u2 q2
        exact ⟨_, ReadsAll.cons h1 h2, fun z => (List.mem_append.mp z).elim n1 n2⟩
      · cases e
end
def rReprX (K : PySem.W.Frag) : List V → Hp → VK → Prop := fun xs H Q => ∃ (x : V) (d : PyData), xs = [x] ∧ (∀ (X : Cx) (pins : List (Addr × Obj)) (σ : L2.St) (s : Shared) (u : Value), X.K = K → Inv X pins σ H s → L2.RelV x u → ∃ as, Reads s.heap u d as ∧ sysModules ∉ as) ∧
  d.showable = true ∧ d.depth ≤ 60 ∧ d.shown.length ≤ sizeLine ∧ Q (.str d.shown) H
theorem call_reprX (hg : X.A.guards = some []) (hu : X.A.units + 64 < cLine) : CallR X (.builtin "repr") (rReprX X.K) := by
  intro pins s σ H xs us Q I r h
  obtain ⟨x, d, rfl, hr, h1, h3, h4, q⟩ := h
  obtain ⟨u, rfl, ru⟩ := vals1 r
  obtain ⟨as, rd, hn⟩ := hr X pins σ s u rfl I ru
  have big : ∀ (a : Addr), u = .ref a → wpAny (model X.prog X.w) X.A (call (.builtin "repr") [u]) (EP X pins σ Q) X.xe s := fun a e => by
    subst e
    exact repr_of_reads' rd h1 (fun _ => hn) hg (by omega) (fun _ _ z => z) (fun h' u tk k => ⟨.str d.shown, H, I.kept (t' := tk) k, ⟨u, rfl⟩, q⟩) h4
  cases rd with
  | none => exact PySem.P.repr_of_none ⟨.str _, H, I.tok _, ⟨_, rfl⟩, q⟩
  | bool b => exact PySem.P.repr_of_bool ⟨.str _, H, I.tok _, ⟨_, rfl⟩, q⟩
  | int i t => exact PySem.P.repr_of_int (of_decide_eq_true h1) ⟨.str _, H, I.tok _, ⟨_, rfl⟩, q⟩
  | str x t => exact PySem.P.repr_of_str ⟨.str _, H, I.tok _, ⟨_, rfl⟩, q⟩ h4
  | list _ _ _ _ => exact big _ rfl
  | tuple _ _ _ _ => exact big _ rfl
  | dict _ _ _ _ _ => exact big _ rfl
def reprXD : ON := fun _ xs => match xs with
  | [x] => match toX x with
    | some d => if d.showable = true ∧ d.depth ≤ 60 ∧ d.shown.length ≤ lim then some (.str d.shown) else none
    | none => none
  | _ => none
theorem sReprX (hK : Γ.K = X.K) : OpN Γ (rReprX X.K) reprXD := fun H μ Z s xs w vs Q hR rx e k => by
  unfold reprXD at e
  split at e
  · rename_i x
    split at e
    · rename_i d q
      split at e
      · rename_i hc
        cases e
        obtain ⟨v, rfl, r1⟩ := one rx
        exact ⟨v, d, rfl, fun X' pins σ s u hX I ru => rx_reads I (hK.trans hX.symm) x r1 ru q, hc.1, hc.2.1, lim_ok hc.2.2, k _ H .refl hR rfl⟩
      · cases e
    · cases e
  · cases e
/-- repr of lists and tuples without dicts, or of what is without lists -/
def reprA : ON := fun s xs => match reprD s xs with
  | some w => some w
  | none => reprXD s xs
theorem cr_reprA (hg : X.A.guards = some []) (hu : X.A.units + 64 < cLine) : CallR X (.builtin "repr") (fun x H Q => rRepr X.K x H Q ∨ rReprX X.K x H Q) := CallR.or2 (call_repr hg hu) (call_reprX hg hu)
theorem sReprA (hK : Γ.K = X.K) : OpN Γ (fun x H Q => rRepr X.K x H Q ∨ rReprX X.K x H Q) reprA := OpN.or (sRepr hK) (sReprX hK)
end
end MP
set_option Elab.async false
set_option linter.all false
set_option maxRecDepth 100000
set_option maxHeartbeats 4000000
namespace MP
open PySem PySem.Spec PyProof.Rows L2
/-- a table: where the code object of its def stands, where the table, the lambdas' name -/
structure Tb where
  c : Addr
  T : Addr
  q : Str
def tabsOf : Nat → List Tb → Sto
  | _, [] => []
  | i, t :: r => .tab i t.q :: tabsOf (i + 1) r
theorem tabsOf_len : ∀ (i : Nat) (r : List Tb), (tabsOf i r).length = r.length
  | _, [] => rfl
  | i, t :: r => by simp [tabsOf, tabsOf_len (i + 1) r]
theorem tabsOf_get : ∀ {i n : Nat} {r : List Tb} {o : Ob}, (tabsOf i r)[n]? = some o → ∃ t, r[n]? = some t ∧ o = .tab (i + n) t.q
  | i, n, [], o, h => by simp [tabsOf] at h
  | i, 0, t :: r, o, h => by
    simp [tabsOf] at h
    exact ⟨t, rfl, h.symm⟩
  | i, n + 1, t :: r, o, h => by
    have h' : (tabsOf (i + 1) r)[n]? = some o := by simpa [tabsOf] using h
    obtain ⟨t', h1, h2⟩ := tabsOf_get h'
    exact ⟨t', by simpa using h1, by rw [h2]; congr 1; omega⟩
def Ts (tabs : List Tb) : List Addr := tabs.map (·.T)
section
variable {P : Program} {w : World} {Γ : Ct} {mg mb : Str → Option Value} {k : Nat} {fa a : Addr} {fd : FuncData} {x : Str} {den : Fn} {s₁ : Shared} {vs : List Value} {ns : List Int} {tabs : List Tb}
theorem law_GTs (KX : Γ.K.In s₁.heap) (hns : s₁.heap.Ns mainGlobals mg) (hb : s₁.heap.Ns builtinsNs mb) (hbb : ∀ x : Str, x ≠ "__name__" → mb x = bootBuiltins x) (hlim : s₁.heap.NoLimit) (hg : s₁.gens = #[])
    (hT : ∀ t ∈ tabs, s₁.heap.get? t.T = some { cls := .none, data := .fields #[] } ∧ Γ.K.lookup t.T = none ∧ PySem.W.CodeHd s₁.heap t.c t.T) (hΓ : ∀ (i : Nat) (t : Tb), tabs[i]? = some t → Γ.tb i = t.T) (nd : (Ts tabs).Nodup)
    (hbm : ∃ (bm : Addr) (ob : Obj), mg "__builtins__" = some (.ref bm) ∧ bm ≠ builtinsNs ∧ s₁.heap.get? bm = some ob ∧ ob.cls = .type "module" ∧ ob.dict = some builtinsNs ∧ ob.data = .plain)
    (ha : s₁.heap.get? a = some { cls := .type "list", data := .seq vs.toArray }) (hi : IntsAre vs ns) (hl : ns.length ≤ sizeLine) (hr : Room k callerA)
    (F : ∀ base : Heap, Γ.K.In base → base.Ns mainGlobals mg → (∀ t ∈ tabs, LamX.TabB base mg t.c t.T) → FnG P w mg base Γ k fa fd [x] den) (hbind : ∀ (s : Shared) (u : Value), BindsTo s fd ⟨[u], []⟩ [(x, u)])
    (hden : ∃ s', den [.sq (ns.map .int)] (tabsOf 0 tabs) = .ok (.bl true) s') :
    codeAny (model P w) callerA (.call (.ref fa) ⟨[.ref a], []⟩) (fun r s' => r = .ok (.ret (.bool true)) ∧ OldK s₁.heap s'.heap ∧ s'.os = s₁.os ∧ AllBare s'.gens) s₁ := by
  have rv : Vals (ns.map V.int) vs := vals_ints hi
  have rl := hi.length
  let ob : Obj := { cls := .type "list", data := .seq vs.toArray }
  let tr : HO := .frz ob (.lst (ns.map V.int))
  let H : Hp := fun b => if b = a ∧ Γ.K.lookup a = none then some tr else if b ∈ Ts tabs then some (.tbl #[]) else none
  have inT : ∀ {b : Addr}, b ∈ Ts tabs → ∃ t ∈ tabs, t.T = b := fun h => List.mem_map.mp h
  have atT : ∀ {b : Addr}, b ∈ Ts tabs → s₁.heap.get? b = some { cls := .none, data := .fields #[] } := fun h => by
    obtain ⟨t, h1, rfl⟩ := inT h
    exact (hT t h1).1
  have nT : ∀ {b : Addr}, b ∈ Ts tabs → Γ.K.lookup b = none := fun h => by
    obtain ⟨t, h1, rfl⟩ := inT h
    exact (hT t h1).2.1
  have naT : ∀ {b : Addr}, b ∈ Ts tabs → a ≠ b := fun h z => by rw [z, atT h] at ha; cases ha
  have HT : ∀ {b : Addr}, b ∈ Ts tabs → H b = some (.tbl #[]) := fun {b} h => by
    show (if b = a ∧ Γ.K.lookup a = none then some tr else if b ∈ Ts tabs then some (HO.tbl #[]) else none) = _
    rw [if_neg (fun z => naT h z.1.symm), if_pos h]
  have Hin : ∀ b o, H b = some o → ((b = a ∧ Γ.K.lookup a = none) ∧ o = tr) ∨ (b ∈ Ts tabs ∧ o = .tbl #[]) := fun b o e => by
    have e' : (if b = a ∧ Γ.K.lookup a = none then some tr else if b ∈ Ts tabs then some (HO.tbl #[]) else none) = some o := e
    split at e'
    · exact .inl ⟨by assumption, (Option.some.inj e').symm⟩
    · split at e'
      · exact .inr ⟨by assumption, (Option.some.inj e').symm⟩
      · cases e'
  have free : ∀ b, ¬ (b = a ∧ Γ.K.lookup a = none) → b ∉ Ts tabs → H b = none := fun b c d => (if_neg c).trans (if_neg d)
  have hok : HOk P w H s₁.heap := fun b o e => by
    rcases Hin b o e with ⟨⟨rfl, _⟩, rfl⟩ | ⟨h, rfl⟩
    · exact ⟨ha, by rw [List.length_map]; exact hl, vs, _, rv, ha⟩
    · exact atT h
  let base := hidT s₁.heap H
  have keeps : ∀ {b : Addr} {o : Obj}, s₁.heap.get? b = some o → (∀ (u : Array Value) (n : Nat), o.data ≠ .seq u n) → o.cls ≠ .none → base.get? b = some o := fun {b o} e h1 h2 => hidT_get e (free b (fun z => by
    rw [z.1, ha] at e
    cases e
    exact h1 _ _ rfl) fun z => by
    rw [atT z] at e
    cases e
    exact h2 rfl)
  have dictIn : ∀ {b : Addr} {m : Str → Option Value}, s₁.heap.Ns b m → base.Ns b m := fun {b m} ⟨o, es, ep, e, d, r⟩ => by
    refine ⟨o, es, ep, hidT_get e (free b (fun z => ?_) fun z => ?_), d, r⟩
    · rw [z.1, ha] at e
      cases e
      cases d
    · rw [atT z] at e
      cases e
      cases d
  have kIn : Γ.K.In base := fun b o e => hidT_get (KX b o e) (free b (fun z => by
    rw [z.1, z.2] at e
    cases e) fun z => by
    rw [nT z] at e
    cases e)
  have gM : base.Ns mainGlobals mg := dictIn hns
  have md : Mod Γ.K mg base := ⟨kIn, gM, ⟨mb, dictIn hb, hbb⟩, let ⟨mc, h1, h2⟩ := hlim; ⟨mc, dictIn h1, h2⟩⟩
  have gT : ∀ {b : Addr}, b ∈ Ts tabs → mainGlobals ≠ b := fun h z => by
    obtain ⟨o, es, ep, e, d, _⟩ := hns
    rw [z, atT h] at e
    cases e
    cases d
  have TB : ∀ t ∈ tabs, LamX.TabB base mg t.c t.T := fun t ht => by
    have htT : t.T ∈ Ts tabs := List.mem_map.mpr ⟨t, ht, rfl⟩
    refine ⟨?_, ?_, gT htT⟩
    · obtain ⟨o, us, file, tf, flags, tg, inF, text, tt, e1, r1, r2, r⟩ := (hT t ht).2.2
      exact ⟨o, us, file, tf, flags, tg, inF, text, tt, keeps e1 (fun u n z => by rw [r2] at z; cases z) (fun z => by rw [r1] at z; cases z), r1, r2, r⟩
    · obtain ⟨bm, o, b1, b2, b3, b4, b5, b6⟩ := hbm
      refine ⟨bm, o, b1, b2, fun z => ?_, fun z => ?_, keeps b3 (fun u n z => by rw [b6] at z; cases z) (fun z => by rw [b4] at z; cases z), b4, b5, b6⟩
      · obtain ⟨o2, es, ep, e, d, _⟩ := hns
        rw [z, e] at b3
        cases b3
        rw [b6] at d
        cases d
      · rw [z, atT htT] at b3
        cases b3
        cases b6
  have e0 : Env0 P w Γ.K mg base callerA [] s₁ H :=
    { frames := rfl, mod := md, bs := fun b o e => of_hidT e, bsz := Nat.le_of_eq (hidT_size _ _), funs := trivial, frf := fun b hb => (nomatch hb), hok := hok, bare := .of_eq hg }
  obtain ⟨s', hd⟩ := hden
  let μ : Mu := fun n => (Ts tabs)[n]?
  have μin : ∀ {n : Nat} {b : Addr}, μ n = some b → b ∈ Ts tabs := fun {n b} z => List.mem_of_getElem? z
  have rs : RV Γ H μ (fun _ => False) (.sq (ns.map .int)) (.ref a) := by
    refine ⟨a, _, rfl, ?_, RVs.of_ints ns⟩
    cases hk : Γ.K.lookup a with
    | none => exact .inl ⟨.inr ⟨ob, if_pos ⟨rfl, hk⟩⟩, ⟨fun n z => naT (μin z) rfl, id⟩⟩
    | some o =>
      have e := KX a o hk
      rw [ha] at e
      cases e
      exact .inr ⟨_, vs.toArray, _, hk, rfl, rfl, rfl, by rw [List.size_toArray, rl]; exact hl, by simpa using rv⟩
  have rep : Rep Γ H μ (fun _ => False) (tabsOf 0 tabs) := ⟨fun n o e => by
    obtain ⟨t, h1, rfl⟩ := tabsOf_get e
    have h2 : t.T ∈ Ts tabs := List.mem_map.mpr ⟨t, List.mem_of_getElem? h1, rfl⟩
    refine ⟨t.T, ?_, id, ?_, #[], HT h2, trivial, fun pos cv z => by simp [codeAmong] at z⟩
    · show (Ts tabs)[n]? = some t.T
      unfold Ts
      rw [List.getElem?_map, h1]
      rfl
    · rw [Nat.zero_add]
      exact (hΓ n t h1).symm, fun n m b e1 e2 => by
      have h1 := (List.getElem?_eq_some_iff.mp e1)
      have h2 := (List.getElem?_eq_some_iff.mp e2)
      obtain ⟨l1, g1⟩ := h1
      obtain ⟨l2, g2⟩ := h2
      exact (List.getElem_inj nd).mp (g1.trans g2.symm), fun n b e => by
      obtain ⟨l1, _⟩ := List.getElem?_eq_some_iff.mp e
      rw [tabsOf_len]
      unfold Ts at l1
      rw [List.length_map] at l1
      exact l1, fun b z => z.elim⟩
  refine codeAny_mono ((F base kIn gM TB).run callerA [] s₁ H ⟨[.ref a], []⟩ [.ref a] [.ref a] (fun v _ => v = .bl true) (fun _ _ _ => False) hr rfl e0 (hbind s₁ (.ref a)) (.cons rfl .nil)
    ⟨rfl, μ, _, _, [.sq (ns.map .int)], rep, RVs.cons rs rfl, by rw [hd]; exact fun v H' μ' _ _ r => r⟩) fun r s2 h => ?_
  cases r with
  | error e =>
    obtain ⟨_, _, _, _, _, _, _, _, _, _, _, _, z⟩ := h
    exact z.elim
  | ok fl =>
    cases fl with
    | next => exact h.elim
    | brk => exact h.elim
    | cont => exact h.elim
    | ret u =>
      obtain ⟨v, H', os, bare, un, hok', rv', q'⟩ := h
      obtain rfl : v = .bl true := q'
      obtain rfl : u = Value.bool true := rv'
      have key : ∀ b o, b ∉ Ts tabs → s₁.heap.get? b = some o → s2.heap.get? b = some o := fun b o nb e => by
        cases qb : H b with
        | none => exact un.keep b o e qb (fun z => nomatch z) (fun z => nomatch z)
        | some u =>
          rcases Hin b u qb with ⟨⟨rfl, _⟩, rfl⟩ | ⟨z, _⟩
          · obtain ⟨e2, _⟩ := hok' b _ (un.frzs b ob _ qb)
            rw [ha] at e
            cases e
            exact e2
          · exact absurd z nb
      have grown : ∀ b, b ∈ Ts tabs → ∃ more, s2.heap.get? b = some { cls := .none, data := .fields (#[] ++ more) } := fun b h => by
        obtain ⟨more, z⟩ := un.tbls b #[] (HT h)
        exact ⟨more, hok' b _ z⟩
      refine ⟨rfl, ⟨fun b o e => ?_, fun b o e => ?_⟩, os, bare⟩
      · by_cases h : b ∈ Ts tabs
        · obtain ⟨t, ht, rfl⟩ := inT h
          obtain ⟨more, g⟩ := grown _ h
          rw [atT h] at e
          cases e
          exact .inr (.inl ⟨((hT t ht).2.2.tab (hT t ht).1).isCodeTable, rfl, #[], more, rfl, g⟩)
        · exact .inl (key b o h e)
      · by_cases h : b ∈ Ts tabs
        · obtain ⟨more, g⟩ := grown _ h
          exact ⟨_, g⟩
        · exact ⟨o, key b o h e⟩
/-- what the head leaves to be shown; ys: the defs that make lambdas -/
theorem walk_GTs {l : PySem.W.OpenLaw} {n k : Nat} {q : Program} {loose : List Str} {XP : (Str → Option Value) → Heap → Prop} {YP : World → Heap → Prop} {d : DefRec} {Kf : Params → PySem.W.Frag} {x : Str} {ys qs : List Str} (hn : l.most = some n) (hn2 : n ≤ sizeLine) (hdf : d.params.defaults = []) (hr : Room k callerA)
    (hY : ∀ (w : World) (h : Heap), YP w h → (Kf w.params).In h) (hy : ∀ y ∈ ys, ∃ dy, (recsOf q).find? (fun e => e.name == y) = some dy)
    (F : ∀ (w : World) (mg : Str → Option Value) (fa : Addr) (h : Heap), (Kf w.params).In h → h.Ns mainGlobals mg → mg d.name = some (.ref fa) →
      ∃ (Γ : Ct) (fd : FuncData) (den : Fn) (tabs : List Tb), Γ.K = Kf w.params ∧ (∀ (i : Nat) (t : Tb), tabs[i]? = some t → Γ.tb i = t.T) ∧ (Ts tabs).Nodup ∧ (∀ t ∈ tabs, ∃ y ∈ ys, PySem.W.tabIn Γ.K y = some (t.c, t.T) ∧ Γ.K.lookup t.T = none) ∧ tabs.map (·.q) = qs ∧ (∀ (s : Shared) (u : Value), BindsTo s fd ⟨[u], []⟩ [(x, u)]) ∧
        (∀ base : Heap, Γ.K.In base → base.Ns mainGlobals mg → (∀ t ∈ tabs, LamX.TabB base mg t.c t.T) → FnG l.prog w mg base Γ k fa fd [x] den) ∧
        ∀ ns : List Int, ns.length ≤ n → ∃ s', den [.sq (ns.map .int)] (tabsOf 0 (qs.map fun q => ⟨0, 0, q⟩)) = .ok (.bl true) s') :
    PySem.W.WalkO q loose XP YP l.row.toRowW d [] (fun f vs => PySem.call f vs) := by
  refine Att.attach_call hn hdf fun w s₀ s₁ mg mb fa o pm cd doc a vs ns G Y ho hd hcd hmg hobj hints hlen hg => ?_
  have KX := hY w _ Y
  obtain ⟨Γ, fd, den, tabs, hK, hΓ, nd, ht, hq, hb, hF, hden⟩ := F w mg fa _ KX G.T.g hmg
  have et : ∀ (i : Nat) (r : List Tb), tabsOf i ((r.map (·.q)).map fun q => ⟨0, 0, q⟩) = tabsOf i r := fun i r => by
    induction r generalizing i with
    | nil => rfl
    | cons t r ih => simp only [List.map_cons, tabsOf, ih]
  refine law_GTs (hK ▸ KX) G.T.g G.T.b G.T.builtins G.T.nolimit hg (fun t h => ?_) hΓ nd G.T.bmain hobj hints (Nat.le_trans hlen hn2) hr hF hb (by
    obtain ⟨s', e⟩ := hden ns hlen
    rw [← hq, et] at e
    exact ⟨s', e⟩)
  obtain ⟨y, hy1, h1, h2⟩ := ht t h
  obtain ⟨dy, hy2⟩ := hy y hy1
  obtain ⟨hC, hT⟩ := PySem.W.tab_of G.T (hK ▸ KX) hy2 h1
  exact ⟨hT, h2, hC⟩
end
end MP
set_option Elab.async false
set_option linter.all false
set_option maxRecDepth 100000
set_option maxHeartbeats 4000000
namespace MP
open PySem PySem.Spec PyProof.Rows L2
end MP
set_option Elab.async false
set_option linter.all false
set_option maxRecDepth 100000
set_option maxHeartbeats 400000
namespace MP
open PySem PySem.Spec PyProof.Rows L2
structure PlX (n k : Nat) (w : Dv) (d : PyData) : Prop where
  to : toX w = some d
  shw : d.showable = true
  deep : d.depth ≤ k
  len : d.shown.length + 2 ≤ 2000 * n
structure PlsX (n k : Nat) (ws : List Dv) (ds : List PyData) : Prop where
  to : toXs ws = some ds
  shw : PyData.showableAll ds = true
  deep : PyData.depthAll ds ≤ k
  len : piled (PyData.shownAll ds) ≤ 2000 * n
variable {n m k j : Nat} {w : Dv} {d : PyData} {ws us : List Dv} {ds es : List PyData} {i : Int} {ns : List Int} {s : Sto}
theorem PlX.mono (h : PlX n k w d) (hn : n ≤ m) (hk : k ≤ j) : PlX m j w d := ⟨h.to, h.shw, Nat.le_trans h.deep hk, Nat.le_trans h.len (Nat.mul_le_mul_left _ hn)⟩
theorem PlsX.mono (h : PlsX n k ws ds) (hn : n ≤ m) (hk : k ≤ j) : PlsX m j ws ds := ⟨h.to, h.shw, Nat.le_trans h.deep hk, Nat.le_trans h.len (Nat.mul_le_mul_left _ hn)⟩
/-- repr says something -/
def Sh (w : Dv) : Prop := ∀ s : Sto, ∃ t, reprA s [w] = some (.str t)
theorem sh_d {t : Str} (h : ∀ s : Sto, reprD s [w] = some (.str t)) : Sh w := fun s => ⟨t, by unfold reprA; rw [h s]⟩
theorem sh_lst (h : Pl n k (.lst ws) d) (hn : n ≤ 8000) (hk : k ≤ 60) : Sh (.lst ws) := sh_d fun s => repr_lst h hn hk
end MP
set_option Elab.async false
set_option linter.all false
set_option maxRecDepth 100000
set_option maxHeartbeats 400000
namespace MP
open PySem PySem.Spec PyProof.Rows L2
section
variable {s s1 s2 s3 : Sto} {ρ : Env} {f g : FE} {fa : FA} {lo hi : FO} {x w y : Dv} {ws us : List Dv} {a b : Option Int} {i j : Int} {k : Nat} {t : FT} {bb : Bool}
theorem sl_v {op : OS} (h : f ρ s = .ok x s1) (hl : lo ρ s1 = .ok a s2) (hh : hi ρ s2 = .ok b s3) (e : op s3 x a b = some w) : mSl op f lo hi ρ s = .ok w s3 := by
  rw [sl_ev, h, bind_ok, hl, bind_ok, hh, bind_ok, e, of_some]
theorem part_v (h : f ρ s = .ok (.int i) s1) : mPart f ρ s = .ok (some i) s1 := by rw [part_ev, h, bind_ok]
theorem cut_from : cutD ws (some (k : Int)) none = ws.drop k := by
  unfold cutD
  rw [HT.sIx_nat, HT.sIx_none]
  by_cases h : k ≤ ws.length
  · rw [Nat.min_eq_left h]
    exact List.take_of_length_le (by rw [List.length_drop]; omega)
  · rw [Nat.min_eq_right (by omega), List.drop_length, List.drop_of_length_le (by omega)]
    simp
theorem add_tup (h : ws.length + us.length ≤ 1000000) : addD s (.tup ws) (.tup us) = some (.tup (ws ++ us)) := by
  show (if ws.length + us.length ≤ lim then some (Dv.tup (ws ++ us)) else none) = _
  rw [if_pos (by unfold lim; omega)]
theorem add_lst (h : ws.length + us.length ≤ 1000000) : addD s (.lst ws) (.lst us) = some (.lst (ws ++ us)) := by
  show (if ws.length + us.length ≤ lim then some (Dv.lst (ws ++ us)) else none) = _
  rw [if_pos (by unfold lim; omega)]
theorem un_v {o : O1} (h : f ρ s = .ok x s1) (e : o s1 x = some w) : mUn o f ρ s = .ok w s1 := by rw [un_ev, h, bind_ok, e, of_some]
theorem if_vt {g' : FE} {r : R Dv} (h : t ρ s = .ok true s1) (h2 : f ρ s1 = r) : mIf t f g' ρ s = r := by rw [if_ev, h, bind_ok, if_pos rfl, h2]
theorem if_vf {g' : FE} {r : R Dv} (h : t ρ s = .ok false s1) (h2 : f ρ s1 = r) : mIf t g' f ρ s = r := by rw [if_ev, h, bind_ok, if_neg Bool.false_ne_true, h2]
theorem not_v (h : t ρ s = .ok bb s1) : mNot t ρ s = .ok (!bb) s1 := by rw [not_ev, h, bind_ok]
theorem ne_of_eq {x y : Dv} {c : Bool} (h : eqD s x y = some (.bl c)) : neD s x y = some (.bl (!c)) := by
  unfold neD
  unfold eqD at h
  cases q : eqB s x y with
  | none => rw [q] at h; cases h
  | some c' => rw [q] at h; cases h; rfl
end
end MP
namespace MP
open PySem PySem.Spec PyProof.Rows L2
mutual
theorem eqv_refl : ∀ d : PyData, d.hasDict = false → PyData.eqv d d = true
  | .none, _ => by simp only [PyData.eqv]
  | .bool b, _ => by simp only [PyData.eqv]; cases b <;> rfl
  | .int i, _ => by simp only [PyData.eqv]; exact beq_self_eq_true i
  | .str x, _ => by simp only [PyData.eqv]; exact beq_self_eq_true x
  | .list xs, h => by simp only [PyData.eqv]; exact eqvs_refl xs (by simpa only [PyData.hasDict] using h)
  | .tuple xs, h => by simp only [PyData.eqv]; exact eqvs_refl xs (by simpa only [PyData.hasDict] using h)
  | .dict _, h => by simp [PyData.hasDict] at h
theorem eqvs_refl : ∀ ds : List PyData, PyData.hasDictAll ds = false → PyData.eqvAll ds ds = true
  | [], _ => by simp only [PyData.eqvAll]
  | d :: ds, h => by
    simp only [PyData.hasDictAll, Bool.or_eq_false_iff] at h
    simp only [PyData.eqvAll, eqv_refl d h.1, eqvs_refl ds h.2]; rfl
end
section
variable {n m k j : Nat} {w v : Dv} {d e : PyData} {s : Sto} {ws us : List Dv}
theorem shaped_pl (h : Pl n k w d) (hk : k ≤ 64) : SeqAt.shaped d = true := by
  unfold SeqAt.shaped
  rw [h.lay, decide_eq_true (Nat.le_trans h.deep hk)]
  rfl
/-- == of two rows or lists -/
theorem eq_pl (hw : flat w = none) (ht : toD s w = toD0 w) (hv : toD s v = toD0 v) (h : Pl n k w d) (h2 : Pl m j v e) (hk : k ≤ 64) (hj : j ≤ 64) : eqD s w v = some (.bl (PyData.eqv d e)) := by
  unfold eqD eqB
  rw [hw]
  dsimp only
  rw [ht, hv, h.to, h2.to]
  dsimp only
  rw [if_pos ⟨shaped_pl h hk, shaped_pl h2 hj⟩]
  rfl
theorem eq_tt (h : Pl n k (.tup ws) d) (h2 : Pl m j (.tup us) e) (hk : k ≤ 64) (hj : j ≤ 64) : eqD s (.tup ws) (.tup us) = some (.bl (PyData.eqv d e)) := eq_pl rfl rfl rfl h h2 hk hj
theorem eq_t_refl (h : Pl n k (.tup ws) d) (hk : k ≤ 64) : eqD s (.tup ws) (.tup ws) = some (.bl true) := by rw [eq_tt h h hk hk, eqv_refl d h.nod]
end
end MP
namespace MP
open PySem PySem.Spec PyProof.Rows L2
section
variable {n : Nat} {c c' : FS} {ρ ρ1 : Env} {s s1 : Sto} {r : R Dv} {w : Dv} {x : Ex}
theorem fin_nx (h : c ρ s = .nx ρ1 s1) (k : finC n (c' ρ1 s1) = r) : finC n (mSeq c c' ρ s) = r := by rw [seq_nx h rfl]; exact k
theorem fin_rtS (h : c ρ s = .rt w s1) (k : finC n (.rt w s1) = r) : finC n (mSeq c c' ρ s) = r := by rw [seq_rt h]; exact k
end
end MP
namespace MP
open PySem PySem.Spec PyProof.Rows L2
section
variable {t u : FT} {ρ : Env} {s s1 : Sto} {r : R Bool}
theorem or_f (h : t ρ s = .ok false s1) (h2 : u ρ s1 = r) : mOr t u ρ s = r := by unfold mOr; rw [h, bind_ok, if_neg Bool.false_ne_true, h2]
theorem and_t (h : t ρ s = .ok true s1) (h2 : u ρ s1 = r) : mAnd t u ρ s = r := by unfold mAnd; rw [h, bind_ok, if_pos rfl, h2]
theorem and_f (h : t ρ s = .ok false s1) : mAnd t u ρ s = .ok false s1 := by unfold mAnd; rw [h, bind_ok]; exact if_neg Bool.false_ne_true
theorem not_vt (h : t ρ s = .ok true s1) : mNot t ρ s = .ok false s1 := not_v h
end
end MP
namespace MP
open PySem PySem.Spec PyProof.Rows L2
section
variable {ρ : Env} {s s1 s2 : Sto} {f : FE} {fa : FA} {x : Ex} {d : Fn} {o : ON} {g : FG} {w : Dv} {k : Nat}
theorem expr_v (h : f ρ s = .ok w s1) : mExpr f ρ s = .nx ρ s1 := by unfold mExpr; rw [h]; rfl
theorem asg_gv {ρ' : Env} (h : f ρ s = .ok w s1) (h2 : g w ρ s1 = some ρ') : mAsg f g ρ s = .nx ρ' s1 := by unfold mAsg; rw [h, then_ok, h2]
theorem mul_lst {ws : List Dv} (h : ws.length * k ≤ 1000000) (hk : k ≤ 1000000) : mulD s (.lst ws) (.int (k : Int)) = some (.lst (List.replicate k ws).flatten) := by
  unfold mulD
  dsimp only [lstOf]
  rw [if_pos ⟨by omega, by omega, by rw [Int.toNat_natCast]; unfold lim; omega⟩, Int.toNat_natCast]
end
end MP
set_option Elab.async false
set_option linter.all false
set_option maxRecDepth 100000
set_option maxHeartbeats 4000000
namespace MP
open PySem PySem.Spec PyProof.Rows L2
end MP
set_option Elab.async false
set_option linter.all false
set_option maxRecDepth 100000
set_option maxHeartbeats 4000000
namespace MP
open PySem PySem.Spec PyProof.Rows L2
end MP
set_option Elab.async false
set_option linter.all false
set_option maxRecDepth 100000
set_option maxHeartbeats 4000000
namespace MP
open PySem PySem.Spec PyProof.Rows L2
end MP
namespace MP
open PySem PySem.Spec PyProof.Rows L2
end MP
set_option Elab.async false
set_option linter.all false
set_option maxRecDepth 100000
set_option maxHeartbeats 400000
namespace MP
open PySem PySem.Spec PyProof.Rows L2 TL PySem.NumText
end MP
set_option Elab.async false
set_option linter.all false
set_option maxRecDepth 100000
set_option maxHeartbeats 400000
namespace MP
open PySem PySem.Spec PyProof.Rows L2
end MP
set_option Elab.async false
set_option linter.all false
set_option maxRecDepth 100000
set_option maxHeartbeats 4000000
namespace MP
open PySem PySem.Spec PyProof.Rows L2
open Sem (wp)
end MP
set_option Elab.async false
set_option linter.all false
set_option maxRecDepth 100000
set_option maxHeartbeats 4000000
namespace MP
open PySem PySem.Spec PyProof.Rows L2
section
variable {X : Cx} {Γ : Ct} {W : WX}
theorem RX.weak {H : Hp} {μ : Mu} {Z Z' : Zs} {x : Ex} {c : Value} {d : Option Addr} (h : ∀ a, Z a → Z' a) (r : RX Γ H μ Z' x c d) : RX Γ H μ Z x c d := by
  obtain ⟨h1, dd, v, h2, h3, h4, h5⟩ := r
  exact ⟨h1, dd, v, h2, h3, h4.weak h, RV.weak h x.w h5⟩
end
end MP
set_option Elab.async false
set_option linter.all false
set_option maxRecDepth 100000
set_option maxHeartbeats 400000
namespace MP
open PySem PySem.Spec PyProof.Rows L2 TL PySem.NumText
structure Tx (n : Nat) (x : Str) : Prop where
  low : ∀ c ∈ tl x, c < 128
  len : x.length ≤ n
theorem Tx.mono {n m : Nat} {x : Str} (h : Tx n x) (k : n ≤ m) : Tx m x := ⟨h.low, Nat.le_trans h.len k⟩
/-- the int of a word that passes -/
def vl (w : Str) : Int := (PySem.intText? w).getD 0
end MP
set_option Elab.async false
set_option linter.all false
set_option maxRecDepth 100000
set_option maxHeartbeats 4000000
namespace MP.Raw
open PySem Builtin Builtin.ObjectAttr
end MP.Raw
namespace MP
open PySem PySem.Spec PyProof.Rows L2
end MP
set_option Elab.async false
set_option linter.all false
set_option maxRecDepth 100000
set_option maxHeartbeats 4000000
namespace MP
open PySem PySem.Spec PyProof.Rows L2
end MP
set_option Elab.async false
set_option linter.all false
set_option maxRecDepth 100000
set_option maxHeartbeats 4000000
namespace MP
open PySem PySem.Spec PyProof.Rows L2
end MP
set_option Elab.async false
set_option linter.all false
set_option maxRecDepth 100000
set_option maxHeartbeats 4000000
namespace MP
open PySem PySem.Spec PyProof.Rows L2
def flV : Dv → Option V
  | .non => some .non | .bl b => some (.bl b) | .int i => some (.int i) | .str x => some (.str x)
  | _ => none
section
variable {X : Cx} {Γ : Ct} {W : WX} {H : Hp} {μ : Mu} {Z : Zs}
theorem flV_ok {w : Dv} {u v : V} (e : flV w = some u) (r : RV Γ H μ Z w v) : v = u ∧ flatV u = true := by
  cases w <;> first | (cases e; done) | (cases e; exact ⟨r, rfl⟩)
theorem flVs_ok : ∀ {ws : List Dv} {us vs : List V}, mapO flV ws = some us → RVs Γ H μ Z ws vs → vs = us ∧ us.all flatV = true
  | [], _, _, e, r => by cases e; exact ⟨r, rfl⟩
  | w :: ws, us, _, e, r => by
    obtain ⟨x, xs, rfl, r1, r2⟩ := r
    unfold mapO at e
    split at e
    · rename_i b bs e1 e2
      cases e
      obtain ⟨rfl, h1⟩ := flV_ok e1 r1
      obtain ⟨rfl, h2⟩ := flVs_ok e2 r2
      exact ⟨rfl, by rw [List.all_cons, h1, h2]; rfl⟩
    · cases e
def inQ (neg : Bool) : O2 := fun _ x y => match flV x, plainOf y with
  | some u, some (_, ws) => match mapO flV ws with
    | some us => some (.bl (if neg = true then !inV u us else inV u us))
    | none => none
  | _, _ => none
theorem sInQ (hK : Γ.K = X.K) {neg : Bool} : Op2 Γ (rIn X.K neg) (inQ neg) := fun H μ Z s x y w u v Q hR r1 r2 e k => by
  rw [← hK]
  unfold inQ at e
  split at e
  · rename_i u' t ws e1 e2
    split at e
    · rename_i us e3
      cases e
      obtain ⟨rfl, f1⟩ := flV_ok e1 r1
      obtain ⟨a, xs, rfl, h1, h2⟩ := plain_ok r2 e2
      obtain ⟨rfl, f2⟩ := flVs_ok e3 h1
      have hq := h2 H μ Evo.refl.z
      refine ⟨a, xs, rfl, ?_, f1, f2, k _ H .refl hR rfl⟩
      unfold SqX at hq
      split at hq
      · exact .inr hq
      · exact .inl hq
    · cases e
  · cases e
end
end MP
namespace MP
open PySem PySem.Spec PyProof.Rows L2
end MP
set_option Elab.async false
set_option linter.all false
set_option maxRecDepth 100000
set_option maxHeartbeats 4000000
namespace MP.Raw
open PySem
/-- the zip, whatever became of the tuple that it gave out -/
abbrev ZipO (h : Heap) (z TI TO : Addr) (f0 : Value) (fl : Bool) : Prop :=
  h.get? z = some { cls := .type "zip", dict := none, data := .fields #[f0, .bool fl, .bool false, .ref TI, .ref TO], slots := #[] }
def Out (f0 : Value) : Prop := f0 = .none ∨ ∃ T : Nat, f0 = rawInt T
section
variable {prog : Program} {w : World} {A : Around} {E : Value → Shared → Prop} {s : Shared} {z TI TO i1 i2 : Addr} {fp1 fp2 : List Addr} {n1 n2 i : Nat} {P1 P2 : Nat → Value → Prop} {St1 St2 : Nat → Heap → Prop} {a1 a2 f0 : Value} {fl : Bool}
theorem alive_any {a : Addr} {Q : Option Obj → Shared → Prop} (h : Q (s.heap.get? a) s) : wpAny (model prog w) A (loadIfAlive a) Q E s := fun _ _ _ => h
theorem zip_free {Q : Bool → Shared → Prop} (hz : ZipO s.heap z TI TO f0 fl) (hf : Out f0) (h : ∀ b g fl', ZipO g z TI TO f0 fl' → Heap.SameBut z s.heap g → Q b { s with heap := g }) : wpAny (model prog w) A (Builtin.SmallTypes.ownedTupleIsFree (.ref z)) Q E s := by
  unfold Builtin.SmallTypes.ownedTupleIsFree
  rcases hf with rfl | ⟨T, rfl⟩
  · exact wpAny_bind (wpAny_field hz rfl (x := .none) rfl (wpAny_pure (h true s.heap fl hz (Heap.SameBut.refl _ _))))
  · refine wpAny_bind (wpAny_field hz rfl (x := rawInt T) rfl ?_)
    show wpAny _ _ (loadIfAlive ((T : Int).toNat) >>= _) _ _ _
    refine wpAny_bind (alive_any ?_)
    cases q : s.heap.get? ((T : Int).toNat) with
    | none =>
      simp only [Option.isNone_none, if_true]
      exact wpAny_pure (h true s.heap fl hz (Heap.SameBut.refl _ _))
    | some o =>
      simp only [Option.isNone_some, Bool.false_eq_true, if_false]
      refine wpAny_bind (wpAny_field hz rfl (x := .bool fl) rfl ?_)
      cases fl with
      | true =>
        rw [if_neg (show ¬ ((Value.bool true != Value.bool true) = true) by decide)]
        exact wpAny_pure (h false s.heap true hz (Heap.SameBut.refl _ _))
      | false =>
        rw [if_pos (show (Value.bool false != Value.bool true) = true by decide)]
        exact wpAny_bind (wpAny_setField_rec hz (by simp) fun g hg same => wpAny_pure (h false g true hg same))
/-- what a turn of the zip leaves -/
structure ZipLeft (s : Shared) (z TI TO i1 i2 : Addr) (i : Nat) (St1 St2 : Nat → Heap → Prop) (T : Addr) (x1 x2 : Value) (h' : Heap) : Prop where
  zip : ∃ f0 fl, ZipO h' z TI TO f0 fl ∧ Out f0
  out : ∃ b1 b2, IsTupOf2 h' TO b1 b2
  st1 : St1 (i + 1) h'
  st2 : St2 (i + 1) h'
  tup : IsTupOf2 h' T x1 x2
  size : h'.objs.size = s.heap.objs.size + 1
  keep : ∀ c o, c ≠ z → c ≠ TO → c ≠ i1 → c ≠ i2 → s.heap.get? c = some o → h'.get? c = some o
theorem zip_item {Q : Value → Shared → Prop} (S : ZipSep2 z TI TO i1 i2 fp1 fp2) (D1 : Draws prog w A i1 fp1 n1 P1 St1) (D2 : Draws prog w A i2 fp2 n2 P2 St2)
    (hz : ZipO s.heap z TI TO f0 fl) (hf : Out f0) (hTI : IsTupOf2 s.heap TI (.ref i1) (.ref i2)) (hTO : IsTupOf2 s.heap TO a1 a2) (st1 : St1 i s.heap) (st2 : St2 i s.heap) (l1 : i < n1) (l2 : i < n2)
    (hQ : ∀ x1 x2 h' tk, P1 i x1 → P2 i x2 → ZipLeft s z TI TO i1 i2 i St1 St2 s.heap.objs.size x1 x2 h' → Q (.ref s.heap.objs.size) { s with heap := h', toks := tk }) :
    wpAny (model prog w) A (Builtin.«zip.__next__» ⟨[.ref z], []⟩) (fun fin s' => ∃ v, fin = .done (.ret v) ∧ Q v s') E s := by
  obtain ⟨hp, gs, dr, t0, os⟩ := s
  show wpAny _ _ (field (.ref z) 2 >>= _) _ _ _
  refine wpAny_bind (wpAny_field hz rfl (x := .bool false) rfl ?_)
  show wpAny _ _ (field (.ref z) 3 >>= _) _ _ _
  refine wpAny_bind (wpAny_field hz rfl (x := .ref TI) rfl ?_)
  refine wpAny_bind (wpAny_seqItems hTI rfl ?_)
  show wpAny _ _ (Builtin.SmallTypes.ownedTupleIsFree (.ref z) >>= _) _ _ _
  refine wpAny_bind (zip_free hz hf fun b hb fb zb sb => ?_)
  replace zb : ZipO hb z TI TO f0 fb := zb
  replace sb : Heap.SameBut z hp hb := sb
  have tb : IsTupOf2 hb TO a1 a2 := sb.extBut _ _ S.TOz hTO
  have u1 : St1 i hb := D1.over st1 sb S.zf1
  have u2 : St2 i hb := D2.over st2 sb S.zf2
  have kb : ∀ c o, c ≠ z → hp.get? c = some o → hb.get? c = some o := fun c o hc e => sb.extBut _ _ hc e
  have eb : hb.objs.size = hp.objs.size := sb.1
  cases b with
  | true =>
    simp only [if_true]
    refine wpAny_bind (wpAny_rule ?_)
    refine wpAny_bind (wpAny_field zb rfl (x := .ref TO) rfl ?_)
    refine wpAny_bind (wpAny_setField_rec (s := ⟨hb, gs, dr, t0, os⟩) zb (by simp) fun h0 z0 s0 => ?_)
    replace z0 : ZipO h0 z TI TO .ellipsis fb := z0
    replace s0 : Heap.SameBut z hb h0 := s0
    refine wpAny_bind ?_
    simp only [List.zipIdx_cons, List.zipIdx_nil, List.forIn_cons, List.forIn_nil]
    refine wpAny_bind (wpAny_bind (wpAny_onRaise ?_))
    show wpAny _ _ (Builtin.SmallTypes.nextOf (.ref i1) >>= _) _ _ ⟨h0, gs, dr, t0, os⟩
    refine wpAny_bind (D1.item i _ _ _ l1 (D1.over u1 s0 S.zf1) fun x1 h1 t1 y1 v1 q1 => wpAny_pure ?_)
    replace q1 : Heap.SameBut i1 h0 h1 := q1
    have w1 : IsTupOf2 h1 TO a1 a2 := q1.extBut _ _ S.Ti1 (s0.extBut _ _ S.TOz tb)
    refine wpAny_bind (wpAny_seqItems (s := ⟨h1, gs, dr, t1, os⟩) w1 rfl ?_)
    refine wpAny_bind (updateSeq_IsTupOf2 (s := ⟨h1, gs, dr, t1, os⟩) w1 fun h2 w2 q2 => ?_)
    replace w2 : IsTupOf2 h2 TO x1 a2 := w2
    replace q2 : Heap.SameBut TO h1 h2 := q2
    refine wpAny_bind (wpAny_letGo (wpAny_pure ?_))
    refine wpAny_bind (wpAny_bind (wpAny_onRaise ?_))
    show wpAny _ _ (Builtin.SmallTypes.nextOf (.ref i2) >>= _) _ _ ⟨h2, gs, dr, t1, os⟩
    refine wpAny_bind (D2.item i _ _ _ l2 (D2.over (D2.over (D2.over u2 s0 S.zf2) q1 S.sep1_2) q2 S.Tf2) fun x2 h3 t2 y2 v2 q3 => wpAny_pure ?_)
    replace q3 : Heap.SameBut i2 h2 h3 := q3
    have w3 : IsTupOf2 h3 TO x1 a2 := q3.extBut _ _ S.Ti2 w2
    refine wpAny_bind (wpAny_seqItems (s := ⟨h3, gs, dr, t2, os⟩) w3 rfl ?_)
    refine wpAny_bind (updateSeq_IsTupOf2 (s := ⟨h3, gs, dr, t2, os⟩) w3 fun h4 w4 q4 => ?_)
    replace w4 : IsTupOf2 h4 TO x1 x2 := w4
    replace q4 : Heap.SameBut TO h3 h4 := q4
    refine wpAny_bind (wpAny_letGo (wpAny_pure (wpAny_pure ?_)))
    refine wpAny_bind (wpAny_seqItems (s := ⟨h4, gs, dr, t2, os⟩) w4 rfl ?_)
    refine wpAny_bind (wpAny_newTuple ?_)
    have ez : h4.objs.size = hp.objs.size := by rw [q4.1, q3.1, q2.1, q1.1, s0.1, eb]
    have z4 : ZipO h4 z TI TO .ellipsis fb := q4.extBut _ _ S.TOz.symm (q3.extBut _ _ S.zi2 (q2.extBut _ _ S.TOz.symm (q1.extBut _ _ S.zi1 z0)))
    have k4 : ∀ c o, c ≠ z → c ≠ TO → c ≠ i1 → c ≠ i2 → hp.get? c = some o → h4.get? c = some o := fun c o cz cT c1 c2 e =>
      q4.extBut _ _ cT (q3.extBut _ _ c2 (q2.extBut _ _ cT (q1.extBut _ _ c1 (s0.extBut _ _ cz (kb c o cz e)))))
    have v1' : St1 (i + 1) h4 := D1.over (D1.over (D1.over v1 q2 S.Tf1) q3 S.sep2_1) q4 S.Tf1
    have v2' : St2 (i + 1) h4 := D2.over v2 q4 S.Tf2
    have lz : z < h4.objs.size := Heap.lt_size z4
    show wpAny _ _ (Builtin.SmallTypes.ownedTupleHandOut (.ref z) (.ref h4.objs.size) >>= _) _ _ ⟨h4.push { cls := .type "tuple", data := .seq #[x1, x2] }, gs, dr, t2, os⟩
    refine wpAny_bind ?_
    unfold Builtin.SmallTypes.ownedTupleHandOut
    have z5 : ZipO (h4.push { cls := .type "tuple", data := .seq #[x1, x2] }) z TI TO .ellipsis fb := Heap.get?_push_of_some _ z4
    refine wpAny_bind (wpAny_setField_rec z5 (by simp) fun h6 z6 q6 => ?_)
    replace z6 : ZipO h6 z TI TO (rawInt h4.objs.size) fb := z6
    refine wpAny_setField_rec z6 (by simp) fun h7 z7 q7 => ?_
    replace z7 : ZipO h7 z TI TO (rawInt h4.objs.size) false := z7
    replace q6 : Heap.SameBut z (h4.push { cls := .type "tuple", data := .seq #[x1, x2] }) h6 := q6
    replace q7 : Heap.SameBut z h6 h7 := q7
    have up : ∀ c o, c ≠ z → h4.get? c = some o → h7.get? c = some o := fun c o c1 e => q7.extBut _ _ c1 (q6.extBut _ _ c1 (Heap.get?_push_of_some _ e))
    have w7 : IsTupOf2 h7 h4.objs.size x1 x2 := q7.extBut _ _ (Nat.ne_of_gt lz) (q6.extBut _ _ (Nat.ne_of_gt lz) (Heap.get?_push_size _ rfl))
    have e7 : h7.objs.size = h4.objs.size + 1 := by rw [q7.1, q6.1, Heap.size_push]
    rw [ez] at w7 e7
    refine wpAny_pure ⟨_, rfl, ?_⟩
    show Q (.ref h4.objs.size) ⟨h7, gs, dr, t2, os⟩
    rw [ez]
    exact hQ x1 x2 h7 t2 y1 y2 ⟨⟨_, _, z7, .inr ⟨_, rfl⟩⟩, ⟨_, _, up _ _ S.TOz w4⟩, D1.frame _ _ _ v1' fun b hb' o e => up b o (fun q => S.zf1 (q ▸ hb')) e, D2.frame _ _ _ v2' fun b hb' o e => up b o (fun q => S.zf2 (q ▸ hb')) e, w7, e7,
      fun c o cz cT c1 c2 e => up c o cz (k4 c o cz cT c1 c2 e)⟩
  | false =>
    simp only [Bool.false_eq_true, if_false]
    refine wpAny_bind ?_
    rw [← Array.forIn_toList]
    simp only [List.forIn_cons, List.forIn_nil]
    refine wpAny_bind (wpAny_bind (wpAny_holding ?_))
    show wpAny _ _ (Builtin.SmallTypes.nextOf (.ref i1) >>= _) _ _ ⟨hb, gs, dr, t0, os⟩
    refine wpAny_bind (D1.item i _ _ _ l1 u1 fun x1 h1 t1 y1 v1 q1 => wpAny_pure ?_)
    replace q1 : Heap.SameBut i1 hb h1 := q1
    refine wpAny_pure ?_
    refine wpAny_bind (wpAny_bind (wpAny_holding ?_))
    show wpAny _ _ (Builtin.SmallTypes.nextOf (.ref i2) >>= _) _ _ ⟨h1, gs, dr, t1, os⟩
    refine wpAny_bind (D2.item i _ _ _ l2 (D2.over u2 q1 S.sep1_2) fun x2 h2 t2 y2 v2 q2 => wpAny_pure ?_)
    replace q2 : Heap.SameBut i2 h1 h2 := q2
    refine wpAny_pure (wpAny_pure ?_)
    show wpAny _ _ (newTuple [x1, x2] >>= _) _ _ ⟨h2, gs, dr, t2, os⟩
    refine wpAny_bind (wpAny_newTuple ?_)
    have ez : h2.objs.size = hp.objs.size := by rw [q2.1, q1.1, eb]
    have up : ∀ c o, h2.get? c = some o → (h2.push { cls := .type "tuple", data := .seq #[x1, x2] }).get? c = some o := fun c o e => Heap.get?_push_of_some _ e
    have w7 : IsTupOf2 (h2.push { cls := .type "tuple", data := .seq #[x1, x2] }) h2.objs.size x1 x2 := Heap.get?_push_size _ rfl
    have e7 : (h2.push { cls := .type "tuple", data := .seq #[x1, x2] }).objs.size = h2.objs.size + 1 := Heap.size_push ..
    refine wpAny_pure ⟨_, rfl, ?_⟩
    show Q (.ref h2.objs.size) ⟨h2.push { cls := .type "tuple", data := .seq #[x1, x2] }, gs, dr, t2, os⟩
    rw [ez] at w7 e7 ⊢
    exact hQ x1 x2 _ t2 y1 y2 ⟨⟨f0, fb, up _ _ (q2.extBut _ _ S.zi2 (q1.extBut _ _ S.zi1 zb)), hf⟩, ⟨_, _, up _ _ (q2.extBut _ _ S.Ti2 (q1.extBut _ _ S.Ti1 tb))⟩,
      D1.frame _ _ _ (D1.over v1 q2 S.sep2_1) fun b _ o e => up b o e, D2.frame _ _ _ v2 fun b _ o e => up b o e, w7, e7, fun c o cz cT c1 c2 e => up _ _ (q2.extBut _ _ c2 (q1.extBut _ _ c1 (kb c o cz e)))⟩
theorem zip_done {Q : PySem.Fin → Shared → Prop} (S : ZipSep2 z TI TO i1 i2 fp1 fp2) (D1 : Draws prog w A i1 fp1 n1 P1 St1) (D2 : Draws prog w A i2 fp2 n2 P2 St2)
    (hz : ZipO s.heap z TI TO f0 fl) (hf : Out f0) (hTI : IsTupOf2 s.heap TI (.ref i1) (.ref i2)) (hTO : IsTupOf2 s.heap TO a1 a2) (st1 : St1 i s.heap) (st2 : St2 i s.heap) (l1 : i ≤ n1) (l2 : i ≤ n2) (le : i = n1 ∨ i = n2)
    (hE : ∀ h' tk e, (∀ c o, c ≠ z → c ≠ TO → c ≠ i1 → c ≠ i2 → s.heap.get? c = some o → h'.get? c = some o) → (∃ o, h'.get? e = some o ∧ o.cls = .type "StopIteration") → E (.ref e) { s with heap := h', toks := tk }) :
    wpAny (model prog w) A (Builtin.«zip.__next__» ⟨[.ref z], []⟩) Q E s := by
  obtain ⟨hp, gs, dr, t0, os⟩ := s
  show wpAny _ _ (field (.ref z) 2 >>= _) _ _ _
  refine wpAny_bind (wpAny_field hz rfl (x := .bool false) rfl ?_)
  show wpAny _ _ (field (.ref z) 3 >>= _) _ _ _
  refine wpAny_bind (wpAny_field hz rfl (x := .ref TI) rfl ?_)
  refine wpAny_bind (wpAny_seqItems hTI rfl ?_)
  show wpAny _ _ (Builtin.SmallTypes.ownedTupleIsFree (.ref z) >>= _) _ _ _
  refine wpAny_bind (zip_free hz hf fun b hb fb zb sb => ?_)
  replace zb : ZipO hb z TI TO f0 fb := zb
  replace sb : Heap.SameBut z hp hb := sb
  have tb : IsTupOf2 hb TO a1 a2 := sb.extBut _ _ S.TOz hTO
  have u1 : St1 i hb := D1.over st1 sb S.zf1
  have u2 : St2 i hb := D2.over st2 sb S.zf2
  have kb : ∀ c o, c ≠ z → hp.get? c = some o → hb.get? c = some o := fun c o hc e => sb.extBut _ _ hc e
  cases b with
  | true =>
    simp only [if_true]
    refine wpAny_bind (wpAny_rule ?_)
    refine wpAny_bind (wpAny_field zb rfl (x := .ref TO) rfl ?_)
    refine wpAny_bind (wpAny_setField_rec (s := ⟨hb, gs, dr, t0, os⟩) zb (by simp) fun h0 z0 s0 => ?_)
    replace z0 : ZipO h0 z TI TO .ellipsis fb := z0
    replace s0 : Heap.SameBut z hb h0 := s0
    refine wpAny_bind ?_
    simp only [List.zipIdx_cons, List.zipIdx_nil, List.forIn_cons, List.forIn_nil]
    refine wpAny_bind (wpAny_bind (wpAny_onRaise ?_))
    show wpAny _ _ (Builtin.SmallTypes.nextOf (.ref i1) >>= _) _ _ ⟨h0, gs, dr, t0, os⟩
    by_cases more : i < n1
    · refine wpAny_bind (D1.item i _ _ _ more (D1.over u1 s0 S.zf1) fun x1 h1 t1 y1 v1 q1 => wpAny_pure ?_)
      replace q1 : Heap.SameBut i1 h0 h1 := q1
      have w1 : IsTupOf2 h1 TO a1 a2 := q1.extBut _ _ S.Ti1 (s0.extBut _ _ S.TOz tb)
      refine wpAny_bind (wpAny_seqItems (s := ⟨h1, gs, dr, t1, os⟩) w1 rfl ?_)
      refine wpAny_bind (updateSeq_IsTupOf2 (s := ⟨h1, gs, dr, t1, os⟩) w1 fun h2 w2 q2 => ?_)
      replace q2 : Heap.SameBut TO h1 h2 := q2
      refine wpAny_bind (wpAny_letGo (wpAny_pure ?_))
      have last : i = n2 := by omega
      refine wpAny_bind (wpAny_bind (wpAny_onRaise ?_))
      show wpAny _ _ (Builtin.SmallTypes.nextOf (.ref i2) >>= _) _ _ ⟨h2, gs, dr, t1, os⟩
      refine wpAny_bind (D2.done ⟨h2, gs, dr, t1, os⟩ _ _ (by rw [← last]; exact D2.over (D2.over (D2.over u2 s0 S.zf2) q1 S.sep1_2) q2 S.Tf2) fun h3 e q3 he => ?_)
      replace q3 : Heap.ExtBut i2 h2 h3 := q3
      obtain ⟨oe, hoe, hce⟩ := he
      replace hoe : h3.get? e = some oe := hoe
      have z3 : ZipO h3 z TI TO .ellipsis fb := q3 _ _ S.zi2 (q2.extBut _ _ S.TOz.symm (q1.extBut _ _ S.zi1 z0))
      have ez : e ≠ z := fun y => by rw [y, z3] at hoe; cases hoe; simp at hce
      refine wpAny_setField_rec (s := ⟨h3, gs, dr, t1, os⟩) z3 (by simp) fun h4 _ q4 => ?_
      replace q4 : Heap.SameBut z h3 h4 := q4
      exact hE h4 t1 e (fun c o cz cT c1 c2 y => q4.extBut _ _ cz (q3 _ _ c2 (q2.extBut _ _ cT (q1.extBut _ _ c1 (s0.extBut _ _ cz (kb c o cz y)))))) ⟨oe, q4.extBut _ _ ez hoe, hce⟩
    · have last : i = n1 := by omega
      refine wpAny_bind (D1.done ⟨h0, gs, dr, t0, os⟩ _ _ (by rw [← last]; exact D1.over u1 s0 S.zf1) fun h3 e q3 he => ?_)
      replace q3 : Heap.ExtBut i1 h0 h3 := q3
      obtain ⟨oe, hoe, hce⟩ := he
      replace hoe : h3.get? e = some oe := hoe
      have z3 : ZipO h3 z TI TO .ellipsis fb := q3 _ _ S.zi1 z0
      have ez : e ≠ z := fun y => by rw [y, z3] at hoe; cases hoe; simp at hce
      refine wpAny_setField_rec (s := ⟨h3, gs, dr, t0, os⟩) z3 (by simp) fun h4 _ q4 => ?_
      replace q4 : Heap.SameBut z h3 h4 := q4
      exact hE h4 t0 e (fun c o cz cT c1 c2 y => q4.extBut _ _ cz (q3 _ _ c1 (s0.extBut _ _ cz (kb c o cz y)))) ⟨oe, q4.extBut _ _ ez hoe, hce⟩
  | false =>
    simp only [Bool.false_eq_true, if_false]
    refine wpAny_bind ?_
    rw [← Array.forIn_toList]
    simp only [List.forIn_cons, List.forIn_nil]
    refine wpAny_bind (wpAny_bind (wpAny_holding ?_))
    show wpAny _ _ (Builtin.SmallTypes.nextOf (.ref i1) >>= _) _ _ ⟨hb, gs, dr, t0, os⟩
    by_cases more : i < n1
    · refine wpAny_bind (D1.item i _ _ _ more u1 fun x1 h1 t1 y1 v1 q1 => wpAny_pure ?_)
      replace q1 : Heap.SameBut i1 hb h1 := q1
      have last : i = n2 := by omega
      refine wpAny_pure ?_
      refine wpAny_bind (wpAny_bind (wpAny_holding ?_))
      show wpAny _ _ (Builtin.SmallTypes.nextOf (.ref i2) >>= _) _ _ ⟨h1, gs, dr, t1, os⟩
      refine wpAny_bind (D2.done ⟨h1, gs, dr, t1, os⟩ _ _ (by rw [← last]; exact D2.over u2 q1 S.sep1_2) fun h3 e q3 he => ?_)
      exact hE h3 t1 e (fun c o cz cT c1 c2 y => q3 _ _ c2 (q1.extBut _ _ c1 (kb c o cz y))) he
    · have last : i = n1 := by omega
      refine wpAny_bind (D1.done ⟨hb, gs, dr, t0, os⟩ _ _ (by rw [← last]; exact u1) fun h3 e q3 he => ?_)
      exact hE h3 t0 e (fun c o cz cT c1 c2 y => q3 _ _ c1 (kb c o cz y)) he
end
end MP.Raw
set_option Elab.async false
set_option linter.all false
set_option maxRecDepth 100000
set_option maxHeartbeats 4000000
namespace MP.Raw
open PySem
section
variable {prog : Program} {w : World} {A : Around} {E : Value → Shared → Prop} {s : Shared} {z TI TO i1 i2 e : Addr} {fp1 fp2 : List Addr} {n1 n2 i : Nat} {P1 P2 : Nat → Value → Prop} {St1 St2 : Nat → Heap → Prop} {a1 a2 f0 old : Value} {fl : Bool} {c : Int}
theorem zip_nextOf {Q : Value → Shared → Prop} (S : ZipSep2 z TI TO i1 i2 fp1 fp2) (D1 : Draws prog w A.in1 i1 fp1 n1 P1 St1) (D2 : Draws prog w A.in1 i2 fp2 n2 P2 St2)
    (hz : ZipO s.heap z TI TO f0 fl) (hf : Out f0) (hTI : IsTupOf2 s.heap TI (.ref i1) (.ref i2)) (hTO : IsTupOf2 s.heap TO a1 a2) (st1 : St1 i s.heap) (st2 : St2 i s.heap) (l1 : i < n1) (l2 : i < n2)
    (hQ : ∀ x1 x2 h' tk, P1 i x1 → P2 i x2 → ZipLeft s z TI TO i1 i2 i St1 St2 s.heap.objs.size x1 x2 h' → Q (.ref s.heap.objs.size) { s with heap := h', toks := tk }) :
    wpAny (model prog w) A (Builtin.SmallTypes.nextOf (.ref z)) Q E s := by
  have ty : s.TypeIs (.ref z) "zip" := ⟨_, hz, rfl⟩
  unfold Builtin.SmallTypes.nextOf
  exact wpAny_bind (wpAny_callSpecial?_slot (name := Str.ofString "__next__") ty F.slot_zip_next
    (wpAny_call_entry F.slot_zip_next ty F.entry_zip_next (zip_item S D1 D2 hz hf hTI hTO st1 st2 l1 l2 fun x1 x2 h' tk y1 y2 L => wpAny_pure (hQ x1 x2 h' tk y1 y2 L)) (F.args_zip_next_1 _)))
theorem zip_nextEnd {Q : Value → Shared → Prop} (S : ZipSep2 z TI TO i1 i2 fp1 fp2) (D1 : Draws prog w A.in1 i1 fp1 n1 P1 St1) (D2 : Draws prog w A.in1 i2 fp2 n2 P2 St2)
    (hz : ZipO s.heap z TI TO f0 fl) (hf : Out f0) (hTI : IsTupOf2 s.heap TI (.ref i1) (.ref i2)) (hTO : IsTupOf2 s.heap TO a1 a2) (st1 : St1 i s.heap) (st2 : St2 i s.heap) (l1 : i ≤ n1) (l2 : i ≤ n2) (le : i = n1 ∨ i = n2)
    (hE : ∀ h' tk e, (∀ c o, c ≠ z → c ≠ TO → c ≠ i1 → c ≠ i2 → s.heap.get? c = some o → h'.get? c = some o) → (∃ o, h'.get? e = some o ∧ o.cls = .type "StopIteration") → E (.ref e) { s with heap := h', toks := tk }) :
    wpAny (model prog w) A (Builtin.SmallTypes.nextOf (.ref z)) Q E s := by
  have ty : s.TypeIs (.ref z) "zip" := ⟨_, hz, rfl⟩
  unfold Builtin.SmallTypes.nextOf
  exact wpAny_bind (wpAny_callSpecial?_slot (name := Str.ofString "__next__") ty F.slot_zip_next
    (wpAny_call_entry F.slot_zip_next ty F.entry_zip_next (zip_done S D1 D2 hz hf hTI hTO st1 st2 l1 l2 le hE) (F.args_zip_next_1 _)))
/-- the cells of the enumerate lie apart, too -/
structure EzApart (e z TI TO i1 i2 : Addr) (fp1 fp2 : List Addr) : Prop where
  ez : e ≠ z
  eI : e ≠ TI
  eO : e ≠ TO
  e1 : e ∉ fp1
  e2 : e ∉ fp2
  m1 : e ≠ i1
  m2 : e ≠ i2
structure EzLeft (s : Shared) (e z TI TO i1 i2 : Addr) (i : Nat) (c : Int) (St1 St2 : Nat → Heap → Prop) (T1 T : Addr) (t : Tok) (x1 x2 : Value) (h' : Heap) : Prop where
  enum : IsEnumOut h' e z (c + 1) (.ref T1) T
  zip : ∃ f0 fl, ZipO h' z TI TO f0 fl ∧ Out f0
  ins : IsTupOf2 h' TI (.ref i1) (.ref i2)
  out : ∃ b1 b2, IsTupOf2 h' TO b1 b2
  st1 : St1 (i + 1) h'
  st2 : St2 (i + 1) h'
  new1 : s.heap.objs.size ≤ T1
  lt : T1 < T
  tup1 : IsTupOf2 h' T1 x1 x2
  tup : IsTupOf2 h' T (.int c t) (.ref T1)
  keep : ∀ b o, b ≠ e → b ≠ z → b ≠ TO → b ≠ i1 → b ≠ i2 → s.heap.get? b = some o → h'.get? b = some o
theorem ez_item {Q : Value → Shared → Prop} (S : ZipSep2 z TI TO i1 i2 fp1 fp2) (Ap : EzApart e z TI TO i1 i2 fp1 fp2) (D1 : Draws prog w A.in1 i1 fp1 n1 P1 St1) (D2 : Draws prog w A.in1 i2 fp2 n2 P2 St2)
    (he : IsEnum s.heap e z c old) (hz : ZipO s.heap z TI TO f0 fl) (hf : Out f0) (hTI : IsTupOf2 s.heap TI (.ref i1) (.ref i2)) (hTO : IsTupOf2 s.heap TO a1 a2) (st1 : St1 i s.heap) (st2 : St2 i s.heap) (l1 : i < n1) (l2 : i < n2)
    (hQ : ∀ x1 x2 T1 T t h' tk, P1 i x1 → P2 i x2 → EzLeft s e z TI TO i1 i2 i c St1 St2 T1 T t x1 x2 h' → Q (.ref T) { s with heap := h', toks := tk }) :
    wpAny (model prog w) A (Builtin.«enumerate.__next__» ⟨[.ref e], []⟩) (fun fin s' => ∃ v, fin = .done (.ret v) ∧ Q v s') E s := by
  obtain ⟨hp, gs, dr, t0, os⟩ := s
  show wpAny _ _ (field (.ref e) 2 >>= _) _ _ _
  refine wpAny_bind (wpAny_field he rfl (x := .ref z) rfl ?_)
  refine wpAny_bind (zip_nextOf S D1 D2 hz hf hTI hTO st1 st2 l1 l2 fun x1 x2 h1 t1 y1 y2 L => ?_)
  obtain ⟨⟨f1, fl1, z1, o1⟩, ⟨b1, b2, w1⟩, v1, v2, p1, ez1, k1⟩ := L
  replace p1 : IsTupOf2 h1 hp.objs.size x1 x2 := p1
  replace ez1 : h1.objs.size = hp.objs.size + 1 := ez1
  replace k1 : ∀ c o, c ≠ z → c ≠ TO → c ≠ i1 → c ≠ i2 → hp.get? c = some o → h1.get? c = some o := k1
  replace he : IsEnum hp e z c old := he
  replace hTI : IsTupOf2 hp TI (.ref i1) (.ref i2) := hTI
  have e1 : IsEnum h1 e z c old := k1 _ _ Ap.ez Ap.eO Ap.m1 Ap.m2 he
  have j1 : IsTupOf2 h1 TI (.ref i1) (.ref i2) := k1 _ _ S.TIz S.TITO S.TIi1 S.TIi2 hTI
  show wpAny _ _ (field (.ref e) 3 >>= _) _ _ ⟨h1, gs, dr, t1, os⟩
  refine wpAny_bind (wpAny_field e1 rfl (x := rawInt c) rfl ?_)
  show wpAny _ _ (field (.ref e) 4 >>= _) _ _ ⟨h1, gs, dr, t1, os⟩
  refine wpAny_bind (wpAny_field e1 rfl (x := .none) rfl ?_)
  show wpAny _ _ (mkInt c >>= _) _ _ ⟨h1, gs, dr, t1, os⟩
  refine wpAny_bind (wpAny_mkInt ?_)
  show wpAny _ _ (setField (.ref e) 3 (rawInt (c + 1)) >>= _) _ _ ⟨h1, gs, dr, t1 + 1, os⟩
  refine wpAny_bind (wpAny_setField_rec e1 (by simp) fun h2 e2 q2 => ?_)
  replace q2 : Heap.SameBut e h1 h2 := q2
  replace e2 : IsEnum h2 e z (c + 1) old := e2
  show wpAny _ _ (setField (.ref e) 4 .none >>= _) _ _ ⟨h2, gs, dr, t1 + 1, os⟩
  refine wpAny_bind (wpAny_setField_rec e2 (by simp) fun h3 e3 q3 => ?_)
  replace q3 : Heap.SameBut e h2 h3 := q3
  replace e3 : IsEnum h3 e z (c + 1) old := e3
  show wpAny _ _ (newTuple [.int c t1, .ref hp.objs.size] >>= _) _ _ ⟨h3, gs, dr, t1 + 1, os⟩
  refine wpAny_bind (wpAny_newTuple ?_)
  have e4 : IsEnum (h3.push { cls := .type "tuple", data := .seq #[.int c t1, .ref hp.objs.size] }) e z (c + 1) old := Heap.get?_push_of_some _ e3
  have n3 : h3.objs.size = hp.objs.size + 1 := by rw [q3.1, q2.1, ez1]
  have lt : e < hp.objs.size := Heap.lt_size he
  have p4 : (h3.push { cls := .type "tuple", data := .seq #[.int c t1, .ref hp.objs.size] }).get? h3.objs.size = some { cls := .type "tuple", data := .seq #[.int c t1, .ref hp.objs.size] } := Heap.get?_push_size _ rfl
  have up4 : ∀ b o, b ≠ e → h1.get? b = some o → (h3.push { cls := .type "tuple", data := .seq #[.int c t1, .ref hp.objs.size] }).get? b = some o := fun b o hb q => Heap.get?_push_of_some _ (q3.extBut _ _ hb (q2.extBut _ _ hb q))
  rw [n3] at p4
  generalize h3.push { cls := .type "tuple", data := .seq #[.int c t1, .ref hp.objs.size] } = h4 at e4 p4 up4
  show wpAny _ _ (Builtin.SmallTypes.ownedTupleIsFree (.ref e) >>= _) _ _ ⟨h4, gs, dr, t1 + 1, os⟩
  rw [n3]
  refine wpAny_bind ?_
  unfold Builtin.SmallTypes.ownedTupleIsFree
  refine wpAny_bind (wpAny_field e4 rfl (x := .none) rfl (wpAny_pure ?_))
  simp only [if_true]
  refine wpAny_bind (wpAny_rule ?_)
  refine wpAny_bind (wpAny_field e4 rfl (x := old) rfl ?_)
  refine wpAny_bind (wpAny_setField_rec (s := ⟨h4, gs, dr, t1 + 1, os⟩) e4 (by simp) fun h5 e5 q5 => ?_)
  replace q5 : Heap.SameBut e h4 h5 := q5
  replace e5 : IsEnum h5 e z (c + 1) (.ref hp.objs.size) := e5
  show wpAny _ _ (Builtin.SmallTypes.ownedTupleHandOut (.ref e) (.ref (hp.objs.size + 1)) >>= _) _ _ ⟨h5, gs, dr, t1 + 1, os⟩
  refine wpAny_bind ?_
  unfold Builtin.SmallTypes.ownedTupleHandOut
  refine wpAny_bind (wpAny_setField_rec (s := ⟨h5, gs, dr, t1 + 1, os⟩) e5 (by simp) fun h6 e6 q6 => ?_)
  replace q6 : Heap.SameBut e h5 h6 := q6
  replace e6 : IsEnumOut h6 e z (c + 1) (.ref hp.objs.size) (hp.objs.size + 1) := e6
  refine wpAny_setField_rec (s := ⟨h6, gs, dr, t1 + 1, os⟩) e6 (by simp) fun h7 e7 q7 => ?_
  replace q7 : Heap.SameBut e h6 h7 := q7
  replace e7 : IsEnumOut h7 e z (c + 1) (.ref hp.objs.size) (hp.objs.size + 1) := e7
  have up7 : ∀ b o, b ≠ e → h4.get? b = some o → h7.get? b = some o := fun b o hb q => q7.extBut _ _ hb (q6.extBut _ _ hb (q5.extBut _ _ hb q))
  have up : ∀ b o, b ≠ e → h1.get? b = some o → h7.get? b = some o := fun b o hb q => up7 b o hb (up4 b o hb q)
  refine wpAny_bind (wpAny_letGo (wpAny_pure ⟨_, rfl, hQ x1 x2 hp.objs.size (hp.objs.size + 1) t1 h7 _ y1 y2 ⟨e7, ⟨f1, fl1, up _ _ Ap.ez.symm z1, o1⟩, up _ _ Ap.eI.symm j1, ⟨b1, b2, up _ _ Ap.eO.symm w1⟩, ?_, ?_, Nat.le_refl _, Nat.lt_succ_self _, up _ _ (Nat.ne_of_gt lt) p1, ?_, ?_⟩⟩))
  · exact D1.frame _ _ _ v1 fun b hb o q => up b o (fun y => Ap.e1 (y ▸ hb)) q
  · exact D2.frame _ _ _ v2 fun b hb o q => up b o (fun y => Ap.e2 (y ▸ hb)) q
  · exact up7 _ _ (Nat.ne_of_gt (Nat.lt_succ_of_lt lt)) p4
  · exact fun b o b0 b1 b2 b3 b4 q => up b o b0 (k1 b o b1 b2 b3 b4 q)
end
end MP.Raw
set_option Elab.async false
set_option linter.all false
set_option maxRecDepth 100000
set_option maxHeartbeats 4000000
namespace MP.Raw
open PySem
section
variable {prog : Program} {w : World} {A : Around} {E : Value → Shared → Prop} {s : Shared} {z TI TO i1 i2 e : Addr} {fp1 fp2 : List Addr} {n1 n2 i : Nat} {P1 P2 : Nat → Value → Prop} {St1 St2 : Nat → Heap → Prop} {a1 a2 f0 old : Value} {fl : Bool} {c : Int}
theorem ez_next {Q : Option Value → Shared → Prop} (S : ZipSep2 z TI TO i1 i2 fp1 fp2) (Ap : EzApart e z TI TO i1 i2 fp1 fp2) (D1 : Draws prog w A.in1.in1 i1 fp1 n1 P1 St1) (D2 : Draws prog w A.in1.in1 i2 fp2 n2 P2 St2)
    (he : IsEnum s.heap e z c old) (hz : ZipO s.heap z TI TO f0 fl) (hf : Out f0) (hTI : IsTupOf2 s.heap TI (.ref i1) (.ref i2)) (hTO : IsTupOf2 s.heap TO a1 a2) (st1 : St1 i s.heap) (st2 : St2 i s.heap) (l1 : i < n1) (l2 : i < n2)
    (hQ : ∀ x1 x2 T1 T t h' tk, P1 i x1 → P2 i x2 → EzLeft s e z TI TO i1 i2 i c St1 St2 T1 T t x1 x2 h' → Q (some (.ref T)) { s with heap := h', toks := tk }) :
    wpAny (model prog w) A (pyNext (.ref e)) Q E s := by
  have ty : s.TypeIs (.ref e) "enumerate" := ⟨_, he, rfl⟩
  unfold pyNext
  exact wpAny_bind (wpAny_attempt (wpAny_callSpecial?_slot (name := Str.ofString "__next__") ty F.slot_enumerate_next
    (wpAny_call_entry F.slot_enumerate_next ty F.entry_enumerate_next (ez_item S Ap D1 D2 he hz hf hTI hTO st1 st2 l1 l2 fun x1 x2 T1 T t h' tk y1 y2 L => wpAny_pure (hQ x1 x2 T1 T t h' tk y1 y2 L)) (F.args_enumerate_next_1 _))))
theorem ez_end {Q : Option Value → Shared → Prop} (S : ZipSep2 z TI TO i1 i2 fp1 fp2) (D1 : Draws prog w A.in1.in1 i1 fp1 n1 P1 St1) (D2 : Draws prog w A.in1.in1 i2 fp2 n2 P2 St2)
    (he : IsEnum s.heap e z c old) (hz : ZipO s.heap z TI TO f0 fl) (hf : Out f0) (hTI : IsTupOf2 s.heap TI (.ref i1) (.ref i2)) (hTO : IsTupOf2 s.heap TO a1 a2) (st1 : St1 i s.heap) (st2 : St2 i s.heap) (l1 : i ≤ n1) (l2 : i ≤ n2) (le : i = n1 ∨ i = n2)
    (hQ : ∀ h' tk, (∀ b o, b ≠ z → b ≠ TO → b ≠ i1 → b ≠ i2 → s.heap.get? b = some o → h'.get? b = some o) → Q none { s with heap := h', toks := tk }) :
    wpAny (model prog w) A (pyNext (.ref e)) Q E s := by
  have ty : s.TypeIs (.ref e) "enumerate" := ⟨_, he, rfl⟩
  unfold pyNext
  refine wpAny_bind (wpAny_attempt (wpAny_callSpecial?_slot (name := Str.ofString "__next__") ty F.slot_enumerate_next
    (wpAny_call_entry F.slot_enumerate_next ty F.entry_enumerate_next ?_ (F.args_enumerate_next_1 _))))
  show wpAny _ _ (field (.ref e) 2 >>= _) _ _ _
  refine wpAny_bind (wpAny_field he rfl (x := .ref z) rfl ?_)
  refine wpAny_bind (zip_nextEnd S D1 D2 hz hf hTI hTO st1 st2 l1 l2 le fun h' tk x k hx => ?_)
  obtain ⟨o, ho, hc⟩ := hx
  exact wpAny_bind (wpAny_isInstance (T := "StopIteration") (b := true) ⟨o, ho, hc⟩ isSubtype_stop (wpAny_pure (hQ _ _ k)))
end
end MP.Raw
namespace MP
open PySem PySem.Spec PyProof.Rows L2
theorem enum_newS {v : Value} {Hh : Heap → Prop} (B : ∀ (prog : Program) (w : World) (A : Around) (Q E : Value → Shared → Prop) (s : Shared), Hh s.heap → Q v s → wpAny (model prog w) A (pyIter v) Q E s) : Meets (Builtin.«enumerate.__new__» ⟨[.type "enumerate", v], []⟩) (fun _ R s => Hh s.heap ∧
    R (.ok (.ret (.ref s.heap.objs.size))) { s with heap := s.heap.push { cls := .type "enumerate", data := .fields #[.none, .bool false, v, rawInt 0, .none, .none] } }) :=
  .of_wp fun prog w A R s h => by
    obtain ⟨hp, g, d, tk, os⟩ := s
    obtain ⟨h1, h⟩ := h
    have hsub := sub_enumerate
    have it : ∀ {A' : Around} {E Q : Value → Shared → Prop}, Q v ⟨hp, g, d, tk, os⟩ → wpAny (model prog w) A' (pyIter v) Q E ⟨hp, g, d, tk, os⟩ := fun q => B prog w _ _ _ ⟨hp, g, d, tk, os⟩ h1 q
    wp_walk using it
    refine wpAny_stack_any fun st => wpAny_pure ?_
    split
    · rename_i c _ _ _ _ _
      cases (c == Value.type "enumerate") <;> (wp_walk using it; exact ⟨_, rfl, h⟩)
    · wp_walk using it
      exact ⟨_, rfl, h⟩
section
variable {prog : Program} {w : World} {A : Around} {E : Value → Shared → Prop} {s : Shared}
theorem enum_callS {z : Addr} {Hh : Heap → Prop} {Q : Value → Shared → Prop} (B : ∀ (prog : Program) (w : World) (A : Around) (Q E : Value → Shared → Prop) (s : Shared), Hh s.heap → Q (.ref z) s → wpAny (model prog w) A (pyIter (.ref z)) Q E s) (h1 : Hh s.heap)
    (h : ∀ h', IsEnum h' s.heap.objs.size z 0 .none → (∀ b o, s.heap.get? b = some o → h'.get? b = some o) → Q (.ref s.heap.objs.size) { s with heap := h' }) :
    wpAny (model prog w) A (call (.type "enumerate") [.ref z]) Q E s := by
  refine callType_new F.called_enumerate (by decide) (F.typeCall_enumerate_1 _) (F.newCall_enumerate_1 _) (fun obj => F.args_object_init_2 obj _) F.entry_enumerate_new (enum_newS B) ⟨h1, ?_⟩
  have e := Heap.get?_push_size s.heap (o := { cls := .type "enumerate", data := .fields #[.none, .bool false, .ref z, rawInt 0, .none, .none] }) rfl
  exact ⟨⟨_, e, rfl⟩, h _ e fun b o x => Heap.get?_push_of_some _ x⟩
end
end MP
set_option Elab.async false
set_option linter.all false
set_option maxRecDepth 100000
set_option maxHeartbeats 4000000
namespace MP
open PySem PySem.Spec PyProof.Rows L2 MP.Raw
def JEz (K : PySem.W.Frag) (t u : Bool) (a b : Addr) : It :=
  ⟨fun i H => ∃ (xs ys : List V) (x y : V), SqX K H t a xs ∧ SqX K H u b ys ∧ xs[i]? = some x ∧ ys[i]? = some y,
   fun i H v H' => ∃ T1 T x y, v = .ref T ∧ H T1 = none ∧ H T = none ∧ T1 ≠ T ∧ H' = upd (upd H T1 (.tup [x, y])) T (.tup [.int (i : Nat), .ref T1]) ∧ (∀ xs, SqX K H t a xs → xs[i]? = some x) ∧ ∀ ys, SqX K H u b ys → ys[i]? = some y,
   fun i H => ∃ xs ys : List V, SqX K H t a xs ∧ SqX K H u b ys ∧ min xs.length ys.length = i⟩
structure EzTn (t u : Bool) (a b : Addr) (N : Nat) (i : Nat) (h : Heap) : Prop where
  enum : ∃ old, IsEnum h (N + 5) (N + 4) (i : Int) old
  zip : ∃ f0 fl, ZipO h (N + 4) (N + 2) (N + 3) f0 fl ∧ Out f0
  ins : IsTupOf2 h (N + 2) (.ref N) (.ref (N + 1))
  out : ∃ x y, IsTupOf2 h (N + 3) x y
  it1 : ItX h t N a i
  it2 : ItX h u (N + 1) b i
theorem ez_apart {a b N : Nat} (la : a < N) (lb : b < N) : EzApart (N + 5) (N + 4) (N + 2) (N + 3) N (N + 1) [N, a] [N + 1, b] := by
  have h : ∀ k c : Nat, c < N + k → N + k ≠ c := fun k c h => Nat.ne_of_gt h
  refine ⟨h 5 (N + 4) (by omega), h 5 (N + 2) (by omega), h 5 (N + 3) (by omega), fun m => ?_, fun m => ?_, h 5 N (by omega), h 5 (N + 1) (by omega)⟩
  · rcases List.mem_cons.mp m with e | e
    · exact h 5 N (by omega) e
    · exact h 5 a (by omega) (List.mem_singleton.mp e)
  · rcases List.mem_cons.mp m with e | e
    · exact h 5 (N + 1) (by omega) e
    · exact h 5 b (by omega) (List.mem_singleton.mp e)
theorem turn_ezX {P : Program} {w : World} {K : PySem.W.Frag} {elts : List Expr} {kk : Nat} {tpos : Pos} {t u : Bool} {a b : Addr} {N : Nat} (la : a < N) (lb : b < N) :
    Turn P w K (.Tuple elts kk tpos) (JEz K t u a b) [N + 5, N + 4, N + 2, N + 3, N, N + 1] (N + 5) (EzTn t u a b N) where
  mem := by simp
  obj := fun i h st c hc => by
    obtain ⟨⟨old, he⟩, ⟨f0, fl, hz, _⟩, hTI, ⟨x, y, hTO⟩, h1, h2⟩ := st
    have e : c = N + 5 ∨ c = N + 4 ∨ c = N + 2 ∨ c = N + 3 ∨ c = N ∨ c = N + 1 := by simpa using hc
    rcases e with q | q | q | q | q | q
    · rw [q]; exact ⟨_, he, fun v q => nomatch q⟩
    · rw [q]; exact ⟨_, hz, fun v q => nomatch q⟩
    · rw [q]; exact ⟨_, hTI, fun v q => nomatch q⟩
    · rw [q]; exact ⟨_, hTO, fun v q => nomatch q⟩
    · rw [q]; exact h1.obj
    · rw [q]; exact h2.obj
  keep := fun i h h' st k => by
    obtain ⟨⟨old, he⟩, ⟨f0, fl, hz, hf⟩, hTI, ⟨x, y, hTO⟩, h1, h2⟩ := st
    exact ⟨⟨old, k _ (by simp) _ he⟩, ⟨f0, fl, k _ (by simp) _ hz, hf⟩, k _ (by simp) _ hTI, ⟨x, y, k _ (by simp) _ hTO⟩, h1.at fun o q => k N (by simp) o q, h2.at fun o q => k (N + 1) (by simp) o q⟩
  item := by
    intro X hP hw hK hc i pins s σ H E I hf st hg
    subst hP hw hK
    obtain ⟨xs, ys, x, y, hqx, hqy, hx, hy⟩ := hg
    obtain ⟨its, rv, p, _⟩ := hqx.has I
    obtain ⟨its2, rv2, p2, _⟩ := hqy.has I
    obtain ⟨v1, hv1, r1⟩ := rv.get hx
    obtain ⟨v2, hv2, r2⟩ := rv2.get hy
    have hh : X.A.in1.in1.handled = none := I.ok.hd hc
    have sep := zip_sep2 (N := N) (fp1 := [a]) (fp2 := [b]) (by simpa using la) (by simpa using lb)
    obtain ⟨⟨old, he⟩, ⟨f0, fl, hz, hfo⟩, hTI, ⟨b1, b2, hTO⟩, h1, h2⟩ := id st
    have l1 := (List.getElem?_eq_some_iff.mp hv1).1
    have l2 := (List.getElem?_eq_some_iff.mp hv2).1
    have le : N + 5 < s.heap.objs.size := Heap.lt_size he
    refine ez_next sep (ez_apart la lb) (drawsX hh t N a (Nat.ne_of_lt la) its.toArray) (drawsX hh u (N + 1) b (Nat.ne_of_lt (Nat.lt_succ_of_lt lb)) its2.toArray) he hz hfo hTI hTO ⟨h1, p⟩ ⟨h2, p2⟩ (by simpa using l1) (by simpa using l2) fun x1 x2 T1 T tk1 h' tk e1 e2 L => ⟨_, rfl, ?_⟩
    obtain ⟨en, zp, ins, out, s1, s2, n1, lt, t1, t2, kp⟩ := L
    refine wpAny_letOwnedTupleGo_enum (s := { s with heap := h', toks := tk }) en fun h2' en' same => ?_
    have e1' : its[i]? = some x1 := by simpa using e1
    have e2' : its2[i]? = some x2 := by simpa using e2
    rw [hv1] at e1'
    rw [hv2] at e2'
    cases e1'
    cases e2'
    replace same : Heap.SameBut (N + 5) h' h2' := same
    have nT1 : T1 ≠ N + 5 := Nat.ne_of_gt (Nat.lt_of_lt_of_le le n1)
    have nT : T ≠ N + 5 := Nat.ne_of_gt (Nat.lt_trans (Nat.lt_of_lt_of_le le n1) lt)
    have k2 : ∀ c o, c ∉ [N + 5, N + 4, N + 2, N + 3, N, N + 1] → s.heap.get? c = some o → h2'.get? c = some o := fun c o hc q => by
      have hc' : c ≠ N + 5 ∧ c ≠ N + 4 ∧ c ≠ N + 2 ∧ c ≠ N + 3 ∧ c ≠ N ∧ c ≠ N + 1 := by simpa using hc
      exact same.extBut _ _ hc'.1 (kp c o hc'.1 hc'.2.1 hc'.2.2.2.1 hc'.2.2.2.2.1 hc'.2.2.2.2.2 q)
    have g1 : h2'.IsTuple T1 #[v1, v2] := ⟨_, same.extBut _ _ nT1 t1, rfl, _, rfl⟩
    have g2 : h2'.IsTuple T #[.int (i : Int) tk1, .ref T1] := ⟨_, same.extBut _ _ nT t2, rfl, _, rfl⟩
    have two : 2 ≤ sizeLine := by rw [sizeLine_eq]; decide
    have f1 : H T1 = none := I.hok.fresh n1
    have nTs : s.heap.objs.size ≤ T := Nat.le_trans n1 (Nat.le_of_lt lt)
    have f2 : H T = none := I.hok.fresh nTs
    have f2' : upd H T1 (.tup [x, y]) T = none := by rw [upd_ne (Nat.ne_of_gt lt)]; exact f2
    have new2 : ObjOk X.prog X.w (upd (upd H T1 (.tup [x, y])) T (.tup [.int (i : Nat), .ref T1])) h2' T (.tup [.int (i : Nat), .ref T1]) := ⟨two, [.int (i : Int) tk1, .ref T1], .cons ⟨tk1, rfl⟩ (.cons rfl .nil), g2⟩
    obtain ⟨G, ga, gn⟩ := restrict h2' fun b => decide (b ≠ T)
    have ga' : ∀ b, b ≠ T → G.get? b = h2'.get? b := fun b hb => ga b (decide_eq_true hb)
    have gn' : G.get? T = none := gn T (by simp)
    have kG : ∀ b o, G.get? b = some o → h2'.get? b = some o := fun b o q => by
      by_cases hb : b = T
      · rw [hb, gn'] at q; cases q
      · rw [← ga' b hb]; exact q
    have J1 : Inv X pins σ (upd H T1 (.tup [x, y])) { s with heap := G, toks := tk } := I.turnedNew (ch := [N + 5, N + 4, N + 2, N + 3, N, N + 1]) (fun c o hc q => by
      rw [ga' c (Nat.ne_of_lt (Nat.lt_of_lt_of_le (Heap.lt_size q) nTs))]
      exact k2 c o hc q) hf n1 ⟨two, [v1, v2], .cons r1 (.cons r2 .nil), ⟨_, (ga' T1 (Nat.ne_of_lt lt)).trans (same.extBut _ _ nT1 t1), rfl, _, rfl⟩⟩
    have J2 : Inv X pins σ (upd (upd H T1 (.tup [x, y])) T (.tup [.int (i : Nat), .ref T1])) { s with heap := h2', toks := tk } := J1.laidN (t' := tk) (h' := h2') kG gn' f2' new2
    refine ⟨.ref T, _, J2, rfl, ⟨T1, T, x, y, rfl, f1, f2, Nat.ne_of_lt lt, rfl, fun l hl => by rw [SqX.inj I hl hqx]; exact hx, fun l hl => by rw [SqX.inj I hl hqy]; exact hy⟩, ?_, fun c hc => ?_⟩
    · obtain ⟨f0', fl', zp1, zp2⟩ := zp
      obtain ⟨o1, o2, zo⟩ := out
      have ne : ∀ k : Nat, k < 5 → N + k ≠ N + 5 := fun k hk => Nat.ne_of_lt (by omega)
      exact ⟨⟨_, en'⟩, ⟨f0', fl', same.extBut _ _ (ne 4 (by omega)) zp1, zp2⟩, same.extBut _ _ (ne 2 (by omega)) ins, ⟨o1, o2, same.extBut _ _ (ne 3 (by omega)) zo⟩, s1.1.at fun o q => same.extBut _ _ (ne 0 (by omega)) q, s2.1.at fun o q => same.extBut _ _ (ne 1 (by omega)) q⟩
    · have hl : c < s.heap.objs.size := by
        have e : c = N + 5 ∨ c = N + 4 ∨ c = N + 2 ∨ c = N + 3 ∨ c = N ∨ c = N + 1 := by simpa using hc
        have hle : c ≤ N + 5 := by rcases e with q | q | q | q | q | q <;> (rw [q]; simp)
        exact Nat.lt_of_le_of_lt hle le
      rw [upd_ne (Nat.ne_of_lt (Nat.lt_of_lt_of_le hl nTs)), upd_ne (Nat.ne_of_lt (Nat.lt_of_lt_of_le hl n1))]
      exact (hf c hc).1
  done := by
    intro X hP hw hK hc i pins s σ H E I hf st hg
    subst hP hw hK
    obtain ⟨xs, ys, hqx, hqy, hend⟩ := hg
    obtain ⟨its, rv, p, _⟩ := hqx.has I
    obtain ⟨its2, rv2, p2, _⟩ := hqy.has I
    have hh : X.A.in1.in1.handled = none := I.ok.hd hc
    have sep := zip_sep2 (N := N) (fp1 := [a]) (fp2 := [b]) (by simpa using la) (by simpa using lb)
    obtain ⟨⟨old, he⟩, ⟨f0, fl, hz, hfo⟩, hTI, ⟨b1, b2, hTO⟩, h1, h2⟩ := id st
    have l1 := rv.length
    have l2 := rv2.length
    refine ez_end sep (drawsX hh t N a (Nat.ne_of_lt la) its.toArray) (drawsX hh u (N + 1) b (Nat.ne_of_lt (Nat.lt_succ_of_lt lb)) its2.toArray) he hz hfo hTI hTO ⟨h1, p⟩ ⟨h2, p2⟩ (by simp; omega) (by simp; omega) (by simp; omega) fun h' tk hk => ⟨rfl, I.turnedL (ch := [N + 5, N + 4, N + 2, N + 3, N, N + 1]) (fun c o hb q => ?_) hf⟩
    have hc' : c ≠ N + 5 ∧ c ≠ N + 4 ∧ c ≠ N + 2 ∧ c ≠ N + 3 ∧ c ≠ N ∧ c ≠ N + 1 := by simpa using hb
    exact hk c o hc'.2.1 hc'.2.2.2.1 hc'.2.2.2.2.1 hc'.2.2.2.2.2 q
  self := fun A i s Q E st h => by
    obtain ⟨_, he⟩ := st.enum
    exact wpAny_pyIter_enum he h
section
variable {X : Cx} {Γ : Ct} {W : WX}
def iEzG (K : PySem.W.Frag) (ta : TA) : TI := fun σ H R => ta σ H fun vs H1 => ∃ t u a b xs ys, vs = [.ref a, .ref b] ∧ SqX K H1 t a xs ∧ SqX K H1 u b ys ∧ R (JEz K t u a b) H1
theorem pi_ezG {e e2 : Expr} {ta : TA} {p p2 pos pos2 tpos : Pos} {elts : List Expr} {kk : Nat} (hg : Gl X "zip") (hm : X.mg "zip" = none) (hge : Gl X "enumerate") (hme : X.mg "enumerate" = none) (ha : PA X [e, e2] ta)
    (hs : starEach [e, e2] X.env = (false, eval e X.env) :: starEach [e2] X.env := by rfl) (hpl : (backTo pos2 (starEach [e2] X.env)).any (·.1) = false := by rfl)
    (hse : starEach [.Call (.Name "zip" p2) [e, e2] [] pos2] X.env = [(false, eval (.Call (.Name "zip" p2) [e, e2] [] pos2) X.env)] := by rfl) :
    PI X (.Tuple elts kk tpos) (.Call (.Name "enumerate" p) [.Call (.Name "zip" p2) [e, e2] [] pos2] [] pos) (iEzG X.K ta) := by
  refine ⟨fun pins s σ H R I h => ?_⟩
  refine Call_ (ld_blt I hge hme boot_enumerate (callWith_type1 ?_ hse rfl))
  rw [hse]
  refine Calls.spliced_cons ?_
  refine Call_ (ld_blt I hg hm boot_zip (callWith_type1 (thn (ha.run pos2 pins s σ H _ I h) fun us s1 ⟨vs, H1, I1, r1, q1⟩ => ?_) hs hpl))
  obtain ⟨t, u, a, b, xs, ys, rfl, hqx, hqy, q⟩ := q1
  obtain ⟨v, us', rfl, rfl⟩ : ∃ v us', us = v :: us' ∧ v = Value.ref a := by cases r1 with | cons r rr => exact ⟨_, _, rfl, r⟩
  obtain ⟨v', rfl, rfl⟩ : ∃ v', us' = [v'] ∧ v' = Value.ref b := by
    cases r1 with
    | cons r rr => cases rr with
      | cons r' rr' => cases rr'; exact ⟨_, rfl, r'⟩
  obtain ⟨its, rv, p1, la⟩ := hqx.has I1
  obtain ⟨its2, rv2, p2, lb⟩ := hqy.has I1
  refine zip_begins2 (beginsX t a its.toArray) (beginsX u b its2.toArray) p1 p2 fun h' hz hTI hTO h1 h2 sz hk => ?_
  refine Calls.spliced_nil ?_
  refine enum_callS (s := { s1 with heap := h' }) (Hh := fun h => IsZip h (s1.heap.objs.size + 4) (s1.heap.objs.size + 2) (s1.heap.objs.size + 3) .none) (fun prog w A Q E s hz q => wpAny_pyIter_zip hz q) hz fun h'' he hk2 => wpAny_pyIter_enum he ?_
  have sz' : h'.objs.size = s1.heap.objs.size + 5 := sz
  have kk : ∀ b o, s1.heap.get? b = some o → h''.get? b = some o := fun b o z => hk2 b o (hk b o z)
  have I2 : Inv X pins σ H1 { s1 with heap := h'' } := I1.kept (t' := s1.toks) kk
  have he' : IsEnum h'' (s1.heap.objs.size + 5) (s1.heap.objs.size + 4) ((0 : Nat) : Int) .none := sz' ▸ he
  refine ⟨_, [s1.heap.objs.size + 5, s1.heap.objs.size + 4, s1.heap.objs.size + 2, s1.heap.objs.size + 3, s1.heap.objs.size, s1.heap.objs.size + 1], _, _, H1, by rw [sz'], I2, turn_ezX la lb, ⟨⟨_, he'⟩, ⟨_, _, hk2 _ _ hz, .inl rfl⟩, hk2 _ _ hTI, ⟨_, _, hk2 _ _ hTO⟩, ?_, ?_⟩, fun c hc => ?_, q⟩
  · unfold ItX
    cases t with
    | true => exact ⟨_, hk2 _ _ h1, rfl, rfl⟩
    | false => exact ⟨_, hk2 _ _ h1, rfl, rfl⟩
  · unfold ItX
    cases u with
    | true => exact ⟨_, hk2 _ _ h2, rfl, rfl⟩
    | false => exact ⟨_, hk2 _ _ h2, rfl, rfl⟩
  · have e' : c = s1.heap.objs.size + 5 ∨ c = s1.heap.objs.size + 4 ∨ c = s1.heap.objs.size + 2 ∨ c = s1.heap.objs.size + 3 ∨ c = s1.heap.objs.size ∨ c = s1.heap.objs.size + 1 := by simpa using hc
    have hle : s1.heap.objs.size ≤ c := by rcases e' with z | z | z | z | z | z <;> (rw [z]; first | exact Nat.le_refl _ | exact Nat.le_add_right _ _)
    exact I1.fpOk hle (I1.hok.fresh hle)
/-- rows of (i, (a, b)) -/
def iEz (fa : FA) : FI := fun ρ s => (fa ρ s).bind fun ws s1 => match ws with
  | [x, y] => match plainOf x, plainOf y with
    | some (_, a), some (_, b) => .ok { ws := enumD 0 (zipD a b) } s1
    | _, _ => .no
  | _ => .no
theorem mi_ez {e e2 : Expr} {fa : FA} {p p2 pos pos2 tpos : Pos} {elts : List Expr} {kk : Nat} (hK : Γ.K = X.K) (hg : Gl X "zip") (hm : X.mg "zip" = none) (hge : Gl X "enumerate") (hme : X.mg "enumerate" = none) (ha : MA X Γ W [e, e2] fa)
    (hs : starEach [e, e2] X.env = (false, eval e X.env) :: starEach [e2] X.env := by rfl) (hpl : (backTo pos2 (starEach [e2] X.env)).any (·.1) = false := by rfl)
    (hse : starEach [.Call (.Name "zip" p2) [e, e2] [] pos2] X.env = [(false, eval (.Call (.Name "zip" p2) [e, e2] [] pos2) X.env)] := by rfl) :
    MI X Γ W (.Tuple elts kk tpos) (.Call (.Name "enumerate" p) [.Call (.Name "zip" p2) [e, e2] [] pos2] [] pos) (iEz fa) :=
  PI.imp (pi_ezG hg hm hge hme ha hs hpl hse) fun σ H Q ⟨μ, Z, ρ, s, hE, hR, q⟩ => iA hE hR q fun ws s1 vs H1 μ1 e1 E1 R1 r1 q1 => by
    split at q1
    · rename_i x y
      split at q1
      · rename_i t a u b qx qy
        obtain ⟨v, v', rfl, rx, ry⟩ := two r1
        obtain ⟨pa, xs, rfl, r2, k2⟩ := plain_ok rx qx
        obtain ⟨pb, ys, rfl, r3, k3⟩ := plain_ok ry qy
        rw [← hK]
        refine ⟨t, u, pa, pb, xs, ys, rfl, k2 _ _ Evo.refl.z, k3 _ _ Evo.refl.z, q1 _ _ _ .refl R1 fun H' μ' Z' s' ev hR' hy hz _ => ⟨⟨xs, ys, k2 _ _ ev, k3 _ _ ev, by rw [enumD_len, zipD_len, r2.len, r3.len]⟩, fun i w hi => ?_⟩⟩
        obtain ⟨w', g0, rfl⟩ := enumD_get hi
        obtain ⟨x', y', g1, g2, rfl⟩ := zipD_get g0
        obtain ⟨ux, h1, h2⟩ := r2.get g1
        obtain ⟨uy, h3, h4⟩ := r3.get g2
        refine ⟨⟨xs, ys, ux, uy, k2 _ _ ev, k3 _ _ ev, h1, h3⟩, fun z H'' hq => ?_⟩
        obtain ⟨T1, T, zx, zy, rfl, hT1, hT, hne, rfl, j1, j2⟩ := hq
        have e3 := j1 xs (k2 _ _ ev)
        have e4 := j2 ys (k3 _ _ ev)
        rw [h1] at e3
        rw [h3] at e4
        cases e3
        cases e4
        have hT' : upd H' T1 (.tup [ux, uy]) T = none := by rw [upd_ne hne.symm]; exact hT
        have R1' := hR'.laid (o := .tup [ux, uy]) hT1
        have pair : RV Γ (upd H' T1 (.tup [ux, uy])) μ' Z' (.tup [x', y']) (.ref T1) := new_tup hR' hT1 (RVs.cons ((RV.strong hz _ h2).monoZ (ev.more hy)) (RVs.cons ((RV.strong hz _ h4).monoZ (ev.more hy)) RVs.nil))
        rw [Nat.zero_add]
        exact ⟨(Evo.laid hT1).trans (Evo.laid hT'), R1'.laid hT', new_tup R1' hT' (RVs.cons (w := .int (i : Nat)) rfl (RVs.cons pair RVs.nil))⟩
      · exact q1.elim
    · exact q1.elim
end
end MP
set_option Elab.async false
set_option linter.all false
set_option maxRecDepth 100000
set_option maxHeartbeats 4000000
namespace MP
open PySem PySem.Spec PyProof.Rows L2
section
variable {X : Cx} {pins : List (Addr × Obj)} {σ : L2.St} {H : Hp} {s : Shared}
abbrev Fzn (o : Obj) : HO := .frz o (.own 0)
end
/-- a lambda, as it is written -/
structure LamW where
  params : Arguments
  body : Expr
  scope : Scope
/-- at f: that lambda, made by the def at hand -/
def LamAt (X : Cx) (L : LamW) (H : Hp) (μ : Mu) (Z : Zs) (f : Addr) : Prop := ∃ (c' : Addr) (dV doc ctv : Value) (tl : List (Addr × Obj)),
  H f = some (Fzn (lamObj (X.env.qual ++ "<lambda>") L.params L.body L.scope (cloFrom X.env.cells L.scope.names []) dV doc ((X.mg "__name__").getD .none) c' ctv)) ∧ Fz μ Z f ∧ H c' = some (LamX.CodeO c' (X.env.qual ++ "<lambda>")) ∧ Fz μ Z c' ∧
  (∀ p ∈ tl, H p.1 = some (Fzn p.2) ∧ Fz μ Z p.1) ∧
  ∀ s1 : Shared, (∀ p ∈ tl, s1.heap.get? p.1 = some p.2) → ∃ binds, BindsTo s1 (lamFd (X.env.qual ++ "<lambda>") L.params L.body L.scope (cloFrom X.env.cells L.scope.names []) dV doc ((X.mg "__name__").getD .none) c' ctv) ⟨[], []⟩ binds ∧ ∀ y ∈ binds, L.scope.names.lookup y.1 = some .local
theorem LamAt.mono {X : Cx} {L : LamW} {H H' : Hp} {μ μ' : Mu} {Z : Zs} {f : Addr} (e : Evo H μ H' μ') (h : LamAt X L H μ Z f) : LamAt X L H' μ' Z f := by
  obtain ⟨c', dV, doc, ctv, tl, h1, h2, h3, h4, h5, h6⟩ := h
  have al : ∀ {a : Addr} {o : HO}, H a = some o → H a ≠ none := fun q z => by rw [q] at z; cases z
  exact ⟨c', dV, doc, ctv, tl, e.keep _ _ h1 h2.1, e.fz (al h1) h2, e.keep _ _ h3 h4.1, e.fz (al h3) h4, fun p hp => ⟨e.keep _ _ (h5 p hp).1 (h5 p hp).2.1, e.fz (al (h5 p hp).1) (h5 p hp).2⟩, h6⟩
end MP
set_option Elab.async false
set_option linter.all false
set_option maxRecDepth 100000
set_option maxHeartbeats 4000000
namespace MP
open PySem PySem.Spec PyProof.Rows L2
mutual
def KRV (K : PySem.W.Frag) : Dv → Value → Prop
  | .int i, u => ∃ t, u = .int i t
  | .str x, u => ∃ t, u = .str x t
  | .tup ws, u => ∃ (a : Addr) (o : Obj) (its : Array Value) (n : Nat), u = .ref a ∧ K.lookup a = some o ∧ o.cls = .type "tuple" ∧ o.data = .seq its n ∧ its.size ≤ sizeLine ∧ KRVs K ws its.toList
  | _, _ => False
def KRVs (K : PySem.W.Frag) : List Dv → List Value → Prop
  | [], us => us = []
  | w :: ws, us => ∃ u r, us = u :: r ∧ KRV K w u ∧ KRVs K ws r
end
mutual
theorem krv_ok {Γ : Ct} {H : Hp} {μ : Mu} {Z : Zs} : ∀ (w : Dv) {u : Value}, KRV Γ.K w u → ∃ v, RelV v u ∧ RV Γ H μ Z w v
  | .int i, _, h => ⟨.int i, h, rfl⟩
  | .str x, _, h => ⟨.str x, h, rfl⟩
  | .tup ws, _, h => by
    obtain ⟨a, o, its, n, rfl, h1, h2, h3, h4, h5⟩ := h
    obtain ⟨vs, g1, g2⟩ := krvs_ok (Γ := Γ) (H := H) (μ := μ) (Z := Z) ws h5
    exact ⟨.ref a, rfl, a, vs, rfl, .inr ⟨o, its, n, h1, h2, h3, h4, g1⟩, g2⟩
  | .non, _, h => h.elim
  | .bl _, _, h => h.elim
  | .ty _, _, h => h.elim
  | .cl _, _, h => h.elim
  | .ref _, _, h => h.elim
  | .lst _, _, h => h.elim
  | .sq _, _, h => h.elim
  | .dct _ _, _, h => h.elim
  | .exc _ _ _, _, h => h.elim
  | .exn _, _, h => h.elim
  | .clo _ _ _ _ _, _, h => h.elim
theorem krvs_ok {Γ : Ct} {H : Hp} {μ : Mu} {Z : Zs} : ∀ (ws : List Dv) {us : List Value}, KRVs Γ.K ws us → ∃ vs, Vals vs us ∧ RVs Γ H μ Z ws vs
  | [], _, h => by rw [show _ = [] from h]; exact ⟨[], .nil, rfl⟩
  | w :: ws, _, h => by
    obtain ⟨u, r, rfl, h1, h2⟩ := h
    obtain ⟨v, g1, g2⟩ := krv_ok (Γ := Γ) (H := H) (μ := μ) (Z := Z) w h1
    obtain ⟨vs, g3, g4⟩ := krvs_ok (Γ := Γ) (H := H) (μ := μ) (Z := Z) ws h2
    exact ⟨v :: vs, .cons g1 g3, RVs.cons g2 g4⟩
end
mutual
def krvB (K : PySem.W.Frag) : Dv → Value → Bool
  | .int i, .int j _ => decide (i = j)
  | .str x, .str y _ => decide (x = y)
  | .tup ws, .ref a => match K.lookup a with
    | some ⟨.type T, _, .seq its _, _⟩ => decide (T = "tuple") && (decide (its.size ≤ 1000) && krvsB K ws its.toList)
    | _ => false
  | _, _ => false
def krvsB (K : PySem.W.Frag) : List Dv → List Value → Bool
  | [], [] => true
  | w :: ws, u :: us => krvB K w u && krvsB K ws us
  | _, _ => false
end
mutual
theorem krvB_ok {K : PySem.W.Frag} : ∀ (w : Dv) {u : Value}, krvB K w u = true → KRV K w u
  | .int i, u, h => by
    cases u <;> first | (exact ⟨_, by rw [of_decide_eq_true h]⟩) | (simp [krvB] at h)
  | .str x, u, h => by
    cases u <;> first | (exact ⟨_, by rw [of_decide_eq_true h]⟩) | (simp [krvB] at h)
  | .tup ws, u, h => by
    cases u with
    | ref a =>
      unfold krvB at h
      split at h
      · rename_i T od its n sl e
        rw [Bool.and_eq_true, Bool.and_eq_true] at h
        obtain ⟨h1, h2, h3⟩ := h
        exact ⟨a, _, its, n, rfl, e, by rw [of_decide_eq_true h1], rfl, Nat.le_trans (of_decide_eq_true h2) (by rw [sizeLine_eq]; decide), krvsB_ok ws h3⟩
      · cases h
    | _ => simp [krvB] at h
  | .non, u, h => by cases u <;> simp [krvB] at h
  | .bl _, u, h => by cases u <;> simp [krvB] at h
  | .ty _, u, h => by cases u <;> simp [krvB] at h
  | .cl _, u, h => by cases u <;> simp [krvB] at h
  | .ref _, u, h => by cases u <;> simp [krvB] at h
  | .lst _, u, h => by cases u <;> simp [krvB] at h
  | .sq _, u, h => by cases u <;> simp [krvB] at h
  | .dct _ _, u, h => by cases u <;> simp [krvB] at h
  | .exc _ _ _, u, h => by cases u <;> simp [krvB] at h
  | .exn _, u, h => by cases u <;> simp [krvB] at h
  | .clo _ _ _ _ _, u, h => by cases u <;> simp [krvB] at h
theorem krvsB_ok {K : PySem.W.Frag} : ∀ (ws : List Dv) {us : List Value}, krvsB K ws us = true → KRVs K ws us
  | [], us, h => by
    cases us with
    | nil => rfl
    | cons _ _ => simp [krvsB] at h
  | w :: ws, us, h => by
    cases us with
    | nil => simp [krvsB] at h
    | cons u r =>
      simp only [krvsB, Bool.and_eq_true] at h
      exact ⟨u, r, rfl, krvB_ok w h.1, krvsB_ok ws h.2⟩
end
theorem me_globT {X : Cx} {Γ : Ct} {W : WX} {x : Str} {w : Dv} {pos : Pos} (hK : Γ.K = X.K) (hg : Gl X x) (hm : ∃ u, X.mg x = some u ∧ KRV Γ.K w u) (hd : (x == ("__debug__" : Str)) = false := by decide) : ME X Γ W (.Name x pos) (mK w) := by
  obtain ⟨u, h, hk⟩ := hm
  refine ⟨fun pins s σ H Q I ⟨μ, Z, ρ, st, hE, hR, q⟩ => ?_⟩
  obtain ⟨v, g1, g2⟩ := krv_ok (Γ := Γ) (H := H) (μ := μ) (Z := Z) w hk
  exact ld_glob I hg h ⟨v, H, I, g1, okE hR g2 q⟩ hd
end MP
namespace MP
open PySem PySem.Spec PyProof.Rows L2
end MP
set_option Elab.async false
set_option linter.all false
set_option maxRecDepth 100000
set_option maxHeartbeats 4000000
namespace MP
open PySem PySem.Spec PyProof.Rows L2
end MP
namespace MP
open PySem PySem.Spec PyProof.Rows L2
end MP
set_option Elab.async false
set_option linter.all false
set_option maxRecDepth 100000
set_option maxHeartbeats 4000000
namespace MP
open PySem PySem.Spec PyProof.Rows L2
end MP
set_option Elab.async false
set_option linter.all false
set_option maxRecDepth 100000
set_option maxHeartbeats 4000000
namespace MP
open PySem PySem.Spec PyProof.Rows L2
section
variable {X : Cx} {Γ : Ct} {W : WX} {c k n : Nat} {g : Addr} {m : Str} {ps ks : List Str} {den : Fn} {o e : Expr} {es : List Expr} {fo f : FE} {fa : FA} {pos apos p : Pos} {kws : List Keyword} {nm : Option Str} {kpos : Pos}
theorem Binds.at {K : PySem.W.Frag} {fd : FuncData} {s : Shared} {us : List Value} (hb : Binds K fd ps []) (hk : K.In s.heap) (hl : us.length = ps.length) : BindsTo s fd ⟨us, []⟩ (ps.zip us) := by
  have := hb s us hk (by rw [List.append_nil]; exact hl)
  rwa [List.append_nil] at this
end
end MP
set_option Elab.async false
set_option linter.all false
set_option maxRecDepth 100000
set_option maxHeartbeats 4000000
namespace MP
open PySem PySem.Spec PyProof.Rows L2
end MP
set_option Elab.async false
set_option linter.all false
set_option maxRecDepth 100000
set_option maxHeartbeats 4000000
namespace MP
open PySem PySem.Spec PyProof.Rows L2
end MP
set_option Elab.async false
set_option linter.all false
set_option maxRecDepth 100000
set_option maxHeartbeats 4000000
namespace MP
open PySem PySem.Spec PyProof.Rows L2
end MP
set_option Elab.async false
set_option linter.all false
set_option maxRecDepth 100000
set_option maxHeartbeats 4000000
namespace MP
open PySem PySem.Spec PyProof.Rows L2
section
variable {prog : Program} {w : World} {A : Around} {E : Value → Shared → Prop} {s : Shared}
theorem sliceApplied_rev {sl : Addr} {vs : Value} {n : Nat} {Q : Int × Int × Nat → Shared → Prop} (hs : s.heap.IsSliceOf sl .none .none vs) (ps : IsPart vs (some (-1)))
    (h : Q ((n : Int) - 1, -1, n) s) : wpAny (model prog w) A (Builtin.Slice.sliceApplied (.ref sl) (pure (n : Int))) Q E s := by
  obtain ⟨os, hos, hcs, hds⟩ := id hs
  unfold Builtin.Slice.sliceApplied Builtin.Slice.sliceFields
  refine wpAny_bind (wpAny_bind (wpAny_field hos hds (x := .none) rfl (wpAny_bind (wpAny_field hos hds (x := .none) rfl (wpAny_bind (wpAny_field hos hds (x := vs) rfl (wpAny_pure ?_)))))))
  refine wpAny_bind (HT.slicePart_ ps ?_)
  show wpAny _ _ (if ((-1 : Int) == 0) = true then _ else _) _ _ s
  rw [if_neg (by decide)]
  refine wpAny_bind (HT.slicePart_ .none (wpAny_bind (HT.slicePart_ .none (wpAny_bind (wpAny_pure ?_)))))
  have e1 : Builtin.Slice.sliceAdjust none none (-1) (n : Int) = ((n : Int) - 1, -1) := by
    unfold Builtin.Slice.sliceAdjust
    rfl
  have e2 : Builtin.Slice.slicePlaces ((n : Int) - 1) (-1) (-1) = n := by
    unfold Builtin.Slice.slicePlaces
    rw [if_neg (by decide)]
    by_cases h0 : (n : Int) - 1 > -1
    · rw [if_pos h0, show (-(-1) : Int) = 1 from rfl, Int.ediv_one]
      omega
    · rw [if_neg h0]
      show 0 = n
      omega
  show wpAny _ _ (match Builtin.Slice.sliceAdjust none none (-1) (n : Int) with | (lo, hi) => pure (lo, (-1 : Int), Builtin.Slice.slicePlaces lo hi (-1))) _ _ s
  rw [e1]
  show wpAny _ _ (pure ((n : Int) - 1, (-1 : Int), Builtin.Slice.slicePlaces ((n : Int) - 1) (-1) (-1))) _ _ s
  rw [e2]
  exact wpAny_pure h
theorem pick_rev (xs : Array Value) : ((List.range xs.size).filterMap fun (m : Nat) => xs[(((xs.size : Int) - 1) + (m : Int) * (-1)).toNat]?).toArray = xs.toList.reverse.toArray := by
  have e : ((List.range xs.size).filterMap fun (m : Nat) => xs[(((xs.size : Int) - 1) + (m : Int) * (-1)).toNat]?) = ((List.range xs.size).map (fun k => xs.size - 1 - k)).filterMap (xs[·]?) := by
    rw [List.filterMap_map]
    congr 1
    funext m
    show xs[(((xs.size : Int) - 1) + (m : Int) * (-1)).toNat]? = xs[xs.size - 1 - m]?
    rw [show (((xs.size : Int) - 1) + (m : Int) * (-1)).toNat = xs.size - 1 - m by omega]
  rw [e, PySem.W.krv_range, List.filterMap_reverse, PySem.W.krv_all]
theorem getItem_tuple_rev {t sl : Addr} {items : Array Value} {vs : Value} {Q : Value → Shared → Prop} (ht : IsTup s.heap t items) (hs : s.heap.IsSliceOf sl .none .none vs) (ps : IsPart vs (some (-1)))
    (h : Q (.ref s.heap.objs.size) { s with heap := s.heap.push { cls := .type "tuple", data := .seq items.toList.reverse.toArray } })
    (hsz : items.size ≤ sizeLine) : wpAny (model prog w) A (getItem (.ref t) (.ref sl)) Q E s := by
  have htake : sizeOk (.seq items.toList.reverse.toArray) := by
    show items.toList.reverse.toArray.size ≤ sizeLine
    rw [List.size_toArray, List.length_reverse, Array.length_toList]
    omega
  obtain ⟨os, hos, hcs, hds⟩ := id hs
  have hTs : s.TypeIs (.ref sl) "slice" := ⟨os, hos, hcs⟩
  unfold getItem
  try with_reducible refine wpAny_holding ?_
  first | refine wpAny_bind (wpAny_pure ?_) | skip
  refine wpAny_bind (wpAny_sequenceKey ht.typeIs (by decide) ?_)
  refine wpAny_bind (wpAny_callSpecial?_slot (name := Str.ofString "__getitem__") ht.typeIs PyProof.Rows.slot_tuple_getitem
    (wpAny_call_entry PyProof.Rows.slot_tuple_getitem ht.typeIs entry_tuple_getitem ?_ (args_tuple_getitem _ _)))
  show wpAny _ _ (Builtin.Tuple.tupleItemsOf (.ref t) >>= _) _ _ s
  refine wpAny_bind (PyProof.Rows.tupleItemsOf_ ht ?_)
  refine wpAny_bind (wpAny_typeOf hTs ?_)
  rw [if_pos (by decide)]
  refine wpAny_bind (sliceApplied_rev hs ps ?_)
  have hno : ¬ ((((items.size : Int) - 1 == 0 && (-1 : Int) == 1 && items.size == items.size)) = true) := by
    rw [show ((-1 : Int) == 1) = false from rfl, Bool.and_false, Bool.false_and]
    exact Bool.false_ne_true
  show wpAny _ _ (if (((items.size : Int) - 1 == 0 && (-1 : Int) == 1 && items.size == items.size)) = true then _ else _) _ _ s
  rw [if_neg hno, pick_rev]
  first
    | exact wpAny_bind (m := Builtin.Tuple.tupleExact _) (wpAny_newObj_type (wpAny_pure ⟨_, rfl, wpAny_pure h⟩) htake)
    | exact wpAny_bind (m := Builtin.Tuple.tupleExact _) (wpAny_newObj_type (wpAny_bind (wpAny_pure (wpAny_pure ⟨_, rfl, wpAny_pure h⟩))) htake)
    | exact wpAny_bind (wpAny_bind (m := Builtin.Tuple.tupleExact _) (wpAny_newObj_type (wpAny_pure (wpAny_pure ⟨_, rfl, wpAny_pure h⟩)) htake))
    | exact wpAny_bind (wpAny_bind (m := Builtin.Tuple.tupleExact _) (wpAny_newObj_type (wpAny_pure ⟨_, rfl, wpAny_pure h⟩) htake))
end
section
variable {X : Cx} {e : Expr} {te : TE}
def tRevT (K : PySem.W.Frag) (te : TE) : TE := fun σ H Q => te σ H fun x H1 => ∃ a xs, x = .ref a ∧ SqT K H1 a xs ∧ ∀ p, H1 p = none → Q (.ref p) (upd H1 p (.tup xs.reverse))
theorem pe_revT {k : Nat} {p1 p2 p3 pos : Pos} (he : PE X e te) : PE X (.Subscript e (.Slice none none (some (.UnaryOp .USub (.Constant (.int 1) k p1) p2)) p3) pos) (tRevT X.K te) := by
  refine ⟨fun pins s σ H Q I h => ?_⟩
  refine Subscript_ (thn (he.run pins s σ H _ I h) fun v s1 ⟨x, H1, I1, r1, q1⟩ => ?_)
  obtain ⟨a, xs, ex, hx, q⟩ := q1
  subst ex
  cases r1
  have hst : PO X (some (.UnaryOp .USub (.Constant (.int 1) k p1) p2)) (tPart (tUn (rU fun i => .int (-i)) (tC (.int 1)))) := po_some (pe_un un_neg pe_int)
  refine wpAny_Slice ?_
  rw [evalPart_none]
  refine wpAny_pure (wpAny_pure ?_)
  refine thn (hst.run pins s1 σ H1 (fun o H4 => o = some (-1) ∧ H4 = H1) I1 ⟨1, rfl, -1, rfl, rfl, rfl⟩) fun vs s4 ⟨o, H4, I4, ps, eo, e4⟩ => ?_
  subst eo e4
  have I5 : Inv X pins σ H4 { s4 with heap := s4.heap.push { cls := .type "slice", data := .fields #[.none, .none, vs] } } := I4.kept (t' := s4.toks) fun b ob q => Heap.get?_push_of_some _ q
  obtain ⟨its, r, ht, hz⟩ := I5.tuple hx
  have hlen := r.length
  show wpAny (model X.prog X.w) X.A (subscriptTail e (.Slice none none (some (.UnaryOp .USub (.Constant (.int 1) k p1) p2)) p3) (.ref a) (.ref s4.heap.objs.size)) (EP X pins σ Q) X.xe { s4 with heap := s4.heap.push { cls := .type "slice", data := .fields #[.none, .none, vs] } }
  refine tail_any (ops := [.ref a, .ref s4.heap.objs.size]) ht.typeIs (PyProof.Rows.slot_tuple_getitem.lookup) ?_ (by with_unfolding_all rfl)
  refine getItem_tuple_rev ht (Heap.IsSliceOf.new _ .none .none vs) ps ?_ (by rw [List.size_toArray]; omega)
  refine ⟨.ref _, _, I5.laid (t' := s4.toks) (o := .tup xs.reverse) (fun b ob q => Heap.get?_push_of_some _ q) (Nat.le_refl _) ?_, rfl, q _ (I5.hok.fresh (Nat.le_refl _))⟩
  exact ⟨by rw [List.length_reverse]; exact hz, _, r.reverse, IsTup.new _ _⟩
end
section
variable {X : Cx} {Γ : Ct} {W : WX} {e a b : Expr} {f g : FE} {pos : Pos}
theorem RVs.rev {H : Hp} {μ : Mu} {Z : Zs} : ∀ {ws : List Dv} {xs : List V}, RVs Γ H μ Z ws xs → RVs Γ H μ Z ws.reverse xs.reverse
  | [], _, h => by rw [show _ = [] from h]; exact rfl
  | w :: ws, _, h => by
    obtain ⟨x, xs, rfl, h2, h3⟩ := h
    rw [List.reverse_cons, List.reverse_cons]
    exact RVs.append (RVs.rev h3) (RVs.cons h2 RVs.nil)
/-- e[::-1] -/
def revD (s : Sto) (x : Dv) : Option Dv := match lstOrSq s x with
  | some ws => some (.lst ws.reverse)
  | none => match x with
    | .tup ws => some (.tup ws.reverse)
    | _ => none
def mRev (f : FE) : FE := fun ρ s => (f ρ s).bind fun x s1 => R.of (revD s1 x) s1
theorem me_rev {k : Nat} {p1 p2 p3 : Pos} (hK : Γ.K = X.K) (he : ME X Γ W e f) : ME X Γ W (.Subscript e (.Slice none none (some (.UnaryOp .USub (.Constant (.int 1) k p1) p2)) p3) pos) (mRev f) :=
  PE.imp (PE.or (pe_revL he) (pe_revT he)) fun σ H Q ⟨μ, Z, ρ, s, hE, hR, q⟩ => by
    have key : (∃ μ Z ρ s, RE Γ H μ Z ρ σ ∧ Rep Γ H μ Z s ∧ PostE Γ W H μ Z σ Q ((f ρ s).bind fun x s1 => R.of ((lstOrSq s1 x).map fun ws => Dv.lst ws.reverse) s1)) ∨ (∃ μ Z ρ s, RE Γ H μ Z ρ σ ∧ Rep Γ H μ Z s ∧ PostE Γ W H μ Z σ Q ((f ρ s).bind fun x s1 => R.of (match x with | .tup ws => some (.tup ws.reverse) | _ => none) s1)) := by
      have q0 : PostE Γ W H μ Z σ Q ((f ρ s).bind fun x s1 => R.of (revD s1 x) s1) := q
      cases e1 : f ρ s with
      | no => rw [e1] at q0; exact q0.elim
      | er x s1 => rw [e1] at q0; exact .inl ⟨μ, Z, ρ, s, hE, hR, by rw [e1]; exact q0⟩
      | ok x s1 =>
        rw [e1, bind_ok] at q0
        cases e2 : lstOrSq s1 x with
        | some ws => exact .inl ⟨μ, Z, ρ, s, hE, hR, by rw [e1, bind_ok, e2]; unfold revD at q0; rw [e2] at q0; exact q0⟩
        | none => exact .inr ⟨μ, Z, ρ, s, hE, hR, by rw [e1, bind_ok]; unfold revD at q0; rw [e2] at q0; exact q0⟩
    rcases key with ⟨μ, Z, ρ, s, hE, hR, q⟩ | ⟨μ, Z, ρ, s, hE, hR, q⟩
    · refine .inl (eE hE hR q fun x s1 u H1 μ1 e1 hE1 R1 r1 q1 => ?_)
      cases e2 : lstOrSq s1 x with
      | none => rw [e2] at q1; exact q1.elim
      | some ws =>
        rw [e2] at q1
        obtain ⟨p, xs, h1, h2, h3⟩ := lstOrSq_ok R1 r1 e2
        refine ⟨p, xs, h1, hK ▸ h2, fun t ht => ?_⟩
        obtain ⟨w, hw, k⟩ := ofE q1
        cases hw
        exact k _ _ (Evo.laid ht) (R1.laid ht) (new_lst R1 ht h3.rev)
    · refine .inr (eE hE hR q fun x s1 u H1 μ1 e1 hE1 R1 r1 q1 => ?_)
      cases x with
      | tup ws =>
        obtain ⟨p, xs, h1, h2, h3⟩ := r1
        refine ⟨p, xs, h1, hK ▸ h2.sq, fun t ht => ?_⟩
        obtain ⟨w, hw, k⟩ := ofE q1
        cases hw
        exact k _ _ (Evo.laid ht) (R1.laid ht) (new_tup R1 ht h3.rev)
      | _ => exact q1.elim
/-- every st-th one from the i-th on -/
def stepL {α : Type} (xs : List α) (i st : Nat) : List α := (List.range ((xs.length - i + (st - 1)) / st)).filterMap fun m => xs[i + m * st]?
theorem step_pick (xs : Array Value) (i st : Nat) (h : 0 < st) : slicePick xs (some (i : Int)) none (some (st : Int)) = (stepL xs.toList i st).toArray := by
  have hs : ((st : Int) > 0) := by omega
  have eb : sliceBounds (some (i : Int)) none (some (st : Int)) xs.size = (((min i xs.size : Nat) : Int), (xs.size : Int), (st : Int)) := by
    unfold sliceBounds
    simp only [Option.getD_some, hs, if_true]
    refine Prod.ext ?_ rfl
    show max (0 : Int) (min (if (i : Int) < 0 then (i : Int) + xs.size else (i : Int)) xs.size) = ((min i xs.size : Nat) : Int)
    rw [if_neg (by omega)]
    omega
  unfold slicePick
  rw [eb]
  unfold sliceRange stepL
  simp only [hs, if_true]
  congr 1
  rw [List.filterMap_map, Array.length_toList]
  by_cases hi : i < xs.size
  · have e1 : ((if ((min i xs.size : Nat) : Int) < (xs.size : Int) then ((xs.size : Int) - ((min i xs.size : Nat) : Int) + (st : Int) - 1) / (st : Int) else 0) : Int).toNat = (xs.size - i + (st - 1)) / st := by
      rw [if_pos (by omega), show ((xs.size : Int) - ((min i xs.size : Nat) : Int) + (st : Int) - 1) = ((xs.size - i + (st - 1) : Nat) : Int) by omega]
      rfl
    rw [e1]
    congr 1
    funext m
    show xs[(((min i xs.size : Nat) : Int) + (st : Int) * (m : Int)).toNat]? = xs.toList[i + m * st]?
    rw [Array.getElem?_toList, show (((min i xs.size : Nat) : Int) + (st : Int) * (m : Int)).toNat = i + m * st by
      rw [Nat.min_eq_left (by omega), Nat.mul_comm m st]
      have : (st : Int) * (m : Int) = ((st * m : Nat) : Int) := by rw [Int.natCast_mul]
      omega]
  · have e1 : ((if ((min i xs.size : Nat) : Int) < (xs.size : Int) then ((xs.size : Int) - ((min i xs.size : Nat) : Int) + (st : Int) - 1) / (st : Int) else 0) : Int).toNat = 0 := by
      rw [if_neg (by omega)]
      rfl
    have e2 : (xs.size - i + (st - 1)) / st = 0 := by
      rw [show xs.size - i = 0 by omega, Nat.zero_add]
      exact Nat.div_eq_of_lt (by omega)
    rw [e1, e2]
    rfl
theorem stepL_len {α : Type} (xs : List α) (i st : Nat) (h : 0 < st) : (stepL xs i st).length ≤ xs.length := by
  unfold stepL
  refine Nat.le_trans (List.length_filterMap_le _ _) ?_
  rw [List.length_range]
  by_cases hi : i < xs.length
  · refine Nat.le_trans ?_ (Nat.sub_le xs.length i)
    exact Nat.lt_succ_iff.mp ((Nat.div_lt_iff_lt_mul h).mpr (by
      have : xs.length - i ≤ (xs.length - i) * st := Nat.le_mul_of_pos_right _ h
      rw [Nat.succ_mul]
      omega))
  · rw [show xs.length - i = 0 by omega, Nat.zero_add, Nat.div_eq_of_lt (by omega)]
    exact Nat.zero_le _
theorem Vals.filterRange {xs : List V} {us : List Value} (r : Vals xs us) (f : Nat → Nat) : ∀ l : List Nat, Vals (l.filterMap fun m => xs[f m]?) (l.filterMap fun m => us[f m]?)
  | [] => .nil
  | m :: l => by
    rw [List.filterMap_cons, List.filterMap_cons]
    have hl := r.length
    by_cases h : f m < xs.length
    · obtain ⟨u, hu, ru⟩ := r.get (List.getElem?_eq_getElem h)
      rw [List.getElem?_eq_getElem h, hu]
      exact .cons ru (Vals.filterRange r f l)
    · rw [List.getElem?_eq_none (by omega), List.getElem?_eq_none (by omega)]
      exact Vals.filterRange r f l
theorem RVs.filterRange {H : Hp} {μ : Mu} {Z : Zs} {ws : List Dv} {xs : List V} (r : RVs Γ H μ Z ws xs) (f : Nat → Nat) : ∀ l : List Nat, RVs Γ H μ Z (l.filterMap fun m => ws[f m]?) (l.filterMap fun m => xs[f m]?)
  | [] => rfl
  | m :: l => by
    rw [List.filterMap_cons, List.filterMap_cons]
    have hl := r.len
    by_cases h : f m < ws.length
    · obtain ⟨u, hu, ru⟩ := r.get (List.getElem?_eq_getElem h)
      rw [List.getElem?_eq_getElem h, hu]
      exact RVs.cons ru (RVs.filterRange r f l)
    · rw [List.getElem?_eq_none (by omega), List.getElem?_eq_none (by omega)]
      exact RVs.filterRange r f l
def tStep (K : PySem.W.Frag) (te tl ts : TE) : TE := fun σ H Q => te σ H fun x H1 => tl σ H1 fun y H2 => ts σ H2 fun z H3 => ∃ (a : Addr) (xs : List V) (i st : Nat), x = .ref a ∧ y = .int (i : Int) ∧ z = .int (st : Int) ∧ 0 < st ∧ SqL K H3 a xs ∧ ∀ p, H3 p = none → Q (.ref p) (upd H3 p (.lst (stepL xs i st)))
theorem pe_step {el est : Expr} {te tl ts : TE} {p3 : Pos} (he : PE X e te) (hl : PE X el tl) (hst : PE X est ts) (hsub : ∀ ops : List Value, True := by intro _; trivial) : PE X (.Subscript e (.Slice (some el) none (some est) p3) pos) (tStep X.K te tl ts) := by
  refine ⟨fun pins s σ H Q I h => ?_⟩
  refine Subscript_ (thn (he.run pins s σ H _ I h) fun v s1 ⟨x, H1, I1, r1, q1⟩ => ?_)
  refine wpAny_Slice ?_
  rw [evalPart_some]
  refine thn (hl.run pins s1 σ H1 _ I1 q1) fun vl s2 ⟨y, H2, I2, r2, q2⟩ => ?_
  rw [evalPart_none]
  refine wpAny_pure ?_
  rw [evalPart_some]
  refine thn (hst.run pins s2 σ H2 _ I2 q2) fun vs s3 ⟨z, H3, I3, r3, q3⟩ => ?_
  obtain ⟨a, xs, i, st, ex, ey, ez, hpos, hx, q⟩ := q3
  subst ex ey ez
  cases r1
  obtain ⟨t2, rfl⟩ := r2
  obtain ⟨t3, rfl⟩ := r3
  have I5 : Inv X pins σ H3 { s3 with heap := s3.heap.push { cls := .type "slice", data := .fields #[.int (i : Int) t2, .none, .int (st : Int) t3] } } := I3.kept (t' := s3.toks) fun b ob q => Heap.get?_push_of_some _ q
  obtain ⟨its, r, ht, hz⟩ := I5.list hx
  have hlen := r.length
  show wpAny (model X.prog X.w) X.A (subscriptTail e (.Slice (some el) none (some est) p3) (.ref a) (.ref s3.heap.objs.size)) (EP X pins σ Q) X.xe { s3 with heap := s3.heap.push { cls := .type "slice", data := .fields #[.int (i : Int) t2, .none, .int (st : Int) t3] } }
  refine tail_any (ops := [.ref a, .ref s3.heap.objs.size]) ht.isList.typeIs (PySem.slot_list_getitem.lookup) ?_ (by with_unfolding_all rfl)
  refine wpAny_getItem_list_slice ht.isList (Heap.IsSliceOf.new _ _ _ _) (.int _ _) .none (.int _ _) (fun z => by have := Option.some.inj z; omega) ?_ (by rw [List.size_toArray]; omega)
  rw [step_pick _ _ _ hpos]
  refine ⟨.ref _, _, I5.laid (t' := s3.toks) (o := .lst (stepL xs i st)) (fun b ob q => Heap.get?_push_of_some _ q) (Nat.le_refl _) ?_, rfl, q _ (I5.hok.fresh (Nat.le_refl _))⟩
  refine ⟨Nat.le_trans (stepL_len _ _ _ hpos) hz, _, 0, ?_, Heap.get?_push_size _ rfl⟩
  have := Vals.filterRange r (fun m => i + m * st) (List.range ((xs.length - i + (st - 1)) / st))
  unfold stepL
  rw [List.toList_toArray, ← hlen]
  exact this
def mStep (f g h : FE) : FE := fun ρ s => (f ρ s).bind fun x s1 => (g ρ s1).bind fun y s2 => (h ρ s2).bind fun z s3 => match lstOrSq s3 x, y, z with
  | some ws, .int i, .int st => if 0 ≤ i ∧ 0 < st then .ok (.lst (stepL ws i.toNat st.toNat)) s3 else .no
  | _, _, _ => .no
theorem me_step {el est : Expr} {g h : FE} {p3 : Pos} (hK : Γ.K = X.K) (he : ME X Γ W e f) (hl : ME X Γ W el g) (hst : ME X Γ W est h) : ME X Γ W (.Subscript e (.Slice (some el) none (some est) p3) pos) (mStep f g h) :=
  PE.imp (pe_step he hl hst) fun σ H Q ⟨μ, Z, ρ, s, hE, hR, q⟩ => by
    refine eE hE hR q fun x s1 u H1 μ1 e1 E1 R1 r1 q1 => ?_
    refine eE E1 R1 q1 fun y s2 v H2 μ2 e2 E2 R2 r2 q2 => ?_
    refine eE E2 R2 q2 fun z s3 t H3 μ3 e3 E3 R3 r3 q3 => ?_
    have rx := (r1.mono e2).mono e3
    have ry := r2.mono e3
    cases e0 : lstOrSq s3 x with
    | none => rw [e0] at q3; exact q3.elim
    | some ws =>
      rw [e0] at q3
      cases y with
      | int i =>
        cases z with
        | int st =>
          replace q3 : PostE Γ W H3 μ3 Z σ Q (if 0 ≤ i ∧ 0 < st then .ok (.lst (stepL ws i.toNat st.toNat)) s3 else .no) := q3
          split at q3
          · rename_i hc
            obtain ⟨p, xs, h1, h2, h3⟩ := lstOrSq_ok R3 rx e0
            refine ⟨p, xs, i.toNat, st.toNat, h1, ?_, ?_, by omega, hK ▸ h2, fun t ht => ?_⟩
            · rw [Int.toNat_of_nonneg hc.1]; exact ry
            · rw [Int.toNat_of_nonneg (by omega)]; exact r3
            · refine q3 _ _ μ3 (Evo.laid ht) (R3.laid ht) (new_lst R3 ht ?_)
              unfold stepL
              rw [h3.len]
              exact RVs.filterRange h3 (fun m => i.toNat + m * st.toNat) _
          · exact q3.elim
        | _ => exact q3.elim
      | _ => exact q3.elim
end
end MP
set_option Elab.async false
set_option linter.all false
set_option maxRecDepth 100000
set_option maxHeartbeats 4000000
namespace MP
open PySem PySem.Spec PyProof.Rows L2
section
variable {X : Cx} {Γ : Ct} {W : WX} {e a b : Expr} {f g : FE} {pos : Pos}
def mAug (i : Nat) (o : O2) (f : FE) : FS := fun ρ s => match ρ[i]? with
  | some (some x) => (f ρ s).thenC ρ fun y s1 => match o s1 x y with
    | some z => .nx (ρ.set i (some z)) s1
    | none => .no
  | _ => .no
/-- what an operator on ints says -/
def addI : O2 := fun _ x y => match x, y with
  | .int i, .int j => some (.int (i + j))
  | _, _ => none
theorem sAddI : Op2 Γ (rI0 fun i j => .int (i + j)) addI := fun H μ Z s x y w u v Q hR r1 r2 e k => by
  unfold addI at e
  split at e
  · cases e
    exact ⟨_, _, r1, r2, k _ H .refl hR rfl⟩
  · cases e
theorem ms_aug {i : Nat} {x : Str} {op : Operator} {r : R2} {o : O2} {pos' : Pos} (hN : X.N.Nodup) (hi : X.N[i]? = some x) (hx : Loc X.env.scope x) (he : ME X Γ W e f) (ho : OpR X (inplaceOp op) r) (hs : Op2 Γ r o) (hf : X.fn x = true ∨ X.env.scope.names.lookup x = some .local := by first | exact .inl rfl | exact .inr rfl | assumption) :
    MS X Γ W (.AugAssign (.Name x pos') op e pos) (mAug i o f) :=
  PS.imp (ps_aug hN hi hx he ho hf) fun D σ H ⟨μ, Z, ρ, s, hE, hR, q⟩ => by
    unfold mAug at q
    split at q
    · rename_i w hw
      obtain ⟨v, hv, rv⟩ := hE.2 i w hw
      refine ⟨v, hv, eS hE hR q fun y s1 u H1 μ1 e1 E1 R1 r1 q1 => ?_⟩
      cases e2 : o s1 w y with
      | none => rw [e2] at q1; exact q1.elim
      | some z =>
        rw [e2] at q1
        exact hs H1 μ1 Z s1 w y z v u _ R1 (rv.mono e1) r1 e2 fun v' H' ev R' r' => q1 _ H' μ1 ev R' ((E1.mono ev).set i r')
    · exact q.elim
def divmodD : ON := fun _ xs => match xs with
  | [.int i, .int j] => if 0 < j ∧ j < 1073741824 then some (.tup [.int (i / j), .int (i % j)]) else none
  | _ => none
theorem sDivmod : OpN Γ (fun xs H Q => ∃ i j, xs = [.int i, .int j] ∧ CDiv i j ∧ ∀ p, H p = none → Q (.ref p) (upd H p (.tup [.int (i / j), .int (i % j)]))) divmodD := fun H μ Z s xs w vs Q hR rx e k => by
  unfold divmodD at e
  split at e
  · rename_i i j
    split at e
    · rename_i hc
      cases e
      obtain ⟨x, t, rfl, r1, y, t2, rfl, r2, r3⟩ := rx
      refine ⟨i, j, by rw [show x = .int i from r1, show y = .int j from r2, show t2 = [] from r3], hc, fun p hp => ?_⟩
      exact k _ _ (Evo.laid hp) (hR.laid hp) (new_tup hR hp (RVs.cons rfl (RVs.cons rfl rfl)))
    · cases e
  · cases e
def shlD : O2 := fun _ x y => match x, y with
  | .int i, .int j => if 0 ≤ j ∧ j ≤ 1000000 ∧ i.natAbs < 2 ^ 64 then some (.int (i * 2 ^ j.toNat)) else none
  | _, _ => none
theorem sShl : Op2 Γ (rI CPow fun i j => .int (i * 2 ^ j.toNat)) shlD := fun H μ Z s x y w u v Q hR r1 r2 e k => by
  unfold shlD at e
  split at e
  · split at e
    · rename_i hc
      cases e
      exact ⟨_, _, r1, r2, hc, k _ H .refl hR rfl⟩
    · cases e
  · cases e
def xorD : O2 := fun _ x y => match x, y with
  | .int i, .int j => some (.int (Builtin.bitXor i j))
  | _, _ => none
theorem sXor : Op2 Γ (rI0 fun i j => .int (Builtin.bitXor i j)) xorD := fun H μ Z s x y w u v Q hR r1 r2 e k => by
  unfold xorD at e
  split at e
  · cases e
    exact ⟨_, _, r1, r2, k _ H .refl hR rfl⟩
  · cases e
/-- the ints b - 1 .. a -/
def rngR (a b : Int) : List Dv := (List.range (b - a).toNat).map fun (i : Nat) => .int (b - 1 - i)
theorem walk_rc {H : Hp} {μ : Mu} {Z : Zs} {a b : Int} : Walks Γ Z H μ none (Itc (a + (((b - a).toNat : Nat) : Int) - 1) (-1) (b - a).toNat) (rngR a b) := fun H' μ' Z' s' ev hR hy hz _ => by
  have hl : (rngR a b).length = (b - a).toNat := by unfold rngR; rw [List.length_map, List.length_range]
  refine ⟨by rw [hl]; exact Nat.le_refl _, fun i w e => ?_⟩
  unfold rngR at e
  rw [List.getElem?_map] at e
  cases e1 : (List.range (b - a).toNat)[i]? with
  | none => rw [e1] at e; cases e
  | some j =>
    rw [e1] at e
    cases e
    obtain ⟨h1, h2⟩ := List.getElem?_eq_some_iff.mp e1
    rw [List.length_range] at h1
    rw [List.getElem_range] at h2
    subst h2
    refine ⟨h1, fun x H'' hq => ?_⟩
    obtain ⟨rfl, rfl⟩ := hq
    refine ⟨.refl, hR, ?_⟩
    show V.int _ = V.int _
    congr 1
    omega
def iRevR2 (f g : FE) : FI := fun ρ s => (f ρ s).bind fun x s1 => (g ρ s1).bind fun y s2 => match x, y with
  | .int i, .int j => if okR i = true ∧ okR j = true then .ok { ws := rngR i j } s2 else .no
  | _, _ => .no
theorem mi_revR2 {tg : Expr} {p p2 pos2 : Pos} (hg : Gl X "reversed") (hm : X.mg "reversed" = none) (hg2 : Gl X "range") (hm2 : X.mg "range" = none) (ha : ME X Γ W a f) (hb : ME X Γ W b g)
    (na : starEach [a, b] X.env = (false, eval a X.env) :: starEach [b] X.env := by rfl) (nb : starEach [b] X.env = (false, eval b X.env) :: starEach [] X.env := by rfl) (hp : (backTo pos2 (starEach [b] X.env)).any (·.1) = false := by rfl)
    (nc : starEach [.Call (.Name "range" p2) [a, b] [] pos2] X.env = (false, eval (.Call (.Name "range" p2) [a, b] [] pos2) X.env) :: starEach [] X.env := by rfl) :
    MI X Γ W tg (.Call (.Name "reversed" p) [.Call (.Name "range" p2) [a, b] [] pos2] [] pos) (iRevR2 f g) :=
  PI.imp (pi_revR hg hm (prg_2 hg2 hm2 ha hb na nb hp) nc) fun σ H R ⟨μ, Z, ρ, s, hE, hR, q⟩ => by
    refine iI hE hR q fun x s1 u H1 μ1 e1 E1 R1 r1 q1 => ?_
    refine iI E1 R1 q1 fun y s2 v H2 μ2 e2 E2 R2 r2 q2 => ?_
    have rx := r1.mono e2
    cases x with
    | int i =>
      cases y with
      | int j =>
        replace q2 : PostI Γ W H2 μ2 Z σ R (if okR i = true ∧ okR j = true then .ok { ws := rngR i j } s2 else .no) := q2
        split at q2
        · rename_i hc
          have hi : -(2 ^ 62) ≤ i ∧ i < 2 ^ 62 := of_decide_eq_true hc.1
          have hj : -(2 ^ 62) ≤ j ∧ j < 2 ^ 62 := of_decide_eq_true hc.2
          exact ⟨i, j, rx, r2, hi.1, hi.2, hj.1, hj.2, q2 _ _ _ .refl R2 walk_rc⟩
        · exact q2.elim
      | _ => exact q2.elim
    | _ => exact q2.elim
def inDD (neg : Bool) : O2 := fun s x y => match dctOf s y, keyOf x with
  | some kws, some k => some (.bl (if neg then !(valD kws k).isSome else (valD kws k).isSome))
  | _, _ => none
def rInDct (neg : Bool) : R2 := fun x y H Q => ∃ a o, y = .ref a ∧ DGet H a x o ∧ Q (.bl (if neg then !o.isSome else o.isSome)) H
theorem op_inDct (hu : X.A.units + 64 < cLine) : OpR X (compareOp .In) (rInDct false) := by
  rintro pins s σ H x y v u Q I rx ry ⟨a, o, rfl, g, q⟩
  obtain rfl : u = Value.ref a := ry
  exact d_in (by omega) I g rx fun s' I' => ⟨.bl _, H, I', rfl, q⟩
theorem valD_some {H : Hp} {μ : Mu} {Z : Zs} {k : Key} : ∀ {kws : List (Key × Dv)} {kvs : List (Key × V)}, kvs.map (·.1) = kws.map (·.1) → (valV kvs k).isSome = (valD kws k).isSome
  | [], kvs, h => by
    cases kvs with
    | nil => rfl
    | cons _ _ => cases h
  | p :: kws, [], h => by cases h
  | p :: kws, q :: kvs, h => by
    obtain ⟨h1, h2⟩ := List.cons.inj h
    by_cases hk : p.1 = k
    · have e1 : valD (p :: kws) k = some p.2 := by simp [valD, List.find?_cons, hk]
      rw [e1, valV_pos (show q.1 = k from h1.trans hk)]
      rfl
    · have e1 : valD (p :: kws) k = valD kws k := by simp [valD, List.find?_cons, hk]
      rw [e1, valV_neg (show ¬ q.1 = k from fun z => hk (h1.symm.trans z))]
      exact valD_some (H := H) (μ := μ) (Z := Z) h2
theorem sInDct {neg : Bool} : Op2 Γ (rInDct neg) (inDD neg) := fun H μ Z s x y w u v Q hR r1 r2 e k => by
  unfold inDD at e
  split at e
  · rename_i kws kk h1 h2
    cases e
    obtain ⟨n, rfl, hn⟩ : ∃ n, y = .ref n ∧ s[n]? = some (.dct kws) := by
      unfold dctOf at h1
      split at h1
      · rename_i n
        split at h1
        · rename_i z q
          cases h1
          exact ⟨n, rfl, q⟩
        · cases h1
      · cases h1
    obtain ⟨p, g1, g2⟩ := r2
    obtain ⟨p', k1, _, kvs, k3, k4, k5⟩ := hR.at n _ hn
    rw [g2] at k1
    cases k1
    have hk := keyOf_ok r1 h2
    refine ⟨p, valV kvs kk, g1, hk ▸ DGet.k k3, ?_⟩
    rw [valD_some (H := H) (μ := μ) (Z := Z) k4]
    exact k _ H .refl hR rfl
  · cases e
/-- the first place of an int -/
def firstI (i : Int) : Nat → List Dv → Option Nat
  | _, [] => none
  | k, .int j :: ws => if j = i then some k else firstI i (k + 1) ws
  | _, _ :: _ => none
def allInt : List Dv → Bool
  | [] => true
  | .int _ :: ws => allInt ws
  | _ :: _ => false
def mIndex (f g : FE) : FE := fun ρ s => (f ρ s).bind fun x s1 => match lstOrSq s1 x with
  | none => .no
  | some _ => (g ρ s1).bind fun y s2 => match lstOrSq s2 x, y with
    | some ws, .int i => if allInt ws = true then match firstI i 0 ws with
        | some k => .ok (.int k) s2
        | none => .no
      else .no
    | _, _ => .no
theorem first_spec {H : Hp} {μ : Mu} {Z : Zs} {i : Int} : ∀ {ws : List Dv} {xs : List V} {k j : Nat}, RVs Γ H μ Z ws xs → allInt ws = true → firstI i k ws = some j → k ≤ j ∧ xs[j - k]? = some (.int i) ∧ (∀ (m : Nat) (z : V), m < j - k → xs[m]? = some z → eqV z (.int i) = false)
  | [], _, _, _, _, _, h => by cases h
  | w :: ws, _, k, j, r, ha, h => by
    obtain ⟨x, xs, rfl, r1, r2⟩ := r
    cases w with
    | int n =>
      obtain rfl : x = .int n := r1
      unfold firstI at h
      split at h
      · rename_i hn
        cases h
        subst hn
        exact ⟨Nat.le_refl _, by rw [Nat.sub_self]; rfl, fun m z hm => absurd hm (by omega)⟩
      · rename_i hn
        obtain ⟨h1, h2, h3⟩ := first_spec (k := k + 1) r2 ha h
        refine ⟨by omega, ?_, fun m z hm hz => ?_⟩
        · rw [show j - k = (j - (k + 1)) + 1 by omega, List.getElem?_cons_succ]
          exact h2
        · cases m with
          | zero =>
            cases hz
            show (n == i) = false
            exact beq_eq_false_iff_ne.mpr hn
          | succ m =>
            rw [List.getElem?_cons_succ] at hz
            exact h3 m z (by omega) hz
    | _ => cases ha
theorem flat_ints {H : Hp} {μ : Mu} {Z : Zs} : ∀ {ws : List Dv} {xs : List V}, RVs Γ H μ Z ws xs → allInt ws = true → xs.all flatV = true
  | [], _, r, _ => by rw [show _ = [] from r]; rfl
  | w :: ws, _, r, ha => by
    obtain ⟨x, xs, rfl, r1, r2⟩ := r
    cases w with
    | int n =>
      obtain rfl : x = .int n := r1
      rw [List.all_cons, flat_ints r2 ha]
      rfl
    | _ => cases ha
theorem me_index (hK : Γ.K = X.K) (h : PE X e (tBM Γ.K "list" (rIndex X.K) (rdE Γ W f) (tCons (rdE Γ W g) tNil))) : ME X Γ W e (mIndex f g) :=
  PE.imp h fun σ H Q ⟨μ, Z, ρ, s, hE, hR, q⟩ => eE hE hR q fun x s1 u H1 μ1 e1 hE1 R1 r1 q1 => by
    cases e0 : lstOrSq s1 x with
    | none => rw [e0] at q1; exact q1.elim
    | some ws0 =>
      rw [e0] at q1
      dsimp only at q1
      obtain ⟨p, xs, h1, h2, h3⟩ := lstOrSq_ok R1 r1 e0
      subst h1
      refine ⟨.inl ⟨rfl, xs, h2⟩, ?_⟩
      refine eE hE1 R1 q1 fun y s2 v H2 μ2 e2 hE2 R2 r2 q2 => ?_
      cases e3 : lstOrSq s2 x with
      | none => rw [e3] at q2; exact q2.elim
      | some ws =>
        rw [e3] at q2
        cases y with
        | int i =>
          replace q2 : PostE Γ W H2 μ2 Z σ Q (if allInt ws = true then match firstI i 0 ws with
              | some k => .ok (.int k) s2
              | none => .no
            else .no) := q2
          split at q2
          · rename_i ha
            cases e4 : firstI i 0 ws with
            | none => rw [e4] at q2; exact q2.elim
            | some k =>
              rw [e4] at q2
              obtain ⟨p', ys, k1, k2, k3⟩ := lstOrSq_ok R2 (r1.mono e2) e3
              obtain ⟨f1, f2, f3⟩ := first_spec k3 ha e4
              rw [Nat.sub_zero] at f2 f3
              cases k1
              exact ⟨p, ys, .int i, k, .int i, rfl, by rw [show v = .int i from r2], hK ▸ k2, rfl, flat_ints k3 ha, f2, (by show (i == i) = true; exact beq_self_eq_true i), f3, q2 _ H2 μ2 .refl R2 rfl⟩
          · exact q2.elim
        | _ => exact q2.elim
/-- {} that is written to -/
def mDctM0 : FE := fun _ s => .ok (.ref s.length) (s ++ [.dct []])
theorem me_dctM0 : ME X Γ W (.Dict [] [] pos) mDctM0 :=
  PE.imp pe_dnewK fun σ H Q ⟨μ, Z, ρ, s, hE, hR, q⟩ p hp => by
    have ev : Evo H μ (upd H p (.dK [])) (MP.ext μ s.length p) := Evo.ext hp hR.mu_new
    exact q (.ref p) _ _ ev (hR.push hp ⟨[], upd_same, rfl, rfl⟩) ⟨p, rfl, by unfold MP.ext; rw [if_pos rfl]⟩
end
end MP
set_option Elab.async false
set_option linter.all false
set_option maxRecDepth 100000
set_option maxHeartbeats 4000000
namespace MP
open PySem PySem.Spec PyProof.Rows L2
section
variable {X : Cx} {Γ : Ct} {W : WX}
def minO (d : Int) : List Int → Int
  | [] => d
  | n :: ns => ns.foldl min n
theorem foldl_min_le : ∀ (ns : List Int) (n : Int), ns.foldl min n ≤ n ∧ ∀ m ∈ ns, ns.foldl min n ≤ m
  | [], n => ⟨Int.le_refl _, fun _ h => nomatch h⟩
  | a :: ns, n => by
    obtain ⟨h1, h2⟩ := foldl_min_le ns (min n a)
    refine ⟨Int.le_trans h1 (by omega : min n a ≤ n), fun m hm => ?_⟩
    rcases List.mem_cons.mp hm with rfl | hm
    · exact Int.le_trans h1 (by omega : min n m ≤ m)
    · exact h2 m hm
theorem foldl_min_mem : ∀ (ns : List Int) (n : Int), ns.foldl min n ∈ n :: ns
  | [], n => List.mem_cons_self
  | a :: ns, n => by
    have := foldl_min_mem ns (min n a)
    show ns.foldl min (min n a) ∈ _
    rcases List.mem_cons.mp this with h | h
    · rw [h]
      by_cases q : a ≤ n
      · rw [show min n a = a by omega]; exact List.mem_cons_of_mem _ List.mem_cons_self
      · rw [show min n a = n by omega]; exact List.mem_cons_self
    · exact List.mem_cons_of_mem _ (List.mem_cons_of_mem _ h)
theorem minO_uniq {d m : Int} {ns : List Int} (h : m ∈ ns) (h2 : ∀ y ∈ ns, m ≤ y) : m = minO d ns := by
  cases ns with
  | nil => cases h
  | cons a ns =>
    have h3 := h2 _ (foldl_min_mem ns a)
    obtain ⟨h4, h5⟩ := foldl_min_le ns a
    show m = ns.foldl min a
    rcases List.mem_cons.mp h with rfl | h
    · omega
    · have := h5 m h; omega
/-- min(x), some ints -/
def minLD : ON := fun s xs => match xs with
  | [x] => match lstOf s x with
    | some ws => match intsOf ws with
      | some (n :: ns) => some (.int (minO 0 (n :: ns)))
      | _ => none
    | none => none
  | _ => none
theorem sMinL (hK : Γ.K = X.K) : OpN Γ (rMin X.K) minLD := fun H μ Z s xs w vs Q hR rx e k => by
  rw [← hK]
  unfold minLD at e
  split at e
  · rename_i y
    split at e
    · rename_i ws q
      split at e
      · rename_i n ns q2
        cases e
        obtain ⟨v, rfl, r1⟩ := one rx
        obtain ⟨a, ys, rfl, h2, h3⟩ := lstOf_ok hR r1 q
        rw [intsOf_ok q2] at h3
        have h4 := h3.ints
        subst h4
        refine ⟨a, n :: ns, rfl, SqL.of h2, Nat.succ_pos _, fun m hm h => ?_⟩
        rw [minO_uniq (d := 0) hm h]
        exact k _ H .refl hR rfl
      · cases e
    · cases e
  · cases e
/-- max(x, y, z), ints -/
def max3D : ON := fun _ xs => match xs with
  | [.int i, .int j, .int k] => some (.int (if (if i < j then j else i) < k then k else (if i < j then j else i)))
  | _ => none
theorem sMax3 : OpN Γ (rNuC3 nuMax3) max3D := fun H μ Z s xs w vs Q hR rx e k => by
  unfold max3D at e
  split at e
  · rename_i i j l
    cases e
    obtain ⟨x, t, rfl, r1, y, t2, rfl, r2, z, t3, rfl, r3, r4⟩ := rx
    obtain rfl : x = .int i := r1
    obtain rfl : y = .int j := r2
    obtain rfl : z = .int l := r3
    obtain rfl : t3 = [] := r4
    refine ⟨_, _, _, .int (if (if i < j then j else i) < l then l else (if i < j then j else i)), rfl, ?_, k _ H .refl hR rfl⟩
    by_cases h1 : i < j
    · by_cases h2 : j < l <;> simp [nuMax3, nuMax2, nuLt, nuCB, h1, h2]
    · by_cases h2 : i < l <;> simp [nuMax3, nuMax2, nuLt, nuCB, h1, h2]
  · cases e
end
def rngC (i c : Int) (n : Nat) : List Dv := (List.range n).map fun (k : Nat) => .int (i + k * c)
theorem walk_rC {Γ : Ct} {H : Hp} {μ : Mu} {Z : Zs} {i c : Int} {n : Nat} : Walks Γ Z H μ none (Itc i c n) (rngC i c n) := fun H' μ' Z' s' ev hR hy hz _ => by
  have hl : (rngC i c n).length = n := by unfold rngC; rw [List.length_map, List.length_range]
  refine ⟨by rw [hl]; exact Nat.le_refl _, fun j w e => ?_⟩
  unfold rngC at e
  rw [List.getElem?_map] at e
  cases e1 : (List.range n)[j]? with
  | none => rw [e1] at e; cases e
  | some k =>
    rw [e1] at e
    cases e
    obtain ⟨h1, h2⟩ := List.getElem?_eq_some_iff.mp e1
    rw [List.length_range] at h1
    rw [List.getElem_range] at h2
    subst h2
    refine ⟨h1, fun x H'' hq => ?_⟩
    obtain ⟨rfl, rfl⟩ := hq
    exact ⟨.refl, hR, rfl⟩
def iRange3 (fa : FA) : FI := fun ρ s => (fa ρ s).bind fun ws s1 => match ws with
  | [.int i, .int j, .int c] => if c ≠ 0 ∧ c.natAbs < 1073741824 ∧ Builtin.Range.small i j c = true then .ok { ws := rngC i c (Builtin.Range.rangeSize i j c).toNat } s1 else .no
  | _ => .no
theorem mi_range3 {X : Cx} {Γ : Ct} {W : WX} {tg a b c : Expr} {fa : FA} {p pos : Pos} (hg : Gl X "range") (hm : X.mg "range" = none) (ha : MA X Γ W [a, b, c] fa)
    (hs : starEach [a, b, c] X.env = (false, eval a X.env) :: starEach [b, c] X.env := by rfl) (hpl : (backTo pos (starEach [b, c] X.env)).any (·.1) = false := by rfl) :
    MI X Γ W tg (.Call (.Name "range" p) [a, b, c] [] pos) (iRange3 fa) :=
  PI.imp (pi_range3 hg hm ha hs hpl) fun σ H Q ⟨μ, Z, ρ, s, hE, hR, q⟩ => iA hE hR q fun ws s1 vs H1 μ1 e1 E1 R1 r1 q1 => by
    split at q1
    · rename_i i j c
      split at q1
      · rename_i hc
        obtain ⟨x, xs, rfl, g1, y, ys, rfl, g2, z, zs, rfl, g3, g4⟩ := r1
        rw [show x = .int i from g1, show y = .int j from g2, show z = .int c from g3, show zs = [] from g4]
        exact ⟨i, j, c, _, rfl, ⟨hc.1, hc.2.1, hc.2.2, PyProof.Rows.rangeSize_toNat i j c⟩, q1 _ _ _ .refl R1 walk_rC⟩
      · exact q1.elim
    · exact q1.elim
end MP
set_option Elab.async false
set_option linter.all false
set_option maxRecDepth 100000
set_option maxHeartbeats 4000000
namespace MP
open PySem PySem.Spec PyProof.Rows L2
def JZip3 (K : PySem.W.Frag) (t u v : Bool) (a b c : Addr) : It :=
  ⟨fun i H => ∃ (xs ys zs : List V) (x y z : V), SqX K H t a xs ∧ SqX K H u b ys ∧ SqX K H v c zs ∧ xs[i]? = some x ∧ ys[i]? = some y ∧ zs[i]? = some z,
   fun i H w H' => ∃ T x y z, w = .ref T ∧ H T = none ∧ H' = upd H T (.tup [x, y, z]) ∧ (∀ xs, SqX K H t a xs → xs[i]? = some x) ∧ (∀ ys, SqX K H u b ys → ys[i]? = some y) ∧ ∀ zs, SqX K H v c zs → zs[i]? = some z,
   fun i H => ∃ xs ys zs : List V, SqX K H t a xs ∧ SqX K H u b ys ∧ SqX K H v c zs ∧ min (min xs.length ys.length) zs.length = i⟩
def Zip3Tn (t u v : Bool) (a b c : Addr) (N : Nat) (i : Nat) (h : Heap) : Prop := IsZip h (N + 5) (N + 3) (N + 4) .none ∧ IsTupOf3 h (N + 3) (.ref N) (.ref (N + 1)) (.ref (N + 2)) ∧ (∃ x y z, IsTupOf3 h (N + 4) x y z) ∧ ItX h t N a i ∧ ItX h u (N + 1) b i ∧ ItX h v (N + 2) c i
theorem turn_zip3 {P : Program} {w : World} {K : PySem.W.Frag} {elts : List Expr} {kk : Nat} {tpos : Pos} {t u v : Bool} {a b c : Addr} {N : Nat} (la : a < N) (lb : b < N) (lc : c < N) :
    Turn P w K (.Tuple elts kk tpos) (JZip3 K t u v a b c) [N + 5, N + 3, N + 4, N, N + 1, N + 2] (N + 5) (Zip3Tn t u v a b c N) where
  mem := by simp
  obj := fun i h st d hd => by
    obtain ⟨hz, hTI, ⟨x, y, z, hTO⟩, h1, h2, h3⟩ := st
    have e : d = N + 5 ∨ d = N + 3 ∨ d = N + 4 ∨ d = N ∨ d = N + 1 ∨ d = N + 2 := by simpa using hd
    rcases e with q | q | q | q | q | q
    · rw [q]; exact ⟨_, hz, fun v q => nomatch q⟩
    · rw [q]; exact ⟨_, hTI, fun v q => nomatch q⟩
    · rw [q]; exact ⟨_, hTO, fun v q => nomatch q⟩
    · rw [q]; exact h1.obj
    · rw [q]; exact h2.obj
    · rw [q]; exact h3.obj
  keep := fun i h h' st k => by
    obtain ⟨hz, hTI, ⟨x, y, z, hTO⟩, h1, h2, h3⟩ := st
    exact ⟨k _ (by simp) _ hz, k _ (by simp) _ hTI, ⟨x, y, z, k _ (by simp) _ hTO⟩, h1.at fun o q => k N (by simp) o q, h2.at fun o q => k (N + 1) (by simp) o q, h3.at fun o q => k (N + 2) (by simp) o q⟩
  item := by
    intro X hP hw hK hc i pins s σ H E I hf st hg
    subst hP hw hK
    obtain ⟨xs, ys, zs, x, y, z, hqx, hqy, hqz, hx, hy, hz0⟩ := hg
    obtain ⟨its, rv, p, _⟩ := hqx.has I
    obtain ⟨its2, rv2, p2, _⟩ := hqy.has I
    obtain ⟨its3, rv3, p3, _⟩ := hqz.has I
    obtain ⟨v1, hv1, r1⟩ := rv.get hx
    obtain ⟨v2, hv2, r2⟩ := rv2.get hy
    obtain ⟨v3, hv3, r3⟩ := rv3.get hz0
    have hh : X.A.in1.handled = none := I.ok.hd hc
    have sep := zip_sep3 (N := N) (fp1 := [a]) (fp2 := [b]) (fp3 := [c]) (by simpa using la) (by simpa using lb) (by simpa using lc)
    have G := GoesN.zip3 (prog := X.prog) (w := X.w) (A := X.A) (elts := elts) (x1 := kk) (pos := tpos) sep (drawsX hh t N a (Nat.ne_of_lt la) its.toArray) (drawsX hh u (N + 1) b (Nat.ne_of_lt (Nat.lt_succ_of_lt lb)) its2.toArray) (drawsX hh v (N + 2) c (Nat.ne_of_lt (Nat.lt_succ_of_lt (Nat.lt_succ_of_lt lc))) its3.toArray)
    obtain ⟨hz, hTI, hTO, h1, h2, h3⟩ := id st
    have l1 := (List.getElem?_eq_some_iff.mp hv1).1
    have l2 := (List.getElem?_eq_some_iff.mp hv2).1
    have l3 := (List.getElem?_eq_some_iff.mp hv3).1
    have liveX : ∀ d ∈ [N + 5, N + 3, N + 4, N, N + 1, N + 2], d < s.heap.objs.size := fun d hd => by
      have hN : N + 5 < s.heap.objs.size := Heap.lt_size hz
      have e : d = N + 5 ∨ d = N + 3 ∨ d = N + 4 ∨ d = N ∨ d = N + 1 ∨ d = N + 2 := by simpa using hd
      omega
    refine turn_item (tn := Zip3Tn t u v a b c N) I hf liveX G (by simp; omega) ⟨hz, hTI, hTO, ⟨h1, p⟩, ⟨h2, p2⟩, h3, p3⟩ (fun d hd => by
      have e : d = N + 5 ∨ d = N + 4 ∨ d = N ∨ d = N + 1 ∨ d = N + 2 := by simpa using hd
      rcases e with q | q | q | q | q <;> (rw [q]; simp)) (fun h' _ st' => show Zip3Tn t u v a b c N (i + 1) h' from ⟨st'.1, st'.2.1, st'.2.2.1, st'.2.2.2.1.1, st'.2.2.2.2.1.1, st'.2.2.2.2.2.1⟩) fun w h' hY => ?_
    obtain ⟨T, c1, c2, c3, rfl, hT, e1, e2, e3, ht⟩ := hY
    have e1' : its[i]? = some c1 := by simpa using e1
    have e2' : its2[i]? = some c2 := by simpa using e2
    have e3' : its3[i]? = some c3 := by simpa using e3
    rw [hv1] at e1'
    rw [hv2] at e2'
    rw [hv3] at e3'
    cases e1'
    cases e2'
    cases e3'
    exact ⟨T, [x, y, z], #[v1, v2, v3], rfl, hT, ht, .cons r1 (.cons r2 (.cons r3 .nil)), (show 3 ≤ sizeLine by rw [sizeLine_eq]; decide), T, x, y, z, rfl, I.hok.fresh hT, rfl, fun l hl => by rw [SqX.inj I hl hqx]; exact hx, fun l hl => by rw [SqX.inj I hl hqy]; exact hy, fun l hl => by rw [SqX.inj I hl hqz]; exact hz0⟩
  done := by
    intro X hP hw hK hc i pins s σ H E I hf st hg
    subst hP hw hK
    obtain ⟨xs, ys, zs, hqx, hqy, hqz, hend⟩ := hg
    obtain ⟨its, rv, p, _⟩ := hqx.has I
    obtain ⟨its2, rv2, p2, _⟩ := hqy.has I
    obtain ⟨its3, rv3, p3, _⟩ := hqz.has I
    have hh : X.A.in1.handled = none := I.ok.hd hc
    have sep := zip_sep3 (N := N) (fp1 := [a]) (fp2 := [b]) (fp3 := [c]) (by simpa using la) (by simpa using lb) (by simpa using lc)
    have G := GoesN.zip3 (prog := X.prog) (w := X.w) (A := X.A) (elts := elts) (x1 := kk) (pos := tpos) sep (drawsX hh t N a (Nat.ne_of_lt la) its.toArray) (drawsX hh u (N + 1) b (Nat.ne_of_lt (Nat.lt_succ_of_lt lb)) its2.toArray) (drawsX hh v (N + 2) c (Nat.ne_of_lt (Nat.lt_succ_of_lt (Nat.lt_succ_of_lt lc))) its3.toArray)
    obtain ⟨hz, hTI, hTO, h1, h2, h3⟩ := id st
    have l1 := rv.length
    have l2 := rv2.length
    have l3 := rv3.length
    have hn : min (min its.toArray.size its2.toArray.size) its3.toArray.size = i := by simp; omega
    rw [hn] at G
    exact G.stops s (fun s1 => Inv X pins σ H s1) E ⟨hz, hTI, hTO, ⟨h1, p⟩, ⟨h2, p2⟩, h3, p3⟩ fun h' tk hk _ => I.turnedL (ch := [N + 5, N + 3, N + 4, N, N + 1, N + 2]) (fun d o hb q => hk d o (fun z => hb (by
      have e : d = N + 5 ∨ d = N + 4 ∨ d = N ∨ d = N + 1 ∨ d = N + 2 := by simpa using z
      rcases e with q | q | q | q | q <;> (rw [q]; simp))) q) hf
  self := fun A i s Q E st h => wpAny_pyIter_zip st.1 h
section
variable {X : Cx} {Γ : Ct} {W : WX}
def iZipG3 (K : PySem.W.Frag) (ta : TA) : TI := fun σ H R => ta σ H fun vs H1 => ∃ t u v a b c xs ys zs, vs = [.ref a, .ref b, .ref c] ∧ SqX K H1 t a xs ∧ SqX K H1 u b ys ∧ SqX K H1 v c zs ∧ R (JZip3 K t u v a b c) H1
theorem pi_zipG3 {e e2 e3 : Expr} {ta : TA} {p pos tpos : Pos} {elts : List Expr} {kk : Nat} (hg : Gl X "zip") (hm : X.mg "zip" = none) (ha : PA X [e, e2, e3] ta) (hs : starEach [e, e2, e3] X.env = (false, eval e X.env) :: starEach [e2, e3] X.env := by rfl) (hpl : (backTo pos (starEach [e2, e3] X.env)).any (·.1) = false := by rfl) :
    PI X (.Tuple elts kk tpos) (.Call (.Name "zip" p) [e, e2, e3] [] pos) (iZipG3 X.K ta) := by
  refine ⟨fun pins s σ H R I h => ?_⟩
  refine Call_ (ld_blt I hg hm boot_zip (callWith_type1 (thn (ha.run pos pins s σ H _ I h) fun us s1 ⟨vs, H1, I1, r1, q1⟩ => ?_) hs hpl))
  obtain ⟨t, u, v, a, b, c, xs, ys, zs, rfl, hqx, hqy, hqz, q⟩ := q1
  obtain ⟨v1, us', rfl, rfl⟩ : ∃ v us', us = v :: us' ∧ v = Value.ref a := by cases r1 with | cons r rr => exact ⟨_, _, rfl, r⟩
  obtain ⟨v2, v3, rfl, rfl, rfl⟩ : ∃ v2 v3, us' = [v2, v3] ∧ v2 = Value.ref b ∧ v3 = Value.ref c := by
    cases r1 with
    | cons r rr => cases rr with
      | cons r' rr' => cases rr' with
        | cons r'' rr'' => cases rr''; exact ⟨_, _, rfl, r', r''⟩
  obtain ⟨its, rv, p1, la⟩ := hqx.has I1
  obtain ⟨its2, rv2, p2, lb⟩ := hqy.has I1
  obtain ⟨its3, rv3, p3, lc⟩ := hqz.has I1
  refine zip_begins3 (beginsX t a its.toArray) (beginsX u b its2.toArray) (beginsX v c its3.toArray) p1 p2 p3 fun h' hz hTI hTO h1 h2 h3 _ hk => wpAny_pyIter_zip hz ?_
  have I2 : Inv X pins σ H1 { s1 with heap := h' } := I1.kept (t' := s1.toks) hk
  refine ⟨_, [s1.heap.objs.size + 5, s1.heap.objs.size + 3, s1.heap.objs.size + 4, s1.heap.objs.size, s1.heap.objs.size + 1, s1.heap.objs.size + 2], _, _, H1, rfl, I2, turn_zip3 la lb lc, ⟨hz, hTI, ⟨_, _, _, hTO⟩, ?_, ?_, ?_⟩, fun c hc => ?_, q⟩
  · unfold ItX
    cases t with
    | true => exact ⟨_, h1, rfl, rfl⟩
    | false => exact ⟨_, h1, rfl, rfl⟩
  · unfold ItX
    cases u with
    | true => exact ⟨_, h2, rfl, rfl⟩
    | false => exact ⟨_, h2, rfl, rfl⟩
  · unfold ItX
    cases v with
    | true => exact ⟨_, h3, rfl, rfl⟩
    | false => exact ⟨_, h3, rfl, rfl⟩
  · have e' : c = s1.heap.objs.size + 5 ∨ c = s1.heap.objs.size + 3 ∨ c = s1.heap.objs.size + 4 ∨ c = s1.heap.objs.size ∨ c = s1.heap.objs.size + 1 ∨ c = s1.heap.objs.size + 2 := by simpa using hc
    have hle : s1.heap.objs.size ≤ c := by rcases e' with z | z | z | z | z | z <;> (rw [z]; first | exact Nat.le_refl _ | exact Nat.le_add_right _ _)
    exact I1.fpOk hle (I1.hok.fresh hle)
def zipD3 : List Dv → List Dv → List Dv → List Dv
  | a :: r, b :: t, c :: u => .tup [a, b, c] :: zipD3 r t u
  | _, _, _ => []
theorem zipD3_len : ∀ (l m n : List Dv), (zipD3 l m n).length = min (min l.length m.length) n.length
  | [], _, _ => by simp [zipD3]
  | _ :: _, [], _ => by simp [zipD3]
  | _ :: _, _ :: _, [] => by simp [zipD3]
  | a :: r, b :: t, c :: u => by simp [zipD3, zipD3_len r t u]
theorem zipD3_get : ∀ {l m n : List Dv} {i : Nat} {w : Dv}, (zipD3 l m n)[i]? = some w → ∃ x y z, l[i]? = some x ∧ m[i]? = some y ∧ n[i]? = some z ∧ w = .tup [x, y, z]
  | [], _, _, _, _, h => by simp [zipD3] at h
  | _ :: _, [], _, _, _, h => by simp [zipD3] at h
  | _ :: _, _ :: _, [], _, _, h => by simp [zipD3] at h
  | a :: r, b :: t, c :: u, 0, w, h => by simp [zipD3] at h; exact ⟨a, b, c, rfl, rfl, rfl, h.symm⟩
  | a :: r, b :: t, c :: u, i + 1, w, h => by
    have h' : (zipD3 r t u)[i]? = some w := by simpa [zipD3] using h
    obtain ⟨x, y, z, h1, h2, h3, h4⟩ := zipD3_get h'
    exact ⟨x, y, z, by simpa using h1, by simpa using h2, by simpa using h3, h4⟩
def iZip3 (fa : FA) : FI := fun ρ s => (fa ρ s).bind fun ws s1 => match ws with
  | [x, y, z] => match plainOf x, plainOf y, plainOf z with
    | some (_, a), some (_, b), some (_, c) => .ok { ws := zipD3 a b c } s1
    | _, _, _ => .no
  | _ => .no
theorem mi_zip3 {e e2 e3 : Expr} {fa : FA} {p pos tpos : Pos} {elts : List Expr} {kk : Nat} (hK : Γ.K = X.K) (hg : Gl X "zip") (hm : X.mg "zip" = none) (ha : MA X Γ W [e, e2, e3] fa) (hs : starEach [e, e2, e3] X.env = (false, eval e X.env) :: starEach [e2, e3] X.env := by rfl) (hpl : (backTo pos (starEach [e2, e3] X.env)).any (·.1) = false := by rfl) :
    MI X Γ W (.Tuple elts kk tpos) (.Call (.Name "zip" p) [e, e2, e3] [] pos) (iZip3 fa) :=
  PI.imp (pi_zipG3 hg hm ha hs hpl) fun σ H Q ⟨μ, Z, ρ, s, hE, hR, q⟩ => iA hE hR q fun ws s1 vs H1 μ1 e1 E1 R1 r1 q1 => by
    split at q1
    · rename_i x y z
      split at q1
      · rename_i t a u b v c qx qy qz
        obtain ⟨w1, vs1, rfl, rx, w2, vs2, rfl, ry, w3, vs3, rfl, rz, r4⟩ := r1
        obtain rfl : vs3 = [] := r4
        obtain ⟨pa, xs, rfl, r2, k2⟩ := plain_ok rx qx
        obtain ⟨pb, ys, rfl, r3, k3⟩ := plain_ok ry qy
        obtain ⟨pc, zs, rfl, r5, k5⟩ := plain_ok rz qz
        rw [← hK]
        refine ⟨t, u, v, pa, pb, pc, xs, ys, zs, rfl, k2 _ _ Evo.refl.z, k3 _ _ Evo.refl.z, k5 _ _ Evo.refl.z, q1 _ _ _ .refl R1 fun H' μ' Z' s' ev hR' hy hz _ => ⟨⟨xs, ys, zs, k2 _ _ ev, k3 _ _ ev, k5 _ _ ev, by rw [zipD3_len, r2.len, r3.len, r5.len]⟩, fun i w hi => ?_⟩⟩
        obtain ⟨x', y', z', g1, g2, g3, rfl⟩ := zipD3_get hi
        obtain ⟨ux, h1, h2⟩ := r2.get g1
        obtain ⟨uy, h3, h4⟩ := r3.get g2
        obtain ⟨uz, h5, h6⟩ := r5.get g3
        refine ⟨⟨xs, ys, zs, ux, uy, uz, k2 _ _ ev, k3 _ _ ev, k5 _ _ ev, h1, h3, h5⟩, fun z H'' hq => ?_⟩
        obtain ⟨T, zx, zy, zz, rfl, hT, rfl, j1, j2, j3⟩ := hq
        have e3 := j1 xs (k2 _ _ ev)
        have e4 := j2 ys (k3 _ _ ev)
        have e5 := j3 zs (k5 _ _ ev)
        rw [h1] at e3
        rw [h3] at e4
        rw [h5] at e5
        cases e3
        cases e4
        cases e5
        exact ⟨Evo.laid hT, hR'.laid hT, new_tup hR' hT (RVs.cons ((RV.strong hz _ h2).monoZ (ev.more hy)) (RVs.cons ((RV.strong hz _ h4).monoZ (ev.more hy)) (RVs.cons ((RV.strong hz _ h6).monoZ (ev.more hy)) RVs.nil)))⟩
      · exact q1.elim
    · exact q1.elim
end
end MP
set_option Elab.async false
set_option linter.all false
set_option maxRecDepth 100000
set_option maxHeartbeats 4000000
namespace MP
open PySem PySem.Spec PyProof.Rows L2
section
variable {X : Cx} {Γ : Ct} {W : WX}
def anyD (neg : Bool) (d : PyData) (ds : List PyData) : Bool := if neg = true then !(ds.any fun z => PyData.eqv z d) else ds.any fun z => PyData.eqv z d
def rInT (K : PySem.W.Frag) (neg : Bool) : R2 := fun x y H Q => ∃ d ds, Dp K H x d ∧ Dp K H y (.tuple ds) ∧ SeqAt.shaped d = true ∧ SeqAt.shaped (.tuple ds) = true ∧ d.depth ≤ 60 ∧ Q (.bl (anyD neg d ds)) H
theorem op_notInT (hu : X.A.units + 64 < cLine) : OpR X (compareOp .NotIn) (rInT X.K true) := by
  intro pins s σ H x y v u Q I rx ry h
  obtain ⟨d, ds, hd, he, sd, se, dp, q⟩ := h
  obtain ⟨as, r1⟩ := Dp.reads I d x v hd rx
  obtain ⟨bs, r2⟩ := Dp.reads I (.tuple ds) y u he ry
  exact SeqAt.notIn_tuple_reads r2 r1 (SeqAt.canLay_of_shaped se) (SeqAt.canLay_of_shaped sd) (by have := Nat.min_le_right (PyData.depthAll ds) d.depth; omega) ⟨.bl _, H, I, rfl, q⟩
def inT (neg : Bool) : O2 := fun s x y => match toD s x, toD s y with
  | some d, some (.tuple ds) => if SeqAt.shaped d = true ∧ SeqAt.shaped (.tuple ds) = true ∧ d.depth ≤ 60 then some (.bl (anyD neg d ds)) else none
  | _, _ => none
theorem sInT (hK : Γ.K = X.K) {neg : Bool} : Op2 Γ (rInT X.K neg) (inT neg) := fun H μ Z s x y w u v Q hR r1 r2 e k => by
  rw [← hK]
  unfold inT at e
  split at e
  · rename_i d ds q1 q2
    split at e
    · rename_i hs
      cases e
      exact ⟨d, ds, toD_ok hR r1 q1, toD_ok hR r2 q2, hs.1, hs.2.1, hs.2.2, k _ H .refl hR rfl⟩
    · cases e
  · cases e
end
end MP
set_option Elab.async false
set_option linter.all false
set_option maxRecDepth 100000
set_option maxHeartbeats 4000000
namespace MP.PG
open PySem PySem.Spec PyProof.Rows L2 MP
noncomputable def d_is_int : FS := (mRet (mAndV (mBlt isiD (mCons (mVar 0) (mCons (mK (.ty "int")) mNil))) (mAndV (mBin isntD (mVar 0) (mK (.bl true))) (mBin isntD (mVar 0) (mK (.bl false))))))
noncomputable def g_is_int : Fn := denOf 1 d_is_int
noncomputable def d_is_int_within : FS := (mRet (mAndV (mCall (g_is_int) (mCons (mVar 0) mNil)) (mChain leD leD (mVar 1) (mVar 0) (mVar 2))))
noncomputable def g_is_int_within : Fn := denOf 3 d_is_int_within
noncomputable def d_is_tuple : FS := (mRet (mAndV (mBlt isiD (mCons (mVar 0) (mCons (mK (.ty "tuple")) mNil))) (mChain leD leD (mVar 1) (mBlt lenD (mCons (mVar 0) mNil)) (mVar 2))))
noncomputable def g_is_tuple : Fn := denOf 3 d_is_tuple
noncomputable def F_first_outside_1 : FI := (iEnum1 (mCons (mVar 0) mNil))
noncomputable def t_first_outside_1 : FG := (gT 2 (gsC (gN 3) (gsC (gN 4) gs0)))
noncomputable def b_first_outside_1 : FS := (mIfS (mOr (mNot (mTest (mBlt isiD (mCons (mVar 4) (mCons (mK (.ty "int")) mNil))))) (mOr (mTest (mBin isD (mVar 4) (mK (.bl true)))) (mOr (mTest (mBin isD (mVar 4) (mK (.bl false)))) (mNot (mTest (mChain leD leD (mVar 1) (mVar 4) (mVar 2))))))) (mRet (mVar 3)) mNext)
noncomputable def d_first_outside : FS := (mSeq (mFor F_first_outside_1 t_first_outside_1 b_first_outside_1)
  (mRet (mK .non)))
noncomputable def g_first_outside : Fn := denOf 5 d_first_outside
noncomputable def d_need_rule : FS := (mSeq (mIfS (mNot (mTest (mCall (g_is_tuple) (mCons (mVar 0) (mCons (mK (.int 1)) (mCons (mK (.int 6)) mNil)))))) mStuck mNext)
  (mSeq (mAsg (mCall (g_first_outside) (mCons (mVar 0) (mCons (mUn negD (mK (.int 20))) (mCons (mK (.int 20)) mNil)))) (gN 1))
  (mSeq (mIfS (mTest (mBin isntD (mVar 1) (mK .non))) mStuck mNext)
  (mRet (mVar 0)))))
noncomputable def g_need_rule : Fn := denOf 2 d_need_rule
noncomputable def d_is_rule : FS := (mSeq (mTryN (mExpr (mCall (g_need_rule) (mCons (mVar 0) mNil))))
  (mRet (mK (.bl true))))
noncomputable def g_is_rule : Fn := denOf 1 d_is_rule
noncomputable def d_need_row : FS := (mSeq (mIfS (mNot (mTest (mCall (g_is_tuple) (mCons (mVar 0) (mCons (mK (.int 0)) (mCons (mK (.int 200)) mNil)))))) mStuck mNext)
  (mSeq (mAsg (mCall (g_first_outside) (mCons (mVar 0) (mCons (mK (.int 0)) (mCons (mK (.int 1000000)) mNil)))) (gN 1))
  (mSeq (mIfS (mTest (mBin isntD (mVar 1) (mK .non))) mStuck mNext)
  (mRet (mVar 0)))))
noncomputable def g_need_row : Fn := denOf 2 d_need_row
noncomputable def d_need_row_of : FS := (mSeq (mExpr (mCall (g_need_row) (mCons (mVar 0) mNil)))
  (mSeq (mIfS (mTest (mBin ltD (mBlt lenD (mCons (mVar 0) mNil)) (mVar 1))) mStuck mNext)
  (mRet (mVar 0))))
noncomputable def g_need_row_of : Fn := denOf 2 d_need_row_of
noncomputable def cF_index_of_1 : FI := (iZip2 (mCons (mVar 0) (mCons (mVar 2) mNil)))
noncomputable def ct_index_of_1 : FG := (gT 2 (gsC (gN 3) (gsC (gN 4) gs0)))
noncomputable def ci_index_of_1 : FT := mYes
noncomputable def ce_index_of_1 : FE := (mBin mulD (mVar 3) (mVar 4))
noncomputable def d_index_of : FS := (mSeq (mAsg (mBlt sortedA (mCons (mSl slA (mVar 1) (mPart (mUn negD (mBlt lenD (mCons (mVar 0) mNil)))) mNoPart) mNil)) (gN 2))
  (mRet (mBlt sumA (mCons (mComp cF_index_of_1 [3, 4] ct_index_of_1 ci_index_of_1 ce_index_of_1) mNil))))
noncomputable def g_index_of : Fn := denOf 5 d_index_of
noncomputable def F_indexes_by_ones_1 : FI := (iSeq (mRev (mVar 0)))
noncomputable def t_indexes_by_ones_1 : FG := (gN 2)
noncomputable def b_indexes_by_ones_1 : FS := (mExpr (mApp (mVar 1) (mBin addD (mBin ixA (mVar 1) (mUn negD (mK (.int 1)))) (mVar 2))))
noncomputable def d_indexes_by_ones : FS := (mSeq (mAsg (mLstM (mCons (mK (.int 0)) mNil)) (gN 1))
  (mSeq (mFor F_indexes_by_ones_1 t_indexes_by_ones_1 b_indexes_by_ones_1)
  (mRet (mVar 1))))
noncomputable def g_indexes_by_ones : Fn := denOf 3 d_indexes_by_ones
noncomputable def d_is_factor : FS := (mRet (mCall (g_is_int_within) (mCons (mVar 0) (mCons (mUn negD (mK (.int 50))) (mCons (mK (.int 50)) mNil)))))
noncomputable def g_is_factor : Fn := denOf 1 d_is_factor
noncomputable def d_is_term : FS := (mSeq (mIfS (mNot (mTest (mCall (g_is_tuple) (mCons (mVar 0) (mCons (mK (.int 3)) (mCons (mK (.int 3)) mNil)))))) (mRet (mK (.bl false))) mNext)
  (mSeq (mAsg (mVar 0) (gT 3 (gsC (gN 1) (gsC (gN 2) (gsC (gN 3) gs0)))))
  (mRet (mAndV (mCall (g_is_rule) (mCons (mVar 1) mNil)) (mAndV (mCall (g_is_factor) (mCons (mVar 2) mNil)) (mCall (g_is_factor) (mCons (mVar 3) mNil)))))))
noncomputable def g_is_term : Fn := denOf 4 d_is_term
noncomputable def F_need_bill_1 : FI := (iEnum1 (mCons (mVar 2) mNil))
noncomputable def t_need_bill_1 : FG := (gT 2 (gsC (gN 3) (gsC (gN 4) gs0)))
noncomputable def b_need_bill_1 : FS := (mIfS (mNot (mTest (mCall (g_is_term) (mCons (mVar 4) mNil)))) mStuck mNext)
noncomputable def d_need_bill : FS := (mSeq (mIfS (mNot (mTest (mCall (g_is_tuple) (mCons (mVar 0) (mCons (mK (.int 2)) (mCons (mK (.int 2)) mNil)))))) mStuck mNext)
  (mSeq (mAsg (mVar 0) (gT 2 (gsC (gN 1) (gsC (gN 2) gs0))))
  (mSeq (mIfS (mNot (mTest (mCall (g_is_factor) (mCons (mVar 1) mNil)))) mStuck mNext)
  (mSeq (mIfS (mNot (mTest (mCall (g_is_tuple) (mCons (mVar 2) (mCons (mK (.int 0)) (mCons (mK (.int 2)) mNil)))))) mStuck mNext)
  (mSeq (mFor F_need_bill_1 t_need_bill_1 b_need_bill_1)
  (mRet (mVar 0)))))))
noncomputable def g_need_bill : Fn := denOf 5 d_need_bill
noncomputable def cF_width_of_1 : FI := (iSeq (mBin ixA (mVar 0) (mK (.int 1))))
noncomputable def ct_width_of_1 : FG := (gN 1)
noncomputable def ci_width_of_1 : FT := mYes
noncomputable def ce_width_of_1 : FE := (mBlt lenD (mCons (mBin ixA (mVar 1) (mK (.int 0))) mNil))
noncomputable def d_width_of : FS := (mRet (mBin maxDefD (mComp cF_width_of_1 [1] ct_width_of_1 ci_width_of_1 ce_width_of_1) (mK (.int 1))))
noncomputable def g_width_of : Fn := denOf 2 d_width_of
noncomputable def cF_last_pay_1 : FI := (iSeq (mVar 3))
noncomputable def ct_last_pay_1 : FG := (gT 3 (gsC (gN 6) (gsC (gN 7) (gsC (gN 8) gs0))))
noncomputable def ci_last_pay_1 : FT := mYes
noncomputable def ce_last_pay_1 : FE := (mBin addD (mBin mulD (mVar 7) (mCall (g_index_of) (mCons (mVar 6) (mCons (mVar 4) mNil)))) (mBin mulD (mVar 8) (mCall (g_index_of) (mCons (mVar 6) (mCons (mVar 1) mNil)))))
noncomputable def d_last_pay : FS := (mSeq (mAsg (mVar 0) (gT 2 (gsC (gN 2) (gsC (gN 3) gs0))))
  (mSeq (mAsg (mSl slA (mVar 1) mNoPart (mPart (mUn negD (mK (.int 1))))) (gN 4))
  (mSeq (mAsg (mComp cF_last_pay_1 [6, 7, 8] ct_last_pay_1 ci_last_pay_1 ce_last_pay_1) (gN 5))
  (mRet (mBin addD (mBin mulD (mVar 2) (mBin ixA (mVar 1) (mUn negD (mK (.int 1))))) (mBlt sumA (mCons (mVar 5) mNil)))))))
noncomputable def g_last_pay : Fn := denOf 9 d_last_pay
noncomputable def cF_pays_of_1 : FI := (iRange2 (mCons (mVar 2) (mCons (mBlt lenD (mCons (mVar 1) mNil)) mNil)))
noncomputable def ct_pays_of_1 : FG := (gN 3)
noncomputable def ci_pays_of_1 : FT := mYes
noncomputable def ce_pays_of_1 : FE := (mCall (g_last_pay) (mCons (mVar 0) (mCons (mSl slA (mVar 1) (mPart (mBin subD (mVar 3) (mVar 2))) (mPart (mBin addD (mVar 3) (mK (.int 1))))) mNil)))
noncomputable def d_pays_of : FS := (mSeq (mAsg (mCall (g_width_of) (mCons (mVar 0) mNil)) (gN 2))
  (mRet (mBlt tupleD (mCons (mComp cF_pays_of_1 [3] ct_pays_of_1 ci_pays_of_1 ce_pays_of_1) mNil))))
noncomputable def g_pays_of : Fn := denOf 4 d_pays_of
noncomputable def F_signs_of_1 : FI := (iRange1 (mCons (mVar 2) mNil))
noncomputable def t_signs_of_1 : FG := (gN 4)
noncomputable def b_signs_of_1 : FS := (mSeq (mAsg (mBlt divmodD (mCons (mVar 0) (mCons (mBlt lenD (mCons (mVar 1) mNil)) mNil))) (gT 2 (gsC (gN 0) (gsC (gN 5) gs0))))
  (mExpr (mApp (mVar 3) (mBin ixA (mVar 1) (mVar 5)))))
noncomputable def d_signs_of : FS := (mSeq (mAsg (mLstM mNil) (gN 3))
  (mSeq (mFor F_signs_of_1 t_signs_of_1 b_signs_of_1)
  (mRet (mBlt tupleD (mCons (mRev (mVar 3)) mNil)))))
noncomputable def g_signs_of : Fn := denOf 6 d_signs_of
noncomputable def cF_ones_of_1 : FI := (iSeq (mVar 1))
noncomputable def ct_ones_of_1 : FG := (gN 3)
noncomputable def ci_ones_of_1 : FT := mYes
noncomputable def ce_ones_of_1 : FE := (mBin addD (mVar 3) (mK (.int 1)))
noncomputable def F_ones_of_1 : FI := (iRange1 (mCons (mVar 0) mNil))
noncomputable def t_ones_of_1 : FG := (gN 2)
noncomputable def b_ones_of_1 : FS := (mAsg (mBin addD (mVar 1) (mComp cF_ones_of_1 [3] ct_ones_of_1 ci_ones_of_1 ce_ones_of_1)) (gN 1))
noncomputable def d_ones_of : FS := (mSeq (mAsg (mLst (mCons (mK (.int 0)) mNil)) (gN 1))
  (mSeq (mFor F_ones_of_1 t_ones_of_1 b_ones_of_1)
  (mRet (mVar 1))))
noncomputable def g_ones_of : Fn := denOf 4 d_ones_of
noncomputable def cF_term_pays_1 : FI := (iSeq (mCall (g_ones_of) (mCons (mBlt lenD (mCons (mVar 2) mNil)) mNil)))
noncomputable def ct_term_pays_1 : FG := (gN 9)
noncomputable def ci_term_pays_1 : FT := mYes
noncomputable def ce_term_pays_1 : FE := (mBin ixA (mVar 5) (mVar 9))
noncomputable def cF_term_pays_2 : FI := (iSeq (mVar 6))
noncomputable def ct_term_pays_2 : FG := (gN 10)
noncomputable def ci_term_pays_2 : FT := mYes
noncomputable def cF1_term_pays_2 : FI := (iSeq (mK (.tup [.int 0, .int 1])))
noncomputable def ct1_term_pays_2 : FG := (gN 11)
noncomputable def ci1_term_pays_2 : FT := mYes
noncomputable def ce_term_pays_2 : FE := (mVar 10)
noncomputable def cF_term_pays_3 : FI := (iZip2 (mCons (mVar 7) (mCons (mBin mulD (mVar 6) (mK (.int 2))) mNil)))
noncomputable def ct_term_pays_3 : FG := (gT 2 (gsC (gN 12) (gsC (gN 13) gs0)))
noncomputable def ci_term_pays_3 : FT := mYes
noncomputable def ce_term_pays_3 : FE := (mBin addD (mBin mulD (mVar 3) (mVar 12)) (mBin mulD (mVar 4) (mVar 13)))
noncomputable def d_term_pays : FS := (mSeq (mAsg (mVar 0) (gT 3 (gsC (gN 2) (gsC (gN 3) (gsC (gN 4) gs0)))))
  (mSeq (mAsg (mCall (g_indexes_by_ones) (mCons (mVar 2) mNil)) (gN 5))
  (mSeq (mAsg (mComp cF_term_pays_1 [9] ct_term_pays_1 ci_term_pays_1 ce_term_pays_1) (gN 6))
  (mSeq (mAsg (mComp2 cF_term_pays_2 [10, 11] ct_term_pays_2 ci_term_pays_2 cF1_term_pays_2 [11] ct1_term_pays_2 ci1_term_pays_2 ce_term_pays_2) (gN 7))
  (mSeq (mAsg (mComp cF_term_pays_3 [12, 13] ct_term_pays_3 ci_term_pays_3 ce_term_pays_3) (gN 8))
  (mRet (mBin mulD (mVar 8) (mBin shlD (mK (.int 1)) (mBin subD (mVar 1) (mBlt lenD (mCons (mVar 2) mNil)))))))))))
noncomputable def g_term_pays : Fn := denOf 14 d_term_pays
noncomputable def cF_bit_pays_1 : FI := (iZip2 (mCons (mVar 4) (mCons (mCall (g_term_pays) (mCons (mVar 5) (mCons (mVar 3) mNil))) mNil)))
noncomputable def ct_bit_pays_1 : FG := (gT 2 (gsC (gN 6) (gsC (gN 7) gs0)))
noncomputable def ci_bit_pays_1 : FT := mYes
noncomputable def ce_bit_pays_1 : FE := (mBin addD (mVar 6) (mVar 7))
noncomputable def F_bit_pays_1 : FI := (iSeq (mVar 2))
noncomputable def t_bit_pays_1 : FG := (gN 5)
noncomputable def b_bit_pays_1 : FS := (mAsg (mComp cF_bit_pays_1 [6, 7] ct_bit_pays_1 ci_bit_pays_1 ce_bit_pays_1) (gN 4))
noncomputable def d_bit_pays : FS := (mSeq (mAsg (mVar 0) (gT 2 (gsC (gN 1) (gsC (gN 2) gs0))))
  (mSeq (mAsg (mCall (g_width_of) (mCons (mVar 0) mNil)) (gN 3))
  (mSeq (mAsg (mBin mulD (mLst (mCons (mK (.int 0)) (mCons (mVar 1) mNil))) (mBin shlD (mK (.int 1)) (mVar 3))) (gN 4))
  (mSeq (mFor F_bit_pays_1 t_bit_pays_1 b_bit_pays_1)
  (mRet (mVar 4))))))
noncomputable def g_bit_pays : Fn := denOf 8 d_bit_pays
noncomputable def cF_pays_of_firsts_1 : FI := (iSeq (mVar 0))
noncomputable def ct_pays_of_firsts_1 : FG := (gN 2)
noncomputable def ci_pays_of_firsts_1 : FT := mYes
noncomputable def ce_pays_of_firsts_1 : FE := (mLst (mCons (mVar 2) mNil))
noncomputable def cF_pays_of_firsts_2 : FI := (iZip2 (mCons (mStep (mVar 1) (mK (.int 0)) (mK (.int 2))) (mCons (mStep (mVar 1) (mK (.int 1)) (mK (.int 2))) mNil)))
noncomputable def ct_pays_of_firsts_2 : FG := (gT 2 (gsC (gN 3) (gsC (gN 4) gs0)))
noncomputable def ci_pays_of_firsts_2 : FT := mYes
noncomputable def ce_pays_of_firsts_2 : FE := (mBin addD (mBin addD (mVar 3) (mVar 3)) (mVar 4))
noncomputable def wt_pays_of_firsts_1 : FT := (mTest (mBin gtD (mBlt lenD (mCons (mVar 1) mNil)) (mK (.int 1))))
noncomputable def wb_pays_of_firsts_1 : FS := (mAsg (mComp cF_pays_of_firsts_2 [3, 4] ct_pays_of_firsts_2 ci_pays_of_firsts_2 ce_pays_of_firsts_2) (gN 1))
noncomputable def d_pays_of_firsts : FS := (mSeq (mAsg (mComp cF_pays_of_firsts_1 [2] ct_pays_of_firsts_1 ci_pays_of_firsts_1 ce_pays_of_firsts_1) (gN 1))
  (mSeq (whL wt_pays_of_firsts_1 wb_pays_of_firsts_1 100000)
  (mRet (mBin ixA (mVar 1) (mK (.int 0))))))
noncomputable def g_pays_of_firsts : Fn := denOf 5 d_pays_of_firsts
noncomputable def cF_pays_of_seconds_1 : FI := (iSeq (mVar 0))
noncomputable def ct_pays_of_seconds_1 : FG := (gN 2)
noncomputable def ci_pays_of_seconds_1 : FT := mYes
noncomputable def ce_pays_of_seconds_1 : FE := (mLst (mCons (mVar 2) mNil))
noncomputable def cF_pays_of_seconds_2 : FI := (iZip2 (mCons (mStep (mVar 1) (mK (.int 0)) (mK (.int 2))) (mCons (mStep (mVar 1) (mK (.int 1)) (mK (.int 2))) mNil)))
noncomputable def ct_pays_of_seconds_2 : FG := (gT 2 (gsC (gN 3) (gsC (gN 4) gs0)))
noncomputable def ci_pays_of_seconds_2 : FT := mYes
noncomputable def ce_pays_of_seconds_2 : FE := (mBin addD (mBin addD (mVar 3) (mVar 4)) (mVar 4))
noncomputable def wt_pays_of_seconds_1 : FT := (mTest (mBin gtD (mBlt lenD (mCons (mVar 1) mNil)) (mK (.int 1))))
noncomputable def wb_pays_of_seconds_1 : FS := (mAsg (mComp cF_pays_of_seconds_2 [3, 4] ct_pays_of_seconds_2 ci_pays_of_seconds_2 ce_pays_of_seconds_2) (gN 1))
noncomputable def d_pays_of_seconds : FS := (mSeq (mAsg (mComp cF_pays_of_seconds_1 [2] ct_pays_of_seconds_1 ci_pays_of_seconds_1 ce_pays_of_seconds_1) (gN 1))
  (mSeq (whL wt_pays_of_seconds_1 wb_pays_of_seconds_1 100000)
  (mRet (mBin ixA (mVar 1) (mK (.int 0))))))
noncomputable def g_pays_of_seconds : Fn := denOf 5 d_pays_of_seconds
noncomputable def cF_pair_pays_1 : FI := (iZip2 (mCons (mCall (g_pays_of_firsts) (mCons (mVar 0) mNil)) (mCons (mCall (g_pays_of_seconds) (mCons (mVar 0) mNil)) mNil)))
noncomputable def ct_pair_pays_1 : FG := (gT 2 (gsC (gN 1) (gsC (gN 2) gs0)))
noncomputable def ci_pair_pays_1 : FT := mYes
noncomputable def ce_pair_pays_1 : FE := (mBin subD (mVar 2) (mVar 1))
noncomputable def d_pair_pays : FS := (mRet (mComp cF_pair_pays_1 [1, 2] ct_pair_pays_1 ci_pair_pays_1 ce_pair_pays_1))
noncomputable def g_pair_pays : Fn := denOf 3 d_pair_pays
noncomputable def cF_like_couples_1 : FI := (iSeq (mVar 1))
noncomputable def ct_like_couples_1 : FG := (gN 3)
noncomputable def ci_like_couples_1 : FT := mYes
noncomputable def cF1_like_couples_1 : FI := (iSeq (mTup (mCons (mK (.int 0)) (mCons (mK (.int 2)) mNil))))
noncomputable def ct1_like_couples_1 : FG := (gN 4)
noncomputable def ci1_like_couples_1 : FT := mYes
noncomputable def ce_like_couples_1 : FE := (mBin addD (mBin mulD (mK (.int 3)) (mVar 3)) (mVar 4))
noncomputable def F_like_couples_1 : FI := (iRange1 (mCons (mVar 0) mNil))
noncomputable def t_like_couples_1 : FG := (gN 2)
noncomputable def b_like_couples_1 : FS := (mAsg (mComp2 cF_like_couples_1 [3, 4] ct_like_couples_1 ci_like_couples_1 cF1_like_couples_1 [4] ct1_like_couples_1 ci1_like_couples_1 ce_like_couples_1) (gN 1))
noncomputable def d_like_couples : FS := (mSeq (mAsg (mLst (mCons (mK (.int 0)) mNil)) (gN 1))
  (mSeq (mFor F_like_couples_1 t_like_couples_1 b_like_couples_1)
  (mRet (mVar 1))))
noncomputable def g_like_couples : Fn := denOf 5 d_like_couples
noncomputable def d_paid_at : FS := (mRet (mUn negD (mBin divD (mUn negD (mVar 0)) (mK (.int 16)))))
noncomputable def g_paid_at : Fn := denOf 1 d_paid_at
noncomputable def cF_more_by_1 : FI := (iEnum1 (mCons (mVar 0) mNil))
noncomputable def ct_more_by_1 : FG := (gT 2 (gsC (gN 2) (gsC (gN 3) gs0)))
noncomputable def ci_more_by_1 : FT := mYes
noncomputable def ce_more_by_1 : FE := (mBin subD (mBin mulD (mK (.int 16)) (mBin subD (mBin ixA (mVar 0) (mBin xorD (mVar 2) (mVar 1))) (mVar 3))) (mK (.int 1)))
noncomputable def d_more_by : FS := (mRet (mComp cF_more_by_1 [2, 3] ct_more_by_1 ci_more_by_1 ce_more_by_1))
noncomputable def g_more_by : Fn := denOf 4 d_more_by
noncomputable def cF_heights_ahead_1 : FI := (iZip2 (mCons (mCall (g_more_by) (mCons (mVar 0) (mCons (mVar 1) mNil))) (mCons (mBin mulD (mVar 2) (mK (.int 2))) mNil)))
noncomputable def ct_heights_ahead_1 : FG := (gT 2 (gsC (gN 4) (gsC (gN 5) gs0)))
noncomputable def ci_heights_ahead_1 : FT := mYes
noncomputable def ce_heights_ahead_1 : FE := (mBin addD (mVar 4) (mVar 5))
noncomputable def cF_heights_ahead_2 : FI := (iZip2 (mCons (mStep (mVar 3) (mK (.int 0)) (mK (.int 2))) (mCons (mStep (mVar 3) (mK (.int 1)) (mK (.int 2))) mNil)))
noncomputable def ct_heights_ahead_2 : FG := (gT 2 (gsC (gN 6) (gsC (gN 7) gs0)))
noncomputable def ci_heights_ahead_2 : FT := mYes
noncomputable def ce_heights_ahead_2 : FE := (mBlt max3D (mCons (mK (.int 0)) (mCons (mVar 6) (mCons (mVar 7) mNil))))
noncomputable def d_heights_ahead : FS := (mSeq (mAsg (mComp cF_heights_ahead_1 [4, 5] ct_heights_ahead_1 ci_heights_ahead_1 ce_heights_ahead_1) (gN 3))
  (mRet (mComp cF_heights_ahead_2 [6, 7] ct_heights_ahead_2 ci_heights_ahead_2 ce_heights_ahead_2)))
noncomputable def g_heights_ahead : Fn := denOf 8 d_heights_ahead
noncomputable def F_layers_of_1 : FI := (iSeq (mRev (mVar 1)))
noncomputable def t_layers_of_1 : FG := (gN 3)
noncomputable def b_layers_of_1 : FS := (mExpr (mApp (mVar 2) (mCall (g_heights_ahead) (mCons (mVar 0) (mCons (mVar 3) (mCons (mBin ixA (mVar 2) (mUn negD (mK (.int 1)))) mNil))))))
noncomputable def d_layers_of : FS := (mSeq (mAsg (mLstM (mCons (mBin mulD (mLst (mCons (mK (.int 0)) mNil)) (mBin divD (mBlt lenD (mCons (mVar 0) mNil)) (mK (.int 2)))) mNil)) (gN 2))
  (mSeq (mFor F_layers_of_1 t_layers_of_1 b_layers_of_1)
  (mRet (mRev (mVar 2)))))
noncomputable def g_layers_of : Fn := denOf 4 d_layers_of
noncomputable def F_further_bits_1 : FI := (iZip3 (mCons (mVar 1) (mCons (mVar 2) (mCons (mSl slA (mVar 2) (mPart (mK (.int 1))) mNoPart) mNil))))
noncomputable def t_further_bits_1 : FG := (gT 3 (gsC (gN 5) (gsC (gN 6) (gsC (gN 7) gs0))))
noncomputable def b_further_bits_1 : FS := (mSeq (mIfS (mTest (mBin eqD (mBin ixA (mVar 6) (mVar 3)) (mK (.int 0)))) mBreak mNext)
  (mSeq (mAsg (mBin mulD (mK (.int 2)) (mVar 3)) (gN 8))
  (mSeq (mIfS (mTest (mBin ltD (mBin addD (mBin ixA (mCall (g_more_by) (mCons (mVar 0) (mCons (mVar 5) mNil))) (mVar 8)) (mBin ixA (mVar 7) (mBin modD (mVar 8) (mBlt lenD (mCons (mVar 7) mNil))))) (mBin ixA (mVar 6) (mVar 3)))) (mAug 8 addI (mK (.int 1))) mNext)
  (mSeq (mAsg (mBin modD (mVar 8) (mBlt lenD (mCons (mVar 7) mNil))) (gN 3))
  (mExpr (mApp (mVar 4) (mBin modD (mVar 8) (mK (.int 2)))))))))
noncomputable def d_further_bits : FS := (mSeq (mAsg (mLstM mNil) (gN 4))
  (mSeq (mFor F_further_bits_1 t_further_bits_1 b_further_bits_1)
  (mRet (mBlt tupleD (mCons (mVar 4) mNil)))))
noncomputable def g_further_bits : Fn := denOf 9 d_further_bits
noncomputable def cF_best_single_1 : FI := (iRange2 (mCons (mK (.int 1)) (mCons (mBin addD (mVar 1) (mK (.int 1))) mNil)))
noncomputable def ct_best_single_1 : FG := (gN 11)
noncomputable def ci_best_single_1 : FT := mYes
noncomputable def ce_best_single_1 : FE := (mBin shlD (mK (.int 1)) (mVar 11))
noncomputable def cF_best_single_2 : FI := (iRange3 (mCons (mK (.int 0)) (mCons (mBlt lenD (mCons (mVar 0) mNil)) (mCons (mK (.int 2)) mNil))))
noncomputable def ct_best_single_2 : FG := (gN 12)
noncomputable def ci_best_single_2 : FT := mYes
noncomputable def ce_best_single_2 : FE := (mBin addD (mBin ixA (mVar 5) (mVar 12)) (mBin ixA (mBin ixA (mVar 3) (mK (.int 0))) (mBin modD (mVar 12) (mVar 4))))
noncomputable def d_best_single : FS := (mSeq (mAsg (mComp cF_best_single_1 [11] ct_best_single_1 ci_best_single_1 ce_best_single_1) (gN 2))
  (mSeq (mAsg (mCall (g_layers_of) (mCons (mVar 0) (mCons (mVar 2) mNil))) (gN 3))
  (mSeq (mAsg (mBlt lenD (mCons (mBin ixA (mVar 3) (mK (.int 0))) mNil)) (gN 4))
  (mSeq (mAsg (mCall (g_more_by) (mCons (mVar 0) (mCons (mK (.int 1)) mNil))) (gN 5))
  (mSeq (mAsg (mComp cF_best_single_2 [12] ct_best_single_2 ci_best_single_2 ce_best_single_2) (gN 6))
  (mSeq (mAsg (mBlt maxLD (mCons (mVar 6) mNil)) (gN 7))
  (mSeq (mAsg (mIndex (mVar 6) (mVar 7)) (gN 8))
  (mSeq (mAsg (mCall (g_signs_of) (mCons (mVar 8) (mCons (mK (.tup [.int 0, .int 1])) (mCons (mVar 1) mNil)))) (gN 9))
  (mSeq (mAsg (mCall (g_further_bits) (mCons (mVar 0) (mCons (mVar 2) (mCons (mVar 3) (mCons (mBin modD (mBin mulD (mK (.int 2)) (mVar 8)) (mVar 4)) mNil))))) (gN 10))
  (mRet (mTup (mCons (mCall (g_paid_at) (mCons (mVar 7) mNil)) (mCons (mBin addD (mBin addD (mVar 9) (mTup (mCons (mK (.int 0)) mNil))) (mVar 10)) (mCons (mBin addD (mBin addD (mVar 9) (mTup (mCons (mK (.int 1)) mNil))) (mVar 10)) mNil))))))))))))))
noncomputable def g_best_single : Fn := denOf 13 d_best_single
noncomputable def cF_raised_1 : FI := (iZip2 (mCons (mVar 0) (mCons (mBin mulD (mVar 1) (mVar 2)) mNil)))
noncomputable def ct_raised_1 : FG := (gT 2 (gsC (gN 6) (gsC (gN 7) gs0)))
noncomputable def ci_raised_1 : FT := mYes
noncomputable def ce_raised_1 : FE := (mBin addD (mVar 6) (mVar 7))
noncomputable def cF_raised_2 : FI := (iZip2 (mCons (mVar 3) (mCons (mStep (mVar 4) (mVar 5) (mVar 2)) mNil)))
noncomputable def ct_raised_2 : FG := (gT 2 (gsC (gN 8) (gsC (gN 9) gs0)))
noncomputable def ci_raised_2 : FT := mYes
noncomputable def ce_raised_2 : FE := (mIf (mTest (mBin gtD (mVar 8) (mVar 9))) (mVar 8) (mVar 9))
noncomputable def F_raised_1 : FI := (iRange1 (mCons (mVar 2) mNil))
noncomputable def t_raised_1 : FG := (gN 5)
noncomputable def b_raised_1 : FS := (mAsg (mComp cF_raised_2 [8, 9] ct_raised_2 ci_raised_2 ce_raised_2) (gN 3))
noncomputable def d_raised : FS := (mSeq (mAsg (mVar 1) (gN 3))
  (mSeq (mAsg (mComp cF_raised_1 [6, 7] ct_raised_1 ci_raised_1 ce_raised_1) (gN 4))
  (mSeq (mFor F_raised_1 t_raised_1 b_raised_1)
  (mRet (mVar 3)))))
noncomputable def g_raised : Fn := denOf 10 d_raised
noncomputable def wt_trail_1 : FT := (mTest (mBin neD (mBin addD (mBin ixA (mVar 0) (mVar 9)) (mBin ixA (mVar 8) (mBin modD (mVar 9) (mBlt lenD (mCons (mVar 8) mNil))))) (mBin ixA (mBin ixA (mVar 1) (mVar 7)) (mVar 4))))
noncomputable def wb_trail_1 : FS := (mAug 9 addI (mK (.int 1)))
noncomputable def F_trail_1 : FI := (iRevR2 (mK (.int 1)) (mBlt lenD (mCons (mVar 1) mNil)))
noncomputable def t_trail_1 : FG := (gN 7)
noncomputable def b_trail_1 : FS := (mSeq (mAsg (mBin ixA (mVar 1) (mBin subD (mVar 7) (mK (.int 1)))) (gN 8))
  (mSeq (mAsg (mBin mulD (mVar 3) (mVar 4)) (gN 9))
  (mSeq (whL wt_trail_1 wb_trail_1 100000)
  (mSeq (mAsg (mBin modD (mVar 9) (mBlt lenD (mCons (mVar 8) mNil))) (gN 4))
  (mSeq (mExpr (mApp (mVar 5) (mVar 4)))
  (mExpr (mApp (mVar 6) (mBin modD (mVar 9) (mVar 3)))))))))
noncomputable def d_trail : FS := (mSeq (mAsg (mVar 2) (gN 4))
  (mSeq (mAsg (mLstM (mCons (mVar 4) mNil)) (gN 5))
  (mSeq (mAsg (mLstM mNil) (gN 6))
  (mSeq (mFor F_trail_1 t_trail_1 b_trail_1)
  (mRet (mTup (mCons (mVar 5) (mCons (mVar 6) mNil))))))))
noncomputable def g_trail : Fn := denOf 10 d_trail
noncomputable def F_ring_on_1 : FI := (iEnum1 (mCons (mVar 0) mNil))
noncomputable def t_ring_on_1 : FG := (gT 2 (gsC (gN 3) (gsC (gN 4) gs0)))
noncomputable def b_ring_on_1 : FS := (mSeq (mIfS (mTest (mBin (inDD false) (mVar 4) (mVar 2))) (mRet (mTup (mCons (mVar 4) (mCons (mBlt tupleD (mCons (mSl slA (mVar 1) (mPart (mBin ixA (mVar 2) (mVar 4))) (mPart (mVar 3))) mNil)) mNil)))) mNext)
  (mDPut (mVar 2) (mVar 4) (mVar 3)))
noncomputable def d_ring_on : FS := (mSeq (mAsg mDctM0 (gN 2))
  (mSeq (mFor F_ring_on_1 t_ring_on_1 b_ring_on_1)
  (mRet (mK .non))))
noncomputable def g_ring_on : Fn := denOf 5 d_ring_on
noncomputable def F_ring_of_one_1 : FI := (iRange1 (mCons (mVar 1) mNil))
noncomputable def t_ring_of_one_1 : FG := (gN 3)
noncomputable def b_ring_of_one_1 : FS := (mIfS (mTest (mBin gtD (mBin ixA (mVar 0) (mBin mulD (mVar 3) (mVar 2))) (mK (.int 0)))) (mRet (mTup (mCons (mBin divD (mBin mulD (mVar 3) (mVar 2)) (mVar 1)) (mCons (mTup (mCons (mVar 3) mNil)) mNil)))) mNext)
noncomputable def d_ring_of_one : FS := (mSeq (mAsg (mBin divD (mBin subD (mBlt lenD (mCons (mVar 0) mNil)) (mK (.int 1))) (mBin subD (mVar 1) (mK (.int 1)))) (gN 2))
  (mSeq (mFor F_ring_of_one_1 t_ring_of_one_1 b_ring_of_one_1)
  (mRet (mK .non))))
noncomputable def g_ring_of_one : Fn := denOf 4 d_ring_of_one
noncomputable def cF_steepest_1 : FI := (iZip2 (mCons (mBin ixA (mVar 0) (mUn negD (mK (.int 1)))) (mCons (mBin ixA (mVar 0) (mUn negD (mK (.int 2)))) mNil)))
noncomputable def ct_steepest_1 : FG := (gT 2 (gsC (gN 2) (gsC (gN 3) gs0)))
noncomputable def ci_steepest_1 : FT := mYes
noncomputable def ce_steepest_1 : FE := (mBin subD (mVar 2) (mVar 3))
noncomputable def d_steepest : FS := (mSeq (mAsg (mComp cF_steepest_1 [2, 3] ct_steepest_1 ci_steepest_1 ce_steepest_1) (gN 1))
  (mRet (mIndex (mVar 1) (mBlt maxLD (mCons (mVar 1) mNil)))))
noncomputable def g_steepest : Fn := denOf 4 d_steepest
noncomputable def wt_climb_1 : FT := (mTest (mK (.bl true)))
noncomputable def wb_climb_1 : FS := (mSeq (mAsg (mCall (g_raised) (mCons (mVar 0) (mCons (mBin ixA (mVar 3) (mUn negD (mK (.int 1)))) (mCons (mVar 1) mNil)))) (gN 5))
  (mSeq (mIfS (mTest (mBin eqD (mVar 5) (mBin ixA (mVar 3) (mUn negD (mK (.int 1)))))) (mRet (mTup (mCons (mVar 3) (mCons (mK .non) mNil)))) mNext)
  (mSeq (mExpr (mApp (mVar 3) (mVar 5)))
  (mIfS (mTest (mBin gtD (mBlt lenD (mCons (mVar 3) mNil)) (mVar 4))) (mSeq (mAsg (mCall (g_trail) (mCons (mVar 0) (mCons (mVar 3) (mCons (mCall (g_steepest) (mCons (mVar 3) mNil)) (mCons (mVar 1) mNil))))) (gT 2 (gsC (gN 6) (gsC (gN 7) gs0))))
  (mSeq (mAsg (mCall (g_ring_on) (mCons (mVar 6) (mCons (mVar 7) mNil))) (gN 2))
  (mSeq (mIfS (mTest (mBin isntD (mVar 2) (mK .non))) (mRet (mTup (mCons (mK .non) (mCons (mVar 2) mNil)))) mNext)
  (mAug 4 addI (mBin addD (mK (.int 1)) (mBin divD (mVar 4) (mK (.int 4)))))))) mNext))))
noncomputable def d_climb : FS := (mSeq (mAsg (mCall (g_ring_of_one) (mCons (mVar 0) (mCons (mVar 1) mNil))) (gN 2))
  (mSeq (mIfS (mTest (mBin isntD (mVar 2) (mK .non))) (mRet (mTup (mCons (mK .non) (mCons (mVar 2) mNil)))) mNext)
  (mSeq (mAsg (mLstM (mCons (mBin mulD (mLst (mCons (mK (.int 0)) mNil)) (mBin divD (mBlt lenD (mCons (mVar 0) mNil)) (mVar 1))) mNil)) (gN 3))
  (mSeq (mAsg (mK (.int 1)) (gN 4))
  (whL wt_climb_1 wb_climb_1 100000)))))
noncomputable def g_climb : Fn := denOf 8 d_climb
noncomputable def cF_greatest_of_1 : FI := (iSeq (mVar 1))
noncomputable def ct_greatest_of_1 : FG := (gN 2)
noncomputable def ci_greatest_of_1 : FT := mYes
noncomputable def ce_greatest_of_1 : FE := (mBin ixA (mVar 0) (mVar 2))
noncomputable def d_greatest_of : FS := (mRet (mBlt maxLD (mCons (mComp cF_greatest_of_1 [2] ct_greatest_of_1 ci_greatest_of_1 ce_greatest_of_1) mNil)))
noncomputable def g_greatest_of : Fn := denOf 3 d_greatest_of
noncomputable def wt_best_walk_1 : FT := (mTest (mBin ltD (mCall (g_greatest_of) (mCons (mBin ixA (mVar 1) (mVar 5)) (mCons (mVar 2) mNil))) (mVar 4)))
noncomputable def wb_best_walk_1 : FS := (mAug 5 addI (mK (.int 1)))
noncomputable def cF_best_walk_1 : FI := (iSeq (mVar 2))
noncomputable def ct_best_walk_1 : FG := (gN 9)
noncomputable def ci_best_walk_1 : FT := (mTest (mBin eqD (mBin ixA (mBin ixA (mVar 1) (mVar 5)) (mVar 9)) (mVar 4)))
noncomputable def ce_best_walk_1 : FE := (mVar 9)
noncomputable def d_best_walk : FS := (mSeq (mAsg (mCall (g_greatest_of) (mCons (mBin ixA (mVar 1) (mUn negD (mK (.int 1)))) (mCons (mVar 2) mNil))) (gN 4))
  (mSeq (mAsg (mK (.int 0)) (gN 5))
  (mSeq (whL wt_best_walk_1 wb_best_walk_1 100000)
  (mSeq (mAsg (mComp cF_best_walk_1 [9] ct_best_walk_1 ci_best_walk_1 ce_best_walk_1) (gN 6))
  (mSeq (mAsg (mCall (g_trail) (mCons (mVar 0) (mCons (mSl slA (mVar 1) mNoPart (mPart (mBin addD (mVar 5) (mK (.int 1))))) (mCons (mBin ixA (mVar 6) (mK (.int 0))) (mCons (mVar 3) mNil))))) (gT 2 (gsC (gN 7) (gsC (gN 8) gs0))))
  (mRet (mTup (mCons (mBin ixA (mVar 6) (mK (.int 0))) (mCons (mBlt tupleD (mCons (mVar 8) mNil)) mNil)))))))))
noncomputable def g_best_walk : Fn := denOf 10 d_best_walk
noncomputable def d_need_kind : FS := (mSeq (mIfS (mOr (mNot (mTest (mBlt isiD (mCons (mVar 0) (mCons (mK (.ty "str")) mNil))))) (mTest (mBin (inQ true) (mVar 0) (mTup (mCons (mK (.str "any")) (mCons (mK (.str "once")) mNil)))))) mStuck mNext)
  (mRet (mVar 0)))
noncomputable def g_need_kind : Fn := denOf 1 d_need_kind
noncomputable def F_need_worse_1 : FI := (iEz (mCons (mVar 1) (mCons (mVar 0) mNil)))
noncomputable def t_need_worse_1 : FG := (gT 2 (gsC (gN 3) (gsC (gT 2 (gsC (gN 4) (gsC (gN 5) gs0))) gs0)))
noncomputable def b_need_worse_1 : FS := (mIfS (mOr (mTest (mBin ltD (mVar 5) (mVar 4))) (mAnd (mTest (mBin ltD (mVar 3) (mVar 2))) (mTest (mBin gtD (mVar 5) (mVar 4))))) mStuck mNext)
noncomputable def d_need_worse : FS := (mSeq (mExpr (mCall (g_need_row) (mCons (mVar 0) mNil)))
  (mSeq (mIfS (mTest (mBin neD (mBlt lenD (mCons (mVar 0) mNil)) (mBlt lenD (mCons (mVar 1) mNil)))) mStuck mNext)
  (mSeq (mFor F_need_worse_1 t_need_worse_1 b_need_worse_1)
  (mRet (mVar 0)))))
noncomputable def g_need_worse : Fn := denOf 6 d_need_worse
noncomputable def d_gain : FS := (mSeq (mAsg (mCall (g_width_of) (mCons (mCall (g_need_bill) (mCons (mVar 0) mNil)) mNil)) (gN 3))
  (mSeq (mExpr (mCall (g_need_row_of) (mCons (mVar 1) (mCons (mVar 3) mNil))))
  (mSeq (mExpr (mCall (g_need_worse) (mCons (mVar 2) (mCons (mVar 1) (mCons (mVar 3) mNil)))))
  (mRet (mBin subD (mBlt sumA (mCons (mCall (g_pays_of) (mCons (mVar 0) (mCons (mVar 2) mNil))) mNil)) (mBlt sumA (mCons (mCall (g_pays_of) (mCons (mVar 0) (mCons (mVar 1) mNil))) mNil)))))))
noncomputable def g_gain : Fn := denOf 4 d_gain
noncomputable def d_greatest_gain : FS := (mSeq (mAsg (mCall (g_width_of) (mCons (mCall (g_need_bill) (mCons (mVar 0) mNil)) mNil)) (gN 2))
  (mSeq (mIfS (mTest (mBin eqD (mCall (g_need_kind) (mCons (mVar 1) mNil)) (mK (.str "once")))) (mRet (mBlt max2D (mCons (mK (.int 0)) (mCons (mBin ixA (mCall (g_best_single) (mCons (mCall (g_bit_pays) (mCons (mVar 0) mNil)) (mCons (mVar 2) mNil))) (mK (.int 0))) mNil)))) mNext)
  (mSeq (mAsg (mCall (g_climb) (mCons (mCall (g_pair_pays) (mCons (mCall (g_bit_pays) (mCons (mVar 0) mNil)) mNil)) (mCons (mK (.int 3)) mNil))) (gT 2 (gsC (gN 3) (gsC (gN 4) gs0))))
  (mSeq (mIfS (mTest (mBin isntD (mVar 4) (mK .non))) (mRet (mK .non)) mNext)
  (mRet (mCall (g_greatest_of) (mCons (mBin ixA (mVar 3) (mUn negD (mK (.int 1)))) (mCons (mCall (g_like_couples) (mCons (mVar 2) mNil)) mNil))))))))
noncomputable def g_greatest_gain : Fn := denOf 5 d_greatest_gain
noncomputable def cF_rows_of_1 : FI := (iSeq (mVar 0))
noncomputable def ct_rows_of_1 : FG := (gN 1)
noncomputable def ci_rows_of_1 : FT := mYes
noncomputable def ce_rows_of_1 : FE := (mBin ixA (mVar 1) (mK (.int 0)))
noncomputable def cF_rows_of_2 : FI := (iSeq (mVar 0))
noncomputable def ct_rows_of_2 : FG := (gN 1)
noncomputable def ci_rows_of_2 : FT := mYes
noncomputable def ce_rows_of_2 : FE := (mBin ixA (mVar 1) (mK (.int 1)))
noncomputable def d_rows_of : FS := (mRet (mTup (mCons (mBlt tupleD (mCons (mComp cF_rows_of_1 [1] ct_rows_of_1 ci_rows_of_1 ce_rows_of_1) mNil)) (mCons (mBlt tupleD (mCons (mComp cF_rows_of_2 [1] ct_rows_of_2 ci_rows_of_2 ce_rows_of_2) mNil)) mNil))))
noncomputable def g_rows_of : Fn := denOf 2 d_rows_of
noncomputable def cF_rows_of_gain_1 : FI := (iSeq (mVar 4))
noncomputable def ct_rows_of_gain_1 : FG := (gN 5)
noncomputable def ci_rows_of_gain_1 : FT := mYes
noncomputable def ce_rows_of_gain_1 : FE := (mBin ixA (mK (.tup [.tup [.int 0, .int 0], .tup [.int 0, .int 1], .tup [.int 1, .int 1]])) (mVar 5))
noncomputable def d_rows_of_gain : FS := (mSeq (mAsg (mCall (g_best_walk) (mCons (mVar 0) (mCons (mVar 1) (mCons (mCall (g_like_couples) (mCons (mVar 2) mNil)) (mCons (mK (.int 3)) mNil))))) (gT 2 (gsC (gN 3) (gsC (gN 4) gs0))))
  (mRet (mCall (g_rows_of) (mCons (mBin addD (mCall (g_signs_of) (mCons (mVar 3) (mCons (mK (.tup [.tup [.int 0, .int 0], .tup [.int 0, .int 1], .tup [.int 1, .int 1]])) (mCons (mVar 2) mNil)))) (mBlt tupleD (mCons (mComp cF_rows_of_gain_1 [5] ct_rows_of_gain_1 ci_rows_of_gain_1 ce_rows_of_gain_1) mNil))) mNil))))
noncomputable def g_rows_of_gain : Fn := denOf 6 d_rows_of_gain
noncomputable def d_rows_of_single : FS := (mSeq (mAsg (mCall (g_width_of) (mCons (mVar 0) mNil)) (gN 1))
  (mSeq (mAsg (mCall (g_best_single) (mCons (mCall (g_bit_pays) (mCons (mVar 0) mNil)) (mCons (mVar 1) mNil))) (gT 3 (gsC (gN 2) (gsC (gN 3) (gsC (gN 4) gs0)))))
  (mSeq (mIfS (mTest (mBin gtD (mVar 2) (mK (.int 0)))) (mRet (mTup (mCons (mVar 3) (mCons (mVar 4) mNil)))) mNext)
  (mRet (mTup (mCons (mBin mulD (mTup (mCons (mK (.int 0)) mNil)) (mVar 1)) (mCons (mBin mulD (mTup (mCons (mK (.int 0)) mNil)) (mVar 1)) mNil)))))))
noncomputable def g_rows_of_single : Fn := denOf 5 d_rows_of_single
noncomputable def d_gain_rows : FS := (mSeq (mAsg (mCall (g_width_of) (mCons (mCall (g_need_bill) (mCons (mVar 0) mNil)) mNil)) (gN 2))
  (mSeq (mIfS (mTest (mBin eqD (mCall (g_need_kind) (mCons (mVar 1) mNil)) (mK (.str "once")))) (mRet (mCall (g_rows_of_single) (mCons (mVar 0) mNil))) mNext)
  (mSeq (mAsg (mCall (g_pair_pays) (mCons (mCall (g_bit_pays) (mCons (mVar 0) mNil)) mNil)) (gN 3))
  (mSeq (mAsg (mCall (g_climb) (mCons (mVar 3) (mCons (mK (.int 3)) mNil))) (gT 2 (gsC (gN 4) (gsC (gN 5) gs0))))
  (mSeq (mIfS (mTest (mBin isntD (mVar 5) (mK .non))) (mRet (mK .non)) mNext)
  (mRet (mCall (g_rows_of_gain) (mCons (mVar 3) (mCons (mVar 4) (mCons (mVar 2) mNil))))))))))
noncomputable def g_gain_rows : Fn := denOf 6 d_gain_rows
noncomputable def d_does_pay : FS := (mSeq (mExpr (mCall (g_need_bill) (mCons (mVar 0) mNil)))
  (mSeq (mExpr (mCall (g_need_kind) (mCons (mVar 1) mNil)))
  (mRet (mBin gtD (mCall (g_greatest_gain) (mCons (mVar 0) (mCons (mK (.str "once")) mNil))) (mK (.int 0))))))
noncomputable def g_does_pay : Fn := denOf 2 d_does_pay
noncomputable def cF__law_begun_1 : FI := (iSeq (mVar 0))
noncomputable def ct__law_begun_1 : FG := (gN 2)
noncomputable def ci__law_begun_1 : FT := (mTest (mBin geD (mVar 2) (mBin powD (mK (.int 10)) (mK (.int 18)))))
noncomputable def ce__law_begun_1 : FE := (mVar 2)
noncomputable def d__law_begun : FS := (mSeq (mAsg (mComp cF__law_begun_1 [2] ct__law_begun_1 ci__law_begun_1 ce__law_begun_1) (gN 1))
  (mRet (mDctM [((mK (.str "cells")), (mBin addD (mBlt listD (mCons (mVar 0) mNil)) (mLst (mCons (mBlt lenD (mCons (mVar 0) mNil)) mNil)))), ((mK (.str "left")), (mIf (mTest (mBin neD (mVar 1) (mLst mNil))) (mBin ixA (mVar 1) (mK (.int 0))) (mK (.int 0)))), ((mK (.str "spot")), (mK (.int 0)))])))
noncomputable def g__law_begun : Fn := denOf 3 d__law_begun
noncomputable def d__law_draw : FS := (mSeq (mIfS (mTest (mBin gtD (mBin ixA (mVar 0) (mK (.str "left"))) (mK (.int 0)))) (mSeq (mAsg (mBin modD (mBlt intD (mCons (mBin ixA (mVar 0) (mK (.str "left"))) mNil)) (mVar 1)) (gN 2))
  (mSeq (mDPut (mVar 0) (mK (.str "left")) (mBin divD (mBin ixA (mVar 0) (mK (.str "left"))) (mVar 1)))
  (mRet (mVar 2)))) mNext)
  (mSeq (mAsg (mBin addD (mBin ixA (mVar 0) (mK (.str "spot"))) (mK (.int 1))) (gN 3))
  (mSeq (mDPut (mVar 0) (mK (.str "spot")) (mVar 3))
  (mSeq (mAsg (mBin ixA (mBin ixA (mVar 0) (mK (.str "cells"))) (mBin modD (mBlt intD (mCons (mVar 3) mNil)) (mBlt lenD (mCons (mBin ixA (mVar 0) (mK (.str "cells"))) mNil)))) (gN 4))
  (mSeq (mAsg (mBin mulD (mBlt intD (mCons (mBin addD (mBin addD (mBin modD (mBlt intD (mCons (mVar 4) mNil)) (mK (.int 2147483629))) (mBin mulD (mK (.int 6133)) (mVar 3))) (mBin mulD (mBin mulD (mK (.int 23)) (mVar 3)) (mVar 3))) mNil)) (mK (.int 48271))) (gN 5))
  (mSeq (mAsg (mBin mulD (mBlt intD (mCons (mBin addD (mBin modD (mBlt intD (mCons (mVar 5) mNil)) (mK (.int 2147483647))) (mBin mulD (mK (.int 93241)) (mVar 3))) mNil)) (mK (.int 69621))) (gN 5))
  (mRet (mBin modD (mBlt intD (mCons (mBin divD (mBin modD (mBlt intD (mCons (mVar 5) mNil)) (mK (.int 2147483587))) (mK (.int 13))) mNil)) (mVar 1)))))))))
noncomputable def g__law_draw : Fn := denOf 6 d__law_draw
noncomputable def d__law_of : FS := (mRet (mBin ixA (mVar 1) (mCall (g__law_draw) (mCons (mVar 0) (mCons (mBlt lenD (mCons (mVar 1) mNil)) mNil)))))
noncomputable def g__law_of : Fn := denOf 2 d__law_of
noncomputable def cF__law_weights_1 : FI := (iRange1 (mCons (mBin addD (mK (.int 1)) (mCall (g__law_draw) (mCons (mVar 0) (mCons (mVar 1) mNil)))) mNil))
noncomputable def ct__law_weights_1 : FG := (gN 4)
noncomputable def ci__law_weights_1 : FT := mYes
noncomputable def ce__law_weights_1 : FE := (mIf (mTest (mBin eqD (mVar 2) (mK (.int 1)))) (mBin subD (mCall (g__law_draw) (mCons (mVar 0) (mCons (mK (.int 41)) mNil))) (mK (.int 20))) (mCall (g__law_draw) (mCons (mVar 0) (mCons (mK (.int 4)) mNil))))
noncomputable def d__law_weights : FS := (mSeq (mAsg (mCall (g__law_draw) (mCons (mVar 0) (mCons (mK (.int 2)) mNil))) (gN 2))
  (mSeq (mAsg (mComp cF__law_weights_1 [4] ct__law_weights_1 ci__law_weights_1 ce__law_weights_1) (gN 3))
  (mRet (mBlt tupleD (mCons (mVar 3) mNil)))))
noncomputable def g__law_weights : Fn := denOf 5 d__law_weights
noncomputable def F__law_drawn_bill_1 : FI := (iRange1 (mCons (mCall (g__law_draw) (mCons (mVar 0) (mCons (mK (.int 3)) mNil))) mNil))
noncomputable def t__law_drawn_bill_1 : FG := (gN 4)
noncomputable def b__law_drawn_bill_1 : FS := (mExpr (mApp (mVar 3) (mTup (mCons (mCall (g__law_weights) (mCons (mVar 0) (mCons (mVar 1) mNil))) (mCons (mBin subD (mCall (g__law_draw) (mCons (mVar 0) (mCons (mK (.int 7)) mNil))) (mK (.int 3))) (mCons (mBin subD (mCall (g__law_draw) (mCons (mVar 0) (mCons (mK (.int 7)) mNil))) (mK (.int 3))) mNil))))))
noncomputable def d__law_drawn_bill : FS := (mSeq (mPar 2 3 (mCons (mCall (g__law_of) (mCons (mVar 0) (mCons (mLst (mCons (mK (.int 0)) (mCons (mK (.int 1)) (mCons (mK (.int 2)) (mCons (mUn negD (mK (.int 1))) (mCons (mBin subD (mCall (g__law_draw) (mCons (mVar 0) (mCons (mK (.int 101)) mNil))) (mK (.int 50))) mNil)))))) mNil))) (mCons (mLstM mNil) mNil)))
  (mSeq (mFor F__law_drawn_bill_1 t__law_drawn_bill_1 b__law_drawn_bill_1)
  (mRet (mTup (mCons (mVar 2) (mCons (mBlt tupleD (mCons (mVar 3) mNil)) mNil))))))
noncomputable def g__law_drawn_bill : Fn := denOf 5 d__law_drawn_bill
noncomputable def cF__law_tame_bill_1 : FI := (iRange1 (mCons (mBin addD (mK (.int 1)) (mCall (g__law_draw) (mCons (mVar 0) (mCons (mVar 1) mNil)))) mNil))
noncomputable def ct__law_tame_bill_1 : FG := (gN 4)
noncomputable def ci__law_tame_bill_1 : FT := mYes
noncomputable def ce__law_tame_bill_1 : FE := (mCall (g__law_draw) (mCons (mVar 0) (mCons (mK (.int 4)) mNil)))
noncomputable def d__law_tame_bill : FS := (mSeq (mAsg (mBlt tupleD (mCons (mComp cF__law_tame_bill_1 [4] ct__law_tame_bill_1 ci__law_tame_bill_1 ce__law_tame_bill_1) mNil)) (gN 2))
  (mSeq (mAsg (mCall (g__law_of) (mCons (mVar 0) (mCons (mLst (mCons (mK (.int 0)) (mCons (mBin subD (mK (.int 0)) (mBlt sumA (mCons (mVar 2) mNil))) (mCons (mBin subD (mCall (g__law_draw) (mCons (mVar 0) (mCons (mK (.int 9)) mNil))) (mK (.int 6))) mNil)))) mNil))) (gN 3))
  (mRet (mTup (mCons (mVar 3) (mCons (mTup (mCons (mTup (mCons (mVar 2) (mCons (mBin subD (mCall (g__law_draw) (mCons (mVar 0) (mCons (mK (.int 3)) mNil))) (mK (.int 1))) (mCons (mBin subD (mCall (g__law_draw) (mCons (mVar 0) (mCons (mK (.int 3)) mNil))) (mK (.int 1))) mNil)))) mNil)) mNil))))))
noncomputable def g__law_tame_bill : Fn := denOf 5 d__law_tame_bill
noncomputable def cF__law_drawn_row_1 : FI := (iRange1 (mCons (mBin addD (mVar 1) (mCall (g__law_draw) (mCons (mVar 0) (mCons (mBin addD (mVar 2) (mK (.int 1))) mNil)))) mNil))
noncomputable def ct__law_drawn_row_1 : FG := (gN 4)
noncomputable def ci__law_drawn_row_1 : FT := mYes
noncomputable def ce__law_drawn_row_1 : FE := (mCall (g__law_draw) (mCons (mVar 0) (mCons (mBin addD (mVar 3) (mK (.int 1))) mNil)))
noncomputable def d__law_drawn_row : FS := (mRet (mBlt tupleD (mCons (mComp cF__law_drawn_row_1 [4] ct__law_drawn_row_1 ci__law_drawn_row_1 ce__law_drawn_row_1) mNil)))
noncomputable def g__law_drawn_row : Fn := denOf 5 d__law_drawn_row
noncomputable def F__law_index_1 : FI := (iRange1 (mCons (mBlt lenD (mCons (mVar 0) mNil)) mNil))
noncomputable def t__law_index_1 : FG := (gN 4)
noncomputable def b__law_index_1 : FS := (mAsg (mBin addD (mVar 2) (mBin mulD (mBin ixA (mVar 0) (mVar 4)) (mBin ixA (mVar 3) (mVar 4)))) (gN 2))
noncomputable def d__law_index : FS := (mSeq (mPar 2 3 (mCons (mK (.int 0)) (mCons (mBlt sortedA (mCons (mVar 1) mNil)) mNil)))
  (mSeq (mFor F__law_index_1 t__law_index_1 b__law_index_1)
  (mRet (mVar 2))))
noncomputable def g__law_index : Fn := denOf 5 d__law_index
noncomputable def cF__law_wide_1 : FI := (iSeq (mBin ixA (mVar 0) (mK (.int 1))))
noncomputable def ct__law_wide_1 : FG := (gN 1)
noncomputable def ci__law_wide_1 : FT := mYes
noncomputable def ce__law_wide_1 : FE := (mBlt lenD (mCons (mBin ixA (mVar 1) (mK (.int 0))) mNil))
noncomputable def d__law_wide : FS := (mRet (mBlt maxLD (mCons (mBin addD (mLst (mCons (mK (.int 1)) mNil)) (mComp cF__law_wide_1 [1] ct__law_wide_1 ci__law_wide_1 ce__law_wide_1)) mNil)))
noncomputable def g__law_wide : Fn := denOf 2 d__law_wide
noncomputable def F__law_paid_1 : FI := (iSeq (mBin ixA (mVar 0) (mK (.int 1))))
noncomputable def t__law_paid_1 : FG := (gT 3 (gsC (gN 5) (gsC (gN 6) (gsC (gN 7) gs0))))
noncomputable def b__law_paid_1 : FS := (mSeq (mAsg (mBlt lenD (mCons (mVar 5) mNil)) (gN 8))
  (mSeq (mAsg (mBin addD (mVar 4) (mBin mulD (mVar 6) (mCall (g__law_index) (mCons (mVar 5) (mCons (mSl slA (mVar 1) (mPart (mBin subD (mVar 3) (mVar 8))) (mPart (mVar 3))) mNil))))) (gN 4))
  (mAsg (mBin addD (mVar 4) (mBin mulD (mVar 7) (mCall (g__law_index) (mCons (mVar 5) (mCons (mSl slA (mVar 1) (mPart (mBin subD (mBin addD (mVar 3) (mK (.int 1))) (mVar 8))) (mPart (mBin addD (mVar 3) (mK (.int 1))))) mNil))))) (gN 4))))
noncomputable def F__law_paid_2 : FI := (iRange2 (mCons (mCall (g__law_wide) (mCons (mVar 0) mNil)) (mCons (mBlt lenD (mCons (mVar 1) mNil)) mNil)))
noncomputable def t__law_paid_2 : FG := (gN 3)
noncomputable def b__law_paid_2 : FS := (mSeq (mAsg (mBin mulD (mBin ixA (mVar 0) (mK (.int 0))) (mBin ixA (mVar 1) (mVar 3))) (gN 4))
  (mSeq (mFor F__law_paid_1 t__law_paid_1 b__law_paid_1)
  (mExpr (mApp (mVar 2) (mVar 4)))))
noncomputable def d__law_paid : FS := (mSeq (mAsg (mLstM mNil) (gN 2))
  (mSeq (mFor F__law_paid_2 t__law_paid_2 b__law_paid_2)
  (mRet (mVar 2))))
noncomputable def g__law_paid : Fn := denOf 9 d__law_paid
noncomputable def F__law_bit_rows_1 : FI := (iSeq (mVar 1))
noncomputable def t__law_bit_rows_1 : FG := (gN 4)
noncomputable def b__law_bit_rows_1 : FS := (mAsg (mBin addD (mVar 3) (mLst (mCons (mBin addD (mVar 4) (mTup (mCons (mK (.int 0)) mNil))) (mCons (mBin addD (mVar 4) (mTup (mCons (mK (.int 1)) mNil))) mNil)))) (gN 3))
noncomputable def F__law_bit_rows_2 : FI := (iRange1 (mCons (mVar 0) mNil))
noncomputable def t__law_bit_rows_2 : FG := (gN 2)
noncomputable def b__law_bit_rows_2 : FS := (mSeq (mAsg (mLst mNil) (gN 3))
  (mSeq (mFor F__law_bit_rows_1 t__law_bit_rows_1 b__law_bit_rows_1)
  (mAsg (mVar 3) (gN 1))))
noncomputable def d__law_bit_rows : FS := (mSeq (mAsg (mLst (mCons (mTup mNil) mNil)) (gN 1))
  (mSeq (mFor F__law_bit_rows_2 t__law_bit_rows_2 b__law_bit_rows_2)
  (mRet (mVar 1))))
noncomputable def g__law_bit_rows : Fn := denOf 5 d__law_bit_rows
end MP.PG
set_option Elab.async false
set_option linter.all false
set_option maxRecDepth 100000
set_option maxHeartbeats 400000
namespace MP.PG
open PySem PySem.Spec PyProof.Rows L2 MP
@[simp] theorem isI_t {s : Sto} {i : Int} {b : Bool} : isD s (.int i) (.bl b) = some (.bl false) := rfl
@[simp] theorem isntI_t {s : Sto} {i : Int} {b : Bool} : isntD s (.int i) (.bl b) = some (.bl true) := rfl
theorem is_int_int (i : Int) (s : Sto) : g_is_int [.int i] s = .ok (.bl true) s := by
  simp [g_is_int, d_is_int]
theorem is_int_within_int (i a b : Int) (s : Sto) : g_is_int_within [.int i, .int a, .int b] s = .ok (.bl (decide (a ≤ i) && decide (i ≤ b))) s := by
  by_cases h : a ≤ i <;> simp [g_is_int_within, d_is_int_within, is_int_int, h]
theorem is_tuple_tup (ws : List Dv) (a b : Int) (s : Sto) : g_is_tuple [.tup ws, .int a, .int b] s = .ok (.bl (decide (a ≤ ws.length) && decide (ws.length ≤ b))) s := by
  by_cases h : a ≤ ws.length <;> simp [g_is_tuple, d_is_tuple, h]
theorem first_in (ns : List Int) (a b : Int) (s : Sto) (h : ∀ i ∈ ns, a ≤ i ∧ i ≤ b) : g_first_outside [tI ns, .int a, .int b] s = .ok .non s := by
  obtain ⟨ρ', s', h1, h2⟩ := for_ix (g := t_first_outside_1) (body := b_first_outside_1) (F := F_first_outside_1) (ρ := [some (tI ns), some (.int a), some (.int b), none, none]) (s := s) (s1 := s) (xs := enumD 0 (ns.map .int))
    (fun _ ρ s' => s' = s ∧ ∃ x y, ρ = [some (tI ns), some (.int a), some (.int b), x, y]) rfl ⟨rfl, _, _, rfl⟩ (fun i x ρ s' hx hJ => by
      obtain ⟨rfl, y, z, rfl⟩ := hJ
      obtain ⟨w, hw, rfl⟩ := enumD_get hx
      rw [List.getElem?_map] at hw
      cases hn : ns[i]? with
      | none => rw [hn] at hw; cases hw
      | some n =>
        rw [hn] at hw
        cases hw
        have hb := h n (List.mem_of_getElem? hn)
        refine ⟨[some (tI ns), some (.int a), some (.int b), some (.int (0 + i : Nat)), some (.int n)], [some (tI ns), some (.int a), some (.int b), some (.int (0 + i : Nat)), some (.int n)], s', rfl, .inl ?_, rfl, _, _, rfl⟩
        simp [b_first_outside_1, hb.1, hb.2])
  obtain ⟨rfl, x, y, rfl⟩ := h2
  simp [g_first_outside, d_first_outside, h1]
structure Rule (rs : List Int) : Prop where
  one : 1 ≤ rs.length
  six : rs.length ≤ 6
  ok : ∀ i ∈ rs, -20 ≤ i ∧ i ≤ 20
structure Row (ns : List Int) : Prop where
  most : ns.length ≤ 200
  ok : ∀ i ∈ ns, 0 ≤ i ∧ i ≤ 1000000
@[simp] theorem isnt_nn {s : Sto} : isntD s .non .non = some (.bl false) := rfl
@[simp] theorem is_nn {s : Sto} : isD s .non .non = some (.bl true) := rfl
theorem need_rule_ok {rs : List Int} (h : Rule rs) (s : Sto) : g_need_rule [tI rs] s = .ok (tI rs) s := by
  have h1 := h.one
  have h6 := h.six
  simp [g_need_rule, d_need_rule, is_tuple_tup, first_in rs _ _ _ h.ok, h6, show (1 : Int) ≤ rs.length by omega, show (rs.length : Int) ≤ 6 by omega]
theorem need_row_ok {ns : List Int} (h : Row ns) (s : Sto) : g_need_row [tI ns] s = .ok (tI ns) s := by
  have h1 := h.most
  simp [g_need_row, d_need_row, is_tuple_tup, first_in ns _ _ _ h.ok, show (ns.length : Int) ≤ 200 by omega]
theorem need_row_of_ok {ns : List Int} (h : Row ns) {k : Int} (hk : k ≤ ns.length) (s : Sto) : g_need_row_of [tI ns, .int k] s = .ok (tI ns) s := by
  simp [g_need_row_of, d_need_row_of, need_row_ok h, show ¬ ((ns.length : Int) < k) by omega]
theorem index_of_ok {rs ns : List Int} (h : Rule rs) (hn : ns.length ≤ 200) (hl : rs.length ≤ ns.length) (s : Sto) : g_index_of [tI rs, tI ns] s = .ok (.int (idx rs ns)) s := by
  have h0 : 0 < rs.length := h.one
  have hc : mComp cF_index_of_1 [3, 4] ct_index_of_1 ci_index_of_1 ce_index_of_1 [some (tI rs), some (tI ns), some (lI (srt (last rs.length ns))), none, none] s = .ok (.lst ((rs.zip (srt (last rs.length ns))).map fun p => .int (p.1 * p.2))) s := by
    refine comp_mapA (e := fun p : Int × Int => .tup [.int p.1, .int p.2]) _ ?_ ?_ fun p hp => ?_
    · show R.ok (α := Src) { ws := zipD _ _ } s = _
      rw [zip_ints]
    · have := List.length_zip (l₁ := rs) (l₂ := srt (last rs.length ns))
      have := h.six
      unfold lim
      omega
    · refine ⟨[some (tI rs), some (tI ns), some (lI (srt (last rs.length ns))), some (.int p.1), some (.int p.2)], rfl, ?_⟩
      have hb := h.ok p.1 (List.of_mem_zip (a := p.1) (b := p.2) hp).1
      simp [ce_index_of_1, mul_ii (cm_l (j := p.2) ⟨show -(2 ^ 64) < p.1 by omega, show p.1 < 2 ^ 64 by omega⟩)]
  have hd : cutD (ns.map .int) (some (-(rs.length : Int))) none = (last rs.length ns).map .int := by
    rw [cut_last (by rw [List.length_map]; exact hl) h0, List.length_map, ← List.map_drop]
    rfl
  have e : ((rs.zip (srt (last rs.length ns))).map fun p => Dv.int (p.1 * p.2)) = ((rs.zip (srt (last rs.length ns))).map fun p => p.1 * p.2).map .int := by rw [List.map_map]; rfl
  rw [e] at hc
  simp [-List.map_map, g_index_of, d_index_of, hd, hc]
  rfl
end MP.PG
set_option Elab.async false
set_option linter.all false
set_option maxRecDepth 100000
set_option maxHeartbeats 400000
namespace MP.PG
open PySem PySem.Spec PyProof.Rows L2 MP
abbrev kCells : Key := .inr (Str.ofString "cells")
abbrev kLeft : Key := .inr (Str.ofString "left")
abbrev kSpot : Key := .inr (Str.ofString "spot")
abbrev Dc (cs : List Int) (l p : Int) : Ob := .dct [(kCells, .lst (cs.map .int)), (kLeft, .int l), (kSpot, .int p)]
/-- the store: what stands ahead, the state of the draws, what came behind -/
def St (pre tl : Sto) (cs : List Int) (l p : Int) : Sto := pre ++ Dc cs l p :: tl
section
variable {pre tl : Sto} {cs : List Int} {l p l' p' : Int}
theorem St_at : (St pre tl cs l p)[pre.length]? = some (Dc cs l p) := by
  unfold St
  rw [List.getElem?_append_right (Nat.le_refl _), Nat.sub_self]
  rfl
theorem St_dct : dctOf (St pre tl cs l p) (.ref pre.length) = some [(kCells, .lst (cs.map .int)), (kLeft, .int l), (kSpot, .int p)] := by
  unfold dctOf
  dsimp only
  rw [St_at]
theorem St_set : (St pre tl cs l p).set pre.length (Dc cs l' p') = St pre tl cs l' p' := by
  unfold St
  rw [List.set_append_right _ _ (Nat.le_refl _), Nat.sub_self]
  rfl
theorem St_len : (St pre tl cs l p).length = pre.length + (1 + tl.length) := by
  unfold St
  rw [List.length_append, List.length_cons]
  omega
theorem ix_dct {s : Sto} {n : Nat} {kws : List (Key × Dv)} {x : Str} (h : dctOf s (.ref n) = some kws) (hn : ∀ ws, s[n]? ≠ some (.lst ws)) : ixA s (.ref n) (.str x) = valD kws (.inr x) := by
  show (match (match ixL s (.ref n) (.str x) with | some w => some w | none => ixT s (.ref n) (.str x)) with | some w => some w | none => ixD s (.ref n) (.str x)) = _
  rw [show ixL s (.ref n) (.str x) = none from rfl, show ixT s (.ref n) (.str x) = none from rfl]
  dsimp only
  unfold ixD
  rw [h]
  rfl
theorem get_left : ixA (St pre tl cs l p) (.ref pre.length) (.str "left") = some (.int l) := (ix_dct St_dct fun ws h => by rw [St_at] at h; cases h).trans rfl
theorem get_spot : ixA (St pre tl cs l p) (.ref pre.length) (.str "spot") = some (.int p) := (ix_dct St_dct fun ws h => by rw [St_at] at h; cases h).trans rfl
theorem get_cells : ixA (St pre tl cs l p) (.ref pre.length) (.str "cells") = some (.lst (cs.map .int)) := (ix_dct St_dct fun ws h => by rw [St_at] at h; cases h).trans rfl
theorem put_ev {f h : FE} {ρ : Env} {s : Sto} {n : Nat} {x : Str} {v : Dv} {kws : List (Key × Dv)} (h0 : f ρ s = .ok (.ref n) s) (h2 : h ρ s = .ok v s) (h3 : s[n]? = some (.dct kws)) (hl : kws.length < lim) : mDPut f (mK (.str x)) h ρ s = .nx ρ (s.set n (.dct (putD kws (.inr x) v))) := by
  unfold mDPut
  rw [h2, then_ok, h0, then_ok, k_ev, then_ok]
  show (match s[n]? with
    | some (.dct kws) => if kws.length < lim then C.nx ρ (s.set n (.dct (putD kws (.inr x) v))) else .no
    | _ => .no) = _
  rw [h3]
  exact if_pos hl
theorem fin_St {w : Dv} : finC (St pre tl cs l p).length (.rt w (St pre tl cs l' p')) = .ok w (St pre tl cs l' p') := finW_le (by rw [St_len, St_len]; exact Nat.le_refl _)
end
theorem put_left {pre tl : Sto} {cs : List Int} {l p l' : Int} {ρ : Env} {f : FE} {i : Nat} (h0 : mVar 0 ρ (St pre tl cs l p) = .ok (.ref pre.length) (St pre tl cs l p)) (h : f ρ (St pre tl cs l p) = .ok (.int l') (St pre tl cs l p)) : mDPut (mVar 0) (mK (.str "left")) f ρ (St pre tl cs l p) = .nx ρ (St pre tl cs l' p) := by
  rw [put_ev h0 h St_at (by show 3 < lim; unfold lim; decide)]
  exact congrArg (C.nx ρ) St_set
theorem put_spot {pre tl : Sto} {cs : List Int} {l p p' : Int} {ρ : Env} {f : FE} {i : Nat} (h0 : mVar 0 ρ (St pre tl cs l p) = .ok (.ref pre.length) (St pre tl cs l p)) (h : f ρ (St pre tl cs l p) = .ok (.int p') (St pre tl cs l p)) : mDPut (mVar 0) (mK (.str "spot")) f ρ (St pre tl cs l p) = .nx ρ (St pre tl cs l p') := by
  rw [put_ev h0 h St_at (by show 3 < lim; unfold lim; decide)]
  exact congrArg (C.nx ρ) St_set
theorem mod_ii {s : Sto} {i j : Int} (h : 0 < j) : modD s (.int i) (.int j) = some (.int (i % j)) := if_pos h
theorem div_ii {s : Sto} {i j : Int} (h : 0 < j) (h2 : j < 1073741824) : divD s (.int i) (.int j) = some (.int (i / j)) := if_pos ⟨h, h2⟩
structure Drawn (many : Int) (pre tl : Sto) (cs : List Int) (p : Int) (rr : R Dv) : Prop where
  ok : ∃ d l' p', rr = .ok (.int d) (St pre tl cs l' p') ∧ 0 ≤ d ∧ d < many ∧ 0 ≤ p' ∧ p' ≤ p + 1
theorem draw_ok {pre tl : Sto} {cs : List Int} {l p many : Int} (hc : cs ≠ []) (hm : 0 < many) (hm2 : many < 1073741824) (hp : 0 ≤ p) (hp2 : p < 1000000) : Drawn many pre tl cs p (g__law_draw [.ref pre.length, .int many] (St pre tl cs l p)) := by
  have e0 : startD 6 [.ref pre.length, .int many] = [some (.ref pre.length), some (.int many), none, none, none, none] := rfl
  have eT : ∀ ρ : Env, mTest (mBin gtD (mBin ixA (mVar 0) (mK (.str "left"))) (mK (.int 0))) (some (.ref pre.length) :: ρ) (St pre tl cs l p) = .ok (decide (0 < l)) (St pre tl cs l p) := fun ρ => by
    rw [test_ev, bin_ev, bin_ev, var_0, bind_ok, k_ev, bind_ok, get_left, of_some, bind_ok, k_ev, bind_ok]
    rfl
  by_cases hl : 0 < l
  · refine ⟨l % many, l / many, p, ?_, Int.emod_nonneg _ (by omega), Int.emod_lt_of_pos _ hm, hp, by omega⟩
    have e1 : mAsg (mBin modD (mBlt intD (mCons (mBin ixA (mVar 0) (mK (.str "left"))) mNil)) (mVar 1)) (gN 2) [some (.ref pre.length), some (.int many), none, none, none, none] (St pre tl cs l p) = .nx [some (.ref pre.length), some (.int many), some (.int (l % many)), none, none, none] (St pre tl cs l p) := by
      rw [asgN_ev, bin_ev, blt_ev, cons_ev, bin_ev, var_0, bind_ok, k_ev, bind_ok, get_left, of_some, bind_ok, nil_ev, bind_ok, bind_ok, int_i, of_some, bind_ok, var_s, var_0, bind_ok, mod_ii hm, of_some, then_ok]
      rfl
    have e2 : mDPut (mVar 0) (mK (.str "left")) (mBin divD (mBin ixA (mVar 0) (mK (.str "left"))) (mVar 1)) [some (.ref pre.length), some (.int many), some (.int (l % many)), none, none, none] (St pre tl cs l p) = .nx [some (.ref pre.length), some (.int many), some (.int (l % many)), none, none, none] (St pre tl cs (l / many) p) := by
      refine put_left (i := 0) rfl ?_
      rw [bin_ev, bin_ev, var_0, bind_ok, k_ev, bind_ok, get_left, of_some, bind_ok, var_s, var_0, bind_ok, div_ii hm hm2, of_some]
    unfold g__law_draw d__law_draw
    rw [den_ev, e0, seq_ev, ifS_ev, eT, then_ok, decide_eq_true hl, if_pos rfl, seq_ev, e1, seqK_nx, seq_ev, e2, seqK_nx, ret_ev, var_s, var_s, var_0, then_ok, seqK_rt]
    exact fin_St
  · have hcl : 0 < cs.length := List.length_pos_iff.mpr hc
    have hx : ((p + 1) % (cs.length : Int)).toNat < cs.length := by
      have h1 := Int.emod_lt_of_pos (p + 1) (show (0 : Int) < cs.length by omega)
      have h2 := Int.emod_nonneg (p + 1) (show (cs.length : Int) ≠ 0 by omega)
      omega
    have hy : ((((p + 1) % (cs.length : Int)).toNat : Nat) : Int) = (p + 1) % (cs.length : Int) := Int.toNat_of_nonneg (Int.emod_nonneg _ (by omega))
    generalize hq : ((p + 1) % (cs.length : Int)).toNat = q at hx hy
    let c := cs[q]
    let m1 := (c % 2147483629 + 6133 * (p + 1) + 23 * (p + 1) * (p + 1)) * 48271
    let m2 := (m1 % 2147483647 + 93241 * (p + 1)) * 69621
    refine ⟨m2 % 2147483587 / 13 % many, l, p + 1, ?_, Int.emod_nonneg _ (by omega), Int.emod_lt_of_pos _ hm, by omega, by omega⟩
    have hcq : (cs.map Dv.int)[q]? = some (.int c) := by rw [List.getElem?_map, List.getElem?_eq_getElem hx]; rfl
    have e1 : mAsg (mBin addD (mBin ixA (mVar 0) (mK (.str "spot"))) (mK (.int 1))) (gN 3) [some (.ref pre.length), some (.int many), none, none, none, none] (St pre tl cs l p) = .nx [some (.ref pre.length), some (.int many), none, some (.int (p + 1)), none, none] (St pre tl cs l p) := by
      rw [asgN_ev, bin_ev, bin_ev, var_0, bind_ok, k_ev, bind_ok, get_spot, of_some, bind_ok, k_ev, bind_ok, add_ii, of_some, then_ok]
      rfl
    have e2 : mDPut (mVar 0) (mK (.str "spot")) (mVar 3) [some (.ref pre.length), some (.int many), none, some (.int (p + 1)), none, none] (St pre tl cs l p) = .nx [some (.ref pre.length), some (.int many), none, some (.int (p + 1)), none, none] (St pre tl cs l (p + 1)) := put_spot (i := 0) rfl rfl
    have e3 : mAsg (mBin ixA (mBin ixA (mVar 0) (mK (.str "cells"))) (mBin modD (mBlt intD (mCons (mVar 3) mNil)) (mBlt lenD (mCons (mBin ixA (mVar 0) (mK (.str "cells"))) mNil)))) (gN 4) [some (.ref pre.length), some (.int many), none, some (.int (p + 1)), none, none] (St pre tl cs l (p + 1)) = .nx [some (.ref pre.length), some (.int many), none, some (.int (p + 1)), some (.int c), none] (St pre tl cs l (p + 1)) := by
      rw [asgN_ev, bin_ev, bin_ev, var_0, bind_ok, k_ev, bind_ok, get_cells, of_some, bind_ok, bin_ev, blt_ev, cons_ev, var_s, var_s, var_s, var_0, bind_ok, nil_ev, bind_ok, bind_ok, int_i, of_some, bind_ok, blt_ev, cons_ev, bin_ev, var_0, bind_ok, k_ev, bind_ok, get_cells, of_some, bind_ok, nil_ev, bind_ok, bind_ok, len_lst, of_some, bind_ok, List.length_map, mod_ii (by omega), of_some, bind_ok, ← hy, ix_lst hcq, of_some, then_ok]
      rfl
    have ee : ∀ (z : Option Dv), mBlt intD (mCons (mVar 3) mNil) [some (.ref pre.length), some (.int many), none, some (.int (p + 1)), some (.int c), z] (St pre tl cs l (p + 1)) = .ok (.int (p + 1)) (St pre tl cs l (p + 1)) := fun z => by
      rw [blt_ev, cons_ev, var_s, var_s, var_s, var_0, bind_ok, nil_ev, bind_ok, bind_ok, int_i, of_some]
    have v3 : ∀ (z : Option Dv), mVar 3 [some (.ref pre.length), some (.int many), none, some (.int (p + 1)), some (.int c), z] (St pre tl cs l (p + 1)) = .ok (.int (p + 1)) (St pre tl cs l (p + 1)) := fun z => rfl
    have v4 : ∀ (z : Option Dv), mVar 4 [some (.ref pre.length), some (.int many), none, some (.int (p + 1)), some (.int c), z] (St pre tl cs l (p + 1)) = .ok (.int c) (St pre tl cs l (p + 1)) := fun z => rfl
    have v5 : ∀ (z : Int), mVar 5 [some (.ref pre.length), some (.int many), none, some (.int (p + 1)), some (.int c), some (.int z)] (St pre tl cs l (p + 1)) = .ok (.int z) (St pre tl cs l (p + 1)) := fun z => rfl
    have v1 : ∀ (z : Option Dv), mVar 1 [some (.ref pre.length), some (.int many), none, some (.int (p + 1)), some (.int c), z] (St pre tl cs l (p + 1)) = .ok (.int many) (St pre tl cs l (p + 1)) := fun z => rfl
    have s5 : ∀ (z : Option Dv) (u : Int), [some (.ref pre.length), some (.int many), none, some (.int (p + 1)), some (.int c), z].set 5 (some (Dv.int u)) = [some (.ref pre.length), some (.int many), none, some (.int (p + 1)), some (.int c), some (.int u)] := fun z u => rfl
    have e4 : mAsg (mBin mulD (mBlt intD (mCons (mBin addD (mBin addD (mBin modD (mBlt intD (mCons (mVar 4) mNil)) (mK (.int 2147483629))) (mBin mulD (mK (.int 6133)) (mVar 3))) (mBin mulD (mBin mulD (mK (.int 23)) (mVar 3)) (mVar 3))) mNil)) (mK (.int 48271))) (gN 5) [some (.ref pre.length), some (.int many), none, some (.int (p + 1)), some (.int c), none] (St pre tl cs l (p + 1)) = .nx [some (.ref pre.length), some (.int many), none, some (.int (p + 1)), some (.int c), some (.int m1)] (St pre tl cs l (p + 1)) := by
      simp only [asgN_ev, bin_ev, blt_ev, cons_ev, nil_ev, v4, v3, k_ev, bind_ok, int_i, of_some, mod_ii (show (0 : Int) < 2147483629 by decide), mul_ii (cm_l (i := 6133) (j := p + 1) (by decide)), mul_ii (cm_l (i := 23) (j := p + 1) (by decide)), mul_ii (cm_r (i := 23 * (p + 1)) (j := p + 1) ⟨by omega, by omega⟩), add_ii, mul_ii (cm_r (j := 48271) (by decide)), then_ok, s5]
      rfl
    have e5 : mAsg (mBin mulD (mBlt intD (mCons (mBin addD (mBin modD (mBlt intD (mCons (mVar 5) mNil)) (mK (.int 2147483647))) (mBin mulD (mK (.int 93241)) (mVar 3))) mNil)) (mK (.int 69621))) (gN 5) [some (.ref pre.length), some (.int many), none, some (.int (p + 1)), some (.int c), some (.int m1)] (St pre tl cs l (p + 1)) = .nx [some (.ref pre.length), some (.int many), none, some (.int (p + 1)), some (.int c), some (.int m2)] (St pre tl cs l (p + 1)) := by
      simp only [asgN_ev, bin_ev, blt_ev, cons_ev, nil_ev, v5, v3, k_ev, bind_ok, int_i, of_some, mod_ii (show (0 : Int) < 2147483647 by decide), mul_ii (cm_l (i := 93241) (j := p + 1) (by decide)), add_ii, mul_ii (cm_r (j := 69621) (by decide)), then_ok, s5]
      rfl
    have e6 : mRet (mBin modD (mBlt intD (mCons (mBin divD (mBin modD (mBlt intD (mCons (mVar 5) mNil)) (mK (.int 2147483587))) (mK (.int 13))) mNil)) (mVar 1)) [some (.ref pre.length), some (.int many), none, some (.int (p + 1)), some (.int c), some (.int m2)] (St pre tl cs l (p + 1)) = .rt (.int (m2 % 2147483587 / 13 % many)) (St pre tl cs l (p + 1)) := by
      simp only [ret_ev, bin_ev, blt_ev, cons_ev, nil_ev, v5, v1, k_ev, bind_ok, int_i, of_some, mod_ii (show (0 : Int) < 2147483587 by decide), div_ii (show (0 : Int) < 13 by decide) (by decide), mod_ii hm, then_ok]
    unfold g__law_draw d__law_draw
    rw [den_ev, e0, seq_ev, ifS_ev, eT, then_ok, decide_eq_false hl, if_neg (by decide), next_ev, seqK_nx, seq_ev, e1, seqK_nx, seq_ev, e2, seqK_nx, seq_ev, e3, seqK_nx, seq_ev, e4, seqK_nx, seq_ev, e5, seqK_nx, e6]
    exact fin_St
end MP.PG
set_option Elab.async false
set_option linter.all false
set_option maxRecDepth 100000
set_option maxHeartbeats 400000
namespace MP.PG
open PySem PySem.Spec PyProof.Rows L2 MP
theorem eq_ii {s : Sto} {a b : Int} : eqD s (.int a) (.int b) = some (.bl (decide (a = b))) := by
  have e : decide (V.int a = V.int b) = decide (a = b) := by
    by_cases h : a = b
    · rw [h, decide_eq_true rfl, decide_eq_true rfl]
    · rw [decide_eq_false h, decide_eq_false fun z => h (V.int.inj z)]
  show (some (decide (V.int a = V.int b))).map Dv.bl = _
  rw [e]
  rfl
/-- a row of draws -/
theorem weights_ok {pre tl : Sto} {cs : List Int} {l p : Int} (hc : cs ≠ []) {most : Int} (hm : 1 ≤ most) (hm6 : most ≤ 6) (hp : 0 ≤ p) (hp2 : p < 900000) : ∃ rs l' p', g__law_weights [.ref pre.length, .int most] (St pre tl cs l p) = .ok (tI rs) (St pre tl cs l' p') ∧ Rule rs ∧ 0 ≤ p' ∧ p' ≤ p + 8 := by
  obtain ⟨wd, l1, p1, d1, w0, w2, p10, p11⟩ := (draw_ok (l := l) hc (show (0 : Int) < 2 by decide) (by decide) hp (by omega)).ok
  obtain ⟨k, l2, p2, d2, k0, k6, p20, p21⟩ := (draw_ok (l := l1) hc (show (0 : Int) < most by omega) (by omega) p10 (by omega)).ok
  have e0 : startD 5 [.ref pre.length, .int most] = [some (.ref pre.length), some (.int most), none, none, none] := rfl
  have hF : cF__law_weights_1 [some (.ref pre.length), some (.int most), some (.int wd), none, none] (St pre tl cs l1 p1) = .ok { ws := rng 0 (1 + k).toNat } (St pre tl cs l2 p2) := by
    refine range1_ok ?_ (okR_s (by omega) (by omega))
    rw [cons_ev, bin_ev, k_ev, bind_ok, call_ev, cons_ev, var_0, bind_ok, cons_ev, var_s, var_0, bind_ok, nil_ev, bind_ok, bind_ok, bind_ok, d2, bind_ok, add_ii, of_some, bind_ok, nil_ev, bind_ok]
  obtain ⟨zs, s', c1, c2, rs, l3, p3, rfl, rfl, r1, r2, r3, r4⟩ := comp_ix (vs := [4]) (g := ct__law_weights_1) (elt := ce__law_weights_1) (fun i acc s => ∃ (rs : List Int) (l3 p3 : Int), acc = rs.map .int ∧ s = St pre tl cs l3 p3 ∧ rs.length = i ∧ (∀ r ∈ rs, -20 ≤ r ∧ r ≤ 20) ∧ 0 ≤ p3 ∧ p3 ≤ p + 2 + i)
    hF (by rw [rng_len]; unfold lim; omega) ⟨[], l2, p2, rfl, rfl, rfl, fun _ h => (nomatch h), p20, by omega⟩ fun i x acc s hx hJ => by
      obtain ⟨rs, l3, p3, rfl, rfl, r1, r2, r3, r4⟩ := hJ
      obtain ⟨hi, rfl⟩ := rng_get hx
      have hp3 : p3 < 1000000 := by omega
      obtain ⟨a, l4, p4, d4, a0, a1, p40, p41⟩ := (draw_ok (l := l3) hc (show (0 : Int) < 41 by decide) (by decide) r3 hp3).ok
      obtain ⟨b, l5, p5, d5, b0, b1, p50, p51⟩ := (draw_ok (l := l3) hc (show (0 : Int) < 4 by decide) (by decide) r3 hp3).ok
      have et : mTest (mBin eqD (mVar 2) (mK (.int 1))) [some (.ref pre.length), some (.int most), some (.int wd), none, some (.int (0 + (i : Int)))] (St pre tl cs l3 p3) = .ok (decide (wd = 1)) (St pre tl cs l3 p3) := by
        rw [test_ev, bin_ev, var_s, var_s, var_0, bind_ok, k_ev, bind_ok, eq_ii]
        rfl
      by_cases hw : wd = 1
      · refine ⟨[some (.ref pre.length), some (.int most), some (.int wd), none, some (.int (0 + (i : Int)))], .int (a - 20), St pre tl cs l4 p4, rfl, ?_, rs ++ [a - 20], l4, p4, by rw [List.map_append]; rfl, rfl, by rw [List.length_append, r1]; rfl, fun r hr => ?_, p40, by omega⟩
        · unfold ce__law_weights_1
          rw [if_ev, et, bind_ok, decide_eq_true hw, if_pos rfl, bin_ev, call_ev, cons_ev, var_0, bind_ok, cons_ev, k_ev, bind_ok, nil_ev, bind_ok, bind_ok, bind_ok, d4, bind_ok, k_ev, bind_ok, sub_ev, of_some]
        · rcases List.mem_append.mp hr with h | h
          · exact r2 r h
          · rw [List.mem_singleton.mp h]; omega
      · refine ⟨[some (.ref pre.length), some (.int most), some (.int wd), none, some (.int (0 + (i : Int)))], .int b, St pre tl cs l5 p5, rfl, ?_, rs ++ [b], l5, p5, by rw [List.map_append]; rfl, rfl, by rw [List.length_append, r1]; rfl, fun r hr => ?_, p50, by omega⟩
        · unfold ce__law_weights_1
          rw [if_ev, et, bind_ok, decide_eq_false hw, if_neg (by decide), call_ev, cons_ev, var_0, bind_ok, cons_ev, k_ev, bind_ok, nil_ev, bind_ok, bind_ok, bind_ok, d5]
        · rcases List.mem_append.mp hr with h | h
          · exact r2 r h
          · rw [List.mem_singleton.mp h]; omega
  rw [rng_len] at r1 r4
  refine ⟨rs, l3, p3, ?_, ⟨by omega, by omega, r2⟩, r3, by omega⟩
  have e1 : mAsg (mCall g__law_draw (mCons (mVar 0) (mCons (mK (.int 2)) mNil))) (gN 2) [some (.ref pre.length), some (.int most), none, none, none] (St pre tl cs l p) = .nx [some (.ref pre.length), some (.int most), some (.int wd), none, none] (St pre tl cs l1 p1) := by
    rw [asgN_ev, call_ev, cons_ev, var_0, bind_ok, cons_ev, k_ev, bind_ok, nil_ev, bind_ok, bind_ok, bind_ok, d1, then_ok]
    rfl
  have c1' : mComp cF__law_weights_1 [4] ct__law_weights_1 ci__law_weights_1 ce__law_weights_1 [some (.ref pre.length), some (.int most), some (.int wd), none, none] (St pre tl cs l1 p1) = .ok (.lst (rs.map .int)) (St pre tl cs l3 p3) := c1
  unfold g__law_weights d__law_weights
  rw [den_ev, e0, seq_ev, e1, seqK_nx, seq_ev, asgN_ev, c1', then_ok, seqK_nx]
  show finC (St pre tl cs l p).length (mRet (mBlt tupleD (mCons (mVar 3) mNil)) [some (.ref pre.length), some (.int most), some (.int wd), some (.lst (rs.map .int)), none] (St pre tl cs l3 p3)) = _
  rw [ret_ev, blt_ev, cons_ev, var_s, var_s, var_s, var_0, bind_ok, nil_ev, bind_ok, bind_ok, tuple_lst, of_some, then_ok]
  exact fin_St
theorem drawn_row_ok {pre tl : Sto} {cs : List Int} {l p least more high : Int} (hc : cs ≠ []) (hp : 0 ≤ p) (hp2 : p < 900000) (h0 : 0 ≤ least) (h1 : 0 ≤ more) (h2 : least + more ≤ 200) (h3 : 0 ≤ high) (h4 : high ≤ 1000000) :
    ∃ ns l' p', g__law_drawn_row [.ref pre.length, .int least, .int more, .int high] (St pre tl cs l p) = .ok (tI ns) (St pre tl cs l' p') ∧ least ≤ ns.length ∧ ns.length ≤ least + more ∧ (∀ n ∈ ns, 0 ≤ n ∧ n ≤ high) ∧ 0 ≤ p' ∧ p' ≤ p + 1 + (least + more) := by
  obtain ⟨k, l2, p2, d2, k0, k6, p20, p21⟩ := (draw_ok (l := l) hc (show (0 : Int) < more + 1 by omega) (by omega) hp (by omega)).ok
  have e0 : startD 5 [.ref pre.length, .int least, .int more, .int high] = [some (.ref pre.length), some (.int least), some (.int more), some (.int high), none] := rfl
  have hF : cF__law_drawn_row_1 [some (.ref pre.length), some (.int least), some (.int more), some (.int high), none] (St pre tl cs l p) = .ok { ws := rng 0 (least + k).toNat } (St pre tl cs l2 p2) := by
    refine range1_ok ?_ (okR_s (by omega) (by omega))
    rw [cons_ev, bin_ev, var_s, var_0, bind_ok, call_ev, cons_ev, var_0, bind_ok, cons_ev, bin_ev, var_s, var_s, var_0, bind_ok, k_ev, bind_ok, add_ii, of_some, bind_ok, nil_ev, bind_ok, bind_ok, bind_ok, d2, bind_ok, add_ii, of_some, bind_ok, nil_ev, bind_ok]
  obtain ⟨zs, s', c1, c2, rs, l3, p3, rfl, rfl, r1, r2, r3, r4⟩ := comp_ix (vs := [4]) (g := ct__law_drawn_row_1) (elt := ce__law_drawn_row_1) (fun i acc s => ∃ (rs : List Int) (l3 p3 : Int), acc = rs.map .int ∧ s = St pre tl cs l3 p3 ∧ rs.length = i ∧ (∀ r ∈ rs, 0 ≤ r ∧ r ≤ high) ∧ 0 ≤ p3 ∧ p3 ≤ p + 1 + i)
    hF (by rw [rng_len]; unfold lim; omega) ⟨[], l2, p2, rfl, rfl, rfl, fun _ h => (nomatch h), p20, by omega⟩ fun i x acc s hx hJ => by
      obtain ⟨rs, l3, p3, rfl, rfl, r1, r2, r3, r4⟩ := hJ
      obtain ⟨hi, rfl⟩ := rng_get hx
      obtain ⟨a, l4, p4, d4, a0, a1, p40, p41⟩ := (draw_ok (l := l3) hc (show (0 : Int) < high + 1 by omega) (by omega) r3 (by omega)).ok
      refine ⟨[some (.ref pre.length), some (.int least), some (.int more), some (.int high), some (.int (0 + (i : Int)))], .int a, St pre tl cs l4 p4, rfl, ?_, rs ++ [a], l4, p4, by rw [List.map_append]; rfl, rfl, by rw [List.length_append, r1]; rfl, fun r hr => ?_, p40, by omega⟩
      · unfold ce__law_drawn_row_1
        rw [call_ev, cons_ev, var_0, bind_ok, cons_ev, bin_ev, var_s, var_s, var_s, var_0, bind_ok, k_ev, bind_ok, add_ii, of_some, bind_ok, nil_ev, bind_ok, bind_ok, bind_ok, d4]
      · rcases List.mem_append.mp hr with h | h
        · exact r2 r h
        · rw [List.mem_singleton.mp h]; omega
  rw [rng_len] at r1 r4
  refine ⟨rs, l3, p3, ?_, by omega, by omega, r2, r3, by omega⟩
  have c1' : mComp cF__law_drawn_row_1 [4] ct__law_drawn_row_1 ci__law_drawn_row_1 ce__law_drawn_row_1 [some (.ref pre.length), some (.int least), some (.int more), some (.int high), none] (St pre tl cs l p) = .ok (.lst (rs.map .int)) (St pre tl cs l3 p3) := c1
  unfold g__law_drawn_row d__law_drawn_row
  rw [den_ev, e0, ret_ev, blt_ev, cons_ev, c1', bind_ok, nil_ev, bind_ok, bind_ok, tuple_lst, of_some, then_ok]
  exact fin_St
/-- one of some -/
theorem law_of_ok {pre tl : Sto} {cs : List Int} {l p : Int} {ws : List Dv} (hc : cs ≠ []) (hp : 0 ≤ p) (hp2 : p < 1000000) (hw : ws ≠ []) (hw2 : ws.length < 1000) : ∃ w l' p', w ∈ ws ∧ g__law_of [.ref pre.length, .lst ws] (St pre tl cs l p) = .ok w (St pre tl cs l' p') ∧ 0 ≤ p' ∧ p' ≤ p + 1 := by
  have hl : 0 < ws.length := List.length_pos_iff.mpr hw
  obtain ⟨k, l2, p2, d2, k0, k6, p20, p21⟩ := (draw_ok (l := l) hc (show (0 : Int) < ws.length by omega) (by omega) hp hp2).ok
  obtain ⟨j, rfl⟩ := Int.eq_ofNat_of_zero_le k0
  have hj : j < ws.length := by omega
  refine ⟨ws[j], l2, p2, List.getElem_mem hj, ?_, p20, p21⟩
  have e0 : startD 2 [.ref pre.length, .lst ws] = [some (.ref pre.length), some (.lst ws)] := rfl
  unfold g__law_of d__law_of
  rw [den_ev, e0, ret_ev, bin_ev, var_s, var_0, bind_ok, call_ev, cons_ev, var_0, bind_ok, cons_ev, blt_ev, cons_ev, var_s, var_0, bind_ok, nil_ev, bind_ok, bind_ok, len_lst, of_some, bind_ok, nil_ev, bind_ok, bind_ok, bind_ok, d2, bind_ok, ix_lst (List.getElem?_eq_getElem hj), of_some, then_ok]
  exact fin_St
end MP.PG
set_option Elab.async false
set_option linter.all false
set_option maxRecDepth 100000
set_option maxHeartbeats 400000
namespace MP.PG
open PySem PySem.Spec PyProof.Rows L2 MP
structure Term where
  rs : List Int
  a : Int
  b : Int
abbrev tm (t : Term) : Dv := .tup [tI t.rs, .int t.a, .int t.b]
abbrev bi (o : Int) (ts : List Term) : Dv := .tup [.int o, .tup (ts.map tm)]
structure TermOk (t : Term) : Prop where
  rule : Rule t.rs
  a0 : -50 ≤ t.a
  a1 : t.a ≤ 50
  b0 : -50 ≤ t.b
  b1 : t.b ≤ 50
structure Bill (o : Int) (ts : List Term) : Prop where
  o0 : -50 ≤ o
  o1 : o ≤ 50
  two : ts.length ≤ 2
  ok : ∀ t ∈ ts, TermOk t
abbrev lens (ts : List Term) : List Int := ts.map fun t => (t.rs.length : Int)
def wd (ts : List Term) : Nat := (maxO 1 (lens ts)).toNat
theorem lens_ok {ts : List Term} (h : ∀ t ∈ ts, TermOk t) : ∀ n ∈ lens ts, 1 ≤ n ∧ n ≤ 6 := fun n hn => by
  obtain ⟨t, ht, rfl⟩ := List.mem_map.mp hn
  have h1 := (h t ht).rule.one
  have h6 := (h t ht).rule.six
  omega
theorem maxO_rng {ns : List Int} (h : ∀ n ∈ ns, 1 ≤ n ∧ n ≤ 6) : 1 ≤ maxO 1 ns ∧ maxO 1 ns ≤ 6 := by
  cases ns with
  | nil => exact ⟨by decide, by decide⟩
  | cons a ns => exact h _ (foldl_max_mem ns a)
theorem maxO_ge {ns : List Int} {d n : Int} (h : n ∈ ns) : n ≤ maxO d ns := by
  cases ns with
  | nil => cases h
  | cons a ns =>
    obtain ⟨h1, h2⟩ := foldl_max_le ns a
    rcases List.mem_cons.mp h with rfl | h
    · exact h1
    · exact h2 n h
theorem maxO_one {ns : List Int} (h : ∀ n ∈ ns, 1 ≤ n ∧ n ≤ 6) : maxO 0 (1 :: ns) = maxO 1 ns := by
  cases ns with
  | nil => rfl
  | cons a ns =>
    show ns.foldl max (max 1 a) = ns.foldl max a
    rw [show max 1 a = a by have := (h a List.mem_cons_self).1; omega]
theorem wd_int {ts : List Term} (h : ∀ t ∈ ts, TermOk t) : maxO 1 (lens ts) = (wd ts : Int) := by
  have := (maxO_rng (lens_ok h)).1
  unfold wd
  omega
theorem wd_rng {ts : List Term} (h : ∀ t ∈ ts, TermOk t) : 1 ≤ wd ts ∧ wd ts ≤ 6 := by
  have := maxO_rng (lens_ok h)
  rw [wd_int h] at this
  omega
theorem wd_ge {ts : List Term} (h : ∀ t ∈ ts, TermOk t) {t : Term} (ht : t ∈ ts) : t.rs.length ≤ wd ts := by
  have := maxO_ge (d := 1) (List.mem_map.mpr ⟨t, ht, rfl⟩ : (t.rs.length : Int) ∈ lens ts)
  rw [wd_int h] at this
  omega
variable {s : Sto} {o : Int} {ts : List Term} {ns : List Int}
theorem is_rule_ok {rs : List Int} (h : Rule rs) : g_is_rule [tI rs] s = .ok (.bl true) s := by
  have e0 : startD 1 [tI rs] = [some (tI rs)] := rfl
  have e1 : mTryN (mExpr (mCall g_need_rule (mCons (mVar 0) mNil))) [some (tI rs)] s = .nx [some (tI rs)] s := by
    unfold mTryN
    rw [expr_ev, call_v (cons_v (w := tI rs) rfl nil_ev) (need_rule_ok h s), then_ok]
  unfold g_is_rule d_is_rule
  rw [den_ev, e0, seq_nx e1 (ret_v k_ev), finC_rt]
theorem is_factor_ok {i : Int} (h : -50 ≤ i) (h2 : i ≤ 50) : g_is_factor [.int i] s = .ok (.bl true) s := by
  have e0 : startD 1 [.int i] = [some (.int i)] := rfl
  have := is_int_within_int i (-50) 50 s
  rw [decide_eq_true h, decide_eq_true h2] at this
  unfold g_is_factor d_is_factor
  rw [den_ev, e0]
  simp [this]
theorem is_term_ok {t : Term} (h : TermOk t) : g_is_term [tm t] s = .ok (.bl true) s := by
  have e0 : startD 4 [tm t] = [some (tm t), none, none, none] := rfl
  have e1 := is_tuple_tup [tI t.rs, .int t.a, .int t.b] 3 3 s
  have e2 : g_is_tuple [tm t, .int 3, .int 3] s = .ok (.bl true) s := e1
  have e3 : mAsg (mVar 0) (gT 3 (gsC (gN 1) (gsC (gN 2) (gsC (gN 3) gs0)))) [some (tm t), none, none, none] s = .nx [some (tm t), some (tI t.rs), some (.int t.a), some (.int t.b)] s := rfl
  unfold g_is_term d_is_term
  rw [den_ev, e0, seq_nx ((ifS_f (by rw [not_ev, test_v (call_v (cons_v (w := tm t) rfl (cons_v k_ev (cons_v k_ev nil_ev))) e2), bind_ok]; rfl)).trans next_ev) (seq_nx e3 (ret_v (w := .bl true) ?_))]
  · exact finC_rt
  · rw [andV_ev, call_v (cons_v (w := tI t.rs) rfl nil_ev) (is_rule_ok h.rule), bind_ok, andK_bl, if_pos rfl, andV_ev, call_v (cons_v (w := .int t.a) rfl nil_ev) (is_factor_ok h.a0 h.a1), bind_ok, andK_bl, if_pos rfl, call_v (cons_v (w := .int t.b) rfl nil_ev) (is_factor_ok h.b0 h.b1)]
theorem need_bill_ok (h : Bill o ts) : g_need_bill [bi o ts] s = .ok (bi o ts) s := by
  have h2 := h.two
  have e0 : startD 5 [bi o ts] = [some (bi o ts), none, none, none, none] := rfl
  have e2 : g_is_tuple [bi o ts, .int 2, .int 2] s = .ok (.bl true) s := is_tuple_tup [.int o, .tup (ts.map tm)] 2 2 s
  have e4 : g_is_tuple [.tup (ts.map tm), .int 0, .int 2] s = .ok (.bl true) s := by
    rw [is_tuple_tup, List.length_map, decide_eq_true (by omega), decide_eq_true (by omega)]
    rfl
  have e3 : mAsg (mVar 0) (gT 2 (gsC (gN 1) (gsC (gN 2) gs0))) [some (bi o ts), none, none, none, none] s = .nx [some (bi o ts), some (.int o), some (.tup (ts.map tm)), none, none] s := rfl
  obtain ⟨ρ', s', h1, rfl, x, y, rfl⟩ := for_ix (g := t_need_bill_1) (body := b_need_bill_1) (F := F_need_bill_1) (ρ := [some (bi o ts), some (.int o), some (.tup (ts.map tm)), none, none]) (s := s) (s1 := s) (xs := enumD 0 (ts.map tm))
    (fun _ ρ s' => s' = s ∧ ∃ x y, ρ = [some (bi o ts), some (.int o), some (.tup (ts.map tm)), x, y]) rfl ⟨rfl, _, _, rfl⟩ (fun i x ρ s' hx hJ => by
      obtain ⟨rfl, y, z, rfl⟩ := hJ
      obtain ⟨w, hw, rfl⟩ := enumD_get hx
      rw [List.getElem?_map] at hw
      cases hn : ts[i]? with
      | none => rw [hn] at hw; cases hw
      | some t =>
        rw [hn] at hw
        cases hw
        refine ⟨[some (bi o ts), some (.int o), some (.tup (ts.map tm)), some (.int (0 + i : Nat)), some (tm t)], [some (bi o ts), some (.int o), some (.tup (ts.map tm)), some (.int (0 + i : Nat)), some (tm t)], s', rfl, .inl ?_, rfl, _, _, rfl⟩
        unfold b_need_bill_1
        exact (ifS_f (by rw [not_ev, test_v (call_v (cons_v (w := tm t) rfl nil_ev) (is_term_ok (h.ok t (List.mem_of_getElem? hn)))), bind_ok]; rfl)).trans next_ev)
  unfold g_need_bill d_need_bill
  rw [den_ev, e0, seq_nx ((ifS_f (by rw [not_ev, test_v (call_v (cons_v (w := bi o ts) rfl (cons_v k_ev (cons_v k_ev nil_ev))) e2), bind_ok]; rfl)).trans next_ev) (seq_nx e3
    (seq_nx ((ifS_f (by rw [not_ev, test_v (call_v (cons_v (w := .int o) rfl nil_ev) (is_factor_ok h.o0 h.o1)), bind_ok]; rfl)).trans next_ev)
    (seq_nx ((ifS_f (by rw [not_ev, test_v (call_v (cons_v (w := .tup (ts.map tm)) rfl (cons_v k_ev (cons_v k_ev nil_ev))) e4), bind_ok]; rfl)).trans next_ev)
    (seq_nx h1 (ret_v (w := bi o ts) rfl)))))]
  exact finC_rt
theorem ix_tup0 {a : Dv} {ws : List Dv} : ixA s (.tup (a :: ws)) (.int 0) = some a := ix_tup (k := 0) rfl
theorem ix_tup1 {a b : Dv} {ws : List Dv} : ixA s (.tup (a :: b :: ws)) (.int 1) = some b := ix_tup (k := 1) rfl
theorem width_of_ok (h : ∀ t ∈ ts, TermOk t) (h2 : ts.length ≤ 2) : g_width_of [bi o ts] s = .ok (.int (wd ts)) s := by
  have e0 : startD 2 [bi o ts] = [some (bi o ts), none] := rfl
  have hc : mComp cF_width_of_1 [1] ct_width_of_1 ci_width_of_1 ce_width_of_1 [some (bi o ts), none] s = .ok (lI (lens ts)) s := by
    have : mComp cF_width_of_1 [1] ct_width_of_1 ci_width_of_1 ce_width_of_1 [some (bi o ts), none] s = .ok (.lst (ts.map fun t => .int (t.rs.length : Int))) s := by
      refine comp_mapA (e := tm) _ ?_ (by unfold lim; omega) fun t _ => ⟨[some (bi o ts), some (tm t)], rfl, ?_⟩
      · unfold cF_width_of_1 iSeq
        rw [bin_v (x := bi o ts) rfl k_ev ix_tup1, bind_ok]
        rfl
      · unfold ce_width_of_1
        exact blt_v (cons_v (bin_v (x := tm t) rfl k_ev ix_tup0) nil_ev) (by rw [len_tup, List.length_map])
    rw [this]
    unfold lI lens
    rw [List.map_map]
    rfl
  have hm : maxDefD s (lI (lens ts)) (.int 1) = some (.int (wd ts)) := by
    show (match lstOf s (lI (lens ts)) with
      | some ws => (intsOf ws).map fun ns => Dv.int (maxO 1 ns)
      | none => none) = _
    show (intsOf ((lens ts).map .int)).map (fun ns => Dv.int (maxO 1 ns)) = _
    rw [intsOf_map, Option.map_some, wd_int h]
  unfold g_width_of d_width_of
  rw [den_ev, e0, ret_v (bin_v hc k_ev hm), finC_rt]
def seg (rs ns : List Int) (e : Nat) : List Int := (ns.drop (e - rs.length)).take rs.length
/-- the index of the results that end at e -/
def ixe (rs ns : List Int) (e : Nat) : Int := dot rs (srt (seg rs ns e))
def ps (o : Int) (ts : List Term) (ns : List Int) (e : Nat) : Int := o * ns.getD e 0 + (ts.map fun t => t.a * ixe t.rs ns e + t.b * ixe t.rs ns (e + 1)).sum
theorem ixe_of {rs : List Int} {i k : Nat} (hk : rs.length ≤ k) (hn : i + k ≤ ns.length) : idx rs ((ns.drop i).take k) = ixe rs ns (i + k) := by
  unfold idx ixe seg last
  rw [List.length_take, List.length_drop, Nat.min_eq_left (by omega), List.drop_take, List.drop_drop]
  rw [show i + (k - rs.length) = i + k - rs.length by omega, show k - (k - rs.length) = rs.length by omega]
theorem last_pay_ok {xs : List Int} {v : Int} (h : Bill o ts) (hr : ∀ t ∈ ts, t.rs.length ≤ xs.length) (hx : xs.length < 200) : g_last_pay [bi o ts, tI (xs ++ [v])] s = .ok (.int (o * v + (ts.map fun t => t.a * idx t.rs xs + t.b * idx t.rs (xs ++ [v])).sum)) s := by
  have h2 := h.two
  have e0 : startD 9 [bi o ts, tI (xs ++ [v])] = [some (bi o ts), some (tI (xs ++ [v])), none, none, none, none, none, none, none] := rfl
  have e1 : mAsg (mVar 0) (gT 2 (gsC (gN 2) (gsC (gN 3) gs0))) [some (bi o ts), some (tI (xs ++ [v])), none, none, none, none, none, none, none] s = .nx [some (bi o ts), some (tI (xs ++ [v])), some (.int o), some (.tup (ts.map tm)), none, none, none, none, none] s := rfl
  have hcut : cutD ((xs ++ [v]).map Dv.int) none (some (-1)) = xs.map .int := by
    unfold cutD
    rw [HT.sIx_none]
    have e : HT.sIx ((xs ++ [v]).map Dv.int).length ((xs ++ [v]).map Dv.int).length (some (-1)) = xs.length := by
      show (if (-1 : Int) < 0 then (-1 + (((xs ++ [v]).map Dv.int).length : Int)).toNat else min (-1 : Int).toNat ((xs ++ [v]).map Dv.int).length) = _
      rw [if_pos (by decide), List.length_map, List.length_append]
      show (-1 + ((xs.length + 1 : Nat) : Int)).toNat = _
      omega
    rw [e, List.map_append, List.drop_zero, Nat.sub_zero, List.take_left' (by rw [List.length_map])]
  have e2 : mAsg (mSl slA (mVar 1) mNoPart (mPart (mUn negD (mK (.int 1))))) (gN 4) [some (bi o ts), some (tI (xs ++ [v])), some (.int o), some (.tup (ts.map tm)), none, none, none, none, none] s = .nx [some (bi o ts), some (tI (xs ++ [v])), some (.int o), some (.tup (ts.map tm)), some (tI xs), none, none, none, none] s := by
    refine (asg_v (w := tI xs) ?_).trans rfl
    rw [sl_ev, show mVar 1 [some (bi o ts), some (tI (xs ++ [v])), some (.int o), some (.tup (ts.map tm)), none, none, none, none, none] s = .ok (tI (xs ++ [v])) s from rfl, bind_ok, nopart_ev, bind_ok, part_ev, un_ev, k_ev, bind_ok, neg_ev, of_some, bind_ok]
    dsimp only
    rw [bind_ok, sl_tup, hcut, of_some]
  have hc : mComp cF_last_pay_1 [6, 7, 8] ct_last_pay_1 ci_last_pay_1 ce_last_pay_1 [some (bi o ts), some (tI (xs ++ [v])), some (.int o), some (.tup (ts.map tm)), some (tI xs), none, none, none, none] s = .ok (lI (ts.map fun t => t.a * idx t.rs xs + t.b * idx t.rs (xs ++ [v]))) s := by
    have : mComp cF_last_pay_1 [6, 7, 8] ct_last_pay_1 ci_last_pay_1 ce_last_pay_1 [some (bi o ts), some (tI (xs ++ [v])), some (.int o), some (.tup (ts.map tm)), some (tI xs), none, none, none, none] s = .ok (.lst (ts.map fun t => .int (t.a * idx t.rs xs + t.b * idx t.rs (xs ++ [v])))) s := by
      refine comp_mapA (e := tm) _ rfl (by unfold lim; omega) fun t ht => ⟨[some (bi o ts), some (tI (xs ++ [v])), some (.int o), some (.tup (ts.map tm)), some (tI xs), none, some (tI t.rs), some (.int t.a), some (.int t.b)], rfl, ?_⟩
      have hk := h.ok t ht
      have hl := hr t ht
      have a0 := hk.a0
      have a1 := hk.a1
      have b0 := hk.b0
      have b1 := hk.b1
      unfold ce_last_pay_1
      refine bin_v (bin_v (x := .int t.a) rfl (call_v (cons_v (w := tI t.rs) rfl (cons_v (w := tI xs) rfl nil_ev)) (index_of_ok hk.rule (by omega) hl s)) (mul_ii (cm_l ⟨by omega, by omega⟩)))
        (bin_v (x := .int t.b) rfl (call_v (cons_v (w := tI t.rs) rfl (cons_v (w := tI (xs ++ [v])) rfl nil_ev)) (index_of_ok hk.rule (by rw [List.length_append]; show xs.length + 1 ≤ 200; omega) (by rw [List.length_append]; omega) s)) (mul_ii (cm_l ⟨by omega, by omega⟩))) add_ii
    rw [this]
    unfold lI
    rw [List.map_map]
    rfl
  have hl : mBin ixA (mVar 1) (mUn negD (mK (.int 1))) [some (bi o ts), some (tI (xs ++ [v])), some (.int o), some (.tup (ts.map tm)), some (tI xs), some (lI (ts.map fun t => t.a * idx t.rs xs + t.b * idx t.rs (xs ++ [v]))), none, none, none] s = .ok (.int v) s := by
    refine bin_v (x := tI (xs ++ [v])) (y := .int (-1)) rfl (by rw [un_ev, k_ev, bind_ok, neg_ev, of_some]) ?_
    have e : ixT s (tI (xs ++ [v])) (.int (-1)) = some (.int v) := by
      show atI ((xs ++ [v]).map Dv.int) (-1) = _
      rw [List.map_append]
      exact atI_last _ _
    show (match (match ixL s (tI (xs ++ [v])) (.int (-1)) with | some w => some w | none => ixT s (tI (xs ++ [v])) (.int (-1))) with | some w => some w | none => ixD s (tI (xs ++ [v])) (.int (-1))) = _
    rw [show ixL s (tI (xs ++ [v])) (.int (-1)) = none from rfl, e]
  have o0 := h.o0
  have o1 := h.o1
  unfold g_last_pay d_last_pay
  rw [den_ev, e0, seq_nx e1 (seq_nx e2 (seq_nx ((asg_v hc).trans rfl) (ret_v (bin_v (bin_v (x := .int o) rfl hl (mul_ii (cm_l ⟨by omega, by omega⟩))) (blt_v (cons_v (w := lI (ts.map fun t => t.a * idx t.rs xs + t.b * idx t.rs (xs ++ [v]))) rfl nil_ev) sum_LI) add_ii))))]
  exact finC_rt
/-- what all pay but the first ones -/
abbrev pys (o : Int) (ts : List Term) (ns : List Int) : List Int := (List.range (ns.length - wd ts)).map fun i => ps o ts ns (wd ts + i)
theorem pays_of_ok (h : Bill o ts) (hn : Row ns) (hw : wd ts ≤ ns.length) : g_pays_of [bi o ts, tI ns] s = .ok (tI (pys o ts ns)) s := by
  have hn2 := hn.most
  obtain ⟨w1, w6⟩ := wd_rng h.ok
  have e0 : startD 4 [bi o ts, tI ns] = [some (bi o ts), some (tI ns), none, none] := rfl
  have e1 : mAsg (mCall g_width_of (mCons (mVar 0) mNil)) (gN 2) [some (bi o ts), some (tI ns), none, none] s = .nx [some (bi o ts), some (tI ns), some (.int (wd ts)), none] s :=
    (asg_v (call_v (cons_v (w := bi o ts) rfl nil_ev) (width_of_ok h.ok h.two))).trans rfl
  have hc : mComp cF_pays_of_1 [3] ct_pays_of_1 ci_pays_of_1 ce_pays_of_1 [some (bi o ts), some (tI ns), some (.int (wd ts)), none] s = .ok (lI (pys o ts ns)) s := by
    have : mComp cF_pays_of_1 [3] ct_pays_of_1 ci_pays_of_1 ce_pays_of_1 [some (bi o ts), some (tI ns), some (.int (wd ts)), none] s = .ok (.lst ((List.range (ns.length - wd ts)).map fun i => .int (ps o ts ns (wd ts + i)))) s := by
      refine comp_mapA (e := fun i : Nat => .int ((wd ts : Int) + (i : Int))) _ ?_ ?_ fun i hi => ⟨[some (bi o ts), some (tI ns), some (.int (wd ts)), some (.int ((wd ts : Int) + (i : Int)))], rfl, ?_⟩
      · have e1 : ((ns.length : Int) - (wd ts : Int)).toNat = ns.length - wd ts := by omega
        have := range2_ok (fa := mCons (mVar 2) (mCons (mBlt lenD (mCons (mVar 1) mNil)) mNil)) (ρ := [some (bi o ts), some (tI ns), some (.int (wd ts)), none]) (s := s) (s1 := s) (i := wd ts) (j := ns.length)
          (cons_v (w := .int (wd ts)) rfl (cons_v (blt_v (cons_v (w := tI ns) rfl nil_ev) (by rw [len_tup, List.length_map])) nil_ev)) (okR_s (by omega) (by omega)) (okR_s (by omega) (by omega))
        rw [e1, rng_ev] at this
        exact this
      · rw [List.length_range]
        unfold lim
        omega
      · have hi' := List.mem_range.mp hi
        have hv : ns[wd ts + i]? = some (ns.getD (wd ts + i) 0) := by
          rw [List.getD_eq_getElem?_getD, List.getElem?_eq_getElem (by omega)]
          rfl
        have ht : (ns.drop i).take (wd ts + 1) = (ns.drop i).take (wd ts) ++ [ns.getD (wd ts + i) 0] := by
          rw [List.take_succ, List.getElem?_drop, Nat.add_comm i, hv]
          rfl
        have e2 : cutD (ns.map .int) (some ((wd ts : Int) + (i : Int) - (wd ts : Int))) (some ((wd ts : Int) + (i : Int) + 1)) = ((ns.drop i).take (wd ts) ++ [ns.getD (wd ts + i) 0]).map .int := by
          rw [show ((wd ts : Int) + (i : Int) - (wd ts : Int)) = (i : Int) by omega, show ((wd ts : Int) + (i : Int) + 1) = ((wd ts + i + 1 : Nat) : Int) by omega, cut_mid (by rw [List.length_map]; omega) (by rw [List.length_map]; omega), ← List.map_drop, ← List.map_take, show wd ts + i + 1 - i = wd ts + 1 by omega, ht]
        have hl : ((ns.drop i).take (wd ts)).length = wd ts := by rw [List.length_take, List.length_drop]; omega
        have := last_pay_ok (s := s) (xs := (ns.drop i).take (wd ts)) (v := ns.getD (wd ts + i) 0) h (fun t ht => by rw [hl]; exact wd_ge h.ok ht) (by rw [hl]; omega)
        unfold ce_pays_of_1
        refine call_v (cons_v (w := bi o ts) rfl (cons_v (w := tI ((ns.drop i).take (wd ts) ++ [ns.getD (wd ts + i) 0])) ?_ nil_ev)) (this.trans ?_)
        · rw [sl_ev, show mVar 1 [some (bi o ts), some (tI ns), some (.int (wd ts)), some (.int ((wd ts : Int) + (i : Int)))] s = .ok (tI ns) s from rfl, bind_ok, part_ev, bin_v (x := .int ((wd ts : Int) + (i : Int))) (y := .int (wd ts)) rfl rfl sub_ev, bind_ok]
          dsimp only
          rw [bind_ok, part_ev, bin_v (x := .int ((wd ts : Int) + (i : Int))) rfl k_ev add_ii, bind_ok]
          dsimp only
          rw [bind_ok, sl_tup, e2, of_some]
        · unfold ps
          congr 3
          congr 1
          refine List.map_congr_left fun t hm => ?_
          have hk := wd_ge h.ok hm
          rw [← ht, ixe_of hk (by omega), ixe_of (by omega) (by omega), show i + wd ts = wd ts + i by omega, show i + (wd ts + 1) = wd ts + i + 1 by omega]
    rw [this]
    unfold lI pys
    rw [List.map_map]
    rfl
  unfold g_pays_of d_pays_of
  rw [den_ev, e0, seq_nx e1 (ret_v (blt_v (cons_v hc nil_ev) tuple_lst))]
  exact finC_rt
end MP.PG
set_option Elab.async false
set_option linter.all false
set_option maxRecDepth 100000
set_option maxHeartbeats 400000
namespace MP.PG
open PySem PySem.Spec PyProof.Rows L2 MP
theorem dot_take {rs ms : List Int} {i : Nat} {a b : Int} (h1 : rs[i]? = some a) (h2 : ms[i]? = some b) : dot (rs.take (i + 1)) (ms.take (i + 1)) = dot (rs.take i) (ms.take i) + a * b := by
  obtain ⟨l1, e1⟩ := List.getElem?_eq_some_iff.mp h1
  obtain ⟨l2, e2⟩ := List.getElem?_eq_some_iff.mp h2
  unfold dot
  rw [List.take_succ, List.take_succ, h1, h2]
  rw [List.zip_append (by rw [List.length_take, List.length_take]; omega), List.map_append, List.sum_append]
  simp
theorem law_index_ok {rs ns : List Int} (h : Rule rs) (hl : ns.length = rs.length) (s : Sto) : g__law_index [tI rs, tI ns] s = .ok (.int (dot rs (srt ns))) s := by
  have h6 := h.six
  have hs : (srt ns).length = rs.length := by rw [(srt_perm ns).length_eq, hl]
  have hF : F__law_index_1 [some (tI rs), some (tI ns), some (.int 0), some (lI (srt ns)), none] s = .ok { ws := rng 0 rs.length } s :=
    range1_ok (fa := mCons (mBlt lenD (mCons (mVar 0) mNil)) mNil) (j := rs.length) (by simp) (okR_s (by omega) (by omega))
  obtain ⟨ρ', s', h1, h2⟩ := for_ix (g := t__law_index_1) (body := b__law_index_1)
    (fun i ρ s' => s' = s ∧ ∃ y, ρ = [some (tI rs), some (tI ns), some (.int (dot (rs.take i) ((srt ns).take i))), some (lI (srt ns)), y]) hF ⟨rfl, _, rfl⟩ (fun i x ρ s' hx hJ => by
      obtain ⟨rfl, y, rfl⟩ := hJ
      obtain ⟨hi, rfl⟩ := rng_get hx
      have a1 : rs[i]? = some rs[i] := List.getElem?_eq_getElem hi
      have a2 : (srt ns)[i]? = some ((srt ns)[i]'(by omega)) := List.getElem?_eq_getElem _
      have b1 : (rs.map Dv.int)[i]? = some (.int rs[i]) := by rw [List.getElem?_map, a1]; rfl
      have b2 : ((srt ns).map Dv.int)[i]? = some (.int ((srt ns)[i]'(by omega))) := by rw [List.getElem?_map, a2]; rfl
      have hb := h.ok rs[i] (List.getElem_mem hi)
      refine ⟨[some (tI rs), some (tI ns), some (.int (dot (rs.take i) ((srt ns).take i))), some (lI (srt ns)), some (.int (0 + (i : Int)))], [some (tI rs), some (tI ns), some (.int (dot (rs.take (i + 1)) ((srt ns).take (i + 1)))), some (lI (srt ns)), some (.int (0 + (i : Int)))], s', rfl, .inl ?_, rfl, _, rfl⟩
      rw [dot_take a1 a2, Int.zero_add]
      unfold b__law_index_1
      rw [asgN_ev, bin_ev, var_s, var_s, var_0, bind_ok, bin_ev, bin_ev, var_0, bind_ok, var_s, var_s, var_s, var_s, var_0, bind_ok, ix_tup b1, of_some, bind_ok, bin_ev, var_s, var_s, var_s, var_0, bind_ok, var_s, var_s, var_s, var_s, var_0, bind_ok, ix_lst b2, of_some, bind_ok, mul_ii (cm_l ⟨by omega, by omega⟩), of_some, bind_ok, add_ii, of_some, then_ok]
      rfl)
  obtain ⟨rfl, y, rfl⟩ := h2
  have hr : (rng 0 rs.length).length = rs.length := rng_len _ _
  rw [hr, List.take_of_length_le (Nat.le_refl _), List.take_of_length_le (by omega)] at h1
  have e1 : mPar 2 3 (mCons (mK (.int 0)) (mCons (mBlt sortedA (mCons (mVar 1) mNil)) mNil)) [some (tI rs), some (tI ns), none, none, none] s' = .nx [some (tI rs), some (tI ns), some (.int 0), some (lI (srt ns)), none] s' := by
    rw [par_ev]
    simp
  have e0 : startD 5 [tI rs, tI ns] = [some (tI rs), some (tI ns), none, none, none] := rfl
  unfold g__law_index d__law_index
  rw [den_ev, e0, seq_ev, e1, seqK_nx, seq_ev, h1, seqK_nx, ret_ev, var_s, var_s, var_0, then_ok, finC_rt]
theorem cleans_int (n : Nat) : ∀ l : List Int, cleans n (l.map .int) = true
  | [] => rfl
  | _ :: l => by
    show (true && cleans n (l.map .int)) = true
    rw [cleans_int n l]
    rfl
theorem clean_tm (n : Nat) (t : Term) : clean n (tm t) = true := by
  show (cleans n (t.rs.map .int) && (true && (true && true))) = true
  rw [cleans_int]
  rfl
theorem cleans_tm (n : Nat) : ∀ l : List Term, cleans n (l.map tm) = true
  | [] => rfl
  | t :: l => by
    show (clean n (tm t) && cleans n (l.map tm)) = true
    rw [clean_tm, cleans_tm n l]
    rfl
theorem clean_bi (n : Nat) (o : Int) (ts : List Term) : clean n (bi o ts) = true := by
  show (true && (cleans n (ts.map tm) && true)) = true
  rw [cleans_tm]
  rfl
theorem fz_ints {s : Sto} {n k : Nat} : ∀ l : List Int, mapO (fz (k + 1) s n) (l.map .int) = some (l.map .int)
  | [] => rfl
  | a :: l => by
    have e : fz (k + 1) s n (.int a) = some (.int a) := by
      unfold fz
      exact if_pos rfl
    rw [List.map_cons]
    unfold mapO
    rw [e, fz_ints l]
/-- the place behind all -/
def r1 (pre os : Sto) : Nat := pre.length + 1 + os.length
def ClP (pre os : Sto) : Prop := ∀ n, pre.all (Ob.clean n) = true ∧ os.all (Ob.clean n) = true
theorem St_clean {n : Nat} {pre os : Sto} {cs : List Int} {l p : Int} (ho : ClP pre os) : (St pre os cs l p).all (Ob.clean n) = true := by
  unfold St
  rw [List.all_append, (ho n).1]
  show (true && ((cleans n (cs.map .int) && (true && (true && true))) && os.all (Ob.clean n))) = true
  rw [cleans_int, (ho n).2]
  rfl
theorem St_app {pre os us : Sto} {cs : List Int} {l p : Int} : St pre (os ++ us) cs l p = St pre os cs l p ++ us := by
  unfold St
  rw [List.append_assoc]
  rfl
theorem r1_len {pre os : Sto} {cs : List Int} {l p : Int} : (St pre os cs l p).length = r1 pre os := by rw [St_len]; unfold r1; omega
theorem at_end {pre os : Sto} {cs : List Int} {l p : Int} {x : Ob} : (St pre (os ++ [x]) cs l p)[r1 pre os]? = some x := by
  rw [St_app, ← r1_len (cs := cs) (l := l) (p := p), List.getElem?_append_right (Nat.le_refl _), Nat.sub_self]
  rfl
theorem set_end {pre os : Sto} {cs : List Int} {l p : Int} {x y : Ob} : (St pre (os ++ [x]) cs l p).set (r1 pre os) y = St pre (os ++ [y]) cs l p := by
  rw [St_app, St_app, ← r1_len (cs := cs) (l := l) (p := p), List.set_append_right _ _ (Nat.le_refl _), Nat.sub_self]
  rfl
theorem take_end {pre os : Sto} {cs : List Int} {l p : Int} {x : Ob} : (St pre (os ++ [x]) cs l p).take (r1 pre os) = St pre os cs l p := by
  rw [St_app, ← r1_len (cs := cs) (l := l) (p := p), List.take_left' rfl]
theorem len_end {pre os : Sto} {cs : List Int} {l p : Int} {x : Ob} : (St pre (os ++ [x]) cs l p).length = r1 pre os + 1 := by
  rw [St_app, List.length_append, r1_len]
  rfl
theorem lstM_s {fa : FA} {ρ : Env} {pre os : Sto} {cs : List Int} {l p l' p' : Int} {ws : List Dv} (h : fa ρ (St pre os cs l p) = .ok ws (St pre os cs l' p')) (hl : ws.length ≤ 1000000) : mLstM fa ρ (St pre os cs l p) = .ok (.ref (r1 pre os)) (St pre (os ++ [.lst ws]) cs l' p') := by
  rw [lstM_ev, h, bind_ok, if_pos (by unfold lim; omega), r1_len, St_app]
/-- what is the callee's own goes out as it stands -/
theorem fin_own {pre os : Sto} (ho : ClP pre os) {cs : List Int} {l p l' p' : Int} {ob : Ob} {w w' : Dv} (h : fz 4 (St pre (os ++ [ob]) cs l' p') (r1 pre os) w = some w') : finC (St pre os cs l p).length (.rt w (St pre (os ++ [ob]) cs l' p')) = .ok w' (St pre os cs l' p') := by
  rw [r1_len]
  show finW (r1 pre os) w (St pre (os ++ [ob]) cs l' p') = _
  unfold finW
  rw [if_neg (by rw [len_end]; omega), take_end, if_pos (St_clean ho), h]
theorem fin_lst {pre os : Sto} (ho : ClP pre os) {cs : List Int} {l p l' p' : Int} {ws : List Dv} (h : mapO (fz 3 (St pre (os ++ [.lst ws]) cs l' p') (r1 pre os)) ws = some ws) : finC (St pre os cs l p).length (.rt (.ref (r1 pre os)) (St pre (os ++ [.lst ws]) cs l' p')) = .ok (.lst ws) (St pre os cs l' p') := by
  refine fin_own ho ?_
  unfold fz
  rw [if_neg (by show ¬ (decide (r1 pre os < r1 pre os) = true); simp)]
  dsimp only
  rw [at_end]
  dsimp only
  rw [h]
  rfl
theorem fin_ref {pre os : Sto} (ho : ClP pre os) {cs : List Int} {l p l' p' : Int} {acc : List Int} : finC (St pre os cs l p).length (.rt (.ref (r1 pre os)) (St pre (os ++ [.lst (acc.map .int)]) cs l' p')) = .ok (lI acc) (St pre os cs l' p') := fin_lst ho (fz_ints _)
theorem fin_bi {pre os : Sto} (ho : ClP pre os) {cs : List Int} {l p l' p' o : Int} {ts : List Term} {ob : Ob} : finC (St pre os cs l p).length (.rt (bi o ts) (St pre (os ++ [ob]) cs l' p')) = .ok (bi o ts) (St pre os cs l' p') := by
  refine fin_own ho ?_
  unfold fz
  exact if_pos (clean_bi _ _ _)
theorem app_v {f g : FE} {ρ : Env} {s s1 s2 : Sto} {n : Nat} {ws us : List Dv} {y : Dv} (h : f ρ s = .ok (.ref n) s1) (h1 : s1[n]? = some (.lst us)) (h2 : g ρ s1 = .ok y s2) (h3 : s2[n]? = some (.lst ws)) (hl : ws.length < lim) : mApp f g ρ s = .ok .non (s2.set n (.lst (ws ++ [y]))) := by
  unfold mApp
  rw [h, bind_ok]
  simp only [h1, h2, bind_ok, h3, if_pos hl]
theorem drawn_bill_ok {pre os : Sto} (ho : ClP pre os) {cs : List Int} {l p most : Int} (hc : cs ≠ []) (hp : 0 ≤ p) (hp2 : p < 800000) (hm : 1 ≤ most) (hm6 : most ≤ 6) :
    ∃ o ts l' p', g__law_drawn_bill [.ref pre.length, .int most] (St pre os cs l p) = .ok (bi o ts) (St pre os cs l' p') ∧ Bill o ts ∧ 0 ≤ p' ∧ p' ≤ p + 30 := by
  obtain ⟨d, l1, p1, d1, d0, d101, p10, p11⟩ := (draw_ok (pre := pre) (tl := os) (l := l) hc (show (0 : Int) < 101 by decide) (by decide) hp (by omega)).ok
  obtain ⟨w, l2, p2, hw, d2, p20, p21⟩ := law_of_ok (pre := pre) (tl := os) (l := l1) (ws := [.int 0, .int 1, .int 2, .int (-1), .int (d - 50)]) hc p10 (by omega) (by intro z; cases z) (by show 5 < 1000; decide)
  obtain ⟨o, rfl, o0, o1⟩ : ∃ o : Int, w = .int o ∧ -50 ≤ o ∧ o ≤ 50 := by
    rcases List.mem_cons.mp hw with rfl | hw
    · exact ⟨0, rfl, by omega, by omega⟩
    rcases List.mem_cons.mp hw with rfl | hw
    · exact ⟨1, rfl, by omega, by omega⟩
    rcases List.mem_cons.mp hw with rfl | hw
    · exact ⟨2, rfl, by omega, by omega⟩
    rcases List.mem_cons.mp hw with rfl | hw
    · exact ⟨-1, rfl, by omega, by omega⟩
    rcases List.mem_cons.mp hw with rfl | hw
    · exact ⟨d - 50, rfl, by omega, by omega⟩
    · cases hw
  obtain ⟨k, l3, p3, d3, k0, k3, p30, p31⟩ := (draw_ok (pre := pre) (tl := os ++ [.lst []]) (l := l2) hc (show (0 : Int) < 3 by decide) (by decide) p20 (by omega)).ok
  have e0 : startD 5 [.ref pre.length, .int most] = [some (.ref pre.length), some (.int most), none, none, none] := rfl
  have eN : mUn negD (mK (.int 1)) [some (.ref pre.length), some (.int most), none, none, none] (St pre os cs l p) = .ok (.int (-1)) (St pre os cs l p) := by rw [un_ev, k_ev, bind_ok, neg_ev, of_some]
  have eO : mCall (g__law_of) (mCons (mVar 0) (mCons (mLst (mCons (mK (.int 0)) (mCons (mK (.int 1)) (mCons (mK (.int 2)) (mCons (mUn negD (mK (.int 1))) (mCons (mBin subD (mCall (g__law_draw) (mCons (mVar 0) (mCons (mK (.int 101)) mNil))) (mK (.int 50))) mNil)))))) mNil)) [some (.ref pre.length), some (.int most), none, none, none] (St pre os cs l p) = .ok (.int o) (St pre os cs l2 p2) :=
    call_v (cons_v (w := .ref pre.length) rfl (cons_v (lst_v (cons_v k_ev (cons_v k_ev (cons_v k_ev (cons_v eN (cons_v (bin_v (call_v (cons_v (w := .ref pre.length) rfl (cons_v k_ev nil_ev)) d1) k_ev sub_ev) nil_ev))))) (by show 5 ≤ _; decide)) nil_ev)) d2
  have e1 : mPar 2 3 (mCons (mCall (g__law_of) (mCons (mVar 0) (mCons (mLst (mCons (mK (.int 0)) (mCons (mK (.int 1)) (mCons (mK (.int 2)) (mCons (mUn negD (mK (.int 1))) (mCons (mBin subD (mCall (g__law_draw) (mCons (mVar 0) (mCons (mK (.int 101)) mNil))) (mK (.int 50))) mNil)))))) mNil))) (mCons (mLstM mNil) mNil)) [some (.ref pre.length), some (.int most), none, none, none] (St pre os cs l p) = .nx [some (.ref pre.length), some (.int most), some (.int o), some (.ref (r1 pre os)), none] (St pre (os ++ [.lst []]) cs l2 p2) := by
    rw [par_ev, eO, then_ok, lstM_s (ws := []) nil_ev (by decide), then_ok]
    rfl
  have hF : F__law_drawn_bill_1 [some (.ref pre.length), some (.int most), some (.int o), some (.ref (r1 pre os)), none] (St pre (os ++ [.lst []]) cs l2 p2) = .ok { ws := rng 0 k.toNat } (St pre (os ++ [.lst []]) cs l3 p3) :=
    range1_ok (cons_v (call_v (cons_v (w := .ref pre.length) rfl (cons_v k_ev nil_ev)) d3) nil_ev) (okR_s (by omega) (by omega))
  obtain ⟨ρ', s', f1, us, l4, p4, y, g1, rfl, g2, g3, g4, rfl⟩ := for_ix (g := t__law_drawn_bill_1) (body := b__law_drawn_bill_1)
    (fun i ρ s' => ∃ (us : List Term) (l4 p4 : Int) (y : Option Dv), us.length = i ∧ s' = St pre (os ++ [.lst (us.map tm)]) cs l4 p4 ∧ (∀ t ∈ us, TermOk t) ∧ 0 ≤ p4 ∧ p4 ≤ p3 + 10 * (i : Int) ∧ ρ = [some (.ref pre.length), some (.int most), some (.int o), some (.ref (r1 pre os)), y])
    hF ⟨[], l3, p3, _, rfl, rfl, (fun _ h => nomatch h), p30, by omega, rfl⟩ fun i x ρ s' hx hJ => by
      obtain ⟨us, l4, p4, y, g1, rfl, g2, g3, g4, rfl⟩ := hJ
      obtain ⟨hi, rfl⟩ := rng_get hx
      obtain ⟨rs, l5, p5, w1, w2, w3, w4⟩ := weights_ok (pre := pre) (tl := os ++ [.lst (us.map tm)]) (l := l4) hc hm hm6 g3 (by omega)
      obtain ⟨a, l6, p6, a1, a2, a3, a4, a5⟩ := (draw_ok (pre := pre) (tl := os ++ [.lst (us.map tm)]) (l := l5) hc (show (0 : Int) < 7 by decide) (by decide) w3 (by omega)).ok
      obtain ⟨b, l7, p7, b1, b2, b3, b4, b5⟩ := (draw_ok (pre := pre) (tl := os ++ [.lst (us.map tm)]) (l := l6) hc (show (0 : Int) < 7 by decide) (by decide) a4 (by omega)).ok
      have et : mTup (mCons (mCall (g__law_weights) (mCons (mVar 0) (mCons (mVar 1) mNil))) (mCons (mBin subD (mCall (g__law_draw) (mCons (mVar 0) (mCons (mK (.int 7)) mNil))) (mK (.int 3))) (mCons (mBin subD (mCall (g__law_draw) (mCons (mVar 0) (mCons (mK (.int 7)) mNil))) (mK (.int 3))) mNil))) [some (.ref pre.length), some (.int most), some (.int o), some (.ref (r1 pre os)), some (.int (0 + (i : Int)))] (St pre (os ++ [.lst (us.map tm)]) cs l4 p4) = .ok (tm (Term.mk rs (a - 3) (b - 3))) (St pre (os ++ [.lst (us.map tm)]) cs l7 p7) :=
        tup_v (cons_v (call_v (cons_v (w := .ref pre.length) rfl (cons_v (w := .int most) rfl nil_ev)) w1) (cons_v (bin_v (call_v (cons_v (w := .ref pre.length) rfl (cons_v k_ev nil_ev)) a1) k_ev sub_ev) (cons_v (bin_v (call_v (cons_v (w := .ref pre.length) rfl (cons_v k_ev nil_ev)) b1) k_ev sub_ev) nil_ev))) (by show 3 ≤ _; decide)
      refine ⟨[some (.ref pre.length), some (.int most), some (.int o), some (.ref (r1 pre os)), some (.int (0 + (i : Int)))], [some (.ref pre.length), some (.int most), some (.int o), some (.ref (r1 pre os)), some (.int (0 + (i : Int)))], St pre (os ++ [.lst ((us ++ [Term.mk rs (a - 3) (b - 3)]).map tm)]) cs l7 p7, rfl, .inl ?_, us ++ [Term.mk rs (a - 3) (b - 3)], l7, p7, _, by rw [List.length_append, g1]; rfl, rfl, fun t ht => ?_, b4, by omega, rfl⟩
      · unfold b__law_drawn_bill_1
        rw [expr_ev, app_v (n := r1 pre os) (us := us.map tm) rfl at_end et (ws := us.map tm) at_end (by rw [List.length_map]; unfold lim; omega), then_ok, set_end, List.map_append]
        rfl
      · rcases List.mem_append.mp ht with h | h
        · exact g2 t h
        · rw [List.mem_singleton.mp h]
          exact ⟨w2, by show (-50 : Int) ≤ a - 3; omega, by show a - 3 ≤ 50; omega, by show (-50 : Int) ≤ b - 3; omega, by show b - 3 ≤ 50; omega⟩
  rw [rng_len] at g1 g4
  refine ⟨o, us, l4, p4, ?_, ⟨o0, o1, by omega, g2⟩, g3, by omega⟩
  unfold g__law_drawn_bill d__law_drawn_bill
  rw [den_ev, e0, seq_nx e1 (seq_nx f1 (ret_v (w := bi o us) (tup_v (cons_v (w := .int o) rfl (cons_v (blt_v (cons_v (w := .ref (r1 pre os)) rfl nil_ev) (z := .tup (us.map tm)) (by show (match (St pre (os ++ [Ob.lst (us.map tm)]) cs l4 p4)[r1 pre os]? with | some (Ob.lst ws) => some ws | _ => none).map Dv.tup = _; rw [at_end]; rfl)) nil_ev)) (by show 2 ≤ _; decide))))]
  exact fin_bi ho
variable {s : Sto} {o : Int} {ts : List Term} {ns : List Int}
theorem law_wide_ok (h : ∀ t ∈ ts, TermOk t) (h2 : ts.length ≤ 2) : g__law_wide [bi o ts] s = .ok (.int (wd ts)) s := by
  have e0 : startD 2 [bi o ts] = [some (bi o ts), none] := rfl
  have hc : mComp cF__law_wide_1 [1] ct__law_wide_1 ci__law_wide_1 ce__law_wide_1 [some (bi o ts), none] s = .ok (lI (lens ts)) s := by
    have : mComp cF__law_wide_1 [1] ct__law_wide_1 ci__law_wide_1 ce__law_wide_1 [some (bi o ts), none] s = .ok (.lst (ts.map fun t => .int (t.rs.length : Int))) s := by
      refine comp_mapA (e := tm) _ ?_ (by unfold lim; omega) fun t _ => ⟨[some (bi o ts), some (tm t)], rfl, ?_⟩
      · unfold cF__law_wide_1 iSeq
        rw [bin_v (x := bi o ts) rfl k_ev ix_tup1, bind_ok]
        rfl
      · unfold ce__law_wide_1
        exact blt_v (cons_v (bin_v (x := tm t) rfl k_ev ix_tup0) nil_ev) (by rw [len_tup, List.length_map])
    rw [this]
    unfold lI lens
    rw [List.map_map]
    rfl
  have ha : addD s (.lst [.int 1]) (lI (lens ts)) = some (lI (1 :: lens ts)) := by
    show (if [Dv.int 1].length + ((lens ts).map Dv.int).length ≤ lim then some (Dv.lst ([Dv.int 1] ++ (lens ts).map .int)) else none) = _
    rw [if_pos (by rw [List.length_map, List.length_map]; show 1 + ts.length ≤ lim; unfold lim; omega)]
    rfl
  have hm : maxLD s [lI (1 :: lens ts)] = some (.int (wd ts)) := by
    show (match intsOf ((1 :: lens ts).map .int) with
      | some (n :: ns) => some (Dv.int (maxO 0 (n :: ns)))
      | _ => none) = _
    rw [intsOf_map]
    dsimp only
    rw [maxO_one (lens_ok h), wd_int h]
  unfold g__law_wide d__law_wide
  rw [den_ev, e0, ret_v (blt_v (cons_v (bin_v (lst_v (cons_v k_ev nil_ev) (by show 1 ≤ _; decide)) hc ha) nil_ev) hm), finC_rt]
theorem seg_len {rs : List Int} {e : Nat} (h : rs.length ≤ e) (h2 : e ≤ ns.length) : (seg rs ns e).length = rs.length := by
  unfold seg
  rw [List.length_take, List.length_drop]
  omega
theorem seg_cut {rs : List Int} {e : Nat} {lo hi : Int} (h : rs.length ≤ e) (h2 : e ≤ ns.length) (hlo : lo = (e : Int) - rs.length) (hhi : hi = (e : Int)) : cutD (ns.map .int) (some lo) (some hi) = (seg rs ns e).map .int := by
  rw [hlo, hhi, show (e : Int) - (rs.length : Int) = ((e - rs.length : Nat) : Int) by omega, cut_mid (by rw [List.length_map]; omega) (by rw [List.length_map]; omega), ← List.map_drop, ← List.map_take, show e - (e - rs.length) = rs.length by omega]
  rfl
abbrev ev (r : Nat) (o : Int) (ts : List Term) (ns : List Int) (e : Nat) (w : Int) (a b c d : Option Dv) : Env := [some (bi o ts), some (tI ns), some (.ref r), some (.int e), some (.int w), a, b, c, d]
theorem turn_ok {r : Nat} {t : Term} {e : Nat} {w : Int} {d : Option Dv} (h : TermOk t) (hl : t.rs.length ≤ e) (he : e < ns.length) :
    b__law_paid_1 (ev r o ts ns e w (some (tI t.rs)) (some (.int t.a)) (some (.int t.b)) d) s = .nx (ev r o ts ns e (w + (t.a * ixe t.rs ns e + t.b * ixe t.rs ns (e + 1))) (some (tI t.rs)) (some (.int t.a)) (some (.int t.b)) (some (.int t.rs.length))) s := by
  have a0 := h.a0
  have a1 := h.a1
  have b0 := h.b0
  have b1 := h.b1
  have e1 : mAsg (mBlt lenD (mCons (mVar 5) mNil)) (gN 8) (ev r o ts ns e w (some (tI t.rs)) (some (.int t.a)) (some (.int t.b)) d) s = .nx (ev r o ts ns e w (some (tI t.rs)) (some (.int t.a)) (some (.int t.b)) (some (.int t.rs.length))) s :=
    (asg_v (w := .int t.rs.length) (blt_v (cons_v (w := tI t.rs) rfl nil_ev) (by rw [len_tup, List.length_map]))).trans rfl
  have c1 : mSl slA (mVar 1) (mPart (mBin subD (mVar 3) (mVar 8))) (mPart (mVar 3)) (ev r o ts ns e w (some (tI t.rs)) (some (.int t.a)) (some (.int t.b)) (some (.int t.rs.length))) s = .ok (tI (seg t.rs ns e)) s := by
    rw [sl_ev, show mVar 1 (ev r o ts ns e w (some (tI t.rs)) (some (.int t.a)) (some (.int t.b)) (some (.int t.rs.length))) s = .ok (tI ns) s from rfl, bind_ok, part_ev, bin_v (x := .int e) (y := .int t.rs.length) rfl rfl sub_ev, bind_ok]
    dsimp only
    rw [bind_ok, part_ev, show mVar 3 (ev r o ts ns e w (some (tI t.rs)) (some (.int t.a)) (some (.int t.b)) (some (.int t.rs.length))) s = .ok (.int e) s from rfl, bind_ok]
    dsimp only
    rw [bind_ok, sl_tup, seg_cut hl (by omega) rfl rfl, of_some]
  have i1 := law_index_ok h.rule (seg_len hl (Nat.le_of_lt he)) s
  have e2 : mAsg (mBin addD (mVar 4) (mBin mulD (mVar 6) (mCall (g__law_index) (mCons (mVar 5) (mCons (mSl slA (mVar 1) (mPart (mBin subD (mVar 3) (mVar 8))) (mPart (mVar 3))) mNil))))) (gN 4) (ev r o ts ns e w (some (tI t.rs)) (some (.int t.a)) (some (.int t.b)) (some (.int t.rs.length))) s = .nx (ev r o ts ns e (w + t.a * ixe t.rs ns e) (some (tI t.rs)) (some (.int t.a)) (some (.int t.b)) (some (.int t.rs.length))) s :=
    (asg_v (bin_v (x := .int w) rfl (bin_v (x := .int t.a) rfl (call_v (cons_v (w := tI t.rs) rfl (cons_v c1 nil_ev)) i1) (mul_ii (cm_l ⟨by omega, by omega⟩))) add_ii)).trans rfl
  have c2 : mSl slA (mVar 1) (mPart (mBin subD (mBin addD (mVar 3) (mK (.int 1))) (mVar 8))) (mPart (mBin addD (mVar 3) (mK (.int 1)))) (ev r o ts ns e (w + t.a * ixe t.rs ns e) (some (tI t.rs)) (some (.int t.a)) (some (.int t.b)) (some (.int t.rs.length))) s = .ok (tI (seg t.rs ns (e + 1))) s := by
    rw [sl_ev, show mVar 1 (ev r o ts ns e (w + t.a * ixe t.rs ns e) (some (tI t.rs)) (some (.int t.a)) (some (.int t.b)) (some (.int t.rs.length))) s = .ok (tI ns) s from rfl, bind_ok, part_ev, bin_v (bin_v (x := .int e) rfl k_ev add_ii) (y := .int t.rs.length) rfl sub_ev, bind_ok]
    dsimp only
    rw [bind_ok, part_ev, bin_v (x := .int e) rfl k_ev add_ii, bind_ok]
    dsimp only
    rw [bind_ok, sl_tup, seg_cut (rs := t.rs) (e := e + 1) (by omega) (by omega) (by omega) (by omega), of_some]
  have i2 := law_index_ok h.rule (seg_len (ns := ns) (e := e + 1) (Nat.le_succ_of_le hl) he) s
  have e3 : mAsg (mBin addD (mVar 4) (mBin mulD (mVar 7) (mCall (g__law_index) (mCons (mVar 5) (mCons (mSl slA (mVar 1) (mPart (mBin subD (mBin addD (mVar 3) (mK (.int 1))) (mVar 8))) (mPart (mBin addD (mVar 3) (mK (.int 1))))) mNil))))) (gN 4) (ev r o ts ns e (w + t.a * ixe t.rs ns e) (some (tI t.rs)) (some (.int t.a)) (some (.int t.b)) (some (.int t.rs.length))) s = .nx (ev r o ts ns e (w + t.a * ixe t.rs ns e + t.b * ixe t.rs ns (e + 1)) (some (tI t.rs)) (some (.int t.a)) (some (.int t.b)) (some (.int t.rs.length))) s :=
    (asg_v (bin_v (x := .int (w + t.a * ixe t.rs ns e)) rfl (bin_v (x := .int t.b) rfl (call_v (cons_v (w := tI t.rs) rfl (cons_v c2 nil_ev)) i2) (mul_ii (cm_l ⟨by omega, by omega⟩))) add_ii)).trans rfl
  unfold b__law_paid_1
  rw [seq_nx e1 (seq_nx e2 e3), Int.add_assoc]
theorem turns_ok {r : Nat} {e : Nat} {w : Int} {a b c d : Option Dv} (h : ∀ t ∈ ts, TermOk t) (hl : ∀ t ∈ ts, t.rs.length ≤ e) (he : e < ns.length) :
    ∃ a' b' c' d', mFor F__law_paid_1 t__law_paid_1 b__law_paid_1 (ev r o ts ns e w a b c d) s = .nx (ev r o ts ns e (w + (ts.map fun t => t.a * ixe t.rs ns e + t.b * ixe t.rs ns (e + 1)).sum) a' b' c' d') s := by
  have hF : F__law_paid_1 (ev r o ts ns e w a b c d) s = .ok { ws := ts.map tm } s := by
    unfold F__law_paid_1 iSeq
    rw [bin_v (x := bi o ts) rfl k_ev ix_tup1, bind_ok]
    rfl
  obtain ⟨ρ', s', f1, rfl, a', b', c', d', rfl⟩ := for_ix (g := t__law_paid_1) (body := b__law_paid_1)
    (fun i ρ s' => s' = s ∧ ∃ a b c d, ρ = ev r o ts ns e (w + ((ts.take i).map fun t => t.a * ixe t.rs ns e + t.b * ixe t.rs ns (e + 1)).sum) a b c d)
    hF ⟨rfl, a, b, c, d, by rw [List.take_zero, List.map_nil, List.sum_nil, Int.add_zero]⟩ fun i x ρ s' hx hJ => by
      obtain ⟨rfl, a, b, c, d, rfl⟩ := hJ
      rw [List.getElem?_map] at hx
      cases hn : ts[i]? with
      | none => rw [hn] at hx; cases hx
      | some t =>
        rw [hn] at hx
        cases hx
        have hm := List.mem_of_getElem? hn
        refine ⟨ev r o ts ns e (w + ((ts.take i).map fun t => t.a * ixe t.rs ns e + t.b * ixe t.rs ns (e + 1)).sum) (some (tI t.rs)) (some (.int t.a)) (some (.int t.b)) d, _, _, rfl, .inl (turn_ok (d := d) (h t hm) (hl t hm) he), rfl, some (tI t.rs), some (.int t.a), some (.int t.b), some (.int t.rs.length), ?_⟩
        rw [List.take_succ, hn, List.map_append, List.sum_append, Int.add_assoc]
        simp
  rw [List.length_map, List.take_of_length_le (Nat.le_refl _)] at f1
  exact ⟨_, _, _, _, f1⟩
theorem law_paid_ok {pre os : Sto} (ho : ClP pre os) {cs : List Int} {l p : Int} (h : Bill o ts) (hn : Row ns) (hw : wd ts ≤ ns.length) : g__law_paid [bi o ts, tI ns] (St pre os cs l p) = .ok (lI (pys o ts ns)) (St pre os cs l p) := by
  have hn2 := hn.most
  have o0 := h.o0
  have o1 := h.o1
  obtain ⟨w1, w6⟩ := wd_rng h.ok
  have e0 : startD 9 [bi o ts, tI ns] = [some (bi o ts), some (tI ns), none, none, none, none, none, none, none] := rfl
  have e1 : mAsg (mLstM mNil) (gN 2) [some (bi o ts), some (tI ns), none, none, none, none, none, none, none] (St pre os cs l p) = .nx [some (bi o ts), some (tI ns), some (.ref (r1 pre os)), none, none, none, none, none, none] (St pre (os ++ [.lst []]) cs l p) := (asg_v (lstM_s (ws := []) nil_ev (by decide))).trans rfl
  have hF : F__law_paid_2 [some (bi o ts), some (tI ns), some (.ref (r1 pre os)), none, none, none, none, none, none] (St pre (os ++ [.lst []]) cs l p) = .ok { ws := rng (wd ts) (ns.length - wd ts) } (St pre (os ++ [.lst []]) cs l p) := by
    have := range2_ok (fa := mCons (mCall (g__law_wide) (mCons (mVar 0) mNil)) (mCons (mBlt lenD (mCons (mVar 1) mNil)) mNil)) (ρ := [some (bi o ts), some (tI ns), some (.ref (r1 pre os)), none, none, none, none, none, none]) (s := St pre (os ++ [.lst []]) cs l p) (s1 := St pre (os ++ [.lst []]) cs l p) (i := wd ts) (j := ns.length)
      (cons_v (call_v (cons_v (w := bi o ts) rfl nil_ev) (law_wide_ok h.ok h.two)) (cons_v (blt_v (cons_v (w := tI ns) rfl nil_ev) (by rw [len_tup, List.length_map])) nil_ev)) (okR_s (by omega) (by omega)) (okR_s (by omega) (by omega))
    rw [show ((ns.length : Int) - (wd ts : Int)).toNat = ns.length - wd ts by omega] at this
    exact this
  obtain ⟨ρ', s', f1, rfl, y3, y4, y5, y6, y7, y8, rfl⟩ := for_ix (g := t__law_paid_2) (body := b__law_paid_2)
    (fun i ρ s' => s' = St pre (os ++ [.lst (((List.range i).map fun j => ps o ts ns (wd ts + j)).map .int)]) cs l p ∧ ∃ y3 y4 y5 y6 y7 y8, ρ = [some (bi o ts), some (tI ns), some (.ref (r1 pre os)), y3, y4, y5, y6, y7, y8])
    hF ⟨rfl, _, _, _, _, _, _, rfl⟩ fun i x ρ s' hx hJ => by
      obtain ⟨rfl, y3, y4, y5, y6, y7, y8, rfl⟩ := hJ
      obtain ⟨hi, rfl⟩ := rng_get hx
      have hv : (ns.map Dv.int)[wd ts + i]? = some (.int (ns.getD (wd ts + i) 0)) := by
        rw [List.getElem?_map, List.getD_eq_getElem?_getD, List.getElem?_eq_getElem (by omega)]
        rfl
      obtain ⟨a', b', c', d', f2⟩ := turns_ok (s := St pre (os ++ [.lst (((List.range i).map fun j => ps o ts ns (wd ts + j)).map .int)]) cs l p) (o := o) (ts := ts) (ns := ns) (e := wd ts + i) (w := o * ns.getD (wd ts + i) 0) (a := y5) (b := y6) (c := y7) (d := y8) h.ok (fun t ht => Nat.le_trans (wd_ge h.ok ht) (Nat.le_add_right _ _)) (by omega)
      have ei : ((wd ts : Int) + (i : Int)) = ((wd ts + i : Nat) : Int) := by omega
      have g1 : mAsg (mBin mulD (mBin ixA (mVar 0) (mK (.int 0))) (mBin ixA (mVar 1) (mVar 3))) (gN 4) [some (bi o ts), some (tI ns), some (.ref (r1 pre os)), some (.int ((wd ts : Int) + (i : Int))), y4, y5, y6, y7, y8] (St pre (os ++ [.lst (((List.range i).map fun j => ps o ts ns (wd ts + j)).map .int)]) cs l p) = .nx (ev (r1 pre os) o ts ns (wd ts + i) (o * ns.getD (wd ts + i) 0) y5 y6 y7 y8) (St pre (os ++ [.lst (((List.range i).map fun j => ps o ts ns (wd ts + j)).map .int)]) cs l p) := by
        rw [ei]
        exact (asg_v (bin_v (bin_v (x := bi o ts) rfl k_ev ix_tup0) (bin_v (x := tI ns) (y := .int ((wd ts + i : Nat) : Int)) rfl rfl (ix_tup hv)) (mul_ii (cm_l ⟨by omega, by omega⟩)))).trans rfl
      refine ⟨[some (bi o ts), some (tI ns), some (.ref (r1 pre os)), some (.int ((wd ts : Int) + (i : Int))), y4, y5, y6, y7, y8], ev (r1 pre os) o ts ns (wd ts + i) (ps o ts ns (wd ts + i)) a' b' c' d', _, rfl, .inl ?_, rfl, _, _, _, _, _, _, rfl⟩
      unfold b__law_paid_2
      refine seq_nx g1 (seq_nx f2 ?_)
      rw [expr_ev, app_v (n := r1 pre os) (us := ((List.range i).map fun j => ps o ts ns (wd ts + j)).map .int) (ws := ((List.range i).map fun j => ps o ts ns (wd ts + j)).map .int) rfl at_end (y := .int (ps o ts ns (wd ts + i))) (s2 := St pre (os ++ [.lst (((List.range i).map fun j => ps o ts ns (wd ts + j)).map .int)]) cs l p) rfl at_end (by rw [List.length_map, List.length_map, List.length_range]; unfold lim; omega), then_ok, set_end, List.range_succ, List.map_append, List.map_append]
      rfl
  rw [rng_len] at f1
  unfold g__law_paid d__law_paid
  rw [den_ev, e0, seq_nx e1 (seq_nx f1 (ret_v (w := .ref (r1 pre os)) rfl))]
  exact fin_ref ho
end MP.PG
set_option Elab.async false
set_option linter.all false
set_option maxRecDepth 100000
set_option maxHeartbeats 400000
namespace MP.PG
open PySem PySem.Spec PyProof.Rows L2 MP
theorem gt_ii {s : Sto} {i j : Int} : gtD s (.int i) (.int j) = some (.bl (decide (j < i))) := rfl
theorem smN {i : Int} (h : i.natAbs ≤ 1000000000000000) : Sm i := Nat.lt_of_le_of_lt h (Nat.lt_of_lt_of_le (by decide : 1000000000000000 < 2 ^ 50) (Nat.pow_le_pow_right (by decide) (by decide)))
theorem dot_abs {M : Nat} : ∀ {rs ls : List Int}, (∀ r ∈ rs, -20 ≤ r ∧ r ≤ 20) → (∀ n ∈ ls, n.natAbs ≤ M) → (dot rs ls).natAbs ≤ rs.length * (20 * M)
  | [], ls, _, _ => by rw [dot_nil]; exact Nat.zero_le _
  | a :: rs, [], _, _ => by rw [dot_nil']; exact Nat.zero_le _
  | a :: rs, b :: ls, h1, h2 => by
    have ih := dot_abs (M := M) (rs := rs) (ls := ls) (fun r hr => h1 r (List.mem_cons_of_mem _ hr)) fun n hn => h2 n (List.mem_cons_of_mem _ hn)
    have ha := h1 a List.mem_cons_self
    have hb := h2 b List.mem_cons_self
    have h3 : (a * b).natAbs ≤ 20 * M := by
      rw [Int.natAbs_mul]
      exact Nat.mul_le_mul (by omega) hb
    rw [dot_cons, List.length_cons, Nat.succ_mul]
    omega
theorem sum_abs {M : Nat} : ∀ {l : List Int}, (∀ n ∈ l, n.natAbs ≤ M) → l.sum.natAbs ≤ l.length * M
  | [], _ => Nat.zero_le _
  | a :: l, h => by
    have ih := sum_abs fun n hn => h n (List.mem_cons_of_mem a hn)
    have ha := h a List.mem_cons_self
    rw [List.sum_cons, List.length_cons, Nat.succ_mul]
    omega
variable {s : Sto} {o : Int} {ts : List Term} {ns : List Int}
theorem ixe_abs {rs : List Int} {e : Nat} (h : Rule rs) (hn : Row ns) : (ixe rs ns e).natAbs ≤ 120000000 := by
  have h6 := h.six
  have := dot_abs (M := 1000000) (rs := rs) (ls := srt (seg rs ns e)) h.ok fun n hm => by
    have hm : n ∈ ns := List.mem_of_mem_drop (List.mem_of_mem_take ((srt_perm (seg rs ns e)).mem_iff.mp hm))
    have := hn.ok n hm
    omega
  have h7 : rs.length * (20 * 1000000) ≤ 6 * (20 * 1000000) := Nat.mul_le_mul_right _ h6
  exact Nat.le_trans this h7
theorem ps_abs {e : Nat} (h : Bill o ts) (hn : Row ns) : (ps o ts ns e).natAbs ≤ 30000000000 := by
  have h2 := h.two
  have o0 := h.o0
  have o1 := h.o1
  have k1 : (o * ns.getD e 0).natAbs ≤ 50 * 1000000 := by
    rw [Int.natAbs_mul]
    refine Nat.mul_le_mul (by omega) ?_
    rw [List.getD_eq_getElem?_getD]
    cases q : ns[e]? with
    | none => decide
    | some v => have := hn.ok v (List.mem_of_getElem? q); show v.natAbs ≤ _; omega
  have k2 : (ts.map fun t => t.a * ixe t.rs ns e + t.b * ixe t.rs ns (e + 1)).sum.natAbs ≤ ts.length * 12000000000 := by
    have := sum_abs (M := 12000000000) (l := ts.map fun t => t.a * ixe t.rs ns e + t.b * ixe t.rs ns (e + 1)) fun n hm => by
      obtain ⟨t, ht, rfl⟩ := List.mem_map.mp hm
      have q := h.ok t ht
      have q1 := q.a0
      have q2 := q.a1
      have q3 := q.b0
      have q4 := q.b1
      have r1 : (t.a * ixe t.rs ns e).natAbs ≤ 50 * 120000000 := by
        rw [Int.natAbs_mul]
        exact Nat.mul_le_mul (by omega) (ixe_abs q.rule hn)
      have r2 : (t.b * ixe t.rs ns (e + 1)).natAbs ≤ 50 * 120000000 := by
        rw [Int.natAbs_mul]
        exact Nat.mul_le_mul (by omega) (ixe_abs q.rule hn)
      omega
    rwa [List.length_map] at this
  have k3 : ts.length * 12000000000 ≤ 2 * 12000000000 := Nat.mul_le_mul_right _ h2
  unfold ps
  omega
theorem pys_abs (h : Bill o ts) (hn : Row ns) : ∀ i ∈ pys o ts ns, i.natAbs ≤ 30000000000 := fun i hi => by
  obtain ⟨k, _, rfl⟩ := List.mem_map.mp hi
  exact ps_abs h hn
theorem pys_len : (pys o ts ns).length = ns.length - wd ts := by rw [List.length_map, List.length_range]
theorem rule_sm (h : Rule ns) : ∀ i ∈ ns, Sm i := fun i hi => by
  have := h.ok i hi
  exact Sm.of (by omega) (by omega)
abbrev td (t : Term) : PyData := .tuple [.tuple (t.rs.map .int), .int t.a, .int t.b]
theorem pl_tm {t : Term} (h : TermOk t) : Pl 10 2 (tm t) (td t) := by
  have h6 := h.rule.six
  have q1 := h.a0
  have q2 := h.a1
  have q3 := h.b0
  have q4 := h.b1
  exact (pl_tup (pls_cons ((pl_tI (rule_sm h.rule)).mono (m := 7) (by omega) (Nat.le_refl _)) (pls_cons ((pl_int (i := t.a) (Sm.of (by omega) (by omega))).mono (Nat.le_refl _) (Nat.zero_le _)) (pls_cons ((pl_int (i := t.b) (Sm.of (by omega) (by omega))).mono (Nat.le_refl _) (Nat.zero_le _)) pls_nil)))).mono (by omega) (Nat.le_refl _)
theorem pls_tms : ∀ {ts : List Term}, (∀ t ∈ ts, TermOk t) → Pls (ts.length * 10) 2 (ts.map tm) (ts.map td)
  | [], _ => pls_nil
  | t :: ts, h => by
    have := pls_cons (pl_tm (h t List.mem_cons_self)) (pls_tms fun i hi => h i (List.mem_cons_of_mem _ hi))
    refine this.mono ?_ (Nat.le_refl _)
    rw [List.length_cons, Nat.succ_mul]
    omega
abbrev bd (o : Int) (ts : List Term) : PyData := .tuple [.int o, .tuple (ts.map td)]
theorem pl_bi (h : Bill o ts) : Pl 25 4 (bi o ts) (bd o ts) := by
  have h2 := h.two
  have q1 := h.o0
  have q2 := h.o1
  exact (pl_tup (pls_cons ((pl_int (i := o) (Sm.of (by omega) (by omega))).mono (Nat.le_refl _) (Nat.zero_le _)) (pls_cons ((pl_tup (pls_tms h.ok)).mono (m := 21) (by omega) (Nat.le_refl _)) pls_nil))).mono (by omega) (Nat.le_refl _)
end MP.PG
set_option Elab.async false
set_option linter.all false
set_option maxRecDepth 100000
set_option maxHeartbeats 400000
namespace MP.PG
open PySem PySem.Spec PyProof.Rows L2 MP
theorem pow_ii {s : Sto} {i j : Int} (h : 0 ≤ j ∧ j ≤ 1000000 ∧ i.natAbs < 2 ^ 64) : powD s (.int i) (.int j) = some (.int (i ^ j.toNat)) := if_pos h
theorem ge_ii {s : Sto} {i j : Int} : geD s (.int i) (.int j) = some (.bl (decide (j ≤ i))) := rfl
/-- what is begun with -/
theorem begun_ok {pre : Sto} {ns : List Int} (hn : ns.length ≤ 63) : ∃ l, g__law_begun [.sq (ns.map .int)] pre = .ok (.ref pre.length) (St pre [] (ns ++ [(ns.length : Int)]) l 0) := by
  have e0 : startD 3 [.sq (ns.map .int)] = [some (.sq (ns.map .int)), none, none] := rfl
  have e1 : mComp cF__law_begun_1 [2] ct__law_begun_1 ci__law_begun_1 ce__law_begun_1 [some (.sq (ns.map .int)), none, none] pre = .ok (lI (ns.filter fun n => decide ((10 : Int) ^ 18 ≤ n))) pre := by
    refine comp_filt (e := .int) (φ := .int) (t := fun n => decide ((10 : Int) ^ 18 ≤ n)) rfl (by unfold lim; omega) fun n _ => ⟨[some (.sq (ns.map .int)), none, some (.int n)], rfl, ?_, fun _ => ?_⟩
    · unfold ci__law_begun_1
      rw [test_ev, bin_ev, var_s, var_s, var_0, bind_ok, bin_ev, k_ev, bind_ok, k_ev, bind_ok, pow_ii ⟨by decide, by decide, by decide⟩, of_some, bind_ok, ge_ii]
      rfl
    · rfl
  obtain ⟨gs, hg⟩ : ∃ gs, gs = ns.filter fun n => decide ((10 : Int) ^ 18 ≤ n) := ⟨_, rfl⟩
  rw [← hg] at e1
  have eL : mBin addD (mBlt listD (mCons (mVar 0) mNil)) (mLst (mCons (mBlt lenD (mCons (mVar 0) mNil)) mNil)) [some (.sq (ns.map .int)), some (lI gs), none] pre = .ok (lI (ns ++ [(ns.length : Int)])) pre := by
    rw [bin_ev, blt_ev, cons_ev, var_0, bind_ok, nil_ev, bind_ok, bind_ok]
    show (R.of (some (Dv.lst (ns.map .int))) pre).bind _ = _
    rw [of_some, bind_ok, lst_ev, cons_ev, blt_ev, cons_ev, var_0, bind_ok, nil_ev, bind_ok, bind_ok, len_sq, of_some, bind_ok, nil_ev, bind_ok, bind_ok, if_pos (by show 1 ≤ lim; unfold lim; decide), bind_ok]
    show R.of (if (ns.map Dv.int).length + 1 ≤ lim then some (Dv.lst (ns.map .int ++ [.int (ns.map Dv.int).length])) else none) pre = _
    rw [if_pos (by rw [List.length_map]; unfold lim; omega), List.length_map, of_some, lI, List.map_append]
    rfl
  have eG : ∃ l, mIf (mTest (mBin neD (mVar 1) (mLst mNil))) (mBin ixA (mVar 1) (mK (.int 0))) (mK (.int 0)) [some (.sq (ns.map .int)), some (lI gs), none] pre = .ok (.int l) pre := by
    have et : mTest (mBin neD (mVar 1) (mLst mNil)) [some (.sq (ns.map .int)), some (lI gs), none] pre = .ok (!decide (gs = [])) pre := by
      rw [test_ev, bin_ev, var_s, var_0, bind_ok, lst_ev, nil_ev, bind_ok, if_pos (by show 0 ≤ lim; unfold lim; decide), bind_ok]
      show (R.of (neD pre (lI gs) (lI [])) pre).bind testK = _
      rw [ne_lI]
      rfl
    rw [if_ev, et, bind_ok]
    cases gs with
    | nil => exact ⟨0, rfl⟩
    | cons a r =>
      refine ⟨a, ?_⟩
      rw [if_pos (by simp), bin_ev, var_s, var_0, bind_ok, k_ev, bind_ok]
      show R.of (ixA pre (.lst (.int a :: r.map .int)) (.int ((0 : Nat) : Int))) pre = _
      rw [ix_lst (w := .int a) rfl, of_some]
  obtain ⟨l, eG⟩ := eG
  refine ⟨l, ?_⟩
  have eD : mDctM [((mK (.str "cells")), (mBin addD (mBlt listD (mCons (mVar 0) mNil)) (mLst (mCons (mBlt lenD (mCons (mVar 0) mNil)) mNil)))), ((mK (.str "left")), (mIf (mTest (mBin neD (mVar 1) (mLst mNil))) (mBin ixA (mVar 1) (mK (.int 0))) (mK (.int 0)))), ((mK (.str "spot")), (mK (.int 0)))] [some (.sq (ns.map .int)), some (lI gs), none] pre = .ok (.ref pre.length) (St pre [] (ns ++ [(ns.length : Int)]) l 0) := by
    have : mPairs [((mK (.str "cells")), (mBin addD (mBlt listD (mCons (mVar 0) mNil)) (mLst (mCons (mBlt lenD (mCons (mVar 0) mNil)) mNil)))), ((mK (.str "left")), (mIf (mTest (mBin neD (mVar 1) (mLst mNil))) (mBin ixA (mVar 1) (mK (.int 0))) (mK (.int 0)))), ((mK (.str "spot")), (mK (.int 0)))] [some (.sq (ns.map .int)), some (lI gs), none] pre = .ok [(.str "cells", lI (ns ++ [(ns.length : Int)])), (.str "left", .int l), (.str "spot", .int 0)] pre := by
      unfold mPairs
      rw [k_ev, bind_ok, eL, bind_ok]
      unfold mPairs
      rw [k_ev, bind_ok, eG, bind_ok]
      unfold mPairs
      rw [k_ev, bind_ok, k_ev, bind_ok]
      rfl
    unfold mDctM
    rw [this]
    rfl
  unfold g__law_begun d__law_begun
  rw [den_ev, e0, seq_ev, asgN_ev, e1, then_ok, seqK_nx]
  show finC pre.length (mRet (mDctM _) [some (.sq (ns.map .int)), some (lI gs), none] pre) = _
  rw [ret_ev, eD, then_ok]
  show finW pre.length (.ref pre.length) (St pre [] (ns ++ [(ns.length : Int)]) l 0) = _
  unfold finW
  have e : fz 4 (St pre [] (ns ++ [(ns.length : Int)]) l 0) pre.length (.ref pre.length) = none := by
    unfold fz
    rw [if_neg (by show ¬ (decide (pre.length < pre.length) = true); simp)]
    dsimp only
    rw [St_at]
  split
  · rfl
  · split
    · rw [e]
    · rfl
end MP.PG
set_option Elab.async false
set_option linter.all false
set_option maxRecDepth 100000
set_option maxHeartbeats 400000
namespace MP.PG
open PySem PySem.Spec MP
open PyProof.Rows hiding St
open L2 hiding St r1
theorem lt_ii {s : Sto} {i j : Int} : ltD s (.int i) (.int j) = some (.bl (decide (i < j))) := rfl
theorem fin_one {s : Sto} {w : Dv} {ob : Ob} (hs : s.all (Ob.clean s.length) = true) (hw : clean s.length w = true) : finC s.length (.rt w (s ++ [ob])) = .ok w s := by
  show finW s.length w (s ++ [ob]) = _
  unfold finW
  have e1 : (s ++ [ob]).take s.length = s := by simp
  rw [if_neg (by rw [List.length_append, List.length_singleton]; omega), e1, if_pos hs]
  have e2 : fz 4 (s ++ [ob]) s.length w = some w := by
    unfold fz
    exact if_pos hw
  rw [e2]
section
variable {F : FI} {g : FG} {body : FS} {ρ ρ1 ρ2 : Env} {s s1 s2 : Sto} {w v : Dv} {ws : List Dv}
theorem for_src (h : F ρ s = .ok { ws := ws } s1) : mFor F g body ρ s = forL none g body ws ρ s1 := by
  unfold mFor
  rw [h]
  rfl
end
theorem pl_bl {b : Bool} : Pl 1 0 (.bl b) (.bool b) := by cases b <;> exact ⟨rfl, by decide +kernel, by decide +kernel, by decide +kernel, by decide +kernel, by decide +kernel⟩
theorem pl_small {i : Int} (h : i.natAbs ≤ 1000000000000000) : Pl 1 0 (.int i) (.int i) := pl_int (smN h)
end MP.PG
set_option Elab.async false
set_option linter.all false
set_option maxRecDepth 100000
set_option maxHeartbeats 400000
namespace MP.PG
open PySem PySem.Spec MP
open PyProof.Rows hiding St
open L2 hiding St r1
/-- the ints f 0 .. f (n - 1) -/
def lf (n : Nat) (f : Nat → Int) : List Int := (List.range n).map f
section
variable {n m k b : Nat} {f g : Nat → Int} {i : Nat}
theorem lf_len : (lf n f).length = n := by unfold lf; rw [List.length_map, List.length_range]
theorem lf_get (h : i < n) : (lf n f)[i]? = some (f i) := by
  unfold lf
  rw [List.getElem?_map, List.getElem?_range h]
  rfl
theorem lf_ext (h : ∀ i, i < n → f i = g i) : lf n f = lf n g := List.map_congr_left fun i hi => h i (List.mem_range.mp hi)
theorem lf_of {l : List Int} (h : l.length = n) (hg : ∀ i, i < n → l[i]? = some (f i)) : l = lf n f := by
  refine List.ext_getElem? fun i => ?_
  by_cases hi : i < n
  · rw [hg i hi, lf_get hi]
  · rw [List.getElem?_eq_none (by omega), List.getElem?_eq_none (by rw [lf_len]; omega)]
theorem lf_zipWith {φ : Int → Int → Int} : List.zipWith φ (lf n f) (lf n g) = lf n fun i => φ (f i) (g i) := by
  refine lf_of (by rw [List.length_zipWith, lf_len, lf_len, Nat.min_self]) fun i hi => ?_
  rw [List.getElem?_zipWith, lf_get hi, lf_get hi]
theorem lf_map {φ : Int → Int} : (lf n f).map φ = lf n fun i => φ (f i) := by unfold lf; rw [List.map_map]; rfl
theorem lf_app : lf n f ++ lf m g = lf (n + m) fun i => if i < n then f i else g (i - n) := by
  refine lf_of (by rw [List.length_append, lf_len, lf_len]) fun i hi => ?_
  by_cases h : i < n
  · rw [List.getElem?_append_left (by rw [lf_len]; exact h), lf_get h, if_pos h]
  · rw [List.getElem?_append_right (by rw [lf_len]; omega), lf_len, lf_get (by omega), if_neg h]
theorem lf_succ : lf (n + 1) f = lf n f ++ [f n] := by unfold lf; rw [List.range_succ, List.map_append]; rfl
theorem lf_rep (hn : 0 < n) : ∀ k : Nat, (List.replicate k (lf n f)).flatten = lf (k * n) fun i => f (i % n)
  | 0 => by rw [Nat.zero_mul]; rfl
  | k + 1 => by
    rw [List.replicate_succ, List.flatten_cons, lf_rep hn k, lf_app, Nat.succ_mul, Nat.add_comm]
    refine lf_ext fun i hi => ?_
    by_cases h : i < n
    · rw [if_pos h, Nat.mod_eq_of_lt h]
    · rw [if_neg h, Nat.mod_eq_sub_mod (a := i) (by omega)]
theorem lf_step {s : Nat} (hs : s < b) : stepL (lf (b * n) f) s b = lf n fun i => f (s + i * b) := by
  unfold stepL
  have hl : ((lf (b * n) f).length - s + (b - 1)) / b = n := by
    rw [lf_len]
    cases n with
    | zero => rw [Nat.mul_zero, Nat.zero_sub, Nat.zero_add]; exact Nat.div_eq_of_lt (by omega)
    | succ n =>
      have e : b * (n + 1) - s + (b - 1) = (b - 1 - s) + b * (n + 1) := by
        have : b ≤ b * (n + 1) := Nat.le_mul_of_pos_right _ (Nat.succ_pos _)
        omega
      rw [e, Nat.add_mul_div_left _ _ (by omega), Nat.div_eq_of_lt (by omega), Nat.zero_add]
  rw [hl]
  have hall : ∀ m ∈ List.range n, (lf (b * n) f)[s + m * b]? = some (f (s + m * b)) := fun m hm => by
    have := List.mem_range.mp hm
    refine lf_get ?_
    have h1 : m * b + b ≤ n * b := by
      have := Nat.mul_le_mul_right b (show m + 1 ≤ n by omega)
      rwa [Nat.succ_mul] at this
    rw [Nat.mul_comm b n]
    omega
  have key : ∀ l : List Nat, (∀ m ∈ l, (lf (b * n) f)[s + m * b]? = some (f (s + m * b))) → l.filterMap (fun m => (lf (b * n) f)[s + m * b]?) = l.map fun m => f (s + m * b) := fun l => by
    induction l with
    | nil => intro _; rfl
    | cons a l ih =>
      intro h
      rw [List.filterMap_cons, h a List.mem_cons_self, List.map_cons, ih fun m hm => h m (List.mem_cons_of_mem _ hm)]
  exact key _ hall
theorem stepL_map {α β : Type} (φ : α → β) (xs : List α) (i st : Nat) : stepL (xs.map φ) i st = (stepL xs i st).map φ := by
  unfold stepL
  rw [List.map_filterMap, List.length_map]
  congr 1
  funext m
  rw [List.getElem?_map]
end
section
variable {s : Sto} {ws us : List Dv} {x y : Ob} {v w w' : Dv} {ρ : Env} {f g : FE}
def Cl (s : Sto) : Prop := ∀ n, s.all (Ob.clean n) = true
theorem at_s : (s ++ [x])[s.length]? = some x := by
  rw [List.getElem?_append_right (Nat.le_refl _), Nat.sub_self]
  rfl
theorem set_s : (s ++ [x]).set s.length y = s ++ [y] := by
  rw [List.set_append_right _ _ (Nat.le_refl _), Nat.sub_self]
  rfl
theorem fin_sn {us : Sto} (hs : Cl s) (h0 : us ≠ []) (h : fz 4 (s ++ us) s.length w = some w') : finC s.length (.rt w (s ++ us)) = .ok w' s := by
  show finW s.length w (s ++ us) = _
  have hl : us.length ≠ 0 := fun z => h0 (List.length_eq_zero_iff.mp z)
  unfold finW
  rw [if_neg (by rw [List.length_append]; omega), List.take_left' rfl, if_pos (hs _), h]
theorem fz_ref {us : Sto} {i k : Nat} (h : us[i]? = some (.lst ws)) (hc : mapO (fz k (s ++ us) s.length) ws = some us') : fz (k + 1) (s ++ us) s.length (.ref (s.length + i)) = some (.lst us') := by
  unfold fz
  rw [if_neg (by show ¬ (decide (s.length + i < s.length) = true); simp)]
  have e : (s ++ us)[s.length + i]? = some (.lst ws) := by
    rw [List.getElem?_append_right (by omega), Nat.add_sub_cancel_left, h]
  dsimp only
  rw [e]
  dsimp only
  rw [hc]
  rfl
theorem fz_ref0 {us : Sto} {k : Nat} {us' : List Dv} (h : us[0]? = some (.lst ws)) (hc : mapO (fz k (s ++ us) s.length) ws = some us') : fz (k + 1) (s ++ us) s.length (.ref s.length) = some (.lst us') := fz_ref (i := 0) h hc
theorem fin_I {acc : List Int} (hs : Cl s) : finC s.length (.rt (.ref s.length) (s ++ [.lst (acc.map .int)])) = .ok (lI acc) s := fin_sn hs (by simp) (fz_ref0 rfl (fz_ints acc))
theorem app_s (hl : ws.length < 1000000) (h : f ρ (s ++ [.lst ws]) = .ok (.ref s.length) (s ++ [.lst ws])) (hg : g ρ (s ++ [.lst ws]) = .ok v (s ++ [.lst ws])) : mApp f g ρ (s ++ [.lst ws]) = .ok .non (s ++ [.lst (ws ++ [v])]) := by
  rw [app_v h at_s hg at_s (by unfold lim; omega), set_s]
theorem ixA_list (h : lstOrSq s v = some ws) {i : Int} {w : Dv} (hi : atI ws i = some w) : ixA s v (.int i) = some w := by
  have e : ixL s v (.int i) = some w := by
    show (lstOrSq s v).bind (fun ws => atI ws i) = _
    rw [h]
    exact hi
  show orO (orO ixL ixT) ixD s v (.int i) = _
  unfold orO
  rw [e]
theorem ref_list {k : Nat} (h : s[k]? = some (.lst ws)) : lstOrSq s (.ref k) = some ws := by
  show (match s[k]? with | some (.lst ws) => some ws | _ => none) = _
  rw [h]
theorem atI_nat {i : Nat} (h : ws[i]? = some w) : atI ws (i : Int) = some w := by
  have hl := (List.getElem?_eq_some_iff.mp h).1
  unfold atI ixN
  rw [if_pos (by omega), if_pos (by omega)]
  show ws[(i : Int).toNat]? = _
  rw [Int.toNat_natCast]
  exact h
end
end MP.PG
set_option Elab.async false
set_option linter.all false
set_option maxRecDepth 100000
set_option maxHeartbeats 1000000
namespace MP.PG
open PySem PySem.Spec MP
open PyProof.Rows hiding St
open L2 hiding St r1
section
variable {s : Sto} {ρ : Env}
/-- a comprehension over two lists of ints side by side -/
theorem comp_zip {F : FI} {elt : FE} {i j : Nat} {ns ms : List Int} (φ : Int → Int → Int) (hF : F ρ s = .ok { ws := zipD (ns.map .int) (ms.map .int) } s) (hl : ns.length ≤ 1000000)
    (h : ∀ a b : Int, elt (((wipeD ρ [i, j]).set i (some (.int a))).set j (some (.int b))) s = .ok (.int (φ a b)) s) :
    mComp F [i, j] (gT 2 (gsC (gN i) (gsC (gN j) gs0))) mYes elt ρ s = .ok (lI (List.zipWith φ ns ms)) s := by
  rw [zip_ints] at hF
  have := comp_mapA (vs := [i, j]) (g := gT 2 (gsC (gN i) (gsC (gN j) gs0))) (elt := elt) (e := fun p : Int × Int => .tup [.int p.1, .int p.2]) (fun p => .int (φ p.1 p.2)) hF (by rw [List.length_zip]; unfold lim; omega) fun p _ => ⟨_, rfl, h p.1 p.2⟩
  rw [this]
  unfold lI
  rw [← List.map_uncurry_zip_eq_zipWith, List.map_map]
  rfl
theorem zip_src {f g : FE} {ns ms : List Int} (h : f ρ s = .ok (lI ns) s) (h2 : g ρ s = .ok (lI ms) s) : iZip2 (mCons f (mCons g mNil)) ρ s = .ok { ws := zipD (ns.map .int) (ms.map .int) } s := by
  unfold iZip2
  rw [cons_v h (cons_v h2 nil_ev), bind_ok]
  rfl
theorem mulL {f g : FE} {n k : Nat} {φ : Nat → Int} (hn : 0 < n) (h : f ρ s = .ok (lI (lf n φ)) s) (h2 : g ρ s = .ok (.int (k : Int)) s) (hk : n * k ≤ 1000000) : mBin mulD f g ρ s = .ok (lI (lf (k * n) fun i => φ (i % n))) s := by
  have hk1 : k ≤ 1000000 := Nat.le_trans (Nat.le_mul_of_pos_left _ hn) hk
  refine bin_v h h2 ((mul_lst (by rw [List.length_map, lf_len]; exact hk) hk1).trans ?_)
  rw [← lf_rep hn k, lI, List.map_flatten, List.map_replicate]
/-- the index of bits of which so many are ones -/
def idb (rs : List Int) (k : Nat) : Int := (rs.reverse.take k).sum
theorem idb_succ {rs : List Int} {k : Nat} {w : Int} (h : rs.reverse[k]? = some w) : idb rs (k + 1) = idb rs k + w := by
  unfold idb
  rw [List.take_succ, h, List.sum_append]
  show _ + (w + 0) = _
  omega
theorem told_ok {rs : List Int} (hs : Cl s) (hr : rs.length ≤ 1000) : g_indexes_by_ones [tI rs] s = .ok (lI (lf (rs.length + 1) (idb rs))) s := by
  have e0 : startD 3 [tI rs] = [some (tI rs), none, none] := rfl
  have e1 : mAsg (mLstM (mCons (mK (.int 0)) mNil)) (gN 1) [some (tI rs), none, none] s = .nx [some (tI rs), some (.ref s.length), none] (s ++ [.lst ((lf 1 (idb rs)).map .int)]) := by
    rw [asgN_ev, lstM_ev, cons_v k_ev nil_ev, bind_ok, if_pos (by show 1 ≤ lim; unfold lim; decide), then_ok]
    rfl
  have hF : F_indexes_by_ones_1 [some (tI rs), some (.ref s.length), none] (s ++ [.lst ((lf 1 (idb rs)).map .int)]) = .ok { ws := rs.reverse.map .int } (s ++ [.lst ((lf 1 (idb rs)).map .int)]) := by
    unfold F_indexes_by_ones_1 iSeq
    have : mRev (mVar 0) [some (tI rs), some (.ref s.length), none] (s ++ [.lst ((lf 1 (idb rs)).map .int)]) = .ok (.tup (rs.map .int).reverse) (s ++ [.lst ((lf 1 (idb rs)).map .int)]) := rfl
    rw [this, bind_ok, ← List.map_reverse]
    rfl
  obtain ⟨ρ', s', f1, rfl, z, rfl⟩ := for_ix (g := t_indexes_by_ones_1) (body := b_indexes_by_ones_1)
    (fun i ρ s' => s' = s ++ [.lst ((lf (i + 1) (idb rs)).map .int)] ∧ ∃ z, ρ = [some (tI rs), some (.ref s.length), z]) hF ⟨rfl, _, rfl⟩ fun i x ρ s' hx hJ => by
      obtain ⟨rfl, z, rfl⟩ := hJ
      rw [List.getElem?_map] at hx
      cases hq : rs.reverse[i]? with
      | none => rw [hq] at hx; cases hx
      | some w =>
        rw [hq] at hx
        cases hx
        have hi : i < rs.length := by have := (List.getElem?_eq_some_iff.mp hq).1; rwa [List.length_reverse] at this
        refine ⟨[some (tI rs), some (.ref s.length), some (.int w)], [some (tI rs), some (.ref s.length), some (.int w)], s ++ [.lst ((lf (i + 1 + 1) (idb rs)).map .int)], rfl, .inl ?_, rfl, _, rfl⟩
        unfold b_indexes_by_ones_1
        have hl : mBin ixA (mVar 1) (mUn negD (mK (.int 1))) [some (tI rs), some (.ref s.length), some (.int w)] (s ++ [.lst ((lf (i + 1) (idb rs)).map .int)]) = .ok (.int (idb rs i)) (s ++ [.lst ((lf (i + 1) (idb rs)).map .int)]) := by
          refine bin_v (x := .ref s.length) (y := .int (-1)) rfl (un_v k_ev neg_ev) (ixA_list (ref_list at_s) ?_)
          rw [lf_succ, List.map_append]
          exact atI_last _ _
        rw [expr_v (app_s (v := .int (idb rs (i + 1))) (by rw [List.length_map, lf_len]; omega) rfl (bin_v hl (y := .int w) rfl (by rw [idb_succ hq]; exact add_ii))), lf_succ (n := i + 1), List.map_append]
        rfl
  rw [List.length_map, List.length_reverse] at f1
  unfold g_indexes_by_ones d_indexes_by_ones
  rw [den_ev, e0]
  refine fin_nx e1 (fin_nx f1 ?_)
  rw [ret_v (w := .ref s.length) rfl]
  exact fin_I hs
def pop : Nat → Nat
  | 0 => 0
  | n + 1 => (n + 1) % 2 + pop ((n + 1) / 2)
theorem pop_0 : pop 0 = 0 := by simp [pop]
theorem pop_eq (n : Nat) : pop n = n % 2 + pop (n / 2) := by
  cases n with
  | zero => simp [pop]
  | succ n => rw [pop]
theorem pop_top : ∀ (w : Nat) {n : Nat}, n < 2 ^ w → pop (2 ^ w + n) = pop n + 1
  | 0, n, h => by
    obtain rfl : n = 0 := by simpa using h
    simp [pop]
  | w + 1, n, h => by
    have e : 2 ^ (w + 1) = 2 * 2 ^ w := by rw [Nat.pow_succ, Nat.mul_comm]
    rw [pop_eq (2 ^ (w + 1) + n), pop_eq n, show (2 ^ (w + 1) + n) / 2 = 2 ^ w + n / 2 by omega, pop_top w (n := n / 2) (by omega)]
    omega
theorem pop_le : ∀ (w : Nat) {n : Nat}, n < 2 ^ w → pop n ≤ w
  | 0, n, h => by
    obtain rfl : n = 0 := by simpa using h
    rw [pop_0]
    exact Nat.le_refl _
  | w + 1, n, h => by
    have e : 2 ^ (w + 1) = 2 * 2 ^ w := by rw [Nat.pow_succ, Nat.mul_comm]
    rw [pop_eq n]
    have := pop_le w (n := n / 2) (by omega)
    omega
theorem ones_ok {w : Nat} (hw : w ≤ 12) : g_ones_of [.int (w : Int)] s = .ok (lI (lf (2 ^ w) fun i => pop i)) s := by
  have e0 : startD 4 [.int (w : Int)] = [some (.int w), none, none, none] := rfl
  have e1 : mAsg (mLst (mCons (mK (.int 0)) mNil)) (gN 1) [some (.int (w : Int)), none, none, none] s = .nx [some (.int (w : Int)), some (lI (lf (2 ^ 0) fun i => pop i)), none, none] s := by
    have h1 : lf (2 ^ 0) (fun i => (pop i : Int)) = [0] := by simp [lf, pop]
    rw [h1]
    exact (asg_v (lst_v (cons_v k_ev nil_ev) (by simp))).trans rfl
  have hF : F_ones_of_1 [some (.int (w : Int)), some (lI (lf (2 ^ 0) fun i => pop i)), none, none] s = .ok { ws := rng 0 w } s := by
    have := range1_ok (fa := mCons (mVar 0) mNil) (ρ := [some (.int (w : Int)), some (lI (lf (2 ^ 0) fun i => pop i)), none, none]) (s := s) (cons_v (w := .int (w : Int)) rfl nil_ev) (okR_s (by omega) (by omega))
    rw [Int.toNat_natCast] at this
    exact this
  obtain ⟨ρ', s', f1, rfl, z, z2, rfl⟩ := for_ix (g := t_ones_of_1) (body := b_ones_of_1)
    (fun i ρ s' => s' = s ∧ ∃ z z2, ρ = [some (.int (w : Int)), some (lI (lf (2 ^ i) fun i => pop i)), z, z2]) hF ⟨rfl, _, _, rfl⟩ fun i x ρ s' hx hJ => by
      obtain ⟨rfl, z, z2, rfl⟩ := hJ
      obtain ⟨hi, rfl⟩ := rng_get hx
      have hp : 2 ^ i ≤ 4096 := Nat.le_trans (Nat.pow_le_pow_right (by decide) (by omega : i ≤ 12)) (by decide)
      have hc : mComp cF_ones_of_1 [3] ct_ones_of_1 ci_ones_of_1 ce_ones_of_1 [some (.int (w : Int)), some (lI (lf (2 ^ i) fun i => pop i)), some (.int (0 + (i : Int))), z2] s' = .ok (lI ((lf (2 ^ i) fun i => (pop i : Int)).map (· + 1))) s' := by
        have := comp_mapA (vs := [3]) (g := ct_ones_of_1) (elt := ce_ones_of_1) (f := cF_ones_of_1) (ρ := [some (.int (w : Int)), some (lI (lf (2 ^ i) fun i => pop i)), some (.int (0 + (i : Int))), z2]) (s := s') (l := lf (2 ^ i) fun i => pop i) (e := .int) (fun a => .int (a + 1)) rfl (by rw [lf_len]; unfold lim; omega) fun a _ => ⟨_, rfl, bin_v (x := .int a) rfl k_ev add_ii⟩
        refine this.trans ?_
        unfold lI
        rw [List.map_map]
        rfl
      refine ⟨[some (.int (w : Int)), some (lI (lf (2 ^ i) fun i => pop i)), some (.int (0 + (i : Int))), z2], [some (.int (w : Int)), some (lI (lf (2 ^ (i + 1)) fun i => pop i)), some (.int (0 + (i : Int))), z2], s', rfl, .inl ?_, rfl, _, _, rfl⟩
      unfold b_ones_of_1
      refine (asg_v (bin_v (x := lI (lf (2 ^ i) fun i => pop i)) rfl hc (add_lst (by rw [List.length_map, List.length_map, List.length_map, lf_len]; omega)))).trans ?_
      rw [← List.map_append, lf_map, lf_app]
      have : lf (2 ^ i + 2 ^ i) (fun j => if j < 2 ^ i then (pop j : Int) else (pop (j - 2 ^ i) : Int) + 1) = lf (2 ^ (i + 1)) fun j => (pop j : Int) := by
        rw [Nat.pow_succ, Nat.mul_two]
        refine lf_ext fun j hj => ?_
        by_cases h : j < 2 ^ i
        · rw [if_pos h]
        · rw [if_neg h]
          have := pop_top i (n := j - 2 ^ i) (by omega)
          rw [show 2 ^ i + (j - 2 ^ i) = j by omega] at this
          rw [this]
          rfl
      rw [this]
      rfl
  rw [rng_len] at f1
  unfold g_ones_of d_ones_of
  rw [den_ev, e0]
  refine fin_nx e1 (fin_nx f1 ?_)
  rw [ret_v (w := lI (lf (2 ^ w) fun i => pop i)) rfl]
  exact finC_rt
end
end MP.PG
set_option Elab.async false
set_option linter.all false
set_option maxRecDepth 100000
set_option maxHeartbeats 1000000
namespace MP.PG
open PySem PySem.Spec MP
open PyProof.Rows hiding St
open L2 hiding St r1
section
variable {s : Sto} {ρ : Env}
theorem compL_map {vs : List Nat} {g : FG} {elt : FE} (φ : Dv → Dv) : ∀ {us : List Dv}, (∀ u ∈ us, ∃ ρ1, g u (wipeD ρ vs) s = some ρ1 ∧ elt ρ1 s = .ok (φ u) s) → compL none vs g mYes elt ρ us s = some (us.map φ, s)
  | [], _ => by rw [List.map_nil]; simp [compL]
  | a :: l, h => by
    obtain ⟨ρ1, h1, h2⟩ := h a List.mem_cons_self
    rw [List.map_cons]
    unfold compL
    rw [if_pos (.inl rfl), h1]
    simp only [yes_ev, h2, compL_map φ (us := l) fun u hu => h u (List.mem_cons_of_mem _ hu)]
    rfl
theorem compL2_dup {vs vs1 : List Nat} {g g1 : FG} {F1 : FI} {elt : FE} {us : List Dv} (φ : Dv → Dv → Dv) : ∀ {ws : List Dv}, (∀ w ∈ ws, ∃ ρ1, g w (wipeD ρ vs) s = some ρ1 ∧ F1 ρ1 s = .ok { ws := us } s ∧ ∀ u ∈ us, ∃ ρ2, g1 u (wipeD ρ1 vs1) s = some ρ2 ∧ elt ρ2 s = .ok (φ w u) s) →
    compL2 none vs g mYes F1 vs1 g1 mYes elt ρ ws s = some (ws.flatMap fun w => us.map (φ w), s)
  | [], _ => by simp [compL2]
  | a :: l, h => by
    obtain ⟨ρ1, h1, h2, h3⟩ := h a List.mem_cons_self
    unfold compL2
    rw [if_pos (.inl rfl), h1]
    simp only [yes_ev, h2, compL_map (φ a) h3, compL2_dup φ (ws := l) fun u hu => h u (List.mem_cons_of_mem _ hu)]
    rfl
theorem comp2_dup {F F1 : FI} {vs vs1 : List Nat} {g g1 : FG} {elt : FE} {ws us : List Dv} (φ : Dv → Dv → Dv) (hF : F ρ s = .ok { ws := ws } s)
    (h : ∀ w ∈ ws, ∃ ρ1, g w (wipeD ρ vs) s = some ρ1 ∧ F1 ρ1 s = .ok { ws := us } s ∧ ∀ u ∈ us, ∃ ρ2, g1 u (wipeD ρ1 vs1) s = some ρ2 ∧ elt ρ2 s = .ok (φ w u) s) (hl : ws.length * us.length ≤ 1000000) :
    mComp2 F vs g mYes F1 vs1 g1 mYes elt ρ s = .ok (.lst (ws.flatMap fun w => us.map (φ w))) s := by
  unfold mComp2
  rw [hF, bind_ok]
  dsimp only
  rw [compL2_dup φ h]
  have e : (ws.flatMap fun w => us.map (φ w)).length = ws.length * us.length := by
    rw [List.length_flatMap]
    clear h hF hl
    induction ws with
    | nil => simp
    | cons a l ih => rw [List.map_cons, List.sum_cons, ih, List.length_map, List.length_cons, Nat.succ_mul, Nat.add_comm]
  dsimp only
  rw [if_pos (by rw [e]; unfold lim; omega)]
theorem lf_dup {n : Nat} {f : Nat → Int} : ((lf n f).map Dv.int).flatMap (fun w => [w, w]) = (lf (2 * n) fun i => f (i / 2)).map .int := by
  induction n with
  | zero => rfl
  | succ n ih =>
    rw [lf_succ, List.map_append, List.flatMap_append, ih, show 2 * (n + 1) = 2 * n + 1 + 1 by omega, lf_succ, lf_succ, List.append_assoc, List.map_append]
    congr 1
    show [Dv.int (f n), .int (f n)] = [.int (f (2 * n / 2)), .int (f ((2 * n + 1) / 2))]
    rw [show 2 * n / 2 = n by omega, show (2 * n + 1) / 2 = n by omega]
theorem pow12 {n : Nat} (h : n ≤ 12) : 2 ^ n ≤ 4096 := Nat.le_trans (Nat.pow_le_pow_right (by decide) h) (by decide)
theorem shl_one {n : Nat} (h : n ≤ 12) : shlD s (.int 1) (.int (n : Int)) = some (.int ((2 ^ n : Nat) : Int)) := by
  show (if 0 ≤ (n : Int) ∧ (n : Int) ≤ 1000000 ∧ (1 : Int).natAbs < 2 ^ 64 then some (Dv.int (1 * 2 ^ (n : Int).toNat)) else none) = _
  rw [if_pos ⟨by omega, by omega, by decide⟩, Int.toNat_natCast, Int.one_mul]
  congr 2
/-- what a term pays for a window -/
def tpF (t : Term) (w : Nat) : Int := t.a * idb t.rs (pop (w / 2 % 2 ^ t.rs.length)) + t.b * idb t.rs (pop (w % 2 ^ t.rs.length))
theorem term_pays_ok {t : Term} {wide : Nat} (hs : Cl s) (h : TermOk t) (hl : t.rs.length ≤ wide) (hw : wide ≤ 6) : g_term_pays [tm t, .int (wide : Int)] s = .ok (lI (lf (2 ^ (wide + 1)) (tpF t))) s := by
  have h6 := h.rule.six
  have h1 := h.rule.one
  have p1 := pow12 (n := t.rs.length) (by omega)
  have p2 : 0 < 2 ^ t.rs.length := Nat.two_pow_pos _
  have hN : 2 ^ (t.rs.length + 1) = 2 * 2 ^ t.rs.length := by rw [Nat.pow_succ, Nat.mul_comm]
  have ha := h.a0
  have ha1 := h.a1
  have hb := h.b0
  have hb1 := h.b1
  have e0 : startD 14 [tm t, .int (wide : Int)] = [some (tm t), some (.int wide), none, none, none, none, none, none, none, none, none, none, none, none] := rfl
  have e1 : mAsg (mVar 0) (gT 3 (gsC (gN 2) (gsC (gN 3) (gsC (gN 4) gs0)))) [some (tm t), some (.int (wide : Int)), none, none, none, none, none, none, none, none, none, none, none, none] s = .nx [some (tm t), some (.int wide), some (tI t.rs), some (.int t.a), some (.int t.b), none, none, none, none, none, none, none, none, none] s := rfl
  have e2 : mAsg (mCall (g_indexes_by_ones) (mCons (mVar 2) mNil)) (gN 5) [some (tm t), some (.int (wide : Int)), some (tI t.rs), some (.int t.a), some (.int t.b), none, none, none, none, none, none, none, none, none] s = .nx [some (tm t), some (.int wide), some (tI t.rs), some (.int t.a), some (.int t.b), some (lI (lf (t.rs.length + 1) (idb t.rs))), none, none, none, none, none, none, none, none] s :=
    (asg_v (call_v (cons_v (w := tI t.rs) rfl nil_ev) (told_ok hs (by omega)))).trans rfl
  have e3 : mAsg (mComp cF_term_pays_1 [9] ct_term_pays_1 ci_term_pays_1 ce_term_pays_1) (gN 6) [some (tm t), some (.int (wide : Int)), some (tI t.rs), some (.int t.a), some (.int t.b), some (lI (lf (t.rs.length + 1) (idb t.rs))), none, none, none, none, none, none, none, none] s = .nx [some (tm t), some (.int wide), some (tI t.rs), some (.int t.a), some (.int t.b), some (lI (lf (t.rs.length + 1) (idb t.rs))), some (lI (lf (2 ^ t.rs.length) fun v => idb t.rs (pop v))), none, none, none, none, none, none, none] s := by
    refine (asg_v (w := lI (lf (2 ^ t.rs.length) fun v => idb t.rs (pop v))) ?_).trans rfl
    have hF : cF_term_pays_1 [some (tm t), some (.int (wide : Int)), some (tI t.rs), some (.int t.a), some (.int t.b), some (lI (lf (t.rs.length + 1) (idb t.rs))), none, none, none, none, none, none, none, none] s = .ok { ws := (List.range (2 ^ t.rs.length)).map fun v => .int (pop v : Int) } s := by
      unfold cF_term_pays_1 iSeq
      rw [call_v (cons_v (blt_v (cons_v (w := tI t.rs) rfl nil_ev) (z := .int (t.rs.length : Int)) (by rw [len_tup, List.length_map])) nil_ev) (ones_ok (by omega)), bind_ok]
      unfold lf lI
      rw [List.map_map]
      rfl
    have := comp_mapA (vs := [9]) (g := ct_term_pays_1) (elt := ce_term_pays_1) (l := List.range (2 ^ t.rs.length)) (e := fun v => .int (pop v : Int)) (fun v => .int (idb t.rs (pop v))) hF (by rw [List.length_range]; unfold lim; omega) fun v hv => ⟨_, rfl, by
      have hp := pop_le t.rs.length (List.mem_range.mp hv)
      have hx : ((lf (t.rs.length + 1) (idb t.rs)).map Dv.int)[pop v]? = some (.int (idb t.rs (pop v))) := by rw [List.getElem?_map, lf_get (by omega)]; rfl
      exact bin_v (x := lI (lf (t.rs.length + 1) (idb t.rs))) (y := .int (pop v : Int)) rfl rfl (ix_lst hx)⟩
    refine this.trans ?_
    unfold lI lf
    rw [List.map_map]
    rfl
  have e4 : mAsg (mComp2 cF_term_pays_2 [10, 11] ct_term_pays_2 ci_term_pays_2 cF1_term_pays_2 [11] ct1_term_pays_2 ci1_term_pays_2 ce_term_pays_2) (gN 7) [some (tm t), some (.int (wide : Int)), some (tI t.rs), some (.int t.a), some (.int t.b), some (lI (lf (t.rs.length + 1) (idb t.rs))), some (lI (lf (2 ^ t.rs.length) fun v => idb t.rs (pop v))), none, none, none, none, none, none, none] s = .nx [some (tm t), some (.int wide), some (tI t.rs), some (.int t.a), some (.int t.b), some (lI (lf (t.rs.length + 1) (idb t.rs))), some (lI (lf (2 ^ t.rs.length) fun v => idb t.rs (pop v))), some (lI (lf (2 ^ (t.rs.length + 1)) fun v => idb t.rs (pop (v / 2)))), none, none, none, none, none, none] s := by
    refine (asg_v (w := lI (lf (2 ^ (t.rs.length + 1)) fun v => idb t.rs (pop (v / 2)))) ?_).trans rfl
    have := comp2_dup (F := cF_term_pays_2) (F1 := cF1_term_pays_2) (vs := [10, 11]) (vs1 := [11]) (g := ct_term_pays_2) (g1 := ct1_term_pays_2) (elt := ce_term_pays_2) (s := s) (ρ := [some (tm t), some (.int (wide : Int)), some (tI t.rs), some (.int t.a), some (.int t.b), some (lI (lf (t.rs.length + 1) (idb t.rs))), some (lI (lf (2 ^ t.rs.length) fun v => idb t.rs (pop v))), none, none, none, none, none, none, none]) (ws := (lf (2 ^ t.rs.length) fun v => idb t.rs (pop v)).map .int) (us := [.int 0, .int 1]) (fun w _ => w) rfl
      (fun w _ => ⟨_, rfl, rfl, fun u _ => ⟨_, rfl, rfl⟩⟩) (by rw [List.length_map, lf_len]; show 2 ^ t.rs.length * 2 ≤ _; omega)
    refine this.trans ?_
    have q : ((lf (2 ^ t.rs.length) fun v => idb t.rs (pop v)).map Dv.int).flatMap (fun w => [Dv.int 0, .int 1].map fun _ => w) = ((lf (2 ^ t.rs.length) fun v => idb t.rs (pop v)).map Dv.int).flatMap fun w => [w, w] := rfl
    rw [q, lf_dup, hN]
  have e5 : mAsg (mComp cF_term_pays_3 [12, 13] ct_term_pays_3 ci_term_pays_3 ce_term_pays_3) (gN 8) [some (tm t), some (.int (wide : Int)), some (tI t.rs), some (.int t.a), some (.int t.b), some (lI (lf (t.rs.length + 1) (idb t.rs))), some (lI (lf (2 ^ t.rs.length) fun v => idb t.rs (pop v))), some (lI (lf (2 ^ (t.rs.length + 1)) fun v => idb t.rs (pop (v / 2)))), none, none, none, none, none, none] s = .nx [some (tm t), some (.int wide), some (tI t.rs), some (.int t.a), some (.int t.b), some (lI (lf (t.rs.length + 1) (idb t.rs))), some (lI (lf (2 ^ t.rs.length) fun v => idb t.rs (pop v))), some (lI (lf (2 ^ (t.rs.length + 1)) fun v => idb t.rs (pop (v / 2)))), some (lI (lf (2 ^ (t.rs.length + 1)) fun v => t.a * idb t.rs (pop (v / 2)) + t.b * idb t.rs (pop (v % 2 ^ t.rs.length)))), none, none, none, none, none] s := by
    refine (asg_v (w := lI (lf (2 ^ (t.rs.length + 1)) fun v => t.a * idb t.rs (pop (v / 2)) + t.b * idb t.rs (pop (v % 2 ^ t.rs.length)))) ?_).trans rfl
    have hm := mulL (ρ := [some (tm t), some (.int (wide : Int)), some (tI t.rs), some (.int t.a), some (.int t.b), some (lI (lf (t.rs.length + 1) (idb t.rs))), some (lI (lf (2 ^ t.rs.length) fun v => idb t.rs (pop v))), some (lI (lf (2 ^ (t.rs.length + 1)) fun v => idb t.rs (pop (v / 2)))), none, none, none, none, none, none]) (s := s) (f := mVar 6) (g := mK (.int 2)) (n := 2 ^ t.rs.length) (k := 2) (φ := fun v => idb t.rs (pop v)) p2 rfl k_ev (by omega)
    have hF := zip_src (f := mVar 7) (ns := lf (2 ^ (t.rs.length + 1)) fun v => idb t.rs (pop (v / 2))) rfl hm
    have := comp_zip (elt := ce_term_pays_3) (i := 12) (j := 13) (fun x y => t.a * x + t.b * y) (F := cF_term_pays_3) hF (by rw [lf_len, hN]; omega) fun x y =>
      bin_v (bin_v (x := .int t.a) (y := .int x) rfl rfl (mul_ii (cm_l ⟨by omega, by omega⟩))) (bin_v (x := .int t.b) (y := .int y) rfl rfl (mul_ii (cm_l ⟨by omega, by omega⟩))) add_ii
    refine this.trans ?_
    rw [hN, lf_zipWith]
  have e6 : mBin mulD (mVar 8) (mBin shlD (mK (.int 1)) (mBin subD (mVar 1) (mBlt lenD (mCons (mVar 2) mNil)))) [some (tm t), some (.int (wide : Int)), some (tI t.rs), some (.int t.a), some (.int t.b), some (lI (lf (t.rs.length + 1) (idb t.rs))), some (lI (lf (2 ^ t.rs.length) fun v => idb t.rs (pop v))), some (lI (lf (2 ^ (t.rs.length + 1)) fun v => idb t.rs (pop (v / 2)))), some (lI (lf (2 ^ (t.rs.length + 1)) fun v => t.a * idb t.rs (pop (v / 2)) + t.b * idb t.rs (pop (v % 2 ^ t.rs.length)))), none, none, none, none, none] s = .ok (lI (lf (2 ^ (wide + 1)) (tpF t))) s := by
    have h7 : 2 ^ (t.rs.length + 1) ≤ 128 := Nat.le_trans (Nat.pow_le_pow_right (by decide) (by omega : t.rs.length + 1 ≤ 7)) (by decide)
    have h8 : 2 ^ (wide - t.rs.length) ≤ 64 := Nat.le_trans (Nat.pow_le_pow_right (by decide) (by omega : wide - t.rs.length ≤ 6)) (by decide)
    have hk : mBin shlD (mK (.int 1)) (mBin subD (mVar 1) (mBlt lenD (mCons (mVar 2) mNil))) [some (tm t), some (.int (wide : Int)), some (tI t.rs), some (.int t.a), some (.int t.b), some (lI (lf (t.rs.length + 1) (idb t.rs))), some (lI (lf (2 ^ t.rs.length) fun v => idb t.rs (pop v))), some (lI (lf (2 ^ (t.rs.length + 1)) fun v => idb t.rs (pop (v / 2)))), some (lI (lf (2 ^ (t.rs.length + 1)) fun v => t.a * idb t.rs (pop (v / 2)) + t.b * idb t.rs (pop (v % 2 ^ t.rs.length)))), none, none, none, none, none] s = .ok (.int ((2 ^ (wide - t.rs.length) : Nat) : Int)) s := by
      have hsub : mBin subD (mVar 1) (mBlt lenD (mCons (mVar 2) mNil)) [some (tm t), some (.int (wide : Int)), some (tI t.rs), some (.int t.a), some (.int t.b), some (lI (lf (t.rs.length + 1) (idb t.rs))), some (lI (lf (2 ^ t.rs.length) fun v => idb t.rs (pop v))), some (lI (lf (2 ^ (t.rs.length + 1)) fun v => idb t.rs (pop (v / 2)))), some (lI (lf (2 ^ (t.rs.length + 1)) fun v => t.a * idb t.rs (pop (v / 2)) + t.b * idb t.rs (pop (v % 2 ^ t.rs.length)))), none, none, none, none, none] s = .ok (.int ((wide - t.rs.length : Nat) : Int)) s := by
        have := bin_v (o := subD) (f := mVar 1) (ρ := [some (tm t), some (.int (wide : Int)), some (tI t.rs), some (.int t.a), some (.int t.b), some (lI (lf (t.rs.length + 1) (idb t.rs))), some (lI (lf (2 ^ t.rs.length) fun v => idb t.rs (pop v))), some (lI (lf (2 ^ (t.rs.length + 1)) fun v => idb t.rs (pop (v / 2)))), some (lI (lf (2 ^ (t.rs.length + 1)) fun v => t.a * idb t.rs (pop (v / 2)) + t.b * idb t.rs (pop (v % 2 ^ t.rs.length)))), none, none, none, none, none]) (s := s) (x := .int (wide : Int)) rfl (blt_v (o := lenD) (cons_v (f := mVar 2) (w := tI t.rs) rfl nil_ev) (z := .int (t.rs.length : Int)) (by rw [len_tup, List.length_map])) sub_ev
        rw [show (wide : Int) - (t.rs.length : Int) = ((wide - t.rs.length : Nat) : Int) by omega] at this
        exact this
      exact bin_v k_ev hsub (shl_one (by omega))
    have := mulL (n := 2 ^ (t.rs.length + 1)) (φ := fun v => t.a * idb t.rs (pop (v / 2)) + t.b * idb t.rs (pop (v % 2 ^ t.rs.length))) (f := mVar 8) (by omega) rfl hk (Nat.le_trans (Nat.mul_le_mul h7 h8) (by decide))
    refine this.trans ?_
    have e : 2 ^ (wide - t.rs.length) * 2 ^ (t.rs.length + 1) = 2 ^ (wide + 1) := by rw [← Nat.pow_add, show wide - t.rs.length + (t.rs.length + 1) = wide + 1 by omega]
    rw [e]
    refine congrArg (fun l => R.ok (lI l) s) (lf_ext fun v hv => ?_)
    unfold tpF
    rw [hN, Nat.mod_mul_right_div_self, Nat.mod_mod_of_dvd v (Nat.dvd_mul_left _ 2)]
  unfold g_term_pays d_term_pays
  rw [den_ev, e0]
  refine fin_nx e1 (fin_nx e2 (fin_nx e3 (fin_nx e4 (fin_nx e5 ?_))))
  rw [ret_v e6]
  exact finC_rt
/-- what a bill pays for a window of bits -/
def bpF (o : Int) (ts : List Term) (w : Nat) : Int := o * ((w % 2 : Nat) : Int) + (ts.map fun t => tpF t w).sum
theorem bit_pays_ok {o : Int} {ts : List Term} (hs : Cl s) (h : Bill o ts) : g_bit_pays [bi o ts] s = .ok (lI (lf (2 ^ (wd ts + 1)) (bpF o ts))) s := by
  have h2 := h.two
  obtain ⟨w1, w6⟩ := wd_rng h.ok
  have p1 : 2 ^ wd ts ≤ 64 := Nat.le_trans (Nat.pow_le_pow_right (by decide) w6) (by decide)
  have hN : 2 ^ (wd ts + 1) = 2 ^ wd ts * 2 := Nat.pow_succ 2 _
  have e0 : startD 8 [bi o ts] = [some (bi o ts), none, none, none, none, none, none, none] := rfl
  have e1 : mAsg (mVar 0) (gT 2 (gsC (gN 1) (gsC (gN 2) gs0))) [some (bi o ts), none, none, none, none, none, none, none] s = .nx [some (bi o ts), some (.int o), some (.tup (ts.map tm)), none, none, none, none, none] s := rfl
  have e2 : mAsg (mCall (g_width_of) (mCons (mVar 0) mNil)) (gN 3) [some (bi o ts), some (.int o), some (.tup (ts.map tm)), none, none, none, none, none] s = .nx [some (bi o ts), some (.int o), some (.tup (ts.map tm)), some (.int (wd ts)), none, none, none, none] s :=
    (asg_v (call_v (cons_v (w := bi o ts) rfl nil_ev) (width_of_ok h.ok h.two))).trans rfl
  have z0 : lf 2 (fun i => o * (i : Int)) = [0, o] := by simp [lf, List.range_succ]
  have e3 : mAsg (mBin mulD (mLst (mCons (mK (.int 0)) (mCons (mVar 1) mNil))) (mBin shlD (mK (.int 1)) (mVar 3))) (gN 4) [some (bi o ts), some (.int o), some (.tup (ts.map tm)), some (.int (wd ts)), none, none, none, none] s = .nx [some (bi o ts), some (.int o), some (.tup (ts.map tm)), some (.int (wd ts)), some (lI (lf (2 ^ (wd ts + 1)) (bpF o []))), none, none, none] s := by
    refine (asg_v (w := lI (lf (2 ^ (wd ts + 1)) (bpF o []))) ?_).trans rfl
    have := mulL (ρ := [some (bi o ts), some (.int o), some (.tup (ts.map tm)), some (.int (wd ts)), none, none, none, none]) (s := s) (n := 2) (k := 2 ^ wd ts) (φ := fun i => o * (i : Int)) (f := mLst (mCons (mK (.int 0)) (mCons (mVar 1) mNil))) (g := mBin shlD (mK (.int 1)) (mVar 3)) (by decide) (by rw [z0]; exact lst_v (cons_v k_ev (cons_v (w := .int o) rfl nil_ev)) (by simp)) (bin_v k_ev (y := .int (wd ts : Int)) rfl (shl_one (by omega))) (by omega)
    refine this.trans ?_
    rw [hN]
    congr 2
    refine lf_ext fun i _ => ?_
    unfold bpF
    show _ = _ + (0 : Int)
    rw [Int.add_zero]
  have hF : F_bit_pays_1 [some (bi o ts), some (.int o), some (.tup (ts.map tm)), some (.int (wd ts)), some (lI (lf (2 ^ (wd ts + 1)) (bpF o []))), none, none, none] s = .ok { ws := ts.map tm } s := rfl
  obtain ⟨ρ', s', f1, rfl, z5, rfl⟩ := for_ix (g := t_bit_pays_1) (body := b_bit_pays_1)
    (fun i ρ s' => s' = s ∧ ∃ z5, ρ = [some (bi o ts), some (.int o), some (.tup (ts.map tm)), some (.int (wd ts)), some (lI (lf (2 ^ (wd ts + 1)) (bpF o (ts.take i)))), z5, none, none]) hF ⟨rfl, _, rfl⟩ fun i x ρ s' hx hJ => by
      obtain ⟨rfl, z5, rfl⟩ := hJ
      rw [List.getElem?_map] at hx
      cases hq : ts[i]? with
      | none => rw [hq] at hx; cases hx
      | some t =>
        rw [hq] at hx
        cases hx
        have hm := List.mem_of_getElem? hq
        refine ⟨[some (bi o ts), some (.int o), some (.tup (ts.map tm)), some (.int (wd ts)), some (lI (lf (2 ^ (wd ts + 1)) (bpF o (ts.take i)))), some (tm t), none, none], [some (bi o ts), some (.int o), some (.tup (ts.map tm)), some (.int (wd ts)), some (lI (lf (2 ^ (wd ts + 1)) (bpF o (ts.take (i + 1))))), some (tm t), none, none], s', rfl, .inl ?_, rfl, _, rfl⟩
        unfold b_bit_pays_1
        refine (asg_v (w := lI (lf (2 ^ (wd ts + 1)) (bpF o (ts.take (i + 1))))) ?_).trans rfl
        have hz := zip_src (ρ := [some (bi o ts), some (.int o), some (.tup (ts.map tm)), some (.int (wd ts)), some (lI (lf (2 ^ (wd ts + 1)) (bpF o (ts.take i)))), some (tm t), none, none]) (s := s') (f := mVar 4) (g := mCall (g_term_pays) (mCons (mVar 5) (mCons (mVar 3) mNil))) (ns := lf (2 ^ (wd ts + 1)) (bpF o (ts.take i))) rfl (call_v (cons_v (w := tm t) rfl (cons_v (w := .int (wd ts : Int)) rfl nil_ev)) (term_pays_ok hs (h.ok t hm) (wd_ge h.ok hm) w6))
        have := comp_zip (elt := ce_bit_pays_1) (i := 6) (j := 7) (fun x y => x + y) (F := cF_bit_pays_1) hz (by rw [lf_len, hN]; omega) fun x y => bin_v (x := .int x) (y := .int y) rfl rfl add_ii
        refine this.trans ?_
        rw [lf_zipWith]
        congr 2
        refine lf_ext fun v _ => ?_
        unfold bpF
        rw [List.take_succ, hq, List.map_append, List.sum_append]
        show _ + _ = _ + (_ + (tpF t v + 0))
        omega
  rw [List.length_map, List.take_of_length_le (Nat.le_refl _)] at f1
  unfold g_bit_pays d_bit_pays
  rw [den_ev, e0]
  refine fin_nx e1 (fin_nx e2 (fin_nx e3 (fin_nx f1 ?_)))
  rw [ret_v (w := lI (lf (2 ^ (wd ts + 1)) (bpF o ts))) rfl]
  exact finC_rt
end
end MP.PG
set_option Elab.async false
set_option linter.all false
set_option maxRecDepth 100000
set_option maxHeartbeats 1000000
namespace MP.PG
open PySem PySem.Spec MP
open PyProof.Rows hiding St
open L2 hiding St r1
section
variable (p : Nat → Int) (N b : Nat) (H : Nat → Int) (n : Nat)
/-- what a walk pays whose first sign is this, the rest being as high as it may -/
def wk (s : Nat) : Int := p (s + n * b) + H ((s + n * b) % N)
/-- the height, or what begins with one of so many signs -/
def rzS : Nat → Int
  | 0 => H n
  | j + 1 => if rzS j > wk p N b H n j then rzS j else wk p N b H n j
def rz : Int := rzS p N b H n b
end
section
variable {p : Nat → Int} {N b : Nat} {H G : Nat → Int} {n s j : Nat}
/-- the heights by at most so many steps -/
def Hh (p : Nat → Int) (N b : Nat) : Nat → Nat → Int
  | 0 => fun _ => 0
  | k + 1 => fun n => rz p N b (Hh p N b k) n
end
end MP.PG
set_option Elab.async false
set_option linter.all false
set_option maxRecDepth 100000
set_option maxHeartbeats 1000000
namespace MP.PG
open PySem PySem.Spec MP
open PyProof.Rows hiding St
open L2 hiding St r1
/-- the first one that holds, of so many -/
def fstS (f : Nat → Bool) : Nat → Nat
  | 0 => 0
  | b + 1 => if f 0 = true then 0 else fstS (fun i => f (i + 1)) b + 1
section
variable (p : Nat → Int) (N b : Nat)
/-- the first sign by which a number has its height in a layer -/
def sgn (l n : Nat) : Nat := fstS (fun s => decide (wk p N b (Hh p N b l) n s = Hh p N b (l + 1) n)) b
/-- where a trail is behind so many steps down from layer K -/
def cur (K st : Nat) : Nat → Nat
  | 0 => st
  | i + 1 => (sgn p N b (K - 1 - i) (cur K st i) + cur K st i * b) % N
def sg (K st i : Nat) : Nat := sgn p N b (K - 1 - i) (cur p N b K st i)
end
section
variable {s : Sto} {p : Nat → Int} {N b : Nat}
theorem ne_ii {i j : Int} : neD s (.int i) (.int j) = some (.bl (!decide (i = j))) := ne_of_eq eq_ii
theorem nx_aug {i : Nat} {f : FE} {ρ : Env} {a c : Int} (h0 : ρ[i]? = some (some (.int a))) (h : f ρ s = .ok (.int c) s) : mAug i addI f ρ s = .nx (ρ.set i (some (.int (a + c)))) s := by
  unfold mAug
  rw [h0]
  dsimp only
  rw [h, then_ok]
  rfl
abbrev te (p : Nat → Int) (N b : Nat) (w : Dv) (st : Nat) (n l : Nat) (s : Sto) (x8 x9 : Option Dv) : Env := [some (lI (lf (b * N) p)), some w, some (.int (st : Int)), some (.int (b : Int)), some (.int (n : Int)), some (.ref s.length), some (.ref (s.length + 1)), some (.int (l : Int)), x8, x9]
end
end MP.PG
set_option Elab.async false
set_option linter.all false
set_option maxRecDepth 100000
set_option maxHeartbeats 1000000
namespace MP.PG
open PySem PySem.Spec MP
open PyProof.Rows hiding St
open L2 hiding St r1
end MP.PG
set_option Elab.async false
set_option linter.all false
set_option maxRecDepth 100000
set_option maxHeartbeats 1000000
namespace MP.PG
open PySem PySem.Spec MP
open PyProof.Rows hiding St
open L2 hiding St r1
section
variable {s : Sto} {p : Nat → Int} {N b : Nat}
theorem allInt_I : ∀ l : List Int, allInt (l.map .int) = true
  | [] => rfl
  | _ :: l => allInt_I l
theorem firstI_mem {i : Int} : ∀ {l : List Int} (j : Nat), i ∈ l → ∃ k, firstI i j (l.map .int) = some (j + k) ∧ l[k]? = some i
  | [], _, h => nomatch h
  | a :: l, j, h => by
    by_cases e : a = i
    · subst e
      exact ⟨0, if_pos rfl, rfl⟩
    · have hm : i ∈ l := by
        rcases List.mem_cons.mp h with rfl | h
        · exact absurd rfl e
        · exact h
      obtain ⟨k, h1, h2⟩ := firstI_mem (j + 1) hm
      refine ⟨k + 1, ?_, h2⟩
      show (if a = i then some j else firstI i (j + 1) (l.map .int)) = _
      rw [if_neg e, h1, show j + 1 + k = j + (k + 1) by omega]
theorem intsOf_I : ∀ l : List Int, intsOf (l.map .int) = some l
  | [] => rfl
  | a :: l => by
    have := intsOf_I l
    unfold intsOf at this ⊢
    simp only [List.map_cons, mapO, this]
    rfl
theorem max_I {l : List Int} (h : l ≠ []) : maxLD s [lI l] = some (.int (maxO 0 l)) := by
  cases l with
  | nil => exact absurd rfl h
  | cons a l =>
    show (match intsOf ((a :: l).map .int) with
      | some (n :: ns) => some (Dv.int (maxO 0 (n :: ns)))
      | _ => none) = _
    rw [intsOf_I]
theorem maxO_mem {l : List Int} (h : l ≠ []) : maxO 0 l ∈ l := by
  cases l with
  | nil => exact absurd rfl h
  | cons a l => exact foldl_max_mem l a
theorem maxO_le {l : List Int} {x : Int} (h : x ∈ l) : x ≤ maxO 0 l := by
  cases l with
  | nil => cases h
  | cons a l =>
    obtain ⟨h1, h2⟩ := foldl_max_le l a
    rcases List.mem_cons.mp h with rfl | h
    · exact h1
    · exact h2 x h
theorem lf_mem {n : Nat} {f : Nat → Int} {x : Int} : x ∈ lf n f ↔ ∃ i, i < n ∧ x = f i := by
  unfold lf
  rw [List.mem_map]
  constructor
  · rintro ⟨i, h, rfl⟩; exact ⟨i, List.mem_range.mp h, rfl⟩
  · rintro ⟨i, h, rfl⟩; exact ⟨i, List.mem_range.mpr h, rfl⟩
theorem atI_last1 {α : Type} {l : List α} {w : α} : atI (l ++ [w]) (-1) = some w := atI_last _ _
end
end MP.PG
set_option Elab.async false
set_option linter.all false
set_option maxRecDepth 100000
set_option maxHeartbeats 1000000
namespace MP.PG
open PySem PySem.Spec MP
open PyProof.Rows hiding St
open L2 hiding St r1
section
variable {s : Sto} {p : Nat → Int} {N b : Nat}
theorem fz_cl {S : Sto} {n k : Nat} : ∀ {ws : List Dv}, cleans n ws = true → mapO (fz (k + 1) S n) ws = some ws
  | [], _ => rfl
  | w :: ws, h => by
    have h' : (clean n w && cleans n ws) = true := h
    rw [Bool.and_eq_true] at h'
    have e : fz (k + 1) S n w = some w := by unfold fz; exact if_pos h'.1
    unfold mapO
    rw [e, fz_cl h'.2]
end
end MP.PG
set_option Elab.async false
set_option linter.all false
set_option maxRecDepth 100000
set_option maxHeartbeats 1000000
namespace MP.PG
open PySem PySem.Spec MP
open PyProof.Rows hiding St
open L2 hiding St r1
section
variable {s : Sto} {p : Nat → Int} {N w : Nat}
theorem xor_nn {i j : Nat} : xorD s (.int (i : Int)) (.int (j : Int)) = some (.int ((i ^^^ j : Nat) : Int)) := by
  show some (Dv.int (Builtin.bitXor (i : Int) (j : Int))) = _
  rw [Bits.bitXor_pp (Int.natCast_nonneg _) (Int.natCast_nonneg _)]
  rfl
theorem enumD_lf {f : Nat → Int} : ∀ (n k : Nat), enumD k ((lf n f).map .int) = (List.range n).map fun i => .tup [.int ((k + i : Nat) : Int), .int (f i)]
  | 0, k => rfl
  | n + 1, k => by
    have e : ∀ (l m : List Dv) (k : Nat), enumD k (l ++ m) = enumD k l ++ enumD (k + l.length) m := fun l => by
      induction l with
      | nil => intro m k; rfl
      | cons a l ih =>
        intro m k
        show _ :: enumD (k + 1) (l ++ m) = _
        rw [ih, List.length_cons, show k + 1 + l.length = k + (l.length + 1) by omega]
        rfl
    rw [lf_succ, List.map_append, e, enumD_lf n k, List.range_succ, List.map_append, List.length_map, lf_len]
    rfl
/-- what a flip brings by itself at a window -/
def mb (p : Nat → Int) (f i : Nat) : Int := 16 * (p (i ^^^ f) - p i) - 1
theorem more_ok {W f : Nat} (hW : W ≤ 1000000) (hx : ∀ i, i < W → i ^^^ f < W) : g_more_by [lI (lf W p), .int (f : Int)] s = .ok (lI (lf W (mb p f))) s := by
  have e0 : startD 4 [lI (lf W p), .int (f : Int)] = [some (lI (lf W p)), some (.int (f : Int)), none, none] := rfl
  have hc : mComp cF_more_by_1 [2, 3] ct_more_by_1 ci_more_by_1 ce_more_by_1 [some (lI (lf W p)), some (.int (f : Int)), none, none] s = .ok (lI (lf W (mb p f))) s := by
    have hF : cF_more_by_1 [some (lI (lf W p)), some (.int (f : Int)), none, none] s = .ok { ws := (List.range W).map fun i => .tup [.int ((0 + i : Nat) : Int), .int (p i)] } s := by
      rw [← enumD_lf]
      rfl
    have := comp_mapA (vs := [2, 3]) (g := ct_more_by_1) (elt := ce_more_by_1) (f := cF_more_by_1) (ρ := [some (lI (lf W p)), some (.int (f : Int)), none, none]) (s := s) (l := List.range W) (e := fun i => .tup [.int ((0 + i : Nat) : Int), .int (p i)]) (fun i => .int (mb p f i)) hF (by rw [List.length_range]; unfold lim; exact Nat.le_trans hW (by decide)) fun i hi => ⟨[some (lI (lf W p)), some (.int (f : Int)), some (.int ((0 + i : Nat) : Int)), some (.int (p i))], rfl, by
      have hi := List.mem_range.mp hi
      rw [Nat.zero_add]
      refine bin_v (x := .int (16 * (p (i ^^^ f) - p i))) (y := .int 1) (bin_v (x := .int 16) (y := .int (p (i ^^^ f) - p i)) rfl (bin_v (x := .int (p (i ^^^ f))) (y := .int (p i)) (bin_v (x := lI (lf W p)) (y := .int ((i ^^^ f : Nat) : Int)) rfl (bin_v (x := .int (i : Int)) (y := .int (f : Int)) rfl rfl xor_nn) (ix_lst ?_)) rfl sub_ev) (mul_ii (cm_l ⟨by omega, by omega⟩))) rfl sub_ev
      rw [List.getElem?_map, lf_get (hx i hi)]
      rfl⟩
    refine this.trans ?_
    unfold lI lf
    rw [List.map_map]
    rfl
  unfold g_more_by d_more_by
  rw [den_ev, e0, ret_v hc]
  exact finC_rt
def mx (a b : Int) : Int := if (if 0 < a then a else 0) < b then b else (if 0 < a then a else 0)
theorem mx_ge (a b : Int) : 0 ≤ mx a b ∧ a ≤ mx a b ∧ b ≤ mx a b := by unfold mx; split <;> split <;> omega
theorem mx_att (a b : Int) : mx a b = 0 ∨ mx a b = a ∨ mx a b = b := by unfold mx; split <;> split <;> omega
/-- the walk that begins with a sign -/
def wl (p : Nat → Int) (N f : Nat) (H : Nat → Int) (i : Nat) : Int := mb p f i + H (i % N)
def hd (p : Nat → Int) (N f : Nat) (H : Nat → Int) (n : Nat) : Int := mx (wl p N f H (2 * n)) (wl p N f H (2 * n + 1))
theorem ahead_ok {f : Nat} {H : Nat → Int} (hN : 0 < N) (hN2 : N ≤ 1000) (hx : ∀ i, i < 2 * N → i ^^^ f < 2 * N) : g_heights_ahead [lI (lf (2 * N) p), .int (f : Int), lI (lf N H)] s = .ok (lI (lf N (hd p N f H))) s := by
  have e0 : startD 8 [lI (lf (2 * N) p), .int (f : Int), lI (lf N H)] = [some (lI (lf (2 * N) p)), some (.int (f : Int)), some (lI (lf N H)), none, none, none, none, none] := rfl
  have e1 : mAsg (mComp cF_heights_ahead_1 [4, 5] ct_heights_ahead_1 ci_heights_ahead_1 ce_heights_ahead_1) (gN 3) [some (lI (lf (2 * N) p)), some (.int (f : Int)), some (lI (lf N H)), none, none, none, none, none] s = .nx [some (lI (lf (2 * N) p)), some (.int (f : Int)), some (lI (lf N H)), some (lI (lf (2 * N) (wl p N f H))), none, none, none, none] s := by
    refine (asg_v (w := lI (lf (2 * N) (wl p N f H))) ?_).trans rfl
    have hmu := mulL (ρ := [some (lI (lf (2 * N) p)), some (.int (f : Int)), some (lI (lf N H)), none, none, none, none, none]) (s := s) (f := mVar 2) (g := mK (.int 2)) (n := N) (k := 2) (φ := H) hN rfl rfl (by omega)
    have hmo : mCall (g_more_by) (mCons (mVar 0) (mCons (mVar 1) mNil)) [some (lI (lf (2 * N) p)), some (.int (f : Int)), some (lI (lf N H)), none, none, none, none, none] s = .ok (lI (lf (2 * N) (mb p f))) s := by
      rw [call_ev, cons_v (w := lI (lf (2 * N) p)) rfl (cons_v (w := .int (f : Int)) rfl nil_ev), bind_ok]
      exact more_ok (by omega) hx
    have := comp_zip (elt := ce_heights_ahead_1) (i := 4) (j := 5) (fun x y => x + y) (F := cF_heights_ahead_1) (zip_src hmo hmu) (by rw [lf_len]; omega) fun x y => bin_v (x := .int x) (y := .int y) rfl rfl add_ii
    refine this.trans ?_
    rw [lf_zipWith]
    rfl
  have hst : ∀ k : Nat, k < 2 → mStep (mVar 3) (mK (.int (k : Int))) (mK (.int 2)) [some (lI (lf (2 * N) p)), some (.int (f : Int)), some (lI (lf N H)), some (lI (lf (2 * N) (wl p N f H))), none, none, none, none] s = .ok (lI (lf N fun n => wl p N f H (k + n * 2))) s := fun k hk => by
    have : mStep (mVar 3) (mK (.int (k : Int))) (mK (.int 2)) [some (lI (lf (2 * N) p)), some (.int (f : Int)), some (lI (lf N H)), some (lI (lf (2 * N) (wl p N f H))), none, none, none, none] s = (if 0 ≤ (k : Int) ∧ 0 < (2 : Int) then .ok (.lst (stepL ((lf (2 * N) (wl p N f H)).map .int) (k : Int).toNat (2 : Int).toNat)) s else .no) := rfl
    rw [this, if_pos ⟨by omega, by omega⟩, Int.toNat_natCast, stepL_map]
    show R.ok (Dv.lst ((stepL (lf (2 * N) (wl p N f H)) k 2).map .int)) s = _
    rw [lf_step hk]
  have hz := zip_src (hst 0 (by omega)) (hst 1 (by omega))
  have hc : mComp cF_heights_ahead_2 [6, 7] ct_heights_ahead_2 ci_heights_ahead_2 ce_heights_ahead_2 [some (lI (lf (2 * N) p)), some (.int (f : Int)), some (lI (lf N H)), some (lI (lf (2 * N) (wl p N f H))), none, none, none, none] s = .ok (lI (lf N (hd p N f H))) s := by
    refine (comp_zip (elt := ce_heights_ahead_2) (i := 6) (j := 7) mx (F := cF_heights_ahead_2) hz (by rw [lf_len]; omega) fun x y => blt_v (cons_v (w := .int 0) rfl (cons_v (w := .int x) rfl (cons_v (w := .int y) rfl nil_ev))) rfl).trans ?_
    rw [lf_zipWith]
    have : lf N (fun n => mx (wl p N f H (0 + n * 2)) (wl p N f H (1 + n * 2))) = lf N (hd p N f H) := lf_ext fun n _ => by
      unfold hd
      rw [show 0 + n * 2 = 2 * n by omega, show 1 + n * 2 = 2 * n + 1 by omega]
    rw [this]
  unfold g_heights_ahead d_heights_ahead
  rw [den_ev, e0]
  refine fin_nx e1 ?_
  rw [ret_v hc]
  exact finC_rt
/-- the heights by so many of the flips at the end -/
def Hb (p : Nat → Int) (N : Nat) (fl : Nat → Nat) (w : Nat) : Nat → Nat → Int
  | 0 => fun _ => 0
  | j + 1 => hd p N (fl (w - 1 - j)) (Hb p N fl w j)
theorem layers_ok {fl : Nat → Nat} (hs : Cl s) (hN : 0 < N) (hN2 : N ≤ 1000) (hw : w ≤ 1000) (hx : ∀ k, k < w → ∀ i, i < 2 * N → i ^^^ fl k < 2 * N) :
    g_layers_of [lI (lf (2 * N) p), lI (lf w fun k => (fl k : Int))] s = .ok (.lst ((List.range (w + 1)).map fun k => lI (lf N (Hb p N fl w (w - k))))) s := by
  let L : Nat → List Dv := fun j => (List.range (j + 1)).map fun k => lI (lf N (Hb p N fl w k))
  have hL : ∀ j, L (j + 1) = L j ++ [lI (lf N (Hb p N fl w (j + 1)))] := fun j => by
    show (List.range (j + 1 + 1)).map _ = _
    rw [List.range_succ, List.map_append]
    rfl
  have hLl : ∀ j, (L j).length = j + 1 := fun j => by show ((List.range (j + 1)).map _).length = _; rw [List.length_map, List.length_range]
  have hLast : ∀ j, ∃ ls, L j = ls ++ [lI (lf N (Hb p N fl w j))] := fun j => by
    cases j with
    | zero => exact ⟨[], rfl⟩
    | succ j => exact ⟨L j, hL j⟩
  have e0 : startD 4 [lI (lf (2 * N) p), lI (lf w fun k => (fl k : Int))] = [some (lI (lf (2 * N) p)), some (lI (lf w fun k => (fl k : Int))), none, none] := rfl
  have e1 : mAsg (mLstM (mCons (mBin mulD (mLst (mCons (mK (.int 0)) mNil)) (mBin divD (mBlt lenD (mCons (mVar 0) mNil)) (mK (.int 2)))) mNil)) (gN 2) [some (lI (lf (2 * N) p)), some (lI (lf w fun k => (fl k : Int))), none, none] s = .nx [some (lI (lf (2 * N) p)), some (lI (lf w fun k => (fl k : Int))), some (.ref s.length), none] (s ++ [.lst (L 0)]) := by
    have hd : mBin divD (mBlt lenD (mCons (mVar 0) mNil)) (mK (.int 2)) [some (lI (lf (2 * N) p)), some (lI (lf w fun k => (fl k : Int))), none, none] s = .ok (.int (N : Int)) s := by
      refine bin_v (x := .int ((2 * N : Nat) : Int)) (y := .int 2) (blt_v (cons_v (w := lI (lf (2 * N) p)) rfl nil_ev) (by rw [len_lst, List.length_map, lf_len])) rfl ?_
      rw [div_ii (by omega) (by omega)]
      congr 2
      omega
    have hm := mulL (ρ := [some (lI (lf (2 * N) p)), some (lI (lf w fun k => (fl k : Int))), none, none]) (s := s) (f := mLst (mCons (mK (.int 0)) mNil)) (n := 1) (k := N) (φ := fun _ => 0) (by omega) (lst_v (cons_v k_ev nil_ev) (by show 1 ≤ 1000000; decide)) hd (by omega)
    rw [asgN_ev, lstM_ev, cons_v hm nil_ev, bind_ok, if_pos (by show 1 ≤ lim; unfold lim; decide), then_ok]
    have : L 0 = [lI (lf (N * 1) fun _ => 0)] := by rw [Nat.mul_one]; rfl
    rw [this]
    rfl
  have hF : F_layers_of_1 [some (lI (lf (2 * N) p)), some (lI (lf w fun k => (fl k : Int))), some (.ref s.length), none] (s ++ [.lst (L 0)]) = .ok { ws := ((lf w fun k => (fl k : Int)).map .int).reverse } (s ++ [.lst (L 0)]) := rfl
  obtain ⟨ρ', s', f1, rfl, z, rfl⟩ := for_ix (g := t_layers_of_1) (body := b_layers_of_1)
    (fun i ρ s' => s' = s ++ [.lst (L i)] ∧ ∃ z, ρ = [some (lI (lf (2 * N) p)), some (lI (lf w fun k => (fl k : Int))), some (.ref s.length), z]) hF ⟨rfl, _, rfl⟩ fun i x ρ s' hx' hJ => by
      obtain ⟨rfl, z, rfl⟩ := hJ
      have hi : i < w := by have := (List.getElem?_eq_some_iff.mp hx').1; rwa [List.length_reverse, List.length_map, lf_len] at this
      rw [List.getElem?_reverse (by rw [List.length_map, lf_len]; exact hi), List.length_map, lf_len, List.getElem?_map, lf_get (by omega)] at hx'
      cases hx'
      refine ⟨[some (lI (lf (2 * N) p)), some (lI (lf w fun k => (fl k : Int))), some (.ref s.length), some (.int (fl (w - 1 - i) : Int))], [some (lI (lf (2 * N) p)), some (lI (lf w fun k => (fl k : Int))), some (.ref s.length), some (.int (fl (w - 1 - i) : Int))], s ++ [.lst (L (i + 1))], rfl, .inl ?_, rfl, _, rfl⟩
      unfold b_layers_of_1
      obtain ⟨ls, hls⟩ := hLast i
      have hlast : mBin ixA (mVar 2) (mUn negD (mK (.int 1))) [some (lI (lf (2 * N) p)), some (lI (lf w fun k => (fl k : Int))), some (.ref s.length), some (.int (fl (w - 1 - i) : Int))] (s ++ [.lst (L i)]) = .ok (lI (lf N (Hb p N fl w i))) (s ++ [.lst (L i)]) := by
        refine bin_v (x := .ref s.length) (y := .int (-1)) rfl (un_v k_ev neg_ev) (ixA_list (ref_list at_s) ?_)
        rw [hls]
        exact atI_last1
      rw [expr_v (app_s (v := lI (lf N (Hb p N fl w (i + 1)))) (by rw [hLl]; omega) rfl (by
        rw [call_ev, cons_v (w := lI (lf (2 * N) p)) rfl (cons_v (w := .int (fl (w - 1 - i) : Int)) rfl (cons_v hlast nil_ev)), bind_ok]
        exact ahead_ok hN hN2 (hx _ (by omega)))), hL]
  rw [List.length_reverse, List.length_map, lf_len] at f1
  unfold g_layers_of d_layers_of
  rw [den_ev, e0]
  refine fin_nx e1 (fin_nx f1 ?_)
  have hrev : (L w).reverse = (List.range (w + 1)).map fun k => lI (lf N (Hb p N fl w (w - k))) := by
    refine List.ext_getElem? fun k => ?_
    by_cases hk : k < w + 1
    · rw [List.getElem?_reverse (by rw [hLl]; exact hk), hLl, List.getElem?_map, List.getElem?_map, List.getElem?_range hk, List.getElem?_range (by omega), show w + 1 - 1 - k = w - k by omega]
      rfl
    · rw [List.getElem?_eq_none (by rw [List.length_reverse, hLl]; omega), List.getElem?_eq_none (by rw [List.length_map, List.length_range]; omega)]
  have hr : mRev (mVar 2) [some (lI (lf (2 * N) p)), some (lI (lf w fun k => (fl k : Int))), some (.ref s.length), z] (s ++ [.lst (L w)]) = .ok (.lst ((List.range (w + 1)).map fun k => lI (lf N (Hb p N fl w (w - k))))) (s ++ [.lst (L w)]) := by
    unfold mRev
    rw [show mVar 2 [some (lI (lf (2 * N) p)), some (lI (lf w fun k => (fl k : Int))), some (.ref s.length), z] (s ++ [.lst (L w)]) = .ok (.ref s.length) (s ++ [.lst (L w)]) from rfl, bind_ok]
    have : revD (s ++ [.lst (L w)]) (.ref s.length) = some (.lst (L w).reverse) := by
      have := ref_list (at_s (s := s) (x := .lst (L w)))
      simp [revD, this]
    rw [this]
    rw [hrev]
    rfl
  rw [ret_v hr]
  refine fin_one (hs _) ?_
  show cleans _ _ = true
  generalize List.range (w + 1) = l
  induction l with
  | nil => rfl
  | cons a l ih =>
    show (cleans s.length ((lf N (Hb p N fl w (w - a))).map .int) && cleans s.length (l.map fun k => lI (lf N (Hb p N fl w (w - k))))) = true
    rw [cleans_int, ih]
    rfl
end
end MP.PG
set_option Elab.async false
set_option linter.all false
set_option maxRecDepth 100000
set_option maxHeartbeats 1000000
namespace MP.PG
open PySem PySem.Spec MP
open PyProof.Rows hiding St
open L2 hiding St r1
section
variable {s : Sto} {p : Nat → Int} {N w : Nat} {fl : Nat → Nat}
def digs (b w n : Nat) : List Nat := ((List.range w).map fun i => n / b ^ i % b).reverse
theorem signs_ok {sg : List Dv} {b n w : Nat} {f : Nat → Dv} (hs : Cl s) (hb : 2 ≤ b) (hb2 : b ≤ 1000) (hw : w ≤ 1000) (hl : sg.length = b) (hf : ∀ d, d < b → sg[d]? = some (f d)) (hc : ∀ d m, clean m (f d) = true) :
    g_signs_of [.int (n : Int), .tup sg, .int (w : Int)] s = .ok (.tup ((digs b w n).map f)) s := by
  let A : Nat → Sto := fun i => s ++ [.lst ((List.range i).map fun j => f (n / b ^ j % b))]
  have e0 : startD 6 [.int (n : Int), .tup sg, .int (w : Int)] = [some (.int (n : Int)), some (.tup sg), some (.int (w : Int)), none, none, none] := rfl
  have e1 : mAsg (mLstM mNil) (gN 3) [some (.int (n : Int)), some (.tup sg), some (.int (w : Int)), none, none, none] s = .nx [some (.int (n : Int)), some (.tup sg), some (.int (w : Int)), some (.ref s.length), none, none] (A 0) := by
    rw [asgN_ev, lstM_ev, nil_ev, bind_ok, if_pos (by show 0 ≤ lim; unfold lim; decide), then_ok]
    rfl
  have hF : F_signs_of_1 [some (.int (n : Int)), some (.tup sg), some (.int (w : Int)), some (.ref s.length), none, none] (A 0) = .ok { ws := rng 0 w } (A 0) := by
    have := range1_ok (fa := mCons (mVar 2) mNil) (ρ := [some (.int (n : Int)), some (.tup sg), some (.int (w : Int)), some (.ref s.length), none, none]) (s := A 0) (cons_v (w := .int (w : Int)) rfl nil_ev) (okR_s (by omega) (by omega))
    rw [Int.toNat_natCast] at this
    exact this
  obtain ⟨ρ', s', f1, rfl, z4, z5, rfl⟩ := for_ix (g := t_signs_of_1) (body := b_signs_of_1)
    (fun i ρ s' => s' = A i ∧ ∃ z4 z5, ρ = [some (.int ((n / b ^ i : Nat) : Int)), some (.tup sg), some (.int (w : Int)), some (.ref s.length), z4, z5]) hF ⟨rfl, _, _, by rw [Nat.pow_zero, Nat.div_one]⟩ fun i x ρ s' hx hJ => by
      obtain ⟨rfl, z4, z5, rfl⟩ := hJ
      obtain ⟨hi, rfl⟩ := rng_get hx
      refine ⟨[some (.int ((n / b ^ i : Nat) : Int)), some (.tup sg), some (.int (w : Int)), some (.ref s.length), some (.int (0 + (i : Int))), z5], [some (.int ((n / b ^ (i + 1) : Nat) : Int)), some (.tup sg), some (.int (w : Int)), some (.ref s.length), some (.int (0 + (i : Int))), some (.int ((n / b ^ i % b : Nat) : Int))], A (i + 1), rfl, .inl ?_, rfl, _, _, rfl⟩
      unfold b_signs_of_1
      have c1 : mAsg (mBlt divmodD (mCons (mVar 0) (mCons (mBlt lenD (mCons (mVar 1) mNil)) mNil))) (gT 2 (gsC (gN 0) (gsC (gN 5) gs0))) [some (.int ((n / b ^ i : Nat) : Int)), some (.tup sg), some (.int (w : Int)), some (.ref s.length), some (.int (0 + (i : Int))), z5] (A i) = .nx [some (.int ((n / b ^ (i + 1) : Nat) : Int)), some (.tup sg), some (.int (w : Int)), some (.ref s.length), some (.int (0 + (i : Int))), some (.int ((n / b ^ i % b : Nat) : Int))] (A i) := by
        refine asg_gv (w := .tup [.int ((n / b ^ (i + 1) : Nat) : Int), .int ((n / b ^ i % b : Nat) : Int)]) (blt_v (cons_v (w := .int ((n / b ^ i : Nat) : Int)) rfl (cons_v (w := .int (b : Int)) (blt_v (cons_v (w := .tup sg) rfl nil_ev) (by rw [len_tup, hl])) nil_ev)) ?_) rfl
        show (if 0 < (b : Int) ∧ (b : Int) < 1073741824 then some (Dv.tup [.int (((n / b ^ i : Nat) : Int) / (b : Int)), .int (((n / b ^ i : Nat) : Int) % (b : Int))]) else none) = _
        rw [if_pos ⟨by omega, by omega⟩, Nat.pow_succ, ← Nat.div_div_eq_div_mul]
        rfl
      refine seq_nx c1 ?_
      have hd : n / b ^ i % b < b := Nat.mod_lt _ (by omega)
      rw [expr_v (app_s (v := f (n / b ^ i % b)) (by rw [List.length_map, List.length_range]; omega) rfl (bin_v (x := .tup sg) (y := .int ((n / b ^ i % b : Nat) : Int)) rfl rfl (ix_tup (hf _ hd))))]
      show C.nx _ _ = C.nx _ (s ++ [.lst ((List.range (i + 1)).map fun j => f (n / b ^ j % b))])
      rw [List.range_succ, List.map_append]
      rfl
  rw [rng_len] at f1
  unfold g_signs_of d_signs_of
  rw [den_ev, e0]
  refine fin_nx e1 (fin_nx f1 ?_)
  have hr : mBlt tupleD (mCons (mRev (mVar 3)) mNil) [some (.int ((n / b ^ w : Nat) : Int)), some (.tup sg), some (.int (w : Int)), some (.ref s.length), z4, z5] (A w) = .ok (.tup ((digs b w n).map f)) (A w) := by
    refine blt_v (cons_v (w := .lst ((digs b w n).map f)) ?_ nil_ev) tuple_lst
    unfold mRev
    rw [show mVar 3 [some (.int ((n / b ^ w : Nat) : Int)), some (.tup sg), some (.int (w : Int)), some (.ref s.length), z4, z5] (A w) = .ok (.ref s.length) (A w) from rfl, bind_ok]
    have h1 : revD (A w) (.ref s.length) = some (.lst ((List.range w).map fun j => f (n / b ^ j % b)).reverse) := by
      have := ref_list (at_s (s := s) (x := .lst ((List.range w).map fun j => f (n / b ^ j % b))))
      simp [revD, A, this]
    rw [h1]
    have h2 : ((List.range w).map fun j => f (n / b ^ j % b)).reverse = (digs b w n).map f := by
      unfold digs
      rw [List.map_reverse, List.map_map]
      rfl
    rw [h2]
    rfl
  rw [ret_v hr]
  refine fin_one (hs _) ?_
  show cleans _ _ = true
  generalize digs b w n = l
  induction l with
  | nil => rfl
  | cons a l ih =>
    show (clean s.length (f a) && cleans s.length (l.map f)) = true
    rw [hc, ih]
    rfl
def nxw (p : Nat → Int) (N : Nat) (fl : Nat → Nat) (w r n : Nat) : Nat := if wl p N (fl (w - 1 - r)) (Hb p N fl w r) (2 * n) < Hb p N fl w (r + 1) n then 2 * n + 1 else 2 * n
def fb (p : Nat → Int) (N : Nat) (fl : Nat → Nat) (w : Nat) : Nat → Nat → List Nat
  | 0, _ => []
  | r + 1, n => if Hb p N fl w (r + 1) n = 0 then [] else (nxw p N fl w r n % 2) :: fb p N fl w r (nxw p N fl w r n % N)
theorem zip3_maps {α : Type} {a b c : α → Dv} {x y : List Dv} : ∀ {l : List α}, zipD3 (l.map a) (l.map b ++ x) (l.map c ++ y) = (l.map fun k => .tup [a k, b k, c k]) ++ zipD3 [] x y
  | [] => rfl
  | k :: l => by
    show _ :: zipD3 (l.map a) (l.map b ++ x) (l.map c ++ y) = _
    rw [zip3_maps]
    rfl
/-- all layers, as a list -/
def LL (p : Nat → Int) (N : Nat) (fl : Nat → Nat) (w : Nat) : List Dv := (List.range (w + 1)).map fun k => lI (lf N (Hb p N fl w (w - k)))
def itm (p : Nat → Int) (N : Nat) (fl : Nat → Nat) (w k : Nat) : Dv := .tup [.int (fl k : Int), lI (lf N (Hb p N fl w (w - k))), lI (lf N (Hb p N fl w (w - (k + 1))))]
theorem items_eq : zipD3 ((lf w fun k => (fl k : Int)).map .int) (LL p N fl w) ((LL p N fl w).drop 1) = (List.range w).map (itm p N fl w) := by
  have h1 : LL p N fl w = (List.range w).map (fun k => lI (lf N (Hb p N fl w (w - k)))) ++ [lI (lf N (Hb p N fl w (w - w)))] := by
    unfold LL
    rw [List.range_succ, List.map_append]
    rfl
  have h2 : (LL p N fl w).drop 1 = (List.range w).map (fun k => lI (lf N (Hb p N fl w (w - (k + 1))))) ++ [] := by
    unfold LL
    rw [List.range_succ_eq_map, List.map_cons, List.map_map, List.append_nil]
    rfl
  rw [h2, h1]
  have h3 : ((lf w fun k => (fl k : Int)).map .int) = (List.range w).map fun k => Dv.int (fl k : Int) := by unfold lf; rw [List.map_map]; rfl
  rw [h3, zip3_maps]
  show _ ++ ([] : List Dv) = _
  rw [List.append_nil]
  rfl
abbrev fe (p : Nat → Int) (N : Nat) (fl : Nat → Nat) (w : Nat) (s : Sto) (n : Nat) (x5 x6 x7 x8 : Option Dv) : Env := [some (lI (lf (2 * N) p)), some (lI (lf w fun k => (fl k : Int))), some (.lst (LL p N fl w)), some (.int (n : Int)), some (.ref s.length), x5, x6, x7, x8]
theorem fb_for (hN : 0 < N) (hN2 : N ≤ 1000) (hw : w ≤ 1000) (hx : ∀ k, k < w → ∀ i, i < 2 * N → i ^^^ fl k < 2 * N) : ∀ (r k n : Nat) (acc : List Nat) (x5 x6 x7 x8 : Option Dv), k + r = w → n < N → acc.length ≤ k →
    ∃ n' y5 y6 y7 y8, forL none t_further_bits_1 b_further_bits_1 ((List.range r).map fun j => itm p N fl w (k + j)) (fe p N fl w s n x5 x6 x7 x8) (s ++ [.lst (acc.map fun b : Nat => .int (b : Int))]) = .nx (fe p N fl w s n' y5 y6 y7 y8) (s ++ [.lst ((acc ++ fb p N fl w r n).map fun b : Nat => .int (b : Int))])
  | 0, k, n, acc, x5, x6, x7, x8, hk, hn, ha => ⟨n, x5, x6, x7, x8, by
    show C.nx _ _ = _
    have : acc ++ fb p N fl w 0 n = acc := List.append_nil _
    rw [this]⟩
  | r + 1, k, n, acc, x5, x6, x7, x8, hk, hn, ha => by
    have hkr : w - (k + 1) = r := by omega
    have hkr1 : w - k = r + 1 := by omega
    have hki : w - 1 - r = k := by omega
    let ρ1 : Option Dv → Env := fun y8 => fe p N fl w s n (some (.int (fl k : Int))) (some (lI (lf N (Hb p N fl w (r + 1))))) (some (lI (lf N (Hb p N fl w r)))) y8
    let S : Sto := s ++ [.lst (acc.map fun b : Nat => .int (b : Int))]
    have e0 : forL none t_further_bits_1 b_further_bits_1 ((List.range (r + 1)).map fun j => itm p N fl w (k + j)) (fe p N fl w s n x5 x6 x7 x8) S = match b_further_bits_1 (ρ1 x8) S with
      | .nx ρ2 s2 => forL none t_further_bits_1 b_further_bits_1 ((List.range r).map fun j => itm p N fl w (k + 1 + j)) ρ2 s2
      | .ct ρ2 s2 => forL none t_further_bits_1 b_further_bits_1 ((List.range r).map fun j => itm p N fl w (k + 1 + j)) ρ2 s2
      | .bk ρ2 s2 => .nx ρ2 s2
      | .rt v s2 => .rt v s2
      | .er x ρ2 s2 => .er x ρ2 s2
      | .no => .no := by
      have h1 : (List.range (r + 1)).map (fun j => itm p N fl w (k + j)) = itm p N fl w k :: (List.range r).map fun j => itm p N fl w (k + 1 + j) := by
        rw [List.range_succ_eq_map, List.map_cons, List.map_map]
        show _ :: _ = _
        congr 1
        refine List.map_congr_left fun j _ => ?_
        show itm p N fl w (k + (j + 1)) = _
        rw [show k + (j + 1) = k + 1 + j by omega]
      have h2 : itm p N fl w k = .tup [.int (fl k : Int), lI (lf N (Hb p N fl w (r + 1))), lI (lf N (Hb p N fl w r))] := by unfold itm; rw [hkr, hkr1]
      rw [h1, h2]
      rfl
    have hH : ∀ y8, mBin ixA (mVar 6) (mVar 3) (ρ1 y8) S = .ok (.int (Hb p N fl w (r + 1) n)) S := fun y8 => by
      refine bin_v (x := lI (lf N (Hb p N fl w (r + 1)))) (y := .int (n : Int)) rfl rfl (ix_lst ?_)
      rw [List.getElem?_map, lf_get hn]
      rfl
    have ht := test_v (bin_v (o := eqD) (g := mK (.int 0)) (hH x8) rfl eq_ii)
    by_cases h0 : Hb p N fl w (r + 1) n = 0
    · rw [decide_eq_true h0] at ht
      have hb : b_further_bits_1 (ρ1 x8) S = .bk (ρ1 x8) S := by
        unfold b_further_bits_1
        rw [seq_ev, ifS_t ht]
        rfl
      refine ⟨n, some (.int (fl k : Int)), some (lI (lf N (Hb p N fl w (r + 1)))), some (lI (lf N (Hb p N fl w r))), x8, ?_⟩
      show forL none t_further_bits_1 b_further_bits_1 _ _ S = _
      rw [e0, hb]
      have : acc ++ fb p N fl w (r + 1) n = acc := by unfold fb; rw [if_pos h0, List.append_nil]
      rw [this]
    · rw [decide_eq_false h0] at ht
      have hwin : ∀ y, y < 2 * N → mBin modD (mVar 8) (mBlt lenD (mCons (mVar 7) mNil)) (ρ1 (some (.int (y : Int)))) S = .ok (.int ((y % N : Nat) : Int)) S := fun y _ => by
        refine bin_v (x := .int (y : Int)) (y := .int (N : Int)) rfl (blt_v (cons_v (w := lI (lf N (Hb p N fl w r))) rfl nil_ev) (by rw [len_lst, List.length_map, lf_len])) ?_
        rw [mod_ii (by omega)]
        rfl
      have c1 : mAsg (mBin mulD (mK (.int 2)) (mVar 3)) (gN 8) (ρ1 x8) S = .nx (ρ1 (some (.int ((2 * n : Nat) : Int)))) S := by
        refine (asg_v (w := .int ((2 * n : Nat) : Int)) (bin_v (x := .int 2) (y := .int (n : Int)) rfl rfl ((mul_ii (cm_l ⟨by omega, by omega⟩)).trans ?_))).trans rfl
        rw [Int.natCast_mul]
        rfl
      have hb2 : mTest (mBin ltD (mBin addD (mBin ixA (mCall (g_more_by) (mCons (mVar 0) (mCons (mVar 5) mNil))) (mVar 8)) (mBin ixA (mVar 7) (mBin modD (mVar 8) (mBlt lenD (mCons (mVar 7) mNil))))) (mBin ixA (mVar 6) (mVar 3))) (ρ1 (some (.int ((2 * n : Nat) : Int)))) S = .ok (decide (wl p N (fl k) (Hb p N fl w r) (2 * n) < Hb p N fl w (r + 1) n)) S := by
        refine test_v (bin_v (x := .int (wl p N (fl k) (Hb p N fl w r) (2 * n))) (bin_v (x := .int (mb p (fl k) (2 * n))) (y := .int (Hb p N fl w r (2 * n % N))) (bin_v (x := lI (lf (2 * N) (mb p (fl k)))) (y := .int ((2 * n : Nat) : Int)) ?_ rfl (ix_lst ?_)) (bin_v (x := lI (lf N (Hb p N fl w r))) rfl (hwin _ (by omega)) (ix_lst ?_)) add_ii) (hH _) lt_ii)
        · rw [call_ev, cons_v (w := lI (lf (2 * N) p)) rfl (cons_v (w := .int (fl k : Int)) rfl nil_ev), bind_ok]
          exact more_ok (by omega) (hx k (by omega))
        · rw [List.getElem?_map, lf_get (by omega)]
          rfl
        · rw [List.getElem?_map, lf_get (Nat.mod_lt _ hN)]
          rfl
      have c2 : mIfS (mTest (mBin ltD (mBin addD (mBin ixA (mCall (g_more_by) (mCons (mVar 0) (mCons (mVar 5) mNil))) (mVar 8)) (mBin ixA (mVar 7) (mBin modD (mVar 8) (mBlt lenD (mCons (mVar 7) mNil))))) (mBin ixA (mVar 6) (mVar 3)))) (mAug 8 addI (mK (.int 1))) mNext (ρ1 (some (.int ((2 * n : Nat) : Int)))) S = .nx (ρ1 (some (.int ((nxw p N fl w r n : Nat) : Int)))) S := by
        unfold nxw
        rw [hki]
        by_cases hlt : wl p N (fl k) (Hb p N fl w r) (2 * n) < Hb p N fl w (r + 1) n
        · rw [decide_eq_true hlt] at hb2
          rw [if_pos hlt, ifS_t hb2]
          have := nx_aug (i := 8) (f := mK (.int 1)) (ρ := ρ1 (some (.int ((2 * n : Nat) : Int)))) (s := S) (a := ((2 * n : Nat) : Int)) (c := 1) rfl k_ev
          rw [show ((2 * n : Nat) : Int) + 1 = ((2 * n + 1 : Nat) : Int) by omega] at this
          exact this
        · rw [decide_eq_false hlt] at hb2
          rw [if_neg hlt, ifS_f hb2]
          rfl
      have hnx : nxw p N fl w r n < 2 * N := by unfold nxw; split <;> omega
      have c3 : mAsg (mBin modD (mVar 8) (mBlt lenD (mCons (mVar 7) mNil))) (gN 3) (ρ1 (some (.int ((nxw p N fl w r n : Nat) : Int)))) S = .nx (fe p N fl w s (nxw p N fl w r n % N) (some (.int (fl k : Int))) (some (lI (lf N (Hb p N fl w (r + 1))))) (some (lI (lf N (Hb p N fl w r)))) (some (.int ((nxw p N fl w r n : Nat) : Int)))) S :=
        (asg_v (hwin _ hnx)).trans rfl
      have c4 : mExpr (mApp (mVar 4) (mBin modD (mVar 8) (mK (.int 2)))) (fe p N fl w s (nxw p N fl w r n % N) (some (.int (fl k : Int))) (some (lI (lf N (Hb p N fl w (r + 1))))) (some (lI (lf N (Hb p N fl w r)))) (some (.int ((nxw p N fl w r n : Nat) : Int)))) S = .nx (fe p N fl w s (nxw p N fl w r n % N) (some (.int (fl k : Int))) (some (lI (lf N (Hb p N fl w (r + 1))))) (some (lI (lf N (Hb p N fl w r)))) (some (.int ((nxw p N fl w r n : Nat) : Int)))) (s ++ [.lst ((acc ++ [nxw p N fl w r n % 2]).map fun b : Nat => .int (b : Int))]) := by
        rw [expr_v (app_s (v := .int ((nxw p N fl w r n % 2 : Nat) : Int)) (by rw [List.length_map]; omega) rfl (bin_v (x := .int ((nxw p N fl w r n : Nat) : Int)) (y := .int 2) rfl rfl ((mod_ii (by omega)).trans rfl))), List.map_append]
        rfl
      have hb : b_further_bits_1 (ρ1 x8) S = .nx (fe p N fl w s (nxw p N fl w r n % N) (some (.int (fl k : Int))) (some (lI (lf N (Hb p N fl w (r + 1))))) (some (lI (lf N (Hb p N fl w r)))) (some (.int ((nxw p N fl w r n : Nat) : Int)))) (s ++ [.lst ((acc ++ [nxw p N fl w r n % 2]).map fun b : Nat => .int (b : Int))]) := by
        unfold b_further_bits_1
        exact seq_nx ((ifS_f ht).trans rfl) (seq_nx c1 (seq_nx c2 (seq_nx c3 c4)))
      obtain ⟨n', y5, y6, y7, y8, ih⟩ := fb_for hN hN2 hw hx r (k + 1) (nxw p N fl w r n % N) (acc ++ [nxw p N fl w r n % 2]) (some (.int (fl k : Int))) (some (lI (lf N (Hb p N fl w (r + 1))))) (some (lI (lf N (Hb p N fl w r)))) (some (.int ((nxw p N fl w r n : Nat) : Int))) (by omega) (Nat.mod_lt _ hN) (by rw [List.length_append, List.length_singleton]; omega)
      refine ⟨n', y5, y6, y7, y8, ?_⟩
      show forL none t_further_bits_1 b_further_bits_1 _ _ S = _
      rw [e0, hb]
      dsimp only
      rw [ih]
      have : acc ++ fb p N fl w (r + 1) n = acc ++ [nxw p N fl w r n % 2] ++ fb p N fl w r (nxw p N fl w r n % N) := by
        rw [show fb p N fl w (r + 1) n = (nxw p N fl w r n % 2) :: fb p N fl w r (nxw p N fl w r n % N) by
          show (if Hb p N fl w (r + 1) n = 0 then [] else _) = _
          rw [if_neg h0], List.append_assoc]
        rfl
      rw [this]
end
end MP.PG
set_option Elab.async false
set_option linter.all false
set_option maxRecDepth 100000
set_option maxHeartbeats 1000000
namespace MP.PG
open PySem PySem.Spec MP
open PyProof.Rows hiding St
open L2 hiding St r1
section
variable {s : Sto} {p : Nat → Int} {N w : Nat} {fl : Nat → Nat}
abbrev tN (l : List Nat) : Dv := .tup (l.map fun b : Nat => .int (b : Int))
theorem cleans_nat (n : Nat) : ∀ l : List Nat, cleans n (l.map fun b : Nat => .int (b : Int)) = true
  | [] => rfl
  | _ :: l => by
    show (true && cleans n (l.map fun b : Nat => .int (b : Int))) = true
    rw [cleans_nat n l]
    rfl
theorem further_ok (hs : Cl s) (hN : 0 < N) (hN2 : N ≤ 1000) (hw : w ≤ 1000) (hx : ∀ k, k < w → ∀ i, i < 2 * N → i ^^^ fl k < 2 * N) {n : Nat} (hn : n < N) :
    g_further_bits [lI (lf (2 * N) p), lI (lf w fun k => (fl k : Int)), .lst (LL p N fl w), .int (n : Int)] s = .ok (tN (fb p N fl w w n)) s := by
  have e0 : startD 9 [lI (lf (2 * N) p), lI (lf w fun k => (fl k : Int)), .lst (LL p N fl w), .int (n : Int)] = [some (lI (lf (2 * N) p)), some (lI (lf w fun k => (fl k : Int))), some (.lst (LL p N fl w)), some (.int (n : Int)), none, none, none, none, none] := rfl
  have e1 : mAsg (mLstM mNil) (gN 4) [some (lI (lf (2 * N) p)), some (lI (lf w fun k => (fl k : Int))), some (.lst (LL p N fl w)), some (.int (n : Int)), none, none, none, none, none] s = .nx (fe p N fl w s n none none none none) (s ++ [.lst (([] : List Nat).map fun b : Nat => .int (b : Int))]) := by
    rw [asgN_ev, lstM_ev, nil_ev, bind_ok, if_pos (by show 0 ≤ lim; unfold lim; decide), then_ok]
    rfl
  have hF : F_further_bits_1 (fe p N fl w s n none none none none) (s ++ [.lst (([] : List Nat).map fun b : Nat => .int (b : Int))]) = .ok { ws := (List.range w).map fun j => itm p N fl w (0 + j) } (s ++ [.lst (([] : List Nat).map fun b : Nat => .int (b : Int))]) := by
    unfold F_further_bits_1 iZip3
    rw [cons_v (w := lI (lf w fun k => (fl k : Int))) rfl (cons_v (w := .lst (LL p N fl w)) rfl (cons_v (w := .lst ((LL p N fl w).drop 1)) (sl_v (x := .lst (LL p N fl w)) rfl (part_v (i := 1) rfl) (nopart_ev) (by rw [sl_lst]; exact congrArg (fun l => some (Dv.lst l)) (cut_from (k := 1)))) nil_ev)), bind_ok]
    show R.ok (Src.mk (zipD3 ((lf w fun k => (fl k : Int)).map .int) (LL p N fl w) ((LL p N fl w).drop 1)) none) _ = _
    rw [items_eq]
    have : (List.range w).map (fun j => itm p N fl w (0 + j)) = (List.range w).map (itm p N fl w) := List.map_congr_left fun j _ => by rw [Nat.zero_add]
    rw [this]
  obtain ⟨n', y5, y6, y7, y8, h1⟩ := fb_for (s := s) (p := p) (fl := fl) hN hN2 hw hx w 0 n [] none none none none (by omega) hn (by simp)
  have f1 := (for_src (g := t_further_bits_1) (body := b_further_bits_1) hF).trans h1
  unfold g_further_bits d_further_bits
  rw [den_ev, e0]
  refine fin_nx e1 (fin_nx f1 ?_)
  have hr : mBlt tupleD (mCons (mVar 4) mNil) (fe p N fl w s n' y5 y6 y7 y8) (s ++ [.lst ((([] : List Nat) ++ fb p N fl w w n).map fun b : Nat => .int (b : Int))]) = .ok (tN (fb p N fl w w n)) (s ++ [.lst ((([] : List Nat) ++ fb p N fl w w n).map fun b : Nat => .int (b : Int))]) := by
    refine blt_v (cons_v (w := .ref s.length) rfl nil_ev) ?_
    show (lstOf _ (.ref s.length)).map Dv.tup = _
    have : lstOf (s ++ [.lst ((([] : List Nat) ++ fb p N fl w w n).map fun b : Nat => .int (b : Int))]) (.ref s.length) = some ((fb p N fl w w n).map fun b : Nat => .int (b : Int)) := ref_list at_s
    rw [this]
    rfl
  rw [ret_v hr]
  exact fin_one (hs _) (cleans_nat _ _)
/-- what is paid, by a height -/
def pa (h : Int) : Int := -(-h / 16)
theorem paid_at_ok {h : Int} : g_paid_at [.int h] s = .ok (.int (pa h)) s := by
  have e0 : startD 1 [.int h] = [some (.int h)] := rfl
  unfold g_paid_at d_paid_at
  rw [den_ev, e0, ret_v (w := .int (pa h)) (un_v (bin_v (x := .int (-h)) (y := .int 16) (un_v (x := .int h) rfl neg_ev) rfl (div_ii (by omega) (by omega))) neg_ev)]
  exact finC_rt
/-- the flips from a place on -/
def f2 (k : Nat) : Nat := 2 ^ (k + 1)
/-- the height by a bit more right behind a place -/
def hs1 (p : Nat → Int) (w n : Nat) : Int := mb p 1 (2 * n) + Hb p (2 ^ w) f2 w w (2 * n % 2 ^ w)
theorem f2_lt {k : Nat} (hk : k < w) : ∀ i, i < 2 * 2 ^ w → i ^^^ f2 k < 2 * 2 ^ w := fun i hi => by
  have e : 2 * 2 ^ w = 2 ^ (w + 1) := by rw [Nat.pow_succ, Nat.mul_comm]
  rw [e] at hi ⊢
  exact Nat.xor_lt_two_pow hi (Nat.pow_lt_pow_right (by decide) (by omega))
theorem one_lt' : ∀ i, i < 2 * 2 ^ w → i ^^^ 1 < 2 * 2 ^ w := fun i hi => by
  have e : 2 * 2 ^ w = 2 ^ (w + 1) := by rw [Nat.pow_succ, Nat.mul_comm]
  rw [e] at hi ⊢
  exact Nat.xor_lt_two_pow hi (Nat.one_lt_two_pow (by omega))
theorem small_two {N : Nat} (h : N ≤ 1000) : Builtin.Range.small 0 ((2 * N : Nat) : Int) 2 = true := by
  have hrs : Builtin.Range.rangeSize 0 ((2 * N : Nat) : Int) 2 ≤ 1000 ∧ 0 ≤ Builtin.Range.rangeSize 0 ((2 * N : Nat) : Int) 2 := by
    unfold Builtin.Range.rangeSize
    rw [if_pos (by omega)]
    split <;> omega
  have fit : ∀ i : Int, -1000000 ≤ i → i ≤ 1000000 → Builtin.Range.rangeFitsLong i = true := fun i h1 h2 => by
    unfold Builtin.Range.rangeFitsLong
    rw [Bool.and_eq_true]
    exact ⟨decide_eq_true (Int.le_trans (by decide) h1), decide_eq_true (Int.lt_of_le_of_lt h2 (by decide))⟩
  unfold Builtin.Range.small
  rw [fit 0 (by omega) (by omega), fit _ (by omega) (by omega), fit 2 (by omega) (by omega), fit _ (by omega) (by omega), if_pos (by decide), fit _ (by omega) (by omega), Bool.or_true]
  rfl
/-- the first place of the most -/
def bst (p : Nat → Int) (w : Nat) : Nat := (firstI (maxO 0 (lf (2 ^ w) (hs1 p w))) 0 ((lf (2 ^ w) (hs1 p w)).map .int)).getD 0
theorem single_ok (hs : Cl s) (hw : w ≤ 6) : ∃ n, n = bst p w ∧ n < 2 ^ w ∧ (∀ m, m < 2 ^ w → hs1 p w m ≤ hs1 p w n) ∧
    g_best_single [lI (lf (2 * 2 ^ w) p), .int (w : Int)] s = .ok (.tup [.int (pa (hs1 p w n)), tN (digs 2 w n ++ [0] ++ fb p (2 ^ w) f2 w w (2 * n % 2 ^ w)), tN (digs 2 w n ++ [1] ++ fb p (2 ^ w) f2 w w (2 * n % 2 ^ w))]) s := by
  have hN : 0 < 2 ^ w := Nat.two_pow_pos _
  have hN2 : 2 ^ w ≤ 1000 := Nat.le_trans (Nat.pow_le_pow_right (by decide) hw) (by decide)
  have e0 : startD 13 [lI (lf (2 * 2 ^ w) p), .int (w : Int)] = [some (lI (lf (2 * 2 ^ w) p)), some (.int (w : Int)), none, none, none, none, none, none, none, none, none, none, none] := rfl
  have hne : lf (2 ^ w) (hs1 p w) ≠ [] := fun z => by
    have := congrArg List.length z
    rw [lf_len] at this
    simp at this
  obtain ⟨n, j1, j2⟩ := firstI_mem 0 (maxO_mem hne)
  have hn : n < 2 ^ w := by have := (List.getElem?_eq_some_iff.mp j2).1; rwa [lf_len] at this
  rw [lf_get hn] at j2
  have jm : hs1 p w n = maxO 0 (lf (2 ^ w) (hs1 p w)) := Option.some.inj j2
  refine ⟨n, by unfold bst; rw [j1]; show n = 0 + n; omega, hn, fun m hm => by rw [jm]; exact maxO_le (lf_mem.mpr ⟨m, hm, rfl⟩), ?_⟩
  let P : Dv := lI (lf (2 * 2 ^ w) p)
  let F : Dv := lI (lf w fun k => (f2 k : Int))
  let L : Dv := .lst (LL p (2 ^ w) f2 w)
  let M : Dv := lI (lf (2 * 2 ^ w) (mb p 1))
  let H : Dv := lI (lf (2 ^ w) (hs1 p w))
  let B : Dv := .int (hs1 p w n)
  let D : Dv := tN (digs 2 w n)
  let U : Dv := tN (fb p (2 ^ w) f2 w w (2 * n % 2 ^ w))
  have c1 : mAsg (mComp cF_best_single_1 [11] ct_best_single_1 ci_best_single_1 ce_best_single_1) (gN 2) [some P, some (.int (w : Int)), none, none, none, none, none, none, none, none, none, none, none] s = .nx [some P, some (.int (w : Int)), some F, none, none, none, none, none, none, none, none, none, none] s := by
    refine (asg_v (w := F) ?_).trans rfl
    have hF : cF_best_single_1 [some P, some (.int (w : Int)), none, none, none, none, none, none, none, none, none, none, none] s = .ok { ws := (List.range w).map fun i : Nat => Dv.int (1 + (i : Int)) } s := by
      have := range2_ok (fa := mCons (mK (.int 1)) (mCons (mBin addD (mVar 1) (mK (.int 1))) mNil)) (ρ := [some P, some (.int (w : Int)), none, none, none, none, none, none, none, none, none, none, none]) (s := s) (i := 1) (j := (w : Int) + 1) (cons_v k_ev (cons_v (w := .int ((w : Int) + 1)) (bin_v (x := .int (w : Int)) (y := .int 1) rfl rfl add_ii) nil_ev)) (okR_s (by omega) (by omega)) (okR_s (by omega) (by omega))
      rw [show ((w : Int) + 1 - 1).toNat = w by omega, rng_ev] at this
      exact this
    have := comp_mapA (vs := [11]) (g := ct_best_single_1) (elt := ce_best_single_1) (f := cF_best_single_1) (ρ := [some P, some (.int (w : Int)), none, none, none, none, none, none, none, none, none, none, none]) (s := s) (l := List.range w) (e := fun i : Nat => Dv.int (1 + (i : Int))) (fun i => .int (f2 i : Int)) hF (by rw [List.length_range]; unfold lim; omega) fun i hi => ⟨[some P, some (.int (w : Int)), none, none, none, none, none, none, none, none, none, some (.int (1 + (i : Int))), none], rfl, by
      have hi := List.mem_range.mp hi
      refine bin_v (x := .int 1) (y := .int (1 + (i : Int))) rfl rfl ?_
      show (if 0 ≤ 1 + (i : Int) ∧ 1 + (i : Int) ≤ 1000000 ∧ (1 : Int).natAbs < 2 ^ 64 then some (Dv.int (1 * 2 ^ (1 + (i : Int)).toNat)) else none) = _
      rw [if_pos ⟨by omega, by omega, by decide⟩, Int.one_mul, show (1 + (i : Int)).toNat = i + 1 by omega]
      unfold f2
      rw [Int.natCast_pow]
      rfl⟩
    refine this.trans ?_
    show R.ok (Dv.lst _) s = R.ok (Dv.lst _) s
    unfold lf
    rw [List.map_map]
    rfl
  have c2 : mAsg (mCall (g_layers_of) (mCons (mVar 0) (mCons (mVar 2) mNil))) (gN 3) [some P, some (.int (w : Int)), some F, none, none, none, none, none, none, none, none, none, none] s = .nx [some P, some (.int (w : Int)), some F, some L, none, none, none, none, none, none, none, none, none] s := by
    refine (asg_v (w := L) ?_).trans rfl
    rw [call_ev, cons_v (w := P) rfl (cons_v (w := F) rfl nil_ev), bind_ok]
    exact layers_ok hs hN hN2 (by omega) fun k hk => f2_lt hk
  have hL0 : ∀ ρ : Env, ρ[3]? = some (some L) → mBin ixA (mVar 3) (mK (.int 0)) ρ s = .ok (lI (lf (2 ^ w) (Hb p (2 ^ w) f2 w w))) s := fun ρ hρ => by
    refine bin_v (x := L) (y := .int ((0 : Nat) : Int)) ?_ rfl (ix_lst ?_)
    · unfold mVar; rw [hρ]
    · show (LL p (2 ^ w) f2 w)[0]? = _
      unfold LL
      rw [List.getElem?_map, List.getElem?_range (by omega)]
      rfl
  have c3 : mAsg (mBlt lenD (mCons (mBin ixA (mVar 3) (mK (.int 0))) mNil)) (gN 4) [some P, some (.int (w : Int)), some F, some L, none, none, none, none, none, none, none, none, none] s = .nx [some P, some (.int (w : Int)), some F, some L, some (.int ((2 ^ w : Nat) : Int)), none, none, none, none, none, none, none, none] s :=
    (asg_v (w := .int ((2 ^ w : Nat) : Int)) (blt_v (cons_v (hL0 _ rfl) nil_ev) (by rw [len_lst, List.length_map, lf_len]))).trans rfl
  have c4 : mAsg (mCall (g_more_by) (mCons (mVar 0) (mCons (mK (.int 1)) mNil))) (gN 5) [some P, some (.int (w : Int)), some F, some L, some (.int ((2 ^ w : Nat) : Int)), none, none, none, none, none, none, none, none] s = .nx [some P, some (.int (w : Int)), some F, some L, some (.int ((2 ^ w : Nat) : Int)), some M, none, none, none, none, none, none, none] s := by
    refine (asg_v (w := M) ?_).trans rfl
    rw [call_ev, cons_v (w := P) rfl (cons_v (w := .int ((1 : Nat) : Int)) rfl nil_ev), bind_ok]
    exact more_ok (by omega) one_lt'
  have c5 : mAsg (mComp cF_best_single_2 [12] ct_best_single_2 ci_best_single_2 ce_best_single_2) (gN 6) [some P, some (.int (w : Int)), some F, some L, some (.int ((2 ^ w : Nat) : Int)), some M, none, none, none, none, none, none, none] s = .nx [some P, some (.int (w : Int)), some F, some L, some (.int ((2 ^ w : Nat) : Int)), some M, some H, none, none, none, none, none, none] s := by
    refine (asg_v (w := H) ?_).trans rfl
    have hF : cF_best_single_2 [some P, some (.int (w : Int)), some F, some L, some (.int ((2 ^ w : Nat) : Int)), some M, none, none, none, none, none, none, none] s = .ok { ws := (List.range (2 ^ w)).map fun i : Nat => Dv.int (0 + (i : Int) * 2) } s := by
      unfold cF_best_single_2 iRange3
      rw [cons_v k_ev (cons_v (w := .int ((2 * 2 ^ w : Nat) : Int)) (blt_v (cons_v (w := P) rfl nil_ev) (by rw [len_lst, List.length_map, lf_len])) (cons_v k_ev nil_ev)), bind_ok]
      have hrs : Builtin.Range.rangeSize 0 ((2 * 2 ^ w : Nat) : Int) 2 = ((2 ^ w : Nat) : Int) := by
        unfold Builtin.Range.rangeSize
        rw [if_pos (by omega), if_pos (by omega)]
        omega
      have hsm : Builtin.Range.small 0 ((2 * 2 ^ w : Nat) : Int) 2 = true := small_two hN2
      dsimp only
      rw [if_pos ⟨by decide, by decide, hsm⟩, hrs, Int.toNat_natCast]
      rfl
    have := comp_mapA (vs := [12]) (g := ct_best_single_2) (elt := ce_best_single_2) (f := cF_best_single_2) (ρ := [some P, some (.int (w : Int)), some F, some L, some (.int ((2 ^ w : Nat) : Int)), some M, none, none, none, none, none, none, none]) (s := s) (l := List.range (2 ^ w)) (e := fun i : Nat => Dv.int (0 + (i : Int) * 2)) (fun i => .int (hs1 p w i)) hF (by rw [List.length_range]; unfold lim; omega) fun i hi => ⟨[some P, some (.int (w : Int)), some F, some L, some (.int ((2 ^ w : Nat) : Int)), some M, none, none, none, none, none, none, some (.int (0 + (i : Int) * 2))], rfl, by
      have hi := List.mem_range.mp hi
      rw [show (0 : Int) + (i : Int) * 2 = ((2 * i : Nat) : Int) by omega]
      refine bin_v (x := .int (mb p 1 (2 * i))) (y := .int (Hb p (2 ^ w) f2 w w (2 * i % 2 ^ w))) (bin_v (x := M) (y := .int ((2 * i : Nat) : Int)) rfl rfl (ix_lst ?_)) (bin_v (x := lI (lf (2 ^ w) (Hb p (2 ^ w) f2 w w))) (y := .int ((2 * i % 2 ^ w : Nat) : Int)) (hL0 _ rfl) (bin_v (x := .int ((2 * i : Nat) : Int)) (y := .int ((2 ^ w : Nat) : Int)) rfl rfl ((mod_ii (by omega)).trans rfl)) (ix_lst ?_)) add_ii
      · show ((lf (2 * 2 ^ w) (mb p 1)).map Dv.int)[2 * i]? = _
        rw [List.getElem?_map, lf_get (by omega)]
        rfl
      · rw [List.getElem?_map, lf_get (Nat.mod_lt _ hN)]
        rfl⟩
    refine this.trans ?_
    show R.ok (Dv.lst _) s = R.ok (Dv.lst _) s
    unfold lf
    rw [List.map_map]
    rfl
  have c6 : mAsg (mBlt maxLD (mCons (mVar 6) mNil)) (gN 7) [some P, some (.int (w : Int)), some F, some L, some (.int ((2 ^ w : Nat) : Int)), some M, some H, none, none, none, none, none, none] s = .nx [some P, some (.int (w : Int)), some F, some L, some (.int ((2 ^ w : Nat) : Int)), some M, some H, some B, none, none, none, none, none] s :=
    (asg_v (w := B) (blt_v (cons_v (w := H) rfl nil_ev) (by show maxLD s [lI (lf (2 ^ w) (hs1 p w))] = _; rw [max_I hne, ← jm]))).trans rfl
  have c7 : mAsg (mIndex (mVar 6) (mVar 7)) (gN 8) [some P, some (.int (w : Int)), some F, some L, some (.int ((2 ^ w : Nat) : Int)), some M, some H, some B, none, none, none, none, none] s = .nx [some P, some (.int (w : Int)), some F, some L, some (.int ((2 ^ w : Nat) : Int)), some M, some H, some B, some (.int (n : Int)), none, none, none, none] s := by
    refine (asg_v (w := .int (n : Int)) ?_).trans rfl
    show (if allInt ((lf (2 ^ w) (hs1 p w)).map .int) = true then (match firstI (hs1 p w n) 0 ((lf (2 ^ w) (hs1 p w)).map .int) with | some k => R.ok (Dv.int (k : Nat)) s | none => .no) else .no) = _
    rw [if_pos (allInt_I _), jm, j1, Nat.zero_add]
  have c8 : mAsg (mCall (g_signs_of) (mCons (mVar 8) (mCons (mK (.tup [.int 0, .int 1])) (mCons (mVar 1) mNil)))) (gN 9) [some P, some (.int (w : Int)), some F, some L, some (.int ((2 ^ w : Nat) : Int)), some M, some H, some B, some (.int (n : Int)), none, none, none, none] s = .nx [some P, some (.int (w : Int)), some F, some L, some (.int ((2 ^ w : Nat) : Int)), some M, some H, some B, some (.int (n : Int)), some D, none, none, none] s := by
    refine (asg_v (w := D) ?_).trans rfl
    rw [call_ev, cons_v (w := .int (n : Int)) rfl (cons_v k_ev (cons_v (w := .int (w : Int)) rfl nil_ev)), bind_ok]
    exact signs_ok (b := 2) (f := fun d => .int (d : Int)) hs (by omega) (by omega) (by omega) rfl (fun d hd => by
      match d, hd with
      | 0, _ => rfl
      | 1, _ => rfl) fun d m => rfl
  have c9 : mAsg (mCall (g_further_bits) (mCons (mVar 0) (mCons (mVar 2) (mCons (mVar 3) (mCons (mBin modD (mBin mulD (mK (.int 2)) (mVar 8)) (mVar 4)) mNil))))) (gN 10) [some P, some (.int (w : Int)), some F, some L, some (.int ((2 ^ w : Nat) : Int)), some M, some H, some B, some (.int (n : Int)), some D, none, none, none] s = .nx [some P, some (.int (w : Int)), some F, some L, some (.int ((2 ^ w : Nat) : Int)), some M, some H, some B, some (.int (n : Int)), some D, some U, none, none] s := by
    refine (asg_v (w := U) ?_).trans rfl
    rw [call_ev, cons_v (w := P) rfl (cons_v (w := F) rfl (cons_v (w := L) rfl (cons_v (w := .int ((2 * n % 2 ^ w : Nat) : Int)) (bin_v (x := .int ((2 * n : Nat) : Int)) (y := .int ((2 ^ w : Nat) : Int)) (bin_v (x := .int 2) (y := .int (n : Int)) rfl rfl ((mul_ii (cm_l ⟨by omega, by omega⟩)).trans (by rw [Int.natCast_mul]; rfl))) rfl ((mod_ii (by omega)).trans rfl)) nil_ev))), bind_ok]
    exact further_ok hs hN hN2 (by omega) (fun k hk => f2_lt hk) (Nat.mod_lt _ hN)
  have hlen : ∀ l : List Nat, (l.map fun b : Nat => Dv.int (b : Int)).length = l.length := fun l => List.length_map _
  have hfl : ∀ r m, (fb p (2 ^ w) f2 w r m).length ≤ r := fun r => by
    induction r with
    | zero => intro m; exact Nat.le_refl _
    | succ r ih =>
      intro m
      unfold fb
      split
      · exact Nat.zero_le _
      · rw [List.length_cons]
        have := ih (nxw p (2 ^ w) f2 w r m % 2 ^ w)
        omega
  have hdl : (digs 2 w n).length = w := by unfold digs; rw [List.length_reverse, List.length_map, List.length_range]
  have hcat : ∀ d : Nat, mBin addD (mBin addD (mVar 9) (mTup (mCons (mK (.int (d : Int))) mNil))) (mVar 10) [some P, some (.int (w : Int)), some F, some L, some (.int ((2 ^ w : Nat) : Int)), some M, some H, some B, some (.int (n : Int)), some D, some U, none, none] s = .ok (tN (digs 2 w n ++ [d] ++ fb p (2 ^ w) f2 w w (2 * n % 2 ^ w))) s := fun d => by
    have h1 := hfl w (2 * n % 2 ^ w)
    refine bin_v (x := tN (digs 2 w n ++ [d])) (y := U) (bin_v (x := D) (y := .tup [.int (d : Int)]) rfl (tup_v (cons_v k_ev nil_ev) (by show 1 ≤ 1000000; decide)) ((add_tup (by rw [hlen, hdl]; show w + 1 ≤ 1000000; omega)).trans (by show some (Dv.tup (_ ++ [Dv.int (d : Int)])) = some (Dv.tup _); rw [List.map_append]; rfl))) rfl ((add_tup (by rw [hlen, hlen, List.length_append, hdl]; show w + 1 + _ ≤ 1000000; omega)).trans (by show some (Dv.tup (_ ++ _)) = some (Dv.tup _); rw [← List.map_append]))
  unfold g_best_single d_best_single
  rw [den_ev, e0]
  refine fin_nx c1 (fin_nx c2 (fin_nx c3 (fin_nx c4 (fin_nx c5 (fin_nx c6 (fin_nx c7 (fin_nx c8 (fin_nx c9 ?_))))))))
  refine (congrArg (finC s.length) (ret_v (tup_v (cons_v (w := .int (pa (hs1 p w n))) (by rw [call_ev, cons_v (w := B) rfl nil_ev, bind_ok]; exact paid_at_ok) (cons_v (hcat 0) (cons_v (hcat 1) nil_ev))) (by show 3 ≤ 1000000; decide)))).trans finC_rt
end
end MP.PG
set_option Elab.async false
set_option linter.all false
set_option maxRecDepth 100000
set_option maxHeartbeats 1000000
namespace MP.PG
open PySem PySem.Spec MP
open PyProof.Rows hiding St
open L2 hiding St r1
section
variable {p : Nat → Int} {N w : Nat}
/-- what the windows of further bits pay -/
def wsum (p : Nat → Int) (N : Nat) : List Nat → Nat → Int
  | [], _ => 0
  | b :: bs, n => p (2 * n + b) + wsum p N bs ((2 * n + b) % N)
/-- what they pay more with a flip -/
def fd (p : Nat → Int) (N : Nat) : List Nat → Nat → Nat → Int
  | [], _, _ => 0
  | b :: bs, f, n => (p ((2 * n + b) ^^^ f) - p (2 * n + b)) + fd p N bs (2 * f) ((2 * n + b) % N)
theorem two_xor {n j b : Nat} (hb : b < 2) : 2 * (n ^^^ 2 ^ j) + b = (2 * n + b) ^^^ 2 ^ (j + 1) := by
  refine Nat.eq_of_testBit_eq fun i => ?_
  cases i with
  | zero =>
    rw [Nat.testBit_xor, Nat.testBit_two_pow, decide_eq_false (by omega), Bool.xor_false]
    simp only [Nat.testBit_zero]
    congr 1
    rw [show (2 * (n ^^^ 2 ^ j) + b) % 2 = b by omega, show (2 * n + b) % 2 = b by omega]
  | succ i =>
    rw [Nat.testBit_succ, show (2 * (n ^^^ 2 ^ j) + b) / 2 = n ^^^ 2 ^ j by omega, Nat.testBit_xor, Nat.testBit_xor, Nat.testBit_succ, show (2 * n + b) / 2 = n by omega, Nat.testBit_two_pow, Nat.testBit_two_pow]
    congr 1
    by_cases h : j = i
    · rw [decide_eq_true h, decide_eq_true (by omega)]
    · rw [decide_eq_false h, decide_eq_false (by omega)]
def Bits01 (bs : List Nat) : Prop := ∀ b ∈ bs, b < 2
/-- a flip goes on from place to place, and out at last -/
theorem flip_sum : ∀ (bs : List Nat) (j n : Nat), Bits01 bs → j < w → bs.length + j ≤ w → wsum p (2 ^ w) bs (n ^^^ 2 ^ j) - wsum p (2 ^ w) bs n = fd p (2 ^ w) bs (2 ^ (j + 1)) n
  | [], _, _, _, _, _ => by simp [wsum, fd]
  | b :: bs, j, n, hb, hj, hl => by
    have hb0 := hb b List.mem_cons_self
    rw [List.length_cons] at hl
    unfold wsum fd
    rw [two_xor hb0, Nat.xor_mod_two_pow]
    by_cases h : j + 1 < w
    · have ih := flip_sum bs (j + 1) ((2 * n + b) % 2 ^ w) (fun c hc => hb c (List.mem_cons_of_mem _ hc)) h (by omega)
      have e : 2 * 2 ^ (j + 1) = 2 ^ (j + 1 + 1) := by rw [Nat.pow_succ 2 (j + 1), Nat.mul_comm]
      rw [Nat.mod_eq_of_lt (Nat.pow_lt_pow_right (by decide) h), e, ← ih]
      omega
    · obtain rfl : w = j + 1 := by omega
      have hbs : bs = [] := List.length_eq_zero_iff.mp (by omega)
      subst hbs
      unfold wsum fd
      omega
theorem flip_one {bs : List Nat} {n : Nat} (hw : 0 < w) (hb : Bits01 bs) (hl : bs.length ≤ w) : wsum p (2 ^ w) (1 :: bs) n - wsum p (2 ^ w) (0 :: bs) n = fd p (2 ^ w) (0 :: bs) 1 n := by
  have e : (2 * n + 0) ^^^ 1 = 2 * n + 1 := by
    have := two_xor (n := n) (j := 0) (b := 0) (by omega)
    refine Nat.eq_of_testBit_eq fun i => ?_
    cases i with
    | zero => simp [Nat.testBit_xor, Nat.testBit_zero]
    | succ i =>
      rw [Nat.testBit_xor, Nat.testBit_succ, Nat.testBit_succ, Nat.testBit_succ, show (2 * n + 0) / 2 = n by omega, show (2 * n + 1) / 2 = n by omega, show 1 / 2 = 0 from rfl, Nat.zero_testBit, Bool.xor_false]
  have e2 : (2 * n + 1) % 2 ^ w = (2 * n + 0) % 2 ^ w ^^^ 2 ^ 0 := by
    rw [← e, Nat.xor_mod_two_pow, Nat.pow_zero, Nat.mod_eq_of_lt (a := 1) (Nat.one_lt_two_pow (by omega))]
  have := flip_sum (p := p) bs 0 ((2 * n + 0) % 2 ^ w) hb hw (by omega)
  unfold wsum fd
  rw [e, e2]
  have e3 : 2 * 1 = 2 ^ (0 + 1) := rfl
  rw [e3]
  omega
theorem Hb_ge : ∀ (r : Nat) (bs : List Nat) (n : Nat), r ≤ w → Bits01 bs → bs.length ≤ r → 16 * fd p N bs (2 ^ (w - r + 1)) n - bs.length ≤ Hb p N f2 w r n
  | 0, bs, n, _, _, hl => by
    have : bs = [] := List.length_eq_zero_iff.mp (by omega)
    subst this
    simp [fd, Hb]
  | r + 1, [], n, _, _, _ => by
    have := (mx_ge (wl p N (f2 (w - 1 - r)) (Hb p N f2 w r) (2 * n)) (wl p N (f2 (w - 1 - r)) (Hb p N f2 w r) (2 * n + 1))).1
    show 16 * 0 - ((0 : Nat) : Int) ≤ hd p N (f2 (w - 1 - r)) (Hb p N f2 w r) n
    unfold hd
    omega
  | r + 1, b :: bs, n, hr, hb, hl => by
    rw [List.length_cons] at hl
    have ih := Hb_ge r bs ((2 * n + b) % N) (by omega) (fun c hc => hb c (List.mem_cons_of_mem _ hc)) (by omega)
    obtain ⟨_, m1, m2⟩ := mx_ge (wl p N (f2 (w - 1 - r)) (Hb p N f2 w r) (2 * n)) (wl p N (f2 (w - 1 - r)) (Hb p N f2 w r) (2 * n + 1))
    have hb0 := hb b List.mem_cons_self
    have ef : f2 (w - 1 - r) = 2 ^ (w - (r + 1) + 1) := by unfold f2; rw [show w - 1 - r = w - (r + 1) by omega]
    have eg : 2 * 2 ^ (w - (r + 1) + 1) = 2 ^ (w - r + 1) := by rw [show w - r + 1 = (w - (r + 1) + 1) + 1 by omega, Nat.pow_succ 2 (w - (r + 1) + 1), Nat.mul_comm]
    show 16 * ((p ((2 * n + b) ^^^ 2 ^ (w - (r + 1) + 1)) - p (2 * n + b)) + fd p N bs (2 * 2 ^ (w - (r + 1) + 1)) ((2 * n + b) % N)) - ((bs.length + 1 : Nat) : Int) ≤ hd p N (f2 (w - 1 - r)) (Hb p N f2 w r) n
    rw [eg]
    have hw' : wl p N (f2 (w - 1 - r)) (Hb p N f2 w r) (2 * n + b) ≤ hd p N (f2 (w - 1 - r)) (Hb p N f2 w r) n := by
      unfold hd
      rcases (by omega : b = 0 ∨ b = 1) with rfl | rfl
      · exact m1
      · exact m2
    have hwe : wl p N (f2 (w - 1 - r)) (Hb p N f2 w r) (2 * n + b) = 16 * (p ((2 * n + b) ^^^ 2 ^ (w - (r + 1) + 1)) - p (2 * n + b)) - 1 + Hb p N f2 w r ((2 * n + b) % N) := by
      unfold wl mb
      rw [ef]
    rw [hwe] at hw'
    omega
theorem fb_bits : ∀ (r n : Nat), Bits01 (fb p N f2 w r n)
  | 0, _, b, hb => nomatch hb
  | r + 1, n, b, hb => by
    unfold fb at hb
    split at hb
    · cases hb
    · rcases List.mem_cons.mp hb with rfl | hb
      · exact Nat.mod_lt _ (by decide)
      · exact fb_bits r _ b hb
theorem fb_len : ∀ (r n : Nat), (fb p N f2 w r n).length ≤ r
  | 0, _ => Nat.le_refl _
  | r + 1, n => by
    unfold fb
    split
    · exact Nat.zero_le _
    · rw [List.length_cons]
      have := fb_len r (nxw p N f2 w r n % N)
      omega
theorem fb_att : ∀ (r n : Nat), r ≤ w → 16 * fd p N (fb p N f2 w r n) (2 ^ (w - r + 1)) n - (fb p N f2 w r n).length = Hb p N f2 w r n
  | 0, n, _ => by simp [fb, fd, Hb]
  | r + 1, n, hr => by
    unfold fb
    by_cases h0 : Hb p N f2 w (r + 1) n = 0
    · rw [if_pos h0, h0]
      simp [fd]
    · rw [if_neg h0]
      have ih := fb_att r (nxw p N f2 w r n % N) (by omega)
      have ef : f2 (w - 1 - r) = 2 ^ (w - (r + 1) + 1) := by unfold f2; rw [show w - 1 - r = w - (r + 1) by omega]
      have eg : 2 * 2 ^ (w - (r + 1) + 1) = 2 ^ (w - r + 1) := by rw [show w - r + 1 = (w - (r + 1) + 1) + 1 by omega, Nat.pow_succ 2 (w - (r + 1) + 1), Nat.mul_comm]
      have hat : wl p N (f2 (w - 1 - r)) (Hb p N f2 w r) (nxw p N f2 w r n) = Hb p N f2 w (r + 1) n := by
        obtain ⟨g0, g1, g2⟩ := mx_ge (wl p N (f2 (w - 1 - r)) (Hb p N f2 w r) (2 * n)) (wl p N (f2 (w - 1 - r)) (Hb p N f2 w r) (2 * n + 1))
        have hh : Hb p N f2 w (r + 1) n = mx (wl p N (f2 (w - 1 - r)) (Hb p N f2 w r) (2 * n)) (wl p N (f2 (w - 1 - r)) (Hb p N f2 w r) (2 * n + 1)) := rfl
        rcases mx_att (wl p N (f2 (w - 1 - r)) (Hb p N f2 w r) (2 * n)) (wl p N (f2 (w - 1 - r)) (Hb p N f2 w r) (2 * n + 1)) with e | e | e
        · exact absurd (hh.trans e) h0
        · unfold nxw
          rw [if_neg (by omega)]
          omega
        · unfold nxw
          split
          · omega
          · omega
      have e2 : 2 * n + nxw p N f2 w r n % 2 = nxw p N f2 w r n := by unfold nxw; split <;> omega
      show 16 * ((p ((2 * n + nxw p N f2 w r n % 2) ^^^ 2 ^ (w - (r + 1) + 1)) - p (2 * n + nxw p N f2 w r n % 2)) + fd p N (fb p N f2 w r (nxw p N f2 w r n % N)) (2 * 2 ^ (w - (r + 1) + 1)) ((2 * n + nxw p N f2 w r n % 2) % N)) - (((fb p N f2 w r (nxw p N f2 w r n % N)).length + 1 : Nat) : Int) = _
      rw [e2, eg, ← hat]
      unfold wl mb
      rw [ef]
      omega
/-- the height right behind a place, by a bit more there -/
theorem hs1_ge {bs : List Nat} {n : Nat} (hb : Bits01 bs) (hl : bs.length ≤ w) : 16 * fd p (2 ^ w) (0 :: bs) 1 n - (bs.length + 1 : Nat) ≤ hs1 p w n := by
  have := Hb_ge (p := p) (N := 2 ^ w) w bs (2 * n % 2 ^ w) (Nat.le_refl _) hb hl
  rw [Nat.sub_self, Nat.zero_add, Nat.pow_one] at this
  show 16 * ((p ((2 * n + 0) ^^^ 1) - p (2 * n + 0)) + fd p (2 ^ w) bs (2 * 1) ((2 * n + 0) % 2 ^ w)) - _ ≤ 16 * (p (2 * n ^^^ 1) - p (2 * n)) - 1 + _
  rw [Nat.add_zero, Nat.mul_one]
  omega
theorem hs1_att {n : Nat} : 16 * fd p (2 ^ w) (0 :: fb p (2 ^ w) f2 w w (2 * n % 2 ^ w)) 1 n - ((fb p (2 ^ w) f2 w w (2 * n % 2 ^ w)).length + 1 : Nat) = hs1 p w n := by
  have := fb_att (p := p) (N := 2 ^ w) w (2 * n % 2 ^ w) (Nat.le_refl _)
  rw [Nat.sub_self, Nat.zero_add, Nat.pow_one] at this
  show 16 * ((p ((2 * n + 0) ^^^ 1) - p (2 * n + 0)) + fd p (2 ^ w) (fb p (2 ^ w) f2 w w (2 * n % 2 ^ w)) (2 * 1) ((2 * n + 0) % 2 ^ w)) - _ = 16 * (p (2 * n ^^^ 1) - p (2 * n)) - 1 + _
  rw [Nat.add_zero, Nat.mul_one]
  omega
theorem pa_of {g : Int} {l : Nat} (h1 : 1 ≤ l) (h2 : l < 16) : pa (16 * g - l) = g := by
  unfold pa
  omega
end
end MP.PG
set_option Elab.async false
set_option linter.all false
set_option maxRecDepth 100000
set_option maxHeartbeats 1000000
namespace MP.PG
open PySem PySem.Spec MP
open PyProof.Rows hiding St
open L2 hiding St r1
section
abbrev toI (bs : List Nat) : List Int := bs.map fun b : Nat => (b : Int)
/-- the number of bits, the last one ahead -/
def rnum : List Nat → Nat
  | [] => 0
  | b :: r => 2 * rnum r + b
def num (bs : List Nat) : Nat := rnum bs.reverse
theorem num_snoc {bs : List Nat} {b : Nat} : num (bs ++ [b]) = 2 * num bs + b := by
  unfold num
  rw [List.reverse_append]
  rfl
theorem rnum_lt : ∀ {r : List Nat}, Bits01 r → rnum r < 2 ^ r.length
  | [], _ => by decide
  | b :: r, h => by
    have := rnum_lt (r := r) fun c hc => h c (List.mem_cons_of_mem _ hc)
    have := h b List.mem_cons_self
    rw [List.length_cons, Nat.pow_succ]
    unfold rnum
    omega
theorem rnum_app : ∀ {r t : List Nat}, rnum (r ++ t) = rnum t * 2 ^ r.length + rnum r
  | [], t => by simp [rnum]
  | b :: r, t => by
    show 2 * rnum (r ++ t) + b = _
    rw [rnum_app, List.length_cons, Nat.pow_succ]
    show _ = _ + (2 * rnum r + b)
    rw [← Nat.mul_assoc, Nat.mul_add]
    omega
theorem num_app_mod {xs ys : List Nat} (h : Bits01 ys) : num (xs ++ ys) % 2 ^ ys.length = num ys := by
  unfold num
  rw [List.reverse_append, rnum_app, List.length_reverse, Nat.mul_add_mod_self_right, Nat.mod_eq_of_lt]
  have := rnum_lt (r := ys.reverse) fun c hc => h c (List.mem_reverse.mp hc)
  rwa [List.length_reverse] at this
theorem pop_rnum : ∀ {r : List Nat}, Bits01 r → pop (rnum r) = r.sum
  | [], _ => pop_0
  | b :: r, h => by
    have h0 := h b List.mem_cons_self
    unfold rnum
    rw [pop_eq, show (2 * rnum r + b) % 2 = b by omega, show (2 * rnum r + b) / 2 = rnum r by omega, pop_rnum fun c hc => h c (List.mem_cons_of_mem _ hc), List.sum_cons]
theorem pop_num {bs : List Nat} (h : Bits01 bs) : pop (num bs) = bs.sum := by
  unfold num
  rw [pop_rnum fun c hc => h c (List.mem_reverse.mp hc), List.sum_reverse]
theorem ins_0 : ∀ {z c : Nat}, ins 0 (List.replicate z (0 : Int) ++ List.replicate c 1) = List.replicate (z + 1) 0 ++ List.replicate c 1
  | 0, 0 => rfl
  | 0, c + 1 => by
    show ins 0 (1 :: List.replicate c 1) = _
    unfold ins
    rw [if_pos (by decide)]
    rfl
  | z + 1, c => by
    show ins 0 (0 :: (List.replicate z 0 ++ List.replicate c 1)) = _
    unfold ins
    rw [if_pos (by decide)]
    rfl
theorem ins_1 : ∀ {z c : Nat}, ins 1 (List.replicate z (0 : Int) ++ List.replicate c 1) = List.replicate z 0 ++ List.replicate (c + 1) 1
  | 0, 0 => rfl
  | 0, c + 1 => by
    show ins 1 (1 :: List.replicate c 1) = _
    unfold ins
    rw [if_pos (by decide)]
    rfl
  | z + 1, c => by
    show ins 1 (0 :: (List.replicate z 0 ++ List.replicate c 1)) = _
    unfold ins
    rw [if_neg (by decide), ins_1]
    rfl
theorem srt_bits : ∀ {bs : List Nat}, Bits01 bs → srt (toI bs) = List.replicate (bs.length - bs.sum) 0 ++ List.replicate bs.sum 1 ∧ bs.sum ≤ bs.length
  | [], _ => ⟨rfl, Nat.le_refl _⟩
  | b :: bs, h => by
    obtain ⟨h1, h2⟩ := srt_bits (bs := bs) fun c hc => h c (List.mem_cons_of_mem _ hc)
    have e : srt (toI (b :: bs)) = ins (b : Int) (srt (toI bs)) := rfl
    rw [e, h1, List.length_cons, List.sum_cons]
    rcases (by have := h b List.mem_cons_self; omega : b = 0 ∨ b = 1) with rfl | rfl
    · refine ⟨?_, by omega⟩
      show ins 0 _ = _
      rw [ins_0, show bs.length + 1 - (0 + bs.sum) = bs.length - bs.sum + 1 by omega, Nat.zero_add]
    · refine ⟨?_, by omega⟩
      show ins 1 _ = _
      rw [ins_1, show bs.length + 1 - (1 + bs.sum) = bs.length - bs.sum by omega, Nat.add_comm 1]
theorem dot_01 : ∀ {rs : List Int} {z c : Nat}, rs.length = z + c → dot rs (List.replicate z 0 ++ List.replicate c 1) = (rs.drop z).sum
  | [], z, c, h => by
    have hz : z = 0 := by simp at h; omega
    have hc : c = 0 := by simp at h; omega
    subst hz hc
    rfl
  | r :: rs, 0, c, h => by
    obtain ⟨c, rfl⟩ : ∃ d, c = d + 1 := ⟨c - 1, by simp at h; omega⟩
    have ih := dot_01 (rs := rs) (z := 0) (c := c) (by simp at h; omega)
    show dot (r :: rs) (1 :: List.replicate c 1) = _
    rw [dot_cons]
    have ih' : dot rs (List.replicate c 1) = rs.sum := ih
    rw [ih', List.drop_zero, List.sum_cons]
    omega
  | r :: rs, z + 1, c, h => by
    show dot (r :: rs) (0 :: (List.replicate z 0 ++ List.replicate c 1)) = _
    rw [dot_cons, dot_01 (by simp at h; omega), List.drop_succ_cons]
    omega
theorem idb_drop {rs : List Int} {c : Nat} (h : c ≤ rs.length) : idb rs c = (rs.drop (rs.length - c)).sum := by
  unfold idb
  rw [List.take_reverse, List.sum_reverse]
/-- the index of bits -/
theorem dot_bits {rs : List Int} {bs : List Nat} (h : Bits01 bs) (hl : bs.length = rs.length) : dot rs (srt (toI bs)) = idb rs (pop (num bs)) := by
  obtain ⟨h1, h2⟩ := srt_bits h
  rw [h1, dot_01 (by omega), pop_num h, idb_drop (by omega), hl]
variable {o : Int} {ts : List Term}
theorem seg_toI {rs : List Int} {bs : List Nat} {e : Nat} : seg rs (toI bs) e = toI ((bs.drop (e - rs.length)).take rs.length) := by
  unfold seg
  simp only [toI, List.map_take, List.map_drop]
theorem bits_sub {bs cs : List Nat} (h : Bits01 bs) (hs : ∀ c ∈ cs, c ∈ bs) : Bits01 cs := fun c hc => h c (hs c hc)
theorem ixe_bits {rs : List Int} {bs : List Nat} {e : Nat} (hb : Bits01 bs) (h1 : rs.length ≤ e) (h2 : e ≤ bs.length) : ixe rs (toI bs) e = idb rs (pop (num (bs.take e) % 2 ^ rs.length)) := by
  have hsub : Bits01 ((bs.drop (e - rs.length)).take rs.length) := bits_sub hb fun c hc => List.mem_of_mem_drop (List.mem_of_mem_take hc)
  have hl : ((bs.drop (e - rs.length)).take rs.length).length = rs.length := by rw [List.length_take, List.length_drop]; omega
  have ht : bs.take e = bs.take (e - rs.length) ++ (bs.drop (e - rs.length)).take rs.length := by
    have : e = (e - rs.length) + rs.length := by omega
    conv => lhs; rw [this]
    rw [List.take_add]
  unfold ixe
  rw [seg_toI, dot_bits hsub hl, ht]
  have := num_app_mod (xs := bs.take (e - rs.length)) hsub
  rw [hl] at this
  rw [this]
theorem take_num {bs : List Nat} {e b : Nat} (h : bs[e]? = some b) : num (bs.take (e + 1)) = 2 * num (bs.take e) + b := by
  rw [List.take_succ, h]
  exact num_snoc
/-- what a bit pays -/
theorem ps_bits {bs : List Nat} {e b : Nat} (hk : ∀ t ∈ ts, TermOk t) (hb : Bits01 bs) (h1 : wd ts ≤ e) (h2 : bs[e]? = some b) : ps o ts (toI bs) e = bpF o ts (num (bs.take (e + 1)) % 2 ^ (wd ts + 1)) := by
  have he := (List.getElem?_eq_some_iff.mp h2).1
  have hn := take_num h2
  have hb0 : b < 2 := hb b (List.mem_of_getElem? h2)
  unfold ps bpF
  have e1 : (toI bs).getD e 0 = ((num (bs.take (e + 1)) % 2 ^ (wd ts + 1) % 2 : Nat) : Int) := by
    rw [Nat.mod_mod_of_dvd _ (by rw [Nat.pow_succ]; exact Nat.dvd_mul_left _ _), hn, show (2 * num (bs.take e) + b) % 2 = b by omega, List.getD_eq_getElem?_getD, List.getElem?_map, h2]
    rfl
  rw [e1]
  congr 2
  refine List.map_congr_left fun t ht => ?_
  have hl := wd_ge hk ht
  unfold tpF
  rw [ixe_bits hb (by omega) (by omega), ixe_bits hb (by omega) (by omega)]
  have e2 : num (bs.take (e + 1)) % 2 ^ (wd ts + 1) / 2 % 2 ^ t.rs.length = num (bs.take e) % 2 ^ t.rs.length := by
    rw [Nat.pow_succ, Nat.mul_comm, Nat.mod_mul_right_div_self, hn, show (2 * num (bs.take e) + b) / 2 = num (bs.take e) by omega, Nat.mod_mod_of_dvd _ (Nat.pow_dvd_pow 2 hl)]
  have e3 : num (bs.take (e + 1)) % 2 ^ (wd ts + 1) % 2 ^ t.rs.length = num (bs.take (e + 1)) % 2 ^ t.rs.length := Nat.mod_mod_of_dvd _ (Nat.pow_dvd_pow 2 (by omega))
  rw [e2, e3]
theorem mod_two {a b N : Nat} (hb : b < 2) (hN : 0 < N) : (2 * a + b) % (2 * N) = 2 * (a % N) + b := by
  have h1 : a % N < N := Nat.mod_lt _ hN
  have h2 : 2 * a + b = 2 * (a % N) + b + 2 * N * (a / N) := by
    have := Nat.mod_add_div a N
    have e : 2 * N * (a / N) = 2 * (N * (a / N)) := Nat.mul_assoc _ _ _
    omega
  rw [h2, Nat.add_mul_mod_self_left, Nat.mod_eq_of_lt (by omega)]
theorem mod_next {a b N : Nat} : (2 * (a % N) + b) % N = (2 * a + b) % N := by
  rw [Nat.add_mod, Nat.mul_mod, Nat.mod_mod, ← Nat.mul_mod, ← Nat.add_mod]
theorem ps_sum {bs : List Nat} (hk : ∀ t ∈ ts, TermOk t) (hb : Bits01 bs) : ∀ (m e : Nat), e + m = bs.length → wd ts ≤ e → ((List.range m).map fun i => ps o ts (toI bs) (e + i)).sum = wsum (bpF o ts) (2 ^ wd ts) (bs.drop e) (num (bs.take e) % 2 ^ wd ts)
  | 0, e, he, _ => by
    rw [List.drop_eq_nil_of_le (by omega)]
    rfl
  | m + 1, e, he, hw => by
    have hlt : e < bs.length := by omega
    obtain ⟨b, h2⟩ : ∃ b, bs[e]? = some b := ⟨_, List.getElem?_eq_getElem hlt⟩
    have hb0 : b < 2 := hb b (List.mem_of_getElem? h2)
    have hd : bs.drop e = b :: bs.drop (e + 1) := by
      rw [List.drop_eq_getElem_cons hlt]
      congr 1
      exact Option.some.inj ((List.getElem?_eq_getElem hlt).symm.trans h2)
    have ih := ps_sum hk hb m (e + 1) (by omega) (by omega)
    have hN : 0 < 2 ^ wd ts := Nat.two_pow_pos _
    rw [hd, List.range_succ_eq_map, List.map_cons, List.map_map, List.sum_cons]
    unfold wsum
    rw [mod_next, ← take_num h2, ← ih, Nat.add_zero, ps_bits hk hb hw h2, take_num h2, Nat.pow_succ, Nat.mul_comm (2 ^ wd ts) 2, mod_two hb0 hN]
    congr 2
    refine List.map_congr_left fun i _ => ?_
    show ps o ts (toI bs) (e + (i + 1)) = _
    rw [show e + (i + 1) = e + 1 + i by omega]
/-- the worth of a row of bits -/
theorem worth_bits {place bs : List Nat} (hk : ∀ t ∈ ts, TermOk t) (hp : Bits01 place) (hb : Bits01 bs) (hl : place.length = wd ts) : (pys o ts (toI (place ++ bs))).sum = wsum (bpF o ts) (2 ^ wd ts) bs (num place) := by
  have h01 : Bits01 (place ++ bs) := fun c hc => (List.mem_append.mp hc).elim (hp c) (hb c)
  have := ps_sum (o := o) hk h01 bs.length (wd ts) (by rw [List.length_append]; omega) (Nat.le_refl _)
  rw [← hl, List.drop_left, List.take_left, hl] at this
  have hlt : num place < 2 ^ wd ts := by
    rw [← hl]
    have := rnum_lt (r := place.reverse) fun c hc => hp c (List.mem_reverse.mp hc)
    rwa [List.length_reverse] at this
  rw [Nat.mod_eq_of_lt hlt] at this
  rw [← this]
  unfold pys
  rw [List.length_map, List.length_append, hl, Nat.add_sub_cancel_left]
theorem rnum_digs : ∀ (w n : Nat), rnum ((List.range w).map fun i => n / 2 ^ i % 2) = n % 2 ^ w
  | 0, n => by rw [Nat.pow_zero, Nat.mod_one]; rfl
  | w + 1, n => by
    rw [List.range_succ_eq_map, List.map_cons, List.map_map]
    unfold rnum
    have e : (List.range w).map ((fun i => n / 2 ^ i % 2) ∘ Nat.succ) = (List.range w).map fun i => n / 2 / 2 ^ i % 2 := List.map_congr_left fun i _ => by
      show n / 2 ^ (i + 1) % 2 = _
      rw [Nat.pow_succ, Nat.mul_comm, ← Nat.div_div_eq_div_mul]
    rw [e, rnum_digs w (n / 2), Nat.pow_zero, Nat.div_one, Nat.pow_succ, Nat.mul_comm (2 ^ w) 2, Nat.mod_mul]
    omega
theorem num_digs {w n : Nat} (h : n < 2 ^ w) : num (digs 2 w n) = n := by
  unfold num digs
  rw [List.reverse_reverse, rnum_digs, Nat.mod_eq_of_lt h]
theorem digs_len {b w n : Nat} : (digs b w n).length = w := by unfold digs; rw [List.length_reverse, List.length_map, List.length_range]
theorem digs_bits {w n : Nat} : Bits01 (digs 2 w n) := fun c hc => by
  unfold digs at hc
  obtain ⟨i, _, rfl⟩ := List.mem_map.mp (List.mem_reverse.mp hc)
  exact Nat.mod_lt _ (by decide)
end
end MP.PG
set_option Elab.async false
set_option linter.all false
set_option maxRecDepth 100000
set_option maxHeartbeats 1000000
namespace MP.PG
open PySem PySem.Spec MP
open PyProof.Rows hiding St
open L2 hiding St r1
section
variable {s : Sto} {p : Nat → Int} {w : Nat} {o : Int} {ts : List Term}
/-- what is gained by a bit more -/
def gn (p : Nat → Int) (w n : Nat) (bs : List Nat) : Int := fd p (2 ^ w) (0 :: bs) 1 n
def fbs (p : Nat → Int) (w : Nat) : List Nat := fb p (2 ^ w) f2 w w (2 * bst p w % 2 ^ w)
def Gs (p : Nat → Int) (w : Nat) : Int := pa (hs1 p w (bst p w))
theorem best_ok (hs : Cl s) (hw : w ≤ 6) : bst p w < 2 ^ w ∧ (∀ m, m < 2 ^ w → hs1 p w m ≤ hs1 p w (bst p w)) ∧
    g_best_single [lI (lf (2 ^ (w + 1)) p), .int (w : Int)] s = .ok (.tup [.int (Gs p w), tN (digs 2 w (bst p w) ++ [0] ++ fbs p w), tN (digs 2 w (bst p w) ++ [1] ++ fbs p w)]) s := by
  obtain ⟨n, rfl, h1, h2, h3⟩ := single_ok (p := p) hs hw
  refine ⟨h1, h2, ?_⟩
  rw [show 2 ^ (w + 1) = 2 * 2 ^ w by rw [Nat.pow_succ, Nat.mul_comm]]
  exact h3
theorem bst_ok (hw : w ≤ 6) : bst p w < 2 ^ w ∧ (∀ m, m < 2 ^ w → hs1 p w m ≤ hs1 p w (bst p w)) :=
  have h := best_ok (s := []) (p := p) (w := w) (fun _ => rfl) hw
  ⟨h.1, h.2.1⟩
theorem fbs_len : (fbs p w).length ≤ w := fb_len _ _
theorem fbs_bits : Bits01 (fbs p w) := fb_bits _ _
theorem Gs_eq (hw : w ≤ 6) : Gs p w = gn p w (bst p w) (fbs p w) := by
  have h := hs1_att (p := p) (w := w) (n := bst p w)
  unfold Gs
  rw [← h]
  have := fbs_len (p := p) (w := w)
  exact pa_of (by omega) (by show (fbs p w).length + 1 < 16; omega)
theorem Gs_most (hw : w ≤ 6) {n : Nat} {bs : List Nat} (hn : n < 2 ^ w) (hb : Bits01 bs) (hl : bs.length ≤ w) : gn p w n bs ≤ Gs p w ∧ (gn p w n bs = Gs p w → (fbs p w).length ≤ bs.length) := by
  have h1 := hs1_ge (p := p) (n := n) hb hl
  have h2 := (bst_ok (p := p) hw).2 n hn
  have h3 := hs1_att (p := p) (w := w) (n := bst p w)
  have h4 := Gs_eq (p := p) hw
  have h5 : (fb p (2 ^ w) f2 w w (2 * bst p w % 2 ^ w)).length = (fbs p w).length := rfl
  have h6 : fd p (2 ^ w) (0 :: fb p (2 ^ w) f2 w w (2 * bst p w % 2 ^ w)) 1 (bst p w) = gn p w (bst p w) (fbs p w) := rfl
  have h7 : fd p (2 ^ w) (0 :: bs) 1 n = gn p w n bs := rfl
  have h8 := fbs_len (p := p) (w := w)
  rw [h6, h5] at h3
  rw [h7] at h1
  constructor <;> omega
theorem kind_once : g_need_kind [.str "once"] s = .ok (.str "once") s := by
  have e0 : startD 1 [.str "once"] = [some (.str "once")] := rfl
  unfold g_need_kind d_need_kind
  rw [den_ev, e0]
  have ht : mOr (mNot (mTest (mBlt isiA (mCons (mVar 0) (mCons (mK (.ty "str")) mNil))))) (mTest (mBin (inQ true) (mVar 0) (mTup (mCons (mK (.str "any")) (mCons (mK (.str "once")) mNil))))) [some (.str "once")] s = .ok false s := rfl
  refine fin_nx ((ifS_f ht).trans rfl) ?_
  rw [ret_v (w := .str "once") rfl]
  exact finC_rt
theorem kind_any : g_need_kind [.str "any"] s = .ok (.str "any") s := by
  have e0 : startD 1 [.str "any"] = [some (.str "any")] := rfl
  unfold g_need_kind d_need_kind
  rw [den_ev, e0]
  have ht : mOr (mNot (mTest (mBlt isiA (mCons (mVar 0) (mCons (mK (.ty "str")) mNil))))) (mTest (mBin (inQ true) (mVar 0) (mTup (mCons (mK (.str "any")) (mCons (mK (.str "once")) mNil))))) [some (.str "any")] s = .ok false s := rfl
  refine fin_nx ((ifS_f ht).trans rfl) ?_
  rw [ret_v (w := .str "any") rfl]
  exact finC_rt
/-- the greatest gain -/
def gg (o : Int) (ts : List Term) : Int := if Gs (bpF o ts) (wd ts) > 0 then Gs (bpF o ts) (wd ts) else 0
theorem once_ok (hs : Cl s) (h : Bill o ts) : g_greatest_gain [bi o ts, .str "once"] s = .ok (.int (gg o ts)) s := by
  obtain ⟨_, w6⟩ := wd_rng h.ok
  have e0 : startD 5 [bi o ts, .str "once"] = [some (bi o ts), some (.str "once"), none, none, none] := rfl
  have c1 : mAsg (mCall (g_width_of) (mCons (mCall (g_need_bill) (mCons (mVar 0) mNil)) mNil)) (gN 2) [some (bi o ts), some (.str "once"), none, none, none] s = .nx [some (bi o ts), some (.str "once"), some (.int (wd ts : Int)), none, none] s := by
    refine (asg_v (w := .int (wd ts : Int)) ?_).trans rfl
    rw [call_ev, cons_v (w := bi o ts) (by rw [call_ev, cons_v (w := bi o ts) rfl nil_ev, bind_ok]; exact need_bill_ok h) nil_ev, bind_ok]
    exact width_of_ok h.ok h.two
  have ht : mTest (mBin eqD (mCall (g_need_kind) (mCons (mVar 1) mNil)) (mK (.str "once"))) [some (bi o ts), some (.str "once"), some (.int (wd ts : Int)), none, none] s = .ok true s :=
    test_v (bin_v (x := .str "once") (y := .str "once") (by rw [call_ev, cons_v (w := .str "once") rfl nil_ev, bind_ok]; exact kind_once) rfl eq_refl_ss)
  have hr : mBlt max2D (mCons (mK (.int 0)) (mCons (mBin ixA (mCall (g_best_single) (mCons (mCall (g_bit_pays) (mCons (mVar 0) mNil)) (mCons (mVar 2) mNil))) (mK (.int 0))) mNil)) [some (bi o ts), some (.str "once"), some (.int (wd ts : Int)), none, none] s = .ok (.int (gg o ts)) s := by
    refine blt_v (cons_v k_ev (cons_v (w := .int (Gs (bpF o ts) (wd ts))) (bin_v (x := .tup [.int (Gs (bpF o ts) (wd ts)), tN (digs 2 (wd ts) (bst (bpF o ts) (wd ts)) ++ [0] ++ fbs (bpF o ts) (wd ts)), tN (digs 2 (wd ts) (bst (bpF o ts) (wd ts)) ++ [1] ++ fbs (bpF o ts) (wd ts))]) ?_ k_ev ix_tup0) nil_ev)) rfl
    rw [call_ev, cons_v (w := lI (lf (2 ^ (wd ts + 1)) (bpF o ts))) (by rw [call_ev, cons_v (w := bi o ts) rfl nil_ev, bind_ok]; exact bit_pays_ok hs h) (cons_v (w := .int (wd ts : Int)) rfl nil_ev), bind_ok]
    exact (best_ok hs w6).2.2
  unfold g_greatest_gain d_greatest_gain
  rw [den_ev, e0]
  refine fin_nx c1 (fin_rtS ((ifS_t ht).trans (ret_v hr)) finC_rt)
/-- the rows -/
def nr (o : Int) (ts : List Term) (d : Nat) : List Nat := if 0 < Gs (bpF o ts) (wd ts) then digs 2 (wd ts) (bst (bpF o ts) (wd ts)) ++ [d] ++ fbs (bpF o ts) (wd ts) else List.replicate (wd ts) 0
theorem flat_0 : ∀ k : Nat, (List.replicate k [Dv.int 0]).flatten = (List.replicate k 0).map fun b : Nat => Dv.int (b : Int)
  | 0 => rfl
  | k + 1 => by
    rw [List.replicate_succ, List.flatten_cons, flat_0 k, List.replicate_succ, List.map_cons]
    rfl
theorem mul_tup0 {k : Nat} (hk : k ≤ 1000000) : mulD s (.tup [.int 0]) (.int (k : Int)) = some (tN (List.replicate k 0)) := by
  unfold mulD
  dsimp only
  rw [if_pos ⟨by omega, by omega, by rw [Int.toNat_natCast, List.length_singleton, Nat.one_mul]; unfold lim; omega⟩, Int.toNat_natCast, flat_0]
theorem single_rows (hs : Cl s) (h : Bill o ts) : g_rows_of_single [bi o ts] s = .ok (.tup [tN (nr o ts 0), tN (nr o ts 1)]) s := by
  obtain ⟨_, w6⟩ := wd_rng h.ok
  have e0 : startD 5 [bi o ts] = [some (bi o ts), none, none, none, none] := rfl
  have c1 : mAsg (mCall (g_width_of) (mCons (mVar 0) mNil)) (gN 1) [some (bi o ts), none, none, none, none] s = .nx [some (bi o ts), some (.int (wd ts : Int)), none, none, none] s := by
    refine (asg_v (w := .int (wd ts : Int)) ?_).trans rfl
    rw [call_ev, cons_v (w := bi o ts) rfl nil_ev, bind_ok]
    exact width_of_ok h.ok h.two
  have c2 : mAsg (mCall (g_best_single) (mCons (mCall (g_bit_pays) (mCons (mVar 0) mNil)) (mCons (mVar 1) mNil))) (gT 3 (gsC (gN 2) (gsC (gN 3) (gsC (gN 4) gs0)))) [some (bi o ts), some (.int (wd ts : Int)), none, none, none] s = .nx [some (bi o ts), some (.int (wd ts : Int)), some (.int (Gs (bpF o ts) (wd ts))), some (tN (digs 2 (wd ts) (bst (bpF o ts) (wd ts)) ++ [0] ++ fbs (bpF o ts) (wd ts))), some (tN (digs 2 (wd ts) (bst (bpF o ts) (wd ts)) ++ [1] ++ fbs (bpF o ts) (wd ts)))] s := by
    refine asg_gv (w := .tup [.int (Gs (bpF o ts) (wd ts)), tN (digs 2 (wd ts) (bst (bpF o ts) (wd ts)) ++ [0] ++ fbs (bpF o ts) (wd ts)), tN (digs 2 (wd ts) (bst (bpF o ts) (wd ts)) ++ [1] ++ fbs (bpF o ts) (wd ts))]) ?_ rfl
    rw [call_ev, cons_v (w := lI (lf (2 ^ (wd ts + 1)) (bpF o ts))) (by rw [call_ev, cons_v (w := bi o ts) rfl nil_ev, bind_ok]; exact bit_pays_ok hs h) (cons_v (w := .int (wd ts : Int)) rfl nil_ev), bind_ok]
    exact (best_ok hs w6).2.2
  have ht : mTest (mBin gtD (mVar 2) (mK (.int 0))) [some (bi o ts), some (.int (wd ts : Int)), some (.int (Gs (bpF o ts) (wd ts))), some (tN (digs 2 (wd ts) (bst (bpF o ts) (wd ts)) ++ [0] ++ fbs (bpF o ts) (wd ts))), some (tN (digs 2 (wd ts) (bst (bpF o ts) (wd ts)) ++ [1] ++ fbs (bpF o ts) (wd ts)))] s = .ok (decide (0 < Gs (bpF o ts) (wd ts))) s := test_v (bin_v (x := .int (Gs (bpF o ts) (wd ts))) (y := .int 0) rfl rfl gt_ii)
  unfold g_rows_of_single d_rows_of_single
  rw [den_ev, e0]
  unfold nr
  by_cases hg : 0 < Gs (bpF o ts) (wd ts)
  · rw [decide_eq_true hg] at ht
    rw [if_pos hg, if_pos hg]
    exact fin_nx c1 (fin_nx c2 (fin_rtS ((ifS_t ht).trans (ret_v (tup_v (cons_v (w := tN (digs 2 (wd ts) (bst (bpF o ts) (wd ts)) ++ [0] ++ fbs (bpF o ts) (wd ts))) rfl (cons_v (w := tN (digs 2 (wd ts) (bst (bpF o ts) (wd ts)) ++ [1] ++ fbs (bpF o ts) (wd ts))) rfl nil_ev)) (by show 2 ≤ 1000000; decide)))) finC_rt))
  · rw [decide_eq_false hg] at ht
    rw [if_neg hg, if_neg hg]
    have hz : mBin mulD (mTup (mCons (mK (.int 0)) mNil)) (mVar 1) [some (bi o ts), some (.int (wd ts : Int)), some (.int (Gs (bpF o ts) (wd ts))), some (tN (digs 2 (wd ts) (bst (bpF o ts) (wd ts)) ++ [0] ++ fbs (bpF o ts) (wd ts))), some (tN (digs 2 (wd ts) (bst (bpF o ts) (wd ts)) ++ [1] ++ fbs (bpF o ts) (wd ts)))] s = .ok (tN (List.replicate (wd ts) 0)) s :=
      bin_v (x := .tup [.int 0]) (y := .int (wd ts : Int)) (tup_v (cons_v k_ev nil_ev) (by show 1 ≤ 1000000; decide)) rfl (mul_tup0 (by omega))
    refine fin_nx c1 (fin_nx c2 (fin_nx ((ifS_f ht).trans rfl) ?_))
    rw [ret_v (tup_v (cons_v hz (cons_v hz nil_ev)) (by show 2 ≤ 1000000; decide))]
    exact finC_rt
theorem rows_ok (hs : Cl s) (h : Bill o ts) : g_gain_rows [bi o ts, .str "once"] s = .ok (.tup [tN (nr o ts 0), tN (nr o ts 1)]) s := by
  have e0 : startD 6 [bi o ts, .str "once"] = [some (bi o ts), some (.str "once"), none, none, none, none] := rfl
  have c1 : mAsg (mCall (g_width_of) (mCons (mCall (g_need_bill) (mCons (mVar 0) mNil)) mNil)) (gN 2) [some (bi o ts), some (.str "once"), none, none, none, none] s = .nx [some (bi o ts), some (.str "once"), some (.int (wd ts : Int)), none, none, none] s := by
    refine (asg_v (w := .int (wd ts : Int)) ?_).trans rfl
    rw [call_ev, cons_v (w := bi o ts) (by rw [call_ev, cons_v (w := bi o ts) rfl nil_ev, bind_ok]; exact need_bill_ok h) nil_ev, bind_ok]
    exact width_of_ok h.ok h.two
  have ht : mTest (mBin eqD (mCall (g_need_kind) (mCons (mVar 1) mNil)) (mK (.str "once"))) [some (bi o ts), some (.str "once"), some (.int (wd ts : Int)), none, none, none] s = .ok true s :=
    test_v (bin_v (x := .str "once") (y := .str "once") (by rw [call_ev, cons_v (w := .str "once") rfl nil_ev, bind_ok]; exact kind_once) rfl eq_refl_ss)
  unfold g_gain_rows d_gain_rows
  rw [den_ev, e0]
  refine fin_nx c1 (fin_rtS ((ifS_t ht).trans (ret_v (w := .tup [tN (nr o ts 0), tN (nr o ts 1)]) ?_)) finC_rt)
  rw [call_ev, cons_v (w := bi o ts) rfl nil_ev, bind_ok]
  exact single_rows hs h
theorem pay_ok (hs : Cl s) (h : Bill o ts) {k : Str} (hk : g_need_kind [.str k] s = .ok (.str k) s) : g_does_pay [bi o ts, .str k] s = .ok (.bl (decide (0 < gg o ts))) s := by
  have e0 : startD 2 [bi o ts, .str k] = [some (bi o ts), some (.str k)] := rfl
  have c1 : mExpr (mCall (g_need_bill) (mCons (mVar 0) mNil)) [some (bi o ts), some (.str k)] s = .nx [some (bi o ts), some (.str k)] s := expr_v (w := bi o ts) (by rw [call_ev, cons_v (w := bi o ts) rfl nil_ev, bind_ok]; exact need_bill_ok h)
  have c2 : mExpr (mCall (g_need_kind) (mCons (mVar 1) mNil)) [some (bi o ts), some (.str k)] s = .nx [some (bi o ts), some (.str k)] s := expr_v (w := .str k) (by rw [call_ev, cons_v (w := .str k) rfl nil_ev, bind_ok]; exact hk)
  unfold g_does_pay d_does_pay
  rw [den_ev, e0]
  refine fin_nx c1 (fin_nx c2 ?_)
  rw [ret_v (w := .bl (decide (0 < gg o ts))) (bin_v (x := .int (gg o ts)) (y := .int 0) (by rw [call_ev, cons_v (w := bi o ts) rfl (cons_v k_ev nil_ev), bind_ok]; exact once_ok hs h) rfl gt_ii)]
  exact finC_rt
end
end MP.PG
set_option Elab.async false
set_option linter.all false
set_option maxRecDepth 100000
set_option maxHeartbeats 1000000
namespace MP.PG
open PySem PySem.Spec MP
open PyProof.Rows hiding St
open L2 hiding St r1
section
abbrev SL (L : List (Int × Int)) (f : Int × Int → Int) : Int := (L.map fun q => q.2 * f q).sum
theorem SL_add {L : List (Int × Int)} {f g : Int × Int → Int} : SL L (fun q => f q + g q) = SL L f + SL L g := by
  unfold SL
  rw [← sum_map_add]
  congr 1
  exact List.map_congr_left fun q _ => Int.mul_add _ _ _
theorem SL_mul {L : List (Int × Int)} {c : Int} {f : Int × Int → Int} : SL L (fun q => c * f q) = c * SL L f := by
  unfold SL
  rw [← sum_map_mul]
  congr 1
  exact List.map_congr_left fun q _ => Int.mul_left_comm _ _ _
theorem SL_sum {α : Type} {L : List (Int × Int)} {g : Int × Int → α → Int} : ∀ {ts : List α}, SL L (fun q => (ts.map (g q)).sum) = (ts.map fun t => SL L fun q => g q t).sum
  | [] => by
    show (L.map fun q => q.2 * 0).sum = 0
    simp only [Int.mul_zero]
    exact sum_zero L
  | t :: ts => by
    have : SL L (fun q => g q t + (ts.map (g q)).sum) = _ := SL_add (f := fun q => g q t) (g := fun q => (ts.map (g q)).sum)
    show SL L (fun q => g q t + (ts.map (g q)).sum) = (SL L fun q => g q t) + (ts.map fun t => SL L fun q => g q t).sum
    rw [this, SL_sum]
variable {o : Int} {ts : List Term} {ns : List Int}
/-- the bits of a layer -/
def lay (lev : Int) (ns : List Int) : List Int := ns.map (at1 lev)
theorem lay_len {lev : Int} : (lay lev ns).length = ns.length := List.length_map _
theorem ixe_lay {L : List (Int × Int)} {rs : List Int} {e : Nat} (hL : ∀ n ∈ ns, SL L (fun q => at1 q.1 n) = n) : SL L (fun q => ixe rs (lay q.1 ns) e) = ixe rs ns e := by
  have : SL L (fun q => ixe rs (lay q.1 ns) e) = (L.map fun p => p.2 * dot rs ((srt (seg rs ns e)).map (at1 p.1))).sum := by
    unfold SL ixe
    congr 1
    refine List.map_congr_left fun q _ => ?_
    dsimp only
    have : seg rs (lay q.1 ns) e = (seg rs ns e).map (at1 q.1) := by
      unfold seg lay
      rw [← List.map_drop, ← List.map_take]
    rw [this, srt_at1]
  rw [this]
  refine dot_levels fun n hn => hL n ?_
  exact List.mem_of_mem_drop (List.mem_of_mem_take ((srt_perm (seg rs ns e)).mem_iff.mp hn))
theorem ps_lay {L : List (Int × Int)} {e : Nat} (hL : ∀ n ∈ ns, SL L (fun q => at1 q.1 n) = n) (he : e < ns.length) : SL L (fun q => ps o ts (lay q.1 ns) e) = ps o ts ns e := by
  unfold ps
  have a1 : SL L (fun q => o * (lay q.1 ns).getD e 0) = o * ns.getD e 0 := by
    rw [SL_mul]
    have : SL L (fun q => (lay q.1 ns).getD e 0) = SL L (fun q => at1 q.1 (ns.getD e 0)) := by
      unfold SL
      congr 1
      refine List.map_congr_left fun q _ => ?_
      dsimp only
      rw [List.getD_eq_getElem?_getD, List.getD_eq_getElem?_getD]
      unfold lay
      rw [List.getElem?_map, List.getElem?_eq_getElem he]
      rfl
    rw [this, hL]
    rw [List.getD_eq_getElem?_getD, List.getElem?_eq_getElem he]
    exact List.getElem_mem he
  have a2 : SL L (fun q => (ts.map fun t => t.a * ixe t.rs (lay q.1 ns) e + t.b * ixe t.rs (lay q.1 ns) (e + 1)).sum) = (ts.map fun t => t.a * ixe t.rs ns e + t.b * ixe t.rs ns (e + 1)).sum := by
    rw [SL_sum]
    congr 1
    refine List.map_congr_left fun t _ => ?_
    rw [SL_add (f := fun q => t.a * ixe t.rs (lay q.1 ns) e) (g := fun q => t.b * ixe t.rs (lay q.1 ns) (e + 1)), SL_mul, SL_mul, ixe_lay hL, ixe_lay hL]
  exact (SL_add (f := fun q => o * (lay q.1 ns).getD e 0)).trans (by rw [a1, a2])
theorem pys_lay {L : List (Int × Int)} (hL : ∀ n ∈ ns, SL L (fun q => at1 q.1 n) = n) : SL L (fun q => (pys o ts (lay q.1 ns)).sum) = (pys o ts ns).sum := by
  have : SL L (fun q => (pys o ts (lay q.1 ns)).sum) = SL L (fun q => ((List.range (ns.length - wd ts)).map fun i => ps o ts (lay q.1 ns) (wd ts + i)).sum) := by
    unfold SL pys
    congr 1
    exact List.map_congr_left fun q _ => by dsimp only; rw [lay_len]
  rw [this, SL_sum]
  congr 1
  exact List.map_congr_left fun i hi => ps_lay hL (by have := List.mem_range.mp hi; omega)
/-- all levels up to one, each by itself -/
def ul (M : Nat) : List (Int × Int) := (List.range M).map fun i : Nat => ((i : Int) + 1, 1)
theorem ul_succ {M : Nat} {f : Int × Int → Int} : SL (ul (M + 1)) f = SL (ul M) f + f ((M : Int) + 1, 1) := by
  unfold SL ul
  rw [List.range_succ, List.map_append, List.map_append, List.sum_append]
  show _ + (1 * f ((M : Int) + 1, 1) + 0) = _
  omega
theorem ul_val : ∀ {M : Nat} {n : Int}, 0 ≤ n → SL (ul M) (fun q => at1 q.1 n) = if n ≤ M then n else M
  | 0, n, h => by
    show (0 : Int) = _
    split <;> omega
  | M + 1, n, h => by
    rw [ul_succ, ul_val h]
    unfold at1
    dsimp only
    split <;> split <;> split <;> omega
theorem ul_le {g : Int} (hg : 0 ≤ g) {x y : Nat} (hxy : x ≤ y) {f : Int × Int → Int} : ∀ {M : Nat}, (∀ i : Nat, i < M → f ((i : Int) + 1, 1) ≤ if x ≤ i ∧ i < y then g else 0) → SL (ul M) f ≤ ((min M y - min M x : Nat) : Int) * g
  | 0, _ => by
    show (0 : Int) ≤ _
    simp
  | M + 1, h => by
    have ih := ul_le hg hxy (M := M) fun i hi => h i (by omega)
    have h1 := h M (by omega)
    rw [ul_succ]
    by_cases c : x ≤ M ∧ M < y
    · rw [if_pos c] at h1
      have e : min (M + 1) y - min (M + 1) x = (min M y - min M x) + 1 := by omega
      rw [e, Int.natCast_add, Int.add_mul]
      omega
    · rw [if_neg c] at h1
      have e : min (M + 1) y - min (M + 1) x = min M y - min M x := by omega
      rw [e]
      omega
variable {p : Nat → Int} {N w : Nat}
def plc (N : Nat) : List Nat → Nat → Nat
  | [], n => n
  | b :: bs, n => plc N bs ((2 * n + b) % N)
theorem wsum_app : ∀ {xs ys : List Nat} {n : Nat}, wsum p N (xs ++ ys) n = wsum p N xs n + wsum p N ys (plc N xs n)
  | [], ys, n => by simp [wsum, plc]
  | b :: xs, ys, n => by
    show p (2 * n + b) + wsum p N (xs ++ ys) ((2 * n + b) % N) = p (2 * n + b) + wsum p N xs ((2 * n + b) % N) + wsum p N ys (plc N xs ((2 * n + b) % N))
    rw [wsum_app]
    omega
theorem num_cons {b : Nat} {bs : List Nat} : num (b :: bs) = b * 2 ^ bs.length + num bs := by
  unfold num
  rw [List.reverse_cons, rnum_app, List.length_reverse]
  show (2 * 0 + b) * _ + _ = _
  rw [Nat.mul_zero, Nat.zero_add]
theorem plc_eq : ∀ {bs : List Nat} {n : Nat}, n < N → plc N bs n = (n * 2 ^ bs.length + num bs) % N
  | [], n, h => by
    show n = (n * 1 + num []) % N
    rw [Nat.mul_one, show num [] = 0 from rfl, Nat.add_zero, Nat.mod_eq_of_lt h]
  | b :: bs, n, h => by
    show plc N bs ((2 * n + b) % N) = _
    rw [plc_eq (Nat.mod_lt _ (by omega)), num_cons, List.length_cons, Nat.pow_succ, Nat.add_mod, Nat.mul_mod, Nat.mod_mod, ← Nat.mul_mod, ← Nat.add_mod]
    congr 1
    have e : 2 * n * 2 ^ bs.length = n * (2 ^ bs.length * 2) := by rw [Nat.mul_comm 2 n, Nat.mul_assoc, Nat.mul_comm 2]
    rw [Nat.add_mul, e]
    omega
theorem plc_same {c d : Nat} {xs : List Nat} {n : Nat} (hn : n < 2 ^ w) (hl : xs.length = w) : plc (2 ^ w) (c :: xs) n = plc (2 ^ w) (d :: xs) n := by
  show plc (2 ^ w) xs _ = plc (2 ^ w) xs _
  have hN : 0 < 2 ^ w := Nat.two_pow_pos _
  rw [plc_eq (Nat.mod_lt _ hN), plc_eq (Nat.mod_lt _ hN), hl, Nat.add_comm, Nat.add_mul_mod_self_right, Nat.add_comm (((2 * n + d) % 2 ^ w) * 2 ^ w), Nat.add_mul_mod_self_right]
/-- one bit more gains what the bits behind it tell, so many at most -/
theorem diff_one {bs : List Nat} {n : Nat} (hw : 0 < w) (hn : n < 2 ^ w) (hb : Bits01 bs) : wsum p (2 ^ w) (1 :: bs) n - wsum p (2 ^ w) (0 :: bs) n = gn p w n (bs.take w) := by
  have ht : Bits01 (bs.take w) := fun c hc => hb c (List.mem_of_mem_take hc)
  have h1 := flip_one (p := p) (n := n) hw ht (by rw [List.length_take]; omega)
  have e : ∀ d, wsum p (2 ^ w) (d :: bs) n = wsum p (2 ^ w) (d :: bs.take w) n + wsum p (2 ^ w) (bs.drop w) (plc (2 ^ w) (d :: bs.take w) n) := fun d => by
    rw [← wsum_app, List.cons_append, List.take_append_drop]
  rw [e 1, e 0]
  by_cases hl : w ≤ bs.length
  · rw [plc_same (c := 1) (d := 0) hn (by rw [List.length_take]; omega)]
    unfold gn
    omega
  · rw [List.drop_eq_nil_of_le (by omega)]
    unfold gn
    show _ + 0 - (_ + 0) = _
    omega
/-- rows of bits that differ at one place, what one of them is worth more -/
theorem row_diff {pre post : List Nat} (hk : ∀ t ∈ ts, TermOk t) (hw : 0 < wd ts) (h1 : Bits01 pre) (h2 : Bits01 post) (hl : wd ts ≤ pre.length) :
    (pys o ts (toI (pre ++ 1 :: post))).sum - (pys o ts (toI (pre ++ 0 :: post))).sum = gn (bpF o ts) (wd ts) (num pre % 2 ^ wd ts) (post.take (wd ts)) := by
  have hb : ∀ d, d < 2 → Bits01 (pre ++ d :: post) := fun d hd c hc => by
    rcases List.mem_append.mp hc with hc | hc
    · exact h1 c hc
    · rcases List.mem_cons.mp hc with rfl | hc
      · exact hd
      · exact h2 c hc
  have key : ∀ d, d < 2 → (pys o ts (toI (pre ++ d :: post))).sum = ((List.range (pre.length - wd ts)).map fun i => bpF o ts (num (pre.take (wd ts + i + 1)) % 2 ^ (wd ts + 1))).sum + wsum (bpF o ts) (2 ^ wd ts) (d :: post) (num pre % 2 ^ wd ts) := fun d hd => by
    have hlen : (pre ++ d :: post).length = pre.length + (post.length + 1) := by rw [List.length_append, List.length_cons]
    have hs := ps_sum (o := o) hk (hb d hd) (post.length + 1) pre.length (by rw [hlen]) hl
    rw [List.drop_left, List.take_left] at hs
    rw [← hs]
    unfold pys
    rw [List.length_map, hlen, show pre.length + (post.length + 1) - wd ts = (pre.length - wd ts) + (post.length + 1) by omega, List.range_add, List.map_append, List.sum_append, List.map_map]
    have e1 : (List.range (pre.length - wd ts)).map (fun i => ps o ts (toI (pre ++ d :: post)) (wd ts + i)) = (List.range (pre.length - wd ts)).map fun i => bpF o ts (num (pre.take (wd ts + i + 1)) % 2 ^ (wd ts + 1)) := List.map_congr_left fun i hi => by
      have hi := List.mem_range.mp hi
      obtain ⟨b, hb2⟩ : ∃ b, (pre ++ d :: post)[wd ts + i]? = some b := ⟨_, List.getElem?_eq_getElem (by rw [hlen]; omega)⟩
      rw [ps_bits hk (hb d hd) (by omega) hb2, List.take_append_of_le_length (by omega)]
    have e2 : (List.range (post.length + 1)).map ((fun i => ps o ts (toI (pre ++ d :: post)) (wd ts + i)) ∘ fun x => pre.length - wd ts + x) = (List.range (post.length + 1)).map fun i => ps o ts (toI (pre ++ d :: post)) (pre.length + i) := List.map_congr_left fun i _ => by
      show ps o ts _ (wd ts + (pre.length - wd ts + i)) = _
      rw [show wd ts + (pre.length - wd ts + i) = pre.length + i by omega]
    rw [e1, e2]
  rw [key 1 (by omega), key 0 (by omega), ← diff_one hw (Nat.mod_lt _ (Nat.two_pow_pos _)) h2]
  omega
end
end MP.PG
set_option Elab.async false
set_option linter.all false
set_option maxRecDepth 100000
set_option maxHeartbeats 1000000
namespace MP.PG
open PySem PySem.Spec MP
open PyProof.Rows hiding St
open L2 hiding St r1
section
variable {s : Sto} {o : Int} {ts : List Term} {ns os : List Int}
theorem gg_ge : 0 ≤ gg o ts ∧ Gs (bpF o ts) (wd ts) ≤ gg o ts := by unfold gg; split <;> omega
def lyN (lev : Int) (ns : List Int) : List Nat := ns.map fun n => if lev ≤ n then 1 else 0
theorem lyN_bits {lev : Int} : Bits01 (lyN lev ns) := fun c hc => by
  obtain ⟨n, _, rfl⟩ := List.mem_map.mp hc
  split <;> decide
theorem lay_toI {lev : Int} : lay lev ns = toI (lyN lev ns) := by
  unfold lay lyN toI
  rw [List.map_map]
  refine List.map_congr_left fun n _ => ?_
  show at1 lev n = (((if lev ≤ n then 1 else 0 : Nat)) : Int)
  unfold at1
  split <;> rfl
theorem lyN_mid {lev x : Int} {pre post : List Int} : lyN lev (pre ++ x :: post) = lyN lev pre ++ (if lev ≤ x then 1 else 0) :: lyN lev post := by
  unfold lyN
  rw [List.map_append, List.map_cons]
theorem lyN_len {lev : Int} : (lyN lev ns).length = ns.length := List.length_map _
/-- one result more by so much gains so many times the greatest gain at most -/
theorem gain_le {pre post : List Int} {x more : Nat} {M : Nat} (h : Bill o ts) (hl : wd ts ≤ pre.length) (hp : ∀ n ∈ pre, 0 ≤ n ∧ n ≤ M) (hq : ∀ n ∈ post, 0 ≤ n ∧ n ≤ M) (hx : x + more ≤ M) :
    (pys o ts (pre ++ ((x + more : Nat) : Int) :: post)).sum - (pys o ts (pre ++ (x : Int) :: post)).sum ≤ (more : Int) * gg o ts := by
  obtain ⟨w1, w6⟩ := wd_rng h.ok
  have hL : ∀ y : Nat, y ≤ M → ∀ n ∈ pre ++ (y : Int) :: post, SL (ul M) (fun q => at1 q.1 n) = n := fun y hy n hn => by
    have hn2 : 0 ≤ n ∧ n ≤ M := by
      rcases List.mem_append.mp hn with hn | hn
      · exact hp n hn
      · rcases List.mem_cons.mp hn with rfl | hn
        · omega
        · exact hq n hn
    rw [ul_val hn2.1, if_pos hn2.2]
  rw [← pys_lay (L := ul M) (hL (x + more) hx), ← pys_lay (L := ul M) (hL x (by omega))]
  have e : SL (ul M) (fun q => (pys o ts (lay q.1 (pre ++ ((x + more : Nat) : Int) :: post))).sum) = SL (ul M) (fun q => (pys o ts (lay q.1 (pre ++ (x : Int) :: post))).sum) + SL (ul M) (fun q => (pys o ts (lay q.1 (pre ++ ((x + more : Nat) : Int) :: post))).sum - (pys o ts (lay q.1 (pre ++ (x : Int) :: post))).sum) := by
    rw [← SL_add]
    unfold SL
    congr 1
    exact List.map_congr_left fun q _ => by dsimp only; congr 1; omega
  rw [e]
  have hle := ul_le (g := gg o ts) gg_ge.1 (x := x) (y := x + more) (by omega) (M := M) (f := fun q => (pys o ts (lay q.1 (pre ++ ((x + more : Nat) : Int) :: post))).sum - (pys o ts (lay q.1 (pre ++ (x : Int) :: post))).sum) fun i hi => by
    dsimp only
    rw [lay_toI, lay_toI, lyN_mid, lyN_mid]
    by_cases c : x ≤ i ∧ i < x + more
    · rw [if_pos c, if_pos (by omega), if_neg (by omega), row_diff h.ok (by omega) lyN_bits lyN_bits (by rw [lyN_len]; exact hl)]
      have := (Gs_most (p := bpF o ts) (w := wd ts) w6 (n := num (lyN ((i : Int) + 1) pre) % 2 ^ wd ts) (bs := (lyN ((i : Int) + 1) post).take (wd ts)) (Nat.mod_lt _ (Nat.two_pow_pos _)) (fun c hc => lyN_bits c (List.mem_of_mem_take hc)) (by rw [List.length_take]; omega)).1
      exact Int.le_trans this gg_ge.2
    · rw [if_neg c]
      have : (if (i : Int) + 1 ≤ ((x + more : Nat) : Int) then 1 else 0) = if (i : Int) + 1 ≤ (x : Int) then 1 else 0 := by
        by_cases c2 : i < x
        · rw [if_pos (by omega), if_pos (by omega)]
        · rw [if_neg (by omega), if_neg (by omega)]
      rw [this]
      omega
  rw [show min M (x + more) - min M x = more by omega] at hle
  omega
theorem worse_ok {pre post : List Int} {x y : Int} {wide : Nat} (hr : Row (pre ++ y :: post)) (hw : wide ≤ pre.length) (hxy : x ≤ y) : g_need_worse [tI (pre ++ y :: post), tI (pre ++ x :: post), .int (wide : Int)] s = .ok (tI (pre ++ y :: post)) s := by
  have hlen : ∀ z : Int, (pre ++ z :: post).length = pre.length + (post.length + 1) := fun z => by rw [List.length_append, List.length_cons]
  let ρ0 : Option Dv → Option Dv → Option Dv → Env := fun a b c => [some (tI (pre ++ y :: post)), some (tI (pre ++ x :: post)), some (.int (wide : Int)), a, b, c]
  have e0 : startD 6 [tI (pre ++ y :: post), tI (pre ++ x :: post), .int (wide : Int)] = ρ0 none none none := rfl
  have c1 : mExpr (mCall (g_need_row) (mCons (mVar 0) mNil)) (ρ0 none none none) s = .nx (ρ0 none none none) s := expr_v (w := tI (pre ++ y :: post)) (by rw [call_ev, cons_v (w := tI (pre ++ y :: post)) rfl nil_ev, bind_ok]; exact need_row_ok hr s)
  have c2 : mIfS (mTest (mBin neD (mBlt lenD (mCons (mVar 0) mNil)) (mBlt lenD (mCons (mVar 1) mNil)))) mStuck mNext (ρ0 none none none) s = .nx (ρ0 none none none) s := by
    refine (ifS_f (test_v (bin_v (x := .int (pre.length + (post.length + 1) : Nat)) (y := .int (pre.length + (post.length + 1) : Nat)) (blt_v (cons_v (w := tI (pre ++ y :: post)) rfl nil_ev) (by rw [len_tup, List.length_map, hlen])) (blt_v (cons_v (w := tI (pre ++ x :: post)) rfl nil_ev) (by rw [len_tup, List.length_map, hlen])) ?_))).trans rfl
    rw [ne_ii, decide_eq_true rfl]
    rfl
  have hF : F_need_worse_1 (ρ0 none none none) s = .ok { ws := enumD 0 (zipD ((pre ++ x :: post).map .int) ((pre ++ y :: post).map .int)) } s := rfl
  obtain ⟨ρ', s', f1, rfl, a, b, c, rfl⟩ := for_ix (g := t_need_worse_1) (body := b_need_worse_1) (fun _ ρ s' => s' = s ∧ ∃ a b c, ρ = ρ0 a b c) hF ⟨rfl, _, _, _, rfl⟩ fun i z ρ s' hz hJ => by
      obtain ⟨rfl, a, b, c, rfl⟩ := hJ
      obtain ⟨q, hq, rfl⟩ := enumD_get hz
      obtain ⟨u, v, hu, hv, rfl⟩ := zipD_get hq
      rw [List.getElem?_map] at hu hv
      obtain ⟨u', hu', rfl⟩ : ∃ u', (pre ++ x :: post)[i]? = some u' ∧ u = .int u' := by
        cases e : (pre ++ x :: post)[i]? with
        | none => rw [e] at hu; cases hu
        | some u' => rw [e] at hu; exact ⟨u', rfl, (Option.some.inj hu).symm⟩
      obtain ⟨v', hv', rfl⟩ : ∃ v', (pre ++ y :: post)[i]? = some v' ∧ v = .int v' := by
        cases e : (pre ++ y :: post)[i]? with
        | none => rw [e] at hv; cases hv
        | some v' => rw [e] at hv; exact ⟨v', rfl, (Option.some.inj hv).symm⟩
      have huv : u' ≤ v' ∧ (i < wide → u' = v') := by
        by_cases h1 : i < pre.length
        · rw [List.getElem?_append_left h1] at hu' hv'
          rw [hu'] at hv'
          cases hv'
          exact ⟨Int.le_refl _, fun _ => rfl⟩
        · rw [List.getElem?_append_right (by omega)] at hu' hv'
          refine ⟨?_, fun h => by omega⟩
          cases e : i - pre.length with
          | zero =>
            rw [e] at hu' hv'
            cases hu'
            cases hv'
            exact hxy
          | succ k =>
            rw [e] at hu' hv'
            rw [List.getElem?_cons_succ] at hu' hv'
            rw [hu'] at hv'
            cases hv'
            exact Int.le_refl _
      refine ⟨ρ0 (some (.int ((0 + i : Nat) : Int))) (some (.int u')) (some (.int v')), ρ0 (some (.int ((0 + i : Nat) : Int))) (some (.int u')) (some (.int v')), s', rfl, .inl ?_, rfl, _, _, _, rfl⟩
      unfold b_need_worse_1
      refine (ifS_f (or_f (test_v (bin_v (x := .int v') (y := .int u') rfl rfl (by rw [lt_ii, decide_eq_false (by omega)]))) ?_)).trans rfl
      by_cases hiw : i < wide
      · refine and_t (test_v (bin_v (x := .int ((0 + i : Nat) : Int)) (y := .int (wide : Int)) rfl rfl (by rw [lt_ii, decide_eq_true (by omega)]))) (test_v (bin_v (x := .int v') (y := .int u') rfl rfl (by rw [gt_ii, decide_eq_false (by have := huv.2 hiw; omega)])))
      · exact and_f (test_v (bin_v (x := .int ((0 + i : Nat) : Int)) (y := .int (wide : Int)) rfl rfl (by rw [lt_ii, decide_eq_false (by omega)])))
  unfold g_need_worse d_need_worse
  rw [den_ev, e0]
  refine fin_nx c1 (fin_nx c2 (fin_nx f1 ?_))
  rw [ret_v (w := tI (pre ++ y :: post)) rfl]
  exact finC_rt
theorem gain_ok {pre post : List Int} {x y : Int} (h : Bill o ts) (h1 : Row (pre ++ x :: post)) (h2 : Row (pre ++ y :: post)) (hw : wd ts ≤ pre.length) (hxy : x ≤ y) :
    g_gain [bi o ts, tI (pre ++ x :: post), tI (pre ++ y :: post)] s = .ok (.int ((pys o ts (pre ++ y :: post)).sum - (pys o ts (pre ++ x :: post)).sum)) s := by
  have hlen : ∀ z : Int, (pre ++ z :: post).length = pre.length + (post.length + 1) := fun z => by rw [List.length_append, List.length_cons]
  have e0 : startD 4 [bi o ts, tI (pre ++ x :: post), tI (pre ++ y :: post)] = [some (bi o ts), some (tI (pre ++ x :: post)), some (tI (pre ++ y :: post)), none] := rfl
  have c1 : mAsg (mCall (g_width_of) (mCons (mCall (g_need_bill) (mCons (mVar 0) mNil)) mNil)) (gN 3) [some (bi o ts), some (tI (pre ++ x :: post)), some (tI (pre ++ y :: post)), none] s = .nx [some (bi o ts), some (tI (pre ++ x :: post)), some (tI (pre ++ y :: post)), some (.int (wd ts : Int))] s := by
    refine (asg_v (w := .int (wd ts : Int)) ?_).trans rfl
    rw [call_ev, cons_v (w := bi o ts) (by rw [call_ev, cons_v (w := bi o ts) rfl nil_ev, bind_ok]; exact need_bill_ok h) nil_ev, bind_ok]
    exact width_of_ok h.ok h.two
  have c2 : mExpr (mCall (g_need_row_of) (mCons (mVar 1) (mCons (mVar 3) mNil))) [some (bi o ts), some (tI (pre ++ x :: post)), some (tI (pre ++ y :: post)), some (.int (wd ts : Int))] s = .nx [some (bi o ts), some (tI (pre ++ x :: post)), some (tI (pre ++ y :: post)), some (.int (wd ts : Int))] s := expr_v (w := tI (pre ++ x :: post)) (by
    rw [call_ev, cons_v (w := tI (pre ++ x :: post)) rfl (cons_v (w := .int (wd ts : Int)) rfl nil_ev), bind_ok]
    exact need_row_of_ok h1 (by rw [hlen]; omega) s)
  have c3 : mExpr (mCall (g_need_worse) (mCons (mVar 2) (mCons (mVar 1) (mCons (mVar 3) mNil)))) [some (bi o ts), some (tI (pre ++ x :: post)), some (tI (pre ++ y :: post)), some (.int (wd ts : Int))] s = .nx [some (bi o ts), some (tI (pre ++ x :: post)), some (tI (pre ++ y :: post)), some (.int (wd ts : Int))] s := expr_v (w := tI (pre ++ y :: post)) (by
    rw [call_ev, cons_v (w := tI (pre ++ y :: post)) rfl (cons_v (w := tI (pre ++ x :: post)) rfl (cons_v (w := .int (wd ts : Int)) rfl nil_ev)), bind_ok]
    exact worse_ok h2 hw hxy)
  unfold g_gain d_gain
  rw [den_ev, e0]
  refine fin_nx c1 (fin_nx c2 (fin_nx c3 ?_))
  rw [ret_v (w := .int ((pys o ts (pre ++ y :: post)).sum - (pys o ts (pre ++ x :: post)).sum)) (bin_v (x := .int (pys o ts (pre ++ y :: post)).sum) (y := .int (pys o ts (pre ++ x :: post)).sum) (blt_v (cons_v (w := tI (pys o ts (pre ++ y :: post))) (by rw [call_ev, cons_v (w := bi o ts) rfl (cons_v (w := tI (pre ++ y :: post)) rfl nil_ev), bind_ok]; exact pays_of_ok h h2 (by rw [hlen]; omega)) nil_ev) sum_TI) (blt_v (cons_v (w := tI (pys o ts (pre ++ x :: post))) (by rw [call_ev, cons_v (w := bi o ts) rfl (cons_v (w := tI (pre ++ x :: post)) rfl nil_ev), bind_ok]; exact pays_of_ok h h1 (by rw [hlen]; omega)) nil_ev) sum_TI) sub_ev)]
  exact finC_rt
end
end MP.PG
set_option Elab.async false
set_option linter.all false
set_option maxRecDepth 100000
set_option maxHeartbeats 4000000
namespace MP.K13
open PySem PySem.Spec PyProof.Rows L2 MP MP.PG
def topS (i : Nat) : Stmt := PySem.Challenge.pw_bestoflast_k13_whole_once_gains.main.body.getD i (.Pass ⟨0, 0, 0, 0⟩)
structure Ns (Γ : Ct) (mg : Str → Option Value) : Prop where
  n_divmod : mg "divmod" = none
  n_enumerate : mg "enumerate" = none
  n_int : mg "int" = none
  n_isinstance : mg "isinstance" = none
  n_len : mg "len" = none
  n_list : mg "list" = none
  n_max : mg "max" = none
  n_min : mg "min" = none
  n_range : mg "range" = none
  n_repr : mg "repr" = none
  n_reversed : mg "reversed" = none
  n_sorted : mg "sorted" = none
  n_str : mg "str" = none
  n_sum : mg "sum" = none
  n_tuple : mg "tuple" = none
  n_zip : mg "zip" = none
  c_BITS : ∃ u, mg "BITS" = some u ∧ KRV Γ.K (.tup [.int 0, .int 1]) u
  c_GREATEST_FACTOR : ∃ t, mg "GREATEST_FACTOR" = some (.int 50 t)
  c_GREATEST_RESULT : ∃ t, mg "GREATEST_RESULT" = some (.int 1000000 t)
  c_GREATEST_WEIGHT : ∃ t, mg "GREATEST_WEIGHT" = some (.int 20 t)
  c_MORE_THAN_BITS : ∃ t, mg "MORE_THAN_BITS" = some (.int 16 t)
  c_MOST_RESULTS : ∃ t, mg "MOST_RESULTS" = some (.int 200 t)
  c_MOST_TERMS : ∃ t, mg "MOST_TERMS" = some (.int 2 t)
  c_MOST_WEIGHTS : ∃ t, mg "MOST_WEIGHTS" = some (.int 6 t)
  c_OF_BITS : ∃ t, mg "OF_BITS" = some (.int 2 t)
  c_OF_PAIRS : ∃ t, mg "OF_PAIRS" = some (.int 3 t)
  c_PAIRS : ∃ u, mg "PAIRS" = some u ∧ KRV Γ.K (.tup [.tup [.int 0, .int 0], .tup [.int 0, .int 1], .tup [.int 1, .int 1]]) u
abbrev s_is_int : Stmt := topS 7
theorem sc_is_int : FnScope ["thing"] ["thing"] (defScope s_is_int) := ⟨rfl, rfl, rfl, by decide +kernel, rfl, by decide +kernel, by decide +kernel⟩
abbrev s_is_int_within : Stmt := topS 8
theorem sc_is_int_within : FnScope ["thing", "least", "most"] ["thing", "least", "most"] (defScope s_is_int_within) := ⟨rfl, rfl, rfl, by decide +kernel, rfl, by decide +kernel, by decide +kernel⟩
abbrev s_is_tuple : Stmt := topS 9
theorem sc_is_tuple : FnScope ["thing", "least", "most"] ["thing", "least", "most"] (defScope s_is_tuple) := ⟨rfl, rfl, rfl, by decide +kernel, rfl, by decide +kernel, by decide +kernel⟩
abbrev s_first_outside : Stmt := topS 10
theorem sc_first_outside : FnScope ["things", "least", "most", "number", "thing"] ["things", "least", "most"] (defScope s_first_outside) := ⟨rfl, rfl, rfl, by decide +kernel, rfl, by decide +kernel, by decide +kernel⟩
abbrev s_need_rule : Stmt := topS 16
theorem sc_need_rule : FnScope ["thing", "number"] ["thing"] (defScope s_need_rule) := ⟨rfl, rfl, rfl, by decide +kernel, rfl, by decide +kernel, by decide +kernel⟩
abbrev s_is_rule : Stmt := topS 17
theorem sc_is_rule : FnScope ["thing"] ["thing"] (defScope s_is_rule) := ⟨rfl, rfl, rfl, by decide +kernel, rfl, by decide +kernel, by decide +kernel⟩
abbrev s_need_row : Stmt := topS 18
theorem sc_need_row : FnScope ["thing", "number"] ["thing"] (defScope s_need_row) := ⟨rfl, rfl, rfl, by decide +kernel, rfl, by decide +kernel, by decide +kernel⟩
abbrev s_need_row_of : Stmt := topS 19
theorem sc_need_row_of : FnScope ["thing", "least"] ["thing", "least"] (defScope s_need_row_of) := ⟨rfl, rfl, rfl, by decide +kernel, rfl, by decide +kernel, by decide +kernel⟩
abbrev s_index_of : Stmt := topS 20
theorem sc_index_of : FnScope ["rule", "results", "last", "weight", "result"] ["rule", "results"] (defScope s_index_of) := ⟨rfl, rfl, rfl, by decide +kernel, rfl, by decide +kernel, by decide +kernel⟩
abbrev s_indexes_by_ones : Stmt := topS 21
theorem sc_indexes_by_ones : FnScope ["rule", "told", "weight"] ["rule"] (defScope s_indexes_by_ones) := ⟨rfl, rfl, rfl, by decide +kernel, rfl, by decide +kernel, by decide +kernel⟩
abbrev s_is_factor : Stmt := topS 25
theorem sc_is_factor : FnScope ["thing"] ["thing"] (defScope s_is_factor) := ⟨rfl, rfl, rfl, by decide +kernel, rfl, by decide +kernel, by decide +kernel⟩
abbrev s_is_term : Stmt := topS 26
theorem sc_is_term : FnScope ["thing", "rule", "ahead", "behind"] ["thing"] (defScope s_is_term) := ⟨rfl, rfl, rfl, by decide +kernel, rfl, by decide +kernel, by decide +kernel⟩
abbrev s_need_bill : Stmt := topS 27
theorem sc_need_bill : FnScope ["thing", "own", "terms", "number", "term"] ["thing"] (defScope s_need_bill) := ⟨rfl, rfl, rfl, by decide +kernel, rfl, by decide +kernel, by decide +kernel⟩
abbrev s_width_of : Stmt := topS 28
theorem sc_width_of : FnScope ["bill", "term"] ["bill"] (defScope s_width_of) := ⟨rfl, rfl, rfl, by decide +kernel, rfl, by decide +kernel, by decide +kernel⟩
abbrev s_last_pay : Stmt := topS 29
theorem sc_last_pay : FnScope ["bill", "results", "own", "terms", "before", "parts", "rule", "ahead", "behind"] ["bill", "results"] (defScope s_last_pay) := ⟨rfl, rfl, rfl, by decide +kernel, rfl, by decide +kernel, by decide +kernel⟩
abbrev s_pays_of : Stmt := topS 30
theorem sc_pays_of : FnScope ["bill", "results", "wide", "at"] ["bill", "results"] (defScope s_pays_of) := ⟨rfl, rfl, rfl, by decide +kernel, rfl, by decide +kernel, by decide +kernel⟩
abbrev s_signs_of : Stmt := topS 36
theorem sc_signs_of : FnScope ["number", "signs", "wide", "told", "_", "figure"] ["number", "signs", "wide"] (defScope s_signs_of) := ⟨rfl, rfl, rfl, by decide +kernel, rfl, by decide +kernel, by decide +kernel⟩
abbrev s_ones_of : Stmt := topS 37
theorem sc_ones_of : FnScope ["wide", "ones", "_", "many"] ["wide"] (defScope s_ones_of) := ⟨rfl, rfl, rfl, by decide +kernel, rfl, by decide +kernel, by decide +kernel⟩
abbrev s_term_pays : Stmt := topS 38
theorem sc_term_pays : FnScope ["term", "wide", "rule", "ahead", "behind", "told", "indexes", "fronts", "pays", "ones", "index", "_", "front", "back"] ["term", "wide"] (defScope s_term_pays) := ⟨rfl, rfl, rfl, by decide +kernel, rfl, by decide +kernel, by decide +kernel⟩
abbrev s_bit_pays : Stmt := topS 39
theorem sc_bit_pays : FnScope ["bill", "own", "terms", "wide", "pays", "term", "paid", "more"] ["bill"] (defScope s_bit_pays) := ⟨rfl, rfl, rfl, by decide +kernel, rfl, by decide +kernel, by decide +kernel⟩
abbrev s_pays_of_firsts : Stmt := topS 40
theorem sc_pays_of_firsts : FnScope ["pays", "parts", "pay", "zero", "one"] ["pays"] (defScope s_pays_of_firsts) := ⟨rfl, rfl, rfl, by decide +kernel, rfl, by decide +kernel, by decide +kernel⟩
abbrev s_pays_of_seconds : Stmt := topS 41
theorem sc_pays_of_seconds : FnScope ["pays", "parts", "pay", "zero", "one"] ["pays"] (defScope s_pays_of_seconds) := ⟨rfl, rfl, rfl, by decide +kernel, rfl, by decide +kernel, by decide +kernel⟩
abbrev s_pair_pays : Stmt := topS 42
theorem sc_pair_pays : FnScope ["pays", "pay", "more"] ["pays"] (defScope s_pair_pays) := ⟨rfl, rfl, rfl, by decide +kernel, rfl, by decide +kernel, by decide +kernel⟩
abbrev s_like_couples : Stmt := topS 43
theorem sc_like_couples : FnScope ["wide", "numbers", "_", "number", "figure"] ["wide"] (defScope s_like_couples) := ⟨rfl, rfl, rfl, by decide +kernel, rfl, by decide +kernel, by decide +kernel⟩
abbrev s_paid_at : Stmt := topS 46
theorem sc_paid_at : FnScope ["height"] ["height"] (defScope s_paid_at) := ⟨rfl, rfl, rfl, by decide +kernel, rfl, by decide +kernel, by decide +kernel⟩
abbrev s_more_by : Stmt := topS 47
theorem sc_more_by : FnScope ["pays", "flip", "window", "pay"] ["pays", "flip"] (defScope s_more_by) := ⟨rfl, rfl, rfl, by decide +kernel, rfl, by decide +kernel, by decide +kernel⟩
abbrev s_heights_ahead : Stmt := topS 48
theorem sc_heights_ahead : FnScope ["pays", "flip", "behind", "walks", "more", "height", "zero", "one"] ["pays", "flip", "behind"] (defScope s_heights_ahead) := ⟨rfl, rfl, rfl, by decide +kernel, rfl, by decide +kernel, by decide +kernel⟩
abbrev s_layers_of : Stmt := topS 49
theorem sc_layers_of : FnScope ["pays", "flips", "layers", "flip"] ["pays", "flips"] (defScope s_layers_of) := ⟨rfl, rfl, rfl, by decide +kernel, rfl, by decide +kernel, by decide +kernel⟩
abbrev s_further_bits : Stmt := topS 50
theorem sc_further_bits : FnScope ["pays", "flips", "layers", "number", "bits", "flip", "heights", "behind", "window"] ["pays", "flips", "layers", "number"] (defScope s_further_bits) := ⟨rfl, rfl, rfl, by decide +kernel, rfl, by decide +kernel, by decide +kernel⟩
abbrev s_best_single : Stmt := topS 51
theorem sc_best_single : FnScope ["pays", "wide", "flips", "layers", "many", "mores", "heights", "best", "number", "place", "further", "step", "window"] ["pays", "wide"] (defScope s_best_single) := ⟨rfl, rfl, rfl, by decide +kernel, rfl, by decide +kernel, by decide +kernel⟩
abbrev s_raised : Stmt := topS 53
theorem sc_raised : FnScope ["pays", "heights", "base", "higher", "walks", "sign", "pay", "behind", "one", "two"] ["pays", "heights", "base"] (defScope s_raised) := ⟨rfl, rfl, rfl, by decide +kernel, rfl, by decide +kernel, by decide +kernel⟩
abbrev s_trail : Stmt := topS 54
theorem sc_trail : FnScope ["pays", "layers", "start", "base", "number", "numbers", "signs", "level", "lower", "window"] ["pays", "layers", "start", "base"] (defScope s_trail) := ⟨rfl, rfl, rfl, by decide +kernel, rfl, by decide +kernel, by decide +kernel⟩
abbrev s_ring_on : Stmt := topS 55
theorem sc_ring_on : FnScope ["numbers", "signs", "seen", "at", "number"] ["numbers", "signs"] (defScope s_ring_on) := ⟨rfl, rfl, rfl, by decide +kernel, rfl, by decide +kernel, by decide +kernel⟩
abbrev s_ring_of_one : Stmt := topS 56
theorem sc_ring_of_one : FnScope ["pays", "base", "ones", "sign"] ["pays", "base"] (defScope s_ring_of_one) := ⟨rfl, rfl, rfl, by decide +kernel, rfl, by decide +kernel, by decide +kernel⟩
abbrev s_steepest : Stmt := topS 57
theorem sc_steepest : FnScope ["layers", "grown", "height", "lower"] ["layers"] (defScope s_steepest) := ⟨rfl, rfl, rfl, by decide +kernel, rfl, by decide +kernel, by decide +kernel⟩
abbrev s_climb : Stmt := topS 58
theorem sc_climb : FnScope ["pays", "base", "ring", "layers", "look", "heights", "numbers", "signs"] ["pays", "base"] (defScope s_climb) := ⟨rfl, rfl, rfl, by decide +kernel, rfl, by decide +kernel, by decide +kernel⟩
abbrev s_greatest_of : Stmt := topS 59
theorem sc_greatest_of : FnScope ["heights", "starts", "start"] ["heights", "starts"] (defScope s_greatest_of) := ⟨rfl, rfl, rfl, by decide +kernel, rfl, by decide +kernel, by decide +kernel⟩
abbrev s_best_walk : Stmt := topS 60
theorem sc_best_walk : FnScope ["pays", "layers", "starts", "base", "top", "fewest", "best_starts", "_", "signs", "start"] ["pays", "layers", "starts", "base"] (defScope s_best_walk) := ⟨rfl, rfl, rfl, by decide +kernel, rfl, by decide +kernel, by decide +kernel⟩
abbrev s_need_kind : Stmt := topS 62
theorem sc_need_kind : FnScope ["thing"] ["thing"] (defScope s_need_kind) := ⟨rfl, rfl, rfl, by decide +kernel, rfl, by decide +kernel, by decide +kernel⟩
abbrev s_need_worse : Stmt := topS 63
theorem sc_need_worse : FnScope ["thing", "row", "wide", "number", "result", "worse"] ["thing", "row", "wide"] (defScope s_need_worse) := ⟨rfl, rfl, rfl, by decide +kernel, rfl, by decide +kernel, by decide +kernel⟩
abbrev s_gain : Stmt := topS 64
theorem sc_gain : FnScope ["bill", "row", "other", "wide"] ["bill", "row", "other"] (defScope s_gain) := ⟨rfl, rfl, rfl, by decide +kernel, rfl, by decide +kernel, by decide +kernel⟩
abbrev s_greatest_gain : Stmt := topS 65
theorem sc_greatest_gain : FnScope ["bill", "kind", "wide", "layers", "ring"] ["bill", "kind"] (defScope s_greatest_gain) := ⟨rfl, rfl, rfl, by decide +kernel, rfl, by decide +kernel, by decide +kernel⟩
abbrev s_rows_of : Stmt := topS 66
theorem sc_rows_of : FnScope ["pairs", "pair"] ["pairs"] (defScope s_rows_of) := ⟨rfl, rfl, rfl, by decide +kernel, rfl, by decide +kernel, by decide +kernel⟩
abbrev s_rows_of_gain : Stmt := topS 67
theorem sc_rows_of_gain : FnScope ["pays", "layers", "wide", "start", "figures", "figure"] ["pays", "layers", "wide"] (defScope s_rows_of_gain) := ⟨rfl, rfl, rfl, by decide +kernel, rfl, by decide +kernel, by decide +kernel⟩
abbrev s_rows_of_single : Stmt := topS 68
theorem sc_rows_of_single : FnScope ["bill", "wide", "paid", "row", "worse"] ["bill"] (defScope s_rows_of_single) := ⟨rfl, rfl, rfl, by decide +kernel, rfl, by decide +kernel, by decide +kernel⟩
abbrev s_gain_rows : Stmt := topS 69
theorem sc_gain_rows : FnScope ["bill", "kind", "wide", "pays", "layers", "ring"] ["bill", "kind"] (defScope s_gain_rows) := ⟨rfl, rfl, rfl, by decide +kernel, rfl, by decide +kernel, by decide +kernel⟩
abbrev s_does_pay : Stmt := topS 70
theorem sc_does_pay : FnScope ["bill", "kind"] ["bill", "kind"] (defScope s_does_pay) := ⟨rfl, rfl, rfl, by decide +kernel, rfl, by decide +kernel, by decide +kernel⟩
abbrev s__law_begun : Stmt := topS 72
theorem sc__law_begun : FnScope ["script", "great", "cell"] ["script"] (defScope s__law_begun) := ⟨rfl, rfl, rfl, by decide +kernel, rfl, by decide +kernel, by decide +kernel⟩
abbrev s__law_draw : Stmt := topS 73
theorem sc__law_draw : FnScope ["m", "many", "found", "spot", "cell", "mixed"] ["m", "many"] (defScope s__law_draw) := ⟨rfl, rfl, rfl, by decide +kernel, rfl, by decide +kernel, by decide +kernel⟩
abbrev s__law_of : Stmt := topS 74
theorem sc__law_of : FnScope ["m", "some"] ["m", "some"] (defScope s__law_of) := ⟨rfl, rfl, rfl, by decide +kernel, rfl, by decide +kernel, by decide +kernel⟩
abbrev s__law_weights : Stmt := topS 75
theorem sc__law_weights : FnScope ["m", "most", "wide", "some", "k"] ["m", "most"] (defScope s__law_weights) := ⟨rfl, rfl, rfl, by decide +kernel, rfl, by decide +kernel, by decide +kernel⟩
abbrev s__law_drawn_bill : Stmt := topS 76
theorem sc__law_drawn_bill : FnScope ["m", "most", "own", "terms", "k"] ["m", "most"] (defScope s__law_drawn_bill) := ⟨rfl, rfl, rfl, by decide +kernel, rfl, by decide +kernel, by decide +kernel⟩
abbrev s__law_tame_bill : Stmt := topS 77
theorem sc__law_tame_bill : FnScope ["m", "most", "some", "own", "k"] ["m", "most"] (defScope s__law_tame_bill) := ⟨rfl, rfl, rfl, by decide +kernel, rfl, by decide +kernel, by decide +kernel⟩
abbrev s__law_drawn_row : Stmt := topS 78
theorem sc__law_drawn_row : FnScope ["m", "least", "more", "high", "k"] ["m", "least", "more", "high"] (defScope s__law_drawn_row) := ⟨rfl, rfl, rfl, by decide +kernel, rfl, by decide +kernel, by decide +kernel⟩
abbrev s__law_index : Stmt := topS 79
theorem sc__law_index : FnScope ["rule_so", "some", "found", "left", "k"] ["rule_so", "some"] (defScope s__law_index) := ⟨rfl, rfl, rfl, by decide +kernel, rfl, by decide +kernel, by decide +kernel⟩
abbrev s__law_wide : Stmt := topS 80
theorem sc__law_wide : FnScope ["bill_so", "term"] ["bill_so"] (defScope s__law_wide) := ⟨rfl, rfl, rfl, by decide +kernel, rfl, by decide +kernel, by decide +kernel⟩
abbrev s__law_paid : Stmt := topS 81
theorem sc__law_paid : FnScope ["bill_so", "row_so", "found", "spot", "whole", "rule_so", "before", "after", "size"] ["bill_so", "row_so"] (defScope s__law_paid) := ⟨rfl, rfl, rfl, by decide +kernel, rfl, by decide +kernel, by decide +kernel⟩
abbrev s__law_bit_rows : Stmt := topS 82
theorem sc__law_bit_rows : FnScope ["many", "found", "k", "longer", "row"] ["many"] (defScope s__law_bit_rows) := ⟨rfl, rfl, rfl, by decide +kernel, rfl, by decide +kernel, by decide +kernel⟩
abbrev s__law_gains : Stmt := topS 83
theorem sc__law_gains : FnScope ["bill_so", "size", "found", "begin", "many", "behind", "near", "far", "more"] ["bill_so"] (defScope s__law_gains) := ⟨rfl, rfl, rfl, by decide +kernel, rfl, by decide +kernel, by decide +kernel⟩
noncomputable def F__law_gains_1 : FI := (iSeq (mCall (g__law_bit_rows) (mCons (mVar 4) mNil)))
noncomputable def t__law_gains_1 : FG := (gN 5)
noncomputable def b__law_gains_1 : FS := (mSeq (mPar 6 7 (mCons (mBin addD (mBin addD (mVar 3) (mTup (mCons (mK (.int 0)) mNil))) (mVar 5)) (mCons (mBin addD (mBin addD (mVar 3) (mTup (mCons (mK (.int 1)) mNil))) (mVar 5)) mNil)))
  (mSeq (mAsg (mBin subD (mBlt sumA (mCons (mCall (g__law_paid) (mCons (mVar 0) (mCons (mVar 7) mNil))) mNil)) (mBlt sumA (mCons (mCall (g__law_paid) (mCons (mVar 0) (mCons (mVar 6) mNil))) mNil))) (gN 8))
  (mExpr (mApp (mVar 2) (mTup (mCons (mVar 8) (mCons (mBin addD (mVar 4) (mK (.int 1))) mNil)))))))
noncomputable def F__law_gains_2 : FI := (iRange1 (mCons (mBin addD (mVar 1) (mK (.int 1))) mNil))
noncomputable def t__law_gains_2 : FG := (gN 4)
noncomputable def b__law_gains_2 : FS := (mFor F__law_gains_1 t__law_gains_1 b__law_gains_1)
noncomputable def F__law_gains_3 : FI := (iSeq (mCall (g__law_bit_rows) (mCons (mVar 1) mNil)))
noncomputable def t__law_gains_3 : FG := (gN 3)
noncomputable def b__law_gains_3 : FS := (mFor F__law_gains_2 t__law_gains_2 b__law_gains_2)
noncomputable def d__law_gains : FS := (mSeq (mPar 1 2 (mCons (mCall (g__law_wide) (mCons (mVar 0) mNil)) (mCons (mLstM (mCons (mTup (mCons (mK (.int 0)) (mCons (mK (.int 0)) mNil))) mNil)) mNil)))
  (mSeq (mFor F__law_gains_3 t__law_gains_3 b__law_gains_3)
  (mRet (mVar 2))))
noncomputable def g__law_gains : Fn := denOf 9 d__law_gains
abbrev s__law_results_right : Stmt := topS 85
theorem sc__law_results_right : FnScope ["m", "bill_so", "size", "due", "again", "near", "spot", "more", "far"] ["m", "bill_so", "size", "due"] (defScope s__law_results_right) := ⟨rfl, rfl, rfl, by decide +kernel, rfl, by decide +kernel, by decide +kernel⟩
noncomputable def F__law_results_right_1 : FI := (iRange1 (mCons (mK (.int 5)) mNil))
noncomputable def t__law_results_right_1 : FG := (gN 4)
noncomputable def b__law_results_right_1 : FS := (mSeq (mAsg (mCall (g__law_drawn_row) (mCons (mVar 0) (mCons (mBin addD (mVar 2) (mK (.int 1))) (mCons (mK (.int 9)) (mCons (mCall (g__law_of) (mCons (mVar 0) (mCons (mLst (mCons (mK (.int 1)) (mCons (mK (.int 5)) (mCons (mK (.int 900000)) mNil)))) mNil))) mNil))))) (gN 5))
  (mSeq (mPar 6 7 (mCons (mBin addD (mVar 2) (mCall (g__law_draw) (mCons (mVar 0) (mCons (mBin subD (mBlt lenD (mCons (mVar 5) mNil)) (mVar 2)) mNil)))) (mCons (mCall (g__law_draw) (mCons (mVar 0) (mCons (mK (.int 90000)) mNil))) mNil)))
  (mSeq (mAsg (mBin addD (mBin addD (mSl slA (mVar 5) mNoPart (mPart (mVar 6))) (mTup (mCons (mBin addD (mBin ixA (mVar 5) (mVar 6)) (mVar 7)) mNil))) (mSl slA (mVar 5) (mPart (mBin addD (mVar 6) (mK (.int 1)))) mNoPart)) (gN 8))
  (mIfS (mTest (mBin gtD (mCall (g_gain) (mCons (mVar 1) (mCons (mVar 5) (mCons (mVar 8) mNil)))) (mBin mulD (mVar 7) (mVar 3)))) (mRet (mK (.bl false))) mNext))))
noncomputable def d__law_results_right : FS := (mSeq (mFor F__law_results_right_1 t__law_results_right_1 b__law_results_right_1)
  (mRet (mK (.bl true))))
noncomputable def g__law_results_right : Fn := denOf 9 d__law_results_right
abbrev s__law_right : Stmt := topS 84
theorem sc__law_right : FnScope ["m", "bill_so", "found", "size", "due", "least", "heard", "near", "far", "more", "many", "one", "two"] ["m", "bill_so"] (defScope s__law_right) := ⟨rfl, rfl, rfl, by decide +kernel, rfl, by decide +kernel, by decide +kernel⟩
noncomputable def cF__law_right_1 : FI := (iSeq (mVar 2))
noncomputable def ct__law_right_1 : FG := (gT 2 (gsC (gN 9) (gsC (gN 10) gs0)))
noncomputable def ci__law_right_1 : FT := mYes
noncomputable def ce__law_right_1 : FE := (mVar 9)
noncomputable def cF__law_right_2 : FI := (iSeq (mVar 2))
noncomputable def ct__law_right_2 : FG := (gT 2 (gsC (gN 9) (gsC (gN 10) gs0)))
noncomputable def ci__law_right_2 : FT := (mTest (mBin eqD (mVar 9) (mVar 4)))
noncomputable def ce__law_right_2 : FE := (mVar 10)
noncomputable def cF__law_right_3 : FI := (iZip2 (mCons (mVar 7) (mCons (mVar 8) mNil)))
noncomputable def ct__law_right_3 : FG := (gT 2 (gsC (gN 11) (gsC (gN 12) gs0)))
noncomputable def ci__law_right_3 : FT := (mTest (mBin neD (mVar 11) (mVar 12)))
noncomputable def ce__law_right_3 : FE := (mK (.int 1))
noncomputable def cF__law_right_4 : FI := (iZip2 (mCons (mVar 7) (mCons (mVar 8) mNil)))
noncomputable def ct__law_right_4 : FG := (gT 2 (gsC (gN 11) (gsC (gN 12) gs0)))
noncomputable def ci__law_right_4 : FT := (mTest (mBin (inT true) (mTup (mCons (mVar 11) (mCons (mVar 12) mNil))) (mTup (mCons (mTup (mCons (mK (.int 0)) (mCons (mK (.int 0)) mNil))) (mCons (mTup (mCons (mK (.int 0)) (mCons (mK (.int 1)) mNil))) (mCons (mTup (mCons (mK (.int 1)) (mCons (mK (.int 1)) mNil))) mNil))))))
noncomputable def ce__law_right_4 : FE := (mK (.int 1))
noncomputable def d__law_right : FS := (mSeq (mPar 2 3 (mCons (mCall (g__law_gains) (mCons (mVar 1) mNil)) (mCons (mCall (g__law_wide) (mCons (mVar 1) mNil)) mNil)))
  (mSeq (mAsg (mBlt maxLD (mCons (mComp cF__law_right_1 [9, 10] ct__law_right_1 ci__law_right_1 ce__law_right_1) mNil)) (gN 4))
  (mSeq (mAsg (mBlt minLD (mCons (mComp cF__law_right_2 [9, 10] ct__law_right_2 ci__law_right_2 ce__law_right_2) mNil)) (gN 5))
  (mSeq (mAsg (mLst (mCons (mCall (g_greatest_gain) (mCons (mVar 1) (mCons (mK (.str "once")) mNil))) (mCons (mCall (g_does_pay) (mCons (mVar 1) (mCons (mK (.str "once")) mNil))) (mCons (mCall (g_greatest_gain) (mCons (mVar 1) (mCons (mK (.str "once")) mNil))) mNil)))) (gN 6))
  (mSeq (mIfS (mOr (mTest (mBin neD (mBlt reprA (mCons (mVar 6) mNil)) (mBlt reprA (mCons (mLst (mCons (mVar 4) (mCons (mBin gtD (mVar 4) (mK (.int 0))) (mCons (mVar 4) mNil)))) mNil)))) (mTest (mBin neD (mCall (g_does_pay) (mCons (mVar 1) (mCons (mK (.str "any")) mNil))) (mBin gtD (mVar 4) (mK (.int 0)))))) (mRet (mK (.bl false))) mNext)
  (mSeq (mAsg (mCall (g_gain_rows) (mCons (mVar 1) (mCons (mK (.str "once")) mNil))) (gT 2 (gsC (gN 7) (gsC (gN 8) gs0))))
  (mSeq (mIfS (mOr (mTest (mBin neD (mCall (g_gain_rows) (mCons (mVar 1) (mCons (mK (.str "once")) mNil))) (mTup (mCons (mVar 7) (mCons (mVar 8) mNil))))) (mOr (mTest (mBin neD (mBlt lenD (mCons (mVar 7) mNil)) (mBin addD (mVar 3) (mVar 5)))) (mTest (mBin neD (mBlt lenD (mCons (mVar 8) mNil)) (mBin addD (mVar 3) (mVar 5)))))) (mRet (mK (.bl false))) mNext)
  (mSeq (mIfS (mOr (mTest (mBin gtD (mBlt lenD (mCons (mComp cF__law_right_3 [11, 12] ct__law_right_3 ci__law_right_3 ce__law_right_3) mNil)) (mK (.int 1)))) (mTest (mBin neD (mSl slA (mVar 7) mNoPart (mPart (mVar 3))) (mSl slA (mVar 8) mNoPart (mPart (mVar 3)))))) (mRet (mK (.bl false))) mNext)
  (mSeq (mIfS (mTest (mBin neD (mComp cF__law_right_4 [11, 12] ct__law_right_4 ci__law_right_4 ce__law_right_4) (mLst mNil))) (mRet (mK (.bl false))) mNext)
  (mSeq (mIfS (mTest (mBin neD (mBin subD (mBlt sumA (mCons (mCall (g__law_paid) (mCons (mVar 1) (mCons (mVar 8) mNil))) mNil)) (mBlt sumA (mCons (mCall (g__law_paid) (mCons (mVar 1) (mCons (mVar 7) mNil))) mNil))) (mVar 4))) (mRet (mK (.bl false))) mNext)
  (mRet (mCall (g__law_results_right) (mCons (mVar 0) (mCons (mVar 1) (mCons (mVar 3) (mCons (mVar 4) mNil))))))))))))))))
noncomputable def g__law_right : Fn := denOf 13 d__law_right
abbrev s_law : Stmt := topS 86
theorem sc_law : FnScope ["script", "m", "lap", "bill_so", "kept", "heard"] ["script"] (defScope s_law) := ⟨rfl, rfl, rfl, by decide +kernel, rfl, by decide +kernel, by decide +kernel⟩
noncomputable def F_law_1 : FI := (iRange1 (mCons (mBin addD (mK (.int 4)) (mBlt min2D (mCons (mBlt lenD (mCons (mVar 0) mNil)) (mCons (mK (.int 6)) mNil)))) mNil))
noncomputable def t_law_1 : FG := (gN 2)
noncomputable def b_law_1 : FS := (mSeq (mAsg (mIf (mTest (mBin gtD (mCall (g__law_draw) (mCons (mVar 1) (mCons (mK (.int 3)) mNil))) (mK (.int 0)))) (mCall (g__law_tame_bill) (mCons (mVar 1) (mCons (mK (.int 3)) mNil))) (mCall (g__law_drawn_bill) (mCons (mVar 1) (mCons (mK (.int 3)) mNil)))) (gN 3))
  (mSeq (mAsg (mBlt reprA (mCons (mVar 3) mNil)) (gN 4))
  (mIfS (mOr (mNot (mTest (mCall (g__law_right) (mCons (mVar 1) (mCons (mVar 3) mNil))))) (mTest (mBin neD (mBlt reprA (mCons (mVar 3) mNil)) (mVar 4)))) (mRet (mK (.bl false))) mNext)))
noncomputable def d_law : FS := (mSeq (mAsg (mCall (g__law_begun) (mCons (mVar 0) mNil)) (gN 1))
  (mSeq (mFor F_law_1 t_law_1 b_law_1)
  (mSeq (mIfS (mTest (mBin (inT true) (mCall (g_gain_rows) (mCons (mTup (mCons (mUn negD (mK (.int 1))) (mCons (mTup mNil) mNil))) (mCons (mK (.str "once")) mNil))) (mTup (mCons (mTup (mCons (mTup (mCons (mK (.int 0)) mNil)) (mCons (mTup (mCons (mK (.int 0)) mNil)) mNil))) (mCons (mTup (mCons (mTup (mCons (mK (.int 1)) mNil)) (mCons (mTup (mCons (mK (.int 1)) mNil)) mNil))) mNil))))) (mRet (mK (.bl false))) mNext)
  (mSeq (mIfS (mTest (mBin (inT true) (mCall (g_gain_rows) (mCons (mTup (mCons (mK (.int 1)) (mCons (mTup mNil) mNil))) (mCons (mK (.str "once")) mNil))) (mTup (mCons (mTup (mCons (mTup (mCons (mK (.int 0)) (mCons (mK (.int 0)) mNil))) (mCons (mTup (mCons (mK (.int 0)) (mCons (mK (.int 1)) mNil))) mNil))) (mCons (mTup (mCons (mTup (mCons (mK (.int 1)) (mCons (mK (.int 0)) mNil))) (mCons (mTup (mCons (mK (.int 1)) (mCons (mK (.int 1)) mNil))) mNil))) mNil))))) (mRet (mK (.bl false))) mNext)
  (mSeq (mAsg (mLstM (mCons (mCall (g_greatest_gain) (mCons (mTup (mCons (mUn negD (mK (.int 1))) (mCons (mTup mNil) mNil))) (mCons (mK (.str "once")) mNil))) (mCons (mCall (g_greatest_gain) (mCons (mTup (mCons (mK (.int 1)) (mCons (mTup mNil) mNil))) (mCons (mK (.str "once")) mNil))) mNil))) (gN 5))
  (mSeq (mExpr (mApp (mVar 5) (mCall (g_greatest_gain) (mCons (mTup (mCons (mUn negD (mK (.int 1))) (mCons (mTup (mCons (mTup (mCons (mTup (mCons (mK (.int 1)) (mCons (mK (.int 1)) (mCons (mK (.int 0)) (mCons (mK (.int 0)) mNil))))) (mCons (mK (.int 1)) (mCons (mK (.int 0)) mNil)))) mNil)) mNil))) (mCons (mK (.str "once")) mNil)))))
  (mSeq (mExpr (mApp (mVar 5) (mCall (g_does_pay) (mCons (mTup (mCons (mUn negD (mK (.int 4))) (mCons (mTup (mCons (mTup (mCons (mTup (mCons (mK (.int 1)) (mCons (mK (.int 1)) (mCons (mK (.int 0)) (mCons (mK (.int 0)) mNil))))) (mCons (mK (.int 1)) (mCons (mK (.int 0)) mNil)))) mNil)) mNil))) (mCons (mK (.str "once")) mNil)))))
  (mSeq (mExpr (mApp (mVar 5) (mCall (g_greatest_gain) (mCons (mTup (mCons (mUn negD (mK (.int 2))) (mCons (mTup (mCons (mTup (mCons (mTup (mCons (mK (.int 1)) (mCons (mK (.int 1)) (mCons (mK (.int 0)) mNil)))) (mCons (mK (.int 1)) (mCons (mK (.int 0)) mNil)))) mNil)) mNil))) (mCons (mK (.str "once")) mNil)))))
  (mSeq (mExpr (mApp (mVar 5) (mCall (g_greatest_gain) (mCons (mTup (mCons (mUn negD (mK (.int 1))) (mCons (mTup (mCons (mTup (mCons (mTup (mCons (mK (.int 1)) (mCons (mK (.int 1)) (mCons (mK (.int 0)) (mCons (mK (.int 0)) (mCons (mK (.int 0)) mNil)))))) (mCons (mK (.int 1)) (mCons (mK (.int 0)) mNil)))) mNil)) mNil))) (mCons (mK (.str "once")) mNil)))))
  (mRet (mBin eqD (mVar 5) (mLst (mCons (mK (.int 0)) (mCons (mK (.int 1)) (mCons (mK (.int 3)) (mCons (mK (.bl false)) (mCons (mK (.int 1)) (mCons (mK (.int 4)) mNil))))))))))))))))))
noncomputable def g_law : Fn := denOf 6 d_law
section
variable {P : Program} {w : World} {mg : Str → Option Value} {base : Heap} {Γ : Ct} {f : Addr} {fd : FuncData}
theorem ok_is_int (n : Ns Γ mg) (F : Fun Γ.K "is_int" "is_int" s_is_int f fd) : FnG P w mg base Γ 1 f fd ["thing"] g_is_int :=
  have S := sc_is_int
  ok_fn (N := ["thing"]) (c := d_is_int) F S fun cdv A outer s H E W hr hg tk => (mb_one (ms_ret (me_and (me_callB call_isi (sIsi rfl) (by rfl) n.n_isinstance (by decide +kernel) (ma_cons (me_var (pv 0)) (ma_cons (me_ty (by rfl) n.n_int (by decide +kernel)) ma_nil))) (me_and (me_cmp op_notC sIsntC (nomark _) (me_var (pv 0)) me_bl) (me_one (me_cmp op_notC sIsntC (nomark _) (me_var (pv 0)) me_bl))))))
theorem ok_is_int_within (n : Ns Γ mg) (F : Fun Γ.K "is_int_within" "is_int_within" s_is_int_within f fd) (c_is_int : Cal P w mg base Γ 1 "is_int" ["thing"] g_is_int) : FnG P w mg base Γ 2 f fd ["thing", "least", "most"] g_is_int_within :=
  have S := sc_is_int_within
  ok_fn (N := ["thing", "least", "most"]) (c := d_is_int_within) F S fun cdv A outer s H E W hr hg tk => (mb_one (ms_ret (me_and (me_cal c_is_int rfl (hr.mono (by decide)) hg tk (by rfl) (ma_cons (me_var (pv 0)) ma_nil) 1 (len_cons len_nil) rfl rfl) (me_one (me_chain op_le op_le sCmp sCmp (by rfl) (me_var (pv 1)) (me_var (pv 0)) (me_var (pv 2)))))))
theorem ok_is_tuple (n : Ns Γ mg) (F : Fun Γ.K "is_tuple" "is_tuple" s_is_tuple f fd) : FnG P w mg base Γ 1 f fd ["thing", "least", "most"] g_is_tuple :=
  have S := sc_is_tuple
  ok_fn (N := ["thing", "least", "most"]) (c := d_is_tuple) F S fun cdv A outer s H E W hr hg tk => (mb_one (ms_ret (me_and (me_callB call_isi (sIsi rfl) (by rfl) n.n_isinstance (by decide +kernel) (ma_cons (me_var (pv 0)) (ma_cons (me_ty (by rfl) n.n_tuple (by decide +kernel)) ma_nil))) (me_one (me_chain op_le op_le sCmp sCmp (by rfl) (me_var (pv 1)) (me_callB call_len (sLen rfl) (by rfl) n.n_len (by decide +kernel) (ma_cons (me_var (pv 0)) ma_nil)) (me_var (pv 2)))))))
theorem ok_first_outside (n : Ns Γ mg) (F : Fun Γ.K "first_outside" "first_outside" s_first_outside f fd) : FnG P w mg base Γ 1 f fd ["things", "least", "most"] g_first_outside :=
  have S := sc_first_outside
  ok_fn (N := ["things", "least", "most", "number", "thing"]) (c := d_first_outside) F S fun cdv A outer s H E W hr hg tk => (mb_cons (ms_for (passes_of rfl) rfl (mi_enum rfl (by rfl) n.n_enumerate (ma_cons (me_var (pv 0)) ma_nil)) (mg_tup' rfl rfl (mgs_cons' (mg_name (pg_name (i := 3) S.nd rfl (.inl rfl))) (mgs_cons' (mg_name (pg_name (i := 4) S.nd rfl (.inl rfl))) mgs_nil))) (mb_one (ms_if (mt_w (mw_or (mt_not (mt_val (me_callB call_isi (sIsi rfl) (by rfl) n.n_isinstance (by decide +kernel) (ma_cons (me_var (pv 4)) (ma_cons (me_ty (by rfl) n.n_int (by decide +kernel)) ma_nil))))) (mw_or (mt_cmp op_isC sIsC (nomark _) (me_var (pv 4)) me_bl) (mw_or (mt_cmp op_isC sIsC (nomark _) (me_var (pv 4)) me_bl) (mw_or1 (mt_not (mt_chain op_le op_le sCmp sCmp (by rfl) (me_var (pv 1)) (me_var (pv 4)) (me_var (pv 2))))))))) (mb_one (ms_ret (me_var (pv 3)))) mb_nil)))
  (mb_one (ms_ret me_non)))
theorem ok_need_rule (n : Ns Γ mg) (F : Fun Γ.K "need_rule" "need_rule" s_need_rule f fd) (c_is_tuple : Cal P w mg base Γ 1 "is_tuple" ["thing", "least", "most"] g_is_tuple) (c_first_outside : Cal P w mg base Γ 1 "first_outside" ["things", "least", "most"] g_first_outside) : FnG P w mg base Γ 2 f fd ["thing"] g_need_rule :=
  have S := sc_need_rule
  ok_fn (N := ["thing", "number"]) (c := d_need_rule) F S fun cdv A outer s H E W hr hg tk => (mb_cons (ms_if (mt_not (mt_val (me_cal c_is_tuple rfl (hr.mono (by decide)) hg tk (by rfl) (ma_cons (me_var (pv 0)) (ma_cons me_int (ma_cons (me_globJ (by rfl) n.c_MOST_WEIGHTS) ma_nil))) 3 (len_cons (len_cons (len_cons len_nil))) rfl rfl))) (mb_one ms_stuck) mb_nil)
  (mb_cons (ms_set (i := 1) S.nd rfl (.inl rfl) (me_cal c_first_outside rfl (hr.mono (by decide)) hg tk (by rfl) (ma_cons (me_var (pv 0)) (ma_cons (me_un un_neg sNeg (me_globJ (by rfl) n.c_GREATEST_WEIGHT)) (ma_cons (me_globJ (by rfl) n.c_GREATEST_WEIGHT) ma_nil))) 3 (len_cons (len_cons (len_cons len_nil))) rfl rfl))
  (mb_cons (ms_if (mt_cmp op_notC sIsntC (nomark _) (me_var (pv 1)) me_non) (mb_one ms_stuck) mb_nil)
  (mb_one (ms_ret (me_var (pv 0)))))))
theorem ok_is_rule (n : Ns Γ mg) (F : Fun Γ.K "is_rule" "is_rule" s_is_rule f fd) (c_need_rule : Cal P w mg base Γ 2 "need_rule" ["thing"] g_need_rule) : FnG P w mg base Γ 3 f fd ["thing"] g_is_rule :=
  have S := sc_is_rule
  ok_fn (N := ["thing"]) (c := d_is_rule) F S fun cdv A outer s H E W hr hg tk => (mb_cons (ms_tryN (mb_one (ms_expr (me_cal c_need_rule rfl (hr.mono (by decide)) hg tk0 (by rfl) (ma_cons (me_var (pv 0)) ma_nil) 1 (len_cons len_nil) rfl rfl))))
  (mb_one (ms_ret me_bl)))
theorem ok_need_row (n : Ns Γ mg) (F : Fun Γ.K "need_row" "need_row" s_need_row f fd) (c_is_tuple : Cal P w mg base Γ 1 "is_tuple" ["thing", "least", "most"] g_is_tuple) (c_first_outside : Cal P w mg base Γ 1 "first_outside" ["things", "least", "most"] g_first_outside) : FnG P w mg base Γ 2 f fd ["thing"] g_need_row :=
  have S := sc_need_row
  ok_fn (N := ["thing", "number"]) (c := d_need_row) F S fun cdv A outer s H E W hr hg tk => (mb_cons (ms_if (mt_not (mt_val (me_cal c_is_tuple rfl (hr.mono (by decide)) hg tk (by rfl) (ma_cons (me_var (pv 0)) (ma_cons me_int (ma_cons (me_globJ (by rfl) n.c_MOST_RESULTS) ma_nil))) 3 (len_cons (len_cons (len_cons len_nil))) rfl rfl))) (mb_one ms_stuck) mb_nil)
  (mb_cons (ms_set (i := 1) S.nd rfl (.inl rfl) (me_cal c_first_outside rfl (hr.mono (by decide)) hg tk (by rfl) (ma_cons (me_var (pv 0)) (ma_cons me_int (ma_cons (me_globJ (by rfl) n.c_GREATEST_RESULT) ma_nil))) 3 (len_cons (len_cons (len_cons len_nil))) rfl rfl))
  (mb_cons (ms_if (mt_cmp op_notC sIsntC (nomark _) (me_var (pv 1)) me_non) (mb_one ms_stuck) mb_nil)
  (mb_one (ms_ret (me_var (pv 0)))))))
theorem ok_need_row_of (n : Ns Γ mg) (F : Fun Γ.K "need_row_of" "need_row_of" s_need_row_of f fd) (c_need_row : Cal P w mg base Γ 2 "need_row" ["thing"] g_need_row) : FnG P w mg base Γ 3 f fd ["thing", "least"] g_need_row_of :=
  have S := sc_need_row_of
  ok_fn (N := ["thing", "least"]) (c := d_need_row_of) F S fun cdv A outer s H E W hr hg tk => (mb_cons (ms_expr (me_cal c_need_row rfl (hr.mono (by decide)) hg tk (by rfl) (ma_cons (me_var (pv 0)) ma_nil) 1 (len_cons len_nil) rfl rfl))
  (mb_cons (ms_if (mt_cmp op_lt sCmp (nomark _) (me_callB call_len (sLen rfl) (by rfl) n.n_len (by decide +kernel) (ma_cons (me_var (pv 0)) ma_nil)) (me_var (pv 1))) (mb_one ms_stuck) mb_nil)
  (mb_one (ms_ret (me_var (pv 0))))))
theorem ok_index_of (n : Ns Γ mg) (F : Fun Γ.K "index_of" "index_of" s_index_of f fd) : FnG P w mg base Γ 1 f fd ["rule", "results"] g_index_of :=
  have S := sc_index_of
  ok_fn (N := ["rule", "results", "last", "weight", "result"]) (c := d_index_of) F S fun cdv A outer s H E W hr hg tk => (mb_cons (ms_set (i := 2) S.nd rfl (.inl rfl) (me_callB cr_sortedA (sSortedA rfl) (by rfl) n.n_sorted (by decide +kernel) (ma_cons (me_sl rfl (me_var (pv 1)) (mo_some (me_un un_neg sNeg (me_callB call_len (sLen rfl) (by rfl) n.n_len (by decide +kernel) (ma_cons (me_var (pv 0)) ma_nil)))) mo_none) ma_nil)))
  (mb_one (ms_ret (me_callB (cr_sumA rfl) (sSumA rfl) (by rfl) n.n_sum (by decide +kernel) (ma_cons (me_comp (own := [("weight", 3), ("result", 4)]) (g := (gTup Γ.K 2 (gCons (gName 3) (gCons (gName 4) gNil)))) rfl S.nd (mi_zip rfl (by rfl) n.n_zip (ma_cons (me_var (pv 0)) (ma_cons (me_var (pv 2)) ma_nil))) (blkOk_by (own := [("weight", 3), ("result", 4)]) (N := ["rule", "results", "last", "weight", "result"]) (sc := defScope s_index_of) (by decide +kernel)) (fun _ _ _ _ _ => pg_tup rfl (pgs_cons (pg_name (i := 3) S.nd rfl (.inl rfl)) (pgs_cons (pg_name (i := 4) S.nd rfl (.inl rfl)) pgs_nil))) (gw_tup rfl (gws_cons (gw_name (by decide)) (gws_cons (gw_name (by decide)) gws_nil))) (fun _ _ _ _ _ => mts_nil) (fun _ _ _ _ _ => (me_op opMul sMul (me_var (pv 3)) (me_var (pv 4))))) ma_nil)))))
theorem ok_indexes_by_ones (n : Ns Γ mg) (F : Fun Γ.K "indexes_by_ones" "indexes_by_ones" s_indexes_by_ones f fd) : FnG P w mg base Γ 1 f fd ["rule"] g_indexes_by_ones :=
  have S := sc_indexes_by_ones
  ok_fn (N := ["rule", "told", "weight"]) (c := d_indexes_by_ones) F S fun cdv A outer s H E W hr hg tk => (mb_cons (ms_set (i := 1) S.nd rfl (.inl rfl) (me_lstM (ma_cons me_int ma_nil)))
  (mb_cons (ms_for (passes_of rfl) rfl (mi_seq rfl (me_rev rfl (me_var (pv 0)))) (mg_name (pg_name (i := 2) S.nd rfl (.inl rfl))) (mb_one (ms_expr (me_app (pe_bm PySem.F.plainAttrs_list PySem.F.slot_list_append PySem.F.type_list_append mt_append (me_var (pv 1)) (pa_cons (me_op opAdd sAdd (me_ix rfl (hu_of hr) (me_var (pv 1)) (me_un un_neg sNeg me_int) (fun _ _ => rfl) (fun _ _ => rfl)) (me_var (pv 2))) pa_nil))))))
  (mb_one (ms_ret (me_var (pv 1))))))
theorem ok_is_factor (n : Ns Γ mg) (F : Fun Γ.K "is_factor" "is_factor" s_is_factor f fd) (c_is_int_within : Cal P w mg base Γ 2 "is_int_within" ["thing", "least", "most"] g_is_int_within) : FnG P w mg base Γ 3 f fd ["thing"] g_is_factor :=
  have S := sc_is_factor
  ok_fn (N := ["thing"]) (c := d_is_factor) F S fun cdv A outer s H E W hr hg tk => (mb_one (ms_ret (me_cal c_is_int_within rfl (hr.mono (by decide)) hg tk (by rfl) (ma_cons (me_var (pv 0)) (ma_cons (me_un un_neg sNeg (me_globJ (by rfl) n.c_GREATEST_FACTOR)) (ma_cons (me_globJ (by rfl) n.c_GREATEST_FACTOR) ma_nil))) 3 (len_cons (len_cons (len_cons len_nil))) rfl rfl)))
theorem ok_is_term (n : Ns Γ mg) (F : Fun Γ.K "is_term" "is_term" s_is_term f fd) (c_is_tuple : Cal P w mg base Γ 1 "is_tuple" ["thing", "least", "most"] g_is_tuple) (c_is_rule : Cal P w mg base Γ 3 "is_rule" ["thing"] g_is_rule) (c_is_factor : Cal P w mg base Γ 3 "is_factor" ["thing"] g_is_factor) : FnG P w mg base Γ 4 f fd ["thing"] g_is_term :=
  have S := sc_is_term
  ok_fn (N := ["thing", "rule", "ahead", "behind"]) (c := d_is_term) F S fun cdv A outer s H E W hr hg tk => (mb_cons (ms_if (mt_not (mt_val (me_cal c_is_tuple rfl (hr.mono (by decide)) hg tk (by rfl) (ma_cons (me_var (pv 0)) (ma_cons me_int (ma_cons me_int ma_nil))) 3 (len_cons (len_cons (len_cons len_nil))) rfl rfl))) (mb_one (ms_ret me_bl)) mb_nil)
  (mb_cons (ms_setT (me_var (pv 0)) (mg_tup' rfl rfl (mgs_cons' (mg_name (pg_name (i := 1) S.nd rfl (.inl rfl))) (mgs_cons' (mg_name (pg_name (i := 2) S.nd rfl (.inl rfl))) (mgs_cons' (mg_name (pg_name (i := 3) S.nd rfl (.inl rfl))) mgs_nil)))))
  (mb_one (ms_ret (me_and (me_cal c_is_rule rfl (hr.mono (by decide)) hg tk (by rfl) (ma_cons (me_var (pv 1)) ma_nil) 1 (len_cons len_nil) rfl rfl) (me_and (me_cal c_is_factor rfl (hr.mono (by decide)) hg tk (by rfl) (ma_cons (me_var (pv 2)) ma_nil) 1 (len_cons len_nil) rfl rfl) (me_one (me_cal c_is_factor rfl (hr.mono (by decide)) hg tk (by rfl) (ma_cons (me_var (pv 3)) ma_nil) 1 (len_cons len_nil) rfl rfl))))))))
theorem ok_need_bill (n : Ns Γ mg) (F : Fun Γ.K "need_bill" "need_bill" s_need_bill f fd) (c_is_tuple : Cal P w mg base Γ 1 "is_tuple" ["thing", "least", "most"] g_is_tuple) (c_is_factor : Cal P w mg base Γ 3 "is_factor" ["thing"] g_is_factor) (c_is_term : Cal P w mg base Γ 4 "is_term" ["thing"] g_is_term) : FnG P w mg base Γ 5 f fd ["thing"] g_need_bill :=
  have S := sc_need_bill
  ok_fn (N := ["thing", "own", "terms", "number", "term"]) (c := d_need_bill) F S fun cdv A outer s H E W hr hg tk => (mb_cons (ms_if (mt_not (mt_val (me_cal c_is_tuple rfl (hr.mono (by decide)) hg tk (by rfl) (ma_cons (me_var (pv 0)) (ma_cons me_int (ma_cons me_int ma_nil))) 3 (len_cons (len_cons (len_cons len_nil))) rfl rfl))) (mb_one ms_stuck) mb_nil)
  (mb_cons (ms_setT (me_var (pv 0)) (mg_tup' rfl rfl (mgs_cons' (mg_name (pg_name (i := 1) S.nd rfl (.inl rfl))) (mgs_cons' (mg_name (pg_name (i := 2) S.nd rfl (.inl rfl))) mgs_nil))))
  (mb_cons (ms_if (mt_not (mt_val (me_cal c_is_factor rfl (hr.mono (by decide)) hg tk (by rfl) (ma_cons (me_var (pv 1)) ma_nil) 1 (len_cons len_nil) rfl rfl))) (mb_one ms_stuck) mb_nil)
  (mb_cons (ms_if (mt_not (mt_val (me_cal c_is_tuple rfl (hr.mono (by decide)) hg tk (by rfl) (ma_cons (me_var (pv 2)) (ma_cons me_int (ma_cons (me_globJ (by rfl) n.c_MOST_TERMS) ma_nil))) 3 (len_cons (len_cons (len_cons len_nil))) rfl rfl))) (mb_one ms_stuck) mb_nil)
  (mb_cons (ms_for (passes_of rfl) rfl (mi_enum rfl (by rfl) n.n_enumerate (ma_cons (me_var (pv 2)) ma_nil)) (mg_tup' rfl rfl (mgs_cons' (mg_name (pg_name (i := 3) S.nd rfl (.inl rfl))) (mgs_cons' (mg_name (pg_name (i := 4) S.nd rfl (.inl rfl))) mgs_nil))) (mb_one (ms_if (mt_not (mt_val (me_cal c_is_term rfl (hr.mono (by decide)) hg tk (by rfl) (ma_cons (me_var (pv 4)) ma_nil) 1 (len_cons len_nil) rfl rfl))) (mb_one ms_stuck) mb_nil)))
  (mb_one (ms_ret (me_var (pv 0)))))))))
theorem ok_width_of (n : Ns Γ mg) (F : Fun Γ.K "width_of" "width_of" s_width_of f fd) : FnG P w mg base Γ 1 f fd ["bill"] g_width_of :=
  have S := sc_width_of
  ok_fn (N := ["bill", "term"]) (c := d_width_of) F S fun cdv A outer s H E W hr hg tk => (mb_one (ms_ret (me_maxDef rfl rfl hr.units (by rfl) n.n_max (me_comp (own := [("term", 1)]) (g := (gName 1)) rfl S.nd (mi_seq rfl (me_ix rfl (hu_of hr) (me_var (pv 0)) me_int (fun _ _ => rfl) (fun _ _ => rfl))) (blkOk_by (own := [("term", 1)]) (N := ["bill", "term"]) (sc := defScope s_width_of) (by decide +kernel)) (fun _ _ _ _ _ => pg_name (i := 1) S.nd rfl (.inl rfl)) (gw_name (by decide)) (fun _ _ _ _ _ => mts_nil) (fun _ _ _ _ _ => (me_callB call_len (sLen rfl) (by rfl) n.n_len (by decide +kernel) (ma_cons (me_ix rfl (hu_of hr) (me_var (pv 1)) me_int (fun _ _ => rfl) (fun _ _ => rfl)) ma_nil)))) me_int)))
theorem ok_last_pay (n : Ns Γ mg) (F : Fun Γ.K "last_pay" "last_pay" s_last_pay f fd) (c_index_of : Cal P w mg base Γ 1 "index_of" ["rule", "results"] g_index_of) : FnG P w mg base Γ 2 f fd ["bill", "results"] g_last_pay :=
  have S := sc_last_pay
  ok_fn (N := ["bill", "results", "own", "terms", "before", "parts", "rule", "ahead", "behind"]) (c := d_last_pay) F S fun cdv A outer s H E W hr hg tk => (mb_cons (ms_setT (me_var (pv 0)) (mg_tup' rfl rfl (mgs_cons' (mg_name (pg_name (i := 2) S.nd rfl (.inl rfl))) (mgs_cons' (mg_name (pg_name (i := 3) S.nd rfl (.inl rfl))) mgs_nil))))
  (mb_cons (ms_set (i := 4) S.nd rfl (.inr rfl) (me_sl rfl (me_var (pv 1)) mo_none (mo_some (me_un un_neg sNeg me_int))))
  (mb_cons (ms_setComp (i := 5) (own := [("rule", 6), ("ahead", 7), ("behind", 8)]) (g := (gTup Γ.K 3 (gCons (gName 6) (gCons (gName 7) (gCons (gName 8) gNil))))) rfl S.nd rfl rfl (sw_true rfl rfl rfl (by decide +kernel)) (mi_seq rfl (me_var (pv 3))) (blkOk_by (own := [("rule", 6), ("ahead", 7), ("behind", 8)]) (N := ["bill", "results", "own", "terms", "before", "parts", "rule", "ahead", "behind"]) (sc := defScope s_last_pay) (by decide +kernel)) (fun _ _ _ _ _ => pg_tup rfl (pgs_cons (pg_name (i := 6) S.nd rfl (.inl rfl)) (pgs_cons (pg_name (i := 7) S.nd rfl (.inl rfl)) (pgs_cons (pg_name (i := 8) S.nd rfl (.inl rfl)) pgs_nil)))) (gw_tup rfl (gws_cons (gw_name (by decide)) (gws_cons (gw_name (by decide)) (gws_cons (gw_name (by decide)) gws_nil)))) (fun _ _ _ _ _ => mts_nil) (fun _ _ _ _ _ => (me_op opAdd sAdd (me_op opMul sMul (me_var (pv 7)) (me_cal c_index_of rfl (hr.mono (by decide)) hg tk0 (by rfl) (ma_cons (me_var (pv 6)) (ma_cons (me_var (pv 4)) ma_nil)) 2 (len_cons (len_cons len_nil)) rfl rfl)) (me_op opMul sMul (me_var (pv 8)) (me_cal c_index_of rfl (hr.mono (by decide)) hg tk0 (by rfl) (ma_cons (me_var (pv 6)) (ma_cons (me_var (pv 1)) ma_nil)) 2 (len_cons (len_cons len_nil)) rfl rfl)))))
  (mb_one (ms_ret (me_op opAdd sAdd (me_op opMul sMul (me_var (pv 2)) (me_ix rfl (hu_of hr) (me_var (pv 1)) (me_un un_neg sNeg me_int) (fun _ _ => rfl) (fun _ _ => rfl))) (me_callB (cr_sumA rfl) (sSumA rfl) (by rfl) n.n_sum (by decide +kernel) (ma_cons (me_var (pv 5)) ma_nil))))))))
theorem ok_pays_of (n : Ns Γ mg) (F : Fun Γ.K "pays_of" "pays_of" s_pays_of f fd) (c_width_of : Cal P w mg base Γ 1 "width_of" ["bill"] g_width_of) (c_last_pay : Cal P w mg base Γ 2 "last_pay" ["bill", "results"] g_last_pay) : FnG P w mg base Γ 3 f fd ["bill", "results"] g_pays_of :=
  have S := sc_pays_of
  ok_fn (N := ["bill", "results", "wide", "at"]) (c := d_pays_of) F S fun cdv A outer s H E W hr hg tk => (mb_cons (ms_set (i := 2) S.nd rfl (.inr rfl) (me_cal c_width_of rfl (hr.mono (by decide)) hg tk (by rfl) (ma_cons (me_var (pv 0)) ma_nil) 1 (len_cons len_nil) rfl rfl))
  (mb_one (ms_ret (me_callTy call_tuple_of (sTuple rfl) (by rfl) n.n_tuple (by decide +kernel) (ma_cons (me_comp (own := [("at", 3)]) (g := (gName 3)) rfl S.nd (mi_range2 (by rfl) n.n_range (ma_cons (me_var (pv 2)) (ma_cons (me_callB call_len (sLen rfl) (by rfl) n.n_len (by decide +kernel) (ma_cons (me_var (pv 1)) ma_nil)) ma_nil))) (blkOk_by (own := [("at", 3)]) (N := ["bill", "results", "wide", "at"]) (sc := defScope s_pays_of) (by decide +kernel)) (fun _ _ _ _ _ => pg_name (i := 3) S.nd rfl (.inl rfl)) (gw_name (by decide)) (fun _ _ _ _ _ => mts_nil) (fun _ _ _ _ _ => (me_cal c_last_pay rfl (hr.mono (by decide)) hg tk0 (by rfl) (ma_cons (me_var (pv 0)) (ma_cons (me_sl rfl (me_var (pv 1)) (mo_some (me_op op_sub sSub (me_var (pv 3)) (me_var (pv 2)))) (mo_some (me_op opAdd sAdd (me_var (pv 3)) me_int))) ma_nil)) 2 (len_cons (len_cons len_nil)) rfl rfl))) ma_nil)))))
theorem ok_signs_of (n : Ns Γ mg) (F : Fun Γ.K "signs_of" "signs_of" s_signs_of f fd) : FnG P w mg base Γ 1 f fd ["number", "signs", "wide"] g_signs_of :=
  have S := sc_signs_of
  ok_fn (N := ["number", "signs", "wide", "told", "_", "figure"]) (c := d_signs_of) F S fun cdv A outer s H E W hr hg tk => (mb_cons (ms_set (i := 3) S.nd rfl (.inl rfl) (me_lstM ma_nil))
  (mb_cons (ms_for (passes_of rfl) rfl (mi_range1 (by rfl) n.n_range (ma_cons (me_var (pv 2)) ma_nil)) (mg_name (pg_name (i := 4) S.nd rfl (.inl rfl))) (mb_cons (ms_setT (me_callB call_divmod sDivmod (by rfl) n.n_divmod (by decide +kernel) (ma_cons (me_var (pv 0)) (ma_cons (me_callB call_len (sLen rfl) (by rfl) n.n_len (by decide +kernel) (ma_cons (me_var (pv 1)) ma_nil)) ma_nil))) (mg_tup' rfl rfl (mgs_cons' (mg_name (pg_name (i := 0) S.nd rfl (.inl rfl))) (mgs_cons' (mg_name (pg_name (i := 5) S.nd rfl (.inl rfl))) mgs_nil))))
  (mb_one (ms_expr (me_app (pe_bm PySem.F.plainAttrs_list PySem.F.slot_list_append PySem.F.type_list_append mt_append (me_var (pv 3)) (pa_cons (me_ix rfl (hu_of hr) (me_var (pv 1)) (me_var (pv 5)) (fun _ _ => rfl) (fun _ _ => rfl)) pa_nil)))))))
  (mb_one (ms_ret (me_callTy call_tuple_of (sTuple rfl) (by rfl) n.n_tuple (by decide +kernel) (ma_cons (me_rev rfl (me_var (pv 3))) ma_nil))))))
theorem ok_ones_of (n : Ns Γ mg) (F : Fun Γ.K "ones_of" "ones_of" s_ones_of f fd) : FnG P w mg base Γ 1 f fd ["wide"] g_ones_of :=
  have S := sc_ones_of
  ok_fn (N := ["wide", "ones", "_", "many"]) (c := d_ones_of) F S fun cdv A outer s H E W hr hg tk => (mb_cons (ms_set (i := 1) S.nd rfl (.inl rfl) (me_lst (ma_cons me_int ma_nil)))
  (mb_cons (ms_for (passes_of rfl) rfl (mi_range1 (by rfl) n.n_range (ma_cons (me_var (pv 0)) ma_nil)) (mg_name (pg_name (i := 2) S.nd rfl (.inl rfl))) (mb_one (ms_set (i := 1) S.nd rfl (.inl rfl) (me_op opAdd sAdd (me_var (pv 1)) (me_comp (own := [("many", 3)]) (g := (gName 3)) rfl S.nd (mi_seq rfl (me_var (pv 1))) (blkOk_by (own := [("many", 3)]) (N := ["wide", "ones", "_", "many"]) (sc := defScope s_ones_of) (by decide +kernel)) (fun _ _ _ _ _ => pg_name (i := 3) S.nd rfl (.inl rfl)) (gw_name (by decide)) (fun _ _ _ _ _ => mts_nil) (fun _ _ _ _ _ => (me_op opAdd sAdd (me_var (pv 3)) me_int)))))))
  (mb_one (ms_ret (me_var (pv 1))))))
theorem ok_term_pays (n : Ns Γ mg) (F : Fun Γ.K "term_pays" "term_pays" s_term_pays f fd) (c_indexes_by_ones : Cal P w mg base Γ 1 "indexes_by_ones" ["rule"] g_indexes_by_ones) (c_ones_of : Cal P w mg base Γ 1 "ones_of" ["wide"] g_ones_of) : FnG P w mg base Γ 2 f fd ["term", "wide"] g_term_pays :=
  have S := sc_term_pays
  ok_fn (N := ["term", "wide", "rule", "ahead", "behind", "told", "indexes", "fronts", "pays", "ones", "index", "_", "front", "back"]) (c := d_term_pays) F S fun cdv A outer s H E W hr hg tk => (mb_cons (ms_setT (me_var (pv 0)) (mg_tup' rfl rfl (mgs_cons' (mg_name (pg_name (i := 2) S.nd rfl (.inl rfl))) (mgs_cons' (mg_name (pg_name (i := 3) S.nd rfl (.inr rfl))) (mgs_cons' (mg_name (pg_name (i := 4) S.nd rfl (.inr rfl))) mgs_nil)))))
  (mb_cons (ms_set (i := 5) S.nd rfl (.inr rfl) (me_cal c_indexes_by_ones rfl (hr.mono (by decide)) hg tk (by rfl) (ma_cons (me_var (pv 2)) ma_nil) 1 (len_cons len_nil) rfl rfl))
  (mb_cons (ms_setComp (i := 6) (own := [("ones", 9)]) (g := (gName 9)) rfl S.nd rfl rfl (sw_true rfl rfl rfl (by decide +kernel)) (mi_seq rfl (me_cal c_ones_of rfl (hr.mono (by decide)) hg tk (by rfl) (ma_cons (me_callB call_len (sLen rfl) (by rfl) n.n_len (by decide +kernel) (ma_cons (me_var (pv 2)) ma_nil)) ma_nil) 1 (len_cons len_nil) rfl rfl)) (blkOk_by (own := [("ones", 9)]) (N := ["term", "wide", "rule", "ahead", "behind", "told", "indexes", "fronts", "pays", "ones", "index", "_", "front", "back"]) (sc := defScope s_term_pays) (by decide +kernel)) (fun _ _ _ _ _ => pg_name (i := 9) S.nd rfl (.inl rfl)) (gw_name (by decide)) (fun _ _ _ _ _ => mts_nil) (fun _ _ _ _ _ => (me_ix rfl (hu_of hr) (me_var (pv 5)) (me_var (pv 9)) (fun _ _ => rfl) (fun _ _ => rfl))))
  (mb_cons (ms_setComp2 (i := 7) (own := [("index", 10), ("_", 11)]) (vs1 := [11]) (g := (gName 10)) (g1 := (gName 11)) rfl S.nd rfl rfl (sw_true rfl rfl rfl (by decide +kernel)) (mi_seq rfl (me_var (pv 6))) (blkOk_by (own := [("index", 10), ("_", 11)]) (N := ["term", "wide", "rule", "ahead", "behind", "told", "indexes", "fronts", "pays", "ones", "index", "_", "front", "back"]) (sc := defScope s_term_pays) (by decide +kernel)) (by decide) (fun _ _ _ _ _ => pg_name (i := 10) S.nd rfl (.inl rfl)) (gw_name (by decide)) (fun _ _ _ _ _ => mts_nil) (fun _ _ _ _ _ => (mi_seq rfl (me_globT rfl (by rfl) n.c_BITS))) (fun _ _ _ _ _ => pg_name (i := 11) S.nd rfl (.inl rfl)) (gw_name (by decide)) (fun _ _ _ _ _ => mts_nil) (fun _ _ _ _ _ => (me_var (pv 10))))
  (mb_cons (ms_setComp (i := 8) (own := [("front", 12), ("back", 13)]) (g := (gTup Γ.K 2 (gCons (gName 12) (gCons (gName 13) gNil)))) rfl S.nd rfl rfl (sw_true rfl rfl rfl (by decide +kernel)) (mi_zip rfl (by rfl) n.n_zip (ma_cons (me_var (pv 7)) (ma_cons (me_op opMul sMul (me_var (pv 6)) (me_globJ (by rfl) n.c_OF_BITS)) ma_nil))) (blkOk_by (own := [("front", 12), ("back", 13)]) (N := ["term", "wide", "rule", "ahead", "behind", "told", "indexes", "fronts", "pays", "ones", "index", "_", "front", "back"]) (sc := defScope s_term_pays) (by decide +kernel)) (fun _ _ _ _ _ => pg_tup rfl (pgs_cons (pg_name (i := 12) S.nd rfl (.inl rfl)) (pgs_cons (pg_name (i := 13) S.nd rfl (.inl rfl)) pgs_nil))) (gw_tup rfl (gws_cons (gw_name (by decide)) (gws_cons (gw_name (by decide)) gws_nil))) (fun _ _ _ _ _ => mts_nil) (fun _ _ _ _ _ => (me_op opAdd sAdd (me_op opMul sMul (me_var (pv 3)) (me_var (pv 12))) (me_op opMul sMul (me_var (pv 4)) (me_var (pv 13))))))
  (mb_one (ms_ret (me_op opMul sMul (me_var (pv 8)) (me_op op_shl sShl me_int (me_op op_sub sSub (me_var (pv 1)) (me_callB call_len (sLen rfl) (by rfl) n.n_len (by decide +kernel) (ma_cons (me_var (pv 2)) ma_nil))))))))))))
theorem ok_bit_pays (n : Ns Γ mg) (F : Fun Γ.K "bit_pays" "bit_pays" s_bit_pays f fd) (c_width_of : Cal P w mg base Γ 1 "width_of" ["bill"] g_width_of) (c_term_pays : Cal P w mg base Γ 2 "term_pays" ["term", "wide"] g_term_pays) : FnG P w mg base Γ 3 f fd ["bill"] g_bit_pays :=
  have S := sc_bit_pays
  ok_fn (N := ["bill", "own", "terms", "wide", "pays", "term", "paid", "more"]) (c := d_bit_pays) F S fun cdv A outer s H E W hr hg tk => (mb_cons (ms_setT (me_var (pv 0)) (mg_tup' rfl rfl (mgs_cons' (mg_name (pg_name (i := 1) S.nd rfl (.inl rfl))) (mgs_cons' (mg_name (pg_name (i := 2) S.nd rfl (.inl rfl))) mgs_nil))))
  (mb_cons (ms_set (i := 3) S.nd rfl (.inl rfl) (me_cal c_width_of rfl (hr.mono (by decide)) hg tk (by rfl) (ma_cons (me_var (pv 0)) ma_nil) 1 (len_cons len_nil) rfl rfl))
  (mb_cons (ms_set (i := 4) S.nd rfl (.inl rfl) (me_op opMul sMul (me_lst (ma_cons me_int (ma_cons (me_var (pv 1)) ma_nil))) (me_op op_shl sShl me_int (me_var (pv 3)))))
  (mb_cons (ms_for (passes_of rfl) rfl (mi_seq rfl (me_var (pv 2))) (mg_name (pg_name (i := 5) S.nd rfl (.inl rfl))) (mb_one (ms_setComp (i := 4) (own := [("paid", 6), ("more", 7)]) (g := (gTup Γ.K 2 (gCons (gName 6) (gCons (gName 7) gNil)))) rfl S.nd rfl rfl (sw_true rfl rfl rfl (by decide +kernel)) (mi_zip rfl (by rfl) n.n_zip (ma_cons (me_var (pv 4)) (ma_cons (me_cal c_term_pays rfl (hr.mono (by decide)) hg tk (by rfl) (ma_cons (me_var (pv 5)) (ma_cons (me_var (pv 3)) ma_nil)) 2 (len_cons (len_cons len_nil)) rfl rfl) ma_nil))) (blkOk_by (own := [("paid", 6), ("more", 7)]) (N := ["bill", "own", "terms", "wide", "pays", "term", "paid", "more"]) (sc := defScope s_bit_pays) (by decide +kernel)) (fun _ _ _ _ _ => pg_tup rfl (pgs_cons (pg_name (i := 6) S.nd rfl (.inl rfl)) (pgs_cons (pg_name (i := 7) S.nd rfl (.inl rfl)) pgs_nil))) (gw_tup rfl (gws_cons (gw_name (by decide)) (gws_cons (gw_name (by decide)) gws_nil))) (fun _ _ _ _ _ => mts_nil) (fun _ _ _ _ _ => (me_op opAdd sAdd (me_var (pv 6)) (me_var (pv 7)))))))
  (mb_one (ms_ret (me_var (pv 4))))))))
theorem ok_pays_of_firsts (n : Ns Γ mg) (F : Fun Γ.K "pays_of_firsts" "pays_of_firsts" s_pays_of_firsts f fd) : FnG P w mg base Γ 1 f fd ["pays"] g_pays_of_firsts :=
  have S := sc_pays_of_firsts
  ok_fn (N := ["pays", "parts", "pay", "zero", "one"]) (c := d_pays_of_firsts) F S fun cdv A outer s H E W hr hg tk => (mb_cons (ms_setComp (i := 1) (own := [("pay", 2)]) (g := (gName 2)) rfl S.nd rfl rfl (sw_true rfl rfl rfl (by decide +kernel)) (mi_seq rfl (me_var (pv 0))) (blkOk_by (own := [("pay", 2)]) (N := ["pays", "parts", "pay", "zero", "one"]) (sc := defScope s_pays_of_firsts) (by decide +kernel)) (fun _ _ _ _ _ => pg_name (i := 2) S.nd rfl (.inl rfl)) (gw_name (by decide)) (fun _ _ _ _ _ => mts_nil) (fun _ _ _ _ _ => (me_lst (ma_cons (me_var (pv 2)) ma_nil))))
  (mb_cons (ms_while 100000 (passes_of rfl) (mt_cmp op_gt sCmp (nomark _) (me_callB call_len (sLen rfl) (by rfl) n.n_len (by decide +kernel) (ma_cons (me_var (pv 1)) ma_nil)) me_int) (mb_one (ms_setComp (i := 1) (own := [("zero", 3), ("one", 4)]) (g := (gTup Γ.K 2 (gCons (gName 3) (gCons (gName 4) gNil)))) rfl S.nd rfl rfl (sw_true rfl rfl rfl (by decide +kernel)) (mi_zip rfl (by rfl) n.n_zip (ma_cons (me_step rfl (me_var (pv 1)) me_int (me_globJ (by rfl) n.c_OF_BITS)) (ma_cons (me_step rfl (me_var (pv 1)) me_int (me_globJ (by rfl) n.c_OF_BITS)) ma_nil))) (blkOk_by (own := [("zero", 3), ("one", 4)]) (N := ["pays", "parts", "pay", "zero", "one"]) (sc := defScope s_pays_of_firsts) (by decide +kernel)) (fun _ _ _ _ _ => pg_tup rfl (pgs_cons (pg_name (i := 3) S.nd rfl (.inl rfl)) (pgs_cons (pg_name (i := 4) S.nd rfl (.inl rfl)) pgs_nil))) (gw_tup rfl (gws_cons (gw_name (by decide)) (gws_cons (gw_name (by decide)) gws_nil))) (fun _ _ _ _ _ => mts_nil) (fun _ _ _ _ _ => (me_op opAdd sAdd (me_op opAdd sAdd (me_var (pv 3)) (me_var (pv 3))) (me_var (pv 4)))))))
  (mb_one (ms_ret (me_ix rfl (hu_of hr) (me_var (pv 1)) me_int (fun _ _ => rfl) (fun _ _ => rfl))))))
theorem ok_pays_of_seconds (n : Ns Γ mg) (F : Fun Γ.K "pays_of_seconds" "pays_of_seconds" s_pays_of_seconds f fd) : FnG P w mg base Γ 1 f fd ["pays"] g_pays_of_seconds :=
  have S := sc_pays_of_seconds
  ok_fn (N := ["pays", "parts", "pay", "zero", "one"]) (c := d_pays_of_seconds) F S fun cdv A outer s H E W hr hg tk => (mb_cons (ms_setComp (i := 1) (own := [("pay", 2)]) (g := (gName 2)) rfl S.nd rfl rfl (sw_true rfl rfl rfl (by decide +kernel)) (mi_seq rfl (me_var (pv 0))) (blkOk_by (own := [("pay", 2)]) (N := ["pays", "parts", "pay", "zero", "one"]) (sc := defScope s_pays_of_seconds) (by decide +kernel)) (fun _ _ _ _ _ => pg_name (i := 2) S.nd rfl (.inl rfl)) (gw_name (by decide)) (fun _ _ _ _ _ => mts_nil) (fun _ _ _ _ _ => (me_lst (ma_cons (me_var (pv 2)) ma_nil))))
  (mb_cons (ms_while 100000 (passes_of rfl) (mt_cmp op_gt sCmp (nomark _) (me_callB call_len (sLen rfl) (by rfl) n.n_len (by decide +kernel) (ma_cons (me_var (pv 1)) ma_nil)) me_int) (mb_one (ms_setComp (i := 1) (own := [("zero", 3), ("one", 4)]) (g := (gTup Γ.K 2 (gCons (gName 3) (gCons (gName 4) gNil)))) rfl S.nd rfl rfl (sw_true rfl rfl rfl (by decide +kernel)) (mi_zip rfl (by rfl) n.n_zip (ma_cons (me_step rfl (me_var (pv 1)) me_int (me_globJ (by rfl) n.c_OF_BITS)) (ma_cons (me_step rfl (me_var (pv 1)) me_int (me_globJ (by rfl) n.c_OF_BITS)) ma_nil))) (blkOk_by (own := [("zero", 3), ("one", 4)]) (N := ["pays", "parts", "pay", "zero", "one"]) (sc := defScope s_pays_of_seconds) (by decide +kernel)) (fun _ _ _ _ _ => pg_tup rfl (pgs_cons (pg_name (i := 3) S.nd rfl (.inl rfl)) (pgs_cons (pg_name (i := 4) S.nd rfl (.inl rfl)) pgs_nil))) (gw_tup rfl (gws_cons (gw_name (by decide)) (gws_cons (gw_name (by decide)) gws_nil))) (fun _ _ _ _ _ => mts_nil) (fun _ _ _ _ _ => (me_op opAdd sAdd (me_op opAdd sAdd (me_var (pv 3)) (me_var (pv 4))) (me_var (pv 4)))))))
  (mb_one (ms_ret (me_ix rfl (hu_of hr) (me_var (pv 1)) me_int (fun _ _ => rfl) (fun _ _ => rfl))))))
theorem ok_pair_pays (n : Ns Γ mg) (F : Fun Γ.K "pair_pays" "pair_pays" s_pair_pays f fd) (c_pays_of_firsts : Cal P w mg base Γ 1 "pays_of_firsts" ["pays"] g_pays_of_firsts) (c_pays_of_seconds : Cal P w mg base Γ 1 "pays_of_seconds" ["pays"] g_pays_of_seconds) : FnG P w mg base Γ 2 f fd ["pays"] g_pair_pays :=
  have S := sc_pair_pays
  ok_fn (N := ["pays", "pay", "more"]) (c := d_pair_pays) F S fun cdv A outer s H E W hr hg tk => (mb_one (ms_ret (me_comp (own := [("pay", 1), ("more", 2)]) (g := (gTup Γ.K 2 (gCons (gName 1) (gCons (gName 2) gNil)))) rfl S.nd (mi_zip rfl (by rfl) n.n_zip (ma_cons (me_cal c_pays_of_firsts rfl (hr.mono (by decide)) hg tk (by rfl) (ma_cons (me_var (pv 0)) ma_nil) 1 (len_cons len_nil) rfl rfl) (ma_cons (me_cal c_pays_of_seconds rfl (hr.mono (by decide)) hg tk (by rfl) (ma_cons (me_var (pv 0)) ma_nil) 1 (len_cons len_nil) rfl rfl) ma_nil))) (blkOk_by (own := [("pay", 1), ("more", 2)]) (N := ["pays", "pay", "more"]) (sc := defScope s_pair_pays) (by decide +kernel)) (fun _ _ _ _ _ => pg_tup rfl (pgs_cons (pg_name (i := 1) S.nd rfl (.inl rfl)) (pgs_cons (pg_name (i := 2) S.nd rfl (.inl rfl)) pgs_nil))) (gw_tup rfl (gws_cons (gw_name (by decide)) (gws_cons (gw_name (by decide)) gws_nil))) (fun _ _ _ _ _ => mts_nil) (fun _ _ _ _ _ => (me_op op_sub sSub (me_var (pv 2)) (me_var (pv 1)))))))
theorem ok_like_couples (n : Ns Γ mg) (F : Fun Γ.K "like_couples" "like_couples" s_like_couples f fd) : FnG P w mg base Γ 1 f fd ["wide"] g_like_couples :=
  have S := sc_like_couples
  ok_fn (N := ["wide", "numbers", "_", "number", "figure"]) (c := d_like_couples) F S fun cdv A outer s H E W hr hg tk => (mb_cons (ms_set (i := 1) S.nd rfl (.inl rfl) (me_lst (ma_cons me_int ma_nil)))
  (mb_cons (ms_for (passes_of rfl) rfl (mi_range1 (by rfl) n.n_range (ma_cons (me_var (pv 0)) ma_nil)) (mg_name (pg_name (i := 2) S.nd rfl (.inl rfl))) (mb_one (ms_setComp2 (i := 1) (own := [("number", 3), ("figure", 4)]) (vs1 := [4]) (g := (gName 3)) (g1 := (gName 4)) rfl S.nd rfl rfl (sw_true rfl rfl rfl (by decide +kernel)) (mi_seq rfl (me_var (pv 1))) (blkOk_by (own := [("number", 3), ("figure", 4)]) (N := ["wide", "numbers", "_", "number", "figure"]) (sc := defScope s_like_couples) (by decide +kernel)) (by decide) (fun _ _ _ _ _ => pg_name (i := 3) S.nd rfl (.inl rfl)) (gw_name (by decide)) (fun _ _ _ _ _ => mts_nil) (fun _ _ _ _ _ => (mi_seq rfl (me_tup (ma_cons me_int (ma_cons me_int ma_nil))))) (fun _ _ _ _ _ => pg_name (i := 4) S.nd rfl (.inl rfl)) (gw_name (by decide)) (fun _ _ _ _ _ => mts_nil) (fun _ _ _ _ _ => (me_op opAdd sAdd (me_op opMul sMul (me_globJ (by rfl) n.c_OF_PAIRS) (me_var (pv 3))) (me_var (pv 4)))))))
  (mb_one (ms_ret (me_var (pv 1))))))
theorem ok_paid_at (n : Ns Γ mg) (F : Fun Γ.K "paid_at" "paid_at" s_paid_at f fd) : FnG P w mg base Γ 1 f fd ["height"] g_paid_at :=
  have S := sc_paid_at
  ok_fn (N := ["height"]) (c := d_paid_at) F S fun cdv A outer s H E W hr hg tk => (mb_one (ms_ret (me_un un_neg sNeg (me_op op_fdiv sDiv (me_un un_neg sNeg (me_var (pv 0))) (me_globJ (by rfl) n.c_MORE_THAN_BITS)))))
theorem ok_more_by (n : Ns Γ mg) (F : Fun Γ.K "more_by" "more_by" s_more_by f fd) : FnG P w mg base Γ 1 f fd ["pays", "flip"] g_more_by :=
  have S := sc_more_by
  ok_fn (N := ["pays", "flip", "window", "pay"]) (c := d_more_by) F S fun cdv A outer s H E W hr hg tk => (mb_one (ms_ret (me_comp (own := [("window", 2), ("pay", 3)]) (g := (gTup Γ.K 2 (gCons (gName 2) (gCons (gName 3) gNil)))) rfl S.nd (mi_enum rfl (by rfl) n.n_enumerate (ma_cons (me_var (pv 0)) ma_nil)) (blkOk_by (own := [("window", 2), ("pay", 3)]) (N := ["pays", "flip", "window", "pay"]) (sc := defScope s_more_by) (by decide +kernel)) (fun _ _ _ _ _ => pg_tup rfl (pgs_cons (pg_name (i := 2) S.nd rfl (.inl rfl)) (pgs_cons (pg_name (i := 3) S.nd rfl (.inl rfl)) pgs_nil))) (gw_tup rfl (gws_cons (gw_name (by decide)) (gws_cons (gw_name (by decide)) gws_nil))) (fun _ _ _ _ _ => mts_nil) (fun _ _ _ _ _ => (me_op op_sub sSub (me_op opMul sMul (me_globJ (by rfl) n.c_MORE_THAN_BITS) (me_op op_sub sSub (me_ix rfl (hu_of hr) (me_var (pv 0)) (me_op op_xor sXor (me_var (pv 2)) (me_var (pv 1))) (fun _ _ => rfl) (fun _ _ => rfl)) (me_var (pv 3)))) me_int)))))
theorem ok_heights_ahead (n : Ns Γ mg) (F : Fun Γ.K "heights_ahead" "heights_ahead" s_heights_ahead f fd) (c_more_by : Cal P w mg base Γ 1 "more_by" ["pays", "flip"] g_more_by) : FnG P w mg base Γ 2 f fd ["pays", "flip", "behind"] g_heights_ahead :=
  have S := sc_heights_ahead
  ok_fn (N := ["pays", "flip", "behind", "walks", "more", "height", "zero", "one"]) (c := d_heights_ahead) F S fun cdv A outer s H E W hr hg tk => (mb_cons (ms_setComp (i := 3) (own := [("more", 4), ("height", 5)]) (g := (gTup Γ.K 2 (gCons (gName 4) (gCons (gName 5) gNil)))) rfl S.nd rfl rfl (sw_true rfl rfl rfl (by decide +kernel)) (mi_zip rfl (by rfl) n.n_zip (ma_cons (me_cal c_more_by rfl (hr.mono (by decide)) hg tk (by rfl) (ma_cons (me_var (pv 0)) (ma_cons (me_var (pv 1)) ma_nil)) 2 (len_cons (len_cons len_nil)) rfl rfl) (ma_cons (me_op opMul sMul (me_var (pv 2)) (me_globJ (by rfl) n.c_OF_BITS)) ma_nil))) (blkOk_by (own := [("more", 4), ("height", 5)]) (N := ["pays", "flip", "behind", "walks", "more", "height", "zero", "one"]) (sc := defScope s_heights_ahead) (by decide +kernel)) (fun _ _ _ _ _ => pg_tup rfl (pgs_cons (pg_name (i := 4) S.nd rfl (.inl rfl)) (pgs_cons (pg_name (i := 5) S.nd rfl (.inl rfl)) pgs_nil))) (gw_tup rfl (gws_cons (gw_name (by decide)) (gws_cons (gw_name (by decide)) gws_nil))) (fun _ _ _ _ _ => mts_nil) (fun _ _ _ _ _ => (me_op opAdd sAdd (me_var (pv 4)) (me_var (pv 5)))))
  (mb_one (ms_ret (me_comp (own := [("zero", 6), ("one", 7)]) (g := (gTup Γ.K 2 (gCons (gName 6) (gCons (gName 7) gNil)))) rfl S.nd (mi_zip rfl (by rfl) n.n_zip (ma_cons (me_step rfl (me_var (pv 3)) me_int (me_globJ (by rfl) n.c_OF_BITS)) (ma_cons (me_step rfl (me_var (pv 3)) me_int (me_globJ (by rfl) n.c_OF_BITS)) ma_nil))) (blkOk_by (own := [("zero", 6), ("one", 7)]) (N := ["pays", "flip", "behind", "walks", "more", "height", "zero", "one"]) (sc := defScope s_heights_ahead) (by decide +kernel)) (fun _ _ _ _ _ => pg_tup rfl (pgs_cons (pg_name (i := 6) S.nd rfl (.inl rfl)) (pgs_cons (pg_name (i := 7) S.nd rfl (.inl rfl)) pgs_nil))) (gw_tup rfl (gws_cons (gw_name (by decide)) (gws_cons (gw_name (by decide)) gws_nil))) (fun _ _ _ _ _ => mts_nil) (fun _ _ _ _ _ => (me_callB (call_max3Nu rfl) sMax3 (by rfl) n.n_max (by decide +kernel) (ma_cons me_int (ma_cons (me_var (pv 6)) (ma_cons (me_var (pv 7)) ma_nil)))))))))
theorem ok_layers_of (n : Ns Γ mg) (F : Fun Γ.K "layers_of" "layers_of" s_layers_of f fd) (c_heights_ahead : Cal P w mg base Γ 2 "heights_ahead" ["pays", "flip", "behind"] g_heights_ahead) : FnG P w mg base Γ 3 f fd ["pays", "flips"] g_layers_of :=
  have S := sc_layers_of
  ok_fn (N := ["pays", "flips", "layers", "flip"]) (c := d_layers_of) F S fun cdv A outer s H E W hr hg tk => (mb_cons (ms_set (i := 2) S.nd rfl (.inl rfl) (me_lstM (ma_cons (me_op opMul sMul (me_lst (ma_cons me_int ma_nil)) (me_op op_fdiv sDiv (me_callB call_len (sLen rfl) (by rfl) n.n_len (by decide +kernel) (ma_cons (me_var (pv 0)) ma_nil)) (me_globJ (by rfl) n.c_OF_BITS))) ma_nil)))
  (mb_cons (ms_for (passes_of rfl) rfl (mi_seq rfl (me_rev rfl (me_var (pv 1)))) (mg_name (pg_name (i := 3) S.nd rfl (.inl rfl))) (mb_one (ms_expr (me_app (pe_bm PySem.F.plainAttrs_list PySem.F.slot_list_append PySem.F.type_list_append mt_append (me_var (pv 2)) (pa_cons (me_cal c_heights_ahead rfl (hr.mono (by decide)) hg tk (by rfl) (ma_cons (me_var (pv 0)) (ma_cons (me_var (pv 3)) (ma_cons (me_ix rfl (hu_of hr) (me_var (pv 2)) (me_un un_neg sNeg me_int) (fun _ _ => rfl) (fun _ _ => rfl)) ma_nil))) 3 (len_cons (len_cons (len_cons len_nil))) rfl rfl) pa_nil))))))
  (mb_one (ms_ret (me_rev rfl (me_var (pv 2)))))))
theorem ok_further_bits (n : Ns Γ mg) (F : Fun Γ.K "further_bits" "further_bits" s_further_bits f fd) (c_more_by : Cal P w mg base Γ 1 "more_by" ["pays", "flip"] g_more_by) : FnG P w mg base Γ 2 f fd ["pays", "flips", "layers", "number"] g_further_bits :=
  have S := sc_further_bits
  ok_fn (N := ["pays", "flips", "layers", "number", "bits", "flip", "heights", "behind", "window"]) (c := d_further_bits) F S fun cdv A outer s H E W hr hg tk => (mb_cons (ms_set (i := 4) S.nd rfl (.inl rfl) (me_lstM ma_nil))
  (mb_cons (ms_for (passes_of rfl) rfl (mi_zip3 rfl (by rfl) n.n_zip (ma_cons (me_var (pv 1)) (ma_cons (me_var (pv 2)) (ma_cons (me_sl rfl (me_var (pv 2)) (mo_some me_int) mo_none) ma_nil)))) (mg_tup' rfl rfl (mgs_cons' (mg_name (pg_name (i := 5) S.nd rfl (.inl rfl))) (mgs_cons' (mg_name (pg_name (i := 6) S.nd rfl (.inl rfl))) (mgs_cons' (mg_name (pg_name (i := 7) S.nd rfl (.inl rfl))) mgs_nil)))) (mb_cons (ms_if (mt_cmp (opEq hr.units) sEq (nomark _) (me_ix rfl (hu_of hr) (me_var (pv 6)) (me_var (pv 3)) (fun _ _ => rfl) (fun _ _ => rfl)) me_int) (mb_one ms_break) mb_nil)
  (mb_cons (ms_set (i := 8) S.nd rfl (.inl rfl) (me_op opMul sMul (me_globJ (by rfl) n.c_OF_BITS) (me_var (pv 3))))
  (mb_cons (ms_if (mt_cmp op_lt sCmp (nomark _) (me_op opAdd sAdd (me_ix rfl (hu_of hr) (me_cal c_more_by rfl (hr.mono (by decide)) hg tk (by rfl) (ma_cons (me_var (pv 0)) (ma_cons (me_var (pv 5)) ma_nil)) 2 (len_cons (len_cons len_nil)) rfl rfl) (me_var (pv 8)) (fun _ _ => rfl) (fun _ _ => rfl)) (me_ix rfl (hu_of hr) (me_var (pv 7)) (me_op op_mod sMod (me_var (pv 8)) (me_callB call_len (sLen rfl) (by rfl) n.n_len (by decide +kernel) (ma_cons (me_var (pv 7)) ma_nil))) (fun _ _ => rfl) (fun _ _ => rfl))) (me_ix rfl (hu_of hr) (me_var (pv 6)) (me_var (pv 3)) (fun _ _ => rfl) (fun _ _ => rfl))) (mb_one (ms_aug (i := 8) S.nd rfl (.inl rfl) me_int iop_add sAddI)) mb_nil)
  (mb_cons (ms_set (i := 3) S.nd rfl (.inl rfl) (me_op op_mod sMod (me_var (pv 8)) (me_callB call_len (sLen rfl) (by rfl) n.n_len (by decide +kernel) (ma_cons (me_var (pv 7)) ma_nil))))
  (mb_one (ms_expr (me_app (pe_bm PySem.F.plainAttrs_list PySem.F.slot_list_append PySem.F.type_list_append mt_append (me_var (pv 4)) (pa_cons (me_op op_mod sMod (me_var (pv 8)) (me_globJ (by rfl) n.c_OF_BITS)) pa_nil))))))))))
  (mb_one (ms_ret (me_callTy call_tuple_of (sTuple rfl) (by rfl) n.n_tuple (by decide +kernel) (ma_cons (me_var (pv 4)) ma_nil))))))
theorem ok_best_single (n : Ns Γ mg) (F : Fun Γ.K "best_single" "best_single" s_best_single f fd) (c_layers_of : Cal P w mg base Γ 3 "layers_of" ["pays", "flips"] g_layers_of) (c_more_by : Cal P w mg base Γ 1 "more_by" ["pays", "flip"] g_more_by) (c_signs_of : Cal P w mg base Γ 1 "signs_of" ["number", "signs", "wide"] g_signs_of) (c_further_bits : Cal P w mg base Γ 2 "further_bits" ["pays", "flips", "layers", "number"] g_further_bits) (c_paid_at : Cal P w mg base Γ 1 "paid_at" ["height"] g_paid_at) : FnG P w mg base Γ 4 f fd ["pays", "wide"] g_best_single :=
  have S := sc_best_single
  ok_fn (N := ["pays", "wide", "flips", "layers", "many", "mores", "heights", "best", "number", "place", "further", "step", "window"]) (c := d_best_single) F S fun cdv A outer s H E W hr hg tk => (mb_cons (ms_setComp (i := 2) (own := [("step", 11)]) (g := (gName 11)) rfl S.nd rfl rfl (sw_true rfl rfl rfl (by decide +kernel)) (mi_range2 (by rfl) n.n_range (ma_cons me_int (ma_cons (me_op opAdd sAdd (me_var (pv 1)) me_int) ma_nil))) (blkOk_by (own := [("step", 11)]) (N := ["pays", "wide", "flips", "layers", "many", "mores", "heights", "best", "number", "place", "further", "step", "window"]) (sc := defScope s_best_single) (by decide +kernel)) (fun _ _ _ _ _ => pg_name (i := 11) S.nd rfl (.inl rfl)) (gw_name (by decide)) (fun _ _ _ _ _ => mts_nil) (fun _ _ _ _ _ => (me_op op_shl sShl me_int (me_var (pv 11)))))
  (mb_cons (ms_set (i := 3) S.nd rfl (.inr rfl) (me_cal c_layers_of rfl (hr.mono (by decide)) hg tk (by rfl) (ma_cons (me_var (pv 0)) (ma_cons (me_var (pv 2)) ma_nil)) 2 (len_cons (len_cons len_nil)) rfl rfl))
  (mb_cons (ms_set (i := 4) S.nd rfl (.inr rfl) (me_callB call_len (sLen rfl) (by rfl) n.n_len (by decide +kernel) (ma_cons (me_ix rfl (hu_of hr) (me_var (pv 3)) me_int (fun _ _ => rfl) (fun _ _ => rfl)) ma_nil)))
  (mb_cons (ms_set (i := 5) S.nd rfl (.inr rfl) (me_cal c_more_by rfl (hr.mono (by decide)) hg tk (by rfl) (ma_cons (me_var (pv 0)) (ma_cons me_int ma_nil)) 2 (len_cons (len_cons len_nil)) rfl rfl))
  (mb_cons (ms_setComp (i := 6) (own := [("window", 12)]) (g := (gName 12)) rfl S.nd rfl rfl (sw_true rfl rfl rfl (by decide +kernel)) (mi_range3 (by rfl) n.n_range (ma_cons me_int (ma_cons (me_callB call_len (sLen rfl) (by rfl) n.n_len (by decide +kernel) (ma_cons (me_var (pv 0)) ma_nil)) (ma_cons (me_globJ (by rfl) n.c_OF_BITS) ma_nil)))) (blkOk_by (own := [("window", 12)]) (N := ["pays", "wide", "flips", "layers", "many", "mores", "heights", "best", "number", "place", "further", "step", "window"]) (sc := defScope s_best_single) (by decide +kernel)) (fun _ _ _ _ _ => pg_name (i := 12) S.nd rfl (.inl rfl)) (gw_name (by decide)) (fun _ _ _ _ _ => mts_nil) (fun _ _ _ _ _ => (me_op opAdd sAdd (me_ix rfl (hu_of hr) (me_var (pv 5)) (me_var (pv 12)) (fun _ _ => rfl) (fun _ _ => rfl)) (me_ix rfl (hu_of hr) (me_ix rfl (hu_of hr) (me_var (pv 3)) me_int (fun _ _ => rfl) (fun _ _ => rfl)) (me_op op_mod sMod (me_var (pv 12)) (me_var (pv 4))) (fun _ _ => rfl) (fun _ _ => rfl)))))
  (mb_cons (ms_set (i := 7) S.nd rfl (.inl rfl) (me_callB (cr_max rfl) (sMaxL rfl) (by rfl) n.n_max (by decide +kernel) (ma_cons (me_var (pv 6)) ma_nil)))
  (mb_cons (ms_set (i := 8) S.nd rfl (.inl rfl) (me_index rfl (pe_bm PySem.F.plainAttrs_list PySem.F.slot_list_index PySem.F.type_list_index mt_index (me_var (pv 6)) (pa_cons (me_var (pv 7)) pa_nil))))
  (mb_cons (ms_set (i := 9) S.nd rfl (.inl rfl) (me_cal c_signs_of rfl (hr.mono (by decide)) hg tk (by rfl) (ma_cons (me_var (pv 8)) (ma_cons (me_globT rfl (by rfl) n.c_BITS) (ma_cons (me_var (pv 1)) ma_nil))) 3 (len_cons (len_cons (len_cons len_nil))) rfl rfl))
  (mb_cons (ms_set (i := 10) S.nd rfl (.inl rfl) (me_cal c_further_bits rfl (hr.mono (by decide)) hg tk (by rfl) (ma_cons (me_var (pv 0)) (ma_cons (me_var (pv 2)) (ma_cons (me_var (pv 3)) (ma_cons (me_op op_mod sMod (me_op opMul sMul (me_globJ (by rfl) n.c_OF_BITS) (me_var (pv 8))) (me_var (pv 4))) ma_nil)))) 4 (len_cons (len_cons (len_cons (len_cons len_nil)))) rfl rfl))
  (mb_one (ms_ret (me_tup (ma_cons (me_cal c_paid_at rfl (hr.mono (by decide)) hg tk (by rfl) (ma_cons (me_var (pv 7)) ma_nil) 1 (len_cons len_nil) rfl rfl) (ma_cons (me_op opAdd sAdd (me_op opAdd sAdd (me_var (pv 9)) (me_tup (ma_cons me_int ma_nil))) (me_var (pv 10))) (ma_cons (me_op opAdd sAdd (me_op opAdd sAdd (me_var (pv 9)) (me_tup (ma_cons me_int ma_nil))) (me_var (pv 10))) ma_nil)))))))))))))))
theorem ok_raised (n : Ns Γ mg) (F : Fun Γ.K "raised" "raised" s_raised f fd) : FnG P w mg base Γ 1 f fd ["pays", "heights", "base"] g_raised :=
  have S := sc_raised
  ok_fn (N := ["pays", "heights", "base", "higher", "walks", "sign", "pay", "behind", "one", "two"]) (c := d_raised) F S fun cdv A outer s H E W hr hg tk => (mb_cons (ms_set (i := 3) S.nd rfl (.inl rfl) (me_var (pv 1)))
  (mb_cons (ms_setComp (i := 4) (own := [("pay", 6), ("behind", 7)]) (g := (gTup Γ.K 2 (gCons (gName 6) (gCons (gName 7) gNil)))) rfl S.nd rfl rfl (sw_true rfl rfl rfl (by decide +kernel)) (mi_zip rfl (by rfl) n.n_zip (ma_cons (me_var (pv 0)) (ma_cons (me_op opMul sMul (me_var (pv 1)) (me_var (pv 2))) ma_nil))) (blkOk_by (own := [("pay", 6), ("behind", 7)]) (N := ["pays", "heights", "base", "higher", "walks", "sign", "pay", "behind", "one", "two"]) (sc := defScope s_raised) (by decide +kernel)) (fun _ _ _ _ _ => pg_tup rfl (pgs_cons (pg_name (i := 6) S.nd rfl (.inl rfl)) (pgs_cons (pg_name (i := 7) S.nd rfl (.inl rfl)) pgs_nil))) (gw_tup rfl (gws_cons (gw_name (by decide)) (gws_cons (gw_name (by decide)) gws_nil))) (fun _ _ _ _ _ => mts_nil) (fun _ _ _ _ _ => (me_op opAdd sAdd (me_var (pv 6)) (me_var (pv 7)))))
  (mb_cons (ms_for (passes_of rfl) rfl (mi_range1 (by rfl) n.n_range (ma_cons (me_var (pv 2)) ma_nil)) (mg_name (pg_name (i := 5) S.nd rfl (.inl rfl))) (mb_one (ms_setComp (i := 3) (own := [("one", 8), ("two", 9)]) (g := (gTup Γ.K 2 (gCons (gName 8) (gCons (gName 9) gNil)))) rfl S.nd rfl rfl (sw_true rfl rfl rfl (by decide +kernel)) (mi_zip rfl (by rfl) n.n_zip (ma_cons (me_var (pv 3)) (ma_cons (me_step rfl (me_var (pv 4)) (me_var (pv 5)) (me_var (pv 2))) ma_nil))) (blkOk_by (own := [("one", 8), ("two", 9)]) (N := ["pays", "heights", "base", "higher", "walks", "sign", "pay", "behind", "one", "two"]) (sc := defScope s_raised) (by decide +kernel)) (fun _ _ _ _ _ => pg_tup rfl (pgs_cons (pg_name (i := 8) S.nd rfl (.inl rfl)) (pgs_cons (pg_name (i := 9) S.nd rfl (.inl rfl)) pgs_nil))) (gw_tup rfl (gws_cons (gw_name (by decide)) (gws_cons (gw_name (by decide)) gws_nil))) (fun _ _ _ _ _ => mts_nil) (fun _ _ _ _ _ => (me_if (mt_cmp op_gt sCmp (nomark _) (me_var (pv 8)) (me_var (pv 9))) (me_var (pv 8)) (me_var (pv 9)))))))
  (mb_one (ms_ret (me_var (pv 3)))))))
theorem ok_trail (n : Ns Γ mg) (F : Fun Γ.K "trail" "trail" s_trail f fd) : FnG P w mg base Γ 1 f fd ["pays", "layers", "start", "base"] g_trail :=
  have S := sc_trail
  ok_fn (N := ["pays", "layers", "start", "base", "number", "numbers", "signs", "level", "lower", "window"]) (c := d_trail) F S fun cdv A outer s H E W hr hg tk => (mb_cons (ms_set (i := 4) S.nd rfl (.inl rfl) (me_var (pv 2)))
  (mb_cons (ms_set (i := 5) S.nd rfl (.inl rfl) (me_lstM (ma_cons (me_var (pv 4)) ma_nil)))
  (mb_cons (ms_set (i := 6) S.nd rfl (.inl rfl) (me_lstM ma_nil))
  (mb_cons (ms_for (passes_of rfl) rfl (mi_revR2 (by rfl) n.n_reversed (by rfl) n.n_range me_int (me_callB call_len (sLen rfl) (by rfl) n.n_len (by decide +kernel) (ma_cons (me_var (pv 1)) ma_nil))) (mg_name (pg_name (i := 7) S.nd rfl (.inl rfl))) (mb_cons (ms_set (i := 8) S.nd rfl (.inl rfl) (me_ix rfl (hu_of hr) (me_var (pv 1)) (me_op op_sub sSub (me_var (pv 7)) me_int) (fun _ _ => rfl) (fun _ _ => rfl)))
  (mb_cons (ms_set (i := 9) S.nd rfl (.inl rfl) (me_op opMul sMul (me_var (pv 3)) (me_var (pv 4))))
  (mb_cons (ms_while 100000 (passes_of rfl) (mt_cmp (opNe hr.units) sNe (nomark _) (me_op opAdd sAdd (me_ix rfl (hu_of hr) (me_var (pv 0)) (me_var (pv 9)) (fun _ _ => rfl) (fun _ _ => rfl)) (me_ix rfl (hu_of hr) (me_var (pv 8)) (me_op op_mod sMod (me_var (pv 9)) (me_callB call_len (sLen rfl) (by rfl) n.n_len (by decide +kernel) (ma_cons (me_var (pv 8)) ma_nil))) (fun _ _ => rfl) (fun _ _ => rfl))) (me_ix rfl (hu_of hr) (me_ix rfl (hu_of hr) (me_var (pv 1)) (me_var (pv 7)) (fun _ _ => rfl) (fun _ _ => rfl)) (me_var (pv 4)) (fun _ _ => rfl) (fun _ _ => rfl))) (mb_one (ms_aug (i := 9) S.nd rfl (.inl rfl) me_int iop_add sAddI)))
  (mb_cons (ms_set (i := 4) S.nd rfl (.inl rfl) (me_op op_mod sMod (me_var (pv 9)) (me_callB call_len (sLen rfl) (by rfl) n.n_len (by decide +kernel) (ma_cons (me_var (pv 8)) ma_nil))))
  (mb_cons (ms_expr (me_app (pe_bm PySem.F.plainAttrs_list PySem.F.slot_list_append PySem.F.type_list_append mt_append (me_var (pv 5)) (pa_cons (me_var (pv 4)) pa_nil))))
  (mb_one (ms_expr (me_app (pe_bm PySem.F.plainAttrs_list PySem.F.slot_list_append PySem.F.type_list_append mt_append (me_var (pv 6)) (pa_cons (me_op op_mod sMod (me_var (pv 9)) (me_var (pv 3))) pa_nil)))))))))))
  (mb_one (ms_ret (me_tup (ma_cons (me_var (pv 5)) (ma_cons (me_var (pv 6)) ma_nil)))))))))
theorem ok_ring_on (n : Ns Γ mg) (F : Fun Γ.K "ring_on" "ring_on" s_ring_on f fd) : FnG P w mg base Γ 1 f fd ["numbers", "signs"] g_ring_on :=
  have S := sc_ring_on
  ok_fn (N := ["numbers", "signs", "seen", "at", "number"]) (c := d_ring_on) F S fun cdv A outer s H E W hr hg tk => (mb_cons (ms_set (i := 2) S.nd rfl (.inl rfl) me_dctM0)
  (mb_cons (ms_for (passes_of rfl) rfl (mi_enum rfl (by rfl) n.n_enumerate (ma_cons (me_var (pv 0)) ma_nil)) (mg_tup' rfl rfl (mgs_cons' (mg_name (pg_name (i := 3) S.nd rfl (.inl rfl))) (mgs_cons' (mg_name (pg_name (i := 4) S.nd rfl (.inl rfl))) mgs_nil))) (mb_cons (ms_if (mt_cmp (op_inDct hr.units) sInDct (by rfl) (me_var (pv 4)) (me_var (pv 2))) (mb_one (ms_ret (me_tup (ma_cons (me_var (pv 4)) (ma_cons (me_callTy call_tuple_of (sTuple rfl) (by rfl) n.n_tuple (by decide +kernel) (ma_cons (me_sl rfl (me_var (pv 1)) (mo_some (me_ix rfl (hu_of hr) (me_var (pv 2)) (me_var (pv 4)) (fun _ _ => rfl) (fun _ _ => rfl))) (mo_some (me_var (pv 3)))) ma_nil)) ma_nil))))) mb_nil)
  (mb_one (ms_dput (hu_of hr) (me_var (pv 2)) (me_var (pv 4)) (me_var (pv 3)) (by rfl)))))
  (mb_one (ms_ret me_non))))
theorem ok_ring_of_one (n : Ns Γ mg) (F : Fun Γ.K "ring_of_one" "ring_of_one" s_ring_of_one f fd) : FnG P w mg base Γ 1 f fd ["pays", "base"] g_ring_of_one :=
  have S := sc_ring_of_one
  ok_fn (N := ["pays", "base", "ones", "sign"]) (c := d_ring_of_one) F S fun cdv A outer s H E W hr hg tk => (mb_cons (ms_set (i := 2) S.nd rfl (.inl rfl) (me_op op_fdiv sDiv (me_op op_sub sSub (me_callB call_len (sLen rfl) (by rfl) n.n_len (by decide +kernel) (ma_cons (me_var (pv 0)) ma_nil)) me_int) (me_op op_sub sSub (me_var (pv 1)) me_int)))
  (mb_cons (ms_for (passes_of rfl) rfl (mi_range1 (by rfl) n.n_range (ma_cons (me_var (pv 1)) ma_nil)) (mg_name (pg_name (i := 3) S.nd rfl (.inl rfl))) (mb_one (ms_if (mt_cmp op_gt sCmp (nomark _) (me_ix rfl (hu_of hr) (me_var (pv 0)) (me_op opMul sMul (me_var (pv 3)) (me_var (pv 2))) (fun _ _ => rfl) (fun _ _ => rfl)) me_int) (mb_one (ms_ret (me_tup (ma_cons (me_op op_fdiv sDiv (me_op opMul sMul (me_var (pv 3)) (me_var (pv 2))) (me_var (pv 1))) (ma_cons (me_tup (ma_cons (me_var (pv 3)) ma_nil)) ma_nil))))) mb_nil)))
  (mb_one (ms_ret me_non))))
theorem ok_steepest (n : Ns Γ mg) (F : Fun Γ.K "steepest" "steepest" s_steepest f fd) : FnG P w mg base Γ 1 f fd ["layers"] g_steepest :=
  have S := sc_steepest
  ok_fn (N := ["layers", "grown", "height", "lower"]) (c := d_steepest) F S fun cdv A outer s H E W hr hg tk => (mb_cons (ms_setComp (i := 1) (own := [("height", 2), ("lower", 3)]) (g := (gTup Γ.K 2 (gCons (gName 2) (gCons (gName 3) gNil)))) rfl S.nd rfl rfl (sw_true rfl rfl rfl (by decide +kernel)) (mi_zip rfl (by rfl) n.n_zip (ma_cons (me_ix rfl (hu_of hr) (me_var (pv 0)) (me_un un_neg sNeg me_int) (fun _ _ => rfl) (fun _ _ => rfl)) (ma_cons (me_ix rfl (hu_of hr) (me_var (pv 0)) (me_un un_neg sNeg me_int) (fun _ _ => rfl) (fun _ _ => rfl)) ma_nil))) (blkOk_by (own := [("height", 2), ("lower", 3)]) (N := ["layers", "grown", "height", "lower"]) (sc := defScope s_steepest) (by decide +kernel)) (fun _ _ _ _ _ => pg_tup rfl (pgs_cons (pg_name (i := 2) S.nd rfl (.inl rfl)) (pgs_cons (pg_name (i := 3) S.nd rfl (.inl rfl)) pgs_nil))) (gw_tup rfl (gws_cons (gw_name (by decide)) (gws_cons (gw_name (by decide)) gws_nil))) (fun _ _ _ _ _ => mts_nil) (fun _ _ _ _ _ => (me_op op_sub sSub (me_var (pv 2)) (me_var (pv 3)))))
  (mb_one (ms_ret (me_index rfl (pe_bm PySem.F.plainAttrs_list PySem.F.slot_list_index PySem.F.type_list_index mt_index (me_var (pv 1)) (pa_cons (me_callB (cr_max rfl) (sMaxL rfl) (by rfl) n.n_max (by decide +kernel) (ma_cons (me_var (pv 1)) ma_nil)) pa_nil))))))
theorem ok_climb (n : Ns Γ mg) (F : Fun Γ.K "climb" "climb" s_climb f fd) (c_ring_of_one : Cal P w mg base Γ 1 "ring_of_one" ["pays", "base"] g_ring_of_one) (c_raised : Cal P w mg base Γ 1 "raised" ["pays", "heights", "base"] g_raised) (c_trail : Cal P w mg base Γ 1 "trail" ["pays", "layers", "start", "base"] g_trail) (c_steepest : Cal P w mg base Γ 1 "steepest" ["layers"] g_steepest) (c_ring_on : Cal P w mg base Γ 1 "ring_on" ["numbers", "signs"] g_ring_on) : FnG P w mg base Γ 2 f fd ["pays", "base"] g_climb :=
  have S := sc_climb
  ok_fn (N := ["pays", "base", "ring", "layers", "look", "heights", "numbers", "signs"]) (c := d_climb) F S fun cdv A outer s H E W hr hg tk => (mb_cons (ms_set (i := 2) S.nd rfl (.inl rfl) (me_cal c_ring_of_one rfl (hr.mono (by decide)) hg tk (by rfl) (ma_cons (me_var (pv 0)) (ma_cons (me_var (pv 1)) ma_nil)) 2 (len_cons (len_cons len_nil)) rfl rfl))
  (mb_cons (ms_if (mt_cmp op_notC sIsntC (nomark _) (me_var (pv 2)) me_non) (mb_one (ms_ret (me_tup (ma_cons me_non (ma_cons (me_var (pv 2)) ma_nil))))) mb_nil)
  (mb_cons (ms_set (i := 3) S.nd rfl (.inl rfl) (me_lstM (ma_cons (me_op opMul sMul (me_lst (ma_cons me_int ma_nil)) (me_op op_fdiv sDiv (me_callB call_len (sLen rfl) (by rfl) n.n_len (by decide +kernel) (ma_cons (me_var (pv 0)) ma_nil)) (me_var (pv 1)))) ma_nil)))
  (mb_cons (ms_set (i := 4) S.nd rfl (.inl rfl) me_int)
  (mb_one (ms_while 100000 (passes_of rfl) (mt_val me_bl) (mb_cons (ms_set (i := 5) S.nd rfl (.inl rfl) (me_cal c_raised rfl (hr.mono (by decide)) hg tk (by rfl) (ma_cons (me_var (pv 0)) (ma_cons (me_ix rfl (hu_of hr) (me_var (pv 3)) (me_un un_neg sNeg me_int) (fun _ _ => rfl) (fun _ _ => rfl)) (ma_cons (me_var (pv 1)) ma_nil))) 3 (len_cons (len_cons (len_cons len_nil))) rfl rfl))
  (mb_cons (ms_if (mt_cmp (opEq hr.units) sEq (nomark _) (me_var (pv 5)) (me_ix rfl (hu_of hr) (me_var (pv 3)) (me_un un_neg sNeg me_int) (fun _ _ => rfl) (fun _ _ => rfl))) (mb_one (ms_ret (me_tup (ma_cons (me_var (pv 3)) (ma_cons me_non ma_nil))))) mb_nil)
  (mb_cons (ms_expr (me_app (pe_bm PySem.F.plainAttrs_list PySem.F.slot_list_append PySem.F.type_list_append mt_append (me_var (pv 3)) (pa_cons (me_var (pv 5)) pa_nil))))
  (mb_one (ms_if (mt_cmp op_gt sCmp (nomark _) (me_callB call_len (sLen rfl) (by rfl) n.n_len (by decide +kernel) (ma_cons (me_var (pv 3)) ma_nil)) (me_var (pv 4))) (mb_cons (ms_setT (me_cal c_trail rfl (hr.mono (by decide)) hg tk (by rfl) (ma_cons (me_var (pv 0)) (ma_cons (me_var (pv 3)) (ma_cons (me_cal c_steepest rfl (hr.mono (by decide)) hg tk (by rfl) (ma_cons (me_var (pv 3)) ma_nil) 1 (len_cons len_nil) rfl rfl) (ma_cons (me_var (pv 1)) ma_nil)))) 4 (len_cons (len_cons (len_cons (len_cons len_nil)))) rfl rfl) (mg_tup' rfl rfl (mgs_cons' (mg_name (pg_name (i := 6) S.nd rfl (.inl rfl))) (mgs_cons' (mg_name (pg_name (i := 7) S.nd rfl (.inl rfl))) mgs_nil))))
  (mb_cons (ms_set (i := 2) S.nd rfl (.inl rfl) (me_cal c_ring_on rfl (hr.mono (by decide)) hg tk (by rfl) (ma_cons (me_var (pv 6)) (ma_cons (me_var (pv 7)) ma_nil)) 2 (len_cons (len_cons len_nil)) rfl rfl))
  (mb_cons (ms_if (mt_cmp op_notC sIsntC (nomark _) (me_var (pv 2)) me_non) (mb_one (ms_ret (me_tup (ma_cons me_non (ma_cons (me_var (pv 2)) ma_nil))))) mb_nil)
  (mb_one (ms_aug (i := 4) S.nd rfl (.inl rfl) (me_op opAdd sAdd me_int (me_op op_fdiv sDiv (me_var (pv 4)) me_int)) iop_add sAddI))))) mb_nil)))))))))))
theorem ok_greatest_of (n : Ns Γ mg) (F : Fun Γ.K "greatest_of" "greatest_of" s_greatest_of f fd) : FnG P w mg base Γ 1 f fd ["heights", "starts"] g_greatest_of :=
  have S := sc_greatest_of
  ok_fn (N := ["heights", "starts", "start"]) (c := d_greatest_of) F S fun cdv A outer s H E W hr hg tk => (mb_one (ms_ret (me_callB (cr_max rfl) (sMaxL rfl) (by rfl) n.n_max (by decide +kernel) (ma_cons (me_comp (own := [("start", 2)]) (g := (gName 2)) rfl S.nd (mi_seq rfl (me_var (pv 1))) (blkOk_by (own := [("start", 2)]) (N := ["heights", "starts", "start"]) (sc := defScope s_greatest_of) (by decide +kernel)) (fun _ _ _ _ _ => pg_name (i := 2) S.nd rfl (.inl rfl)) (gw_name (by decide)) (fun _ _ _ _ _ => mts_nil) (fun _ _ _ _ _ => (me_ix rfl (hu_of hr) (me_var (pv 0)) (me_var (pv 2)) (fun _ _ => rfl) (fun _ _ => rfl)))) ma_nil))))
theorem ok_best_walk (n : Ns Γ mg) (F : Fun Γ.K "best_walk" "best_walk" s_best_walk f fd) (c_greatest_of : Cal P w mg base Γ 1 "greatest_of" ["heights", "starts"] g_greatest_of) (c_trail : Cal P w mg base Γ 1 "trail" ["pays", "layers", "start", "base"] g_trail) : FnG P w mg base Γ 2 f fd ["pays", "layers", "starts", "base"] g_best_walk :=
  have S := sc_best_walk
  ok_fn (N := ["pays", "layers", "starts", "base", "top", "fewest", "best_starts", "_", "signs", "start"]) (c := d_best_walk) F S fun cdv A outer s H E W hr hg tk => (mb_cons (ms_set (i := 4) S.nd rfl (.inr rfl) (me_cal c_greatest_of rfl (hr.mono (by decide)) hg tk (by rfl) (ma_cons (me_ix rfl (hu_of hr) (me_var (pv 1)) (me_un un_neg sNeg me_int) (fun _ _ => rfl) (fun _ _ => rfl)) (ma_cons (me_var (pv 2)) ma_nil)) 2 (len_cons (len_cons len_nil)) rfl rfl))
  (mb_cons (ms_set (i := 5) S.nd rfl (.inr rfl) me_int)
  (mb_cons (ms_while 100000 (passes_of rfl) (mt_cmp op_lt sCmp (nomark _) (me_cal c_greatest_of rfl (hr.mono (by decide)) hg tk (by rfl) (ma_cons (me_ix rfl (hu_of hr) (me_var (pv 1)) (me_var (pv 5)) (fun _ _ => rfl) (fun _ _ => rfl)) (ma_cons (me_var (pv 2)) ma_nil)) 2 (len_cons (len_cons len_nil)) rfl rfl) (me_var (pv 4))) (mb_one (ms_aug (i := 5) S.nd rfl (.inr rfl) me_int iop_add sAddI)))
  (mb_cons (ms_setComp (i := 6) (own := [("start", 9)]) (g := (gName 9)) rfl S.nd rfl rfl (sw_true rfl rfl rfl (by decide +kernel)) (mi_seq rfl (me_var (pv 2))) (blkOk_by (own := [("start", 9)]) (N := ["pays", "layers", "starts", "base", "top", "fewest", "best_starts", "_", "signs", "start"]) (sc := defScope s_best_walk) (by decide +kernel)) (fun _ _ _ _ _ => pg_name (i := 9) S.nd rfl (.inl rfl)) (gw_name (by decide)) (fun _ _ _ _ _ => mts_one (mt_cmp (opEq hr.units) sEq (nomark _) (me_ix rfl (hu_of hr) (me_ix rfl (hu_of hr) (me_var (pv 1)) (me_var (pv 5)) (fun _ _ => rfl) (fun _ _ => rfl)) (me_var (pv 9)) (fun _ _ => rfl) (fun _ _ => rfl)) (me_var (pv 4)))) (fun _ _ _ _ _ => (me_var (pv 9))))
  (mb_cons (ms_setT (me_cal c_trail rfl (hr.mono (by decide)) hg tk (by rfl) (ma_cons (me_var (pv 0)) (ma_cons (me_sl rfl (me_var (pv 1)) mo_none (mo_some (me_op opAdd sAdd (me_var (pv 5)) me_int))) (ma_cons (me_ix rfl (hu_of hr) (me_var (pv 6)) me_int (fun _ _ => rfl) (fun _ _ => rfl)) (ma_cons (me_var (pv 3)) ma_nil)))) 4 (len_cons (len_cons (len_cons (len_cons len_nil)))) rfl rfl) (mg_tup' rfl rfl (mgs_cons' (mg_name (pg_name (i := 7) S.nd rfl (.inl rfl))) (mgs_cons' (mg_name (pg_name (i := 8) S.nd rfl (.inl rfl))) mgs_nil))))
  (mb_one (ms_ret (me_tup (ma_cons (me_ix rfl (hu_of hr) (me_var (pv 6)) me_int (fun _ _ => rfl) (fun _ _ => rfl)) (ma_cons (me_callTy call_tuple_of (sTuple rfl) (by rfl) n.n_tuple (by decide +kernel) (ma_cons (me_var (pv 8)) ma_nil)) ma_nil))))))))))
theorem ok_need_kind (n : Ns Γ mg) (F : Fun Γ.K "need_kind" "need_kind" s_need_kind f fd) : FnG P w mg base Γ 1 f fd ["thing"] g_need_kind :=
  have S := sc_need_kind
  ok_fn (N := ["thing"]) (c := d_need_kind) F S fun cdv A outer s H E W hr hg tk => (mb_cons (ms_if (mt_w (mw_or (mt_not (mt_val (me_callB call_isi (sIsi rfl) (by rfl) n.n_isinstance (by decide +kernel) (ma_cons (me_var (pv 0)) (ma_cons (me_ty (by rfl) n.n_str (by decide +kernel)) ma_nil))))) (mw_or1 (mt_cmp op_notIn_seq (sInQ rfl) (by rfl) (me_var (pv 0)) (me_tup (ma_cons me_str (ma_cons me_str ma_nil))))))) (mb_one ms_stuck) mb_nil)
  (mb_one (ms_ret (me_var (pv 0)))))
theorem ok_need_worse (n : Ns Γ mg) (F : Fun Γ.K "need_worse" "need_worse" s_need_worse f fd) (c_need_row : Cal P w mg base Γ 2 "need_row" ["thing"] g_need_row) : FnG P w mg base Γ 3 f fd ["thing", "row", "wide"] g_need_worse :=
  have S := sc_need_worse
  ok_fn (N := ["thing", "row", "wide", "number", "result", "worse"]) (c := d_need_worse) F S fun cdv A outer s H E W hr hg tk => (mb_cons (ms_expr (me_cal c_need_row rfl (hr.mono (by decide)) hg tk (by rfl) (ma_cons (me_var (pv 0)) ma_nil) 1 (len_cons len_nil) rfl rfl))
  (mb_cons (ms_if (mt_cmp (opNe hr.units) sNe (nomark _) (me_callB call_len (sLen rfl) (by rfl) n.n_len (by decide +kernel) (ma_cons (me_var (pv 0)) ma_nil)) (me_callB call_len (sLen rfl) (by rfl) n.n_len (by decide +kernel) (ma_cons (me_var (pv 1)) ma_nil))) (mb_one ms_stuck) mb_nil)
  (mb_cons (ms_for (passes_of rfl) rfl (mi_ez rfl (by rfl) n.n_zip (by rfl) n.n_enumerate (ma_cons (me_var (pv 1)) (ma_cons (me_var (pv 0)) ma_nil))) (mg_tup' rfl rfl (mgs_cons' (mg_name (pg_name (i := 3) S.nd rfl (.inl rfl))) (mgs_cons' (mg_tup' rfl rfl (mgs_cons' (mg_name (pg_name (i := 4) S.nd rfl (.inl rfl))) (mgs_cons' (mg_name (pg_name (i := 5) S.nd rfl (.inl rfl))) mgs_nil))) mgs_nil))) (mb_one (ms_if (mt_w (mw_or (mt_cmp op_lt sCmp (nomark _) (me_var (pv 5)) (me_var (pv 4))) (mw_or1 (mt_w (mw_and (mt_cmp op_lt sCmp (nomark _) (me_var (pv 3)) (me_var (pv 2))) (mw_and1 (mt_cmp op_gt sCmp (nomark _) (me_var (pv 5)) (me_var (pv 4))))))))) (mb_one ms_stuck) mb_nil)))
  (mb_one (ms_ret (me_var (pv 0)))))))
theorem ok_gain (n : Ns Γ mg) (F : Fun Γ.K "gain" "gain" s_gain f fd) (c_width_of : Cal P w mg base Γ 1 "width_of" ["bill"] g_width_of) (c_need_bill : Cal P w mg base Γ 5 "need_bill" ["thing"] g_need_bill) (c_need_row_of : Cal P w mg base Γ 3 "need_row_of" ["thing", "least"] g_need_row_of) (c_need_worse : Cal P w mg base Γ 3 "need_worse" ["thing", "row", "wide"] g_need_worse) (c_pays_of : Cal P w mg base Γ 3 "pays_of" ["bill", "results"] g_pays_of) : FnG P w mg base Γ 6 f fd ["bill", "row", "other"] g_gain :=
  have S := sc_gain
  ok_fn (N := ["bill", "row", "other", "wide"]) (c := d_gain) F S fun cdv A outer s H E W hr hg tk => (mb_cons (ms_set (i := 3) S.nd rfl (.inl rfl) (me_cal c_width_of rfl (hr.mono (by decide)) hg tk (by rfl) (ma_cons (me_cal c_need_bill rfl (hr.mono (by decide)) hg tk (by rfl) (ma_cons (me_var (pv 0)) ma_nil) 1 (len_cons len_nil) rfl rfl) ma_nil) 1 (len_cons len_nil) rfl rfl))
  (mb_cons (ms_expr (me_cal c_need_row_of rfl (hr.mono (by decide)) hg tk (by rfl) (ma_cons (me_var (pv 1)) (ma_cons (me_var (pv 3)) ma_nil)) 2 (len_cons (len_cons len_nil)) rfl rfl))
  (mb_cons (ms_expr (me_cal c_need_worse rfl (hr.mono (by decide)) hg tk (by rfl) (ma_cons (me_var (pv 2)) (ma_cons (me_var (pv 1)) (ma_cons (me_var (pv 3)) ma_nil))) 3 (len_cons (len_cons (len_cons len_nil))) rfl rfl))
  (mb_one (ms_ret (me_op op_sub sSub (me_callB (cr_sumA rfl) (sSumA rfl) (by rfl) n.n_sum (by decide +kernel) (ma_cons (me_cal c_pays_of rfl (hr.mono (by decide)) hg tk (by rfl) (ma_cons (me_var (pv 0)) (ma_cons (me_var (pv 2)) ma_nil)) 2 (len_cons (len_cons len_nil)) rfl rfl) ma_nil)) (me_callB (cr_sumA rfl) (sSumA rfl) (by rfl) n.n_sum (by decide +kernel) (ma_cons (me_cal c_pays_of rfl (hr.mono (by decide)) hg tk (by rfl) (ma_cons (me_var (pv 0)) (ma_cons (me_var (pv 1)) ma_nil)) 2 (len_cons (len_cons len_nil)) rfl rfl) ma_nil))))))))
theorem ok_greatest_gain (n : Ns Γ mg) (F : Fun Γ.K "greatest_gain" "greatest_gain" s_greatest_gain f fd) (c_width_of : Cal P w mg base Γ 1 "width_of" ["bill"] g_width_of) (c_need_bill : Cal P w mg base Γ 5 "need_bill" ["thing"] g_need_bill) (c_need_kind : Cal P w mg base Γ 1 "need_kind" ["thing"] g_need_kind) (c_best_single : Cal P w mg base Γ 4 "best_single" ["pays", "wide"] g_best_single) (c_bit_pays : Cal P w mg base Γ 3 "bit_pays" ["bill"] g_bit_pays) (c_climb : Cal P w mg base Γ 2 "climb" ["pays", "base"] g_climb) (c_pair_pays : Cal P w mg base Γ 2 "pair_pays" ["pays"] g_pair_pays) (c_greatest_of : Cal P w mg base Γ 1 "greatest_of" ["heights", "starts"] g_greatest_of) (c_like_couples : Cal P w mg base Γ 1 "like_couples" ["wide"] g_like_couples) : FnG P w mg base Γ 6 f fd ["bill", "kind"] g_greatest_gain :=
  have S := sc_greatest_gain
  ok_fn (N := ["bill", "kind", "wide", "layers", "ring"]) (c := d_greatest_gain) F S fun cdv A outer s H E W hr hg tk => (mb_cons (ms_set (i := 2) S.nd rfl (.inl rfl) (me_cal c_width_of rfl (hr.mono (by decide)) hg tk (by rfl) (ma_cons (me_cal c_need_bill rfl (hr.mono (by decide)) hg tk (by rfl) (ma_cons (me_var (pv 0)) ma_nil) 1 (len_cons len_nil) rfl rfl) ma_nil) 1 (len_cons len_nil) rfl rfl))
  (mb_cons (ms_if (mt_cmp (opEq hr.units) sEq (nomark _) (me_cal c_need_kind rfl (hr.mono (by decide)) hg tk (by rfl) (ma_cons (me_var (pv 1)) ma_nil) 1 (len_cons len_nil) rfl rfl) me_str) (mb_one (ms_ret (me_callB (call_max2 rfl) sMax2 (by rfl) n.n_max (by decide +kernel) (ma_cons me_int (ma_cons (me_ix rfl (hu_of hr) (me_cal c_best_single rfl (hr.mono (by decide)) hg tk (by rfl) (ma_cons (me_cal c_bit_pays rfl (hr.mono (by decide)) hg tk (by rfl) (ma_cons (me_var (pv 0)) ma_nil) 1 (len_cons len_nil) rfl rfl) (ma_cons (me_var (pv 2)) ma_nil)) 2 (len_cons (len_cons len_nil)) rfl rfl) me_int (fun _ _ => rfl) (fun _ _ => rfl)) ma_nil))))) mb_nil)
  (mb_cons (ms_setT (me_cal c_climb rfl (hr.mono (by decide)) hg tk (by rfl) (ma_cons (me_cal c_pair_pays rfl (hr.mono (by decide)) hg tk (by rfl) (ma_cons (me_cal c_bit_pays rfl (hr.mono (by decide)) hg tk (by rfl) (ma_cons (me_var (pv 0)) ma_nil) 1 (len_cons len_nil) rfl rfl) ma_nil) 1 (len_cons len_nil) rfl rfl) (ma_cons (me_globJ (by rfl) n.c_OF_PAIRS) ma_nil)) 2 (len_cons (len_cons len_nil)) rfl rfl) (mg_tup' rfl rfl (mgs_cons' (mg_name (pg_name (i := 3) S.nd rfl (.inl rfl))) (mgs_cons' (mg_name (pg_name (i := 4) S.nd rfl (.inl rfl))) mgs_nil))))
  (mb_cons (ms_if (mt_cmp op_notC sIsntC (nomark _) (me_var (pv 4)) me_non) (mb_one (ms_ret me_non)) mb_nil)
  (mb_one (ms_ret (me_cal c_greatest_of rfl (hr.mono (by decide)) hg tk (by rfl) (ma_cons (me_ix rfl (hu_of hr) (me_var (pv 3)) (me_un un_neg sNeg me_int) (fun _ _ => rfl) (fun _ _ => rfl)) (ma_cons (me_cal c_like_couples rfl (hr.mono (by decide)) hg tk (by rfl) (ma_cons (me_var (pv 2)) ma_nil) 1 (len_cons len_nil) rfl rfl) ma_nil)) 2 (len_cons (len_cons len_nil)) rfl rfl)))))))
theorem ok_rows_of (n : Ns Γ mg) (F : Fun Γ.K "rows_of" "rows_of" s_rows_of f fd) : FnG P w mg base Γ 1 f fd ["pairs"] g_rows_of :=
  have S := sc_rows_of
  ok_fn (N := ["pairs", "pair"]) (c := d_rows_of) F S fun cdv A outer s H E W hr hg tk => (mb_one (ms_ret (me_tup (ma_cons (me_callTy call_tuple_of (sTuple rfl) (by rfl) n.n_tuple (by decide +kernel) (ma_cons (me_comp (own := [("pair", 1)]) (g := (gName 1)) rfl S.nd (mi_seq rfl (me_var (pv 0))) (blkOk_by (own := [("pair", 1)]) (N := ["pairs", "pair"]) (sc := defScope s_rows_of) (by decide +kernel)) (fun _ _ _ _ _ => pg_name (i := 1) S.nd rfl (.inl rfl)) (gw_name (by decide)) (fun _ _ _ _ _ => mts_nil) (fun _ _ _ _ _ => (me_ix rfl (hu_of hr) (me_var (pv 1)) me_int (fun _ _ => rfl) (fun _ _ => rfl)))) ma_nil)) (ma_cons (me_callTy call_tuple_of (sTuple rfl) (by rfl) n.n_tuple (by decide +kernel) (ma_cons (me_comp (own := [("pair", 1)]) (g := (gName 1)) rfl S.nd (mi_seq rfl (me_var (pv 0))) (blkOk_by (own := [("pair", 1)]) (N := ["pairs", "pair"]) (sc := defScope s_rows_of) (by decide +kernel)) (fun _ _ _ _ _ => pg_name (i := 1) S.nd rfl (.inl rfl)) (gw_name (by decide)) (fun _ _ _ _ _ => mts_nil) (fun _ _ _ _ _ => (me_ix rfl (hu_of hr) (me_var (pv 1)) me_int (fun _ _ => rfl) (fun _ _ => rfl)))) ma_nil)) ma_nil)))))
theorem ok_rows_of_gain (n : Ns Γ mg) (F : Fun Γ.K "rows_of_gain" "rows_of_gain" s_rows_of_gain f fd) (c_best_walk : Cal P w mg base Γ 2 "best_walk" ["pays", "layers", "starts", "base"] g_best_walk) (c_like_couples : Cal P w mg base Γ 1 "like_couples" ["wide"] g_like_couples) (c_rows_of : Cal P w mg base Γ 1 "rows_of" ["pairs"] g_rows_of) (c_signs_of : Cal P w mg base Γ 1 "signs_of" ["number", "signs", "wide"] g_signs_of) : FnG P w mg base Γ 3 f fd ["pays", "layers", "wide"] g_rows_of_gain :=
  have S := sc_rows_of_gain
  ok_fn (N := ["pays", "layers", "wide", "start", "figures", "figure"]) (c := d_rows_of_gain) F S fun cdv A outer s H E W hr hg tk => (mb_cons (ms_setT (me_cal c_best_walk rfl (hr.mono (by decide)) hg tk (by rfl) (ma_cons (me_var (pv 0)) (ma_cons (me_var (pv 1)) (ma_cons (me_cal c_like_couples rfl (hr.mono (by decide)) hg tk (by rfl) (ma_cons (me_var (pv 2)) ma_nil) 1 (len_cons len_nil) rfl rfl) (ma_cons (me_globJ (by rfl) n.c_OF_PAIRS) ma_nil)))) 4 (len_cons (len_cons (len_cons (len_cons len_nil)))) rfl rfl) (mg_tup' rfl rfl (mgs_cons' (mg_name (pg_name (i := 3) S.nd rfl (.inl rfl))) (mgs_cons' (mg_name (pg_name (i := 4) S.nd rfl (.inl rfl))) mgs_nil))))
  (mb_one (ms_ret (me_cal c_rows_of rfl (hr.mono (by decide)) hg tk (by rfl) (ma_cons (me_op opAdd sAdd (me_cal c_signs_of rfl (hr.mono (by decide)) hg tk (by rfl) (ma_cons (me_var (pv 3)) (ma_cons (me_globT rfl (by rfl) n.c_PAIRS) (ma_cons (me_var (pv 2)) ma_nil))) 3 (len_cons (len_cons (len_cons len_nil))) rfl rfl) (me_callTy call_tuple_of (sTuple rfl) (by rfl) n.n_tuple (by decide +kernel) (ma_cons (me_comp (own := [("figure", 5)]) (g := (gName 5)) rfl S.nd (mi_seq rfl (me_var (pv 4))) (blkOk_by (own := [("figure", 5)]) (N := ["pays", "layers", "wide", "start", "figures", "figure"]) (sc := defScope s_rows_of_gain) (by decide +kernel)) (fun _ _ _ _ _ => pg_name (i := 5) S.nd rfl (.inl rfl)) (gw_name (by decide)) (fun _ _ _ _ _ => mts_nil) (fun _ _ _ _ _ => (me_ix rfl (hu_of hr) (me_globT rfl (by rfl) n.c_PAIRS) (me_var (pv 5)) (fun _ _ => rfl) (fun _ _ => rfl)))) ma_nil))) ma_nil) 1 (len_cons len_nil) rfl rfl))))
theorem ok_rows_of_single (n : Ns Γ mg) (F : Fun Γ.K "rows_of_single" "rows_of_single" s_rows_of_single f fd) (c_width_of : Cal P w mg base Γ 1 "width_of" ["bill"] g_width_of) (c_best_single : Cal P w mg base Γ 4 "best_single" ["pays", "wide"] g_best_single) (c_bit_pays : Cal P w mg base Γ 3 "bit_pays" ["bill"] g_bit_pays) : FnG P w mg base Γ 5 f fd ["bill"] g_rows_of_single :=
  have S := sc_rows_of_single
  ok_fn (N := ["bill", "wide", "paid", "row", "worse"]) (c := d_rows_of_single) F S fun cdv A outer s H E W hr hg tk => (mb_cons (ms_set (i := 1) S.nd rfl (.inl rfl) (me_cal c_width_of rfl (hr.mono (by decide)) hg tk (by rfl) (ma_cons (me_var (pv 0)) ma_nil) 1 (len_cons len_nil) rfl rfl))
  (mb_cons (ms_setT (me_cal c_best_single rfl (hr.mono (by decide)) hg tk (by rfl) (ma_cons (me_cal c_bit_pays rfl (hr.mono (by decide)) hg tk (by rfl) (ma_cons (me_var (pv 0)) ma_nil) 1 (len_cons len_nil) rfl rfl) (ma_cons (me_var (pv 1)) ma_nil)) 2 (len_cons (len_cons len_nil)) rfl rfl) (mg_tup' rfl rfl (mgs_cons' (mg_name (pg_name (i := 2) S.nd rfl (.inl rfl))) (mgs_cons' (mg_name (pg_name (i := 3) S.nd rfl (.inl rfl))) (mgs_cons' (mg_name (pg_name (i := 4) S.nd rfl (.inl rfl))) mgs_nil)))))
  (mb_cons (ms_if (mt_cmp op_gt sCmp (nomark _) (me_var (pv 2)) me_int) (mb_one (ms_ret (me_tup (ma_cons (me_var (pv 3)) (ma_cons (me_var (pv 4)) ma_nil))))) mb_nil)
  (mb_one (ms_ret (me_tup (ma_cons (me_op opMul sMul (me_tup (ma_cons me_int ma_nil)) (me_var (pv 1))) (ma_cons (me_op opMul sMul (me_tup (ma_cons me_int ma_nil)) (me_var (pv 1))) ma_nil))))))))
theorem ok_gain_rows (n : Ns Γ mg) (F : Fun Γ.K "gain_rows" "gain_rows" s_gain_rows f fd) (c_width_of : Cal P w mg base Γ 1 "width_of" ["bill"] g_width_of) (c_need_bill : Cal P w mg base Γ 5 "need_bill" ["thing"] g_need_bill) (c_need_kind : Cal P w mg base Γ 1 "need_kind" ["thing"] g_need_kind) (c_rows_of_single : Cal P w mg base Γ 5 "rows_of_single" ["bill"] g_rows_of_single) (c_pair_pays : Cal P w mg base Γ 2 "pair_pays" ["pays"] g_pair_pays) (c_bit_pays : Cal P w mg base Γ 3 "bit_pays" ["bill"] g_bit_pays) (c_climb : Cal P w mg base Γ 2 "climb" ["pays", "base"] g_climb) (c_rows_of_gain : Cal P w mg base Γ 3 "rows_of_gain" ["pays", "layers", "wide"] g_rows_of_gain) : FnG P w mg base Γ 6 f fd ["bill", "kind"] g_gain_rows :=
  have S := sc_gain_rows
  ok_fn (N := ["bill", "kind", "wide", "pays", "layers", "ring"]) (c := d_gain_rows) F S fun cdv A outer s H E W hr hg tk => (mb_cons (ms_set (i := 2) S.nd rfl (.inl rfl) (me_cal c_width_of rfl (hr.mono (by decide)) hg tk (by rfl) (ma_cons (me_cal c_need_bill rfl (hr.mono (by decide)) hg tk (by rfl) (ma_cons (me_var (pv 0)) ma_nil) 1 (len_cons len_nil) rfl rfl) ma_nil) 1 (len_cons len_nil) rfl rfl))
  (mb_cons (ms_if (mt_cmp (opEq hr.units) sEq (nomark _) (me_cal c_need_kind rfl (hr.mono (by decide)) hg tk (by rfl) (ma_cons (me_var (pv 1)) ma_nil) 1 (len_cons len_nil) rfl rfl) me_str) (mb_one (ms_ret (me_cal c_rows_of_single rfl (hr.mono (by decide)) hg tk (by rfl) (ma_cons (me_var (pv 0)) ma_nil) 1 (len_cons len_nil) rfl rfl))) mb_nil)
  (mb_cons (ms_set (i := 3) S.nd rfl (.inl rfl) (me_cal c_pair_pays rfl (hr.mono (by decide)) hg tk (by rfl) (ma_cons (me_cal c_bit_pays rfl (hr.mono (by decide)) hg tk (by rfl) (ma_cons (me_var (pv 0)) ma_nil) 1 (len_cons len_nil) rfl rfl) ma_nil) 1 (len_cons len_nil) rfl rfl))
  (mb_cons (ms_setT (me_cal c_climb rfl (hr.mono (by decide)) hg tk (by rfl) (ma_cons (me_var (pv 3)) (ma_cons (me_globJ (by rfl) n.c_OF_PAIRS) ma_nil)) 2 (len_cons (len_cons len_nil)) rfl rfl) (mg_tup' rfl rfl (mgs_cons' (mg_name (pg_name (i := 4) S.nd rfl (.inl rfl))) (mgs_cons' (mg_name (pg_name (i := 5) S.nd rfl (.inl rfl))) mgs_nil))))
  (mb_cons (ms_if (mt_cmp op_notC sIsntC (nomark _) (me_var (pv 5)) me_non) (mb_one (ms_ret me_non)) mb_nil)
  (mb_one (ms_ret (me_cal c_rows_of_gain rfl (hr.mono (by decide)) hg tk (by rfl) (ma_cons (me_var (pv 3)) (ma_cons (me_var (pv 4)) (ma_cons (me_var (pv 2)) ma_nil))) 3 (len_cons (len_cons (len_cons len_nil))) rfl rfl))))))))
theorem ok_does_pay (n : Ns Γ mg) (F : Fun Γ.K "does_pay" "does_pay" s_does_pay f fd) (c_need_bill : Cal P w mg base Γ 5 "need_bill" ["thing"] g_need_bill) (c_need_kind : Cal P w mg base Γ 1 "need_kind" ["thing"] g_need_kind) (c_greatest_gain : Cal P w mg base Γ 6 "greatest_gain" ["bill", "kind"] g_greatest_gain) : FnG P w mg base Γ 7 f fd ["bill", "kind"] g_does_pay :=
  have S := sc_does_pay
  ok_fn (N := ["bill", "kind"]) (c := d_does_pay) F S fun cdv A outer s H E W hr hg tk => (mb_cons (ms_expr (me_cal c_need_bill rfl (hr.mono (by decide)) hg tk (by rfl) (ma_cons (me_var (pv 0)) ma_nil) 1 (len_cons len_nil) rfl rfl))
  (mb_cons (ms_expr (me_cal c_need_kind rfl (hr.mono (by decide)) hg tk (by rfl) (ma_cons (me_var (pv 1)) ma_nil) 1 (len_cons len_nil) rfl rfl))
  (mb_one (ms_ret (me_cmp op_gt sCmp (nomark _) (me_cal c_greatest_gain rfl (hr.mono (by decide)) hg tk (by rfl) (ma_cons (me_var (pv 0)) (ma_cons me_str ma_nil)) 2 (len_cons (len_cons len_nil)) rfl rfl) me_int)))))
theorem ok__law_begun (n : Ns Γ mg) (F : Fun Γ.K "_law_begun" "_law_begun" s__law_begun f fd) : FnG P w mg base Γ 1 f fd ["script"] g__law_begun :=
  have S := sc__law_begun
  ok_fn (N := ["script", "great", "cell"]) (c := d__law_begun) F S fun cdv A outer s H E W hr hg tk => (mb_cons (ms_setComp (i := 1) (own := [("cell", 2)]) (g := (gName 2)) rfl S.nd rfl rfl (sw_true rfl rfl rfl (by decide +kernel)) (mi_seq rfl (me_var (pv 0))) (blkOk_by (own := [("cell", 2)]) (N := ["script", "great", "cell"]) (sc := defScope s__law_begun) (by decide +kernel)) (fun _ _ _ _ _ => pg_name (i := 2) S.nd rfl (.inl rfl)) (gw_name (by decide)) (fun _ _ _ _ _ => mts_one (mt_cmp op_ge sCmp (nomark _) (me_var (pv 2)) (me_op op_pow sPow me_int me_int))) (fun _ _ _ _ _ => (me_var (pv 2))))
  (mb_one (ms_ret (me_dctM (ps := [((mK (.str "cells")), (mBin addD (mBlt listD (mCons (mVar 0) mNil)) (mLst (mCons (mBlt lenD (mCons (mVar 0) mNil)) mNil)))), ((mK (.str "left")), (mIf (mTest (mBin neD (mVar 1) (mLst mNil))) (mBin ixA (mVar 1) (mK (.int 0))) (mK (.int 0)))), ((mK (.str "spot")), (mK (.int 0)))]) (pps_cons me_str (me_op opAdd sAdd (me_callTy call_list_of (sList rfl) (by rfl) n.n_list (by decide +kernel) (ma_cons (me_var (pv 0)) ma_nil)) (me_lst (ma_cons (me_callB call_len (sLen rfl) (by rfl) n.n_len (by decide +kernel) (ma_cons (me_var (pv 0)) ma_nil)) ma_nil))) (pps_cons me_str (me_if (mt_cmp (opNe hr.units) sNe (nomark _) (me_var (pv 1)) (me_lst ma_nil)) (me_ix rfl (hu_of hr) (me_var (pv 1)) me_int (fun _ _ => rfl) (fun _ _ => rfl)) me_int) (pps_cons me_str me_int pps_nil))) rfl rfl (by decide) (by decide)))))
theorem ok__law_draw (n : Ns Γ mg) (F : Fun Γ.K "_law_draw" "_law_draw" s__law_draw f fd) : FnG P w mg base Γ 1 f fd ["m", "many"] g__law_draw :=
  have S := sc__law_draw
  ok_fn (N := ["m", "many", "found", "spot", "cell", "mixed"]) (c := d__law_draw) F S fun cdv A outer s H E W hr hg tk => (mb_cons (ms_if (mt_cmp op_gt sCmp (nomark _) (me_ix rfl (hu_of hr) (me_var (pv 0)) me_str (fun _ _ => rfl) (fun _ _ => rfl)) me_int) (mb_cons (ms_set (i := 2) S.nd rfl (.inl rfl) (me_op op_mod sMod (me_callTy call_int1 sInt (by rfl) n.n_int (by decide +kernel) (ma_cons (me_ix rfl (hu_of hr) (me_var (pv 0)) me_str (fun _ _ => rfl) (fun _ _ => rfl)) ma_nil)) (me_var (pv 1))))
  (mb_cons (ms_dput (hu_of hr) (me_var (pv 0)) me_str (me_op op_fdiv sDiv (me_ix rfl (hu_of hr) (me_var (pv 0)) me_str (fun _ _ => rfl) (fun _ _ => rfl)) (me_var (pv 1))) (by rfl))
  (mb_one (ms_ret (me_var (pv 2)))))) mb_nil)
  (mb_cons (ms_set (i := 3) S.nd rfl (.inl rfl) (me_op opAdd sAdd (me_ix rfl (hu_of hr) (me_var (pv 0)) me_str (fun _ _ => rfl) (fun _ _ => rfl)) me_int))
  (mb_cons (ms_dput (hu_of hr) (me_var (pv 0)) me_str (me_var (pv 3)) (by rfl))
  (mb_cons (ms_set (i := 4) S.nd rfl (.inl rfl) (me_ix rfl (hu_of hr) (me_ix rfl (hu_of hr) (me_var (pv 0)) me_str (fun _ _ => rfl) (fun _ _ => rfl)) (me_op op_mod sMod (me_callTy call_int1 sInt (by rfl) n.n_int (by decide +kernel) (ma_cons (me_var (pv 3)) ma_nil)) (me_callB call_len (sLen rfl) (by rfl) n.n_len (by decide +kernel) (ma_cons (me_ix rfl (hu_of hr) (me_var (pv 0)) me_str (fun _ _ => rfl) (fun _ _ => rfl)) ma_nil))) (fun _ _ => rfl) (fun _ _ => rfl)))
  (mb_cons (ms_set (i := 5) S.nd rfl (.inl rfl) (me_op opMul sMul (me_callTy call_int1 sInt (by rfl) n.n_int (by decide +kernel) (ma_cons (me_op opAdd sAdd (me_op opAdd sAdd (me_op op_mod sMod (me_callTy call_int1 sInt (by rfl) n.n_int (by decide +kernel) (ma_cons (me_var (pv 4)) ma_nil)) me_int) (me_op opMul sMul me_int (me_var (pv 3)))) (me_op opMul sMul (me_op opMul sMul me_int (me_var (pv 3))) (me_var (pv 3)))) ma_nil)) me_int))
  (mb_cons (ms_set (i := 5) S.nd rfl (.inl rfl) (me_op opMul sMul (me_callTy call_int1 sInt (by rfl) n.n_int (by decide +kernel) (ma_cons (me_op opAdd sAdd (me_op op_mod sMod (me_callTy call_int1 sInt (by rfl) n.n_int (by decide +kernel) (ma_cons (me_var (pv 5)) ma_nil)) me_int) (me_op opMul sMul me_int (me_var (pv 3)))) ma_nil)) me_int))
  (mb_one (ms_ret (me_op op_mod sMod (me_callTy call_int1 sInt (by rfl) n.n_int (by decide +kernel) (ma_cons (me_op op_fdiv sDiv (me_op op_mod sMod (me_callTy call_int1 sInt (by rfl) n.n_int (by decide +kernel) (ma_cons (me_var (pv 5)) ma_nil)) me_int) me_int) ma_nil)) (me_var (pv 1)))))))))))
theorem ok__law_of (n : Ns Γ mg) (F : Fun Γ.K "_law_of" "_law_of" s__law_of f fd) (c__law_draw : Cal P w mg base Γ 1 "_law_draw" ["m", "many"] g__law_draw) : FnG P w mg base Γ 2 f fd ["m", "some"] g__law_of :=
  have S := sc__law_of
  ok_fn (N := ["m", "some"]) (c := d__law_of) F S fun cdv A outer s H E W hr hg tk => (mb_one (ms_ret (me_ix rfl (hu_of hr) (me_var (pv 1)) (me_cal c__law_draw rfl (hr.mono (by decide)) hg tk (by rfl) (ma_cons (me_var (pv 0)) (ma_cons (me_callB call_len (sLen rfl) (by rfl) n.n_len (by decide +kernel) (ma_cons (me_var (pv 1)) ma_nil)) ma_nil)) 2 (len_cons (len_cons len_nil)) rfl rfl) (fun _ _ => rfl) (fun _ _ => rfl))))
theorem ok__law_weights (n : Ns Γ mg) (F : Fun Γ.K "_law_weights" "_law_weights" s__law_weights f fd) (c__law_draw : Cal P w mg base Γ 1 "_law_draw" ["m", "many"] g__law_draw) : FnG P w mg base Γ 2 f fd ["m", "most"] g__law_weights :=
  have S := sc__law_weights
  ok_fn (N := ["m", "most", "wide", "some", "k"]) (c := d__law_weights) F S fun cdv A outer s H E W hr hg tk => (mb_cons (ms_set (i := 2) S.nd rfl (.inr rfl) (me_cal c__law_draw rfl (hr.mono (by decide)) hg tk (by rfl) (ma_cons (me_var (pv 0)) (ma_cons me_int ma_nil)) 2 (len_cons (len_cons len_nil)) rfl rfl))
  (mb_cons (ms_setComp (i := 3) (own := [("k", 4)]) (g := (gName 4)) rfl S.nd rfl rfl (sw_true rfl rfl rfl (by decide +kernel)) (mi_range1 (by rfl) n.n_range (ma_cons (me_op opAdd sAdd me_int (me_cal c__law_draw rfl (hr.mono (by decide)) hg tk (by rfl) (ma_cons (me_var (pv 0)) (ma_cons (me_var (pv 1)) ma_nil)) 2 (len_cons (len_cons len_nil)) rfl rfl)) ma_nil)) (blkOk_by (own := [("k", 4)]) (N := ["m", "most", "wide", "some", "k"]) (sc := defScope s__law_weights) (by decide +kernel)) (fun _ _ _ _ _ => pg_name (i := 4) S.nd rfl (.inl rfl)) (gw_name (by decide)) (fun _ _ _ _ _ => mts_nil) (fun _ _ _ _ _ => (me_if (mt_cmp (opEq hr.units) sEq (nomark _) (me_var (pv 2)) me_int) (me_op op_sub sSub (me_cal c__law_draw rfl (hr.mono (by decide)) hg tk0 (by rfl) (ma_cons (me_var (pv 0)) (ma_cons me_int ma_nil)) 2 (len_cons (len_cons len_nil)) rfl rfl) me_int) (me_cal c__law_draw rfl (hr.mono (by decide)) hg tk0 (by rfl) (ma_cons (me_var (pv 0)) (ma_cons me_int ma_nil)) 2 (len_cons (len_cons len_nil)) rfl rfl))))
  (mb_one (ms_ret (me_callTy call_tuple_of (sTuple rfl) (by rfl) n.n_tuple (by decide +kernel) (ma_cons (me_var (pv 3)) ma_nil))))))
theorem ok__law_drawn_bill (n : Ns Γ mg) (F : Fun Γ.K "_law_drawn_bill" "_law_drawn_bill" s__law_drawn_bill f fd) (c__law_of : Cal P w mg base Γ 2 "_law_of" ["m", "some"] g__law_of) (c__law_draw : Cal P w mg base Γ 1 "_law_draw" ["m", "many"] g__law_draw) (c__law_weights : Cal P w mg base Γ 2 "_law_weights" ["m", "most"] g__law_weights) : FnG P w mg base Γ 3 f fd ["m", "most"] g__law_drawn_bill :=
  have S := sc__law_drawn_bill
  ok_fn (N := ["m", "most", "own", "terms", "k"]) (c := d__law_drawn_bill) F S fun cdv A outer s H E W hr hg tk => (mb_cons (ms_par rfl S.nd rfl rfl (by decide) rfl rfl (ma_cons (me_cal c__law_of rfl (hr.mono (by decide)) hg tk (by rfl) (ma_cons (me_var (pv 0)) (ma_cons (me_lst (ma_cons me_int (ma_cons me_int (ma_cons me_int (ma_cons (me_un un_neg sNeg me_int) (ma_cons (me_op op_sub sSub (me_cal c__law_draw rfl (hr.mono (by decide)) hg tk (by rfl) (ma_cons (me_var (pv 0)) (ma_cons me_int ma_nil)) 2 (len_cons (len_cons len_nil)) rfl rfl) me_int) ma_nil)))))) ma_nil)) 2 (len_cons (len_cons len_nil)) rfl rfl) (ma_cons (me_lstM ma_nil) ma_nil)) (by rfl))
  (mb_cons (ms_for (passes_of rfl) rfl (mi_range1 (by rfl) n.n_range (ma_cons (me_cal c__law_draw rfl (hr.mono (by decide)) hg tk (by rfl) (ma_cons (me_var (pv 0)) (ma_cons me_int ma_nil)) 2 (len_cons (len_cons len_nil)) rfl rfl) ma_nil)) (mg_name (pg_name (i := 4) S.nd rfl (.inl rfl))) (mb_one (ms_expr (me_app (pe_bm PySem.F.plainAttrs_list PySem.F.slot_list_append PySem.F.type_list_append mt_append (me_var (pv 3)) (pa_cons (me_tup (ma_cons (me_cal c__law_weights rfl (hr.mono (by decide)) hg tk (by rfl) (ma_cons (me_var (pv 0)) (ma_cons (me_var (pv 1)) ma_nil)) 2 (len_cons (len_cons len_nil)) rfl rfl) (ma_cons (me_op op_sub sSub (me_cal c__law_draw rfl (hr.mono (by decide)) hg tk (by rfl) (ma_cons (me_var (pv 0)) (ma_cons me_int ma_nil)) 2 (len_cons (len_cons len_nil)) rfl rfl) me_int) (ma_cons (me_op op_sub sSub (me_cal c__law_draw rfl (hr.mono (by decide)) hg tk (by rfl) (ma_cons (me_var (pv 0)) (ma_cons me_int ma_nil)) 2 (len_cons (len_cons len_nil)) rfl rfl) me_int) ma_nil)))) pa_nil))))))
  (mb_one (ms_ret (me_tup (ma_cons (me_var (pv 2)) (ma_cons (me_callTy call_tuple_of (sTuple rfl) (by rfl) n.n_tuple (by decide +kernel) (ma_cons (me_var (pv 3)) ma_nil)) ma_nil)))))))
theorem ok__law_tame_bill (n : Ns Γ mg) (F : Fun Γ.K "_law_tame_bill" "_law_tame_bill" s__law_tame_bill f fd) (c__law_draw : Cal P w mg base Γ 1 "_law_draw" ["m", "many"] g__law_draw) (c__law_of : Cal P w mg base Γ 2 "_law_of" ["m", "some"] g__law_of) : FnG P w mg base Γ 3 f fd ["m", "most"] g__law_tame_bill :=
  have S := sc__law_tame_bill
  ok_fn (N := ["m", "most", "some", "own", "k"]) (c := d__law_tame_bill) F S fun cdv A outer s H E W hr hg tk => (mb_cons (ms_set (i := 2) S.nd rfl (.inl rfl) (me_callTy call_tuple_of (sTuple rfl) (by rfl) n.n_tuple (by decide +kernel) (ma_cons (me_comp (own := [("k", 4)]) (g := (gName 4)) rfl S.nd (mi_range1 (by rfl) n.n_range (ma_cons (me_op opAdd sAdd me_int (me_cal c__law_draw rfl (hr.mono (by decide)) hg tk (by rfl) (ma_cons (me_var (pv 0)) (ma_cons (me_var (pv 1)) ma_nil)) 2 (len_cons (len_cons len_nil)) rfl rfl)) ma_nil)) (blkOk_by (own := [("k", 4)]) (N := ["m", "most", "some", "own", "k"]) (sc := defScope s__law_tame_bill) (by decide +kernel)) (fun _ _ _ _ _ => pg_name (i := 4) S.nd rfl (.inl rfl)) (gw_name (by decide)) (fun _ _ _ _ _ => mts_nil) (fun _ _ _ _ _ => (me_cal c__law_draw rfl (hr.mono (by decide)) hg tk0 (by rfl) (ma_cons (me_var (pv 0)) (ma_cons me_int ma_nil)) 2 (len_cons (len_cons len_nil)) rfl rfl))) ma_nil)))
  (mb_cons (ms_set (i := 3) S.nd rfl (.inl rfl) (me_cal c__law_of rfl (hr.mono (by decide)) hg tk (by rfl) (ma_cons (me_var (pv 0)) (ma_cons (me_lst (ma_cons me_int (ma_cons (me_op op_sub sSub me_int (me_callB (cr_sumA rfl) (sSumA rfl) (by rfl) n.n_sum (by decide +kernel) (ma_cons (me_var (pv 2)) ma_nil))) (ma_cons (me_op op_sub sSub (me_cal c__law_draw rfl (hr.mono (by decide)) hg tk (by rfl) (ma_cons (me_var (pv 0)) (ma_cons me_int ma_nil)) 2 (len_cons (len_cons len_nil)) rfl rfl) me_int) ma_nil)))) ma_nil)) 2 (len_cons (len_cons len_nil)) rfl rfl))
  (mb_one (ms_ret (me_tup (ma_cons (me_var (pv 3)) (ma_cons (me_tup (ma_cons (me_tup (ma_cons (me_var (pv 2)) (ma_cons (me_op op_sub sSub (me_cal c__law_draw rfl (hr.mono (by decide)) hg tk (by rfl) (ma_cons (me_var (pv 0)) (ma_cons me_int ma_nil)) 2 (len_cons (len_cons len_nil)) rfl rfl) me_int) (ma_cons (me_op op_sub sSub (me_cal c__law_draw rfl (hr.mono (by decide)) hg tk (by rfl) (ma_cons (me_var (pv 0)) (ma_cons me_int ma_nil)) 2 (len_cons (len_cons len_nil)) rfl rfl) me_int) ma_nil)))) ma_nil)) ma_nil)))))))
theorem ok__law_drawn_row (n : Ns Γ mg) (F : Fun Γ.K "_law_drawn_row" "_law_drawn_row" s__law_drawn_row f fd) (c__law_draw : Cal P w mg base Γ 1 "_law_draw" ["m", "many"] g__law_draw) : FnG P w mg base Γ 2 f fd ["m", "least", "more", "high"] g__law_drawn_row :=
  have S := sc__law_drawn_row
  ok_fn (N := ["m", "least", "more", "high", "k"]) (c := d__law_drawn_row) F S fun cdv A outer s H E W hr hg tk => (mb_one (ms_ret (me_callTy call_tuple_of (sTuple rfl) (by rfl) n.n_tuple (by decide +kernel) (ma_cons (me_comp (own := [("k", 4)]) (g := (gName 4)) rfl S.nd (mi_range1 (by rfl) n.n_range (ma_cons (me_op opAdd sAdd (me_var (pv 1)) (me_cal c__law_draw rfl (hr.mono (by decide)) hg tk (by rfl) (ma_cons (me_var (pv 0)) (ma_cons (me_op opAdd sAdd (me_var (pv 2)) me_int) ma_nil)) 2 (len_cons (len_cons len_nil)) rfl rfl)) ma_nil)) (blkOk_by (own := [("k", 4)]) (N := ["m", "least", "more", "high", "k"]) (sc := defScope s__law_drawn_row) (by decide +kernel)) (fun _ _ _ _ _ => pg_name (i := 4) S.nd rfl (.inl rfl)) (gw_name (by decide)) (fun _ _ _ _ _ => mts_nil) (fun _ _ _ _ _ => (me_cal c__law_draw rfl (hr.mono (by decide)) hg tk0 (by rfl) (ma_cons (me_var (pv 0)) (ma_cons (me_op opAdd sAdd (me_var (pv 3)) me_int) ma_nil)) 2 (len_cons (len_cons len_nil)) rfl rfl))) ma_nil))))
theorem ok__law_index (n : Ns Γ mg) (F : Fun Γ.K "_law_index" "_law_index" s__law_index f fd) : FnG P w mg base Γ 1 f fd ["rule_so", "some"] g__law_index :=
  have S := sc__law_index
  ok_fn (N := ["rule_so", "some", "found", "left", "k"]) (c := d__law_index) F S fun cdv A outer s H E W hr hg tk => (mb_cons (ms_par rfl S.nd rfl rfl (by decide) rfl rfl (ma_cons me_int (ma_cons (me_callB cr_sortedA (sSortedA rfl) (by rfl) n.n_sorted (by decide +kernel) (ma_cons (me_var (pv 1)) ma_nil)) ma_nil)) (by rfl))
  (mb_cons (ms_for (passes_of rfl) rfl (mi_range1 (by rfl) n.n_range (ma_cons (me_callB call_len (sLen rfl) (by rfl) n.n_len (by decide +kernel) (ma_cons (me_var (pv 0)) ma_nil)) ma_nil)) (mg_name (pg_name (i := 4) S.nd rfl (.inl rfl))) (mb_one (ms_set (i := 2) S.nd rfl (.inl rfl) (me_op opAdd sAdd (me_var (pv 2)) (me_op opMul sMul (me_ix rfl (hu_of hr) (me_var (pv 0)) (me_var (pv 4)) (fun _ _ => rfl) (fun _ _ => rfl)) (me_ix rfl (hu_of hr) (me_var (pv 3)) (me_var (pv 4)) (fun _ _ => rfl) (fun _ _ => rfl)))))))
  (mb_one (ms_ret (me_var (pv 2))))))
theorem ok__law_wide (n : Ns Γ mg) (F : Fun Γ.K "_law_wide" "_law_wide" s__law_wide f fd) : FnG P w mg base Γ 1 f fd ["bill_so"] g__law_wide :=
  have S := sc__law_wide
  ok_fn (N := ["bill_so", "term"]) (c := d__law_wide) F S fun cdv A outer s H E W hr hg tk => (mb_one (ms_ret (me_callB (cr_max rfl) (sMaxL rfl) (by rfl) n.n_max (by decide +kernel) (ma_cons (me_op opAdd sAdd (me_lst (ma_cons me_int ma_nil)) (me_comp (own := [("term", 1)]) (g := (gName 1)) rfl S.nd (mi_seq rfl (me_ix rfl (hu_of hr) (me_var (pv 0)) me_int (fun _ _ => rfl) (fun _ _ => rfl))) (blkOk_by (own := [("term", 1)]) (N := ["bill_so", "term"]) (sc := defScope s__law_wide) (by decide +kernel)) (fun _ _ _ _ _ => pg_name (i := 1) S.nd rfl (.inl rfl)) (gw_name (by decide)) (fun _ _ _ _ _ => mts_nil) (fun _ _ _ _ _ => (me_callB call_len (sLen rfl) (by rfl) n.n_len (by decide +kernel) (ma_cons (me_ix rfl (hu_of hr) (me_var (pv 1)) me_int (fun _ _ => rfl) (fun _ _ => rfl)) ma_nil))))) ma_nil))))
theorem ok__law_paid (n : Ns Γ mg) (F : Fun Γ.K "_law_paid" "_law_paid" s__law_paid f fd) (c__law_wide : Cal P w mg base Γ 1 "_law_wide" ["bill_so"] g__law_wide) (c__law_index : Cal P w mg base Γ 1 "_law_index" ["rule_so", "some"] g__law_index) : FnG P w mg base Γ 2 f fd ["bill_so", "row_so"] g__law_paid :=
  have S := sc__law_paid
  ok_fn (N := ["bill_so", "row_so", "found", "spot", "whole", "rule_so", "before", "after", "size"]) (c := d__law_paid) F S fun cdv A outer s H E W hr hg tk => (mb_cons (ms_set (i := 2) S.nd rfl (.inl rfl) (me_lstM ma_nil))
  (mb_cons (ms_for (passes_of rfl) rfl (mi_range2 (by rfl) n.n_range (ma_cons (me_cal c__law_wide rfl (hr.mono (by decide)) hg tk (by rfl) (ma_cons (me_var (pv 0)) ma_nil) 1 (len_cons len_nil) rfl rfl) (ma_cons (me_callB call_len (sLen rfl) (by rfl) n.n_len (by decide +kernel) (ma_cons (me_var (pv 1)) ma_nil)) ma_nil))) (mg_name (pg_name (i := 3) S.nd rfl (.inl rfl))) (mb_cons (ms_set (i := 4) S.nd rfl (.inl rfl) (me_op opMul sMul (me_ix rfl (hu_of hr) (me_var (pv 0)) me_int (fun _ _ => rfl) (fun _ _ => rfl)) (me_ix rfl (hu_of hr) (me_var (pv 1)) (me_var (pv 3)) (fun _ _ => rfl) (fun _ _ => rfl))))
  (mb_cons (ms_for (passes_of rfl) rfl (mi_seq rfl (me_ix rfl (hu_of hr) (me_var (pv 0)) me_int (fun _ _ => rfl) (fun _ _ => rfl))) (mg_tup' rfl rfl (mgs_cons' (mg_name (pg_name (i := 5) S.nd rfl (.inl rfl))) (mgs_cons' (mg_name (pg_name (i := 6) S.nd rfl (.inl rfl))) (mgs_cons' (mg_name (pg_name (i := 7) S.nd rfl (.inl rfl))) mgs_nil)))) (mb_cons (ms_set (i := 8) S.nd rfl (.inl rfl) (me_callB call_len (sLen rfl) (by rfl) n.n_len (by decide +kernel) (ma_cons (me_var (pv 5)) ma_nil)))
  (mb_cons (ms_set (i := 4) S.nd rfl (.inl rfl) (me_op opAdd sAdd (me_var (pv 4)) (me_op opMul sMul (me_var (pv 6)) (me_cal c__law_index rfl (hr.mono (by decide)) hg tk (by rfl) (ma_cons (me_var (pv 5)) (ma_cons (me_sl rfl (me_var (pv 1)) (mo_some (me_op op_sub sSub (me_var (pv 3)) (me_var (pv 8)))) (mo_some (me_var (pv 3)))) ma_nil)) 2 (len_cons (len_cons len_nil)) rfl rfl))))
  (mb_one (ms_set (i := 4) S.nd rfl (.inl rfl) (me_op opAdd sAdd (me_var (pv 4)) (me_op opMul sMul (me_var (pv 7)) (me_cal c__law_index rfl (hr.mono (by decide)) hg tk (by rfl) (ma_cons (me_var (pv 5)) (ma_cons (me_sl rfl (me_var (pv 1)) (mo_some (me_op op_sub sSub (me_op opAdd sAdd (me_var (pv 3)) me_int) (me_var (pv 8)))) (mo_some (me_op opAdd sAdd (me_var (pv 3)) me_int))) ma_nil)) 2 (len_cons (len_cons len_nil)) rfl rfl))))))))
  (mb_one (ms_expr (me_app (pe_bm PySem.F.plainAttrs_list PySem.F.slot_list_append PySem.F.type_list_append mt_append (me_var (pv 2)) (pa_cons (me_var (pv 4)) pa_nil))))))))
  (mb_one (ms_ret (me_var (pv 2))))))
theorem ok__law_bit_rows (n : Ns Γ mg) (F : Fun Γ.K "_law_bit_rows" "_law_bit_rows" s__law_bit_rows f fd) : FnG P w mg base Γ 1 f fd ["many"] g__law_bit_rows :=
  have S := sc__law_bit_rows
  ok_fn (N := ["many", "found", "k", "longer", "row"]) (c := d__law_bit_rows) F S fun cdv A outer s H E W hr hg tk => (mb_cons (ms_set (i := 1) S.nd rfl (.inl rfl) (me_lst (ma_cons (me_tup ma_nil) ma_nil)))
  (mb_cons (ms_for (passes_of rfl) rfl (mi_range1 (by rfl) n.n_range (ma_cons (me_var (pv 0)) ma_nil)) (mg_name (pg_name (i := 2) S.nd rfl (.inl rfl))) (mb_cons (ms_set (i := 3) S.nd rfl (.inl rfl) (me_lst ma_nil))
  (mb_cons (ms_for (passes_of rfl) rfl (mi_seq rfl (me_var (pv 1))) (mg_name (pg_name (i := 4) S.nd rfl (.inl rfl))) (mb_one (ms_set (i := 3) S.nd rfl (.inl rfl) (me_op opAdd sAdd (me_var (pv 3)) (me_lst (ma_cons (me_op opAdd sAdd (me_var (pv 4)) (me_tup (ma_cons me_int ma_nil))) (ma_cons (me_op opAdd sAdd (me_var (pv 4)) (me_tup (ma_cons me_int ma_nil))) ma_nil)))))))
  (mb_one (ms_set (i := 1) S.nd rfl (.inl rfl) (me_var (pv 3)))))))
  (mb_one (ms_ret (me_var (pv 1))))))
theorem ok__law_gains (n : Ns Γ mg) (F : Fun Γ.K "_law_gains" "_law_gains" s__law_gains f fd) (c__law_wide : Cal P w mg base Γ 1 "_law_wide" ["bill_so"] g__law_wide) (c__law_bit_rows : Cal P w mg base Γ 1 "_law_bit_rows" ["many"] g__law_bit_rows) (c__law_paid : Cal P w mg base Γ 2 "_law_paid" ["bill_so", "row_so"] g__law_paid) : FnG P w mg base Γ 3 f fd ["bill_so"] g__law_gains :=
  have S := sc__law_gains
  ok_fn (N := ["bill_so", "size", "found", "begin", "many", "behind", "near", "far", "more"]) (c := d__law_gains) F S fun cdv A outer s H E W hr hg tk => (mb_cons (ms_par rfl S.nd rfl rfl (by decide) rfl rfl (ma_cons (me_cal c__law_wide rfl (hr.mono (by decide)) hg tk (by rfl) (ma_cons (me_var (pv 0)) ma_nil) 1 (len_cons len_nil) rfl rfl) (ma_cons (me_lstM (ma_cons (me_tup (ma_cons me_int (ma_cons me_int ma_nil))) ma_nil)) ma_nil)) (by rfl))
  (mb_cons (ms_for (passes_of rfl) rfl (mi_seq rfl (me_cal c__law_bit_rows rfl (hr.mono (by decide)) hg tk (by rfl) (ma_cons (me_var (pv 1)) ma_nil) 1 (len_cons len_nil) rfl rfl)) (mg_name (pg_name (i := 3) S.nd rfl (.inl rfl))) (mb_one (ms_for (passes_of rfl) rfl (mi_range1 (by rfl) n.n_range (ma_cons (me_op opAdd sAdd (me_var (pv 1)) me_int) ma_nil)) (mg_name (pg_name (i := 4) S.nd rfl (.inl rfl))) (mb_one (ms_for (passes_of rfl) rfl (mi_seq rfl (me_cal c__law_bit_rows rfl (hr.mono (by decide)) hg tk (by rfl) (ma_cons (me_var (pv 4)) ma_nil) 1 (len_cons len_nil) rfl rfl)) (mg_name (pg_name (i := 5) S.nd rfl (.inl rfl))) (mb_cons (ms_par rfl S.nd rfl rfl (by decide) rfl rfl (ma_cons (me_op opAdd sAdd (me_op opAdd sAdd (me_var (pv 3)) (me_tup (ma_cons me_int ma_nil))) (me_var (pv 5))) (ma_cons (me_op opAdd sAdd (me_op opAdd sAdd (me_var (pv 3)) (me_tup (ma_cons me_int ma_nil))) (me_var (pv 5))) ma_nil)) (by rfl))
  (mb_cons (ms_set (i := 8) S.nd rfl (.inl rfl) (me_op op_sub sSub (me_callB (cr_sumA rfl) (sSumA rfl) (by rfl) n.n_sum (by decide +kernel) (ma_cons (me_cal c__law_paid rfl (hr.mono (by decide)) hg tk (by rfl) (ma_cons (me_var (pv 0)) (ma_cons (me_var (pv 7)) ma_nil)) 2 (len_cons (len_cons len_nil)) rfl rfl) ma_nil)) (me_callB (cr_sumA rfl) (sSumA rfl) (by rfl) n.n_sum (by decide +kernel) (ma_cons (me_cal c__law_paid rfl (hr.mono (by decide)) hg tk (by rfl) (ma_cons (me_var (pv 0)) (ma_cons (me_var (pv 6)) ma_nil)) 2 (len_cons (len_cons len_nil)) rfl rfl) ma_nil))))
  (mb_one (ms_expr (me_app (pe_bm PySem.F.plainAttrs_list PySem.F.slot_list_append PySem.F.type_list_append mt_append (me_var (pv 2)) (pa_cons (me_tup (ma_cons (me_var (pv 8)) (ma_cons (me_op opAdd sAdd (me_var (pv 4)) me_int) ma_nil))) pa_nil))))))))))))
  (mb_one (ms_ret (me_var (pv 2))))))
theorem ok__law_results_right (n : Ns Γ mg) (F : Fun Γ.K "_law_results_right" "_law_results_right" s__law_results_right f fd) (c__law_drawn_row : Cal P w mg base Γ 2 "_law_drawn_row" ["m", "least", "more", "high"] g__law_drawn_row) (c__law_of : Cal P w mg base Γ 2 "_law_of" ["m", "some"] g__law_of) (c__law_draw : Cal P w mg base Γ 1 "_law_draw" ["m", "many"] g__law_draw) (c_gain : Cal P w mg base Γ 6 "gain" ["bill", "row", "other"] g_gain) : FnG P w mg base Γ 7 f fd ["m", "bill_so", "size", "due"] g__law_results_right :=
  have S := sc__law_results_right
  ok_fn (N := ["m", "bill_so", "size", "due", "again", "near", "spot", "more", "far"]) (c := d__law_results_right) F S fun cdv A outer s H E W hr hg tk => (mb_cons (ms_for (passes_of rfl) rfl (mi_range1 (by rfl) n.n_range (ma_cons me_int ma_nil)) (mg_name (pg_name (i := 4) S.nd rfl (.inl rfl))) (mb_cons (ms_set (i := 5) S.nd rfl (.inl rfl) (me_cal c__law_drawn_row rfl (hr.mono (by decide)) hg tk (by rfl) (ma_cons (me_var (pv 0)) (ma_cons (me_op opAdd sAdd (me_var (pv 2)) me_int) (ma_cons me_int (ma_cons (me_cal c__law_of rfl (hr.mono (by decide)) hg tk (by rfl) (ma_cons (me_var (pv 0)) (ma_cons (me_lst (ma_cons me_int (ma_cons me_int (ma_cons me_int ma_nil)))) ma_nil)) 2 (len_cons (len_cons len_nil)) rfl rfl) ma_nil)))) 4 (len_cons (len_cons (len_cons (len_cons len_nil)))) rfl rfl))
  (mb_cons (ms_par rfl S.nd rfl rfl (by decide) rfl rfl (ma_cons (me_op opAdd sAdd (me_var (pv 2)) (me_cal c__law_draw rfl (hr.mono (by decide)) hg tk (by rfl) (ma_cons (me_var (pv 0)) (ma_cons (me_op op_sub sSub (me_callB call_len (sLen rfl) (by rfl) n.n_len (by decide +kernel) (ma_cons (me_var (pv 5)) ma_nil)) (me_var (pv 2))) ma_nil)) 2 (len_cons (len_cons len_nil)) rfl rfl)) (ma_cons (me_cal c__law_draw rfl (hr.mono (by decide)) hg tk (by rfl) (ma_cons (me_var (pv 0)) (ma_cons me_int ma_nil)) 2 (len_cons (len_cons len_nil)) rfl rfl) ma_nil)) (by rfl))
  (mb_cons (ms_set (i := 8) S.nd rfl (.inl rfl) (me_op opAdd sAdd (me_op opAdd sAdd (me_sl rfl (me_var (pv 5)) mo_none (mo_some (me_var (pv 6)))) (me_tup (ma_cons (me_op opAdd sAdd (me_ix rfl (hu_of hr) (me_var (pv 5)) (me_var (pv 6)) (fun _ _ => rfl) (fun _ _ => rfl)) (me_var (pv 7))) ma_nil))) (me_sl rfl (me_var (pv 5)) (mo_some (me_op opAdd sAdd (me_var (pv 6)) me_int)) mo_none)))
  (mb_one (ms_if (mt_cmp op_gt sCmp (nomark _) (me_cal c_gain rfl (hr.mono (by decide)) hg tk (by rfl) (ma_cons (me_var (pv 1)) (ma_cons (me_var (pv 5)) (ma_cons (me_var (pv 8)) ma_nil))) 3 (len_cons (len_cons (len_cons len_nil))) rfl rfl) (me_op opMul sMul (me_var (pv 7)) (me_var (pv 3)))) (mb_one (ms_ret me_bl)) mb_nil))))))
  (mb_one (ms_ret me_bl)))
theorem ok__law_right (n : Ns Γ mg) (F : Fun Γ.K "_law_right" "_law_right" s__law_right f fd) (c__law_gains : Cal P w mg base Γ 3 "_law_gains" ["bill_so"] g__law_gains) (c__law_wide : Cal P w mg base Γ 1 "_law_wide" ["bill_so"] g__law_wide) (c_greatest_gain : Cal P w mg base Γ 6 "greatest_gain" ["bill", "kind"] g_greatest_gain) (c_does_pay : Cal P w mg base Γ 7 "does_pay" ["bill", "kind"] g_does_pay) (c_gain_rows : Cal P w mg base Γ 6 "gain_rows" ["bill", "kind"] g_gain_rows) (c__law_paid : Cal P w mg base Γ 2 "_law_paid" ["bill_so", "row_so"] g__law_paid) (c__law_results_right : Cal P w mg base Γ 7 "_law_results_right" ["m", "bill_so", "size", "due"] g__law_results_right) : FnG P w mg base Γ 8 f fd ["m", "bill_so"] g__law_right :=
  have S := sc__law_right
  ok_fn (N := ["m", "bill_so", "found", "size", "due", "least", "heard", "near", "far", "more", "many", "one", "two"]) (c := d__law_right) F S fun cdv A outer s H E W hr hg tk => (mb_cons (ms_par rfl S.nd rfl rfl (by decide) rfl rfl (ma_cons (me_cal c__law_gains rfl (hr.mono (by decide)) hg tk (by rfl) (ma_cons (me_var (pv 1)) ma_nil) 1 (len_cons len_nil) rfl rfl) (ma_cons (me_cal c__law_wide rfl (hr.mono (by decide)) hg tk (by rfl) (ma_cons (me_var (pv 1)) ma_nil) 1 (len_cons len_nil) rfl rfl) ma_nil)) (by rfl))
  (mb_cons (ms_set (i := 4) S.nd rfl (.inr rfl) (me_callB (cr_max rfl) (sMaxL rfl) (by rfl) n.n_max (by decide +kernel) (ma_cons (me_comp (own := [("more", 9), ("many", 10)]) (g := (gTup Γ.K 2 (gCons (gName 9) (gCons (gName 10) gNil)))) rfl S.nd (mi_seq rfl (me_var (pv 2))) (blkOk_by (own := [("more", 9), ("many", 10)]) (N := ["m", "bill_so", "found", "size", "due", "least", "heard", "near", "far", "more", "many", "one", "two"]) (sc := defScope s__law_right) (by decide +kernel)) (fun _ _ _ _ _ => pg_tup rfl (pgs_cons (pg_name (i := 9) S.nd rfl (.inl rfl)) (pgs_cons (pg_name (i := 10) S.nd rfl (.inl rfl)) pgs_nil))) (gw_tup rfl (gws_cons (gw_name (by decide)) (gws_cons (gw_name (by decide)) gws_nil))) (fun _ _ _ _ _ => mts_nil) (fun _ _ _ _ _ => (me_var (pv 9)))) ma_nil)))
  (mb_cons (ms_set (i := 5) S.nd rfl (.inl rfl) (me_callB (cr_min rfl) (sMinL rfl) (by rfl) n.n_min (by decide +kernel) (ma_cons (me_comp (own := [("more", 9), ("many", 10)]) (g := (gTup Γ.K 2 (gCons (gName 9) (gCons (gName 10) gNil)))) rfl S.nd (mi_seq rfl (me_var (pv 2))) (blkOk_by (own := [("more", 9), ("many", 10)]) (N := ["m", "bill_so", "found", "size", "due", "least", "heard", "near", "far", "more", "many", "one", "two"]) (sc := defScope s__law_right) (by decide +kernel)) (fun _ _ _ _ _ => pg_tup rfl (pgs_cons (pg_name (i := 9) S.nd rfl (.inl rfl)) (pgs_cons (pg_name (i := 10) S.nd rfl (.inl rfl)) pgs_nil))) (gw_tup rfl (gws_cons (gw_name (by decide)) (gws_cons (gw_name (by decide)) gws_nil))) (fun _ _ _ _ _ => mts_one (mt_cmp (opEq hr.units) sEq (nomark _) (me_var (pv 9)) (me_var (pv 4)))) (fun _ _ _ _ _ => (me_var (pv 10)))) ma_nil)))
  (mb_cons (ms_set (i := 6) S.nd rfl (.inl rfl) (me_lst (ma_cons (me_cal c_greatest_gain rfl (hr.mono (by decide)) hg tk (by rfl) (ma_cons (me_var (pv 1)) (ma_cons me_str ma_nil)) 2 (len_cons (len_cons len_nil)) rfl rfl) (ma_cons (me_cal c_does_pay rfl (hr.mono (by decide)) hg tk (by rfl) (ma_cons (me_var (pv 1)) (ma_cons me_str ma_nil)) 2 (len_cons (len_cons len_nil)) rfl rfl) (ma_cons (me_cal c_greatest_gain rfl (hr.mono (by decide)) hg tk (by rfl) (ma_cons (me_var (pv 1)) (ma_cons me_str ma_nil)) 2 (len_cons (len_cons len_nil)) rfl rfl) ma_nil)))))
  (mb_cons (ms_if (mt_w (mw_or (mt_cmp (opNe hr.units) sNe (nomark _) (me_callB (cr_reprA hg hr.units) (sReprA rfl) (by rfl) n.n_repr (by decide +kernel) (ma_cons (me_var (pv 6)) ma_nil)) (me_callB (cr_reprA hg hr.units) (sReprA rfl) (by rfl) n.n_repr (by decide +kernel) (ma_cons (me_lst (ma_cons (me_var (pv 4)) (ma_cons (me_cmp op_gt sCmp (nomark _) (me_var (pv 4)) me_int) (ma_cons (me_var (pv 4)) ma_nil)))) ma_nil))) (mw_or1 (mt_cmp (opNe hr.units) sNe (nomark _) (me_cal c_does_pay rfl (hr.mono (by decide)) hg tk (by rfl) (ma_cons (me_var (pv 1)) (ma_cons me_str ma_nil)) 2 (len_cons (len_cons len_nil)) rfl rfl) (me_cmp op_gt sCmp (nomark _) (me_var (pv 4)) me_int))))) (mb_one (ms_ret me_bl)) mb_nil)
  (mb_cons (ms_setT (me_cal c_gain_rows rfl (hr.mono (by decide)) hg tk (by rfl) (ma_cons (me_var (pv 1)) (ma_cons me_str ma_nil)) 2 (len_cons (len_cons len_nil)) rfl rfl) (mg_tup' rfl rfl (mgs_cons' (mg_name (pg_name (i := 7) S.nd rfl (.inl rfl))) (mgs_cons' (mg_name (pg_name (i := 8) S.nd rfl (.inl rfl))) mgs_nil))))
  (mb_cons (ms_if (mt_w (mw_or (mt_cmp (opNe hr.units) sNe (nomark _) (me_cal c_gain_rows rfl (hr.mono (by decide)) hg tk (by rfl) (ma_cons (me_var (pv 1)) (ma_cons me_str ma_nil)) 2 (len_cons (len_cons len_nil)) rfl rfl) (me_tup (ma_cons (me_var (pv 7)) (ma_cons (me_var (pv 8)) ma_nil)))) (mw_or (mt_cmp (opNe hr.units) sNe (nomark _) (me_callB call_len (sLen rfl) (by rfl) n.n_len (by decide +kernel) (ma_cons (me_var (pv 7)) ma_nil)) (me_op opAdd sAdd (me_var (pv 3)) (me_var (pv 5)))) (mw_or1 (mt_cmp (opNe hr.units) sNe (nomark _) (me_callB call_len (sLen rfl) (by rfl) n.n_len (by decide +kernel) (ma_cons (me_var (pv 8)) ma_nil)) (me_op opAdd sAdd (me_var (pv 3)) (me_var (pv 5)))))))) (mb_one (ms_ret me_bl)) mb_nil)
  (mb_cons (ms_if (mt_w (mw_or (mt_cmp op_gt sCmp (nomark _) (me_callB call_len (sLen rfl) (by rfl) n.n_len (by decide +kernel) (ma_cons (me_comp (own := [("one", 11), ("two", 12)]) (g := (gTup Γ.K 2 (gCons (gName 11) (gCons (gName 12) gNil)))) rfl S.nd (mi_zip rfl (by rfl) n.n_zip (ma_cons (me_var (pv 7)) (ma_cons (me_var (pv 8)) ma_nil))) (blkOk_by (own := [("one", 11), ("two", 12)]) (N := ["m", "bill_so", "found", "size", "due", "least", "heard", "near", "far", "more", "many", "one", "two"]) (sc := defScope s__law_right) (by decide +kernel)) (fun _ _ _ _ _ => pg_tup rfl (pgs_cons (pg_name (i := 11) S.nd rfl (.inl rfl)) (pgs_cons (pg_name (i := 12) S.nd rfl (.inl rfl)) pgs_nil))) (gw_tup rfl (gws_cons (gw_name (by decide)) (gws_cons (gw_name (by decide)) gws_nil))) (fun _ _ _ _ _ => mts_one (mt_cmp (opNe hr.units) sNe (nomark _) (me_var (pv 11)) (me_var (pv 12)))) (fun _ _ _ _ _ => me_int)) ma_nil)) me_int) (mw_or1 (mt_cmp (opNe hr.units) sNe (nomark _) (me_sl rfl (me_var (pv 7)) mo_none (mo_some (me_var (pv 3)))) (me_sl rfl (me_var (pv 8)) mo_none (mo_some (me_var (pv 3)))))))) (mb_one (ms_ret me_bl)) mb_nil)
  (mb_cons (ms_if (mt_cmp (opNe hr.units) sNe (nomark _) (me_comp (own := [("one", 11), ("two", 12)]) (g := (gTup Γ.K 2 (gCons (gName 11) (gCons (gName 12) gNil)))) rfl S.nd (mi_zip rfl (by rfl) n.n_zip (ma_cons (me_var (pv 7)) (ma_cons (me_var (pv 8)) ma_nil))) (blkOk_by (own := [("one", 11), ("two", 12)]) (N := ["m", "bill_so", "found", "size", "due", "least", "heard", "near", "far", "more", "many", "one", "two"]) (sc := defScope s__law_right) (by decide +kernel)) (fun _ _ _ _ _ => pg_tup rfl (pgs_cons (pg_name (i := 11) S.nd rfl (.inl rfl)) (pgs_cons (pg_name (i := 12) S.nd rfl (.inl rfl)) pgs_nil))) (gw_tup rfl (gws_cons (gw_name (by decide)) (gws_cons (gw_name (by decide)) gws_nil))) (fun _ _ _ _ _ => mts_one (mt_cmp (op_notInT hr.units) (sInT rfl) (by rfl) (me_tup (ma_cons (me_var (pv 11)) (ma_cons (me_var (pv 12)) ma_nil))) (me_tup (ma_cons (me_tup (ma_cons me_int (ma_cons me_int ma_nil))) (ma_cons (me_tup (ma_cons me_int (ma_cons me_int ma_nil))) (ma_cons (me_tup (ma_cons me_int (ma_cons me_int ma_nil))) ma_nil)))))) (fun _ _ _ _ _ => me_int)) (me_lst ma_nil)) (mb_one (ms_ret me_bl)) mb_nil)
  (mb_cons (ms_if (mt_cmp (opNe hr.units) sNe (nomark _) (me_op op_sub sSub (me_callB (cr_sumA rfl) (sSumA rfl) (by rfl) n.n_sum (by decide +kernel) (ma_cons (me_cal c__law_paid rfl (hr.mono (by decide)) hg tk (by rfl) (ma_cons (me_var (pv 1)) (ma_cons (me_var (pv 8)) ma_nil)) 2 (len_cons (len_cons len_nil)) rfl rfl) ma_nil)) (me_callB (cr_sumA rfl) (sSumA rfl) (by rfl) n.n_sum (by decide +kernel) (ma_cons (me_cal c__law_paid rfl (hr.mono (by decide)) hg tk (by rfl) (ma_cons (me_var (pv 1)) (ma_cons (me_var (pv 7)) ma_nil)) 2 (len_cons (len_cons len_nil)) rfl rfl) ma_nil))) (me_var (pv 4))) (mb_one (ms_ret me_bl)) mb_nil)
  (mb_one (ms_ret (me_cal c__law_results_right rfl (hr.mono (by decide)) hg tk (by rfl) (ma_cons (me_var (pv 0)) (ma_cons (me_var (pv 1)) (ma_cons (me_var (pv 3)) (ma_cons (me_var (pv 4)) ma_nil)))) 4 (len_cons (len_cons (len_cons (len_cons len_nil)))) rfl rfl)))))))))))))
theorem ok_law (n : Ns Γ mg) (F : Fun Γ.K "law" "law" s_law f fd) (c__law_begun : Cal P w mg base Γ 1 "_law_begun" ["script"] g__law_begun) (c__law_draw : Cal P w mg base Γ 1 "_law_draw" ["m", "many"] g__law_draw) (c__law_tame_bill : Cal P w mg base Γ 3 "_law_tame_bill" ["m", "most"] g__law_tame_bill) (c__law_drawn_bill : Cal P w mg base Γ 3 "_law_drawn_bill" ["m", "most"] g__law_drawn_bill) (c__law_right : Cal P w mg base Γ 8 "_law_right" ["m", "bill_so"] g__law_right) (c_gain_rows : Cal P w mg base Γ 6 "gain_rows" ["bill", "kind"] g_gain_rows) (c_greatest_gain : Cal P w mg base Γ 6 "greatest_gain" ["bill", "kind"] g_greatest_gain) (c_does_pay : Cal P w mg base Γ 7 "does_pay" ["bill", "kind"] g_does_pay) : FnG P w mg base Γ 9 f fd ["script"] g_law :=
  have S := sc_law
  ok_fn (N := ["script", "m", "lap", "bill_so", "kept", "heard"]) (c := d_law) F S fun cdv A outer s H E W hr hg tk => (mb_cons (ms_set (i := 1) S.nd rfl (.inl rfl) (me_cal c__law_begun rfl (hr.mono (by decide)) hg tk (by rfl) (ma_cons (me_var (pv 0)) ma_nil) 1 (len_cons len_nil) rfl rfl))
  (mb_cons (ms_for (passes_of rfl) rfl (mi_range1 (by rfl) n.n_range (ma_cons (me_op opAdd sAdd me_int (me_callB (call_min2 rfl) sMin2 (by rfl) n.n_min (by decide +kernel) (ma_cons (me_callB call_len (sLen rfl) (by rfl) n.n_len (by decide +kernel) (ma_cons (me_var (pv 0)) ma_nil)) (ma_cons me_int ma_nil)))) ma_nil)) (mg_name (pg_name (i := 2) S.nd rfl (.inl rfl))) (mb_cons (ms_set (i := 3) S.nd rfl (.inl rfl) (me_if (mt_cmp op_gt sCmp (nomark _) (me_cal c__law_draw rfl (hr.mono (by decide)) hg tk (by rfl) (ma_cons (me_var (pv 1)) (ma_cons me_int ma_nil)) 2 (len_cons (len_cons len_nil)) rfl rfl) me_int) (me_cal c__law_tame_bill rfl (hr.mono (by decide)) hg tk (by rfl) (ma_cons (me_var (pv 1)) (ma_cons me_int ma_nil)) 2 (len_cons (len_cons len_nil)) rfl rfl) (me_cal c__law_drawn_bill rfl (hr.mono (by decide)) hg tk (by rfl) (ma_cons (me_var (pv 1)) (ma_cons me_int ma_nil)) 2 (len_cons (len_cons len_nil)) rfl rfl)))
  (mb_cons (ms_set (i := 4) S.nd rfl (.inl rfl) (me_callB (cr_reprA hg hr.units) (sReprA rfl) (by rfl) n.n_repr (by decide +kernel) (ma_cons (me_var (pv 3)) ma_nil)))
  (mb_one (ms_if (mt_w (mw_or (mt_not (mt_val (me_cal c__law_right rfl (hr.mono (by decide)) hg tk (by rfl) (ma_cons (me_var (pv 1)) (ma_cons (me_var (pv 3)) ma_nil)) 2 (len_cons (len_cons len_nil)) rfl rfl))) (mw_or1 (mt_cmp (opNe hr.units) sNe (nomark _) (me_callB (cr_reprA hg hr.units) (sReprA rfl) (by rfl) n.n_repr (by decide +kernel) (ma_cons (me_var (pv 3)) ma_nil)) (me_var (pv 4)))))) (mb_one (ms_ret me_bl)) mb_nil)))))
  (mb_cons (ms_if (mt_cmp (op_notInT hr.units) (sInT rfl) (by rfl) (me_cal c_gain_rows rfl (hr.mono (by decide)) hg tk (by rfl) (ma_cons (me_tup (ma_cons (me_un un_neg sNeg me_int) (ma_cons (me_tup ma_nil) ma_nil))) (ma_cons me_str ma_nil)) 2 (len_cons (len_cons len_nil)) rfl rfl) (me_tup (ma_cons (me_tup (ma_cons (me_tup (ma_cons me_int ma_nil)) (ma_cons (me_tup (ma_cons me_int ma_nil)) ma_nil))) (ma_cons (me_tup (ma_cons (me_tup (ma_cons me_int ma_nil)) (ma_cons (me_tup (ma_cons me_int ma_nil)) ma_nil))) ma_nil)))) (mb_one (ms_ret me_bl)) mb_nil)
  (mb_cons (ms_if (mt_cmp (op_notInT hr.units) (sInT rfl) (by rfl) (me_cal c_gain_rows rfl (hr.mono (by decide)) hg tk (by rfl) (ma_cons (me_tup (ma_cons me_int (ma_cons (me_tup ma_nil) ma_nil))) (ma_cons me_str ma_nil)) 2 (len_cons (len_cons len_nil)) rfl rfl) (me_tup (ma_cons (me_tup (ma_cons (me_tup (ma_cons me_int (ma_cons me_int ma_nil))) (ma_cons (me_tup (ma_cons me_int (ma_cons me_int ma_nil))) ma_nil))) (ma_cons (me_tup (ma_cons (me_tup (ma_cons me_int (ma_cons me_int ma_nil))) (ma_cons (me_tup (ma_cons me_int (ma_cons me_int ma_nil))) ma_nil))) ma_nil)))) (mb_one (ms_ret me_bl)) mb_nil)
  (mb_cons (ms_set (i := 5) S.nd rfl (.inl rfl) (me_lstM (ma_cons (me_cal c_greatest_gain rfl (hr.mono (by decide)) hg tk (by rfl) (ma_cons (me_tup (ma_cons (me_un un_neg sNeg me_int) (ma_cons (me_tup ma_nil) ma_nil))) (ma_cons me_str ma_nil)) 2 (len_cons (len_cons len_nil)) rfl rfl) (ma_cons (me_cal c_greatest_gain rfl (hr.mono (by decide)) hg tk (by rfl) (ma_cons (me_tup (ma_cons me_int (ma_cons (me_tup ma_nil) ma_nil))) (ma_cons me_str ma_nil)) 2 (len_cons (len_cons len_nil)) rfl rfl) ma_nil))))
  (mb_cons (ms_expr (me_app (pe_bm PySem.F.plainAttrs_list PySem.F.slot_list_append PySem.F.type_list_append mt_append (me_var (pv 5)) (pa_cons (me_cal c_greatest_gain rfl (hr.mono (by decide)) hg tk (by rfl) (ma_cons (me_tup (ma_cons (me_un un_neg sNeg me_int) (ma_cons (me_tup (ma_cons (me_tup (ma_cons (me_tup (ma_cons me_int (ma_cons me_int (ma_cons me_int (ma_cons me_int ma_nil))))) (ma_cons me_int (ma_cons me_int ma_nil)))) ma_nil)) ma_nil))) (ma_cons me_str ma_nil)) 2 (len_cons (len_cons len_nil)) rfl rfl) pa_nil))))
  (mb_cons (ms_expr (me_app (pe_bm PySem.F.plainAttrs_list PySem.F.slot_list_append PySem.F.type_list_append mt_append (me_var (pv 5)) (pa_cons (me_cal c_does_pay rfl (hr.mono (by decide)) hg tk (by rfl) (ma_cons (me_tup (ma_cons (me_un un_neg sNeg me_int) (ma_cons (me_tup (ma_cons (me_tup (ma_cons (me_tup (ma_cons me_int (ma_cons me_int (ma_cons me_int (ma_cons me_int ma_nil))))) (ma_cons me_int (ma_cons me_int ma_nil)))) ma_nil)) ma_nil))) (ma_cons me_str ma_nil)) 2 (len_cons (len_cons len_nil)) rfl rfl) pa_nil))))
  (mb_cons (ms_expr (me_app (pe_bm PySem.F.plainAttrs_list PySem.F.slot_list_append PySem.F.type_list_append mt_append (me_var (pv 5)) (pa_cons (me_cal c_greatest_gain rfl (hr.mono (by decide)) hg tk (by rfl) (ma_cons (me_tup (ma_cons (me_un un_neg sNeg me_int) (ma_cons (me_tup (ma_cons (me_tup (ma_cons (me_tup (ma_cons me_int (ma_cons me_int (ma_cons me_int ma_nil)))) (ma_cons me_int (ma_cons me_int ma_nil)))) ma_nil)) ma_nil))) (ma_cons me_str ma_nil)) 2 (len_cons (len_cons len_nil)) rfl rfl) pa_nil))))
  (mb_cons (ms_expr (me_app (pe_bm PySem.F.plainAttrs_list PySem.F.slot_list_append PySem.F.type_list_append mt_append (me_var (pv 5)) (pa_cons (me_cal c_greatest_gain rfl (hr.mono (by decide)) hg tk (by rfl) (ma_cons (me_tup (ma_cons (me_un un_neg sNeg me_int) (ma_cons (me_tup (ma_cons (me_tup (ma_cons (me_tup (ma_cons me_int (ma_cons me_int (ma_cons me_int (ma_cons me_int (ma_cons me_int ma_nil)))))) (ma_cons me_int (ma_cons me_int ma_nil)))) ma_nil)) ma_nil))) (ma_cons me_str ma_nil)) 2 (len_cons (len_cons len_nil)) rfl rfl) pa_nil))))
  (mb_one (ms_ret (me_cmp (opEq hr.units) sEq (nomark _) (me_var (pv 5)) (me_lst (ma_cons me_int (ma_cons me_int (ma_cons me_int (ma_cons me_bl (ma_cons me_int (ma_cons me_int ma_nil)))))))))))))))))))
end
theorem all_mk {l : PySem.W.OpenLaw} {w : World} {K : PySem.W.Frag} {h : Heap} {mg : Str → Option Value} {fa : Addr} (X : K.In h) (G : h.Ns mainGlobals mg) (hfa : mg "law" = some (.ref fa))
    {f0 : Addr} {od0 an0 : Option Addr} {sl0 : Array (Option Value)} {oc0 kV0 dc0 pm0 cd0 ct0 : Value}
    {f1 : Addr} {od1 an1 : Option Addr} {sl1 : Array (Option Value)} {oc1 kV1 dc1 pm1 cd1 ct1 : Value}
    {f2 : Addr} {od2 an2 : Option Addr} {sl2 : Array (Option Value)} {oc2 kV2 dc2 pm2 cd2 ct2 : Value}
    {f3 : Addr} {od3 an3 : Option Addr} {sl3 : Array (Option Value)} {oc3 kV3 dc3 pm3 cd3 ct3 : Value}
    {f4 : Addr} {od4 an4 : Option Addr} {sl4 : Array (Option Value)} {oc4 kV4 dc4 pm4 cd4 ct4 : Value}
    {f5 : Addr} {od5 an5 : Option Addr} {sl5 : Array (Option Value)} {oc5 kV5 dc5 pm5 cd5 ct5 : Value}
    {f6 : Addr} {od6 an6 : Option Addr} {sl6 : Array (Option Value)} {oc6 kV6 dc6 pm6 cd6 ct6 : Value}
    {f7 : Addr} {od7 an7 : Option Addr} {sl7 : Array (Option Value)} {oc7 kV7 dc7 pm7 cd7 ct7 : Value}
    {f8 : Addr} {od8 an8 : Option Addr} {sl8 : Array (Option Value)} {oc8 kV8 dc8 pm8 cd8 ct8 : Value}
    {f9 : Addr} {od9 an9 : Option Addr} {sl9 : Array (Option Value)} {oc9 kV9 dc9 pm9 cd9 ct9 : Value}
    {f10 : Addr} {od10 an10 : Option Addr} {sl10 : Array (Option Value)} {oc10 kV10 dc10 pm10 cd10 ct10 : Value}
    {f11 : Addr} {od11 an11 : Option Addr} {sl11 : Array (Option Value)} {oc11 kV11 dc11 pm11 cd11 ct11 : Value}
    {f12 : Addr} {od12 an12 : Option Addr} {sl12 : Array (Option Value)} {oc12 kV12 dc12 pm12 cd12 ct12 : Value}
    {f13 : Addr} {od13 an13 : Option Addr} {sl13 : Array (Option Value)} {oc13 kV13 dc13 pm13 cd13 ct13 : Value}
    {f14 : Addr} {od14 an14 : Option Addr} {sl14 : Array (Option Value)} {oc14 kV14 dc14 pm14 cd14 ct14 : Value}
    {f15 : Addr} {od15 an15 : Option Addr} {sl15 : Array (Option Value)} {oc15 kV15 dc15 pm15 cd15 ct15 : Value}
    {f16 : Addr} {od16 an16 : Option Addr} {sl16 : Array (Option Value)} {oc16 kV16 dc16 pm16 cd16 ct16 : Value}
    {f17 : Addr} {od17 an17 : Option Addr} {sl17 : Array (Option Value)} {oc17 kV17 dc17 pm17 cd17 ct17 : Value}
    {f18 : Addr} {od18 an18 : Option Addr} {sl18 : Array (Option Value)} {oc18 kV18 dc18 pm18 cd18 ct18 : Value}
    {f19 : Addr} {od19 an19 : Option Addr} {sl19 : Array (Option Value)} {oc19 kV19 dc19 pm19 cd19 ct19 : Value}
    {f20 : Addr} {od20 an20 : Option Addr} {sl20 : Array (Option Value)} {oc20 kV20 dc20 pm20 cd20 ct20 : Value}
    {f21 : Addr} {od21 an21 : Option Addr} {sl21 : Array (Option Value)} {oc21 kV21 dc21 pm21 cd21 ct21 : Value}
    {f22 : Addr} {od22 an22 : Option Addr} {sl22 : Array (Option Value)} {oc22 kV22 dc22 pm22 cd22 ct22 : Value}
    {f23 : Addr} {od23 an23 : Option Addr} {sl23 : Array (Option Value)} {oc23 kV23 dc23 pm23 cd23 ct23 : Value}
    {f24 : Addr} {od24 an24 : Option Addr} {sl24 : Array (Option Value)} {oc24 kV24 dc24 pm24 cd24 ct24 : Value}
    {f25 : Addr} {od25 an25 : Option Addr} {sl25 : Array (Option Value)} {oc25 kV25 dc25 pm25 cd25 ct25 : Value}
    {f26 : Addr} {od26 an26 : Option Addr} {sl26 : Array (Option Value)} {oc26 kV26 dc26 pm26 cd26 ct26 : Value}
    {f27 : Addr} {od27 an27 : Option Addr} {sl27 : Array (Option Value)} {oc27 kV27 dc27 pm27 cd27 ct27 : Value}
    {f28 : Addr} {od28 an28 : Option Addr} {sl28 : Array (Option Value)} {oc28 kV28 dc28 pm28 cd28 ct28 : Value}
    {f29 : Addr} {od29 an29 : Option Addr} {sl29 : Array (Option Value)} {oc29 kV29 dc29 pm29 cd29 ct29 : Value}
    {f30 : Addr} {od30 an30 : Option Addr} {sl30 : Array (Option Value)} {oc30 kV30 dc30 pm30 cd30 ct30 : Value}
    {f31 : Addr} {od31 an31 : Option Addr} {sl31 : Array (Option Value)} {oc31 kV31 dc31 pm31 cd31 ct31 : Value}
    {f32 : Addr} {od32 an32 : Option Addr} {sl32 : Array (Option Value)} {oc32 kV32 dc32 pm32 cd32 ct32 : Value}
    {f33 : Addr} {od33 an33 : Option Addr} {sl33 : Array (Option Value)} {oc33 kV33 dc33 pm33 cd33 ct33 : Value}
    {f34 : Addr} {od34 an34 : Option Addr} {sl34 : Array (Option Value)} {oc34 kV34 dc34 pm34 cd34 ct34 : Value}
    {f35 : Addr} {od35 an35 : Option Addr} {sl35 : Array (Option Value)} {oc35 kV35 dc35 pm35 cd35 ct35 : Value}
    {f36 : Addr} {od36 an36 : Option Addr} {sl36 : Array (Option Value)} {oc36 kV36 dc36 pm36 cd36 ct36 : Value}
    {f37 : Addr} {od37 an37 : Option Addr} {sl37 : Array (Option Value)} {oc37 kV37 dc37 pm37 cd37 ct37 : Value}
    {f38 : Addr} {od38 an38 : Option Addr} {sl38 : Array (Option Value)} {oc38 kV38 dc38 pm38 cd38 ct38 : Value}
    {f39 : Addr} {od39 an39 : Option Addr} {sl39 : Array (Option Value)} {oc39 kV39 dc39 pm39 cd39 ct39 : Value}
    {f40 : Addr} {od40 an40 : Option Addr} {sl40 : Array (Option Value)} {oc40 kV40 dc40 pm40 cd40 ct40 : Value}
    {f41 : Addr} {od41 an41 : Option Addr} {sl41 : Array (Option Value)} {oc41 kV41 dc41 pm41 cd41 ct41 : Value}
    {f42 : Addr} {od42 an42 : Option Addr} {sl42 : Array (Option Value)} {oc42 kV42 dc42 pm42 cd42 ct42 : Value}
    {f43 : Addr} {od43 an43 : Option Addr} {sl43 : Array (Option Value)} {oc43 kV43 dc43 pm43 cd43 ct43 : Value}
    {f44 : Addr} {od44 an44 : Option Addr} {sl44 : Array (Option Value)} {oc44 kV44 dc44 pm44 cd44 ct44 : Value}
    {f45 : Addr} {od45 an45 : Option Addr} {sl45 : Array (Option Value)} {oc45 kV45 dc45 pm45 cd45 ct45 : Value}
    {f46 : Addr} {od46 an46 : Option Addr} {sl46 : Array (Option Value)} {oc46 kV46 dc46 pm46 cd46 ct46 : Value}
    {f47 : Addr} {od47 an47 : Option Addr} {sl47 : Array (Option Value)} {oc47 kV47 dc47 pm47 cd47 ct47 : Value}
    {f48 : Addr} {od48 an48 : Option Addr} {sl48 : Array (Option Value)} {oc48 kV48 dc48 pm48 cd48 ct48 : Value}
    {f49 : Addr} {od49 an49 : Option Addr} {sl49 : Array (Option Value)} {oc49 kV49 dc49 pm49 cd49 ct49 : Value}
    {f50 : Addr} {od50 an50 : Option Addr} {sl50 : Array (Option Value)} {oc50 kV50 dc50 pm50 cd50 ct50 : Value}
    {f51 : Addr} {od51 an51 : Option Addr} {sl51 : Array (Option Value)} {oc51 kV51 dc51 pm51 cd51 ct51 : Value}
    {f52 : Addr} {od52 an52 : Option Addr} {sl52 : Array (Option Value)} {oc52 kV52 dc52 pm52 cd52 ct52 : Value}
    {f53 : Addr} {od53 an53 : Option Addr} {sl53 : Array (Option Value)} {oc53 kV53 dc53 pm53 cd53 ct53 : Value}
    {f54 : Addr} {od54 an54 : Option Addr} {sl54 : Array (Option Value)} {oc54 kV54 dc54 pm54 cd54 ct54 : Value}
    {f55 : Addr} {od55 an55 : Option Addr} {sl55 : Array (Option Value)} {oc55 kV55 dc55 pm55 cd55 ct55 : Value}
    {f56 : Addr} {od56 an56 : Option Addr} {sl56 : Array (Option Value)} {oc56 kV56 dc56 pm56 cd56 ct56 : Value}
    {f57 : Addr} {od57 an57 : Option Addr} {sl57 : Array (Option Value)} {oc57 kV57 dc57 pm57 cd57 ct57 : Value}
    {f58 : Addr} {od58 an58 : Option Addr} {sl58 : Array (Option Value)} {oc58 kV58 dc58 pm58 cd58 ct58 : Value}
    {f59 : Addr} {od59 an59 : Option Addr} {sl59 : Array (Option Value)} {oc59 kV59 dc59 pm59 cd59 ct59 : Value}
    {f60 : Addr} {od60 an60 : Option Addr} {sl60 : Array (Option Value)} {oc60 kV60 dc60 pm60 cd60 ct60 : Value}
    {f61 : Addr} {od61 an61 : Option Addr} {sl61 : Array (Option Value)} {oc61 kV61 dc61 pm61 cd61 ct61 : Value}
    {u0 : Value}
    {t1 : Tok}
    {t2 : Tok}
    {t3 : Tok}
    {t4 : Tok}
    {t5 : Tok}
    {t6 : Tok}
    {t7 : Tok}
    {t8 : Tok}
    {t9 : Tok}
    {u10 : Value}
    (a0 : PySem.W.nsIn K mainGlobals "is_int" = some (some (.ref f0)))
    (l0 : K.lookup f0 = some ⟨oc0, od0, .func (PySem.W.fnOf "is_int" "is_int" (defArgs s_is_int) (defBody s_is_int) (defScope s_is_int) .none kV0 dc0 pm0 an0 cd0 ct0), sl0⟩)
    (c0 : PySem.W.codeIn K cd0 "is_int" = true)
    (k0 : PySem.W.keepIn K (.ref f0) = true)
    (a1 : PySem.W.nsIn K mainGlobals "is_int_within" = some (some (.ref f1)))
    (l1 : K.lookup f1 = some ⟨oc1, od1, .func (PySem.W.fnOf "is_int_within" "is_int_within" (defArgs s_is_int_within) (defBody s_is_int_within) (defScope s_is_int_within) .none kV1 dc1 pm1 an1 cd1 ct1), sl1⟩)
    (c1 : PySem.W.codeIn K cd1 "is_int_within" = true)
    (k1 : PySem.W.keepIn K (.ref f1) = true)
    (a2 : PySem.W.nsIn K mainGlobals "is_tuple" = some (some (.ref f2)))
    (l2 : K.lookup f2 = some ⟨oc2, od2, .func (PySem.W.fnOf "is_tuple" "is_tuple" (defArgs s_is_tuple) (defBody s_is_tuple) (defScope s_is_tuple) .none kV2 dc2 pm2 an2 cd2 ct2), sl2⟩)
    (c2 : PySem.W.codeIn K cd2 "is_tuple" = true)
    (k2 : PySem.W.keepIn K (.ref f2) = true)
    (a3 : PySem.W.nsIn K mainGlobals "first_outside" = some (some (.ref f3)))
    (l3 : K.lookup f3 = some ⟨oc3, od3, .func (PySem.W.fnOf "first_outside" "first_outside" (defArgs s_first_outside) (defBody s_first_outside) (defScope s_first_outside) .none kV3 dc3 pm3 an3 cd3 ct3), sl3⟩)
    (c3 : PySem.W.codeIn K cd3 "first_outside" = true)
    (k3 : PySem.W.keepIn K (.ref f3) = true)
    (a4 : PySem.W.nsIn K mainGlobals "need_rule" = some (some (.ref f4)))
    (l4 : K.lookup f4 = some ⟨oc4, od4, .func (PySem.W.fnOf "need_rule" "need_rule" (defArgs s_need_rule) (defBody s_need_rule) (defScope s_need_rule) .none kV4 dc4 pm4 an4 cd4 ct4), sl4⟩)
    (c4 : PySem.W.codeIn K cd4 "need_rule" = true)
    (k4 : PySem.W.keepIn K (.ref f4) = true)
    (a5 : PySem.W.nsIn K mainGlobals "is_rule" = some (some (.ref f5)))
    (l5 : K.lookup f5 = some ⟨oc5, od5, .func (PySem.W.fnOf "is_rule" "is_rule" (defArgs s_is_rule) (defBody s_is_rule) (defScope s_is_rule) .none kV5 dc5 pm5 an5 cd5 ct5), sl5⟩)
    (c5 : PySem.W.codeIn K cd5 "is_rule" = true)
    (k5 : PySem.W.keepIn K (.ref f5) = true)
    (a6 : PySem.W.nsIn K mainGlobals "need_row" = some (some (.ref f6)))
    (l6 : K.lookup f6 = some ⟨oc6, od6, .func (PySem.W.fnOf "need_row" "need_row" (defArgs s_need_row) (defBody s_need_row) (defScope s_need_row) .none kV6 dc6 pm6 an6 cd6 ct6), sl6⟩)
    (c6 : PySem.W.codeIn K cd6 "need_row" = true)
    (k6 : PySem.W.keepIn K (.ref f6) = true)
    (a7 : PySem.W.nsIn K mainGlobals "need_row_of" = some (some (.ref f7)))
    (l7 : K.lookup f7 = some ⟨oc7, od7, .func (PySem.W.fnOf "need_row_of" "need_row_of" (defArgs s_need_row_of) (defBody s_need_row_of) (defScope s_need_row_of) .none kV7 dc7 pm7 an7 cd7 ct7), sl7⟩)
    (c7 : PySem.W.codeIn K cd7 "need_row_of" = true)
    (k7 : PySem.W.keepIn K (.ref f7) = true)
    (a8 : PySem.W.nsIn K mainGlobals "index_of" = some (some (.ref f8)))
    (l8 : K.lookup f8 = some ⟨oc8, od8, .func (PySem.W.fnOf "index_of" "index_of" (defArgs s_index_of) (defBody s_index_of) (defScope s_index_of) .none kV8 dc8 pm8 an8 cd8 ct8), sl8⟩)
    (c8 : PySem.W.codeIn K cd8 "index_of" = true)
    (k8 : PySem.W.keepIn K (.ref f8) = true)
    (a9 : PySem.W.nsIn K mainGlobals "indexes_by_ones" = some (some (.ref f9)))
    (l9 : K.lookup f9 = some ⟨oc9, od9, .func (PySem.W.fnOf "indexes_by_ones" "indexes_by_ones" (defArgs s_indexes_by_ones) (defBody s_indexes_by_ones) (defScope s_indexes_by_ones) .none kV9 dc9 pm9 an9 cd9 ct9), sl9⟩)
    (c9 : PySem.W.codeIn K cd9 "indexes_by_ones" = true)
    (k9 : PySem.W.keepIn K (.ref f9) = true)
    (a10 : PySem.W.nsIn K mainGlobals "is_factor" = some (some (.ref f10)))
    (l10 : K.lookup f10 = some ⟨oc10, od10, .func (PySem.W.fnOf "is_factor" "is_factor" (defArgs s_is_factor) (defBody s_is_factor) (defScope s_is_factor) .none kV10 dc10 pm10 an10 cd10 ct10), sl10⟩)
    (c10 : PySem.W.codeIn K cd10 "is_factor" = true)
    (k10 : PySem.W.keepIn K (.ref f10) = true)
    (a11 : PySem.W.nsIn K mainGlobals "is_term" = some (some (.ref f11)))
    (l11 : K.lookup f11 = some ⟨oc11, od11, .func (PySem.W.fnOf "is_term" "is_term" (defArgs s_is_term) (defBody s_is_term) (defScope s_is_term) .none kV11 dc11 pm11 an11 cd11 ct11), sl11⟩)
    (c11 : PySem.W.codeIn K cd11 "is_term" = true)
    (k11 : PySem.W.keepIn K (.ref f11) = true)
    (a12 : PySem.W.nsIn K mainGlobals "need_bill" = some (some (.ref f12)))
    (l12 : K.lookup f12 = some ⟨oc12, od12, .func (PySem.W.fnOf "need_bill" "need_bill" (defArgs s_need_bill) (defBody s_need_bill) (defScope s_need_bill) .none kV12 dc12 pm12 an12 cd12 ct12), sl12⟩)
    (c12 : PySem.W.codeIn K cd12 "need_bill" = true)
    (k12 : PySem.W.keepIn K (.ref f12) = true)
    (a13 : PySem.W.nsIn K mainGlobals "width_of" = some (some (.ref f13)))
    (l13 : K.lookup f13 = some ⟨oc13, od13, .func (PySem.W.fnOf "width_of" "width_of" (defArgs s_width_of) (defBody s_width_of) (defScope s_width_of) .none kV13 dc13 pm13 an13 cd13 ct13), sl13⟩)
    (c13 : PySem.W.codeIn K cd13 "width_of" = true)
    (k13 : PySem.W.keepIn K (.ref f13) = true)
    (a14 : PySem.W.nsIn K mainGlobals "last_pay" = some (some (.ref f14)))
    (l14 : K.lookup f14 = some ⟨oc14, od14, .func (PySem.W.fnOf "last_pay" "last_pay" (defArgs s_last_pay) (defBody s_last_pay) (defScope s_last_pay) .none kV14 dc14 pm14 an14 cd14 ct14), sl14⟩)
    (c14 : PySem.W.codeIn K cd14 "last_pay" = true)
    (k14 : PySem.W.keepIn K (.ref f14) = true)
    (a15 : PySem.W.nsIn K mainGlobals "pays_of" = some (some (.ref f15)))
    (l15 : K.lookup f15 = some ⟨oc15, od15, .func (PySem.W.fnOf "pays_of" "pays_of" (defArgs s_pays_of) (defBody s_pays_of) (defScope s_pays_of) .none kV15 dc15 pm15 an15 cd15 ct15), sl15⟩)
    (c15 : PySem.W.codeIn K cd15 "pays_of" = true)
    (k15 : PySem.W.keepIn K (.ref f15) = true)
    (a16 : PySem.W.nsIn K mainGlobals "signs_of" = some (some (.ref f16)))
    (l16 : K.lookup f16 = some ⟨oc16, od16, .func (PySem.W.fnOf "signs_of" "signs_of" (defArgs s_signs_of) (defBody s_signs_of) (defScope s_signs_of) .none kV16 dc16 pm16 an16 cd16 ct16), sl16⟩)
    (c16 : PySem.W.codeIn K cd16 "signs_of" = true)
    (k16 : PySem.W.keepIn K (.ref f16) = true)
    (a17 : PySem.W.nsIn K mainGlobals "ones_of" = some (some (.ref f17)))
    (l17 : K.lookup f17 = some ⟨oc17, od17, .func (PySem.W.fnOf "ones_of" "ones_of" (defArgs s_ones_of) (defBody s_ones_of) (defScope s_ones_of) .none kV17 dc17 pm17 an17 cd17 ct17), sl17⟩)
    (c17 : PySem.W.codeIn K cd17 "ones_of" = true)
    (k17 : PySem.W.keepIn K (.ref f17) = true)
    (a18 : PySem.W.nsIn K mainGlobals "term_pays" = some (some (.ref f18)))
    (l18 : K.lookup f18 = some ⟨oc18, od18, .func (PySem.W.fnOf "term_pays" "term_pays" (defArgs s_term_pays) (defBody s_term_pays) (defScope s_term_pays) .none kV18 dc18 pm18 an18 cd18 ct18), sl18⟩)
    (c18 : PySem.W.codeIn K cd18 "term_pays" = true)
    (k18 : PySem.W.keepIn K (.ref f18) = true)
    (a19 : PySem.W.nsIn K mainGlobals "bit_pays" = some (some (.ref f19)))
    (l19 : K.lookup f19 = some ⟨oc19, od19, .func (PySem.W.fnOf "bit_pays" "bit_pays" (defArgs s_bit_pays) (defBody s_bit_pays) (defScope s_bit_pays) .none kV19 dc19 pm19 an19 cd19 ct19), sl19⟩)
    (c19 : PySem.W.codeIn K cd19 "bit_pays" = true)
    (k19 : PySem.W.keepIn K (.ref f19) = true)
    (a20 : PySem.W.nsIn K mainGlobals "pays_of_firsts" = some (some (.ref f20)))
    (l20 : K.lookup f20 = some ⟨oc20, od20, .func (PySem.W.fnOf "pays_of_firsts" "pays_of_firsts" (defArgs s_pays_of_firsts) (defBody s_pays_of_firsts) (defScope s_pays_of_firsts) .none kV20 dc20 pm20 an20 cd20 ct20), sl20⟩)
    (c20 : PySem.W.codeIn K cd20 "pays_of_firsts" = true)
    (k20 : PySem.W.keepIn K (.ref f20) = true)
    (a21 : PySem.W.nsIn K mainGlobals "pays_of_seconds" = some (some (.ref f21)))
    (l21 : K.lookup f21 = some ⟨oc21, od21, .func (PySem.W.fnOf "pays_of_seconds" "pays_of_seconds" (defArgs s_pays_of_seconds) (defBody s_pays_of_seconds) (defScope s_pays_of_seconds) .none kV21 dc21 pm21 an21 cd21 ct21), sl21⟩)
    (c21 : PySem.W.codeIn K cd21 "pays_of_seconds" = true)
    (k21 : PySem.W.keepIn K (.ref f21) = true)
    (a22 : PySem.W.nsIn K mainGlobals "pair_pays" = some (some (.ref f22)))
    (l22 : K.lookup f22 = some ⟨oc22, od22, .func (PySem.W.fnOf "pair_pays" "pair_pays" (defArgs s_pair_pays) (defBody s_pair_pays) (defScope s_pair_pays) .none kV22 dc22 pm22 an22 cd22 ct22), sl22⟩)
    (c22 : PySem.W.codeIn K cd22 "pair_pays" = true)
    (k22 : PySem.W.keepIn K (.ref f22) = true)
    (a23 : PySem.W.nsIn K mainGlobals "like_couples" = some (some (.ref f23)))
    (l23 : K.lookup f23 = some ⟨oc23, od23, .func (PySem.W.fnOf "like_couples" "like_couples" (defArgs s_like_couples) (defBody s_like_couples) (defScope s_like_couples) .none kV23 dc23 pm23 an23 cd23 ct23), sl23⟩)
    (c23 : PySem.W.codeIn K cd23 "like_couples" = true)
    (k23 : PySem.W.keepIn K (.ref f23) = true)
    (a24 : PySem.W.nsIn K mainGlobals "paid_at" = some (some (.ref f24)))
    (l24 : K.lookup f24 = some ⟨oc24, od24, .func (PySem.W.fnOf "paid_at" "paid_at" (defArgs s_paid_at) (defBody s_paid_at) (defScope s_paid_at) .none kV24 dc24 pm24 an24 cd24 ct24), sl24⟩)
    (c24 : PySem.W.codeIn K cd24 "paid_at" = true)
    (k24 : PySem.W.keepIn K (.ref f24) = true)
    (a25 : PySem.W.nsIn K mainGlobals "more_by" = some (some (.ref f25)))
    (l25 : K.lookup f25 = some ⟨oc25, od25, .func (PySem.W.fnOf "more_by" "more_by" (defArgs s_more_by) (defBody s_more_by) (defScope s_more_by) .none kV25 dc25 pm25 an25 cd25 ct25), sl25⟩)
    (c25 : PySem.W.codeIn K cd25 "more_by" = true)
    (k25 : PySem.W.keepIn K (.ref f25) = true)
    (a26 : PySem.W.nsIn K mainGlobals "heights_ahead" = some (some (.ref f26)))
    (l26 : K.lookup f26 = some ⟨oc26, od26, .func (PySem.W.fnOf "heights_ahead" "heights_ahead" (defArgs s_heights_ahead) (defBody s_heights_ahead) (defScope s_heights_ahead) .none kV26 dc26 pm26 an26 cd26 ct26), sl26⟩)
    (c26 : PySem.W.codeIn K cd26 "heights_ahead" = true)
    (k26 : PySem.W.keepIn K (.ref f26) = true)
    (a27 : PySem.W.nsIn K mainGlobals "layers_of" = some (some (.ref f27)))
    (l27 : K.lookup f27 = some ⟨oc27, od27, .func (PySem.W.fnOf "layers_of" "layers_of" (defArgs s_layers_of) (defBody s_layers_of) (defScope s_layers_of) .none kV27 dc27 pm27 an27 cd27 ct27), sl27⟩)
    (c27 : PySem.W.codeIn K cd27 "layers_of" = true)
    (k27 : PySem.W.keepIn K (.ref f27) = true)
    (a28 : PySem.W.nsIn K mainGlobals "further_bits" = some (some (.ref f28)))
    (l28 : K.lookup f28 = some ⟨oc28, od28, .func (PySem.W.fnOf "further_bits" "further_bits" (defArgs s_further_bits) (defBody s_further_bits) (defScope s_further_bits) .none kV28 dc28 pm28 an28 cd28 ct28), sl28⟩)
    (c28 : PySem.W.codeIn K cd28 "further_bits" = true)
    (k28 : PySem.W.keepIn K (.ref f28) = true)
    (a29 : PySem.W.nsIn K mainGlobals "best_single" = some (some (.ref f29)))
    (l29 : K.lookup f29 = some ⟨oc29, od29, .func (PySem.W.fnOf "best_single" "best_single" (defArgs s_best_single) (defBody s_best_single) (defScope s_best_single) .none kV29 dc29 pm29 an29 cd29 ct29), sl29⟩)
    (c29 : PySem.W.codeIn K cd29 "best_single" = true)
    (k29 : PySem.W.keepIn K (.ref f29) = true)
    (a30 : PySem.W.nsIn K mainGlobals "raised" = some (some (.ref f30)))
    (l30 : K.lookup f30 = some ⟨oc30, od30, .func (PySem.W.fnOf "raised" "raised" (defArgs s_raised) (defBody s_raised) (defScope s_raised) .none kV30 dc30 pm30 an30 cd30 ct30), sl30⟩)
    (c30 : PySem.W.codeIn K cd30 "raised" = true)
    (k30 : PySem.W.keepIn K (.ref f30) = true)
    (a31 : PySem.W.nsIn K mainGlobals "trail" = some (some (.ref f31)))
    (l31 : K.lookup f31 = some ⟨oc31, od31, .func (PySem.W.fnOf "trail" "trail" (defArgs s_trail) (defBody s_trail) (defScope s_trail) .none kV31 dc31 pm31 an31 cd31 ct31), sl31⟩)
    (c31 : PySem.W.codeIn K cd31 "trail" = true)
    (k31 : PySem.W.keepIn K (.ref f31) = true)
    (a32 : PySem.W.nsIn K mainGlobals "ring_on" = some (some (.ref f32)))
    (l32 : K.lookup f32 = some ⟨oc32, od32, .func (PySem.W.fnOf "ring_on" "ring_on" (defArgs s_ring_on) (defBody s_ring_on) (defScope s_ring_on) .none kV32 dc32 pm32 an32 cd32 ct32), sl32⟩)
    (c32 : PySem.W.codeIn K cd32 "ring_on" = true)
    (k32 : PySem.W.keepIn K (.ref f32) = true)
    (a33 : PySem.W.nsIn K mainGlobals "ring_of_one" = some (some (.ref f33)))
    (l33 : K.lookup f33 = some ⟨oc33, od33, .func (PySem.W.fnOf "ring_of_one" "ring_of_one" (defArgs s_ring_of_one) (defBody s_ring_of_one) (defScope s_ring_of_one) .none kV33 dc33 pm33 an33 cd33 ct33), sl33⟩)
    (c33 : PySem.W.codeIn K cd33 "ring_of_one" = true)
    (k33 : PySem.W.keepIn K (.ref f33) = true)
    (a34 : PySem.W.nsIn K mainGlobals "steepest" = some (some (.ref f34)))
    (l34 : K.lookup f34 = some ⟨oc34, od34, .func (PySem.W.fnOf "steepest" "steepest" (defArgs s_steepest) (defBody s_steepest) (defScope s_steepest) .none kV34 dc34 pm34 an34 cd34 ct34), sl34⟩)
    (c34 : PySem.W.codeIn K cd34 "steepest" = true)
    (k34 : PySem.W.keepIn K (.ref f34) = true)
    (a35 : PySem.W.nsIn K mainGlobals "climb" = some (some (.ref f35)))
    (l35 : K.lookup f35 = some ⟨oc35, od35, .func (PySem.W.fnOf "climb" "climb" (defArgs s_climb) (defBody s_climb) (defScope s_climb) .none kV35 dc35 pm35 an35 cd35 ct35), sl35⟩)
    (c35 : PySem.W.codeIn K cd35 "climb" = true)
    (k35 : PySem.W.keepIn K (.ref f35) = true)
    (a36 : PySem.W.nsIn K mainGlobals "greatest_of" = some (some (.ref f36)))
    (l36 : K.lookup f36 = some ⟨oc36, od36, .func (PySem.W.fnOf "greatest_of" "greatest_of" (defArgs s_greatest_of) (defBody s_greatest_of) (defScope s_greatest_of) .none kV36 dc36 pm36 an36 cd36 ct36), sl36⟩)
    (c36 : PySem.W.codeIn K cd36 "greatest_of" = true)
    (k36 : PySem.W.keepIn K (.ref f36) = true)
    (a37 : PySem.W.nsIn K mainGlobals "best_walk" = some (some (.ref f37)))
    (l37 : K.lookup f37 = some ⟨oc37, od37, .func (PySem.W.fnOf "best_walk" "best_walk" (defArgs s_best_walk) (defBody s_best_walk) (defScope s_best_walk) .none kV37 dc37 pm37 an37 cd37 ct37), sl37⟩)
    (c37 : PySem.W.codeIn K cd37 "best_walk" = true)
    (k37 : PySem.W.keepIn K (.ref f37) = true)
    (a38 : PySem.W.nsIn K mainGlobals "need_kind" = some (some (.ref f38)))
    (l38 : K.lookup f38 = some ⟨oc38, od38, .func (PySem.W.fnOf "need_kind" "need_kind" (defArgs s_need_kind) (defBody s_need_kind) (defScope s_need_kind) .none kV38 dc38 pm38 an38 cd38 ct38), sl38⟩)
    (c38 : PySem.W.codeIn K cd38 "need_kind" = true)
    (k38 : PySem.W.keepIn K (.ref f38) = true)
    (a39 : PySem.W.nsIn K mainGlobals "need_worse" = some (some (.ref f39)))
    (l39 : K.lookup f39 = some ⟨oc39, od39, .func (PySem.W.fnOf "need_worse" "need_worse" (defArgs s_need_worse) (defBody s_need_worse) (defScope s_need_worse) .none kV39 dc39 pm39 an39 cd39 ct39), sl39⟩)
    (c39 : PySem.W.codeIn K cd39 "need_worse" = true)
    (k39 : PySem.W.keepIn K (.ref f39) = true)
    (a40 : PySem.W.nsIn K mainGlobals "gain" = some (some (.ref f40)))
    (l40 : K.lookup f40 = some ⟨oc40, od40, .func (PySem.W.fnOf "gain" "gain" (defArgs s_gain) (defBody s_gain) (defScope s_gain) .none kV40 dc40 pm40 an40 cd40 ct40), sl40⟩)
    (c40 : PySem.W.codeIn K cd40 "gain" = true)
    (k40 : PySem.W.keepIn K (.ref f40) = true)
    (a41 : PySem.W.nsIn K mainGlobals "greatest_gain" = some (some (.ref f41)))
    (l41 : K.lookup f41 = some ⟨oc41, od41, .func (PySem.W.fnOf "greatest_gain" "greatest_gain" (defArgs s_greatest_gain) (defBody s_greatest_gain) (defScope s_greatest_gain) .none kV41 dc41 pm41 an41 cd41 ct41), sl41⟩)
    (c41 : PySem.W.codeIn K cd41 "greatest_gain" = true)
    (k41 : PySem.W.keepIn K (.ref f41) = true)
    (a42 : PySem.W.nsIn K mainGlobals "rows_of" = some (some (.ref f42)))
    (l42 : K.lookup f42 = some ⟨oc42, od42, .func (PySem.W.fnOf "rows_of" "rows_of" (defArgs s_rows_of) (defBody s_rows_of) (defScope s_rows_of) .none kV42 dc42 pm42 an42 cd42 ct42), sl42⟩)
    (c42 : PySem.W.codeIn K cd42 "rows_of" = true)
    (k42 : PySem.W.keepIn K (.ref f42) = true)
    (a43 : PySem.W.nsIn K mainGlobals "rows_of_gain" = some (some (.ref f43)))
    (l43 : K.lookup f43 = some ⟨oc43, od43, .func (PySem.W.fnOf "rows_of_gain" "rows_of_gain" (defArgs s_rows_of_gain) (defBody s_rows_of_gain) (defScope s_rows_of_gain) .none kV43 dc43 pm43 an43 cd43 ct43), sl43⟩)
    (c43 : PySem.W.codeIn K cd43 "rows_of_gain" = true)
    (k43 : PySem.W.keepIn K (.ref f43) = true)
    (a44 : PySem.W.nsIn K mainGlobals "rows_of_single" = some (some (.ref f44)))
    (l44 : K.lookup f44 = some ⟨oc44, od44, .func (PySem.W.fnOf "rows_of_single" "rows_of_single" (defArgs s_rows_of_single) (defBody s_rows_of_single) (defScope s_rows_of_single) .none kV44 dc44 pm44 an44 cd44 ct44), sl44⟩)
    (c44 : PySem.W.codeIn K cd44 "rows_of_single" = true)
    (k44 : PySem.W.keepIn K (.ref f44) = true)
    (a45 : PySem.W.nsIn K mainGlobals "gain_rows" = some (some (.ref f45)))
    (l45 : K.lookup f45 = some ⟨oc45, od45, .func (PySem.W.fnOf "gain_rows" "gain_rows" (defArgs s_gain_rows) (defBody s_gain_rows) (defScope s_gain_rows) .none kV45 dc45 pm45 an45 cd45 ct45), sl45⟩)
    (c45 : PySem.W.codeIn K cd45 "gain_rows" = true)
    (k45 : PySem.W.keepIn K (.ref f45) = true)
    (a46 : PySem.W.nsIn K mainGlobals "does_pay" = some (some (.ref f46)))
    (l46 : K.lookup f46 = some ⟨oc46, od46, .func (PySem.W.fnOf "does_pay" "does_pay" (defArgs s_does_pay) (defBody s_does_pay) (defScope s_does_pay) .none kV46 dc46 pm46 an46 cd46 ct46), sl46⟩)
    (c46 : PySem.W.codeIn K cd46 "does_pay" = true)
    (k46 : PySem.W.keepIn K (.ref f46) = true)
    (a47 : PySem.W.nsIn K mainGlobals "_law_begun" = some (some (.ref f47)))
    (l47 : K.lookup f47 = some ⟨oc47, od47, .func (PySem.W.fnOf "_law_begun" "_law_begun" (defArgs s__law_begun) (defBody s__law_begun) (defScope s__law_begun) .none kV47 dc47 pm47 an47 cd47 ct47), sl47⟩)
    (c47 : PySem.W.codeIn K cd47 "_law_begun" = true)
    (k47 : PySem.W.keepIn K (.ref f47) = true)
    (a48 : PySem.W.nsIn K mainGlobals "_law_draw" = some (some (.ref f48)))
    (l48 : K.lookup f48 = some ⟨oc48, od48, .func (PySem.W.fnOf "_law_draw" "_law_draw" (defArgs s__law_draw) (defBody s__law_draw) (defScope s__law_draw) .none kV48 dc48 pm48 an48 cd48 ct48), sl48⟩)
    (c48 : PySem.W.codeIn K cd48 "_law_draw" = true)
    (k48 : PySem.W.keepIn K (.ref f48) = true)
    (a49 : PySem.W.nsIn K mainGlobals "_law_of" = some (some (.ref f49)))
    (l49 : K.lookup f49 = some ⟨oc49, od49, .func (PySem.W.fnOf "_law_of" "_law_of" (defArgs s__law_of) (defBody s__law_of) (defScope s__law_of) .none kV49 dc49 pm49 an49 cd49 ct49), sl49⟩)
    (c49 : PySem.W.codeIn K cd49 "_law_of" = true)
    (k49 : PySem.W.keepIn K (.ref f49) = true)
    (a50 : PySem.W.nsIn K mainGlobals "_law_weights" = some (some (.ref f50)))
    (l50 : K.lookup f50 = some ⟨oc50, od50, .func (PySem.W.fnOf "_law_weights" "_law_weights" (defArgs s__law_weights) (defBody s__law_weights) (defScope s__law_weights) .none kV50 dc50 pm50 an50 cd50 ct50), sl50⟩)
    (c50 : PySem.W.codeIn K cd50 "_law_weights" = true)
    (k50 : PySem.W.keepIn K (.ref f50) = true)
    (a51 : PySem.W.nsIn K mainGlobals "_law_drawn_bill" = some (some (.ref f51)))
    (l51 : K.lookup f51 = some ⟨oc51, od51, .func (PySem.W.fnOf "_law_drawn_bill" "_law_drawn_bill" (defArgs s__law_drawn_bill) (defBody s__law_drawn_bill) (defScope s__law_drawn_bill) .none kV51 dc51 pm51 an51 cd51 ct51), sl51⟩)
    (c51 : PySem.W.codeIn K cd51 "_law_drawn_bill" = true)
    (k51 : PySem.W.keepIn K (.ref f51) = true)
    (a52 : PySem.W.nsIn K mainGlobals "_law_tame_bill" = some (some (.ref f52)))
    (l52 : K.lookup f52 = some ⟨oc52, od52, .func (PySem.W.fnOf "_law_tame_bill" "_law_tame_bill" (defArgs s__law_tame_bill) (defBody s__law_tame_bill) (defScope s__law_tame_bill) .none kV52 dc52 pm52 an52 cd52 ct52), sl52⟩)
    (c52 : PySem.W.codeIn K cd52 "_law_tame_bill" = true)
    (k52 : PySem.W.keepIn K (.ref f52) = true)
    (a53 : PySem.W.nsIn K mainGlobals "_law_drawn_row" = some (some (.ref f53)))
    (l53 : K.lookup f53 = some ⟨oc53, od53, .func (PySem.W.fnOf "_law_drawn_row" "_law_drawn_row" (defArgs s__law_drawn_row) (defBody s__law_drawn_row) (defScope s__law_drawn_row) .none kV53 dc53 pm53 an53 cd53 ct53), sl53⟩)
    (c53 : PySem.W.codeIn K cd53 "_law_drawn_row" = true)
    (k53 : PySem.W.keepIn K (.ref f53) = true)
    (a54 : PySem.W.nsIn K mainGlobals "_law_index" = some (some (.ref f54)))
    (l54 : K.lookup f54 = some ⟨oc54, od54, .func (PySem.W.fnOf "_law_index" "_law_index" (defArgs s__law_index) (defBody s__law_index) (defScope s__law_index) .none kV54 dc54 pm54 an54 cd54 ct54), sl54⟩)
    (c54 : PySem.W.codeIn K cd54 "_law_index" = true)
    (k54 : PySem.W.keepIn K (.ref f54) = true)
    (a55 : PySem.W.nsIn K mainGlobals "_law_wide" = some (some (.ref f55)))
    (l55 : K.lookup f55 = some ⟨oc55, od55, .func (PySem.W.fnOf "_law_wide" "_law_wide" (defArgs s__law_wide) (defBody s__law_wide) (defScope s__law_wide) .none kV55 dc55 pm55 an55 cd55 ct55), sl55⟩)
    (c55 : PySem.W.codeIn K cd55 "_law_wide" = true)
    (k55 : PySem.W.keepIn K (.ref f55) = true)
    (a56 : PySem.W.nsIn K mainGlobals "_law_paid" = some (some (.ref f56)))
    (l56 : K.lookup f56 = some ⟨oc56, od56, .func (PySem.W.fnOf "_law_paid" "_law_paid" (defArgs s__law_paid) (defBody s__law_paid) (defScope s__law_paid) .none kV56 dc56 pm56 an56 cd56 ct56), sl56⟩)
    (c56 : PySem.W.codeIn K cd56 "_law_paid" = true)
    (k56 : PySem.W.keepIn K (.ref f56) = true)
    (a57 : PySem.W.nsIn K mainGlobals "_law_bit_rows" = some (some (.ref f57)))
    (l57 : K.lookup f57 = some ⟨oc57, od57, .func (PySem.W.fnOf "_law_bit_rows" "_law_bit_rows" (defArgs s__law_bit_rows) (defBody s__law_bit_rows) (defScope s__law_bit_rows) .none kV57 dc57 pm57 an57 cd57 ct57), sl57⟩)
    (c57 : PySem.W.codeIn K cd57 "_law_bit_rows" = true)
    (k57 : PySem.W.keepIn K (.ref f57) = true)
    (a58 : PySem.W.nsIn K mainGlobals "_law_gains" = some (some (.ref f58)))
    (l58 : K.lookup f58 = some ⟨oc58, od58, .func (PySem.W.fnOf "_law_gains" "_law_gains" (defArgs s__law_gains) (defBody s__law_gains) (defScope s__law_gains) .none kV58 dc58 pm58 an58 cd58 ct58), sl58⟩)
    (c58 : PySem.W.codeIn K cd58 "_law_gains" = true)
    (k58 : PySem.W.keepIn K (.ref f58) = true)
    (a59 : PySem.W.nsIn K mainGlobals "_law_results_right" = some (some (.ref f59)))
    (l59 : K.lookup f59 = some ⟨oc59, od59, .func (PySem.W.fnOf "_law_results_right" "_law_results_right" (defArgs s__law_results_right) (defBody s__law_results_right) (defScope s__law_results_right) .none kV59 dc59 pm59 an59 cd59 ct59), sl59⟩)
    (c59 : PySem.W.codeIn K cd59 "_law_results_right" = true)
    (k59 : PySem.W.keepIn K (.ref f59) = true)
    (a60 : PySem.W.nsIn K mainGlobals "_law_right" = some (some (.ref f60)))
    (l60 : K.lookup f60 = some ⟨oc60, od60, .func (PySem.W.fnOf "_law_right" "_law_right" (defArgs s__law_right) (defBody s__law_right) (defScope s__law_right) .none kV60 dc60 pm60 an60 cd60 ct60), sl60⟩)
    (c60 : PySem.W.codeIn K cd60 "_law_right" = true)
    (k60 : PySem.W.keepIn K (.ref f60) = true)
    (a61 : PySem.W.nsIn K mainGlobals "law" = some (some (.ref f61)))
    (l61 : K.lookup f61 = some ⟨oc61, od61, .func (PySem.W.fnOf "law" "law" (defArgs s_law) (defBody s_law) (defScope s_law) .none kV61 dc61 pm61 an61 cd61 ct61), sl61⟩)
    (c61 : PySem.W.codeIn K cd61 "law" = true)
    (k61 : PySem.W.keepIn K (.ref f61) = true)
    (z0 : PySem.W.nsIn K mainGlobals "divmod" = some none)
    (z1 : PySem.W.nsIn K mainGlobals "enumerate" = some none)
    (z2 : PySem.W.nsIn K mainGlobals "int" = some none)
    (z3 : PySem.W.nsIn K mainGlobals "isinstance" = some none)
    (z4 : PySem.W.nsIn K mainGlobals "len" = some none)
    (z5 : PySem.W.nsIn K mainGlobals "list" = some none)
    (z6 : PySem.W.nsIn K mainGlobals "max" = some none)
    (z7 : PySem.W.nsIn K mainGlobals "min" = some none)
    (z8 : PySem.W.nsIn K mainGlobals "range" = some none)
    (z9 : PySem.W.nsIn K mainGlobals "repr" = some none)
    (z10 : PySem.W.nsIn K mainGlobals "reversed" = some none)
    (z11 : PySem.W.nsIn K mainGlobals "sorted" = some none)
    (z12 : PySem.W.nsIn K mainGlobals "str" = some none)
    (z13 : PySem.W.nsIn K mainGlobals "sum" = some none)
    (z14 : PySem.W.nsIn K mainGlobals "tuple" = some none)
    (z15 : PySem.W.nsIn K mainGlobals "zip" = some none)
    (v0 : PySem.W.nsIn K mainGlobals "BITS" = some (some u0))
    (w0 : krvB K (.tup [.int 0, .int 1]) u0 = true)
    (v1 : PySem.W.nsIn K mainGlobals "GREATEST_FACTOR" = some (some (.int 50 t1)))
    (v2 : PySem.W.nsIn K mainGlobals "GREATEST_RESULT" = some (some (.int 1000000 t2)))
    (v3 : PySem.W.nsIn K mainGlobals "GREATEST_WEIGHT" = some (some (.int 20 t3)))
    (v4 : PySem.W.nsIn K mainGlobals "MORE_THAN_BITS" = some (some (.int 16 t4)))
    (v5 : PySem.W.nsIn K mainGlobals "MOST_RESULTS" = some (some (.int 200 t5)))
    (v6 : PySem.W.nsIn K mainGlobals "MOST_TERMS" = some (some (.int 2 t6)))
    (v7 : PySem.W.nsIn K mainGlobals "MOST_WEIGHTS" = some (some (.int 6 t7)))
    (v8 : PySem.W.nsIn K mainGlobals "OF_BITS" = some (some (.int 2 t8)))
    (v9 : PySem.W.nsIn K mainGlobals "OF_PAIRS" = some (some (.int 3 t9)))
    (v10 : PySem.W.nsIn K mainGlobals "PAIRS" = some (some u10))
    (w10 : krvB K (.tup [.tup [.int 0, .int 0], .tup [.int 0, .int 1], .tup [.int 1, .int 1]]) u10 = true)
    (hden : ∀ ns : List Int, ns.length ≤ 63 → ∃ s', g_law [.sq (ns.map .int)] [] = .ok (.bl true) s')
    : ∃ (Γ : Ct) (fd : FuncData) (den : Fn) (tabs : List Tb), Γ.K = K ∧ (∀ (i : Nat) (t : Tb), tabs[i]? = some t → Γ.tb i = t.T) ∧ (Ts tabs).Nodup ∧ (∀ t ∈ tabs, ∃ y ∈ ([] : List Str), PySem.W.tabIn Γ.K y = some (t.c, t.T) ∧ Γ.K.lookup t.T = none) ∧ tabs.map (·.q) = [] ∧ (∀ (s : Shared) (u : Value), BindsTo s fd ⟨[u], []⟩ [("script", u)]) ∧
      (∀ base : Heap, Γ.K.In base → base.Ns mainGlobals mg → (∀ t ∈ tabs, LamX.TabB base mg t.c t.T) → FnG l.prog w mg base Γ 9 fa fd ["script"] den) ∧
      ∀ ns : List Int, ns.length ≤ 63 → ∃ s', den [.sq (ns.map .int)] (tabsOf 0 (([] : List Str).map fun q => ⟨0, 0, q⟩)) = .ok (.bl true) s' := by
  have e := hfa.symm.trans (PySem.W.mg_of X G a61)
  cases e
  let Γ : Ct := ⟨K, fun n => ([0, 0, 0, 0, 0, 0, 0, 0, 0, 0, 0, 0] : List Addr).getD n 0, fun n => ([] : List Addr).getD n 0⟩
  have n : Ns Γ mg := {
    n_divmod := PySem.W.mg_none_of X G z0
    n_enumerate := PySem.W.mg_none_of X G z1
    n_int := PySem.W.mg_none_of X G z2
    n_isinstance := PySem.W.mg_none_of X G z3
    n_len := PySem.W.mg_none_of X G z4
    n_list := PySem.W.mg_none_of X G z5
    n_max := PySem.W.mg_none_of X G z6
    n_min := PySem.W.mg_none_of X G z7
    n_range := PySem.W.mg_none_of X G z8
    n_repr := PySem.W.mg_none_of X G z9
    n_reversed := PySem.W.mg_none_of X G z10
    n_sorted := PySem.W.mg_none_of X G z11
    n_str := PySem.W.mg_none_of X G z12
    n_sum := PySem.W.mg_none_of X G z13
    n_tuple := PySem.W.mg_none_of X G z14
    n_zip := PySem.W.mg_none_of X G z15
    c_BITS := ⟨_, PySem.W.mg_of X G v0, krvB_ok _ w0⟩
    c_GREATEST_FACTOR := ⟨_, PySem.W.mg_of X G v1⟩
    c_GREATEST_RESULT := ⟨_, PySem.W.mg_of X G v2⟩
    c_GREATEST_WEIGHT := ⟨_, PySem.W.mg_of X G v3⟩
    c_MORE_THAN_BITS := ⟨_, PySem.W.mg_of X G v4⟩
    c_MOST_RESULTS := ⟨_, PySem.W.mg_of X G v5⟩
    c_MOST_TERMS := ⟨_, PySem.W.mg_of X G v6⟩
    c_MOST_WEIGHTS := ⟨_, PySem.W.mg_of X G v7⟩
    c_OF_BITS := ⟨_, PySem.W.mg_of X G v8⟩
    c_OF_PAIRS := ⟨_, PySem.W.mg_of X G v9⟩
    c_PAIRS := ⟨_, PySem.W.mg_of X G v10, krvB_ok _ w10⟩
    }
  let tabs : List Tb := []
  refine ⟨Γ, PySem.W.fnOf "law" "law" (defArgs s_law) (defBody s_law) (defScope s_law) .none kV61 dc61 pm61 an61 cd61 ct61, g_law, tabs, rfl, fun i t h => ?_, ?_, fun t h => ?_, rfl, fun s v => .of_eq rfl, fun base _ _ TB => ?_, hden⟩
  · match i, h with
    | n, h => cases h
  · simp [Ts, tabs]
  · simp only [tabs, List.mem_cons, List.mem_nil_iff, or_false] at h
  have F0 := fun_mk (st := s_is_int) l0 c0 k0
  have C0 : Cal l.prog w mg base Γ 1 "is_int" ["thing"] g_is_int := ⟨_, _, ok_is_int n F0, PySem.W.mg_of X G a0, k0, F0.binds fun _ _ _ _ _ _ us hl => match us, hl with | [_], _ => rfl⟩
  have F1 := fun_mk (st := s_is_int_within) l1 c1 k1
  have C1 : Cal l.prog w mg base Γ 2 "is_int_within" ["thing", "least", "most"] g_is_int_within := ⟨_, _, ok_is_int_within n F1 C0, PySem.W.mg_of X G a1, k1, F1.binds fun _ _ _ _ _ _ us hl => match us, hl with | [_, _, _], _ => rfl⟩
  have F2 := fun_mk (st := s_is_tuple) l2 c2 k2
  have C2 : Cal l.prog w mg base Γ 1 "is_tuple" ["thing", "least", "most"] g_is_tuple := ⟨_, _, ok_is_tuple n F2, PySem.W.mg_of X G a2, k2, F2.binds fun _ _ _ _ _ _ us hl => match us, hl with | [_, _, _], _ => rfl⟩
  have F3 := fun_mk (st := s_first_outside) l3 c3 k3
  have C3 : Cal l.prog w mg base Γ 1 "first_outside" ["things", "least", "most"] g_first_outside := ⟨_, _, ok_first_outside n F3, PySem.W.mg_of X G a3, k3, F3.binds fun _ _ _ _ _ _ us hl => match us, hl with | [_, _, _], _ => rfl⟩
  have F4 := fun_mk (st := s_need_rule) l4 c4 k4
  have C4 : Cal l.prog w mg base Γ 2 "need_rule" ["thing"] g_need_rule := ⟨_, _, ok_need_rule n F4 C2 C3, PySem.W.mg_of X G a4, k4, F4.binds fun _ _ _ _ _ _ us hl => match us, hl with | [_], _ => rfl⟩
  have F5 := fun_mk (st := s_is_rule) l5 c5 k5
  have C5 : Cal l.prog w mg base Γ 3 "is_rule" ["thing"] g_is_rule := ⟨_, _, ok_is_rule n F5 C4, PySem.W.mg_of X G a5, k5, F5.binds fun _ _ _ _ _ _ us hl => match us, hl with | [_], _ => rfl⟩
  have F6 := fun_mk (st := s_need_row) l6 c6 k6
  have C6 : Cal l.prog w mg base Γ 2 "need_row" ["thing"] g_need_row := ⟨_, _, ok_need_row n F6 C2 C3, PySem.W.mg_of X G a6, k6, F6.binds fun _ _ _ _ _ _ us hl => match us, hl with | [_], _ => rfl⟩
  have F7 := fun_mk (st := s_need_row_of) l7 c7 k7
  have C7 : Cal l.prog w mg base Γ 3 "need_row_of" ["thing", "least"] g_need_row_of := ⟨_, _, ok_need_row_of n F7 C6, PySem.W.mg_of X G a7, k7, F7.binds fun _ _ _ _ _ _ us hl => match us, hl with | [_, _], _ => rfl⟩
  have F8 := fun_mk (st := s_index_of) l8 c8 k8
  have C8 : Cal l.prog w mg base Γ 1 "index_of" ["rule", "results"] g_index_of := ⟨_, _, ok_index_of n F8, PySem.W.mg_of X G a8, k8, F8.binds fun _ _ _ _ _ _ us hl => match us, hl with | [_, _], _ => rfl⟩
  have F9 := fun_mk (st := s_indexes_by_ones) l9 c9 k9
  have C9 : Cal l.prog w mg base Γ 1 "indexes_by_ones" ["rule"] g_indexes_by_ones := ⟨_, _, ok_indexes_by_ones n F9, PySem.W.mg_of X G a9, k9, F9.binds fun _ _ _ _ _ _ us hl => match us, hl with | [_], _ => rfl⟩
  have F10 := fun_mk (st := s_is_factor) l10 c10 k10
  have C10 : Cal l.prog w mg base Γ 3 "is_factor" ["thing"] g_is_factor := ⟨_, _, ok_is_factor n F10 C1, PySem.W.mg_of X G a10, k10, F10.binds fun _ _ _ _ _ _ us hl => match us, hl with | [_], _ => rfl⟩
  have F11 := fun_mk (st := s_is_term) l11 c11 k11
  have C11 : Cal l.prog w mg base Γ 4 "is_term" ["thing"] g_is_term := ⟨_, _, ok_is_term n F11 C2 C5 C10, PySem.W.mg_of X G a11, k11, F11.binds fun _ _ _ _ _ _ us hl => match us, hl with | [_], _ => rfl⟩
  have F12 := fun_mk (st := s_need_bill) l12 c12 k12
  have C12 : Cal l.prog w mg base Γ 5 "need_bill" ["thing"] g_need_bill := ⟨_, _, ok_need_bill n F12 C2 C10 C11, PySem.W.mg_of X G a12, k12, F12.binds fun _ _ _ _ _ _ us hl => match us, hl with | [_], _ => rfl⟩
  have F13 := fun_mk (st := s_width_of) l13 c13 k13
  have C13 : Cal l.prog w mg base Γ 1 "width_of" ["bill"] g_width_of := ⟨_, _, ok_width_of n F13, PySem.W.mg_of X G a13, k13, F13.binds fun _ _ _ _ _ _ us hl => match us, hl with | [_], _ => rfl⟩
  have F14 := fun_mk (st := s_last_pay) l14 c14 k14
  have C14 : Cal l.prog w mg base Γ 2 "last_pay" ["bill", "results"] g_last_pay := ⟨_, _, ok_last_pay n F14 C8, PySem.W.mg_of X G a14, k14, F14.binds fun _ _ _ _ _ _ us hl => match us, hl with | [_, _], _ => rfl⟩
  have F15 := fun_mk (st := s_pays_of) l15 c15 k15
  have C15 : Cal l.prog w mg base Γ 3 "pays_of" ["bill", "results"] g_pays_of := ⟨_, _, ok_pays_of n F15 C13 C14, PySem.W.mg_of X G a15, k15, F15.binds fun _ _ _ _ _ _ us hl => match us, hl with | [_, _], _ => rfl⟩
  have F16 := fun_mk (st := s_signs_of) l16 c16 k16
  have C16 : Cal l.prog w mg base Γ 1 "signs_of" ["number", "signs", "wide"] g_signs_of := ⟨_, _, ok_signs_of n F16, PySem.W.mg_of X G a16, k16, F16.binds fun _ _ _ _ _ _ us hl => match us, hl with | [_, _, _], _ => rfl⟩
  have F17 := fun_mk (st := s_ones_of) l17 c17 k17
  have C17 : Cal l.prog w mg base Γ 1 "ones_of" ["wide"] g_ones_of := ⟨_, _, ok_ones_of n F17, PySem.W.mg_of X G a17, k17, F17.binds fun _ _ _ _ _ _ us hl => match us, hl with | [_], _ => rfl⟩
  have F18 := fun_mk (st := s_term_pays) l18 c18 k18
  have C18 : Cal l.prog w mg base Γ 2 "term_pays" ["term", "wide"] g_term_pays := ⟨_, _, ok_term_pays n F18 C9 C17, PySem.W.mg_of X G a18, k18, F18.binds fun _ _ _ _ _ _ us hl => match us, hl with | [_, _], _ => rfl⟩
  have F19 := fun_mk (st := s_bit_pays) l19 c19 k19
  have C19 : Cal l.prog w mg base Γ 3 "bit_pays" ["bill"] g_bit_pays := ⟨_, _, ok_bit_pays n F19 C13 C18, PySem.W.mg_of X G a19, k19, F19.binds fun _ _ _ _ _ _ us hl => match us, hl with | [_], _ => rfl⟩
  have F20 := fun_mk (st := s_pays_of_firsts) l20 c20 k20
  have C20 : Cal l.prog w mg base Γ 1 "pays_of_firsts" ["pays"] g_pays_of_firsts := ⟨_, _, ok_pays_of_firsts n F20, PySem.W.mg_of X G a20, k20, F20.binds fun _ _ _ _ _ _ us hl => match us, hl with | [_], _ => rfl⟩
  have F21 := fun_mk (st := s_pays_of_seconds) l21 c21 k21
  have C21 : Cal l.prog w mg base Γ 1 "pays_of_seconds" ["pays"] g_pays_of_seconds := ⟨_, _, ok_pays_of_seconds n F21, PySem.W.mg_of X G a21, k21, F21.binds fun _ _ _ _ _ _ us hl => match us, hl with | [_], _ => rfl⟩
  have F22 := fun_mk (st := s_pair_pays) l22 c22 k22
  have C22 : Cal l.prog w mg base Γ 2 "pair_pays" ["pays"] g_pair_pays := ⟨_, _, ok_pair_pays n F22 C20 C21, PySem.W.mg_of X G a22, k22, F22.binds fun _ _ _ _ _ _ us hl => match us, hl with | [_], _ => rfl⟩
  have F23 := fun_mk (st := s_like_couples) l23 c23 k23
  have C23 : Cal l.prog w mg base Γ 1 "like_couples" ["wide"] g_like_couples := ⟨_, _, ok_like_couples n F23, PySem.W.mg_of X G a23, k23, F23.binds fun _ _ _ _ _ _ us hl => match us, hl with | [_], _ => rfl⟩
  have F24 := fun_mk (st := s_paid_at) l24 c24 k24
  have C24 : Cal l.prog w mg base Γ 1 "paid_at" ["height"] g_paid_at := ⟨_, _, ok_paid_at n F24, PySem.W.mg_of X G a24, k24, F24.binds fun _ _ _ _ _ _ us hl => match us, hl with | [_], _ => rfl⟩
  have F25 := fun_mk (st := s_more_by) l25 c25 k25
  have C25 : Cal l.prog w mg base Γ 1 "more_by" ["pays", "flip"] g_more_by := ⟨_, _, ok_more_by n F25, PySem.W.mg_of X G a25, k25, F25.binds fun _ _ _ _ _ _ us hl => match us, hl with | [_, _], _ => rfl⟩
  have F26 := fun_mk (st := s_heights_ahead) l26 c26 k26
  have C26 : Cal l.prog w mg base Γ 2 "heights_ahead" ["pays", "flip", "behind"] g_heights_ahead := ⟨_, _, ok_heights_ahead n F26 C25, PySem.W.mg_of X G a26, k26, F26.binds fun _ _ _ _ _ _ us hl => match us, hl with | [_, _, _], _ => rfl⟩
  have F27 := fun_mk (st := s_layers_of) l27 c27 k27
  have C27 : Cal l.prog w mg base Γ 3 "layers_of" ["pays", "flips"] g_layers_of := ⟨_, _, ok_layers_of n F27 C26, PySem.W.mg_of X G a27, k27, F27.binds fun _ _ _ _ _ _ us hl => match us, hl with | [_, _], _ => rfl⟩
  have F28 := fun_mk (st := s_further_bits) l28 c28 k28
  have C28 : Cal l.prog w mg base Γ 2 "further_bits" ["pays", "flips", "layers", "number"] g_further_bits := ⟨_, _, ok_further_bits n F28 C25, PySem.W.mg_of X G a28, k28, F28.binds fun _ _ _ _ _ _ us hl => match us, hl with | [_, _, _, _], _ => rfl⟩
  have F29 := fun_mk (st := s_best_single) l29 c29 k29
  have C29 : Cal l.prog w mg base Γ 4 "best_single" ["pays", "wide"] g_best_single := ⟨_, _, ok_best_single n F29 C27 C25 C16 C28 C24, PySem.W.mg_of X G a29, k29, F29.binds fun _ _ _ _ _ _ us hl => match us, hl with | [_, _], _ => rfl⟩
  have F30 := fun_mk (st := s_raised) l30 c30 k30
  have C30 : Cal l.prog w mg base Γ 1 "raised" ["pays", "heights", "base"] g_raised := ⟨_, _, ok_raised n F30, PySem.W.mg_of X G a30, k30, F30.binds fun _ _ _ _ _ _ us hl => match us, hl with | [_, _, _], _ => rfl⟩
  have F31 := fun_mk (st := s_trail) l31 c31 k31
  have C31 : Cal l.prog w mg base Γ 1 "trail" ["pays", "layers", "start", "base"] g_trail := ⟨_, _, ok_trail n F31, PySem.W.mg_of X G a31, k31, F31.binds fun _ _ _ _ _ _ us hl => match us, hl with | [_, _, _, _], _ => rfl⟩
  have F32 := fun_mk (st := s_ring_on) l32 c32 k32
  have C32 : Cal l.prog w mg base Γ 1 "ring_on" ["numbers", "signs"] g_ring_on := ⟨_, _, ok_ring_on n F32, PySem.W.mg_of X G a32, k32, F32.binds fun _ _ _ _ _ _ us hl => match us, hl with | [_, _], _ => rfl⟩
  have F33 := fun_mk (st := s_ring_of_one) l33 c33 k33
  have C33 : Cal l.prog w mg base Γ 1 "ring_of_one" ["pays", "base"] g_ring_of_one := ⟨_, _, ok_ring_of_one n F33, PySem.W.mg_of X G a33, k33, F33.binds fun _ _ _ _ _ _ us hl => match us, hl with | [_, _], _ => rfl⟩
  have F34 := fun_mk (st := s_steepest) l34 c34 k34
  have C34 : Cal l.prog w mg base Γ 1 "steepest" ["layers"] g_steepest := ⟨_, _, ok_steepest n F34, PySem.W.mg_of X G a34, k34, F34.binds fun _ _ _ _ _ _ us hl => match us, hl with | [_], _ => rfl⟩
  have F35 := fun_mk (st := s_climb) l35 c35 k35
  have C35 : Cal l.prog w mg base Γ 2 "climb" ["pays", "base"] g_climb := ⟨_, _, ok_climb n F35 C33 C30 C31 C34 C32, PySem.W.mg_of X G a35, k35, F35.binds fun _ _ _ _ _ _ us hl => match us, hl with | [_, _], _ => rfl⟩
  have F36 := fun_mk (st := s_greatest_of) l36 c36 k36
  have C36 : Cal l.prog w mg base Γ 1 "greatest_of" ["heights", "starts"] g_greatest_of := ⟨_, _, ok_greatest_of n F36, PySem.W.mg_of X G a36, k36, F36.binds fun _ _ _ _ _ _ us hl => match us, hl with | [_, _], _ => rfl⟩
  have F37 := fun_mk (st := s_best_walk) l37 c37 k37
  have C37 : Cal l.prog w mg base Γ 2 "best_walk" ["pays", "layers", "starts", "base"] g_best_walk := ⟨_, _, ok_best_walk n F37 C36 C31, PySem.W.mg_of X G a37, k37, F37.binds fun _ _ _ _ _ _ us hl => match us, hl with | [_, _, _, _], _ => rfl⟩
  have F38 := fun_mk (st := s_need_kind) l38 c38 k38
  have C38 : Cal l.prog w mg base Γ 1 "need_kind" ["thing"] g_need_kind := ⟨_, _, ok_need_kind n F38, PySem.W.mg_of X G a38, k38, F38.binds fun _ _ _ _ _ _ us hl => match us, hl with | [_], _ => rfl⟩
  have F39 := fun_mk (st := s_need_worse) l39 c39 k39
  have C39 : Cal l.prog w mg base Γ 3 "need_worse" ["thing", "row", "wide"] g_need_worse := ⟨_, _, ok_need_worse n F39 C6, PySem.W.mg_of X G a39, k39, F39.binds fun _ _ _ _ _ _ us hl => match us, hl with | [_, _, _], _ => rfl⟩
  have F40 := fun_mk (st := s_gain) l40 c40 k40
  have C40 : Cal l.prog w mg base Γ 6 "gain" ["bill", "row", "other"] g_gain := ⟨_, _, ok_gain n F40 C13 C12 C7 C39 C15, PySem.W.mg_of X G a40, k40, F40.binds fun _ _ _ _ _ _ us hl => match us, hl with | [_, _, _], _ => rfl⟩
  have F41 := fun_mk (st := s_greatest_gain) l41 c41 k41
  have C41 : Cal l.prog w mg base Γ 6 "greatest_gain" ["bill", "kind"] g_greatest_gain := ⟨_, _, ok_greatest_gain n F41 C13 C12 C38 C29 C19 C35 C22 C36 C23, PySem.W.mg_of X G a41, k41, F41.binds fun _ _ _ _ _ _ us hl => match us, hl with | [_, _], _ => rfl⟩
  have F42 := fun_mk (st := s_rows_of) l42 c42 k42
  have C42 : Cal l.prog w mg base Γ 1 "rows_of" ["pairs"] g_rows_of := ⟨_, _, ok_rows_of n F42, PySem.W.mg_of X G a42, k42, F42.binds fun _ _ _ _ _ _ us hl => match us, hl with | [_], _ => rfl⟩
  have F43 := fun_mk (st := s_rows_of_gain) l43 c43 k43
  have C43 : Cal l.prog w mg base Γ 3 "rows_of_gain" ["pays", "layers", "wide"] g_rows_of_gain := ⟨_, _, ok_rows_of_gain n F43 C37 C23 C42 C16, PySem.W.mg_of X G a43, k43, F43.binds fun _ _ _ _ _ _ us hl => match us, hl with | [_, _, _], _ => rfl⟩
  have F44 := fun_mk (st := s_rows_of_single) l44 c44 k44
  have C44 : Cal l.prog w mg base Γ 5 "rows_of_single" ["bill"] g_rows_of_single := ⟨_, _, ok_rows_of_single n F44 C13 C29 C19, PySem.W.mg_of X G a44, k44, F44.binds fun _ _ _ _ _ _ us hl => match us, hl with | [_], _ => rfl⟩
  have F45 := fun_mk (st := s_gain_rows) l45 c45 k45
  have C45 : Cal l.prog w mg base Γ 6 "gain_rows" ["bill", "kind"] g_gain_rows := ⟨_, _, ok_gain_rows n F45 C13 C12 C38 C44 C22 C19 C35 C43, PySem.W.mg_of X G a45, k45, F45.binds fun _ _ _ _ _ _ us hl => match us, hl with | [_, _], _ => rfl⟩
  have F46 := fun_mk (st := s_does_pay) l46 c46 k46
  have C46 : Cal l.prog w mg base Γ 7 "does_pay" ["bill", "kind"] g_does_pay := ⟨_, _, ok_does_pay n F46 C12 C38 C41, PySem.W.mg_of X G a46, k46, F46.binds fun _ _ _ _ _ _ us hl => match us, hl with | [_, _], _ => rfl⟩
  have F47 := fun_mk (st := s__law_begun) l47 c47 k47
  have C47 : Cal l.prog w mg base Γ 1 "_law_begun" ["script"] g__law_begun := ⟨_, _, ok__law_begun n F47, PySem.W.mg_of X G a47, k47, F47.binds fun _ _ _ _ _ _ us hl => match us, hl with | [_], _ => rfl⟩
  have F48 := fun_mk (st := s__law_draw) l48 c48 k48
  have C48 : Cal l.prog w mg base Γ 1 "_law_draw" ["m", "many"] g__law_draw := ⟨_, _, ok__law_draw n F48, PySem.W.mg_of X G a48, k48, F48.binds fun _ _ _ _ _ _ us hl => match us, hl with | [_, _], _ => rfl⟩
  have F49 := fun_mk (st := s__law_of) l49 c49 k49
  have C49 : Cal l.prog w mg base Γ 2 "_law_of" ["m", "some"] g__law_of := ⟨_, _, ok__law_of n F49 C48, PySem.W.mg_of X G a49, k49, F49.binds fun _ _ _ _ _ _ us hl => match us, hl with | [_, _], _ => rfl⟩
  have F50 := fun_mk (st := s__law_weights) l50 c50 k50
  have C50 : Cal l.prog w mg base Γ 2 "_law_weights" ["m", "most"] g__law_weights := ⟨_, _, ok__law_weights n F50 C48, PySem.W.mg_of X G a50, k50, F50.binds fun _ _ _ _ _ _ us hl => match us, hl with | [_, _], _ => rfl⟩
  have F51 := fun_mk (st := s__law_drawn_bill) l51 c51 k51
  have C51 : Cal l.prog w mg base Γ 3 "_law_drawn_bill" ["m", "most"] g__law_drawn_bill := ⟨_, _, ok__law_drawn_bill n F51 C49 C48 C50, PySem.W.mg_of X G a51, k51, F51.binds fun _ _ _ _ _ _ us hl => match us, hl with | [_, _], _ => rfl⟩
  have F52 := fun_mk (st := s__law_tame_bill) l52 c52 k52
  have C52 : Cal l.prog w mg base Γ 3 "_law_tame_bill" ["m", "most"] g__law_tame_bill := ⟨_, _, ok__law_tame_bill n F52 C48 C49, PySem.W.mg_of X G a52, k52, F52.binds fun _ _ _ _ _ _ us hl => match us, hl with | [_, _], _ => rfl⟩
  have F53 := fun_mk (st := s__law_drawn_row) l53 c53 k53
  have C53 : Cal l.prog w mg base Γ 2 "_law_drawn_row" ["m", "least", "more", "high"] g__law_drawn_row := ⟨_, _, ok__law_drawn_row n F53 C48, PySem.W.mg_of X G a53, k53, F53.binds fun _ _ _ _ _ _ us hl => match us, hl with | [_, _, _, _], _ => rfl⟩
  have F54 := fun_mk (st := s__law_index) l54 c54 k54
  have C54 : Cal l.prog w mg base Γ 1 "_law_index" ["rule_so", "some"] g__law_index := ⟨_, _, ok__law_index n F54, PySem.W.mg_of X G a54, k54, F54.binds fun _ _ _ _ _ _ us hl => match us, hl with | [_, _], _ => rfl⟩
  have F55 := fun_mk (st := s__law_wide) l55 c55 k55
  have C55 : Cal l.prog w mg base Γ 1 "_law_wide" ["bill_so"] g__law_wide := ⟨_, _, ok__law_wide n F55, PySem.W.mg_of X G a55, k55, F55.binds fun _ _ _ _ _ _ us hl => match us, hl with | [_], _ => rfl⟩
  have F56 := fun_mk (st := s__law_paid) l56 c56 k56
  have C56 : Cal l.prog w mg base Γ 2 "_law_paid" ["bill_so", "row_so"] g__law_paid := ⟨_, _, ok__law_paid n F56 C55 C54, PySem.W.mg_of X G a56, k56, F56.binds fun _ _ _ _ _ _ us hl => match us, hl with | [_, _], _ => rfl⟩
  have F57 := fun_mk (st := s__law_bit_rows) l57 c57 k57
  have C57 : Cal l.prog w mg base Γ 1 "_law_bit_rows" ["many"] g__law_bit_rows := ⟨_, _, ok__law_bit_rows n F57, PySem.W.mg_of X G a57, k57, F57.binds fun _ _ _ _ _ _ us hl => match us, hl with | [_], _ => rfl⟩
  have F58 := fun_mk (st := s__law_gains) l58 c58 k58
  have C58 : Cal l.prog w mg base Γ 3 "_law_gains" ["bill_so"] g__law_gains := ⟨_, _, ok__law_gains n F58 C55 C57 C56, PySem.W.mg_of X G a58, k58, F58.binds fun _ _ _ _ _ _ us hl => match us, hl with | [_], _ => rfl⟩
  have F59 := fun_mk (st := s__law_results_right) l59 c59 k59
  have C59 : Cal l.prog w mg base Γ 7 "_law_results_right" ["m", "bill_so", "size", "due"] g__law_results_right := ⟨_, _, ok__law_results_right n F59 C53 C49 C48 C40, PySem.W.mg_of X G a59, k59, F59.binds fun _ _ _ _ _ _ us hl => match us, hl with | [_, _, _, _], _ => rfl⟩
  have F60 := fun_mk (st := s__law_right) l60 c60 k60
  have C60 : Cal l.prog w mg base Γ 8 "_law_right" ["m", "bill_so"] g__law_right := ⟨_, _, ok__law_right n F60 C58 C55 C41 C46 C45 C56 C59, PySem.W.mg_of X G a60, k60, F60.binds fun _ _ _ _ _ _ us hl => match us, hl with | [_, _], _ => rfl⟩
  have F61 := fun_mk (st := s_law) l61 c61 k61
  exact ok_law n F61 C47 C48 C52 C51 C60 C45 C41 C46
end MP.K13
set_option Elab.async false
set_option linter.all false
set_option maxRecDepth 100000
set_option maxHeartbeats 1000000
namespace MP.K13
open PySem PySem.Spec MP MP.PG
open PyProof.Rows hiding St
open L2 hiding St r1
section
variable {s : Sto}
def brs : Nat → List (List Nat)
  | 0 => [[]]
  | k + 1 => (brs k).flatMap fun r => [r ++ [0], r ++ [1]]
theorem mem_brs : ∀ {k : Nat} {bs : List Nat}, bs ∈ brs k ↔ Bits01 bs ∧ bs.length = k
  | 0, bs => by
    show bs ∈ [[]] ↔ _
    rw [List.mem_singleton]
    constructor
    · rintro rfl; exact ⟨fun c hc => (nomatch hc), rfl⟩
    · rintro ⟨_, h⟩; exact List.length_eq_zero_iff.mp h
  | k + 1, bs => by
    show bs ∈ (brs k).flatMap _ ↔ _
    rw [List.mem_flatMap]
    constructor
    · rintro ⟨r, hr, h⟩
      obtain ⟨h1, h2⟩ := mem_brs.mp hr
      have : ∃ d, d < 2 ∧ bs = r ++ [d] := by
        rcases List.mem_cons.mp h with rfl | h
        · exact ⟨0, by decide, rfl⟩
        · rcases List.mem_cons.mp h with rfl | h
          · exact ⟨1, by decide, rfl⟩
          · cases h
      obtain ⟨d, hd, rfl⟩ := this
      refine ⟨fun c hc => ?_, by rw [List.length_append, h2]; rfl⟩
      rcases List.mem_append.mp hc with hc | hc
      · exact h1 c hc
      · rw [List.mem_singleton.mp hc]; exact hd
    · rintro ⟨h1, h2⟩
      have hne : bs ≠ [] := fun z => by rw [z] at h2; cases h2
      refine ⟨bs.dropLast, mem_brs.mpr ⟨fun c hc => h1 c (List.dropLast_subset _ hc), by rw [List.length_dropLast, h2]; rfl⟩, ?_⟩
      have hl := List.dropLast_concat_getLast hne
      have hb := h1 _ (List.getLast_mem hne)
      generalize bs.getLast hne = d at hl hb
      rw [← hl]
      rcases (by omega : d = 0 ∨ d = 1) with rfl | rfl
      · simp
      · simp
theorem two_len : ∀ l : List (List Nat), (l.flatMap fun r => [r ++ [0], r ++ [1]]).length = 2 * l.length
  | [] => rfl
  | a :: l => by
    have ih := two_len l
    rw [List.flatMap_cons, List.length_append, ih]
    show 2 + 2 * l.length = 2 * (l.length + 1)
    omega
theorem brs_len : ∀ k : Nat, (brs k).length = 2 ^ k
  | 0 => rfl
  | k + 1 => by
    show ((brs k).flatMap _).length = _
    rw [two_len, brs_len k, Nat.pow_succ, Nat.mul_comm]
theorem add_bit {f : FE} {ρ : Env} {r : List Nat} {d : Nat} (h : f ρ s = .ok (tN r) s) (hl : r.length ≤ 1000) : mBin addD f (mTup (mCons (mK (.int (d : Int))) mNil)) ρ s = .ok (tN (r ++ [d])) s := by
  refine bin_v (x := tN r) (y := .tup [.int (d : Int)]) h (tup_v (cons_v k_ev nil_ev) (by show 1 ≤ 1000000; decide)) ((add_tup (by rw [List.length_map]; show r.length + 1 ≤ 1000000; omega)).trans ?_)
  show some (Dv.tup (_ ++ [Dv.int (d : Int)])) = some (Dv.tup ((r ++ [d]).map _))
  rw [List.map_append]
  rfl
theorem bit_rows_ok {k : Nat} (hk : k ≤ 10) : g__law_bit_rows [.int (k : Int)] s = .ok (.lst ((brs k).map tN)) s := by
  have e0 : startD 5 [.int (k : Int)] = [some (.int (k : Int)), none, none, none, none] := rfl
  have e1 : mAsg (mLst (mCons (mTup mNil) mNil)) (gN 1) [some (.int (k : Int)), none, none, none, none] s = .nx [some (.int (k : Int)), some (.lst ((brs 0).map tN)), none, none, none] s := rfl
  have hF : F__law_bit_rows_2 [some (.int (k : Int)), some (.lst ((brs 0).map tN)), none, none, none] s = .ok { ws := rng 0 k } s := by
    have := range1_ok (fa := mCons (mVar 0) mNil) (ρ := [some (.int (k : Int)), some (.lst ((brs 0).map tN)), none, none, none]) (s := s) (cons_v (w := .int (k : Int)) rfl nil_ev) (okR_s (by omega) (by omega))
    rw [Int.toNat_natCast] at this
    exact this
  obtain ⟨ρ', s', f1, rfl, a, b, c, rfl⟩ := for_ix (g := t__law_bit_rows_2) (body := b__law_bit_rows_2)
    (fun i ρ s' => s' = s ∧ ∃ a b c, ρ = [some (.int (k : Int)), some (.lst ((brs i).map tN)), a, b, c]) hF ⟨rfl, _, _, _, rfl⟩ fun i x ρ s' hx hJ => by
      obtain ⟨rfl, a, b, c, rfl⟩ := hJ
      obtain ⟨hi, rfl⟩ := rng_get hx
      have hp : 2 ^ i ≤ 1024 := Nat.le_trans (Nat.pow_le_pow_right (by decide) (by omega : i ≤ 10)) (by decide)
      have hF2 : F__law_bit_rows_1 [some (.int (k : Int)), some (.lst ((brs i).map tN)), some (.int (0 + (i : Int))), some (.lst []), c] s' = .ok { ws := (brs i).map tN } s' := rfl
      obtain ⟨ρ2, s2, f2, rfl, d, rfl⟩ := for_ix (g := t__law_bit_rows_1) (body := b__law_bit_rows_1)
        (fun j ρ s2 => s2 = s' ∧ ∃ d, ρ = [some (.int (k : Int)), some (.lst ((brs i).map tN)), some (.int (0 + (i : Int))), some (.lst ((((brs i).take j).flatMap fun r => [r ++ [0], r ++ [1]]).map tN)), d]) hF2 ⟨rfl, _, rfl⟩ fun j y ρ s2 hy hJ => by
          obtain ⟨rfl, d, rfl⟩ := hJ
          rw [List.getElem?_map] at hy
          cases hq : (brs i)[j]? with
          | none => rw [hq] at hy; cases hy
          | some r =>
            rw [hq] at hy
            cases hy
            have hj := (List.getElem?_eq_some_iff.mp hq).1
            rw [brs_len] at hj
            have hr := (mem_brs.mp (List.mem_of_getElem? hq)).2
            refine ⟨[some (.int (k : Int)), some (.lst ((brs i).map tN)), some (.int (0 + (i : Int))), some (.lst ((((brs i).take j).flatMap fun r => [r ++ [0], r ++ [1]]).map tN)), some (tN r)], _, s2, rfl, .inl (asg_v (w := .lst ((((brs i).take (j + 1)).flatMap fun r => [r ++ [0], r ++ [1]]).map tN)) (bin_v (x := .lst ((((brs i).take j).flatMap fun r => [r ++ [0], r ++ [1]]).map tN)) (y := .lst [tN (r ++ [0]), tN (r ++ [1])]) rfl (lst_v (cons_v (add_bit (d := 0) rfl (by omega)) (cons_v (add_bit (d := 1) rfl (by omega)) nil_ev)) (by show 2 ≤ 1000000; decide)) ((add_lst (by rw [List.length_map, two_len, List.length_take, brs_len]; show 2 * min j (2 ^ i) + 2 ≤ 1000000; omega)).trans ?_))), rfl, _, rfl⟩
            rw [List.take_succ, hq, List.flatMap_append, List.map_append]
            rfl
      rw [List.length_map, brs_len] at f2
      rw [List.take_of_length_le (by rw [brs_len]; exact Nat.le_refl _)] at f2
      refine ⟨[some (.int (k : Int)), some (.lst ((brs i).map tN)), some (.int (0 + (i : Int))), b, c], [some (.int (k : Int)), some (.lst ((brs (i + 1)).map tN)), some (.int (0 + (i : Int))), some (.lst ((brs (i + 1)).map tN)), d], s2, rfl, .inl ?_, rfl, _, _, _, rfl⟩
      unfold b__law_bit_rows_2
      exact seq_nx (ρ1 := [some (.int (k : Int)), some (.lst ((brs i).map tN)), some (.int (0 + (i : Int))), some (.lst []), c]) rfl (seq_nx f2 rfl)
  rw [rng_len] at f1
  unfold g__law_bit_rows d__law_bit_rows
  rw [den_ev, e0]
  refine fin_nx e1 (fin_nx f1 ?_)
  rw [ret_v (w := .lst ((brs k).map tN)) rfl]
  exact finC_rt
end
end MP.K13
set_option Elab.async false
set_option linter.all false
set_option maxRecDepth 100000
set_option maxHeartbeats 1000000
namespace MP.K13
open PySem PySem.Spec MP MP.PG
open PyProof.Rows hiding St
open L2 hiding St r1
section
variable {o : Int} {ts : List Term} {pre os : Sto} {cs : List Int} {l p : Int}
def pq (q : Int × Nat) : Dv := .tup [.int q.1, .int (q.2 : Int)]
theorem tN_tI {bs : List Nat} : tN bs = tI (toI bs) := by
  unfold tN tI toI
  rw [List.map_map]
  rfl
theorem row_bits {bs : List Nat} (h : Bits01 bs) (hl : bs.length ≤ 200) : Row (toI bs) := ⟨by rw [List.length_map]; exact hl, fun i hi => by
  obtain ⟨b, hb, rfl⟩ := List.mem_map.mp hi
  have := h b hb
  omega⟩
/-- what a row of bits gains by one bit more -/
def Gw (o : Int) (ts : List Term) (b h : List Nat) : Int := (pys o ts (toI (b ++ [1] ++ h))).sum - (pys o ts (toI (b ++ [0] ++ h))).sum
def gl1 (o : Int) (ts : List Term) (b : List Nat) (m : Nat) : List (Int × Nat) := (brs m).map fun h => (Gw o ts b h, m + 1)
def gl2 (o : Int) (ts : List Term) (k : Nat) (b : List Nat) : List (Int × Nat) := (List.range k).flatMap (gl1 o ts b)
def gl (o : Int) (ts : List Term) (bs : List (List Nat)) : List (Int × Nat) := (0, 0) :: bs.flatMap (gl2 o ts (wd ts + 1))
theorem len_flat {α β : Type} {f : α → List β} {c : Nat} : ∀ {l : List α}, (∀ a ∈ l, (f a).length ≤ c) → (l.flatMap f).length ≤ c * l.length
  | [], _ => Nat.zero_le _
  | a :: l, h => by
    have h1 := h a List.mem_cons_self
    have h2 := len_flat (l := l) (f := f) (c := c) fun x hx => h x (List.mem_cons_of_mem _ hx)
    rw [List.flatMap_cons, List.length_append, List.length_cons, Nat.mul_succ]
    omega
theorem gl1_len {b : List Nat} {m : Nat} (hm : m ≤ 6) : (gl1 o ts b m).length ≤ 64 := by
  unfold gl1
  rw [List.length_map, brs_len]
  exact Nat.le_trans (Nat.pow_le_pow_right (by decide) hm) (by decide)
theorem gl2_len {b : List Nat} {k : Nat} (hk : k ≤ 7) : (gl2 o ts k b).length ≤ 448 := by
  have := len_flat (l := List.range k) (f := gl1 o ts b) (c := 64) fun m hm => gl1_len (by have := List.mem_range.mp hm; omega)
  rw [List.length_range] at this
  unfold gl2
  omega
theorem gl_len {bs : List (List Nat)} (hw : wd ts ≤ 6) (hb : bs.length ≤ 64) : (gl o ts bs).length ≤ 30000 := by
  have := len_flat (l := bs) (f := gl2 o ts (wd ts + 1)) (c := 448) fun m hm => gl2_len (by omega)
  unfold gl
  rw [List.length_cons]
  omega
def Sg (pre os : Sto) (cs : List Int) (l p : Int) (L : List (Int × Nat)) : Sto := St pre (os ++ [.lst (L.map pq)]) cs l p
theorem cleans_pq (n : Nat) : ∀ L : List (Int × Nat), cleans n (L.map pq) = true
  | [] => rfl
  | q :: L => by
    show (true && cleans n (L.map pq)) = true
    rw [cleans_pq n L]
    rfl
theorem cl_pq (ho : ClP pre os) {L : List (Int × Nat)} : ClP pre (os ++ [.lst (L.map pq)]) := fun n => ⟨(ho n).1, by
  rw [List.all_append, (ho n).2]
  show (true && (cleans n (L.map pq) && true)) = true
  rw [cleans_pq]
  rfl⟩
abbrev ge (o : Int) (ts : List Term) (pre os : Sto) (x3 x4 x5 x6 x7 x8 : Option Dv) : Env := [some (bi o ts), some (.int (wd ts : Int)), some (.ref (r1 pre os)), x3, x4, x5, x6, x7, x8]
theorem turn1 {L : List (Int × Nat)} {b h : List Nat} {m : Nat} {x6 x7 x8 : Option Dv} (ho : ClP pre os) (hB : Bill o ts) (hb : Bits01 b) (hbl : b.length = wd ts) (hh : Bits01 h) (hm : h.length = m) (hm6 : m ≤ 6) (hL : L.length ≤ 100000) :
    b__law_gains_1 (ge o ts pre os (some (tN b)) (some (.int (m : Int))) (some (tN h)) x6 x7 x8) (Sg pre os cs l p L) = .nx (ge o ts pre os (some (tN b)) (some (.int (m : Int))) (some (tN h)) (some (tN (b ++ [0] ++ h))) (some (tN (b ++ [1] ++ h))) (some (.int (Gw o ts b h)))) (Sg pre os cs l p (L ++ [(Gw o ts b h, m + 1)])) := by
  obtain ⟨w1, w6⟩ := wd_rng hB.ok
  have hrow : ∀ d : Nat, d < 2 → Bits01 (b ++ [d] ++ h) := fun d hd c hc => by
    rcases List.mem_append.mp hc with hc | hc
    · rcases List.mem_append.mp hc with hc | hc
      · exact hb c hc
      · rw [List.mem_singleton.mp hc]; exact hd
    · exact hh c hc
  have hlen : ∀ d : Nat, (b ++ [d] ++ h).length = wd ts + 1 + m := fun d => by rw [List.length_append, List.length_append, hbl, hm]; rfl
  have hcat : ∀ d : Nat, mBin addD (mBin addD (mVar 3) (mTup (mCons (mK (.int (d : Int))) mNil))) (mVar 5) (ge o ts pre os (some (tN b)) (some (.int (m : Int))) (some (tN h)) x6 x7 x8) (Sg pre os cs l p L) = .ok (tN (b ++ [d] ++ h)) (Sg pre os cs l p L) := fun d => by
    refine bin_v (x := tN (b ++ [d])) (y := tN h) (add_bit rfl (by omega)) rfl ((add_tup (by rw [List.length_map, List.length_map, List.length_append]; show b.length + 1 + h.length ≤ 1000000; omega)).trans ?_)
    show some (Dv.tup (_ ++ _)) = some (Dv.tup _)
    rw [← List.map_append]
  have c1 : mPar 6 7 (mCons (mBin addD (mBin addD (mVar 3) (mTup (mCons (mK (.int 0)) mNil))) (mVar 5)) (mCons (mBin addD (mBin addD (mVar 3) (mTup (mCons (mK (.int 1)) mNil))) (mVar 5)) mNil)) (ge o ts pre os (some (tN b)) (some (.int (m : Int))) (some (tN h)) x6 x7 x8) (Sg pre os cs l p L) = .nx (ge o ts pre os (some (tN b)) (some (.int (m : Int))) (some (tN h)) (some (tN (b ++ [0] ++ h))) (some (tN (b ++ [1] ++ h))) x8) (Sg pre os cs l p L) := by
    have h0 := hcat 0
    have h1 := hcat 1
    rw [par_ev]
    refine (congrArg (fun r => R.thenC r _ _) h0).trans ?_
    rw [then_ok]
    refine (congrArg (fun r => R.thenC r _ _) h1).trans ?_
    rfl
  have hpd : ∀ d : Nat, d < 2 → g__law_paid [bi o ts, tN (b ++ [d] ++ h)] (Sg pre os cs l p L) = .ok (lI (pys o ts (toI (b ++ [d] ++ h)))) (Sg pre os cs l p L) := fun d hd => by
    rw [tN_tI]
    exact law_paid_ok (cl_pq ho) hB (row_bits (hrow d hd) (by rw [hlen]; omega)) (by rw [List.length_map, hlen]; omega)
  have c2 : mAsg (mBin subD (mBlt sumA (mCons (mCall (g__law_paid) (mCons (mVar 0) (mCons (mVar 7) mNil))) mNil)) (mBlt sumA (mCons (mCall (g__law_paid) (mCons (mVar 0) (mCons (mVar 6) mNil))) mNil))) (gN 8) (ge o ts pre os (some (tN b)) (some (.int (m : Int))) (some (tN h)) (some (tN (b ++ [0] ++ h))) (some (tN (b ++ [1] ++ h))) x8) (Sg pre os cs l p L) = .nx (ge o ts pre os (some (tN b)) (some (.int (m : Int))) (some (tN h)) (some (tN (b ++ [0] ++ h))) (some (tN (b ++ [1] ++ h))) (some (.int (Gw o ts b h)))) (Sg pre os cs l p L) := by
    have hs : ∀ (i d : Nat), d < 2 → mVar i (ge o ts pre os (some (tN b)) (some (.int (m : Int))) (some (tN h)) (some (tN (b ++ [0] ++ h))) (some (tN (b ++ [1] ++ h))) x8) (Sg pre os cs l p L) = .ok (tN (b ++ [d] ++ h)) (Sg pre os cs l p L) → mBlt sumA (mCons (mCall (g__law_paid) (mCons (mVar 0) (mCons (mVar i) mNil))) mNil) (ge o ts pre os (some (tN b)) (some (.int (m : Int))) (some (tN h)) (some (tN (b ++ [0] ++ h))) (some (tN (b ++ [1] ++ h))) x8) (Sg pre os cs l p L) = .ok (.int (pys o ts (toI (b ++ [d] ++ h))).sum) (Sg pre os cs l p L) := fun i d hd hi => by
      refine blt_v (cons_v (w := lI (pys o ts (toI (b ++ [d] ++ h)))) ?_ nil_ev) sum_LI
      rw [call_ev, cons_v (w := bi o ts) rfl (cons_v hi nil_ev), bind_ok]
      exact hpd d hd
    exact (asg_v (w := .int (Gw o ts b h)) (bin_v (hs 7 1 (by decide) rfl) (hs 6 0 (by decide) rfl) sub_ev)).trans rfl
  have c3 : mExpr (mApp (mVar 2) (mTup (mCons (mVar 8) (mCons (mBin addD (mVar 4) (mK (.int 1))) mNil)))) (ge o ts pre os (some (tN b)) (some (.int (m : Int))) (some (tN h)) (some (tN (b ++ [0] ++ h))) (some (tN (b ++ [1] ++ h))) (some (.int (Gw o ts b h)))) (Sg pre os cs l p L) = .nx (ge o ts pre os (some (tN b)) (some (.int (m : Int))) (some (tN h)) (some (tN (b ++ [0] ++ h))) (some (tN (b ++ [1] ++ h))) (some (.int (Gw o ts b h)))) (Sg pre os cs l p (L ++ [(Gw o ts b h, m + 1)])) := by
    rw [expr_v (app_v (n := r1 pre os) (us := L.map pq) (ws := L.map pq) (y := pq (Gw o ts b h, m + 1)) rfl at_end (tup_v (cons_v (w := .int (Gw o ts b h)) rfl (cons_v (w := .int ((m + 1 : Nat) : Int)) (bin_v (x := .int (m : Int)) (y := .int 1) rfl rfl (by rw [add_ii]; rfl)) nil_ev)) (by show 2 ≤ 1000000; decide)) at_end (by rw [List.length_map]; unfold lim; omega))]
    show C.nx _ ((St pre (os ++ [.lst (L.map pq)]) cs l p).set (r1 pre os) _) = _
    rw [set_end]
    unfold Sg
    rw [List.map_append]
    rfl
  unfold b__law_gains_1
  exact seq_nx c1 (seq_nx c2 c3)
theorem gains1 {L : List (Int × Nat)} {b : List Nat} {m : Nat} {x5 x6 x7 x8 : Option Dv} (ho : ClP pre os) (hB : Bill o ts) (hb : Bits01 b) (hbl : b.length = wd ts) (hm6 : m ≤ 6) (hL : L.length ≤ 90000) :
    ∃ y5 y6 y7 y8, mFor F__law_gains_1 t__law_gains_1 b__law_gains_1 (ge o ts pre os (some (tN b)) (some (.int (m : Int))) x5 x6 x7 x8) (Sg pre os cs l p L) = .nx (ge o ts pre os (some (tN b)) (some (.int (m : Int))) y5 y6 y7 y8) (Sg pre os cs l p (L ++ gl1 o ts b m)) := by
  have hp : 2 ^ m ≤ 64 := Nat.le_trans (Nat.pow_le_pow_right (by decide) hm6) (by decide)
  have hF : F__law_gains_1 (ge o ts pre os (some (tN b)) (some (.int (m : Int))) x5 x6 x7 x8) (Sg pre os cs l p L) = .ok { ws := (brs m).map tN } (Sg pre os cs l p L) := by
    unfold F__law_gains_1 iSeq
    rw [call_ev, cons_v (w := .int (m : Int)) rfl nil_ev, bind_ok, bit_rows_ok (by omega), bind_ok]
    rfl
  obtain ⟨ρ', s', f1, rfl, y5, y6, y7, y8, rfl⟩ := for_ix (g := t__law_gains_1) (body := b__law_gains_1)
    (fun i ρ s' => s' = Sg pre os cs l p (L ++ ((brs m).take i).map fun h => (Gw o ts b h, m + 1)) ∧ ∃ y5 y6 y7 y8, ρ = ge o ts pre os (some (tN b)) (some (.int (m : Int))) y5 y6 y7 y8) hF ⟨by rw [List.take_zero, List.map_nil, List.append_nil], _, _, _, _, rfl⟩ fun i x ρ s' hx hJ => by
      obtain ⟨rfl, y5, y6, y7, y8, rfl⟩ := hJ
      rw [List.getElem?_map] at hx
      cases hq : (brs m)[i]? with
      | none => rw [hq] at hx; cases hx
      | some h =>
        rw [hq] at hx
        cases hx
        have hi := (List.getElem?_eq_some_iff.mp hq).1
        rw [brs_len] at hi
        obtain ⟨h1, h2⟩ := mem_brs.mp (List.mem_of_getElem? hq)
        refine ⟨ge o ts pre os (some (tN b)) (some (.int (m : Int))) (some (tN h)) y6 y7 y8, _, _, rfl, .inl (turn1 ho hB hb hbl h1 h2 hm6 (by rw [List.length_append, List.length_map, List.length_take]; omega)), ?_, _, _, _, _, rfl⟩
        rw [List.take_succ, hq, List.map_append, List.append_assoc]
        rfl
  rw [List.length_map, brs_len, List.take_of_length_le (by rw [brs_len]; exact Nat.le_refl _)] at f1
  exact ⟨y5, y6, y7, y8, f1⟩
theorem gains2 {L : List (Int × Nat)} {b : List Nat} {x4 x5 x6 x7 x8 : Option Dv} (ho : ClP pre os) (hB : Bill o ts) (hb : Bits01 b) (hbl : b.length = wd ts) (hL : L.length ≤ 80000) :
    ∃ y4 y5 y6 y7 y8, b__law_gains_3 (ge o ts pre os (some (tN b)) x4 x5 x6 x7 x8) (Sg pre os cs l p L) = .nx (ge o ts pre os (some (tN b)) y4 y5 y6 y7 y8) (Sg pre os cs l p (L ++ gl2 o ts (wd ts + 1) b)) := by
  obtain ⟨w1, w6⟩ := wd_rng hB.ok
  have hF : F__law_gains_2 (ge o ts pre os (some (tN b)) x4 x5 x6 x7 x8) (Sg pre os cs l p L) = .ok { ws := rng 0 (wd ts + 1) } (Sg pre os cs l p L) := by
    have := range1_ok (fa := mCons (mBin addD (mVar 1) (mK (.int 1))) mNil) (ρ := ge o ts pre os (some (tN b)) x4 x5 x6 x7 x8) (s := Sg pre os cs l p L) (j := ((wd ts + 1 : Nat) : Int)) (cons_v (w := .int ((wd ts + 1 : Nat) : Int)) (bin_v (x := .int (wd ts : Int)) (y := .int 1) rfl rfl add_ii) nil_ev) (okR_s (by omega) (by omega))
    rw [Int.toNat_natCast] at this
    exact this
  obtain ⟨ρ', s', f1, rfl, y4, y5, y6, y7, y8, rfl⟩ := for_ix (g := t__law_gains_2) (body := b__law_gains_2)
    (fun i ρ s' => s' = Sg pre os cs l p (L ++ gl2 o ts i b) ∧ ∃ y4 y5 y6 y7 y8, ρ = ge o ts pre os (some (tN b)) y4 y5 y6 y7 y8) hF ⟨by show _ = Sg pre os cs l p (L ++ []); rw [List.append_nil], _, _, _, _, _, rfl⟩ fun i x ρ s' hx hJ => by
      obtain ⟨rfl, y4, y5, y6, y7, y8, rfl⟩ := hJ
      obtain ⟨hi, rfl⟩ := rng_get hx
      have := gl2_len (o := o) (ts := ts) (b := b) (k := i) (by omega)
      obtain ⟨z5, z6, z7, z8, f⟩ := gains1 (cs := cs) (l := l) (p := p) (L := L ++ gl2 o ts i b) (b := b) (m := i) (x5 := y5) (x6 := y6) (x7 := y7) (x8 := y8) ho hB hb hbl (by omega) (by rw [List.length_append]; omega)
      refine ⟨ge o ts pre os (some (tN b)) (some (.int (i : Int))) y5 y6 y7 y8, _, _, by rw [Int.zero_add]; rfl, .inl f, ?_, _, _, _, _, _, rfl⟩
      unfold gl2
      rw [List.range_succ, List.flatMap_append, List.append_assoc]
      show _ = Sg pre os cs l p (L ++ (_ ++ (gl1 o ts b i ++ [])))
      rw [List.append_nil]
  rw [rng_len] at f1
  exact ⟨y4, y5, y6, y7, y8, f1⟩
theorem gains_ok (ho : ClP pre os) (hB : Bill o ts) : g__law_gains [bi o ts] (St pre os cs l p) = .ok (.lst ((gl o ts (brs (wd ts))).map pq)) (St pre os cs l p) := by
  obtain ⟨w1, w6⟩ := wd_rng hB.ok
  have hp : 2 ^ wd ts ≤ 64 := Nat.le_trans (Nat.pow_le_pow_right (by decide) w6) (by decide)
  have e0 : startD 9 [bi o ts] = [some (bi o ts), none, none, none, none, none, none, none, none] := rfl
  have e1 : mPar 1 2 (mCons (mCall (g__law_wide) (mCons (mVar 0) mNil)) (mCons (mLstM (mCons (mTup (mCons (mK (.int 0)) (mCons (mK (.int 0)) mNil))) mNil)) mNil)) [some (bi o ts), none, none, none, none, none, none, none, none] (St pre os cs l p) = .nx (ge o ts pre os none none none none none none) (Sg pre os cs l p (gl o ts [])) := by
    have h1 : mCall (g__law_wide) (mCons (mVar 0) mNil) [some (bi o ts), none, none, none, none, none, none, none, none] (St pre os cs l p) = .ok (.int (wd ts : Int)) (St pre os cs l p) := by
      rw [call_ev, cons_v (w := bi o ts) rfl nil_ev, bind_ok]
      exact law_wide_ok hB.ok hB.two
    have h2 := lstM_s (pre := pre) (os := os) (cs := cs) (l := l) (p := p) (l' := l) (p' := p) (ρ := [some (bi o ts), none, none, none, none, none, none, none, none]) (fa := mCons (mTup (mCons (mK (.int 0)) (mCons (mK (.int 0)) mNil))) mNil) (ws := [.tup [.int 0, .int 0]]) (cons_v (tup_v (cons_v k_ev (cons_v k_ev nil_ev)) (by show 2 ≤ 1000000; decide)) nil_ev) (by show 1 ≤ 1000000; decide)
    rw [par_ev, h1, then_ok, h2, then_ok]
    rfl
  have hF : F__law_gains_3 (ge o ts pre os none none none none none none) (Sg pre os cs l p (gl o ts [])) = .ok { ws := (brs (wd ts)).map tN } (Sg pre os cs l p (gl o ts [])) := by
    unfold F__law_gains_3 iSeq
    rw [call_ev, cons_v (w := .int (wd ts : Int)) rfl nil_ev, bind_ok, bit_rows_ok (by omega), bind_ok]
    rfl
  obtain ⟨ρ', s', f1, rfl, y3, y4, y5, y6, y7, y8, rfl⟩ := for_ix (g := t__law_gains_3) (body := b__law_gains_3)
    (fun i ρ s' => s' = Sg pre os cs l p (gl o ts ((brs (wd ts)).take i)) ∧ ∃ y3 y4 y5 y6 y7 y8, ρ = ge o ts pre os y3 y4 y5 y6 y7 y8) hF ⟨rfl, _, _, _, _, _, _, rfl⟩ fun i x ρ s' hx hJ => by
      obtain ⟨rfl, y3, y4, y5, y6, y7, y8, rfl⟩ := hJ
      rw [List.getElem?_map] at hx
      cases hq : (brs (wd ts))[i]? with
      | none => rw [hq] at hx; cases hx
      | some b =>
        rw [hq] at hx
        cases hx
        obtain ⟨h1, h2⟩ := mem_brs.mp (List.mem_of_getElem? hq)
        have hgl := gl_len (o := o) (bs := (brs (wd ts)).take i) w6 (by rw [List.length_take, brs_len]; omega)
        obtain ⟨z4, z5, z6, z7, z8, f⟩ := gains2 (cs := cs) (l := l) (p := p) (L := gl o ts ((brs (wd ts)).take i)) (b := b) (x4 := y4) (x5 := y5) (x6 := y6) (x7 := y7) (x8 := y8) ho hB h1 h2 (by omega)
        refine ⟨ge o ts pre os (some (tN b)) y4 y5 y6 y7 y8, _, _, rfl, .inl f, ?_, _, _, _, _, _, _, rfl⟩
        unfold gl
        rw [List.take_succ, hq, List.flatMap_append, List.cons_append]
        show _ = Sg pre os cs l p ((0, 0) :: (_ ++ (gl2 o ts (wd ts + 1) b ++ [])))
        rw [List.append_nil]
  rw [List.length_map, brs_len, List.take_of_length_le (by rw [brs_len]; exact Nat.le_refl _)] at f1
  unfold g__law_gains d__law_gains
  rw [den_ev, e0]
  refine fin_nx e1 (fin_nx f1 ?_)
  rw [ret_v (w := .ref (r1 pre os)) rfl]
  exact MP.PG.fin_lst ho (fz_cl (cleans_pq _ _))
end
end MP.K13
set_option Elab.async false
set_option linter.all false
set_option maxRecDepth 100000
set_option maxHeartbeats 1000000
namespace MP.K13
open PySem PySem.Spec MP MP.PG
open PyProof.Rows hiding St
open L2 hiding St r1
section
variable {o : Int} {ts : List Term} {s : Sto}
theorem num_lt {b : List Nat} (hb : Bits01 b) : num b < 2 ^ b.length := by
  have := rnum_lt (r := b.reverse) fun c hc => hb c (List.mem_reverse.mp hc)
  rwa [List.length_reverse] at this
theorem Gw_gn {b h : List Nat} (hB : Bill o ts) (hb : Bits01 b) (hbl : b.length = wd ts) (hh : Bits01 h) (hl : h.length ≤ wd ts) : Gw o ts b h = gn (bpF o ts) (wd ts) (num b) h := by
  obtain ⟨w1, w6⟩ := wd_rng hB.ok
  have e : ∀ d, d < 2 → (pys o ts (toI (b ++ [d] ++ h))).sum = wsum (bpF o ts) (2 ^ wd ts) (d :: h) (num b) := fun d hd => by
    rw [List.append_assoc]
    exact worth_bits hB.ok hb (fun c hc => by
      rcases List.mem_cons.mp hc with rfl | hc
      · exact hd
      · exact hh c hc) hbl
  unfold Gw
  rw [e 1 (by decide), e 0 (by decide)]
  exact flip_one (by omega) hh hl
theorem mem_gl {q : Int × Nat} : q ∈ gl o ts (brs (wd ts)) ↔ q = (0, 0) ∨ ∃ b h, Bits01 b ∧ b.length = wd ts ∧ Bits01 h ∧ h.length ≤ wd ts ∧ q = (Gw o ts b h, h.length + 1) := by
  unfold gl
  rw [List.mem_cons, List.mem_flatMap]
  refine or_congr_right ?_
  constructor
  · rintro ⟨b, hb, h⟩
    obtain ⟨m, hm, h⟩ := List.mem_flatMap.mp h
    obtain ⟨k, hk, rfl⟩ := List.mem_map.mp h
    obtain ⟨b1, b2⟩ := mem_brs.mp hb
    obtain ⟨k1, k2⟩ := mem_brs.mp hk
    have := List.mem_range.mp hm
    exact ⟨b, k, b1, b2, k1, by omega, by rw [k2]⟩
  · rintro ⟨b, h, b1, b2, k1, k2, rfl⟩
    exact ⟨b, mem_brs.mpr ⟨b1, b2⟩, List.mem_flatMap.mpr ⟨h.length, List.mem_range.mpr (by omega), List.mem_map.mpr ⟨h, mem_brs.mpr ⟨k1, rfl⟩, rfl⟩⟩⟩
/-- the rows that gain the most -/
theorem Gw_best (hB : Bill o ts) : Gw o ts (digs 2 (wd ts) (bst (bpF o ts) (wd ts))) (fbs (bpF o ts) (wd ts)) = Gs (bpF o ts) (wd ts) := by
  obtain ⟨w1, w6⟩ := wd_rng hB.ok
  rw [Gw_gn hB digs_bits digs_len fbs_bits fbs_len, num_digs (bst_ok w6).1, Gs_eq w6]
theorem Gw_le {b h : List Nat} (hB : Bill o ts) (hb : Bits01 b) (hbl : b.length = wd ts) (hh : Bits01 h) (hl : h.length ≤ wd ts) : Gw o ts b h ≤ Gs (bpF o ts) (wd ts) ∧ (Gw o ts b h = Gs (bpF o ts) (wd ts) → (fbs (bpF o ts) (wd ts)).length ≤ h.length) := by
  obtain ⟨w1, w6⟩ := wd_rng hB.ok
  rw [Gw_gn hB hb hbl hh hl]
  exact Gs_most w6 (by have := num_lt hb; rwa [hbl] at this) hh hl
theorem gg_pos (h : 0 < Gs (bpF o ts) (wd ts)) : gg o ts = Gs (bpF o ts) (wd ts) := if_pos h
theorem gg_neg (h : ¬ 0 < Gs (bpF o ts) (wd ts)) : gg o ts = 0 := if_neg h
def ls (o : Int) (ts : List Term) : Nat := if 0 < Gs (bpF o ts) (wd ts) then (fbs (bpF o ts) (wd ts)).length + 1 else 0
theorem best_mem (hB : Bill o ts) : (Gs (bpF o ts) (wd ts), (fbs (bpF o ts) (wd ts)).length + 1) ∈ gl o ts (brs (wd ts)) :=
  mem_gl.mpr (.inr ⟨_, _, digs_bits, digs_len, fbs_bits, fbs_len, by rw [Gw_best hB]⟩)
theorem gg_mem (hB : Bill o ts) : (gg o ts, ls o ts) ∈ gl o ts (brs (wd ts)) := by
  by_cases h : 0 < Gs (bpF o ts) (wd ts)
  · rw [gg_pos h]
    unfold ls
    rw [if_pos h]
    exact best_mem hB
  · rw [gg_neg h]
    unfold ls
    rw [if_neg h]
    exact mem_gl.mpr (.inl rfl)
theorem due_eq (hB : Bill o ts) : maxO 0 ((gl o ts (brs (wd ts))).map (·.1)) = gg o ts := by
  refine (maxO_uniq (List.mem_map.mpr ⟨_, gg_mem hB, rfl⟩) fun y hy => ?_).symm
  obtain ⟨q, hq, rfl⟩ := List.mem_map.mp hy
  rcases mem_gl.mp hq with rfl | ⟨b, h, h1, h2, h3, h4, rfl⟩
  · exact gg_ge.1
  · exact Int.le_trans (Gw_le hB h1 h2 h3 h4).1 gg_ge.2
theorem least_eq (hB : Bill o ts) : minO 0 (((gl o ts (brs (wd ts))).filter fun q => decide (q.1 = gg o ts)).map fun q => (q.2 : Int)) = (ls o ts : Int) := by
  refine (minO_uniq (List.mem_map.mpr ⟨_, List.mem_filter.mpr ⟨gg_mem hB, decide_eq_true rfl⟩, rfl⟩) fun y hy => ?_).symm
  obtain ⟨q, hq, rfl⟩ := List.mem_map.mp hy
  obtain ⟨hq, he⟩ := List.mem_filter.mp hq
  have he := of_decide_eq_true he
  unfold ls
  by_cases hp : 0 < Gs (bpF o ts) (wd ts)
  · rw [if_pos hp]
    rw [gg_pos hp] at he
    rcases mem_gl.mp hq with rfl | ⟨b, h, h1, h2, h3, h4, rfl⟩
    · exact absurd he (by show ¬ (0 : Int) = _; omega)
    · have := (Gw_le hB h1 h2 h3 h4).2 he
      show _ ≤ ((h.length + 1 : Nat) : Int)
      omega
  · rw [if_neg hp]
    omega
theorem Gw_abs {b h : List Nat} (hB : Bill o ts) (hb : Bits01 b) (hbl : b.length = wd ts) (hh : Bits01 h) (hl : h.length ≤ wd ts) : (Gw o ts b h).natAbs ≤ 100000000000000 := by
  obtain ⟨w1, w6⟩ := wd_rng hB.ok
  have hrow : ∀ d : Nat, d < 2 → Bits01 (b ++ [d] ++ h) := fun d hd c hc => by
    rcases List.mem_append.mp hc with hc | hc
    · rcases List.mem_append.mp hc with hc | hc
      · exact hb c hc
      · rw [List.mem_singleton.mp hc]; exact hd
    · exact hh c hc
  have hs : ∀ d : Nat, d < 2 → (pys o ts (toI (b ++ [d] ++ h))).sum.natAbs ≤ 20 * 30000000000 := fun d hd => by
    have hlen : (b ++ [d] ++ h).length ≤ 20 := by rw [List.length_append, List.length_append, hbl]; show wd ts + 1 + h.length ≤ 20; omega
    have := sum_abs (pys_abs hB (row_bits (hrow d hd) (by omega)))
    refine Nat.le_trans this (Nat.mul_le_mul_right _ ?_)
    rw [pys_len, List.length_map]
    omega
  have h1 := hs 1 (by decide)
  have h0 := hs 0 (by decide)
  unfold Gw
  omega
theorem gl_small (hB : Bill o ts) {q : Int × Nat} (hq : q ∈ gl o ts (brs (wd ts))) : q.1.natAbs ≤ 100000000000000 ∧ q.2 ≤ 7 := by
  obtain ⟨w1, w6⟩ := wd_rng hB.ok
  rcases mem_gl.mp hq with rfl | ⟨b, h, h1, h2, h3, h4, rfl⟩
  · exact ⟨by decide, by decide⟩
  · exact ⟨Gw_abs hB h1 h2 h3 h4, by show h.length + 1 ≤ 7; omega⟩
theorem gg_small (hB : Bill o ts) : (gg o ts).natAbs ≤ 100000000000000 := (gl_small hB (gg_mem hB)).1
theorem nr_len (hB : Bill o ts) {d : Nat} : (nr o ts d).length = wd ts + ls o ts := by
  unfold nr ls
  by_cases h : 0 < Gs (bpF o ts) (wd ts)
  · rw [if_pos h, if_pos h, List.length_append, List.length_append, digs_len]
    show wd ts + 1 + _ = _
    omega
  · rw [if_neg h, if_neg h, List.length_replicate]
    rfl
theorem nr_bits {d : Nat} (hd : d < 2) : Bits01 (nr o ts d) := by
  unfold nr
  by_cases h : 0 < Gs (bpF o ts) (wd ts)
  · rw [if_pos h]
    intro c hc
    rcases List.mem_append.mp hc with hc | hc
    · rcases List.mem_append.mp hc with hc | hc
      · exact digs_bits c hc
      · rw [List.mem_singleton.mp hc]; exact hd
    · exact fbs_bits c hc
  · rw [if_neg h]
    intro c hc
    rw [(List.mem_replicate.mp hc).2]
    decide
theorem nr_gain (hB : Bill o ts) : (pys o ts (toI (nr o ts 1))).sum - (pys o ts (toI (nr o ts 0))).sum = gg o ts := by
  unfold nr
  by_cases h : 0 < Gs (bpF o ts) (wd ts)
  · rw [if_pos h, if_pos h, gg_pos h]
    exact Gw_best hB
  · rw [if_neg h, if_neg h, gg_neg h]
    omega
theorem nr_take (hB : Bill o ts) : (nr o ts 0).take (wd ts) = (nr o ts 1).take (wd ts) := by
  unfold nr
  by_cases h : 0 < Gs (bpF o ts) (wd ts)
  · rw [if_pos h, if_pos h, List.append_assoc, List.append_assoc, List.take_append_of_le_length (by rw [digs_len]; exact Nat.le_refl _), List.take_append_of_le_length (by rw [digs_len]; exact Nat.le_refl _)]
  · rw [if_neg h, if_neg h]
theorem zip_self_filter : ∀ l : List Nat, (l.zip l).filter (fun q => !decide (q.1 = q.2)) = []
  | [] => rfl
  | a :: l => by
    show List.filter _ ((a, a) :: l.zip l) = []
    rw [List.filter_cons_of_neg (by simp)]
    exact zip_self_filter l
theorem nr_diff (hB : Bill o ts) : (((nr o ts 0).zip (nr o ts 1)).filter fun q => !decide (q.1 = q.2)).length ≤ 1 := by
  unfold nr
  by_cases h : 0 < Gs (bpF o ts) (wd ts)
  · rw [if_pos h, if_pos h, List.append_assoc, List.append_assoc, List.zip_append rfl, List.filter_append, zip_self_filter]
    have e : ([0] ++ fbs (bpF o ts) (wd ts)).zip ([1] ++ fbs (bpF o ts) (wd ts)) = (0, 1) :: (fbs (bpF o ts) (wd ts)).zip (fbs (bpF o ts) (wd ts)) := rfl
    rw [e, List.nil_append, List.filter_cons_of_pos (by simp), zip_self_filter]
    exact Nat.le_refl _
  · rw [if_neg h, if_neg h, zip_self_filter]
    exact Nat.zero_le _
theorem nr_up (hB : Bill o ts) : ∀ q ∈ (nr o ts 0).zip (nr o ts 1), q.1 ≤ q.2 ∧ q.2 < 2 := fun q hq => by
  have h2 : q.2 < 2 := nr_bits (by decide) _ (List.of_mem_zip (a := q.1) (b := q.2) hq).2
  refine ⟨?_, h2⟩
  unfold nr at hq
  have self : ∀ l : List Nat, ∀ z ∈ l.zip l, z.1 ≤ z.2 := fun l => by
    induction l with
    | nil => intro z hz; cases hz
    | cons a l ih =>
      intro z hz
      rcases List.mem_cons.mp hz with rfl | hz
      · exact Nat.le_refl _
      · exact ih z hz
  by_cases h : 0 < Gs (bpF o ts) (wd ts)
  · rw [if_pos h, if_pos h, List.append_assoc, List.append_assoc, List.zip_append rfl] at hq
    rcases List.mem_append.mp hq with hq | hq
    · exact self _ _ hq
    · rcases List.mem_cons.mp hq with rfl | hq
      · exact Nat.zero_le _
      · exact self _ _ hq
  · rw [if_neg h, if_neg h] at hq
    exact self _ _ hq
end
end MP.K13
set_option Elab.async false
set_option linter.all false
set_option maxRecDepth 100000
set_option maxHeartbeats 1000000
namespace MP.K13
open PySem PySem.Spec MP MP.PG
open PyProof.Rows hiding St
open L2 hiding St r1
section
variable {o : Int} {ts : List Term} {pre os : Sto} {cs : List Int} {l p : Int}
abbrev he (o : Int) (ts : List Term) (pre : Sto) (x4 x5 x6 x7 x8 : Option Dv) : Env := [some (.ref pre.length), some (bi o ts), some (.int (wd ts : Int)), some (.int (gg o ts)), x4, x5, x6, x7, x8]
theorem res_turn {x4 x5 x6 x7 x8 : Option Dv} (hB : Bill o ts) (hc : cs ≠ []) (hp : 0 ≤ p) (hp2 : p < 800000) :
    ∃ y5 y6 y7 y8 l' p', b__law_results_right_1 (he o ts pre x4 x5 x6 x7 x8) (St pre os cs l p) = .nx (he o ts pre x4 y5 y6 y7 y8) (St pre os cs l' p') ∧ 0 ≤ p' ∧ p' ≤ p + 30 := by
  obtain ⟨w1, w6⟩ := wd_rng hB.ok
  obtain ⟨hv, l1, p1, hm, o1, p10, p11⟩ := law_of_ok (pre := pre) (tl := os) (l := l) (p := p) (ws := [.int 1, .int 5, .int 900000]) hc hp (by omega) (by intro z; cases z) (by show 3 < 1000; decide)
  obtain ⟨high, rfl, hh0, hh1⟩ : ∃ i : Int, hv = .int i ∧ 0 ≤ i ∧ i ≤ 900000 := by
    rcases List.mem_cons.mp hm with rfl | hm
    · exact ⟨1, rfl, by decide, by decide⟩
    · rcases List.mem_cons.mp hm with rfl | hm
      · exact ⟨5, rfl, by decide, by decide⟩
      · rcases List.mem_cons.mp hm with rfl | hm
        · exact ⟨900000, rfl, by decide, by decide⟩
        · cases hm
  obtain ⟨ns, l2, p2, d2, n1, n2, n3, p20, p21⟩ := drawn_row_ok (pre := pre) (tl := os) (l := l1) (p := p1) (least := (wd ts : Int) + 1) (more := 9) (high := high) hc p10 (by omega) (by omega) (by decide) (by omega) hh0 (by omega)
  obtain ⟨k, l3, p3, d3, k0, k1, p30, p31⟩ := (draw_ok (pre := pre) (tl := os) (l := l2) hc (show (0 : Int) < (ns.length : Int) - wd ts by omega) (by omega) p20 (by omega)).ok
  obtain ⟨m, l4, p4, d4, m0, m1, p40, p41⟩ := (draw_ok (pre := pre) (tl := os) (l := l3) hc (show (0 : Int) < 90000 by decide) (by decide) p30 (by omega)).ok
  obtain ⟨k, rfl⟩ : ∃ j : Nat, k = j := ⟨k.toNat, by omega⟩
  obtain ⟨m, rfl⟩ : ∃ j : Nat, m = j := ⟨m.toNat, by omega⟩
  have hlt : wd ts + k < ns.length := by omega
  obtain ⟨x, hx⟩ : ∃ x, ns[wd ts + k]? = some x := ⟨_, List.getElem?_eq_getElem hlt⟩
  have hxr := n3 x (List.mem_of_getElem? hx)
  obtain ⟨x, rfl⟩ : ∃ j : Nat, x = j := ⟨x.toNat, by omega⟩
  have hns : ns = ns.take (wd ts + k) ++ (x : Int) :: ns.drop (wd ts + k + 1) := by
    have h1 := List.take_append_drop (wd ts + k) ns
    rw [List.drop_eq_getElem_cons hlt] at h1
    rw [Option.some.inj ((List.getElem?_eq_getElem hlt).symm.trans hx)] at h1
    exact h1.symm
  generalize hP : ns.take (wd ts + k) = P at hns
  generalize hQ : ns.drop (wd ts + k + 1) = Q at hns
  have hPl : P.length = wd ts + k := by rw [← hP, List.length_take]; omega
  have hPm : ∀ n ∈ P, 0 ≤ n ∧ n ≤ 900000 := fun n hn => by
    have := n3 n (by rw [hns]; exact List.mem_append_left _ hn)
    omega
  have hQm : ∀ n ∈ Q, 0 ≤ n ∧ n ≤ 900000 := fun n hn => by
    have := n3 n (by rw [hns]; exact List.mem_append_right _ (List.mem_cons_of_mem _ hn))
    omega
  have hQl : P.length + (Q.length + 1) ≤ 200 := by
    have : ns.length = P.length + (Q.length + 1) := by rw [hns, List.length_append, List.length_cons]
    omega
  have hrow : ∀ z : Int, 0 ≤ z → z ≤ 1000000 → Row (P ++ z :: Q) := fun z h1 h2 => ⟨by rw [List.length_append, List.length_cons]; exact hQl, fun i hi => by
    rcases List.mem_append.mp hi with hi | hi
    · have := hPm i hi; omega
    · rcases List.mem_cons.mp hi with rfl | hi
      · exact ⟨h1, h2⟩
      · have := hQm i hi; omega⟩
  let near : Dv := tI (P ++ (x : Int) :: Q)
  let far : Dv := tI (P ++ ((x + m : Nat) : Int) :: Q)
  have hnear : tI ns = near := congrArg tI hns
  have c1 : mAsg (mCall (g__law_drawn_row) (mCons (mVar 0) (mCons (mBin addD (mVar 2) (mK (.int 1))) (mCons (mK (.int 9)) (mCons (mCall (g__law_of) (mCons (mVar 0) (mCons (mLst (mCons (mK (.int 1)) (mCons (mK (.int 5)) (mCons (mK (.int 900000)) mNil)))) mNil))) mNil))))) (gN 5) (he o ts pre x4 x5 x6 x7 x8) (St pre os cs l p) = .nx (he o ts pre x4 (some near) x6 x7 x8) (St pre os cs l2 p2) := by
    refine (asg_v (w := near) (s1 := St pre os cs l2 p2) ?_).trans rfl
    have hof : mCall (g__law_of) (mCons (mVar 0) (mCons (mLst (mCons (mK (.int 1)) (mCons (mK (.int 5)) (mCons (mK (.int 900000)) mNil)))) mNil)) (he o ts pre x4 x5 x6 x7 x8) (St pre os cs l p) = .ok (.int high) (St pre os cs l1 p1) := by
      rw [call_ev, cons_v (w := .ref pre.length) rfl (cons_v (lst_v (cons_v k_ev (cons_v k_ev (cons_v k_ev nil_ev))) (by show 3 ≤ 1000000; decide)) nil_ev), bind_ok]
      exact o1
    rw [call_ev, cons_v (w := .ref pre.length) rfl (cons_v (w := .int ((wd ts : Int) + 1)) (bin_v (x := .int (wd ts : Int)) (y := .int 1) rfl rfl add_ii) (cons_v k_ev (cons_v hof nil_ev))), bind_ok, d2, hnear]
  have c2 : mPar 6 7 (mCons (mBin addD (mVar 2) (mCall (g__law_draw) (mCons (mVar 0) (mCons (mBin subD (mBlt lenD (mCons (mVar 5) mNil)) (mVar 2)) mNil)))) (mCons (mCall (g__law_draw) (mCons (mVar 0) (mCons (mK (.int 90000)) mNil))) mNil)) (he o ts pre x4 (some near) x6 x7 x8) (St pre os cs l2 p2) = .nx (he o ts pre x4 (some near) (some (.int ((wd ts + k : Nat) : Int))) (some (.int (m : Int))) x8) (St pre os cs l4 p4) := by
    have h1 : mBin addD (mVar 2) (mCall (g__law_draw) (mCons (mVar 0) (mCons (mBin subD (mBlt lenD (mCons (mVar 5) mNil)) (mVar 2)) mNil))) (he o ts pre x4 (some near) x6 x7 x8) (St pre os cs l2 p2) = .ok (.int ((wd ts + k : Nat) : Int)) (St pre os cs l3 p3) := by
      refine bin_v (x := .int (wd ts : Int)) (y := .int (k : Int)) rfl ?_ (by rw [add_ii, Int.natCast_add])
      rw [call_ev, cons_v (w := .ref pre.length) rfl (cons_v (w := .int ((ns.length : Int) - wd ts)) (bin_v (x := .int (ns.length : Int)) (y := .int (wd ts : Int)) (blt_v (cons_v (w := near) rfl nil_ev) (by rw [← hnear, len_tup, List.length_map])) rfl sub_ev) nil_ev), bind_ok]
      exact d3
    have h2 : mCall (g__law_draw) (mCons (mVar 0) (mCons (mK (.int 90000)) mNil)) (he o ts pre x4 (some near) x6 x7 x8) (St pre os cs l3 p3) = .ok (.int (m : Int)) (St pre os cs l4 p4) := by
      rw [call_ev, cons_v (w := .ref pre.length) rfl (cons_v k_ev nil_ev), bind_ok]
      exact d4
    rw [par_ev, h1, then_ok, h2, then_ok]
    rfl
  have c3 : mAsg (mBin addD (mBin addD (mSl slA (mVar 5) mNoPart (mPart (mVar 6))) (mTup (mCons (mBin addD (mBin ixA (mVar 5) (mVar 6)) (mVar 7)) mNil))) (mSl slA (mVar 5) (mPart (mBin addD (mVar 6) (mK (.int 1)))) mNoPart)) (gN 8) (he o ts pre x4 (some near) (some (.int ((wd ts + k : Nat) : Int))) (some (.int (m : Int))) x8) (St pre os cs l4 p4) = .nx (he o ts pre x4 (some near) (some (.int ((wd ts + k : Nat) : Int))) (some (.int (m : Int))) (some far)) (St pre os cs l4 p4) := by
    have hl : ∀ L : List Int, (L.map Dv.int).length = L.length := fun L => List.length_map _
    have s1 : mSl slA (mVar 5) mNoPart (mPart (mVar 6)) (he o ts pre x4 (some near) (some (.int ((wd ts + k : Nat) : Int))) (some (.int (m : Int))) x8) (St pre os cs l4 p4) = .ok (tI P) (St pre os cs l4 p4) := by
      refine sl_v (x := near) rfl nopart_ev (part_v (i := ((wd ts + k : Nat) : Int)) rfl) ?_
      rw [sl_tup, cut_to, ← List.map_take, ← hPl, List.take_left]
    have s2 : mSl slA (mVar 5) (mPart (mBin addD (mVar 6) (mK (.int 1)))) mNoPart (he o ts pre x4 (some near) (some (.int ((wd ts + k : Nat) : Int))) (some (.int (m : Int))) x8) (St pre os cs l4 p4) = .ok (tI Q) (St pre os cs l4 p4) := by
      refine sl_v (x := near) rfl (part_v (i := ((wd ts + k + 1 : Nat) : Int)) (bin_v (x := .int ((wd ts + k : Nat) : Int)) (y := .int 1) rfl rfl (by rw [add_ii]; rfl))) nopart_ev ?_
      rw [sl_tup, cut_from, ← List.map_drop, show P ++ (x : Int) :: Q = (P ++ [(x : Int)]) ++ Q by rw [List.append_assoc]; rfl, show wd ts + k + 1 = (P ++ [(x : Int)]).length by rw [List.length_append, hPl]; rfl, List.drop_left]
    have s3 : mTup (mCons (mBin addD (mBin ixA (mVar 5) (mVar 6)) (mVar 7)) mNil) (he o ts pre x4 (some near) (some (.int ((wd ts + k : Nat) : Int))) (some (.int (m : Int))) x8) (St pre os cs l4 p4) = .ok (tI [((x + m : Nat) : Int)]) (St pre os cs l4 p4) := by
      refine tup_v (cons_v (w := .int ((x + m : Nat) : Int)) (bin_v (x := .int (x : Int)) (y := .int (m : Int)) (bin_v (x := near) (y := .int ((wd ts + k : Nat) : Int)) rfl rfl (ix_tup ?_)) rfl (by rw [add_ii, Int.natCast_add])) nil_ev) (by show 1 ≤ 1000000; decide)
      show ((P ++ (x : Int) :: Q).map Dv.int)[wd ts + k]? = _
      rw [List.getElem?_map, List.getElem?_append_right (by omega), hPl, Nat.sub_self]
      rfl
    refine (asg_v (w := far) (bin_v (x := tI (P ++ [((x + m : Nat) : Int)])) (y := tI Q) (bin_v s1 s3 ((add_tup (by rw [hl, hl]; show P.length + 1 ≤ 1000000; omega)).trans (by rw [← List.map_append]))) s2 ((add_tup (by rw [hl, hl, List.length_append]; show P.length + 1 + Q.length ≤ 1000000; omega)).trans ?_))).trans rfl
    rw [← List.map_append, List.append_assoc]
    rfl
  have hxm : x + m ≤ 1000000 := by omega
  have hg := gain_ok (s := St pre os cs l4 p4) (x := (x : Int)) (y := ((x + m : Nat) : Int)) hB (hrow x (by omega) (by omega)) (hrow ((x + m : Nat) : Int) (by omega) (by omega)) (by omega) (by omega)
  have hle := gain_le (o := o) (ts := ts) (pre := P) (post := Q) (x := x) (more := m) (M := 1000000) hB (by omega) (fun n hn => by have := hPm n hn; omega) (fun n hn => by have := hQm n hn; omega) hxm
  have c4 : mIfS (mTest (mBin gtD (mCall (g_gain) (mCons (mVar 1) (mCons (mVar 5) (mCons (mVar 8) mNil)))) (mBin mulD (mVar 7) (mVar 3)))) (mRet (mK (.bl false))) mNext (he o ts pre x4 (some near) (some (.int ((wd ts + k : Nat) : Int))) (some (.int (m : Int))) (some far)) (St pre os cs l4 p4) = .nx (he o ts pre x4 (some near) (some (.int ((wd ts + k : Nat) : Int))) (some (.int (m : Int))) (some far)) (St pre os cs l4 p4) := by
    refine (ifS_f (test_v (bin_v (x := .int ((pys o ts (P ++ ((x + m : Nat) : Int) :: Q)).sum - (pys o ts (P ++ (x : Int) :: Q)).sum)) (y := .int ((m : Int) * gg o ts)) ?_ (bin_v (x := .int (m : Int)) (y := .int (gg o ts)) rfl rfl (mul_ii (cm_l ⟨by omega, by omega⟩))) ?_))).trans rfl
    · rw [call_ev, cons_v (w := bi o ts) rfl (cons_v (w := near) rfl (cons_v (w := far) rfl nil_ev)), bind_ok]
      exact hg
    · rw [gt_ii, decide_eq_false (by omega)]
  refine ⟨some near, some (.int ((wd ts + k : Nat) : Int)), some (.int (m : Int)), some far, l4, p4, ?_, p40, by omega⟩
  unfold b__law_results_right_1
  exact seq_nx c1 (seq_nx c2 (seq_nx c3 c4))
theorem results_ok (hB : Bill o ts) (hc : cs ≠ []) (hp : 0 ≤ p) (hp2 : p < 700000) :
    ∃ l' p', g__law_results_right [.ref pre.length, bi o ts, .int (wd ts : Int), .int (gg o ts)] (St pre os cs l p) = .ok (.bl true) (St pre os cs l' p') ∧ 0 ≤ p' ∧ p' ≤ p + 150 := by
  have e0 : startD 9 [.ref pre.length, bi o ts, .int (wd ts : Int), .int (gg o ts)] = he o ts pre none none none none none := rfl
  have hF : F__law_results_right_1 (he o ts pre none none none none none) (St pre os cs l p) = .ok { ws := rng 0 5 } (St pre os cs l p) := range1_ok (fa := mCons (mK (.int 5)) mNil) (ρ := he o ts pre none none none none none) (s := St pre os cs l p) (cons_v k_ev nil_ev) (okR_s (by decide) (by decide))
  obtain ⟨ρ', s', f1, l', p', rfl, x4, x5, x6, x7, x8, rfl, q0, q1⟩ := for_ix (g := t__law_results_right_1) (body := b__law_results_right_1)
    (fun i ρ s' => ∃ l' p', s' = St pre os cs l' p' ∧ ∃ x4 x5 x6 x7 x8, ρ = he o ts pre x4 x5 x6 x7 x8 ∧ 0 ≤ p' ∧ p' ≤ p + 30 * (i : Int)) hF ⟨l, p, rfl, _, _, _, _, _, rfl, hp, by omega⟩ fun i x ρ s' hx hJ => by
      obtain ⟨l', p', rfl, x4, x5, x6, x7, x8, rfl, q0, q1⟩ := hJ
      obtain ⟨hi, rfl⟩ := rng_get hx
      obtain ⟨y5, y6, y7, y8, l2, p2, f, r0, r1⟩ := res_turn (pre := pre) (os := os) (l := l') (p := p') (x4 := some (.int (0 + (i : Int)))) (x5 := x5) (x6 := x6) (x7 := x7) (x8 := x8) hB hc q0 (by omega)
      exact ⟨_, _, _, rfl, .inl f, l2, p2, rfl, _, _, _, _, _, rfl, r0, by omega⟩
  rw [rng_len] at q1
  refine ⟨l', p', ?_, q0, by omega⟩
  unfold g__law_results_right d__law_results_right
  rw [den_ev, e0]
  refine fin_nx f1 ?_
  rw [ret_v k_ev]
  exact fin_St
end
end MP.K13
set_option Elab.async false
set_option linter.all false
set_option maxRecDepth 100000
set_option maxHeartbeats 2000000
namespace MP.K13
open PySem PySem.Spec MP MP.PG
open PyProof.Rows hiding St
open L2 hiding St r1
section
variable {o : Int} {ts : List Term} {pre os : Sto} {cs : List Int} {l p : Int} {s : Sto}
theorem min_I {l : List Int} (h : l ≠ []) : minLD s [lI l] = some (.int (minO 0 l)) := by
  cases l with
  | nil => exact absurd rfl h
  | cons a l =>
    show (match intsOf ((a :: l).map .int) with
      | some (n :: ns) => some (Dv.int (minO 0 (n :: ns)))
      | _ => none) = _
    rw [intsOf_I]
theorem ne_bb {b : Bool} : neD s (.bl b) (.bl b) = some (.bl false) := by cases b <;> rfl
theorem rA_ne {f g : FE} {ρ : Env} {s1 : Sto} {w : Dv} (h1 : f ρ s = .ok w s1) (h2 : g ρ s1 = .ok w s1) (r : ∃ t, reprA s1 [w] = some (.str t)) : mTest (mBin neD (mBlt reprA (mCons f mNil)) (mBlt reprA (mCons g mNil))) ρ s = .ok false s1 := by
  obtain ⟨t, ht⟩ := r
  exact test_v (bin_v (x := .str t) (y := .str t) (blt_v (cons_v h1 nil_ev) ht) (blt_v (cons_v h2 nil_ev) ht) (ne_of_eq eq_refl_ss))
theorem pl_tN {l : List Nat} (hl : l.length ≤ 100) (hb : Bits01 l) : Pl 101 1 (tN l) (.tuple ((toI l).map .int)) := by
  rw [tN_tI]
  refine (pl_tI (ns := toI l) fun i hi => ?_).mono (by rw [List.length_map]; omega) (Nat.le_refl _)
  obtain ⟨b, hb', rfl⟩ := List.mem_map.mp hi
  have := hb b hb'
  exact smN (by omega)
theorem in_pair {a b : Nat} (h : a ≤ b ∧ b < 2) : inT true s (.tup [.int (a : Int), .int (b : Int)]) (.tup [.tup [.int 0, .int 0], .tup [.int 0, .int 1], .tup [.int 1, .int 1]]) = some (.bl false) := by
  rcases (by omega : (a = 0 ∧ b = 0) ∨ (a = 0 ∧ b = 1) ∨ (a = 1 ∧ b = 1)) with ⟨rfl, rfl⟩ | ⟨rfl, rfl⟩ | ⟨rfl, rfl⟩ <;> rfl
theorem zip_nat : ∀ {x y : List Nat}, zipD (x.map fun b : Nat => Dv.int (b : Int)) (y.map fun b : Nat => Dv.int (b : Int)) = (x.zip y).map fun q => .tup [.int (q.1 : Int), .int (q.2 : Int)]
  | [], _ => by simp [zipD]
  | _ :: _, [] => by simp [zipD]
  | a :: x, b :: y => by
    show _ :: zipD (x.map _) (y.map _) = _
    rw [zip_nat]
    rfl
abbrev rv (o : Int) (ts : List Term) (pre : Sto) (x2 x3 x4 x5 x6 x7 x8 : Option Dv) : Env := [some (.ref pre.length), some (bi o ts), x2, x3, x4, x5, x6, x7, x8, none, none, none, none]
abbrev Fd (o : Int) (ts : List Term) : Dv := .lst ((gl o ts (brs (wd ts))).map pq)
theorem right_ok (ho : ClP pre os) (hB : Bill o ts) (hc : cs ≠ []) (hp : 0 ≤ p) (hp2 : p < 700000) :
    ∃ l' p', g__law_right [.ref pre.length, bi o ts] (St pre os cs l p) = .ok (.bl true) (St pre os cs l' p') ∧ 0 ≤ p' ∧ p' ≤ p + 150 := by
  obtain ⟨w1, w6⟩ := wd_rng hB.ok
  have hS : Cl (St pre os cs l p) := fun n => St_clean ho
  have hp64 : 2 ^ wd ts ≤ 64 := Nat.le_trans (Nat.pow_le_pow_right (by decide) w6) (by decide)
  have hgl : (gl o ts (brs (wd ts))).length ≤ 30000 := gl_len w6 (by rw [brs_len]; exact hp64)
  have hls : ls o ts ≤ 7 := (gl_small hB (gg_mem hB)).2
  have hgs := gg_small hB
  have hn0 := nr_len hB (d := 0)
  have hn1 := nr_len hB (d := 1)
  let S := St pre os cs l p
  let W : Dv := .int (wd ts : Int)
  let D : Dv := .int (gg o ts)
  let M : Dv := .int (ls o ts : Int)
  let H : Dv := .lst [.int (gg o ts), .bl (decide (0 < gg o ts)), .int (gg o ts)]
  let A : Dv := tN (nr o ts 0)
  let B : Dv := tN (nr o ts 1)
  have e0 : startD 13 [.ref pre.length, bi o ts] = rv o ts pre none none none none none none none := rfl
  have c1 : mPar 2 3 (mCons (mCall (g__law_gains) (mCons (mVar 1) mNil)) (mCons (mCall (g__law_wide) (mCons (mVar 1) mNil)) mNil)) (rv o ts pre none none none none none none none) S = .nx (rv o ts pre (some (Fd o ts)) (some W) none none none none none) S := by
    have h1 : mCall (g__law_gains) (mCons (mVar 1) mNil) (rv o ts pre none none none none none none none) S = .ok (Fd o ts) S := by
      rw [call_ev, cons_v (w := bi o ts) rfl nil_ev, bind_ok]
      exact gains_ok ho hB
    have h2 : mCall (g__law_wide) (mCons (mVar 1) mNil) (rv o ts pre none none none none none none none) S = .ok W S := by
      rw [call_ev, cons_v (w := bi o ts) rfl nil_ev, bind_ok]
      exact law_wide_ok hB.ok hB.two
    rw [par_ev, h1, then_ok, h2, then_ok]
    rfl
  have c2 : mAsg (mBlt maxLD (mCons (mComp cF__law_right_1 [9, 10] ct__law_right_1 ci__law_right_1 ce__law_right_1) mNil)) (gN 4) (rv o ts pre (some (Fd o ts)) (some W) none none none none none) S = .nx (rv o ts pre (some (Fd o ts)) (some W) (some D) none none none none) S := by
    refine (asg_v (w := D) (blt_v (cons_v (w := lI ((gl o ts (brs (wd ts))).map (·.1))) ?_ nil_ev) ?_)).trans rfl
    · have := comp_mapA (vs := [9, 10]) (g := ct__law_right_1) (elt := ce__law_right_1) (f := cF__law_right_1) (ρ := rv o ts pre (some (Fd o ts)) (some W) none none none none none) (s := S) (l := gl o ts (brs (wd ts))) (e := pq) (fun q => .int q.1) rfl (by unfold lim; omega) fun q _ => ⟨[some (.ref pre.length), some (bi o ts), some (Fd o ts), some W, none, none, none, none, none, some (.int q.1), some (.int (q.2 : Int)), none, none], rfl, rfl⟩
      refine this.trans ?_
      show R.ok (Dv.lst _) S = R.ok (Dv.lst _) S
      rw [List.map_map]
      rfl
    · rw [max_I (by unfold gl; intro z; cases z), due_eq hB]
  have c3 : mAsg (mBlt minLD (mCons (mComp cF__law_right_2 [9, 10] ct__law_right_2 ci__law_right_2 ce__law_right_2) mNil)) (gN 5) (rv o ts pre (some (Fd o ts)) (some W) (some D) none none none none) S = .nx (rv o ts pre (some (Fd o ts)) (some W) (some D) (some M) none none none) S := by
    refine (asg_v (w := M) (blt_v (cons_v (w := lI (((gl o ts (brs (wd ts))).filter fun q => decide (q.1 = gg o ts)).map fun q => (q.2 : Int))) ?_ nil_ev) ?_)).trans rfl
    · have := comp_filt (vs := [9, 10]) (g := ct__law_right_2) (tt := ci__law_right_2) (elt := ce__law_right_2) (f := cF__law_right_2) (ρ := rv o ts pre (some (Fd o ts)) (some W) (some D) none none none none) (s := S) (l := gl o ts (brs (wd ts))) (e := pq) (fun q => .int (q.2 : Int)) (fun q => decide (q.1 = gg o ts)) rfl (by unfold lim; omega) fun q _ => ⟨[some (.ref pre.length), some (bi o ts), some (Fd o ts), some W, some D, none, none, none, none, some (.int q.1), some (.int (q.2 : Int)), none, none], rfl, test_v (bin_v (x := .int q.1) (y := .int (gg o ts)) rfl rfl eq_ii), fun _ => rfl⟩
      refine this.trans ?_
      show R.ok (Dv.lst _) S = R.ok (Dv.lst _) S
      rw [List.map_map]
      rfl
    · have hmem : (ls o ts : Int) ∈ (((gl o ts (brs (wd ts))).filter fun q => decide (q.1 = gg o ts)).map fun q => (q.2 : Int)) := List.mem_map.mpr ⟨_, List.mem_filter.mpr ⟨gg_mem hB, decide_eq_true rfl⟩, rfl⟩
      rw [min_I (List.ne_nil_of_mem hmem), least_eq hB]
  have hgg : ∀ ρ : Env, ρ[1]? = some (some (bi o ts)) → mCall (g_greatest_gain) (mCons (mVar 1) (mCons (mK (.str "once")) mNil)) ρ S = .ok D S := fun ρ hρ => by
    rw [call_ev, cons_v (w := bi o ts) (by unfold mVar; rw [hρ]) (cons_v k_ev nil_ev), bind_ok]
    exact once_ok hS hB
  have hdp : ∀ (ρ : Env) (k : Str), g_need_kind [.str k] S = .ok (.str k) S → ρ[1]? = some (some (bi o ts)) → mCall (g_does_pay) (mCons (mVar 1) (mCons (mK (.str k)) mNil)) ρ S = .ok (.bl (decide (0 < gg o ts))) S := fun ρ k hk hρ => by
    rw [call_ev, cons_v (w := bi o ts) (by unfold mVar; rw [hρ]) (cons_v k_ev nil_ev), bind_ok]
    exact pay_ok hS hB hk
  have c4 : mAsg (mLst (mCons (mCall (g_greatest_gain) (mCons (mVar 1) (mCons (mK (.str "once")) mNil))) (mCons (mCall (g_does_pay) (mCons (mVar 1) (mCons (mK (.str "once")) mNil))) (mCons (mCall (g_greatest_gain) (mCons (mVar 1) (mCons (mK (.str "once")) mNil))) mNil)))) (gN 6) (rv o ts pre (some (Fd o ts)) (some W) (some D) (some M) none none none) S = .nx (rv o ts pre (some (Fd o ts)) (some W) (some D) (some M) (some H) none none) S :=
    (asg_v (w := H) (lst_v (cons_v (hgg _ rfl) (cons_v (hdp _ _ kind_once rfl) (cons_v (hgg _ rfl) nil_ev))) (by show 3 ≤ 1000000; decide))).trans rfl
  have hgt : ∀ ρ : Env, ρ[4]? = some (some D) → mBin gtD (mVar 4) (mK (.int 0)) ρ S = .ok (.bl (decide (0 < gg o ts))) S := fun ρ hρ => bin_v (x := D) (y := .int 0) (by unfold mVar; rw [hρ]) rfl gt_ii
  have hH : ∃ t, reprA S [H] = some (.str t) := (sh_lst (pl_lst (pls_cons (pl_small (by omega)) (pls_cons pl_bl (pls_cons (pl_small (by omega)) pls_nil)))) (by decide) (by decide)) S
  have c5 : mIfS (mOr (mTest (mBin neD (mBlt reprA (mCons (mVar 6) mNil)) (mBlt reprA (mCons (mLst (mCons (mVar 4) (mCons (mBin gtD (mVar 4) (mK (.int 0))) (mCons (mVar 4) mNil)))) mNil)))) (mTest (mBin neD (mCall (g_does_pay) (mCons (mVar 1) (mCons (mK (.str "any")) mNil))) (mBin gtD (mVar 4) (mK (.int 0)))))) (mRet (mK (.bl false))) mNext (rv o ts pre (some (Fd o ts)) (some W) (some D) (some M) (some H) none none) S = .nx (rv o ts pre (some (Fd o ts)) (some W) (some D) (some M) (some H) none none) S :=
    (ifS_f (or_f (rA_ne (w := H) rfl (lst_v (cons_v (w := D) rfl (cons_v (hgt _ rfl) (cons_v (w := D) rfl nil_ev))) (by show 3 ≤ 1000000; decide)) hH) (test_v (bin_v (hdp _ _ kind_any rfl) (hgt _ rfl) ne_bb)))).trans rfl
  have hrows : ∀ ρ : Env, ρ[1]? = some (some (bi o ts)) → mCall (g_gain_rows) (mCons (mVar 1) (mCons (mK (.str "once")) mNil)) ρ S = .ok (.tup [A, B]) S := fun ρ hρ => by
    rw [call_ev, cons_v (w := bi o ts) (by unfold mVar; rw [hρ]) (cons_v k_ev nil_ev), bind_ok]
    exact rows_ok hS hB
  have c6 : mAsg (mCall (g_gain_rows) (mCons (mVar 1) (mCons (mK (.str "once")) mNil))) (gT 2 (gsC (gN 7) (gsC (gN 8) gs0))) (rv o ts pre (some (Fd o ts)) (some W) (some D) (some M) (some H) none none) S = .nx (rv o ts pre (some (Fd o ts)) (some W) (some D) (some M) (some H) (some A) (some B)) S := asg_gv (hrows _ rfl) rfl
  let E : Env := rv o ts pre (some (Fd o ts)) (some W) (some D) (some M) (some H) (some A) (some B)
  have hlen : ∀ (i d : Nat), d < 2 → mVar i E S = .ok (tN (nr o ts d)) S → mTest (mBin neD (mBlt lenD (mCons (mVar i) mNil)) (mBin addD (mVar 3) (mVar 5))) E S = .ok false S := fun i d hd hi => by
    refine test_v (bin_v (x := .int ((wd ts + ls o ts : Nat) : Int)) (y := .int ((wd ts + ls o ts : Nat) : Int)) (blt_v (cons_v hi nil_ev) (by rw [len_tup, List.length_map, nr_len hB])) (bin_v (x := W) (y := M) rfl rfl (by show addD S (.int _) (.int _) = _; rw [add_ii, Int.natCast_add])) ?_)
    rw [ne_ii, decide_eq_true rfl]
    rfl
  have hAB := pl_tup (pls_cons (pl_tN (l := nr o ts 0) (by omega) (nr_bits (by decide))) (pls_cons (pl_tN (l := nr o ts 1) (by omega) (nr_bits (by decide))) pls_nil))
  have c7 : mIfS (mOr (mTest (mBin neD (mCall (g_gain_rows) (mCons (mVar 1) (mCons (mK (.str "once")) mNil))) (mTup (mCons (mVar 7) (mCons (mVar 8) mNil))))) (mOr (mTest (mBin neD (mBlt lenD (mCons (mVar 7) mNil)) (mBin addD (mVar 3) (mVar 5)))) (mTest (mBin neD (mBlt lenD (mCons (mVar 8) mNil)) (mBin addD (mVar 3) (mVar 5)))))) (mRet (mK (.bl false))) mNext E S = .nx E S :=
    (ifS_f (or_f (test_v (bin_v (hrows _ rfl) (tup_v (cons_v (w := A) rfl (cons_v (w := B) rfl nil_ev)) (by show 2 ≤ 1000000; decide)) (ne_of_eq (eq_t_refl hAB (by decide))))) (or_f (hlen 7 0 (by decide) rfl) (hlen 8 1 (by decide) rfl)))).trans rfl
  have hzip : iZip2 (mCons (mVar 7) (mCons (mVar 8) mNil)) E S = .ok { ws := ((nr o ts 0).zip (nr o ts 1)).map fun q => .tup [.int (q.1 : Int), .int (q.2 : Int)] } S := by
    rw [← zip_nat]
    rfl
  have hzl : ((nr o ts 0).zip (nr o ts 1)).length ≤ lim := by rw [List.length_zip]; unfold lim; omega
  have h3 : mComp cF__law_right_3 [11, 12] ct__law_right_3 ci__law_right_3 ce__law_right_3 E S = .ok (.lst ((((nr o ts 0).zip (nr o ts 1)).filter fun q => !decide (q.1 = q.2)).map fun _ => .int 1)) S :=
    comp_filt (vs := [11, 12]) (g := ct__law_right_3) (tt := ci__law_right_3) (elt := ce__law_right_3) (f := cF__law_right_3) (ρ := E) (s := S) (l := (nr o ts 0).zip (nr o ts 1)) (e := fun q => .tup [.int (q.1 : Int), .int (q.2 : Int)]) (fun _ => .int 1) (fun q => !decide (q.1 = q.2)) hzip hzl fun q _ => ⟨[some (.ref pre.length), some (bi o ts), some (Fd o ts), some W, some D, some M, some H, some A, some B, none, none, some (.int (q.1 : Int)), some (.int (q.2 : Int))], rfl, test_v (bin_v (x := .int (q.1 : Int)) (y := .int (q.2 : Int)) rfl rfl (by
      rw [ne_ii]
      by_cases hq : q.1 = q.2
      · rw [decide_eq_true hq, decide_eq_true (by omega)]
      · rw [decide_eq_false hq, decide_eq_false (by omega)])), fun _ => rfl⟩
  have hsl : ∀ (i d : Nat), d < 2 → mVar i E S = .ok (tN (nr o ts d)) S → mSl slA (mVar i) mNoPart (mPart (mVar 3)) E S = .ok (tN ((nr o ts d).take (wd ts))) S := fun i d hd hi => by
    refine sl_v hi nopart_ev (part_v (i := (wd ts : Int)) rfl) ?_
    rw [sl_tup, cut_to, ← List.map_take]
  have hT := pl_tN (l := (nr o ts 1).take (wd ts)) (by rw [List.length_take]; omega) fun c hc => nr_bits (o := o) (ts := ts) (d := 1) (by decide) c (List.mem_of_mem_take hc)
  have c8 : mIfS (mOr (mTest (mBin gtD (mBlt lenD (mCons (mComp cF__law_right_3 [11, 12] ct__law_right_3 ci__law_right_3 ce__law_right_3) mNil)) (mK (.int 1)))) (mTest (mBin neD (mSl slA (mVar 7) mNoPart (mPart (mVar 3))) (mSl slA (mVar 8) mNoPart (mPart (mVar 3)))))) (mRet (mK (.bl false))) mNext E S = .nx E S := by
    have hd := nr_diff hB
    refine (ifS_f (or_f (test_v (bin_v (x := .int (((((nr o ts 0).zip (nr o ts 1)).filter fun q => !decide (q.1 = q.2)).length : Nat) : Int)) (y := .int 1) (blt_v (cons_v h3 nil_ev) (by rw [len_lst, List.length_map])) rfl (by rw [gt_ii, decide_eq_false (by omega)]))) (test_v (bin_v (hsl 7 0 (by decide) rfl) (hsl 8 1 (by decide) rfl) ?_)))).trans rfl
    rw [nr_take hB]
    exact ne_of_eq (eq_t_refl hT (by decide))
  have h4 : mComp cF__law_right_4 [11, 12] ct__law_right_4 ci__law_right_4 ce__law_right_4 E S = .ok (.lst []) S := by
    have := comp_filt (vs := [11, 12]) (g := ct__law_right_4) (tt := ci__law_right_4) (elt := ce__law_right_4) (f := cF__law_right_4) (ρ := E) (s := S) (l := (nr o ts 0).zip (nr o ts 1)) (e := fun q => .tup [.int (q.1 : Int), .int (q.2 : Int)]) (fun _ => .int 1) (fun _ => false) hzip hzl fun q hq => ⟨[some (.ref pre.length), some (bi o ts), some (Fd o ts), some W, some D, some M, some H, some A, some B, none, none, some (.int (q.1 : Int)), some (.int (q.2 : Int))], rfl, test_v (bin_v (x := .tup [.int (q.1 : Int), .int (q.2 : Int)]) (y := .tup [.tup [.int 0, .int 0], .tup [.int 0, .int 1], .tup [.int 1, .int 1]]) rfl rfl (in_pair (nr_up hB q hq))), fun h => by cases h⟩
    refine this.trans ?_
    have e : ((nr o ts 0).zip (nr o ts 1)).filter (fun _ => false) = [] := List.filter_eq_nil_iff.mpr fun _ _ h => by cases h
    rw [e]
    rfl
  have c9 : mIfS (mTest (mBin neD (mComp cF__law_right_4 [11, 12] ct__law_right_4 ci__law_right_4 ce__law_right_4) (mLst mNil))) (mRet (mK (.bl false))) mNext E S = .nx E S :=
    (ifS_f (test_v (bin_v h4 (lst_v nil_ev (by show 0 ≤ 1000000; decide)) rfl))).trans rfl
  have hpd : ∀ (i d : Nat), d < 2 → mVar i E S = .ok (tN (nr o ts d)) S → mBlt sumA (mCons (mCall (g__law_paid) (mCons (mVar 1) (mCons (mVar i) mNil))) mNil) E S = .ok (.int (pys o ts (toI (nr o ts d))).sum) S := fun i d hd hi => by
    refine blt_v (cons_v (w := lI (pys o ts (toI (nr o ts d)))) ?_ nil_ev) sum_LI
    rw [call_ev, cons_v (w := bi o ts) rfl (cons_v hi nil_ev), bind_ok, tN_tI]
    have hl := nr_len hB (d := d)
    exact law_paid_ok ho hB (row_bits (nr_bits hd) (by omega)) (by rw [List.length_map]; omega)
  have c10 : mIfS (mTest (mBin neD (mBin subD (mBlt sumA (mCons (mCall (g__law_paid) (mCons (mVar 1) (mCons (mVar 8) mNil))) mNil)) (mBlt sumA (mCons (mCall (g__law_paid) (mCons (mVar 1) (mCons (mVar 7) mNil))) mNil))) (mVar 4))) (mRet (mK (.bl false))) mNext E S = .nx E S := by
    refine (ifS_f (test_v (bin_v (x := .int (gg o ts)) (y := D) (bin_v (hpd 8 1 (by decide) rfl) (hpd 7 0 (by decide) rfl) (by rw [sub_ev, nr_gain hB])) rfl ?_))).trans rfl
    show neD S (.int _) (.int _) = _
    rw [ne_ii, decide_eq_true rfl]
    rfl
  obtain ⟨l', p', hr, q0, q1⟩ := results_ok (pre := pre) (os := os) (l := l) hB hc hp hp2
  refine ⟨l', p', ?_, q0, q1⟩
  unfold g__law_right d__law_right
  rw [den_ev, e0]
  refine fin_nx c1 (fin_nx c2 (fin_nx c3 (fin_nx c4 (fin_nx c5 (fin_nx c6 (fin_nx c7 (fin_nx c8 (fin_nx c9 (fin_nx c10 ?_)))))))))
  have hfin : mCall (g__law_results_right) (mCons (mVar 0) (mCons (mVar 1) (mCons (mVar 3) (mCons (mVar 4) mNil)))) E S = .ok (.bl true) (St pre os cs l' p') := by
    rw [call_ev, cons_v (w := .ref pre.length) rfl (cons_v (w := bi o ts) rfl (cons_v (w := W) rfl (cons_v (w := D) rfl nil_ev))), bind_ok]
    exact hr
  rw [ret_v hfin]
  exact fin_St
end
end MP.K13
set_option Elab.async false
set_option linter.all false
set_option maxRecDepth 100000
set_option maxHeartbeats 2000000
namespace MP.K13
open PySem PySem.Spec MP MP.PG
open PyProof.Rows hiding St
open L2 hiding St r1
def popF : Nat → Nat → Nat
  | 0, _ => 0
  | f + 1, n => n % 2 + popF f (n / 2)
theorem popF_eq : ∀ (f n : Nat), n ≤ f → popF f n = pop n
  | 0, n, h => by
    obtain rfl : n = 0 := by omega
    exact pop_0.symm
  | f + 1, n, h => by
    rw [pop_eq n]
    show n % 2 + popF f (n / 2) = _
    by_cases h0 : n = 0
    · subst h0
      have : ∀ f, popF f 0 = 0 := fun f => by
        induction f with
        | zero => rfl
        | succ f ih => show 0 % 2 + popF f (0 / 2) = 0; rw [Nat.zero_div, ih]
      rw [Nat.zero_div, this, pop_0]
    · rw [popF_eq f (n / 2) (by omega)]
def tpC (t : Term) (w : Nat) : Int := t.a * idb t.rs (popF (w / 2 % 2 ^ t.rs.length) (w / 2 % 2 ^ t.rs.length)) + t.b * idb t.rs (popF (w % 2 ^ t.rs.length) (w % 2 ^ t.rs.length))
def bpC (o : Int) (ts : List Term) (w : Nat) : Int := o * ((w % 2 : Nat) : Int) + (ts.map fun t => tpC t w).sum
theorem bpC_eq {o : Int} {ts : List Term} : bpF o ts = bpC o ts := by
  funext w
  unfold bpF bpC
  congr 2
  refine List.map_congr_left fun t _ => ?_
  unfold tpF tpC
  rw [popF_eq _ _ (Nat.le_refl _), popF_eq _ _ (Nat.le_refl _)]
def ggC (o : Int) (ts : List Term) : Int := if Gs (bpC o ts) (wd ts) > 0 then Gs (bpC o ts) (wd ts) else 0
theorem gg_C {o : Int} {ts : List Term} : gg o ts = ggC o ts := by unfold gg ggC; rw [bpC_eq]
def nrC (o : Int) (ts : List Term) (d : Nat) : List Nat := if 0 < Gs (bpC o ts) (wd ts) then digs 2 (wd ts) (bst (bpC o ts) (wd ts)) ++ [d] ++ fbs (bpC o ts) (wd ts) else List.replicate (wd ts) 0
theorem nr_C {o : Int} {ts : List Term} {d : Nat} : nr o ts d = nrC o ts d := by unfold nr nrC; rw [bpC_eq]
theorem v1 : ggC (-1) [] = 0 := by decide +kernel
theorem v2 : ggC 1 [] = 1 := by decide +kernel
theorem v3 : ggC (-1) [⟨[1, 1, 0, 0], 1, 0⟩] = 3 := by decide +kernel
theorem v4 : ggC (-4) [⟨[1, 1, 0, 0], 1, 0⟩] = 0 := by decide +kernel
theorem v5 : ggC (-2) [⟨[1, 1, 0], 1, 0⟩] = 1 := by decide +kernel
theorem v6 : ggC (-1) [⟨[1, 1, 0, 0, 0], 1, 0⟩] = 4 := by decide +kernel
theorem n1 : nrC (-1) [] 0 = [0] ∧ nrC (-1) [] 1 = [0] := by decide +kernel
theorem n2 : nrC 1 [] 0 = [0, 0] ∧ nrC 1 [] 1 = [0, 1] := by decide +kernel
end MP.K13
set_option Elab.async false
set_option linter.all false
set_option maxRecDepth 100000
set_option maxHeartbeats 2000000
namespace MP.K13
open PySem PySem.Spec MP MP.PG
open PyProof.Rows hiding St
open L2 hiding St r1
section
variable {pre os : Sto} {cs : List Int} {l p : Int}
theorem sum_small : ∀ {rs : List Int}, (∀ r ∈ rs, 0 ≤ r ∧ r ≤ 3) → 0 ≤ rs.sum ∧ rs.sum ≤ 3 * rs.length
  | [], _ => ⟨Int.le_refl _, by simp⟩
  | r :: rs, h => by
    have h1 := h r List.mem_cons_self
    have h2 := sum_small (rs := rs) fun x hx => h x (List.mem_cons_of_mem _ hx)
    rw [List.sum_cons, List.length_cons]
    omega
theorem tame_ok (hc : cs ≠ []) (hp : 0 ≤ p) (hp2 : p < 800000) :
    ∃ o ts l' p', g__law_tame_bill [.ref pre.length, .int 3] (St pre os cs l p) = .ok (bi o ts) (St pre os cs l' p') ∧ Bill o ts ∧ 0 ≤ p' ∧ p' ≤ p + 10 := by
  obtain ⟨k, l2, p2, d2, k0, k6, p20, p21⟩ := (draw_ok (pre := pre) (tl := os) (l := l) hc (show (0 : Int) < 3 by decide) (by decide) hp (by omega)).ok
  have e0 : startD 5 [.ref pre.length, .int 3] = [some (.ref pre.length), some (.int 3), none, none, none] := rfl
  have hF : cF__law_tame_bill_1 [some (.ref pre.length), some (.int 3), none, none, none] (St pre os cs l p) = .ok { ws := rng 0 (1 + k).toNat } (St pre os cs l2 p2) :=
    range1_ok (cons_v (bin_v (x := .int 1) (y := .int k) rfl (call_v (cons_v (w := .ref pre.length) rfl (cons_v (w := .int 3) rfl nil_ev)) d2) add_ii) nil_ev) (okR_s (by omega) (by omega))
  obtain ⟨zs, s', c1, c2, rs, l3, p3, rfl, rfl, r1, r2, r3, r4⟩ := comp_ix (vs := [4]) (g := ct__law_tame_bill_1) (elt := ce__law_tame_bill_1) (fun i acc s => ∃ (rs : List Int) (l3 p3 : Int), acc = rs.map .int ∧ s = St pre os cs l3 p3 ∧ rs.length = i ∧ (∀ r ∈ rs, 0 ≤ r ∧ r ≤ 3) ∧ 0 ≤ p3 ∧ p3 ≤ p + 1 + i)
    hF (by rw [rng_len]; unfold lim; omega) ⟨[], l2, p2, rfl, rfl, rfl, fun _ h => (nomatch h), p20, by omega⟩ fun i x acc s hx hJ => by
      obtain ⟨rs, l3, p3, rfl, rfl, r1, r2, r3, r4⟩ := hJ
      obtain ⟨hi, rfl⟩ := rng_get hx
      obtain ⟨b, l5, p5, d5, b0, b1, p50, p51⟩ := (draw_ok (pre := pre) (tl := os) (l := l3) hc (show (0 : Int) < 4 by decide) (by decide) r3 (by omega)).ok
      refine ⟨[some (.ref pre.length), some (.int 3), none, none, some (.int (0 + (i : Int)))], .int b, St pre os cs l5 p5, rfl, ?_, rs ++ [b], l5, p5, by rw [List.map_append]; rfl, rfl, by rw [List.length_append, r1]; rfl, fun r hr => ?_, p50, by omega⟩
      · unfold ce__law_tame_bill_1
        exact call_v (cons_v (w := .ref pre.length) rfl (cons_v k_ev nil_ev)) d5
      · rcases List.mem_append.mp hr with h | h
        · exact r2 r h
        · rw [List.mem_singleton.mp h]; omega
  rw [rng_len] at r1 r4
  have hsum := sum_small r2
  obtain ⟨d, l4, p4, d4, d40, d41, p40, p41⟩ := (draw_ok (pre := pre) (tl := os) (l := l3) hc (show (0 : Int) < 9 by decide) (by decide) r3 (by omega)).ok
  obtain ⟨ow, l5, p5, hw, d5, p50, p51⟩ := law_of_ok (pre := pre) (tl := os) (l := l4) (p := p4) (ws := [.int 0, .int (0 - rs.sum), .int (d - 6)]) hc p40 (by omega) (by intro z; cases z) (by show 3 < 1000; decide)
  obtain ⟨o, rfl, o0, o1⟩ : ∃ i : Int, ow = .int i ∧ -50 ≤ i ∧ i ≤ 50 := by
    rcases List.mem_cons.mp hw with rfl | hw
    · exact ⟨0, rfl, by decide, by decide⟩
    · rcases List.mem_cons.mp hw with rfl | hw
      · exact ⟨0 - rs.sum, rfl, by omega, by omega⟩
      · rcases List.mem_cons.mp hw with rfl | hw
        · exact ⟨d - 6, rfl, by omega, by omega⟩
        · cases hw
  obtain ⟨a, l6, p6, d6, a0, a1, p60, p61⟩ := (draw_ok (pre := pre) (tl := os) (l := l5) hc (show (0 : Int) < 3 by decide) (by decide) p50 (by omega)).ok
  obtain ⟨b, l7, p7, d7, b0, b1, p70, p71⟩ := (draw_ok (pre := pre) (tl := os) (l := l6) hc (show (0 : Int) < 3 by decide) (by decide) p60 (by omega)).ok
  refine ⟨o, [⟨rs, a - 1, b - 1⟩], l7, p7, ?_, ⟨o0, o1, by show 1 ≤ 2; decide, fun t ht => by
    rw [List.mem_singleton.mp ht]
    exact ⟨⟨by show 1 ≤ rs.length; omega, by show rs.length ≤ 6; omega, fun i hi => by have := r2 i hi; omega⟩, by show -50 ≤ a - 1; omega, by show a - 1 ≤ 50; omega, by show -50 ≤ b - 1; omega, by show b - 1 ≤ 50; omega⟩⟩, p70, by omega⟩
  have s1 : mAsg (mBlt tupleD (mCons (mComp cF__law_tame_bill_1 [4] ct__law_tame_bill_1 ci__law_tame_bill_1 ce__law_tame_bill_1) mNil)) (gN 2) [some (.ref pre.length), some (.int 3), none, none, none] (St pre os cs l p) = .nx [some (.ref pre.length), some (.int 3), some (tI rs), none, none] (St pre os cs l3 p3) :=
    (asg_v (w := tI rs) (blt_v (cons_v (w := .lst (rs.map .int)) c1 nil_ev) tuple_lst)).trans rfl
  have s2 : mAsg (mCall (g__law_of) (mCons (mVar 0) (mCons (mLst (mCons (mK (.int 0)) (mCons (mBin subD (mK (.int 0)) (mBlt sumA (mCons (mVar 2) mNil))) (mCons (mBin subD (mCall (g__law_draw) (mCons (mVar 0) (mCons (mK (.int 9)) mNil))) (mK (.int 6))) mNil)))) mNil))) (gN 3) [some (.ref pre.length), some (.int 3), some (tI rs), none, none] (St pre os cs l3 p3) = .nx [some (.ref pre.length), some (.int 3), some (tI rs), some (.int o), none] (St pre os cs l5 p5) :=
    (asg_v (w := .int o) (call_v (cons_v (w := .ref pre.length) rfl (cons_v (lst_v (cons_v k_ev (cons_v (w := .int (0 - rs.sum)) (bin_v (x := .int 0) (y := .int rs.sum) rfl (blt_v (cons_v (w := tI rs) rfl nil_ev) sum_TI) sub_ev) (cons_v (w := .int (d - 6)) (bin_v (x := .int d) (y := .int 6) (call_v (cons_v (w := .ref pre.length) rfl (cons_v k_ev nil_ev)) d4) rfl sub_ev) nil_ev))) (by show 3 ≤ 1000000; decide)) nil_ev)) d5)).trans rfl
  have s3 : mTup (mCons (mVar 3) (mCons (mTup (mCons (mTup (mCons (mVar 2) (mCons (mBin subD (mCall (g__law_draw) (mCons (mVar 0) (mCons (mK (.int 3)) mNil))) (mK (.int 1))) (mCons (mBin subD (mCall (g__law_draw) (mCons (mVar 0) (mCons (mK (.int 3)) mNil))) (mK (.int 1))) mNil)))) mNil)) mNil)) [some (.ref pre.length), some (.int 3), some (tI rs), some (.int o), none] (St pre os cs l5 p5) = .ok (bi o [⟨rs, a - 1, b - 1⟩]) (St pre os cs l7 p7) :=
    tup_v (cons_v (w := .int o) rfl (cons_v (tup_v (cons_v (tup_v (cons_v (w := tI rs) rfl (cons_v (w := .int (a - 1)) (bin_v (x := .int a) (y := .int 1) (call_v (cons_v (w := .ref pre.length) rfl (cons_v k_ev nil_ev)) d6) rfl sub_ev) (cons_v (w := .int (b - 1)) (bin_v (x := .int b) (y := .int 1) (call_v (cons_v (w := .ref pre.length) rfl (cons_v k_ev nil_ev)) d7) rfl sub_ev) nil_ev))) (by show 3 ≤ 1000000; decide)) nil_ev) (by show 1 ≤ 1000000; decide)) nil_ev)) (by show 2 ≤ 1000000; decide)
  unfold g__law_tame_bill d__law_tame_bill
  rw [den_ev, e0]
  refine fin_nx s1 (fin_nx s2 ?_)
  rw [ret_v s3]
  exact fin_St
theorem repr_bi {o : Int} {ts : List Term} (s : Sto) (h : Bill o ts) : reprA s [bi o ts] = some (.str (bd o ts).shown) := by
  unfold reprA
  rw [repr_tup (pl_bi h) (by decide) (by decide)]
theorem cl_nil : ClP [] [] := fun _ => ⟨rfl, rfl⟩
theorem lap_ok {sc k x3 x4 : Option Dv} (hc : cs ≠ []) (hp : 0 ≤ p) (hp2 : p < 600000) : ∃ l' p' y3 y4, b_law_1 [sc, some (.ref 0), k, x3, x4, none] (St [] [] cs l p) = .nx [sc, some (.ref 0), k, y3, y4, none] (St [] [] cs l' p') ∧ 0 ≤ p' ∧ p' ≤ p + 200 := by
  obtain ⟨d, l1, p1, d1, d10, d11, p10, p11⟩ := (draw_ok (pre := []) (tl := []) (l := l) hc (show (0 : Int) < 3 by decide) (by decide) hp (by omega)).ok
  have key : ∃ o ts l2 p2, mIf (mTest (mBin gtD (mCall (g__law_draw) (mCons (mVar 1) (mCons (mK (.int 3)) mNil))) (mK (.int 0)))) (mCall (g__law_tame_bill) (mCons (mVar 1) (mCons (mK (.int 3)) mNil))) (mCall (g__law_drawn_bill) (mCons (mVar 1) (mCons (mK (.int 3)) mNil))) [sc, some (.ref 0), k, x3, x4, none] (St [] [] cs l p) = .ok (bi o ts) (St [] [] cs l2 p2) ∧ Bill o ts ∧ 0 ≤ p2 ∧ p2 ≤ p + 40 := by
    have ht : mTest (mBin gtD (mCall (g__law_draw) (mCons (mVar 1) (mCons (mK (.int 3)) mNil))) (mK (.int 0))) [sc, some (.ref 0), k, x3, x4, none] (St [] [] cs l p) = .ok (decide (0 < d)) (St [] [] cs l1 p1) :=
      test_v (bin_v (x := .int d) (y := .int 0) (call_v (cons_v (w := .ref 0) rfl (cons_v k_ev nil_ev)) d1) rfl gt_ii)
    by_cases h0 : 0 < d
    · rw [decide_eq_true h0] at ht
      obtain ⟨o, ts, l2, p2, t2, hB, q0, q1⟩ := tame_ok (pre := []) (os := []) (l := l1) hc p10 (by omega)
      exact ⟨o, ts, l2, p2, if_vt ht (call_v (cons_v (w := .ref 0) rfl (cons_v k_ev nil_ev)) t2), hB, q0, by omega⟩
    · rw [decide_eq_false h0] at ht
      obtain ⟨o, ts, l2, p2, t2, hB, q0, q1⟩ := drawn_bill_ok (pre := []) (os := []) cl_nil (l := l1) (most := 3) hc p10 (by omega) (by decide) (by decide)
      exact ⟨o, ts, l2, p2, if_vf ht (call_v (cons_v (w := .ref 0) rfl (cons_v k_ev nil_ev)) t2), hB, q0, by omega⟩
  obtain ⟨o, ts, l2, p2, hb, hB, q0, q1⟩ := key
  obtain ⟨l3, p3, hr, r0, r1⟩ := right_ok (pre := []) (os := []) (l := l2) cl_nil hB hc q0 (by omega)
  have ht := repr_bi (St [] [] cs l2 p2) hB
  have ht' := repr_bi (St [] [] cs l3 p3) hB
  generalize (bd o ts).shown = t at ht ht'
  refine ⟨l3, p3, some (bi o ts), some (.str t), ?_, r0, by omega⟩
  have c1 : mAsg (mIf (mTest (mBin gtD (mCall (g__law_draw) (mCons (mVar 1) (mCons (mK (.int 3)) mNil))) (mK (.int 0)))) (mCall (g__law_tame_bill) (mCons (mVar 1) (mCons (mK (.int 3)) mNil))) (mCall (g__law_drawn_bill) (mCons (mVar 1) (mCons (mK (.int 3)) mNil)))) (gN 3) [sc, some (.ref 0), k, x3, x4, none] (St [] [] cs l p) = .nx [sc, some (.ref 0), k, some (bi o ts), x4, none] (St [] [] cs l2 p2) := (asg_v hb).trans rfl
  have c2 : mAsg (mBlt reprA (mCons (mVar 3) mNil)) (gN 4) [sc, some (.ref 0), k, some (bi o ts), x4, none] (St [] [] cs l2 p2) = .nx [sc, some (.ref 0), k, some (bi o ts), some (.str t), none] (St [] [] cs l2 p2) := (asg_v (w := .str t) (blt_v (cons_v (w := bi o ts) rfl nil_ev) ht)).trans rfl
  have c3 : mIfS (mOr (mNot (mTest (mCall (g__law_right) (mCons (mVar 1) (mCons (mVar 3) mNil))))) (mTest (mBin neD (mBlt reprA (mCons (mVar 3) mNil)) (mVar 4)))) (mRet (mK (.bl false))) mNext [sc, some (.ref 0), k, some (bi o ts), some (.str t), none] (St [] [] cs l2 p2) = .nx [sc, some (.ref 0), k, some (bi o ts), some (.str t), none] (St [] [] cs l3 p3) :=
    (ifS_f (or_f (not_vt (test_v (call_v (cons_v (w := .ref 0) rfl (cons_v (w := bi o ts) rfl nil_ev)) hr))) (test_v (bin_v (x := .str t) (y := .str t) (blt_v (cons_v (w := bi o ts) rfl nil_ev) ht') rfl (ne_of_eq eq_refl_ss))))).trans rfl
  unfold b_law_1
  exact seq_nx c1 (seq_nx c2 c3)
end
end MP.K13
set_option Elab.async false
set_option linter.all false
set_option maxRecDepth 100000
set_option maxHeartbeats 4000000
namespace MP.K13
open PySem PySem.Spec MP MP.PG
open PyProof.Rows hiding St
open L2 hiding St r1
section
variable {cs : List Int} {l p : Int} {s : Sto}
theorem n1v {i : Int} {ρ : Env} : mUn negD (mK (.int i)) ρ s = .ok (.int (-i)) s := un_v k_ev neg_ev
theorem b0_ev {fo : FE} {o : Int} {ρ : Env} (h : fo ρ s = .ok (.int o) s) : mTup (mCons fo (mCons (mTup mNil) mNil)) ρ s = .ok (bi o []) s :=
  tup_v (cons_v h (cons_v (tup_v nil_ev (by show 0 ≤ 1000000; decide)) nil_ev)) (by show 2 ≤ 1000000; decide)
theorem b1_ev {fo fr : FE} {o : Int} {rs : List Int} {ρ : Env} (h : fo ρ s = .ok (.int o) s) (hr : fr ρ s = .ok (tI rs) s) : mTup (mCons fo (mCons (mTup (mCons (mTup (mCons fr (mCons (mK (.int 1)) (mCons (mK (.int 0)) mNil)))) mNil)) mNil)) ρ s = .ok (bi o [⟨rs, 1, 0⟩]) s :=
  tup_v (cons_v h (cons_v (tup_v (cons_v (tup_v (cons_v hr (cons_v k_ev (cons_v k_ev nil_ev))) (by show 3 ≤ 1000000; decide)) nil_ev) (by show 1 ≤ 1000000; decide)) nil_ev)) (by show 2 ≤ 1000000; decide)
theorem B0_ok {o : Int} (h : -50 ≤ o) (h2 : o ≤ 50) : Bill o [] := ⟨h, h2, by decide, fun t ht => nomatch ht⟩
theorem B1_ok {o : Int} {rs : List Int} (h : -50 ≤ o) (h2 : o ≤ 50) (hr : Rule rs) : Bill o [⟨rs, 1, 0⟩] := ⟨h, h2, by show 1 ≤ 2; decide, fun t ht => by
  rw [List.mem_singleton.mp ht]
  exact ⟨hr, by show (-50 : Int) ≤ 1; decide, by show (1 : Int) ≤ 50; decide, by show (-50 : Int) ≤ 0; decide, by show (0 : Int) ≤ 50; decide⟩⟩
theorem once_v {fb : FE} {o : Int} {ts : List Term} {ρ : Env} {v : Int} (hs : Cl s) (hB : Bill o ts) (hb : fb ρ s = .ok (bi o ts) s) (hv : ggC o ts = v) : mCall (g_greatest_gain) (mCons fb (mCons (mK (.str "once")) mNil)) ρ s = .ok (.int v) s := by
  rw [call_ev, cons_v hb (cons_v k_ev nil_ev), bind_ok, once_ok hs hB, gg_C, hv]
theorem rows_v {fb : FE} {o : Int} {ts : List Term} {ρ : Env} {a b : List Nat} (hs : Cl s) (hB : Bill o ts) (hb : fb ρ s = .ok (bi o ts) s) (ha : nrC o ts 0 = a) (hb2 : nrC o ts 1 = b) : mCall (g_gain_rows) (mCons fb (mCons (mK (.str "once")) mNil)) ρ s = .ok (.tup [tN a, tN b]) s := by
  rw [call_ev, cons_v hb (cons_v k_ev nil_ev), bind_ok, rows_ok hs hB, nr_C, nr_C, ha, hb2]
theorem pay_v {fb : FE} {o : Int} {ts : List Term} {ρ : Env} {v : Int} (hs : Cl s) (hB : Bill o ts) (hb : fb ρ s = .ok (bi o ts) s) (hv : ggC o ts = v) : mCall (g_does_pay) (mCons fb (mCons (mK (.str "once")) mNil)) ρ s = .ok (.bl (decide (0 < v))) s := by
  rw [call_ev, cons_v hb (cons_v k_ev nil_ev), bind_ok, pay_ok hs hB kind_once, gg_C, hv]
theorem R3 : Rule [1, 1, 0] := ⟨by decide, by decide, by decide⟩
theorem R4 : Rule [1, 1, 0, 0] := ⟨by decide, by decide, by decide⟩
theorem R5 : Rule [1, 1, 0, 0, 0] := ⟨by decide, by decide, by decide⟩
/-- the store with what was heard -/
def Sh5 (cs : List Int) (l p : Int) (L : List Dv) : Sto := St [] ([] ++ [.lst L]) cs l p
theorem sh5_cl {L : List Dv} (h : ∀ n, cleans n L = true) : Cl (Sh5 cs l p L) := fun n => by
  unfold Sh5
  refine St_clean (fun n => ⟨rfl, ?_⟩)
  rw [List.all_append]
  show (true && (cleans n L && true)) = true
  rw [h n]
  rfl
theorem app5 {L : List Dv} {g : FE} {ρ : Env} {v : Dv} (hl : L.length ≤ 100) (h5 : mVar 5 ρ (Sh5 cs l p L) = .ok (.ref 1) (Sh5 cs l p L)) (hg : g ρ (Sh5 cs l p L) = .ok v (Sh5 cs l p L)) : mExpr (mApp (mVar 5) g) ρ (Sh5 cs l p L) = .nx ρ (Sh5 cs l p (L ++ [v])) := by
  rw [expr_v (app_v (n := r1 [] []) (us := L) (ws := L) (y := v) h5 at_end hg at_end (by unfold lim; omega))]
  show C.nx _ ((St [] ([] ++ [.lst L]) cs l p).set (r1 [] []) _) = _
  rw [set_end]
  rfl
theorem fact (ns : List Int) (hn : ns.length ≤ 63) : ∃ s', g_law [.sq (ns.map .int)] [] = .ok (.bl true) s' := by
  obtain ⟨l, hb⟩ := begun_ok (pre := []) hn
  have hc : ns ++ [(ns.length : Int)] ≠ [] := by intro z; exact absurd (congrArg List.length z) (by simp)
  obtain ⟨cs, ecs⟩ : ∃ cs, cs = ns ++ [(ns.length : Int)] := ⟨_, rfl⟩
  rw [← ecs] at hb hc
  let Sc : Option Dv := some (.sq (ns.map .int))
  have e0 : startD 6 [.sq (ns.map .int)] = [Sc, none, none, none, none, none] := rfl
  have e1 : mAsg (mCall (g__law_begun) (mCons (mVar 0) mNil)) (gN 1) [Sc, none, none, none, none, none] [] = .nx [Sc, some (.ref 0), none, none, none, none] (St [] [] cs l 0) :=
    (asg_v (call_v (cons_v (w := .sq (ns.map .int)) rfl nil_ev) hb)).trans rfl
  obtain ⟨j, hj, j0, j1⟩ : ∃ j : Int, min2D (St [] [] cs l 0) [.int (ns.length : Int), .int 6] = some (.int j) ∧ 0 ≤ j ∧ j ≤ 6 := by
    refine ⟨if (6 : Int) < ns.length then 6 else ns.length, rfl, ?_, ?_⟩ <;> split <;> omega
  have hF : F_law_1 [Sc, some (.ref 0), none, none, none, none] (St [] [] cs l 0) = .ok { ws := rng 0 (4 + j).toNat } (St [] [] cs l 0) :=
    range1_ok (cons_v (bin_v k_ev (blt_v (cons_v (blt_v (cons_v (w := .sq (ns.map .int)) rfl nil_ev) (len_sq.trans (by rw [List.length_map]))) (cons_v k_ev nil_ev)) hj) add_ii) nil_ev) (okR_s (by omega) (by omega))
  obtain ⟨ρ', s', f1, l', p', y2, y3, y4, rfl, g0, g1, rfl⟩ := for_ix (g := t_law_1) (body := b_law_1)
    (fun i ρ s' => ∃ l p y2 y3 y4, s' = St [] [] cs l p ∧ 0 ≤ p ∧ p ≤ 200 * (i : Int) ∧ ρ = [Sc, some (.ref 0), y2, y3, y4, none]) hF ⟨l, 0, _, _, _, rfl, by omega, by omega, rfl⟩ fun i x ρ s' hx hJ => by
      obtain ⟨l', p', y2, y3, y4, rfl, g0, g1, rfl⟩ := hJ
      obtain ⟨hi, rfl⟩ := rng_get hx
      obtain ⟨l2, p2, z3, z4, hb, q0, q1⟩ := lap_ok (l := l') (sc := Sc) (x3 := y3) (x4 := y4) (k := some (.int (0 + (i : Int)))) hc g0 (by omega)
      exact ⟨_, _, _, rfl, .inl hb, l2, p2, _, _, _, rfl, q0, by omega, rfl⟩
  let E0 : Env := [Sc, some (.ref 0), y2, y3, y4, none]
  let E5 : Env := [Sc, some (.ref 0), y2, y3, y4, some (.ref 1)]
  have hS : Cl (St [] [] cs l' p') := fun n => St_clean cl_nil
  have s1 : mIfS (mTest (mBin (inT true) (mCall (g_gain_rows) (mCons (mTup (mCons (mUn negD (mK (.int 1))) (mCons (mTup mNil) mNil))) (mCons (mK (.str "once")) mNil))) (mTup (mCons (mTup (mCons (mTup (mCons (mK (.int 0)) mNil)) (mCons (mTup (mCons (mK (.int 0)) mNil)) mNil))) (mCons (mTup (mCons (mTup (mCons (mK (.int 1)) mNil)) (mCons (mTup (mCons (mK (.int 1)) mNil)) mNil))) mNil))))) (mRet (mK (.bl false))) mNext E0 (St [] [] cs l' p') = .nx E0 (St [] [] cs l' p') :=
    (ifS_f (test_v (bin_v (y := .tup [.tup [.tup [.int 0], .tup [.int 0]], .tup [.tup [.int 1], .tup [.int 1]]]) (rows_v hS (B0_ok (by decide) (by decide)) (b0_ev n1v) n1.1 n1.2) rfl rfl))).trans rfl
  have s2 : mIfS (mTest (mBin (inT true) (mCall (g_gain_rows) (mCons (mTup (mCons (mK (.int 1)) (mCons (mTup mNil) mNil))) (mCons (mK (.str "once")) mNil))) (mTup (mCons (mTup (mCons (mTup (mCons (mK (.int 0)) (mCons (mK (.int 0)) mNil))) (mCons (mTup (mCons (mK (.int 0)) (mCons (mK (.int 1)) mNil))) mNil))) (mCons (mTup (mCons (mTup (mCons (mK (.int 1)) (mCons (mK (.int 0)) mNil))) (mCons (mTup (mCons (mK (.int 1)) (mCons (mK (.int 1)) mNil))) mNil))) mNil))))) (mRet (mK (.bl false))) mNext E0 (St [] [] cs l' p') = .nx E0 (St [] [] cs l' p') :=
    (ifS_f (test_v (bin_v (y := .tup [.tup [.tup [.int 0, .int 0], .tup [.int 0, .int 1]], .tup [.tup [.int 1, .int 0], .tup [.int 1, .int 1]]]) (rows_v hS (B0_ok (by decide) (by decide)) (b0_ev k_ev) n2.1 n2.2) rfl rfl))).trans rfl
  have s3 : mAsg (mLstM (mCons (mCall (g_greatest_gain) (mCons (mTup (mCons (mUn negD (mK (.int 1))) (mCons (mTup mNil) mNil))) (mCons (mK (.str "once")) mNil))) (mCons (mCall (g_greatest_gain) (mCons (mTup (mCons (mK (.int 1)) (mCons (mTup mNil) mNil))) (mCons (mK (.str "once")) mNil))) mNil))) (gN 5) E0 (St [] [] cs l' p') = .nx E5 (Sh5 cs l' p' [.int 0, .int 1]) := by
    have h := lstM_s (pre := []) (os := []) (cs := cs) (l := l') (p := p') (l' := l') (p' := p') (ρ := E0) (cons_v (once_v hS (B0_ok (by decide) (by decide)) (b0_ev n1v) v1) (cons_v (once_v hS (B0_ok (by decide) (by decide)) (b0_ev k_ev) v2) nil_ev)) (by show 2 ≤ 1000000; decide)
    rw [asgN_ev, h, then_ok]
    rfl
  have k1 : ∀ n, cleans n [.int 0, .int 1] = true := fun n => rfl
  have s4 := app5 (cs := cs) (l := l') (p := p') (ρ := E5) (by show 2 ≤ 100; decide) rfl (once_v (ρ := E5) (sh5_cl (cs := cs) (l := l') (p := p') k1) (B1_ok (o := -1) (rs := [1, 1, 0, 0]) (by decide) (by decide) R4) (b1_ev (fo := mUn negD (mK (.int 1))) (fr := mTup (mCons (mK (.int 1)) (mCons (mK (.int 1)) (mCons (mK (.int 0)) (mCons (mK (.int 0)) mNil))))) n1v (tup_v (cons_v k_ev (cons_v k_ev (cons_v k_ev (cons_v k_ev nil_ev)))) (by show 4 ≤ 1000000; decide))) v3)
  have k2 : ∀ n, cleans n ([.int 0, .int 1] ++ [.int 3]) = true := fun n => rfl
  have s5 := app5 (cs := cs) (l := l') (p := p') (ρ := E5) (by show 3 ≤ 100; decide) rfl (pay_v (ρ := E5) (sh5_cl (cs := cs) (l := l') (p := p') k2) (B1_ok (o := -4) (rs := [1, 1, 0, 0]) (by decide) (by decide) R4) (b1_ev (fo := mUn negD (mK (.int 4))) (fr := mTup (mCons (mK (.int 1)) (mCons (mK (.int 1)) (mCons (mK (.int 0)) (mCons (mK (.int 0)) mNil))))) n1v (tup_v (cons_v k_ev (cons_v k_ev (cons_v k_ev (cons_v k_ev nil_ev)))) (by show 4 ≤ 1000000; decide))) v4)
  have k3 : ∀ n, cleans n ([.int 0, .int 1] ++ [.int 3] ++ [.bl (decide ((0 : Int) < 0))]) = true := fun n => rfl
  have s6 := app5 (cs := cs) (l := l') (p := p') (ρ := E5) (by show 4 ≤ 100; decide) rfl (once_v (ρ := E5) (sh5_cl (cs := cs) (l := l') (p := p') k3) (B1_ok (o := -2) (rs := [1, 1, 0]) (by decide) (by decide) R3) (b1_ev (fo := mUn negD (mK (.int 2))) (fr := mTup (mCons (mK (.int 1)) (mCons (mK (.int 1)) (mCons (mK (.int 0)) mNil)))) n1v (tup_v (cons_v k_ev (cons_v k_ev (cons_v k_ev nil_ev))) (by show 3 ≤ 1000000; decide))) v5)
  have k4 : ∀ n, cleans n ([.int 0, .int 1] ++ [.int 3] ++ [.bl (decide ((0 : Int) < 0))] ++ [.int 1]) = true := fun n => rfl
  have s7 := app5 (cs := cs) (l := l') (p := p') (ρ := E5) (by show 5 ≤ 100; decide) rfl (once_v (ρ := E5) (sh5_cl (cs := cs) (l := l') (p := p') k4) (B1_ok (o := -1) (rs := [1, 1, 0, 0, 0]) (by decide) (by decide) R5) (b1_ev (fo := mUn negD (mK (.int 1))) (fr := mTup (mCons (mK (.int 1)) (mCons (mK (.int 1)) (mCons (mK (.int 0)) (mCons (mK (.int 0)) (mCons (mK (.int 0)) mNil)))))) n1v (tup_v (cons_v k_ev (cons_v k_ev (cons_v k_ev (cons_v k_ev (cons_v k_ev nil_ev))))) (by show 5 ≤ 1000000; decide))) v6)
  have s8 : mRet (mBin eqD (mVar 5) (mLst (mCons (mK (.int 0)) (mCons (mK (.int 1)) (mCons (mK (.int 3)) (mCons (mK (.bl false)) (mCons (mK (.int 1)) (mCons (mK (.int 4)) mNil)))))))) E5 (Sh5 cs l' p' ([.int 0, .int 1] ++ [.int 3] ++ [.bl (decide ((0 : Int) < 0))] ++ [.int 1] ++ [.int 4])) = .rt (.bl true) (Sh5 cs l' p' ([.int 0, .int 1] ++ [.int 3] ++ [.bl (decide ((0 : Int) < 0))] ++ [.int 1] ++ [.int 4])) := by
    refine ret_v (bin_v (x := .ref 1) (y := .lst [.int 0, .int 1, .int 3, .bl false, .int 1, .int 4]) rfl (lst_v (cons_v k_ev (cons_v k_ev (cons_v k_ev (cons_v k_ev (cons_v k_ev (cons_v k_ev nil_ev)))))) (by show 6 ≤ 1000000; decide)) ?_)
    rfl
  refine ⟨[], ?_⟩
  unfold g_law d_law
  rw [den_ev, e0, seq_nx e1 (seq_nx f1 (seq_nx s1 (seq_nx s2 (seq_nx s3 (seq_nx s4 (seq_nx s5 (seq_nx s6 (seq_nx s7 s8))))))))]
  rfl
end
end MP.K13
set_option Elab.async false
set_option linter.all false
set_option maxRecDepth 100000
open PySem PySem.W PyProof.Rows
set_option maxHeartbeats 0 in
theorem PySem.Challenge.cw_bestoflast_k13_whole_once_gains_holds : PySem.Challenge.rw_bestoflast_k13_whole_once_gains.Holds := by
  w_on; o_law; k_head; (case hw => w_witness2)
  k_fill
  refine MP.walk_GTs (l := PySem.Challenge.rw_bestoflast_k13_whole_once_gains) (n := 63) (k := 9) (x := "script") (ys := []) (qs := []) rfl (by decide) rfl ⟨rfl, by decide, by decide⟩ (fun w h Y => PySem.W.kIn_of Y) ?Y ?F
  case Y =>
    intro y hy
    exact absurd hy (by simp)
  case F =>
    intro w mg fa h KX G hmg
    refine' MP.K13.all_mk KX G hmg ?a0 ?l0 ?c0 ?k0 ?a1 ?l1 ?c1 ?k1 ?a2 ?l2 ?c2 ?k2 ?a3 ?l3 ?c3 ?k3 ?a4 ?l4 ?c4 ?k4 ?a5 ?l5 ?c5 ?k5 ?a6 ?l6 ?c6 ?k6 ?a7 ?l7 ?c7 ?k7 ?a8 ?l8 ?c8 ?k8 ?a9 ?l9 ?c9 ?k9 ?a10 ?l10 ?c10 ?k10 ?a11 ?l11 ?c11 ?k11 ?a12 ?l12 ?c12 ?k12 ?a13 ?l13 ?c13 ?k13 ?a14 ?l14 ?c14 ?k14 ?a15 ?l15 ?c15 ?k15 ?a16 ?l16 ?c16 ?k16 ?a17 ?l17 ?c17 ?k17 ?a18 ?l18 ?c18 ?k18 ?a19 ?l19 ?c19 ?k19 ?a20 ?l20 ?c20 ?k20 ?a21 ?l21 ?c21 ?k21 ?a22 ?l22 ?c22 ?k22 ?a23 ?l23 ?c23 ?k23 ?a24 ?l24 ?c24 ?k24 ?a25 ?l25 ?c25 ?k25 ?a26 ?l26 ?c26 ?k26 ?a27 ?l27 ?c27 ?k27 ?a28 ?l28 ?c28 ?k28 ?a29 ?l29 ?c29 ?k29 ?a30 ?l30 ?c30 ?k30 ?a31 ?l31 ?c31 ?k31 ?a32 ?l32 ?c32 ?k32 ?a33 ?l33 ?c33 ?k33 ?a34 ?l34 ?c34 ?k34 ?a35 ?l35 ?c35 ?k35 ?a36 ?l36 ?c36 ?k36 ?a37 ?l37 ?c37 ?k37 ?a38 ?l38 ?c38 ?k38 ?a39 ?l39 ?c39 ?k39 ?a40 ?l40 ?c40 ?k40 ?a41 ?l41 ?c41 ?k41 ?a42 ?l42 ?c42 ?k42 ?a43 ?l43 ?c43 ?k43 ?a44 ?l44 ?c44 ?k44 ?a45 ?l45 ?c45 ?k45 ?a46 ?l46 ?c46 ?k46 ?a47 ?l47 ?c47 ?k47 ?a48 ?l48 ?c48 ?k48 ?a49 ?l49 ?c49 ?k49 ?a50 ?l50 ?c50 ?k50 ?a51 ?l51 ?c51 ?k51 ?a52 ?l52 ?c52 ?k52 ?a53 ?l53 ?c53 ?k53 ?a54 ?l54 ?c54 ?k54 ?a55 ?l55 ?c55 ?k55 ?a56 ?l56 ?c56 ?k56 ?a57 ?l57 ?c57 ?k57 ?a58 ?l58 ?c58 ?k58 ?a59 ?l59 ?c59 ?k59 ?a60 ?l60 ?c60 ?k60 ?a61 ?l61 ?c61 ?k61 ?z0 ?z1 ?z2 ?z3 ?z4 ?z5 ?z6 ?z7 ?z8 ?z9 ?z10 ?z11 ?z12 ?z13 ?z14 ?z15 ?v0 ?w0 ?v1 ?v2 ?v3 ?v4 ?v5 ?v6 ?v7 ?v8 ?v9 ?v10 ?w10  MP.K13.fact
    (case a0 => k_is)
    (case l0 => k_is)
    (case c0 => k_is)
    (case k0 => k_is)
    (case a1 => k_is)
    (case l1 => k_is)
    (case c1 => k_is)
    (case k1 => k_is)
    (case a2 => k_is)
    (case l2 => k_is)
    (case c2 => k_is)
    (case k2 => k_is)
    (case a3 => k_is)
    (case l3 => k_is)
    (case c3 => k_is)
    (case k3 => k_is)
    (case a4 => k_is)
    (case l4 => k_is)
    (case c4 => k_is)
    (case k4 => k_is)
    (case a5 => k_is)
    (case l5 => k_is)
    (case c5 => k_is)
    (case k5 => k_is)
    (case a6 => k_is)
    (case l6 => k_is)
    (case c6 => k_is)
    (case k6 => k_is)
    (case a7 => k_is)
    (case l7 => k_is)
    (case c7 => k_is)
    (case k7 => k_is)
    (case a8 => k_is)
    (case l8 => k_is)
    (case c8 => k_is)
    (case k8 => k_is)
    (case a9 => k_is)
    (case l9 => k_is)
    (case c9 => k_is)
    (case k9 => k_is)
    (case a10 => k_is)
    (case l10 => k_is)
    (case c10 => k_is)
    (case k10 => k_is)
    (case a11 => k_is)
    (case l11 => k_is)
    (case c11 => k_is)
    (case k11 => k_is)
    (case a12 => k_is)
    (case l12 => k_is)
    (case c12 => k_is)
    (case k12 => k_is)
    (case a13 => k_is)
    (case l13 => k_is)
    (case c13 => k_is)
    (case k13 => k_is)
    (case a14 => k_is)
    (case l14 => k_is)
    (case c14 => k_is)
    (case k14 => k_is)
    (case a15 => k_is)
    (case l15 => k_is)
    (case c15 => k_is)
    (case k15 => k_is)
    (case a16 => k_is)
    (case l16 => k_is)
    (case c16 => k_is)
    (case k16 => k_is)
    (case a17 => k_is)
    (case l17 => k_is)
    (case c17 => k_is)
    (case k17 => k_is)
    (case a18 => k_is)
    (case l18 => k_is)
    (case c18 => k_is)
    (case k18 => k_is)
    (case a19 => k_is)
    (case l19 => k_is)
    (case c19 => k_is)
    (case k19 => k_is)
    (case a20 => k_is)
    (case l20 => k_is)
    (case c20 => k_is)
    (case k20 => k_is)
    (case a21 => k_is)
    (case l21 => k_is)
    (case c21 => k_is)
    (case k21 => k_is)
    (case a22 => k_is)
    (case l22 => k_is)
    (case c22 => k_is)
    (case k22 => k_is)
    (case a23 => k_is)
    (case l23 => k_is)
    (case c23 => k_is)
    (case k23 => k_is)
    (case a24 => k_is)
    (case l24 => k_is)
    (case c24 => k_is)
    (case k24 => k_is)
    (case a25 => k_is)
    (case l25 => k_is)
    (case c25 => k_is)
    (case k25 => k_is)
    (case a26 => k_is)
    (case l26 => k_is)
    (case c26 => k_is)
    (case k26 => k_is)
    (case a27 => k_is)
    (case l27 => k_is)
    (case c27 => k_is)
    (case k27 => k_is)
    (case a28 => k_is)
    (case l28 => k_is)
    (case c28 => k_is)
    (case k28 => k_is)
    (case a29 => k_is)
    (case l29 => k_is)
    (case c29 => k_is)
    (case k29 => k_is)
    (case a30 => k_is)
    (case l30 => k_is)
    (case c30 => k_is)
    (case k30 => k_is)
    (case a31 => k_is)
    (case l31 => k_is)
    (case c31 => k_is)
    (case k31 => k_is)
    (case a32 => k_is)
    (case l32 => k_is)
    (case c32 => k_is)
    (case k32 => k_is)
    (case a33 => k_is)
    (case l33 => k_is)
    (case c33 => k_is)
    (case k33 => k_is)
    (case a34 => k_is)
    (case l34 => k_is)
    (case c34 => k_is)
    (case k34 => k_is)
    (case a35 => k_is)
    (case l35 => k_is)
    (case c35 => k_is)
    (case k35 => k_is)
    (case a36 => k_is)
    (case l36 => k_is)
    (case c36 => k_is)
    (case k36 => k_is)
    (case a37 => k_is)
    (case l37 => k_is)
    (case c37 => k_is)
    (case k37 => k_is)
    (case a38 => k_is)
    (case l38 => k_is)
    (case c38 => k_is)
    (case k38 => k_is)
    (case a39 => k_is)
    (case l39 => k_is)
    (case c39 => k_is)
    (case k39 => k_is)
    (case a40 => k_is)
    (case l40 => k_is)
    (case c40 => k_is)
    (case k40 => k_is)
    (case a41 => k_is)
    (case l41 => k_is)
    (case c41 => k_is)
    (case k41 => k_is)
    (case a42 => k_is)
    (case l42 => k_is)
    (case c42 => k_is)
    (case k42 => k_is)
    (case a43 => k_is)
    (case l43 => k_is)
    (case c43 => k_is)
    (case k43 => k_is)
    (case a44 => k_is)
    (case l44 => k_is)
    (case c44 => k_is)
    (case k44 => k_is)
    (case a45 => k_is)
    (case l45 => k_is)
    (case c45 => k_is)
    (case k45 => k_is)
    (case a46 => k_is)
    (case l46 => k_is)
    (case c46 => k_is)
    (case k46 => k_is)
    (case a47 => k_is)
    (case l47 => k_is)
    (case c47 => k_is)
    (case k47 => k_is)
    (case a48 => k_is)
    (case l48 => k_is)
    (case c48 => k_is)
    (case k48 => k_is)
    (case a49 => k_is)
    (case l49 => k_is)
    (case c49 => k_is)
    (case k49 => k_is)
    (case a50 => k_is)
    (case l50 => k_is)
    (case c50 => k_is)
    (case k50 => k_is)
    (case a51 => k_is)
    (case l51 => k_is)
    (case c51 => k_is)
    (case k51 => k_is)
    (case a52 => k_is)
    (case l52 => k_is)
    (case c52 => k_is)
    (case k52 => k_is)
    (case a53 => k_is)
    (case l53 => k_is)
    (case c53 => k_is)
    (case k53 => k_is)
    (case a54 => k_is)
    (case l54 => k_is)
    (case c54 => k_is)
    (case k54 => k_is)
    (case a55 => k_is)
    (case l55 => k_is)
    (case c55 => k_is)
    (case k55 => k_is)
    (case a56 => k_is)
    (case l56 => k_is)
    (case c56 => k_is)
    (case k56 => k_is)
    (case a57 => k_is)
    (case l57 => k_is)
    (case c57 => k_is)
    (case k57 => k_is)
    (case a58 => k_is)
    (case l58 => k_is)
    (case c58 => k_is)
    (case k58 => k_is)
    (case a59 => k_is)
    (case l59 => k_is)
    (case c59 => k_is)
    (case k59 => k_is)
    (case a60 => k_is)
    (case l60 => k_is)
    (case c60 => k_is)
    (case k60 => k_is)
    (case a61 => k_is)
    (case l61 => k_is)
    (case c61 => k_is)
    (case k61 => k_is)
    (case z0 => k_is)
    (case z1 => k_is)
    (case z2 => k_is)
    (case z3 => k_is)
    (case z4 => k_is)
    (case z5 => k_is)
    (case z6 => k_is)
    (case z7 => k_is)
    (case z8 => k_is)
    (case z9 => k_is)
    (case z10 => k_is)
    (case z11 => k_is)
    (case z12 => k_is)
    (case z13 => k_is)
    (case z14 => k_is)
    (case z15 => k_is)
    (case v0 => k_is)
    (case w0 => first | rfl | kernel_rfl)
    (case v1 => k_is)
    (case v2 => k_is)
    (case v3 => k_is)
    (case v4 => k_is)
    (case v5 => k_is)
    (case v6 => k_is)
    (case v7 => k_is)
    (case v8 => k_is)
    (case v9 => k_is)
    (case v10 => k_is)
    (case w10 => first | rfl | kernel_rfl)
