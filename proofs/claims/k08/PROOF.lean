import PyProof.Rows.All
import Wide.All
import OpenK.AllK
import Wide.FinOn
import HandS.ForMost
import HandS.ForExc
import HandS.WideBits
import HandS.Wide
import HandS.TupAny
import HandS.IsInst
import HandS.SortInts
import HandS.CallSlots
import HandS.MakeKw
import HandS.Flow
import HandS.ExcInit
import HandS.ExcValue
import HandS.Lambda
import KE.KDictKeyed
import HandS.TupMul
import KE.GoesNew
import KE.GoesMore
import KE.GoesEnum
import HandS.SetFor
import HandS.Strs
import HandS.Style
import KE.DataMinMax
import HandS.SortKw
import HandS.Zip
import KE.KDictZip
import HandS.ExcIs
import HandS.ExcField
import KE.KExcIs
import HandS.TryMany
import KE.KDflt
import HandS.EndTab
import HandS.TryOnly
import PyProof.EqAt
import PyProof.NeKinds
import HandS.StrMore
import HandS.FStr
import HandS.RaiseMore
import KE.GoesEnumKw
import HandS.Text
import PyProof.StrLaws
import PyProof.StrLawsRepr
import PyProof.StrBlock2
import KE.KExcInit
import HandS.Property
import HandS.Star
import HandS.MakeKwOnly
import OpenK.KOps
import OpenK.KMeth
import HandS.Conv
import HandS.RevRange
import HandS.Dict
import HandS.Flt
import HandS.Deep
import KE.KDictCopyH
import KE.KEqDict
import HandS.HeadWalk
import HandS.HeadEnd
import PySem.Challenge.RW_bestoflast_k08_whole_bounds
set_option Elab.async false
set_option linter.all false
set_option maxRecDepth 100000
set_option maxHeartbeats 4000000
namespace MP
open PySem PySem.Spec PyProof.Rows L2
inductive Dv where
  | non | bl (b : Bool) | int (i : Int) | str (x : Str) | ty (n : String) | cl (c : Nat) | ref (n : Nat)
  | tup (ws : List Dv) | lst (ws : List Dv) | sq (ws : List Dv) | dct (ks : List Key) (ws : List Dv) | dtt (kd ws : List Dv) | exc (c : Nat) (f : Str) (w : Dv) | exn (c : Nat) | clo (a c : Addr) (q : Str) (ws : List Dv) (vs : List V)
  deriving Inhabited
inductive Ob where
  | lst (ws : List Dv) | dct (kws : List (Key × Dv)) | dtt (fr : Bool) (kws : List (Dv × Dv)) | obj (c : Nat) (fs : List (Str × Dv)) | tab (n : Nat) (q : Str)
  deriving Inhabited
abbrev Sto := List Ob
abbrev Env := List (Option Dv)
mutual
/-- an int, a tuple of ints and such tuples: as a key of a dict -/
def nk : Dv → Option PySem.NestedKey
  | .int i => some (.num i)
  | .tup ws => (nks ws).map .tup
  | _ => none
def nks : List Dv → Option (List PySem.NestedKey)
  | [] => some []
  | w :: ws => match nk w, nks ws with
    | some k, some ks => some (k :: ks)
    | _, _ => none
end
/-- what a dict's object tells: its keys, each with what stands for it, and its values -/
def DTf (a : Addr) (kvs : List (PySem.NestedKey × V × V)) : Heap → Prop := fun h => (a == sysModules) = false ∧ kvs.length ≤ sizeLine ∧ (∀ p ∈ kvs, p.1.depth ≤ 8) ∧
  ∃ xs : List (PySem.NestedKey × Addr × Value), Paired (fun (p : PySem.NestedKey × V × V) (q : PySem.NestedKey × Addr × Value) => p.1 = q.1 ∧ p.2.1 = .ref q.2.1 ∧ RelV p.2.2 q.2.2) kvs xs ∧
    ∃ (o : Obj) (es : Array DictEntry) (ep : Nat), h.get? a = some o ∧ o.ExactDict ∧ o.data = .dict es ep ∧ (∀ (P : Program) (w : World), es.toList = xs.map (entryOfKey (nestedKind P w))) ∧ (xs.map (·.1)).Nodup
abbrev DTO (a : Addr) (kvs : List (PySem.NestedKey × V × V)) : HO := .ext (DTf a kvs)
/-- such a dict stands at a, to be written or not any more -/
def HD (H : Hp) (a : Addr) (fr : Bool) (kvs : List (PySem.NestedKey × V × V)) : Prop := if fr = true then ∃ od, H a = some (.frz od (DTO a kvs)) else H a = some (DTO a kvs)
theorem HD.eq {H H' : Hp} {a : Addr} {fr : Bool} {kvs : List (PySem.NestedKey × V × V)} (h : HD H a fr kvs) (e : H' a = H a) : HD H' a fr kvs := by
  unfold HD at *
  rw [e]
  exact h
theorem HD.some {H : Hp} {a : Addr} {fr : Bool} {kvs : List (PySem.NestedKey × V × V)} (h : HD H a fr kvs) : H a ≠ none := by
  unfold HD at h
  split at h
  · obtain ⟨od, h⟩ := h
    rw [h]
    intro z; cases z
  · rw [h]
    intro z; cases z
theorem HD.rd {H : Hp} {a : Addr} {fr : Bool} {kvs : List (PySem.NestedKey × V × V)} (h : HD H a fr kvs) : Rd H a (DTO a kvs) := by
  unfold HD at h
  split at h
  · exact .inr h
  · exact .inl h
/-- keys and values, told by data -/
def KVs (kd ws : List Dv) (kvs : List (PySem.NestedKey × V × V)) : Prop := kd.map nk = kvs.map (fun p => Option.some p.1) ∧ ws.length = kvs.length
structure Ex where
  c : Nat
  f : Str
  w : Dv
inductive R (α : Type) where
  | ok (a : α) (s : Sto) | er (x : Ex) (s : Sto) | no
def R.bind {α β : Type} (r : R α) (k : α → Sto → R β) : R β := match r with
  | .ok a s => k a s | .er x s => .er x s | .no => .no
inductive C where
  | nx (ρ : Env) (s : Sto) | rt (w : Dv) (s : Sto) | bk (ρ : Env) (s : Sto) | ct (ρ : Env) (s : Sto) | er (x : Ex) (ρ : Env) (s : Sto) | no
abbrev FE := Env → Sto → R Dv
abbrev FT := Env → Sto → R Bool
abbrev FA := Env → Sto → R (List Dv)
abbrev FS := Env → Sto → C
abbrev Fn := List Dv → Sto → R Dv
def lim : Nat := 16000000
abbrev Mu := Nat → Option Addr
/-- what is fixed: the written part, the classes of exceptions, the tables of code objects -/
structure Ct where
  K : PySem.W.Frag
  cls : Nat → Addr
  tb : Nat → Addr
abbrev Zs := Addr → Prop
def Fz (μ : Mu) (Z : Zs) (a : Addr) : Prop := (∀ n, μ n ≠ some a) ∧ ¬ Z a
def KL (K : PySem.W.Frag) (a : Addr) (xs : List V) : Prop := ∃ (o : Obj) (its : Array Value) (n : Nat), K.lookup a = some o ∧ o.cls = .type "list" ∧ o.dict = none ∧ o.data = .seq its n ∧ its.size ≤ sizeLine ∧ Vals xs its.toList
def KT (K : PySem.W.Frag) (a : Addr) (xs : List V) : Prop := ∃ (o : Obj) (its : Array Value) (n : Nat), K.lookup a = some o ∧ o.cls = .type "tuple" ∧ o.data = .seq its n ∧ its.size ≤ sizeLine ∧ Vals xs its.toList
def AtL (K : PySem.W.Frag) (H : Hp) (μ : Mu) (Z : Zs) (a : Addr) (xs : List V) : Prop := (Rd H a (.lst xs) ∧ Fz μ Z a) ∨ KL K a xs
def AtT (K : PySem.W.Frag) (H : Hp) (μ : Mu) (Z : Zs) (a : Addr) (xs : List V) : Prop := (Rd H a (.tup xs) ∧ Fz μ Z a) ∨ KT K a xs
theorem AtL.sq {K : PySem.W.Frag} {H : Hp} {μ : Mu} {Z : Zs} {a : Addr} {xs : List V} (h : AtL K H μ Z a xs) : SqL K H a xs := h.elim (fun z => .inl z.1) .inr
theorem AtT.sq {K : PySem.W.Frag} {H : Hp} {μ : Mu} {Z : Zs} {a : Addr} {xs : List V} (h : AtT K H μ Z a xs) : SqT K H a xs := h.elim (fun z => .inl z.1) .inr
structure Evo (H : Hp) (μ : Mu) (H' : Hp) (μ' : Mu) : Prop where
  keep : ∀ a o, H a = some o → (∀ n, μ n ≠ some a) → H' a = some o
  mu : ∀ n a, μ n = some a → μ' n = some a
  new : ∀ n a, μ' n = some a → μ n = some a ∨ H a = none
  stay : ∀ n a, μ n = some a → H a ≠ none → H' a ≠ none
section
variable {H H1 H' : Hp} {μ μ1 μ' : Mu} {Z : Zs} {a : Addr} {o : HO} {xs : List V} {K : PySem.W.Frag}
theorem Evo.refl : Evo H μ H μ := ⟨fun _ _ h _ => h, fun _ _ h => h, fun _ _ h => .inl h, fun _ _ _ h => h⟩
theorem Evo.alive (e : Evo H μ H' μ') (h : H a ≠ none) : H' a ≠ none := by
  by_cases hm : ∃ n, μ n = some a
  · obtain ⟨n, hn⟩ := hm
    exact e.stay n a hn h
  · cases q : H a with
    | none => exact absurd q h
    | some o => rw [e.keep a o q (fun n hn => hm ⟨n, hn⟩)]; intro z; cases z
theorem Evo.fz (e : Evo H μ H' μ') (h : H a ≠ none) (f : Fz μ Z a) : Fz μ' Z a := ⟨fun n hn => by
  rcases e.new n a hn with q | q
  · exact f.1 n q
  · exact h q, f.2⟩
theorem Evo.trans (e : Evo H μ H1 μ1) (f : Evo H1 μ1 H' μ') : Evo H μ H' μ' where
  keep := fun a o h hn => by
    have h1 := e.keep a o h hn
    exact f.keep a o h1 fun n q => by
      rcases e.new n a q with z | z
      · exact hn n z
      · rw [h] at z; cases z
  mu := fun n a h => f.mu n a (e.mu n a h)
  new := fun n a h => by
    rcases f.new n a h with q | q
    · exact e.new n a q
    · right
      cases z : H a with
      | none => rfl
      | some o => exact absurd q (e.alive (by rw [z]; intro y; cases y))
  stay := fun n a h q => f.alive (e.alive q)
theorem Rd.alive (h : Rd H a o) : H a ≠ none := by
  rcases h with h | ⟨_, h⟩ <;> (rw [h]; intro z; cases z)
theorem Rd.evo (e : Evo H μ H' μ') (h : Rd H a o) (f : Fz μ Z a) : Rd H' a o := by
  rcases h with h | ⟨u, h⟩
  · exact .inl (e.keep _ _ h f.1)
  · exact .inr ⟨u, e.keep _ _ h f.1⟩
theorem AtL.mono (e : Evo H μ H' μ') (h : AtL K H μ Z a xs) : AtL K H' μ' Z a xs := h.elim (fun ⟨r, f⟩ => .inl ⟨Rd.evo e r f, e.fz (Rd.alive r) f⟩) .inr
theorem AtT.mono (e : Evo H μ H' μ') (h : AtT K H μ Z a xs) : AtT K H' μ' Z a xs := h.elim (fun ⟨r, f⟩ => .inl ⟨Rd.evo e r f, e.fz (Rd.alive r) f⟩) .inr
/-- a new object -/
theorem Evo.laid {p : Addr} (hp : H p = none) : Evo H μ (upd H p o) μ where
  keep := fun a o h _ => by rw [upd_ne (ne_of_none h hp)]; exact h
  mu := fun _ _ h => h
  new := fun _ _ h => .inl h
  stay := fun n a _ h => by
    by_cases e : a = p
    · subst e; exact absurd hp h
    · rw [upd_ne e]; exact h
end
/-- an exception of the class at C, held as a value; its dict is at dx -/
def ExK (a C dx : Addr) : HO := .ext fun h => ∃ (oe : Obj) (vs : Array Value), h.get? a = some oe ∧ Zc (.ref C) (some dx) oe ∧ oe.data = .fields vs
mutual
def RV (Γ : Ct) (H : Hp) (μ : Mu) (Z : Zs) : Dv → V → Prop
  | .non, v => v = .non
  | .bl b, v => v = .bl b
  | .int i, v => v = .int i
  | .str x, v => v = .str x
  | .ty n, v => v = .ty n
  | .cl c, v => v = .ref (Γ.cls c)
  | .ref n, v => ∃ a, v = .ref a ∧ μ n = some a
  | .tup ws, v => ∃ a xs, v = .ref a ∧ AtT Γ.K H μ Z a xs ∧ RVs Γ H μ Z ws xs
  | .lst ws, v => ∃ a xs, v = .ref a ∧ H a = some (.lst xs) ∧ Fz μ Z a ∧ RVs Γ H μ Z ws xs
  | .sq ws, v => ∃ a xs, v = .ref a ∧ AtL Γ.K H μ Z a xs ∧ RVs Γ H μ Z ws xs
  | .dct ks ws, v => ∃ a kvs, v = .ref a ∧ H a = some (.dK kvs) ∧ Fz μ Z a ∧ kvs.map (·.1) = ks ∧ RVs Γ H μ Z ws (kvs.map (·.2))
  | .dtt kd ws, v => ∃ a kvs, v = .ref a ∧ HD H a true kvs ∧ Fz μ Z a ∧ KVs kd ws kvs ∧ RVs Γ H μ Z kd (kvs.map (·.2.1)) ∧ RVs Γ H μ Z ws (kvs.map (·.2.2))
  | .exc c f w, v => ∃ a dx x, v = .ref a ∧ H a = some (ExK a (Γ.cls c) dx) ∧ Fz μ Z a ∧ H dx = some (.xd [(f, x)]) ∧ Fz μ Z dx ∧ RV Γ H μ Z w x
  | .exn c, v => ∃ a, v = .ref a ∧ H a = some (ExO (.ref (Γ.cls c)) a) ∧ Fz μ Z a
  | .clo a c q ws vs, v => v = .ref a ∧ H c = some (LamX.CodeO c q) ∧ Fz μ Z c ∧ RVs Γ H μ Z ws vs
def RVs (Γ : Ct) (H : Hp) (μ : Mu) (Z : Zs) : List Dv → List V → Prop
  | [], vs => vs = []
  | w :: ws, vs => ∃ x xs, vs = x :: xs ∧ RV Γ H μ Z w x ∧ RVs Γ H μ Z ws xs
end
section
variable {Γ : Ct} {H H1 H' : Hp} {μ μ1 μ' : Mu} {Z Z' : Zs}
mutual
theorem RV.mono (e : Evo H μ H' μ') : ∀ (w : Dv) {v : V}, RV Γ H μ Z w v → RV Γ H' μ' Z w v
  | .non, _, h => h
  | .bl _, _, h => h
  | .int _, _, h => h
  | .str _, _, h => h
  | .ty _, _, h => h
  | .cl _, _, h => h
  | .ref n, _, h => by
    obtain ⟨a, h1, h2⟩ := h
    exact ⟨a, h1, e.mu n a h2⟩
  | .tup ws, _, h => by
    obtain ⟨a, xs, h1, h2, h3⟩ := h
    exact ⟨a, xs, h1, h2.mono e, RVs.mono e ws h3⟩
  | .lst ws, _, h => by
    obtain ⟨a, xs, h1, h2, h3, h4⟩ := h
    exact ⟨a, xs, h1, e.keep _ _ h2 h3.1, e.fz (by rw [h2]; intro z; cases z) h3, RVs.mono e ws h4⟩
  | .sq ws, _, h => by
    obtain ⟨a, xs, h1, h2, h3⟩ := h
    exact ⟨a, xs, h1, h2.mono e, RVs.mono e ws h3⟩
  | .dct ks ws, _, h => by
    obtain ⟨a, kvs, h1, h2, h3, h4, h5⟩ := h
    exact ⟨a, kvs, h1, e.keep _ _ h2 h3.1, e.fz (by rw [h2]; intro z; cases z) h3, h4, RVs.mono e ws h5⟩
  | .dtt kd ws, _, h => by
    obtain ⟨a, kvs, h1, h2, h3, h4, h5, h6⟩ := h
    exact ⟨a, kvs, h1, let ⟨od, z⟩ := h2; ⟨od, e.keep _ _ z h3.1⟩, e.fz h2.some h3, h4, RVs.mono e kd h5, RVs.mono e ws h6⟩
  | .exc c f w, _, h => by
    obtain ⟨a, dx, x, h1, h2, h3, h4, h5, h6⟩ := h
    exact ⟨a, dx, x, h1, e.keep _ _ h2 h3.1, e.fz (by rw [h2]; intro z; cases z) h3, e.keep _ _ h4 h5.1, e.fz (by rw [h4]; intro z; cases z) h5, RV.mono e w h6⟩
  | .exn c, _, h => by
    obtain ⟨a, h1, h2, h3⟩ := h
    exact ⟨a, h1, e.keep _ _ h2 h3.1, e.fz (by rw [h2]; intro z; cases z) h3⟩
  | .clo a c q ws vs, _, h => by
    obtain ⟨h1, h2, h3, h4⟩ := h
    exact ⟨h1, e.keep _ _ h2 h3.1, e.fz (by rw [h2]; intro z; cases z) h3, RVs.mono e ws h4⟩
theorem RVs.mono (e : Evo H μ H' μ') : ∀ (ws : List Dv) {vs : List V}, RVs Γ H μ Z ws vs → RVs Γ H' μ' Z ws vs
  | [], _, h => h
  | w :: ws, _, h => by
    obtain ⟨x, xs, h1, h2, h3⟩ := h
    exact ⟨x, xs, h1, RV.mono e w h2, RVs.mono e ws h3⟩
end
/-- what is hidden may change -/
structure EvoZ (Z : Zs) (H : Hp) (μ : Mu) (H' : Hp) (μ' : Mu) : Prop where
  keep : ∀ a o, H a = some o → (∀ n, μ n ≠ some a) → ¬ Z a → H' a = some o
  mu : ∀ n a, μ n = some a → μ' n = some a
  new : ∀ n a, μ' n = some a → μ n = some a ∨ H a = none
  live : ∀ a, H a ≠ none → H' a ≠ none
theorem Evo.z {H H' : Hp} {μ μ' : Mu} {Z : Zs} (e : Evo H μ H' μ') : EvoZ Z H μ H' μ' := ⟨fun a o h hn _ => e.keep a o h hn, e.mu, e.new, fun _ h => e.alive h⟩
theorem EvoZ.more {H H' : Hp} {μ μ' : Mu} {Z Z' : Zs} (h : ∀ a, Z a → Z' a) (e : EvoZ Z H μ H' μ') : EvoZ Z' H μ H' μ' := ⟨fun a o q hn z => e.keep a o q hn fun y => z (h a y), e.mu, e.new, e.live⟩
theorem EvoZ.trans {H H1 H' : Hp} {μ μ1 μ' : Mu} {Z : Zs} (e : EvoZ Z H μ H1 μ1) (f : EvoZ Z H1 μ1 H' μ') : EvoZ Z H μ H' μ' where
  keep := fun a o h hn z => by
    have h1 := e.keep a o h hn z
    exact f.keep a o h1 (fun n q => by
      rcases e.new n a q with y | y
      · exact hn n y
      · rw [h] at y; cases y) z
  mu := fun n a h => f.mu n a (e.mu n a h)
  new := fun n a h => by
    rcases f.new n a h with q | q
    · exact e.new n a q
    · right
      cases z : H a with
      | none => rfl
      | some o => exact absurd q (e.live a (by rw [z]; intro y; cases y))
  live := fun a h => f.live a (e.live a h)
theorem EvoZ.fz {H H' : Hp} {μ μ' : Mu} {Z : Zs} {a : Addr} (e : EvoZ Z H μ H' μ') (h : H a ≠ none) (f : Fz μ Z a) : Fz μ' Z a := ⟨fun n hn => by
  rcases e.new n a hn with q | q
  · exact f.1 n q
  · exact h q, f.2⟩
theorem Rd.evoZ {H H' : Hp} {μ μ' : Mu} {Z : Zs} {a : Addr} {o : HO} (e : EvoZ Z H μ H' μ') (h : Rd H a o) (f : Fz μ Z a) : Rd H' a o := by
  rcases h with h | ⟨u, h⟩
  · exact .inl (e.keep _ _ h f.1 f.2)
  · exact .inr ⟨u, e.keep _ _ h f.1 f.2⟩
theorem AtL.monoZ {K : PySem.W.Frag} {H H' : Hp} {μ μ' : Mu} {Z : Zs} {a : Addr} {xs : List V} (e : EvoZ Z H μ H' μ') (h : AtL K H μ Z a xs) : AtL K H' μ' Z a xs := h.elim (fun ⟨r, f⟩ => .inl ⟨Rd.evoZ e r f, e.fz (Rd.alive r) f⟩) .inr
theorem AtT.monoZ {K : PySem.W.Frag} {H H' : Hp} {μ μ' : Mu} {Z : Zs} {a : Addr} {xs : List V} (e : EvoZ Z H μ H' μ') (h : AtT K H μ Z a xs) : AtT K H' μ' Z a xs := h.elim (fun ⟨r, f⟩ => .inl ⟨Rd.evoZ e r f, e.fz (Rd.alive r) f⟩) .inr
/-- base, then only D changed -/
theorem Evo.thenZ {H0 H1 H' : Hp} {μ0 μ1 μ' : Mu} {D : Addr} (e : Evo H0 μ0 H1 μ1) (hD : H0 D = none) (f : EvoZ (fun a => a = D) H1 μ1 H' μ') : Evo H0 μ0 H' μ' where
  keep := fun a o h hn => by
    have h1 := e.keep a o h hn
    exact f.keep a o h1 (fun n q => by
      rcases e.new n a q with y | y
      · exact hn n y
      · rw [h] at y; cases y) (fun z => by rw [z, hD] at h; cases h)
  mu := fun n a h => f.mu n a (e.mu n a h)
  new := fun n a h => by
    rcases f.new n a h with q | q
    · exact e.new n a q
    · right
      cases z : H0 a with
      | none => rfl
      | some o => exact absurd q (e.alive (by rw [z]; intro y; cases y))
  stay := fun n a h q => f.live a (e.alive q)
theorem EvoZ.upd {H H' : Hp} {μ μ' : Mu} {D : Addr} {o : HO} (e : EvoZ (fun a => a = D) H μ H' μ') : EvoZ (fun a => a = D) H μ (upd H' D o) μ' where
  keep := fun a u h hn z => by rw [upd_ne z]; exact e.keep a u h hn z
  mu := e.mu
  new := e.new
  live := fun a h => by
    by_cases z : a = D
    · rw [z, upd_same]; intro y; cases y
    · rw [upd_ne z]; exact e.live a h
mutual
theorem RV.monoZ (e : EvoZ Z H μ H' μ') : ∀ (w : Dv) {v : V}, RV Γ H μ Z w v → RV Γ H' μ' Z w v
  | .non, _, h => h
  | .bl _, _, h => h
  | .int _, _, h => h
  | .str _, _, h => h
  | .ty _, _, h => h
  | .cl _, _, h => h
  | .ref n, _, h => by
    obtain ⟨a, h1, h2⟩ := h
    exact ⟨a, h1, e.mu n a h2⟩
  | .tup ws, _, h => by
    obtain ⟨a, xs, h1, h2, h3⟩ := h
    exact ⟨a, xs, h1, h2.monoZ e, RVs.monoZ e ws h3⟩
  | .lst ws, _, h => by
    obtain ⟨a, xs, h1, h2, h3, h4⟩ := h
    exact ⟨a, xs, h1, e.keep _ _ h2 h3.1 h3.2, e.fz (by rw [h2]; intro z; cases z) h3, RVs.monoZ e ws h4⟩
  | .sq ws, _, h => by
    obtain ⟨a, xs, h1, h2, h3⟩ := h
    exact ⟨a, xs, h1, h2.monoZ e, RVs.monoZ e ws h3⟩
  | .dct ks ws, _, h => by
    obtain ⟨a, kvs, h1, h2, h3, h4, h5⟩ := h
    exact ⟨a, kvs, h1, e.keep _ _ h2 h3.1 h3.2, e.fz (by rw [h2]; intro z; cases z) h3, h4, RVs.monoZ e ws h5⟩
  | .dtt kd ws, _, h => by
    obtain ⟨a, kvs, h1, h2, h3, h4, h5, h6⟩ := h
    exact ⟨a, kvs, h1, let ⟨od, z⟩ := h2; ⟨od, e.keep _ _ z h3.1 h3.2⟩, e.fz h2.some h3, h4, RVs.monoZ e kd h5, RVs.monoZ e ws h6⟩
  | .exc c f w, _, h => by
    obtain ⟨a, dx, x, h1, h2, h3, h4, h5, h6⟩ := h
    exact ⟨a, dx, x, h1, e.keep _ _ h2 h3.1 h3.2, e.fz (by rw [h2]; intro z; cases z) h3, e.keep _ _ h4 h5.1 h5.2, e.fz (by rw [h4]; intro z; cases z) h5, RV.monoZ e w h6⟩
  | .exn c, _, h => by
    obtain ⟨a, h1, h2, h3⟩ := h
    exact ⟨a, h1, e.keep _ _ h2 h3.1 h3.2, e.fz (by rw [h2]; intro z; cases z) h3⟩
  | .clo a c q ws vs, _, h => by
    obtain ⟨h1, h2, h3, h4⟩ := h
    exact ⟨h1, e.keep _ _ h2 h3.1 h3.2, e.fz (by rw [h2]; intro z; cases z) h3, RVs.monoZ e ws h4⟩
theorem RVs.monoZ (e : EvoZ Z H μ H' μ') : ∀ (ws : List Dv) {vs : List V}, RVs Γ H μ Z ws vs → RVs Γ H' μ' Z ws vs
  | [], _, h => h
  | w :: ws, _, h => by
    obtain ⟨x, xs, h1, h2, h3⟩ := h
    exact ⟨x, xs, h1, RV.monoZ e w h2, RVs.monoZ e ws h3⟩
end
theorem Fz.weak {a : Addr} (h : ∀ a, Z a → Z' a) (f : Fz μ Z' a) : Fz μ Z a := ⟨f.1, fun z => f.2 (h a z)⟩
mutual
theorem RV.weak (h : ∀ a, Z a → Z' a) : ∀ (w : Dv) {v : V}, RV Γ H μ Z' w v → RV Γ H μ Z w v
  | .non, _, q => q
  | .bl _, _, q => q
  | .int _, _, q => q
  | .str _, _, q => q
  | .ty _, _, q => q
  | .cl _, _, q => q
  | .ref n, _, q => q
  | .tup ws, _, q => by
    obtain ⟨a, xs, h1, h2, h3⟩ := q
    exact ⟨a, xs, h1, h2.elim (fun z => .inl ⟨z.1, z.2.weak h⟩) .inr, RVs.weak h ws h3⟩
  | .lst ws, _, q => by
    obtain ⟨a, xs, h1, h2, h3, h4⟩ := q
    exact ⟨a, xs, h1, h2, h3.weak h, RVs.weak h ws h4⟩
  | .sq ws, _, q => by
    obtain ⟨a, xs, h1, h2, h3⟩ := q
    exact ⟨a, xs, h1, h2.elim (fun z => .inl ⟨z.1, z.2.weak h⟩) .inr, RVs.weak h ws h3⟩
  | .dct ks ws, _, q => by
    obtain ⟨a, kvs, h1, h2, h3, h4, h5⟩ := q
    exact ⟨a, kvs, h1, h2, h3.weak h, h4, RVs.weak h ws h5⟩
  | .dtt kd ws, _, q => by
    obtain ⟨a, kvs, h1, h2, h3, h4, h5, h6⟩ := q
    exact ⟨a, kvs, h1, h2, h3.weak h, h4, RVs.weak h kd h5, RVs.weak h ws h6⟩
  | .exc c f w, _, q => by
    obtain ⟨a, dx, x, h1, h2, h3, h4, h5, h6⟩ := q
    exact ⟨a, dx, x, h1, h2, h3.weak h, h4, h5.weak h, RV.weak h w h6⟩
  | .exn c, _, q => by
    obtain ⟨a, h1, h2, h3⟩ := q
    exact ⟨a, h1, h2, h3.weak h⟩
  | .clo a c _ ws vs, _, q => by
    obtain ⟨h1, h2, h3, h4⟩ := q
    exact ⟨h1, h2, h3.weak h, RVs.weak h ws h4⟩
theorem RVs.weak (h : ∀ a, Z a → Z' a) : ∀ (ws : List Dv) {vs : List V}, RVs Γ H μ Z' ws vs → RVs Γ H μ Z ws vs
  | [], _, q => q
  | w :: ws, _, q => by
    obtain ⟨x, xs, h1, h2, h3⟩ := q
    exact ⟨x, xs, h1, RV.weak h w h2, RVs.weak h ws h3⟩
end
/-- under a reserved address all may change -/
theorem Fz.evoZ {p a : Addr} (f : Fz μ (fun b => b = p ∨ Z b) a) : a ≠ p := fun e => f.2 (.inl e)
mutual
theorem RV.updZ {p : Addr} {o : HO} : ∀ (w : Dv) {v : V}, RV Γ H μ (fun b => b = p ∨ Z b) w v → RV Γ (upd H p o) μ (fun b => b = p ∨ Z b) w v
  | .non, _, q => q
  | .bl _, _, q => q
  | .int _, _, q => q
  | .str _, _, q => q
  | .ty _, _, q => q
  | .cl _, _, q => q
  | .ref n, _, q => q
  | .tup ws, _, q => by
    obtain ⟨a, xs, h1, h2, h3⟩ := q
    refine ⟨a, xs, h1, ?_, RVs.updZ ws h3⟩
    rcases h2 with ⟨h2, f⟩ | h2
    · refine .inl ⟨?_, f⟩
      unfold Rd
      rw [upd_ne f.evoZ]
      exact h2
    · exact .inr h2
  | .lst ws, _, q => by
    obtain ⟨a, xs, h1, h2, h3, h4⟩ := q
    exact ⟨a, xs, h1, by rw [upd_ne h3.evoZ]; exact h2, h3, RVs.updZ ws h4⟩
  | .sq ws, _, q => by
    obtain ⟨a, xs, h1, h2, h3⟩ := q
    refine ⟨a, xs, h1, ?_, RVs.updZ ws h3⟩
    rcases h2 with ⟨h2, f⟩ | h2
    · refine .inl ⟨?_, f⟩
      unfold Rd
      rw [upd_ne f.evoZ]
      exact h2
    · exact .inr h2
  | .dct ks ws, _, q => by
    obtain ⟨a, kvs, h1, h2, h3, h4, h5⟩ := q
    exact ⟨a, kvs, h1, by rw [upd_ne h3.evoZ]; exact h2, h3, h4, RVs.updZ ws h5⟩
  | .dtt kd ws, _, q => by
    obtain ⟨a, kvs, h1, h2, h3, h4, h5, h6⟩ := q
    exact ⟨a, kvs, h1, h2.eq (upd_ne h3.evoZ), h3, h4, RVs.updZ kd h5, RVs.updZ ws h6⟩
  | .exc c f w, _, q => by
    obtain ⟨a, dx, x, h1, h2, h3, h4, h5, h6⟩ := q
    exact ⟨a, dx, x, h1, by rw [upd_ne h3.evoZ]; exact h2, h3, by rw [upd_ne h5.evoZ]; exact h4, h5, RV.updZ w h6⟩
  | .exn c, _, q => by
    obtain ⟨a, h1, h2, h3⟩ := q
    exact ⟨a, h1, by rw [upd_ne h3.evoZ]; exact h2, h3⟩
  | .clo a c _ ws vs, _, q => by
    obtain ⟨h1, h2, h3, h4⟩ := q
    exact ⟨h1, by rw [upd_ne h3.evoZ]; exact h2, h3, RVs.updZ ws h4⟩
theorem RVs.updZ {p : Addr} {o : HO} : ∀ (ws : List Dv) {vs : List V}, RVs Γ H μ (fun b => b = p ∨ Z b) ws vs → RVs Γ (upd H p o) μ (fun b => b = p ∨ Z b) ws vs
  | [], _, q => q
  | w :: ws, _, q => by
    obtain ⟨x, xs, h1, h2, h3⟩ := q
    exact ⟨x, xs, h1, RV.updZ w h2, RVs.updZ ws h3⟩
end
theorem RVs.nil : RVs Γ H μ Z [] [] := rfl
theorem RVs.cons {w : Dv} {ws : List Dv} {x : V} {xs : List V} (h : RV Γ H μ Z w x) (t : RVs Γ H μ Z ws xs) : RVs Γ H μ Z (w :: ws) (x :: xs) := ⟨x, xs, rfl, h, t⟩
theorem RVs.len : ∀ {ws : List Dv} {xs : List V}, RVs Γ H μ Z ws xs → xs.length = ws.length
  | [], _, h => by rw [show _ = [] from h]; rfl
  | w :: ws, _, h => by
    obtain ⟨x, xs, rfl, _, h3⟩ := h
    rw [List.length_cons, List.length_cons, RVs.len h3]
theorem RVs.get : ∀ {ws : List Dv} {xs : List V} {i : Nat} {w : Dv}, RVs Γ H μ Z ws xs → ws[i]? = some w → ∃ x, xs[i]? = some x ∧ RV Γ H μ Z w x
  | [], _, _, _, _, e => by cases e
  | a :: ws, _, 0, w, h, e => by
    obtain ⟨x, xs, rfl, h2, _⟩ := h
    cases e
    exact ⟨x, rfl, h2⟩
  | a :: ws, _, i + 1, w, h, e => by
    obtain ⟨x, xs, rfl, _, h3⟩ := h
    obtain ⟨y, e1, e2⟩ := RVs.get (i := i) (w := w) h3 (by simpa using e)
    exact ⟨y, by simpa using e1, e2⟩
theorem RVs.append : ∀ {ws us : List Dv} {xs ys : List V}, RVs Γ H μ Z ws xs → RVs Γ H μ Z us ys → RVs Γ H μ Z (ws ++ us) (xs ++ ys)
  | [], _, _, _, h, q => by rw [show _ = [] from h]; exact q
  | a :: ws, _, _, _, h, q => by
    obtain ⟨x, xs, rfl, h2, h3⟩ := h
    exact RVs.cons h2 (RVs.append h3 q)
theorem RVs.drop : ∀ {ws : List Dv} {xs : List V} (n : Nat), RVs Γ H μ Z ws xs → RVs Γ H μ Z (ws.drop n) (xs.drop n)
  | _, _, 0, h => h
  | [], _, _ + 1, h => by rw [show _ = [] from h]; exact rfl
  | _ :: ws, _, n + 1, h => by
    obtain ⟨x, xs, rfl, _, h3⟩ := h
    exact RVs.drop n h3
theorem RVs.take : ∀ {ws : List Dv} {xs : List V} (n : Nat), RVs Γ H μ Z ws xs → RVs Γ H μ Z (ws.take n) (xs.take n)
  | _, _, 0, _ => rfl
  | [], _, _ + 1, h => by rw [show _ = [] from h]; exact rfl
  | _ :: ws, _, n + 1, h => by
    obtain ⟨x, xs, rfl, h2, h3⟩ := h
    exact RVs.cons h2 (RVs.take n h3)
theorem RVs.ints : ∀ {ns : List Int} {xs : List V}, RVs Γ H μ Z (ns.map .int) xs → xs = ns.map .int
  | [], _, h => h
  | n :: ns, _, h => by
    obtain ⟨x, xs, rfl, h2, h3⟩ := h
    rw [show x = V.int n from h2, RVs.ints h3]
    rfl
theorem RVs.of_ints : ∀ (ns : List Int), RVs Γ H μ Z (ns.map .int) (ns.map .int)
  | [] => rfl
  | n :: ns => RVs.cons rfl (RVs.of_ints ns)
theorem RVs.rep {ws : List Dv} {xs : List V} (h : RVs Γ H μ Z ws xs) : ∀ k : Nat, RVs Γ H μ Z (List.replicate k ws).flatten (List.replicate k xs).flatten
  | 0 => rfl
  | k + 1 => by
    rw [List.replicate_succ, List.replicate_succ, List.flatten_cons, List.flatten_cons]
    exact RVs.append h (RVs.rep h k)
end
def RO (Γ : Ct) (H : Hp) (μ : Mu) (Z : Zs) (a : Addr) : Ob → Prop
  | .lst ws => ∃ xs, H a = some (.lst xs) ∧ RVs Γ H μ Z ws xs
  | .dct kws => ∃ kvs, H a = some (.dK kvs) ∧ kvs.map (·.1) = kws.map (·.1) ∧ RVs Γ H μ Z (kws.map (·.2)) (kvs.map (·.2))
  | .dtt fr kws => ∃ kvs, HD H a fr kvs ∧ KVs (kws.map (·.1)) (kws.map (·.2)) kvs ∧ RVs Γ H μ Z (kws.map (·.1)) (kvs.map (·.2.1)) ∧ RVs Γ H μ Z (kws.map (·.2)) (kvs.map (·.2.2))
  | .obj c fs => ∃ dx kvs, H a = some (.ins (Γ.cls c) dx kvs) ∧ kvs.map (·.1) = fs.map (·.1) ∧ RVs Γ H μ Z (fs.map (·.2)) (kvs.map (·.2))
  | .tab n q => a = Γ.tb n ∧ ∃ ps : Array Value, H a = some (.tbl ps) ∧ TriplesOk ps.toList ∧ ∀ (pos : Pos) (cv : Value), codeAmong pos ps.toList = some cv → ∃ c, cv = .ref c ∧ H c = some (LamX.CodeO c q) ∧ Fz μ Z c
theorem tab_imp {H H' : Hp} {μ μ' : Mu} {Z Z' : Zs} {a : Addr} {q : Str} (hH : H' a = H a) (k : ∀ c, H c = some (LamX.CodeO c q) → Fz μ Z c → H' c = some (LamX.CodeO c q) ∧ Fz μ' Z' c)
    (h : ∃ ps : Array Value, H a = some (.tbl ps) ∧ TriplesOk ps.toList ∧ ∀ (pos : Pos) (cv : Value), codeAmong pos ps.toList = some cv → ∃ c, cv = .ref c ∧ H c = some (LamX.CodeO c q) ∧ Fz μ Z c) :
    ∃ ps : Array Value, H' a = some (.tbl ps) ∧ TriplesOk ps.toList ∧ ∀ (pos : Pos) (cv : Value), codeAmong pos ps.toList = some cv → ∃ c, cv = .ref c ∧ H' c = some (LamX.CodeO c q) ∧ Fz μ' Z' c := by
  obtain ⟨ps, h1, h2, h3⟩ := h
  refine ⟨ps, hH.trans h1, h2, fun pos cv e => ?_⟩
  obtain ⟨c, e1, e2, e3⟩ := h3 pos cv e
  exact ⟨c, e1, k c e2 e3⟩
structure Rep (Γ : Ct) (H : Hp) (μ : Mu) (Z : Zs) (s : Sto) : Prop where
  «at» : ∀ (n : Nat) (o : Ob), s[n]? = some o → ∃ a, μ n = some a ∧ ¬ Z a ∧ RO Γ H μ Z a o
  inj : ∀ n m a, μ n = some a → μ m = some a → n = m
  dom : ∀ n a, μ n = some a → n < s.length
  za : ∀ a, Z a → H a ≠ none
def RE (Γ : Ct) (H : Hp) (μ : Mu) (Z : Zs) (ρ : Env) (σ : L2.St) : Prop := ρ.length = σ.length ∧ ∀ (i : Nat) (w : Dv), ρ[i]? = some (some w) → ∃ v, σ[i]? = some (some v) ∧ RV Γ H μ Z w v
/-- an exception on its way: its class, its dict -/
def RX (Γ : Ct) (H : Hp) (μ : Mu) (Z : Zs) (x : Ex) (cls : Value) (d : Option Addr) : Prop := cls = .ref (Γ.cls x.c) ∧ ∃ dd v, d = some dd ∧ H dd = some (.xd [(x.f, v)]) ∧ Fz μ Z dd ∧ RV Γ H μ Z x.w v
section
variable {Γ : Ct} {H H1 H' : Hp} {μ μ1 μ' : Mu} {Z Z' : Zs} {ρ : Env} {σ : L2.St} {s : Sto} {p : Addr} {o : HO}
theorem RE.mono (e : Evo H μ H' μ') (h : RE Γ H μ Z ρ σ) : RE Γ H' μ' Z ρ σ := ⟨h.1, fun i w q => by
  obtain ⟨v, h1, h2⟩ := h.2 i w q
  exact ⟨v, h1, h2.mono e⟩⟩
theorem RE.set {w : Dv} {v : V} (i : Nat) (h : RE Γ H μ Z ρ σ) (r : RV Γ H μ Z w v) : RE Γ H μ Z (ρ.set i (some w)) (σ.set i (some v)) := by
  refine ⟨by rw [List.length_set, List.length_set]; exact h.1, fun j u q => ?_⟩
  by_cases e : i = j
  · subst e
    have hl : i < ρ.length := by
      have := (List.getElem?_eq_some_iff.mp q).1
      simpa using this
    rw [List.getElem?_set_self hl] at q
    cases q
    exact ⟨v, List.getElem?_set_self (by rw [← h.1]; exact hl), r⟩
  · rw [List.getElem?_set_ne e] at q
    rw [List.getElem?_set_ne e]
    exact h.2 j u q
theorem RE.del (i : Nat) (h : RE Γ H μ Z ρ σ) : RE Γ H μ Z (ρ.set i none) (σ.set i none) := by
  refine ⟨by rw [List.length_set, List.length_set]; exact h.1, fun j u q => ?_⟩
  by_cases e : i = j
  · subst e
    have hl : i < ρ.length := by
      have := (List.getElem?_eq_some_iff.mp q).1
      simpa using this
    rw [List.getElem?_set_self hl] at q
    cases q
  · rw [List.getElem?_set_ne e] at q
    rw [List.getElem?_set_ne e]
    exact h.2 j u q
theorem RE.weak (h : ∀ a, Z a → Z' a) (r : RE Γ H μ Z' ρ σ) : RE Γ H μ Z ρ σ := ⟨r.1, fun i w q => by
  obtain ⟨v, h1, h2⟩ := r.2 i w q
  exact ⟨v, h1, h2.weak h⟩⟩
theorem RX.mono {x : Ex} {cls : Value} {d : Option Addr} (e : Evo H μ H' μ') (h : RX Γ H μ Z x cls d) : RX Γ H' μ' Z x cls d := by
  obtain ⟨h1, dd, v, h2, h3, h4, h5⟩ := h
  exact ⟨h1, dd, v, h2, e.keep _ _ h3 h4.1, e.fz (by rw [h3]; intro z; cases z) h4, h5.mono e⟩
/-- the store's objects stay where the heap grows beside them -/
theorem Rep.keep (R : Rep Γ H μ Z s) (e : Evo H μ H' μ) (h : ∀ n a, μ n = some a → H' a = H a) : Rep Γ H' μ Z s := ⟨fun n o q => by
  obtain ⟨a, h1, h2, h3⟩ := R.at n o q
  refine ⟨a, h1, h2, ?_⟩
  cases o with
  | lst ws =>
    obtain ⟨xs, h4, h5⟩ := h3
    exact ⟨xs, (h n a h1).trans h4, h5.mono e⟩
  | dct kws =>
    obtain ⟨kvs, h4, h5, h6⟩ := h3
    exact ⟨kvs, (h n a h1).trans h4, h5, h6.mono e⟩
  | dtt fr kws =>
    obtain ⟨kvs, h4, h5, h6, h7⟩ := h3
    exact ⟨kvs, h4.eq (h n a h1), h5, h6.mono e, h7.mono e⟩
  | obj c fs =>
    obtain ⟨dx, kvs, h4, h5, h6⟩ := h3
    exact ⟨dx, kvs, (h n a h1).trans h4, h5, h6.mono e⟩
  | tab m q => exact ⟨h3.1, tab_imp (h n a h1) (fun c e1 e2 => ⟨e.keep _ _ e1 e2.1, e.fz (by rw [e1]; intro z; cases z) e2⟩) h3.2⟩, R.inj, R.dom, fun a q => e.alive (R.za a q)⟩
theorem RO.alive {a : Addr} {o : Ob} (h : RO Γ H μ Z a o) : H a ≠ none := by
  cases o with
  | lst ws => obtain ⟨_, h, _⟩ := h; rw [h]; intro z; cases z
  | dct kws => obtain ⟨_, h, _⟩ := h; rw [h]; intro z; cases z
  | dtt fr kws => obtain ⟨_, h, _⟩ := h; exact h.some
  | obj c fs => obtain ⟨_, _, h, _⟩ := h; rw [h]; intro z; cases z
  | tab m q => obtain ⟨_, _, h, _⟩ := h; rw [h]; intro z; cases z
theorem Rep.alive (R : Rep Γ H μ Z s) {n : Nat} {a : Addr} (h : μ n = some a) : H a ≠ none := by
  have hl := R.dom n a h
  obtain ⟨b, h1, _, h3⟩ := R.at n _ (List.getElem?_eq_getElem hl)
  rw [h] at h1
  cases h1
  exact h3.alive
theorem Rep.notZ (R : Rep Γ H μ Z s) {n : Nat} {a : Addr} (h : μ n = some a) : ¬ Z a := by
  have hl := R.dom n a h
  obtain ⟨b, h1, h2, h3⟩ := R.at n _ (List.getElem?_eq_getElem hl)
  rw [h] at h1
  cases h1
  exact h2
theorem Rep.laid (R : Rep Γ H μ Z s) (hp : H p = none) : Rep Γ (upd H p o) μ Z s := R.keep (Evo.laid hp) fun n a h => upd_ne fun e => R.alive h (e ▸ hp)
theorem Rep.fz (R : Rep Γ H μ Z s) (hp : H p = none) : Fz μ Z p := ⟨fun n h => R.alive h hp, fun z => R.za p z hp⟩
end
end MP
set_option Elab.async false
set_option linter.all false
set_option maxRecDepth 100000
set_option maxHeartbeats 4000000
namespace MP
open PySem PySem.Spec PyProof.Rows L2
section
variable (Γ : Ct) (W : WX) (H : Hp) (μ : Mu) (Z : Zs) (σ : L2.St)
def PostE (Q : VK) : R Dv → Prop
  | .ok w s' => ∀ v H' μ', Evo H μ H' μ' → Rep Γ H' μ' Z s' → RV Γ H' μ' Z w v → Q v H'
  | .er x s' => ∀ cls d H' μ', Evo H μ H' μ' → Rep Γ H' μ' Z s' → RX Γ H' μ' Z x cls d → W cls d σ H'
  | .no => False
def PostT (Q : Bool → Hp → Prop) : R Bool → Prop
  | .ok b s' => ∀ H' μ', Evo H μ H' μ' → Rep Γ H' μ' Z s' → Q b H'
  | .er x s' => ∀ cls d H' μ', Evo H μ H' μ' → Rep Γ H' μ' Z s' → RX Γ H' μ' Z x cls d → W cls d σ H'
  | .no => False
def PostA (Q : List V → Hp → Prop) : R (List Dv) → Prop
  | .ok ws s' => ∀ vs H' μ', Evo H μ H' μ' → Rep Γ H' μ' Z s' → RVs Γ H' μ' Z ws vs → Q vs H'
  | .er x s' => ∀ cls d H' μ', Evo H μ H' μ' → Rep Γ H' μ' Z s' → RX Γ H' μ' Z x cls d → W cls d σ H'
  | .no => False
def PostS (D : Ends) : C → Prop
  | .nx ρ' s' => ∀ σ' H' μ', Evo H μ H' μ' → Rep Γ H' μ' Z s' → RE Γ H' μ' Z ρ' σ' → D.nx σ' H'
  | .bk ρ' s' => ∀ σ' H' μ', Evo H μ H' μ' → Rep Γ H' μ' Z s' → RE Γ H' μ' Z ρ' σ' → D.bk σ' H'
  | .ct ρ' s' => ∀ σ' H' μ', Evo H μ H' μ' → Rep Γ H' μ' Z s' → RE Γ H' μ' Z ρ' σ' → D.ct σ' H'
  | .rt w s' => ∀ v H' μ', Evo H μ H' μ' → Rep Γ H' μ' Z s' → RV Γ H' μ' Z w v → D.rt v H'
  | .er x ρ' s' => ∀ cls d σ' H' μ', Evo H μ H' μ' → Rep Γ H' μ' Z s' → RE Γ H' μ' Z ρ' σ' → RX Γ H' μ' Z x cls d → W cls d σ' H'
  | .no => False
end
def rdE (Γ : Ct) (W : WX) (f : FE) : TE := fun σ H Q => ∃ μ Z ρ s, RE Γ H μ Z ρ σ ∧ Rep Γ H μ Z s ∧ PostE Γ W H μ Z σ Q (f ρ s)
def rdT (Γ : Ct) (W : WX) (f : FT) : TT := fun σ H Q => ∃ μ Z ρ s, RE Γ H μ Z ρ σ ∧ Rep Γ H μ Z s ∧ PostT Γ W H μ Z σ Q (f ρ s)
def rdA (Γ : Ct) (W : WX) (f : FA) : TA := fun σ H Q => ∃ μ Z ρ s, RE Γ H μ Z ρ σ ∧ Rep Γ H μ Z s ∧ PostA Γ W H μ Z σ Q (f ρ s)
def rdS (Γ : Ct) (W : WX) (f : FS) : TS := fun D σ H => ∃ μ Z ρ s, RE Γ H μ Z ρ σ ∧ Rep Γ H μ Z s ∧ PostS Γ W H μ Z D (f ρ s)
def ME (X : Cx) (Γ : Ct) (W : WX) (e : Expr) (f : FE) : Prop := PE X e (rdE Γ W f)
def MT (X : Cx) (Γ : Ct) (W : WX) (e : Expr) (f : FT) : Prop := PT X e (rdT Γ W f)
def MW (X : Cx) (Γ : Ct) (W : WX) (e : Expr) (f : FT) : Prop := PW X e (rdT Γ W f)
def MA (X : Cx) (Γ : Ct) (W : WX) (es : List Expr) (f : FA) : Prop := PA X es (rdA Γ W f)
def MS (X : Cx) (Γ : Ct) (W : WX) (st : Stmt) (f : FS) : Prop := PS X st (rdS Γ W f)
def MB (X : Cx) (Γ : Ct) (W : WX) (st : List Stmt) (f : FS) : Prop := PSs X st (rdS Γ W f)
theorem PE.imp {X : Cx} {e : Expr} {t t' : TE} (h : PE X e t) (k : ∀ σ H Q, t' σ H Q → t σ H Q) : PE X e t' := ⟨fun pins s σ H Q I q => h.run pins s σ H Q I (k σ H Q q)⟩
theorem PT.imp {X : Cx} {e : Expr} {t t' : TT} (h : PT X e t) (k : ∀ σ H Q, t' σ H Q → t σ H Q) : PT X e t' := ⟨fun pins s σ H Q I q => h.run pins s σ H Q I (k σ H Q q)⟩
theorem PW.imp {X : Cx} {e : Expr} {t t' : TT} (h : PW X e t) (k : ∀ σ H Q, t' σ H Q → t σ H Q) : PW X e t' := ⟨fun wh pins s σ H Q I q => h.run wh pins s σ H Q I (k σ H Q q)⟩
theorem PA.imp {X : Cx} {e : List Expr} {t t' : TA} (h : PA X e t) (k : ∀ σ H Q, t' σ H Q → t σ H Q) : PA X e t' := ⟨fun pos pins s σ H Q I q => h.run pos pins s σ H Q I (k σ H Q q)⟩
theorem PS.imp {X : Cx} {e : Stmt} {t t' : TS} (h : PS X e t) (k : ∀ D σ H, t' D σ H → t D σ H) : PS X e t' := ⟨fun pins s σ H D I q => h.run pins s σ H D I (k D σ H q)⟩
theorem PSs.imp {X : Cx} {e : List Stmt} {t t' : TS} (h : PSs X e t) (k : ∀ D σ H, t' D σ H → t D σ H) : PSs X e t' := ⟨fun pins s σ H D I q => h.run pins s σ H D I (k D σ H q)⟩
theorem PE.or {X : Cx} {e : Expr} {t t' : TE} (h : PE X e t) (h' : PE X e t') : PE X e (fun σ H Q => t σ H Q ∨ t' σ H Q) := ⟨fun pins s σ H Q I q => q.elim (h.run pins s σ H Q I) (h'.run pins s σ H Q I)⟩
theorem OpR.or2 {X : Cx} {f : Value → Value → Sem Value} {r r' : R2} (h : OpR X f r) (h' : OpR X f r') : OpR X f (fun x y H Q => r x y H Q ∨ r' x y H Q) := fun pins s σ H x y v u Q I rx ry q => q.elim (h pins s σ H x y v u Q I rx ry) (h' pins s σ H x y v u Q I rx ry)
theorem CallR.or2 {X : Cx} {f : Value} {r r' : List V → Hp → VK → Prop} (h : CallR X f r) (h' : CallR X f r') : CallR X f (fun x H Q => r x H Q ∨ r' x H Q) := fun pins s σ H x v Q I rx q => q.elim (h pins s σ H x v Q I rx) (h' pins s σ H x v Q I rx)
def R.thenC {α : Type} (r : R α) (ρ : Env) (k : α → Sto → C) : C := match r with
  | .ok a s => k a s | .er x s => .er x ρ s | .no => .no
def R.of {α : Type} (o : Option α) (s : Sto) : R α := match o with
  | some a => .ok a s | none => .no
section
variable {Γ : Ct} {W : WX} {H H1 : Hp} {μ μ1 : Mu} {Z : Zs} {σ : L2.St} {ρ : Env} {s : Sto}
theorem PostE.evo {Q : VK} {r : R Dv} (e : Evo H μ H1 μ1) (h : PostE Γ W H μ Z σ Q r) : PostE Γ W H1 μ1 Z σ Q r := by
  cases r with
  | ok w s' => exact fun v H' μ' e' => h v H' μ' (e.trans e')
  | er x s' => exact fun c d H' μ' e' => h c d H' μ' (e.trans e')
  | no => exact h
theorem PostT.evo {Q : Bool → Hp → Prop} {r : R Bool} (e : Evo H μ H1 μ1) (h : PostT Γ W H μ Z σ Q r) : PostT Γ W H1 μ1 Z σ Q r := by
  cases r with
  | ok w s' => exact fun H' μ' e' => h H' μ' (e.trans e')
  | er x s' => exact fun c d H' μ' e' => h c d H' μ' (e.trans e')
  | no => exact h
theorem PostA.evo {Q : List V → Hp → Prop} {r : R (List Dv)} (e : Evo H μ H1 μ1) (h : PostA Γ W H μ Z σ Q r) : PostA Γ W H1 μ1 Z σ Q r := by
  cases r with
  | ok w s' => exact fun v H' μ' e' => h v H' μ' (e.trans e')
  | er x s' => exact fun c d H' μ' e' => h c d H' μ' (e.trans e')
  | no => exact h
theorem PostS.evo {D : Ends} {r : C} (e : Evo H μ H1 μ1) (h : PostS Γ W H μ Z D r) : PostS Γ W H1 μ1 Z D r := by
  cases r with
  | nx ρ' s' => exact fun v H' μ' e' => h v H' μ' (e.trans e')
  | bk ρ' s' => exact fun v H' μ' e' => h v H' μ' (e.trans e')
  | ct ρ' s' => exact fun v H' μ' e' => h v H' μ' (e.trans e')
  | rt w s' => exact fun v H' μ' e' => h v H' μ' (e.trans e')
  | er x ρ' s' => exact fun c d σ' H' μ' e' => h c d σ' H' μ' (e.trans e')
  | no => exact h
theorem eE {f : FE} {k : Dv → Sto → R Dv} {Q Q' : VK} (hE : RE Γ H μ Z ρ σ) (hR : Rep Γ H μ Z s) (h : PostE Γ W H μ Z σ Q ((f ρ s).bind k))
    (hk : ∀ x s1 v H1 μ1, Evo H μ H1 μ1 → RE Γ H1 μ1 Z ρ σ → Rep Γ H1 μ1 Z s1 → RV Γ H1 μ1 Z x v → PostE Γ W H1 μ1 Z σ Q (k x s1) → Q' v H1) : rdE Γ W f σ H Q' := by
  refine ⟨μ, Z, ρ, s, hE, hR, ?_⟩
  cases e : f ρ s with
  | ok x s1 =>
    rw [e] at h
    exact fun v H1 μ1 ev R1 r1 => hk x s1 v H1 μ1 ev (hE.mono ev) R1 r1 (PostE.evo ev h)
  | er x s1 => rw [e] at h; exact h
  | no => rw [e] at h; exact h.elim
theorem eT {f : FE} {k : Dv → Sto → R Bool} {Q : Bool → Hp → Prop} {Q' : VK} (hE : RE Γ H μ Z ρ σ) (hR : Rep Γ H μ Z s) (h : PostT Γ W H μ Z σ Q ((f ρ s).bind k))
    (hk : ∀ x s1 v H1 μ1, Evo H μ H1 μ1 → RE Γ H1 μ1 Z ρ σ → Rep Γ H1 μ1 Z s1 → RV Γ H1 μ1 Z x v → PostT Γ W H1 μ1 Z σ Q (k x s1) → Q' v H1) : rdE Γ W f σ H Q' := by
  refine ⟨μ, Z, ρ, s, hE, hR, ?_⟩
  cases e : f ρ s with
  | ok x s1 =>
    rw [e] at h
    exact fun v H1 μ1 ev R1 r1 => hk x s1 v H1 μ1 ev (hE.mono ev) R1 r1 (PostT.evo ev h)
  | er x s1 => rw [e] at h; exact h
  | no => rw [e] at h; exact h.elim
theorem eA {f : FE} {k : Dv → Sto → R (List Dv)} {Q : List V → Hp → Prop} {Q' : VK} (hE : RE Γ H μ Z ρ σ) (hR : Rep Γ H μ Z s) (h : PostA Γ W H μ Z σ Q ((f ρ s).bind k))
    (hk : ∀ x s1 v H1 μ1, Evo H μ H1 μ1 → RE Γ H1 μ1 Z ρ σ → Rep Γ H1 μ1 Z s1 → RV Γ H1 μ1 Z x v → PostA Γ W H1 μ1 Z σ Q (k x s1) → Q' v H1) : rdE Γ W f σ H Q' := by
  refine ⟨μ, Z, ρ, s, hE, hR, ?_⟩
  cases e : f ρ s with
  | ok x s1 =>
    rw [e] at h
    exact fun v H1 μ1 ev R1 r1 => hk x s1 v H1 μ1 ev (hE.mono ev) R1 r1 (PostA.evo ev h)
  | er x s1 => rw [e] at h; exact h
  | no => rw [e] at h; exact h.elim
theorem eS {f : FE} {k : Dv → Sto → C} {D : Ends} {Q' : VK} (hE : RE Γ H μ Z ρ σ) (hR : Rep Γ H μ Z s) (h : PostS Γ W H μ Z D ((f ρ s).thenC ρ k))
    (hk : ∀ x s1 v H1 μ1, Evo H μ H1 μ1 → RE Γ H1 μ1 Z ρ σ → Rep Γ H1 μ1 Z s1 → RV Γ H1 μ1 Z x v → PostS Γ W H1 μ1 Z D (k x s1) → Q' v H1) : rdE Γ W f σ H Q' := by
  refine ⟨μ, Z, ρ, s, hE, hR, ?_⟩
  cases e : f ρ s with
  | ok x s1 =>
    rw [e] at h
    exact fun v H1 μ1 ev R1 r1 => hk x s1 v H1 μ1 ev (hE.mono ev) R1 r1 (PostS.evo ev h)
  | er x s1 => rw [e] at h; exact fun c d H' μ' ev R' rx => h c d σ H' μ' ev R' (hE.mono ev) rx
  | no => rw [e] at h; exact h.elim
theorem tE {f : FT} {k : Bool → Sto → R Dv} {Q : VK} {Q' : Bool → Hp → Prop} (hE : RE Γ H μ Z ρ σ) (hR : Rep Γ H μ Z s) (h : PostE Γ W H μ Z σ Q ((f ρ s).bind k))
    (hk : ∀ b s1 H1 μ1, Evo H μ H1 μ1 → RE Γ H1 μ1 Z ρ σ → Rep Γ H1 μ1 Z s1 → PostE Γ W H1 μ1 Z σ Q (k b s1) → Q' b H1) : rdT Γ W f σ H Q' := by
  refine ⟨μ, Z, ρ, s, hE, hR, ?_⟩
  cases e : f ρ s with
  | ok x s1 =>
    rw [e] at h
    exact fun H1 μ1 ev R1 => hk x s1 H1 μ1 ev (hE.mono ev) R1 (PostE.evo ev h)
  | er x s1 => rw [e] at h; exact h
  | no => rw [e] at h; exact h.elim
theorem tT {f : FT} {k : Bool → Sto → R Bool} {Q Q' : Bool → Hp → Prop} (hE : RE Γ H μ Z ρ σ) (hR : Rep Γ H μ Z s) (h : PostT Γ W H μ Z σ Q ((f ρ s).bind k))
    (hk : ∀ b s1 H1 μ1, Evo H μ H1 μ1 → RE Γ H1 μ1 Z ρ σ → Rep Γ H1 μ1 Z s1 → PostT Γ W H1 μ1 Z σ Q (k b s1) → Q' b H1) : rdT Γ W f σ H Q' := by
  refine ⟨μ, Z, ρ, s, hE, hR, ?_⟩
  cases e : f ρ s with
  | ok x s1 =>
    rw [e] at h
    exact fun H1 μ1 ev R1 => hk x s1 H1 μ1 ev (hE.mono ev) R1 (PostT.evo ev h)
  | er x s1 => rw [e] at h; exact h
  | no => rw [e] at h; exact h.elim
theorem tS {f : FT} {k : Bool → Sto → C} {D : Ends} {Q' : Bool → Hp → Prop} (hE : RE Γ H μ Z ρ σ) (hR : Rep Γ H μ Z s) (h : PostS Γ W H μ Z D ((f ρ s).thenC ρ k))
    (hk : ∀ b s1 H1 μ1, Evo H μ H1 μ1 → RE Γ H1 μ1 Z ρ σ → Rep Γ H1 μ1 Z s1 → PostS Γ W H1 μ1 Z D (k b s1) → Q' b H1) : rdT Γ W f σ H Q' := by
  refine ⟨μ, Z, ρ, s, hE, hR, ?_⟩
  cases e : f ρ s with
  | ok x s1 =>
    rw [e] at h
    exact fun H1 μ1 ev R1 => hk x s1 H1 μ1 ev (hE.mono ev) R1 (PostS.evo ev h)
  | er x s1 => rw [e] at h; exact fun c d H' μ' ev R' rx => h c d σ H' μ' ev R' (hE.mono ev) rx
  | no => rw [e] at h; exact h.elim
theorem aE {f : FA} {k : List Dv → Sto → R Dv} {Q : VK} {Q' : List V → Hp → Prop} (hE : RE Γ H μ Z ρ σ) (hR : Rep Γ H μ Z s) (h : PostE Γ W H μ Z σ Q ((f ρ s).bind k))
    (hk : ∀ ws s1 vs H1 μ1, Evo H μ H1 μ1 → RE Γ H1 μ1 Z ρ σ → Rep Γ H1 μ1 Z s1 → RVs Γ H1 μ1 Z ws vs → PostE Γ W H1 μ1 Z σ Q (k ws s1) → Q' vs H1) : rdA Γ W f σ H Q' := by
  refine ⟨μ, Z, ρ, s, hE, hR, ?_⟩
  cases e : f ρ s with
  | ok x s1 =>
    rw [e] at h
    exact fun v H1 μ1 ev R1 r1 => hk x s1 v H1 μ1 ev (hE.mono ev) R1 r1 (PostE.evo ev h)
  | er x s1 => rw [e] at h; exact h
  | no => rw [e] at h; exact h.elim
theorem aA {f : FA} {k : List Dv → Sto → R (List Dv)} {Q : List V → Hp → Prop} {Q' : List V → Hp → Prop} (hE : RE Γ H μ Z ρ σ) (hR : Rep Γ H μ Z s) (h : PostA Γ W H μ Z σ Q ((f ρ s).bind k))
    (hk : ∀ ws s1 vs H1 μ1, Evo H μ H1 μ1 → RE Γ H1 μ1 Z ρ σ → Rep Γ H1 μ1 Z s1 → RVs Γ H1 μ1 Z ws vs → PostA Γ W H1 μ1 Z σ Q (k ws s1) → Q' vs H1) : rdA Γ W f σ H Q' := by
  refine ⟨μ, Z, ρ, s, hE, hR, ?_⟩
  cases e : f ρ s with
  | ok x s1 =>
    rw [e] at h
    exact fun v H1 μ1 ev R1 r1 => hk x s1 v H1 μ1 ev (hE.mono ev) R1 r1 (PostA.evo ev h)
  | er x s1 => rw [e] at h; exact h
  | no => rw [e] at h; exact h.elim
theorem aS {f : FA} {k : List Dv → Sto → C} {D : Ends} {Q' : List V → Hp → Prop} (hE : RE Γ H μ Z ρ σ) (hR : Rep Γ H μ Z s) (h : PostS Γ W H μ Z D ((f ρ s).thenC ρ k))
    (hk : ∀ ws s1 vs H1 μ1, Evo H μ H1 μ1 → RE Γ H1 μ1 Z ρ σ → Rep Γ H1 μ1 Z s1 → RVs Γ H1 μ1 Z ws vs → PostS Γ W H1 μ1 Z D (k ws s1) → Q' vs H1) : rdA Γ W f σ H Q' := by
  refine ⟨μ, Z, ρ, s, hE, hR, ?_⟩
  cases e : f ρ s with
  | ok x s1 =>
    rw [e] at h
    exact fun v H1 μ1 ev R1 r1 => hk x s1 v H1 μ1 ev (hE.mono ev) R1 r1 (PostS.evo ev h)
  | er x s1 => rw [e] at h; exact fun c d H' μ' ev R' rx => h c d σ H' μ' ev R' (hE.mono ev) rx
  | no => rw [e] at h; exact h.elim
theorem okE {w : Dv} {Q : VK} {v : V} (hR : Rep Γ H μ Z s) (r : RV Γ H μ Z w v) (h : PostE Γ W H μ Z σ Q (.ok w s)) : Q v H := h v H μ .refl hR r
theorem okT {b : Bool} {Q : Bool → Hp → Prop} (hR : Rep Γ H μ Z s) (h : PostT Γ W H μ Z σ Q (.ok b s)) : Q b H := h H μ .refl hR
/-- a value at a new address -/
theorem newE {w : Dv} {Q : VK} {p : Addr} {o : HO} (hR : Rep Γ H μ Z s) (hp : H p = none) (r : RV Γ (upd H p o) μ Z w (.ref p)) (h : PostE Γ W H μ Z σ Q (.ok w s)) : Q (.ref p) (upd H p o) := h _ _ μ (Evo.laid hp) (hR.laid hp) r
end
section
variable {X : Cx} {Γ : Ct} {W : WX}
def mVar (i : Nat) : FE := fun ρ s => match ρ[i]? with
  | some (some w) => .ok w s
  | _ => .no
def mK (w : Dv) : FE := fun _ s => .ok w s
theorem me_var {i : Nat} {e : Expr} (h : PE X e (tVar i)) : ME X Γ W e (mVar i) := PE.imp h fun σ H Q ⟨μ, Z, ρ, s, hE, hR, q⟩ => by
  unfold mVar at q
  split at q
  · rename_i w e
    obtain ⟨v, h1, h2⟩ := hE.2 i w e
    exact ⟨v, h1, okE hR h2 q⟩
  · exact q.elim
theorem me_int {i : Int} {j pos} : ME X Γ W (.Constant (.int i) j pos) (mK (.int i)) := PE.imp pe_int fun σ H Q ⟨μ, Z, ρ, s, hE, hR, q⟩ => okE (w := .int i) hR rfl q
theorem me_bl {i : Bool} {j pos} : ME X Γ W (.Constant (.bool i) j pos) (mK (.bl i)) := PE.imp pe_bl fun σ H Q ⟨μ, Z, ρ, s, hE, hR, q⟩ => okE (w := .bl i) hR rfl q
theorem me_str {i : Str} {j pos} : ME X Γ W (.Constant (.str i) j pos) (mK (.str i)) := PE.imp pe_str fun σ H Q ⟨μ, Z, ρ, s, hE, hR, q⟩ => okE (w := .str i) hR rfl q
theorem me_non {j pos} : ME X Γ W (.Constant .none j pos) (mK .non) := PE.imp pe_non fun σ H Q ⟨μ, Z, ρ, s, hE, hR, q⟩ => okE (w := .non) hR rfl q
/-- a module's constant: an int, a class -/
theorem me_globI {x : Str} {i : Int} {t : Tok} {pos : Pos} (hg : Gl X x) (hm : X.mg x = some (.int i t)) (hd : (x == ("__debug__" : Str)) = false := by decide) : ME X Γ W (.Name x pos) (mK (.int i)) :=
  PE.imp (pe_glob (v := .int i) hg hm ⟨t, rfl⟩ hd) fun σ H Q ⟨μ, Z, ρ, s, hE, hR, q⟩ => okE (w := .int i) hR rfl q
theorem me_ty {x : Str} {n : String} {pos : Pos} (hg : Gl X x) (hm : X.mg x = none) (hv : bootBuiltins x = some (.type n)) (hn : x ≠ "__name__" := by decide) (hd : (x == ("__debug__" : Str)) = false := by decide) : ME X Γ W (.Name x pos) (mK (.ty n)) :=
  PE.imp (pe_bltn (v := .ty n) hg hm hv rfl hn hd) fun σ H Q ⟨μ, Z, ρ, s, hE, hR, q⟩ => okE (w := .ty n) hR rfl q
abbrev O2 := Sto → Dv → Dv → Option Dv
abbrev O1 := Sto → Dv → Option Dv
def mBin (op : O2) (f g : FE) : FE := fun ρ s => (f ρ s).bind fun x s1 => (g ρ s1).bind fun y s2 => R.of (op s2 x y) s2
def mUn (op : O1) (f : FE) : FE := fun ρ s => (f ρ s).bind fun x s1 => R.of (op s1 x) s1
/-- what an operator gives: its rule r is met -/
def Op2 (Γ : Ct) (r : R2) (op : O2) : Prop := ∀ (H : Hp) (μ : Mu) (Z : Zs) (s : Sto) (x y w : Dv) (u v : V) (Q : VK), Rep Γ H μ Z s → RV Γ H μ Z x u → RV Γ H μ Z y v → op s x y = some w →
  (∀ v' H', Evo H μ H' μ → Rep Γ H' μ Z s → RV Γ H' μ Z w v' → Q v' H') → r u v H Q
def Op1 (Γ : Ct) (r : V → Hp → VK → Prop) (op : O1) : Prop := ∀ (H : Hp) (μ : Mu) (Z : Zs) (s : Sto) (x w : Dv) (u : V) (Q : VK), Rep Γ H μ Z s → RV Γ H μ Z x u → op s x = some w →
  (∀ v' H', Evo H μ H' μ → Rep Γ H' μ Z s → RV Γ H' μ Z w v' → Q v' H') → r u H Q
theorem ofE {H : Hp} {μ : Mu} {Z : Zs} {σ : L2.St} {s : Sto} {o : Option Dv} {Q : VK} (h : PostE Γ W H μ Z σ Q (R.of o s)) : ∃ w, o = some w ∧ ∀ v' H', Evo H μ H' μ → Rep Γ H' μ Z s → RV Γ H' μ Z w v' → Q v' H' := by
  cases o with
  | none => exact h.elim
  | some w => exact ⟨w, rfl, fun v' H' e R r => h v' H' μ e R r⟩
variable {a b c : Expr} {f g h' : FE} {pos : Pos}
theorem me_op {op : Operator} {r : R2} {o : O2} (ho : OpR X (binaryOp op) r) (hs : Op2 Γ r o) (ha : ME X Γ W a f) (hb : ME X Γ W b g) : ME X Γ W (.BinOp a op b pos) (mBin o f g) :=
  PE.imp (pe_op ho ha hb) fun σ H Q ⟨μ, Z, ρ, s, hE, hR, q⟩ => eE hE hR q fun x s1 u H1 μ1 e1 hE1 R1 r1 q1 => eE hE1 R1 q1 fun y s2 v H2 μ2 e2 hE2 R2 r2 q2 => by
    obtain ⟨w, hw, k⟩ := ofE q2
    exact hs H2 μ2 Z s2 x y w u v Q R2 (r1.mono e2) r2 hw k
theorem me_cmp {op : CmpOp} {r : R2} {o : O2} (ho : OpR X (compareOp op) r) (hs : Op2 Γ r o) (hm : behindInMarks op b = false) (ha : ME X Γ W a f) (hb : ME X Γ W b g) : ME X Γ W (.Compare a [op] [b] pos) (mBin o f g) :=
  PE.imp (pe_cmpR ho ha hb hm) fun σ H Q ⟨μ, Z, ρ, s, hE, hR, q⟩ => eE hE hR q fun x s1 u H1 μ1 e1 hE1 R1 r1 q1 => eE hE1 R1 q1 fun y s2 v H2 μ2 e2 hE2 R2 r2 q2 => by
    obtain ⟨w, hw, k⟩ := ofE q2
    exact hs H2 μ2 Z s2 x y w u v Q R2 (r1.mono e2) r2 hw k
theorem me_un {op : UnaryOp} {r : V → Hp → VK → Prop} {o : O1} (ho : UnR X (unaryOp op) r) (hs : Op1 Γ r o) (ha : ME X Γ W a f) : ME X Γ W (.UnaryOp op a pos) (mUn o f) :=
  PE.imp (pe_un ho ha) fun σ H Q ⟨μ, Z, ρ, s, hE, hR, q⟩ => eE hE hR q fun x s1 u H1 μ1 e1 hE1 R1 r1 q1 => by
    obtain ⟨w, hw, k⟩ := ofE q1
    exact hs H1 μ1 Z s1 x w u Q R1 r1 hw k
/-- a < b < c -/
def mChain (o o' : O2) (f g h : FE) : FE := fun ρ s => (f ρ s).bind fun x s1 => (g ρ s1).bind fun y s2 => match o s2 x y with
  | some (.bl true) => (h ρ s2).bind fun z s3 => R.of (o' s3 y z) s3
  | some (.bl false) => .ok (.bl false) s2
  | _ => .no
theorem me_chain {op op' : CmpOp} {r r' : R2} {o o' : O2} (ho : OpR X (compareOp op) r) (ho' : OpR X (compareOp op') r') (hs : Op2 Γ r o) (hs' : Op2 Γ r' o') (hm : lastMarks [op, op'] [b, c] = false)
    (ha : ME X Γ W a f) (hb : ME X Γ W b g) (hc : ME X Γ W c h') : ME X Γ W (.Compare a [op, op'] [b, c] pos) (mChain o o' f g h') :=
  PE.imp (pe_chain ho ho' ha hb hc hm) fun σ H Q ⟨μ, Z, ρ, s, hE, hR, q⟩ => eE hE hR q fun x s1 u H1 μ1 e1 hE1 R1 r1 q1 => eE hE1 R1 q1 fun y s2 v H2 μ2 e2 hE2 R2 r2 q2 => by
    cases hw : o s2 x y with
    | none => rw [hw] at q2; exact q2.elim
    | some w =>
      rw [hw] at q2
      refine hs H2 μ2 Z s2 x y w u v _ R2 (r1.mono e2) r2 hw fun z H3 e3 R3 r3 => ?_
      cases w with
      | bl k =>
        refine ⟨k, r3, ?_⟩
        cases k with
        | true =>
          rw [if_pos rfl]
          exact eE (hE2.mono e3) R3 (PostE.evo e3 q2) fun z' s3 v3 H4 μ4 e4 hE4 R4 r4 q4 => by
            obtain ⟨w', hw', k'⟩ := ofE q4
            exact hs' H4 μ4 Z s3 y z' w' v v3 Q R4 ((r2.mono e3).mono e4) r4 hw' k'
        | false =>
          rw [if_neg Bool.false_ne_true]
          exact okE R3 (w := .bl false) rfl (PostE.evo e3 q2)
      | _ => exact q2.elim
def mTest (f : FE) : FT := fun ρ s => (f ρ s).bind fun x s1 => match x with
  | .bl b => .ok b s1
  | _ => .no
theorem mt_of {e : Expr} (h : ∀ (t : TE), PE X e t → PT X e (tTest t)) (ha : ME X Γ W e f) : MT X Γ W e (mTest f) :=
  PT.imp (h _ ha) fun σ H Q ⟨μ, Z, ρ, s, hE, hR, q⟩ => eT hE hR q fun x s1 u H1 μ1 e1 hE1 R1 r1 q1 => by
    cases x with
    | bl b => exact ⟨b, r1, okT R1 q1⟩
    | _ => exact q1.elim
theorem mt_val {e : Expr} (ha : ME X Γ W e f) (he : ∀ whole, isTrue e X.env whole = (do let v ← whole; standAt e.pos; holding [v] (truthy v)) := by intro _; rfl) : MT X Γ W e (mTest f) :=
  mt_of (fun t h => pt_val h he) ha
theorem mt_cmp {op : CmpOp} {r : R2} {o : O2} (ho : OpR X (compareOp op) r) (hs : Op2 Γ r o) (hm : behindInMarks op b = false) (ha : ME X Γ W a f) (hb : ME X Γ W b g) : MT X Γ W (.Compare a [op] [b] pos) (mTest (mBin o f g)) :=
  PT.imp (pt_cmpR ho ha hb hm) fun σ H Q ⟨μ, Z, ρ, s, hE, hR, q⟩ => by
    have q' : PostT Γ W H μ Z σ Q ((f ρ s).bind fun x s1 => (g ρ s1).bind fun y s2 => (R.of (o s2 x y) s2).bind fun x s1 => match x with
      | .bl b => .ok b s1
      | _ => .no) := by
      unfold mTest mBin at q
      revert q
      cases f ρ s with
      | ok x s1 =>
        dsimp only [R.bind]
        cases g ρ s1 <;> exact id
      | er x s1 => exact id
      | no => exact id
    exact eT hE hR q' fun x s1 u H1 μ1 e1 hE1 R1 r1 q1 => eT hE1 R1 q1 fun y s2 v H2 μ2 e2 hE2 R2 r2 q2 => by
      cases hw : o s2 x y with
      | none => rw [hw] at q2; exact q2.elim
      | some w =>
        rw [hw] at q2
        refine hs H2 μ2 Z s2 x y w u v _ R2 (r1.mono e2) r2 hw fun z H3 e3 R3 r3 => ?_
        cases w with
        | bl k => exact ⟨k, r3, okT R3 (PostT.evo e3 q2)⟩
        | _ => exact q2.elim
def mAnd (t u : FT) : FT := fun ρ s => (t ρ s).bind fun c s1 => if c = true then u ρ s1 else .ok false s1
def mOr (t u : FT) : FT := fun ρ s => (t ρ s).bind fun c s1 => if c = true then .ok true s1 else u ρ s1
def mNot (t : FT) : FT := fun ρ s => (t ρ s).bind fun c s1 => .ok (!c) s1
variable {t u : FT} {rest : List Expr}
theorem mw_and1 (ha : MT X Γ W a t) : MW X Γ W (.BoolOp .And [a] pos) t := pw_and1 ha
theorem mw_or1 (ha : MT X Γ W a t) : MW X Γ W (.BoolOp .Or [a] pos) t := pw_or1 ha
theorem ifT {H : Hp} {μ : Mu} {Z : Zs} {σ : L2.St} {ρ : Env} {s : Sto} {Q : Bool → Hp → Prop} {v : FT} (hE : RE Γ H μ Z ρ σ) (hR : Rep Γ H μ Z s) (q : PostT Γ W H μ Z σ Q (v ρ s)) : rdT Γ W v σ H Q := ⟨μ, Z, ρ, s, hE, hR, q⟩
theorem ifE {H : Hp} {μ : Mu} {Z : Zs} {σ : L2.St} {ρ : Env} {s : Sto} {Q : VK} {v : FE} (hE : RE Γ H μ Z ρ σ) (hR : Rep Γ H μ Z s) (q : PostE Γ W H μ Z σ Q (v ρ s)) : rdE Γ W v σ H Q := ⟨μ, Z, ρ, s, hE, hR, q⟩
theorem mw_and (ha : MT X Γ W a t) (hb : MW X Γ W (.BoolOp .And (b :: rest) pos) u) : MW X Γ W (.BoolOp .And (a :: b :: rest) pos) (mAnd t u) :=
  PW.imp (pw_and ha hb) fun σ H Q ⟨μ, Z, ρ, s, hE, hR, q⟩ => tT hE hR q fun c s1 H1 μ1 e1 hE1 R1 q1 => by
    cases c with
    | true => rw [if_pos rfl] at q1 ⊢; exact ifT hE1 R1 q1
    | false => rw [if_neg Bool.false_ne_true] at q1 ⊢; exact okT R1 q1
theorem mw_or (ha : MT X Γ W a t) (hb : MW X Γ W (.BoolOp .Or (b :: rest) pos) u) : MW X Γ W (.BoolOp .Or (a :: b :: rest) pos) (mOr t u) :=
  PW.imp (pw_or ha hb) fun σ H Q ⟨μ, Z, ρ, s, hE, hR, q⟩ => tT hE hR q fun c s1 H1 μ1 e1 hE1 R1 q1 => by
    cases c with
    | true => rw [if_pos rfl] at q1 ⊢; exact okT R1 q1
    | false => rw [if_neg Bool.false_ne_true] at q1 ⊢; exact ifT hE1 R1 q1
theorem mt_w {e : Expr} (h : MW X Γ W e t) : MT X Γ W e t := PW.pt h
theorem mt_not (ha : MT X Γ W a t) : MT X Γ W (.UnaryOp .Not a pos) (mNot t) :=
  PT.imp (pt_not ha) fun σ H Q ⟨μ, Z, ρ, s, hE, hR, q⟩ => tT hE hR q fun c s1 H1 μ1 e1 hE1 R1 q1 => okT R1 q1
/-- and, or, not as values: bools -/
def mAndV (f g : FE) : FE := fun ρ s => (f ρ s).bind fun x s1 => match x with
  | .bl true => g ρ s1
  | .bl false => .ok (.bl false) s1
  | _ => .no
def mOrV (f g : FE) : FE := fun ρ s => (f ρ s).bind fun x s1 => match x with
  | .bl false => g ρ s1
  | .bl true => .ok (.bl true) s1
  | _ => .no
def mNotV (f : FE) : FE := fun ρ s => (f ρ s).bind fun x s1 => match x with
  | .bl c => .ok (.bl (!c)) s1
  | _ => .no
theorem me_one {op} (h : ME X Γ W a f) : ME X Γ W (.BoolOp op [a] pos) f := pe_one h
theorem me_and (ha : ME X Γ W a f) (hb : ME X Γ W (.BoolOp .And (b :: rest) pos) g) : ME X Γ W (.BoolOp .And (a :: b :: rest) pos) (mAndV f g) :=
  PE.imp (pe_and ha hb) fun σ H Q ⟨μ, Z, ρ, s, hE, hR, q⟩ => eE hE hR q fun x s1 u H1 μ1 e1 hE1 R1 r1 q1 => by
    cases x with
    | bl c =>
      refine ⟨c, r1, ?_⟩
      cases c with
      | true => rw [if_pos rfl]; exact ifE hE1 R1 q1
      | false => rw [if_neg Bool.false_ne_true]; exact okE (w := .bl false) R1 rfl q1
    | _ => exact q1.elim
def mIf (t : FT) (f g : FE) : FE := fun ρ s => (t ρ s).bind fun c s1 => if c = true then f ρ s1 else g ρ s1
theorem me_if {c : Expr} (hc : MT X Γ W c t) (ha : ME X Γ W a f) (hb : ME X Γ W b g) : ME X Γ W (.IfExp c a b pos) (mIf t f g) :=
  PE.imp (pe_ifExp hc ha hb) fun σ H Q ⟨μ, Z, ρ, s, hE, hR, q⟩ => tE hE hR q fun c s1 H1 μ1 e1 hE1 R1 q1 => by
    cases c with
    | true => rw [if_pos rfl] at q1 ⊢; exact ifE hE1 R1 q1
    | false => rw [if_neg Bool.false_ne_true] at q1 ⊢; exact ifE hE1 R1 q1
def mNil : FA := fun _ s => .ok [] s
def mCons (f : FE) (g : FA) : FA := fun ρ s => (f ρ s).bind fun x s1 => (g ρ s1).bind fun xs s2 => .ok (x :: xs) s2
theorem ma_nil : MA X Γ W [] mNil := PA.imp pa_nil fun σ H Q ⟨μ, Z, ρ, s, hE, hR, q⟩ => q _ H μ .refl hR rfl
theorem ma_cons {e : Expr} {es : List Expr} {g : FA} (ha : ME X Γ W e f) (hr : MA X Γ W es g) (hs : starEach (e :: es) X.env = (false, eval e X.env) :: starEach es X.env := by rfl) : MA X Γ W (e :: es) (mCons f g) :=
  PA.imp (pa_cons ha hr hs) fun σ H Q ⟨μ, Z, ρ, s, hE, hR, q⟩ => eA hE hR q fun x s1 u H1 μ1 e1 hE1 R1 r1 q1 => aA hE1 R1 q1 fun ws s2 vs H2 μ2 e2 hE2 R2 r2 q2 =>
    q2 _ H2 μ2 .refl R2 (RVs.cons (r1.mono e2) r2)
def mTup (g : FA) : FE := fun ρ s => (g ρ s).bind fun ws s1 => if ws.length ≤ lim then .ok (.tup ws) s1 else .no
def mLst (g : FA) : FE := fun ρ s => (g ρ s).bind fun ws s1 => if ws.length ≤ lim then .ok (.lst ws) s1 else .no
/-- a list that will be changed: an object of the store -/
def mLstM (g : FA) : FE := fun ρ s => (g ρ s).bind fun ws s1 => if ws.length ≤ lim then .ok (.ref s1.length) (s1 ++ [.lst ws]) else .no
theorem lim_ok {n : Nat} (h : n ≤ lim) : n ≤ sizeLine := Nat.le_trans h (by rw [sizeLine_eq]; decide)
theorem lim_lt {n : Nat} (h : n ≤ lim) : n < sizeLine := Nat.lt_of_le_of_lt h (by rw [sizeLine_eq]; decide)
section
variable {H : Hp} {μ : Mu} {Z : Zs} {s : Sto} {p : Addr} {ws : List Dv} {vs : List V}
theorem new_tup (hR : Rep Γ H μ Z s) (hp : H p = none) (r : RVs Γ H μ Z ws vs) : RV Γ (upd H p (.tup vs)) μ Z (.tup ws) (.ref p) :=
  ⟨p, vs, rfl, .inl ⟨.inl upd_same, hR.fz hp⟩, r.mono (Evo.laid hp)⟩
theorem new_lst (hR : Rep Γ H μ Z s) (hp : H p = none) (r : RVs Γ H μ Z ws vs) : RV Γ (upd H p (.lst vs)) μ Z (.lst ws) (.ref p) :=
  ⟨p, vs, rfl, upd_same, hR.fz hp, r.mono (Evo.laid hp)⟩
/-- a new object of the store -/
def ext (μ : Mu) (n : Nat) (p : Addr) : Mu := fun m => if m = n then some p else μ m
theorem Evo.ext {o : HO} (hp : H p = none) (hn : μ n = none) : Evo H μ (upd H p o) (ext μ n p) where
  keep := fun a o h _ => by rw [upd_ne (ne_of_none h hp)]; exact h
  mu := fun m a h => by
    unfold MP.ext
    rw [if_neg fun e => by rw [e, hn] at h; cases h]
    exact h
  new := fun m a h => by
    unfold MP.ext at h
    split at h
    · cases h; exact .inr hp
    · exact .inl h
  stay := fun m a h q => by
    by_cases e : a = p
    · subst e; exact absurd hp q
    · rw [upd_ne e]; exact q
theorem Rep.mu_new (hR : Rep Γ H μ Z s) : μ s.length = none := by
  cases e : μ s.length with
  | none => rfl
  | some a => exact absurd (hR.dom _ _ e) (Nat.lt_irrefl _)
theorem RO.mono' {a : Addr} {o : Ob} {H' : Hp} {μ' : Mu} (e : Evo H μ H' μ') (q : H' a = H a) (h : RO Γ H μ Z a o) : RO Γ H' μ' Z a o := by
  cases o with
  | lst ws =>
    obtain ⟨xs, h4, h5⟩ := h
    exact ⟨xs, q.trans h4, h5.mono e⟩
  | dct kws =>
    obtain ⟨kvs, h4, h5, h6⟩ := h
    exact ⟨kvs, q.trans h4, h5, h6.mono e⟩
  | dtt fr kws =>
    obtain ⟨kvs, h4, h5, h6, h7⟩ := h
    exact ⟨kvs, h4.eq q, h5, h6.mono e, h7.mono e⟩
  | obj c fs =>
    obtain ⟨dx, kvs, h4, h5, h6⟩ := h
    exact ⟨dx, kvs, q.trans h4, h5, h6.mono e⟩
  | tab m y => exact ⟨h.1, tab_imp q (fun c e1 e2 => ⟨e.keep _ _ e1 e2.1, e.fz (by rw [e1]; intro z; cases z) e2⟩) h.2⟩
theorem Rep.push (hR : Rep Γ H μ Z s) (hp : H p = none) {o : HO} {ob : Ob} (ho : RO Γ (upd H p o) (MP.ext μ s.length p) Z p ob) : Rep Γ (upd H p o) (MP.ext μ s.length p) Z (s ++ [ob]) := by
  have ev : Evo H μ (upd H p o) (MP.ext μ s.length p) := Evo.ext hp hR.mu_new
  refine ⟨fun n o' q => ?_, fun n m a h1 h2 => ?_, fun n a h => ?_, fun a q => ev.alive (hR.za a q)⟩
  · by_cases hn : n = s.length
    · subst hn
      rw [List.getElem?_append_right (Nat.le_refl _)] at q
      simp at q
      subst q
      exact ⟨p, by unfold MP.ext; rw [if_pos rfl], fun z => hR.za p z hp, ho⟩
    · have hl : n < s.length := by
        have := (List.getElem?_eq_some_iff.mp q).1
        rw [List.length_append, List.length_singleton] at this
        omega
      rw [List.getElem?_append_left hl] at q
      obtain ⟨a, h1, h2, h3⟩ := hR.at n o' q
      exact ⟨a, ev.mu _ _ h1, h2, h3.mono' ev (upd_ne fun e => hR.alive h1 (e ▸ hp))⟩
  · unfold MP.ext at h1 h2
    split at h1 <;> split at h2
    · rename_i e1 e2; rw [e1, e2]
    · cases h1; exact absurd hp (hR.alive h2)
    · cases h2; exact absurd hp (hR.alive h1)
    · exact hR.inj _ _ _ h1 h2
  · unfold MP.ext at h
    rw [List.length_append, List.length_singleton]
    split at h
    · omega
    · have := hR.dom _ _ h
      omega
end
theorem me_tup {es : List Expr} {g : FA} {x1} (h : MA X Γ W es g) : ME X Γ W (.Tuple es x1 pos) (mTup g) :=
  PE.imp (pe_tup h) fun σ H Q ⟨μ, Z, ρ, s, hE, hR, q⟩ => aE hE hR q fun ws s1 vs H1 μ1 e1 hE1 R1 r1 q1 => by
    split at q1
    · rename_i hl
      exact ⟨by rw [r1.len]; exact lim_ok hl, fun p hp => newE R1 hp (new_tup R1 hp r1) q1⟩
    · exact q1.elim
theorem me_lst {es : List Expr} {g : FA} (h : MA X Γ W es g) : ME X Γ W (.List es pos) (mLst g) :=
  PE.imp (pe_lst h) fun σ H Q ⟨μ, Z, ρ, s, hE, hR, q⟩ => aE hE hR q fun ws s1 vs H1 μ1 e1 hE1 R1 r1 q1 => by
    split at q1
    · rename_i hl
      exact ⟨by rw [r1.len]; exact lim_ok hl, fun p hp => newE R1 hp (new_lst R1 hp r1) q1⟩
    · exact q1.elim
theorem me_lstM {es : List Expr} {g : FA} (h : MA X Γ W es g) : ME X Γ W (.List es pos) (mLstM g) :=
  PE.imp (pe_lst h) fun σ H Q ⟨μ, Z, ρ, s, hE, hR, q⟩ => aE hE hR q fun ws s1 vs H1 μ1 e1 hE1 R1 r1 q1 => by
    split at q1
    · rename_i hl
      refine ⟨by rw [r1.len]; exact lim_ok hl, fun p hp => ?_⟩
      have ev : Evo H1 μ1 (upd H1 p (.lst vs)) (ext μ1 s1.length p) := Evo.ext hp R1.mu_new
      exact q1 _ _ _ ev (R1.push hp ⟨vs, upd_same, r1.mono ev⟩) ⟨p, rfl, by unfold ext; rw [if_pos rfl]⟩
    · exact q1.elim
end
end MP
set_option Elab.async false
set_option linter.all false
set_option maxRecDepth 100000
set_option maxHeartbeats 4000000
namespace MP
open PySem PySem.Spec PyProof.Rows L2
theorem tuple_mul1 (l : Addr) (items : Array Value) (n : Nat) (dd : Option Addr) (sl : Array (Option Value)) (x : Int) (u : Tok) (c0 : (decide (x < -(2 ^ 63)) || decide (x ≥ 2 ^ 63)) = false) (c1 : (items.isEmpty || x == 1) = true) :
    Meets (Builtin.«tuple.__mul__» ⟨[.ref l, .int x u], []⟩) (fun _ R s => s.heap.get? l = some { cls := .type "tuple", dict := dd, data := .seq items n, slots := sl } ∧
      R (.ok (.ret (Value.ref l))) s) :=
  .of_wp fun prog w A R s h => by
    obtain ⟨hp, g, d, tk, os⟩ := s
    obtain ⟨hl, h⟩ := h
    have f1 := AutoSeq1.idx_int
    wp_walk using wpAny_loadPart' hl
    repeat (first
      | (refine wpAny_ite_false (decide_eq_false (by rw [c0]; exact Bool.false_ne_true)) ?_; wp_walk using wpAny_loadPart' hl)
      | (refine wpAny_ite_true (decide_eq_true c1) ?_; wp_walk using wpAny_loadPart' hl))
    exact ⟨_, rfl, h⟩
theorem tuple_mul0 (l : Addr) (items : Array Value) (n : Nat) (dd : Option Addr) (sl : Array (Option Value)) (x : Int) (u : Tok) (c0 : (decide (x < -(2 ^ 63)) || decide (x ≥ 2 ^ 63)) = false) (c1 : (items.isEmpty || x == 1) = false) (c2 : (decide (x ≤ 0) || items.isEmpty) = true) :
    Meets (Builtin.«tuple.__mul__» ⟨[.ref l, .int x u], []⟩) (fun _ R s => s.heap.get? l = some { cls := .type "tuple", dict := dd, data := .seq items n, slots := sl } ∧
      R (.ok (.ret (Value.ref s.heap.objs.size))) { s with heap := s.heap.push { cls := Value.type "tuple", data := Data.seq #[] } }) :=
  .of_wp fun prog w A R s h => by
    obtain ⟨hp, g, d, tk, os⟩ := s
    obtain ⟨hl, h⟩ := h
    have f1 := AutoSeq1.idx_int
    wp_walk using wpAny_loadPart' hl
    repeat (first
      | (refine wpAny_ite_false (decide_eq_false (by rw [c0]; exact Bool.false_ne_true)) ?_; wp_walk using wpAny_loadPart' hl)
      | (refine wpAny_ite_false (decide_eq_false (by rw [c1]; exact Bool.false_ne_true)) ?_; wp_walk using wpAny_loadPart' hl)
      | (refine wpAny_ite_true (decide_eq_true c2) ?_; wp_walk using wpAny_loadPart' hl))
    exact ⟨_, rfl, h⟩
theorem tuple_mulN (l : Addr) (items : Array Value) (n : Nat) (dd : Option Addr) (sl : Array (Option Value)) (x : Int) (u : Tok) (c0 : (decide (x < -(2 ^ 63)) || decide (x ≥ 2 ^ 63)) = false) (c1 : (items.isEmpty || x == 1) = false) (c2 : (decide (x ≤ 0) || items.isEmpty) = false)
    (c3 : ¬ ((items.size : Nat) : Int) * x > (2 ^ 63 - 1) / 8) (c4 : Builtin.Tuple.tupleTooMany (((items.size : Nat) : Int) * x) = false) (hsz : (List.foldl (fun x1 x2 => x1 ++ x2) #[] (List.replicate x.toNat items)).size ≤ sizeLine) :
    Meets (Builtin.«tuple.__mul__» ⟨[.ref l, .int x u], []⟩) (fun _ R s => s.heap.get? l = some { cls := .type "tuple", dict := dd, data := .seq items n, slots := sl } ∧
      R (.ok (.ret (Value.ref s.heap.objs.size))) { s with heap := s.heap.push { cls := Value.type "tuple", data := Data.seq (List.foldl (fun x1 x2 => x1 ++ x2) #[] (List.replicate x.toNat items)) }, toks := s.toks }) := L2.tuple_mulW l items n dd sl x u c0 c1 c2 c3 c4 hsz
def rRepA (K : PySem.W.Frag) : R2 := fun x y H Q => ∃ l k xs, x = .ref l ∧ y = .int k ∧ SqT K H l xs ∧ -(2 ^ 63) ≤ k ∧ k < 2 ^ 63 ∧ xs.length * k.toNat ≤ 16000000 ∧
  (xs = [] ∨ k = 1 → Q (.ref l) H) ∧ (¬ (xs = [] ∨ k = 1) → ∀ p, H p = none → Q (.ref p) (upd H p (.tup (List.replicate k.toNat xs).flatten)))
section
variable {X : Cx}
theorem op_repA : OpR X (binaryOp .Mult) (rRepA X.K) := by
  intro pins s σ H x y v u Q I rx ry h
  obtain ⟨l, k, xs, rfl, rfl, hT, h1, h2, hz, qs, qn⟩ := h
  cases rx
  obtain ⟨t, rfl⟩ := ry
  obtain ⟨its, r, ⟨⟨cls, dd, data, sl⟩, ho, hc, n, hd⟩, hs⟩ := I.tuple hT
  simp only at hc hd
  subst hc hd
  have hle : its.length = xs.length := r.length.symm
  have hsz0 : its.toArray.size = xs.length := by rw [List.size_toArray, hle]
  have he : (its.toArray.isEmpty = true) ↔ xs = [] := by
    rw [← List.length_eq_zero_iff (l := xs), ← hle]
    clear hT r ho hs hle hsz0 qs qn hz
    cases its with
    | nil => exact ⟨fun _ => rfl, fun _ => rfl⟩
    | cons a b => exact ⟨fun z => (Bool.false_ne_true z).elim, fun z => (Nat.succ_ne_zero _ z).elim⟩
  have c0 : (decide (k < -(2 ^ 63)) || decide (k ≥ 2 ^ 63)) = false := by
    clear he qs qn
    rw [decide_eq_false (Int.not_lt.mpr h1), decide_eq_false (Int.not_le.mpr h2)] <;> rfl
  by_cases hsame : xs = [] ∨ k = 1
  · have c1 : (its.toArray.isEmpty || k == 1) = true := by
      rw [Bool.or_eq_true]
      rcases hsame with z | z
      · exact .inl (he.mpr z)
      · exact .inr (beq_iff_eq.mpr z)
    refine wpAny_binaryOp_repeat_ref (T := "tuple") (U := "int") (by decide) ⟨_, ho, rfl⟩ (fun s' => typeIs_int s' k t) noFill_tuple_mul F.fills_int_mul F.slot_int_rmul repeat_tuple F.slot_int_index.lookup
      (call_meets F.slot_int_rmul (typeIs_int s k t) F.entry_int_rmul (F.args_int_rmul_2 _ _) (int_rmul_tuple k t l its.toArray n dd sl)
        ⟨ho, rfl, ⟨_, ho, rfl⟩, call_meets F.slot_tuple_mul ⟨_, ho, rfl⟩ F.entry_tuple_mul (F.args_tuple_mul_2 _ _) (tuple_mul1 l its.toArray n dd sl k t c0 c1) ⟨ho, ?_⟩⟩)
    exact ⟨.ref l, H, I, rfl, qs hsame⟩
  · have hx : xs ≠ [] := fun z => hsame (.inl z)
    have hk : k ≠ 1 := fun z => hsame (.inr z)
    have hi : its.toArray.isEmpty = false := by
      cases e : its.toArray.isEmpty with
      | false => rfl
      | true => exact absurd (he.mp e) hx
    have c1 : (its.toArray.isEmpty || k == 1) = false := by
      rw [hi, Bool.false_or]
      exact beq_eq_false_iff_ne.mpr hk
    by_cases hk0 : k ≤ 0
    · have c2 : (decide (k ≤ 0) || its.toArray.isEmpty) = true := by rw [decide_eq_true hk0, Bool.true_or]
      have q := qn hsame
      have hk' : k.toNat = 0 := by omega
      rw [hk'] at q
      refine wpAny_binaryOp_repeat_ref (T := "tuple") (U := "int") (by decide) ⟨_, ho, rfl⟩ (fun s' => typeIs_int s' k t) noFill_tuple_mul F.fills_int_mul F.slot_int_rmul repeat_tuple F.slot_int_index.lookup
        (call_meets F.slot_int_rmul (typeIs_int s k t) F.entry_int_rmul (F.args_int_rmul_2 _ _) (int_rmul_tuple k t l its.toArray n dd sl)
          ⟨ho, rfl, ⟨_, ho, rfl⟩, call_meets F.slot_tuple_mul ⟨_, ho, rfl⟩ F.entry_tuple_mul (F.args_tuple_mul_2 _ _) (tuple_mul0 l its.toArray n dd sl k t c0 c1 c2) ⟨ho, ?_⟩⟩)
      refine ⟨.ref s.heap.objs.size, _, I.laid (t' := s.toks) (o := .tup []) (fun b ob q => Heap.get?_push_of_some _ q) (Nat.le_refl _) ?_, rfl, q _ (I.hok.fresh (Nat.le_refl _))⟩
      exact ⟨Nat.zero_le _, [], .nil, IsTup.new _ _⟩
    · have c2 : (decide (k ≤ 0) || its.toArray.isEmpty) = false := by
        rw [hi, Bool.or_false]
        exact decide_eq_false hk0
      have hkk : (k.toNat : Int) = k := Int.toNat_of_nonneg (by omega)
      have hm : ((its.toArray.size : Nat) : Int) * k ≤ 16000000 := by
        have z1 : ((xs.length * k.toNat : Nat) : Int) ≤ ((16000000 : Nat) : Int) := Int.ofNat_le.mpr hz
        rw [Int.natCast_mul, hkk] at z1
        rw [hsz0]
        exact z1
      have c4 : Builtin.Tuple.tupleTooMany (((its.toArray.size : Nat) : Int) * k) = false := by
        unfold Builtin.Tuple.tupleTooMany
        rw [sizeLine_eq]
        exact decide_eq_false (by omega)
      have flen : (List.replicate k.toNat its).flatten.length ≤ sizeLine := by
        rw [PyProof.Rows.lm_len_rep_flat, hle, sizeLine_eq, Nat.mul_comm]
        omega
      refine wpAny_binaryOp_repeat_ref (T := "tuple") (U := "int") (by decide) ⟨_, ho, rfl⟩ (fun s' => typeIs_int s' k t) noFill_tuple_mul F.fills_int_mul F.slot_int_rmul repeat_tuple F.slot_int_index.lookup
        (call_meets F.slot_int_rmul (typeIs_int s k t) F.entry_int_rmul (F.args_int_rmul_2 _ _) (int_rmul_tuple k t l its.toArray n dd sl)
          ⟨ho, rfl, ⟨_, ho, rfl⟩, call_meets F.slot_tuple_mul ⟨_, ho, rfl⟩ F.entry_tuple_mul (F.args_tuple_mul_2 _ _) (tuple_mulN l its.toArray n dd sl k t c0 c1 c2 (by omega) c4 (by rw [size_rep, List.size_toArray]; exact flen)) ⟨ho, ?_⟩⟩)
      rw [size_rep]
      refine ⟨.ref s.heap.objs.size, _, I.laid (t' := s.toks) (o := .tup (List.replicate k.toNat xs).flatten) (fun b ob q => Heap.get?_push_of_some _ q) (Nat.le_refl _) ?_, rfl, qn hsame _ (I.hok.fresh (Nat.le_refl _))⟩
      exact ⟨by rw [PyProof.Rows.lm_len_rep_flat, sizeLine_eq, Nat.mul_comm]; omega, _, r.rep k.toNat, IsTup.new _ _⟩
end
def lstOf (s : Sto) : Dv → Option (List Dv)
  | .lst ws => some ws
  | .ref n => match s[n]? with
    | some (.lst ws) => some ws
    | _ => none
  | _ => none
/-- a sequence that is read -/
def seqOf (s : Sto) : Dv → Option (List Dv)
  | .tup ws => some ws
  | .sq ws => some ws
  | w => lstOf s w
def tupOf : Dv → Option (List Dv)
  | .tup ws => some ws
  | _ => none
def flat : Dv → Option V
  | .non => some .non | .bl b => some (.bl b) | .int i => some (.int i) | .str x => some (.str x)
  | _ => none
mutual
def toD0 : Dv → Option PyData
  | .non => some .none | .bl b => some (.bool b) | .int i => some (.int i) | .str x => some (.str x)
  | .tup ws => (toDs ws).map .tuple
  | .lst ws => (toDs ws).map .list
  | .sq ws => (toDs ws).map .list
  | _ => none
def toDs : List Dv → Option (List PyData)
  | [] => some []
  | w :: ws => match toD0 w, toDs ws with
    | some d, some ds => some (d :: ds)
    | _, _ => none
end
def toD (s : Sto) : Dv → Option PyData
  | .ref n => match s[n]? with
    | some (.lst ws) => (toDs ws).map .list
    | _ => none
  | w => toD0 w
section
variable {Γ : Ct} {H : Hp} {μ : Mu} {Z : Zs} {s : Sto}
theorem lstOf_ok {w : Dv} {v : V} {ws : List Dv} (hR : Rep Γ H μ Z s) (r : RV Γ H μ Z w v) (e : lstOf s w = some ws) : ∃ a xs, v = .ref a ∧ H a = some (.lst xs) ∧ RVs Γ H μ Z ws xs := by
  cases w with
  | lst us =>
    cases e
    obtain ⟨a, xs, h1, h2, _, h4⟩ := r
    exact ⟨a, xs, h1, h2, h4⟩
  | ref n =>
    simp only [lstOf] at e
    split at e
    · rename_i us q
      cases e
      obtain ⟨a, h1, h2⟩ := r
      obtain ⟨b, h3, _, xs, h4, h5⟩ := hR.at n _ q
      rw [h2] at h3
      cases h3
      exact ⟨a, xs, h1, h4, h5⟩
    · cases e
  | _ => cases e
theorem seqOf_ok {w : Dv} {v : V} {ws : List Dv} (hR : Rep Γ H μ Z s) (r : RV Γ H μ Z w v) (e : seqOf s w = some ws) : ∃ a xs, v = .ref a ∧ (SqL Γ.K H a xs ∨ SqT Γ.K H a xs) ∧ RVs Γ H μ Z ws xs := by
  cases w with
  | tup us =>
    cases e
    obtain ⟨a, xs, h1, h2, h3⟩ := r
    exact ⟨a, xs, h1, .inr h2.sq, h3⟩
  | sq us =>
    cases e
    obtain ⟨a, xs, h1, h2, h3⟩ := r
    exact ⟨a, xs, h1, .inl h2.sq, h3⟩
  | lst us =>
    obtain ⟨a, xs, h1, h2, h3⟩ := lstOf_ok hR r (show lstOf s (.lst us) = some ws from e)
    exact ⟨a, xs, h1, .inl (SqL.of h2), h3⟩
  | ref n =>
    obtain ⟨a, xs, h1, h2, h3⟩ := lstOf_ok hR r (show lstOf s (.ref n) = some ws from e)
    exact ⟨a, xs, h1, .inl (SqL.of h2), h3⟩
  | _ => cases e
theorem flat_ok {w : Dv} {v u : V} (r : RV Γ H μ Z w v) (e : flat w = some u) : v = u := by
  cases w <;> first
    | (cases e; exact r)
    | cases e
mutual
theorem toD0_ok : ∀ (w : Dv) {v : V} {d : PyData}, RV Γ H μ Z w v → toD0 w = some d → Dp Γ.K H v d
  | .non, _, _, r, e => by cases e; rw [show _ = _ from r]; exact .non
  | .bl b, _, _, r, e => by cases e; rw [show _ = _ from r]; exact .bl b
  | .int b, _, _, r, e => by cases e; rw [show _ = _ from r]; exact .int b
  | .str b, _, _, r, e => by cases e; rw [show _ = _ from r]; exact .str b
  | .tup ws, _, d, r, e => by
    obtain ⟨a, xs, rfl, h2, h3⟩ := r
    simp only [toD0] at e
    cases q : toDs ws with
    | none => rw [q] at e; cases e
    | some ds => rw [q] at e; cases e; exact .tup h2.sq (toDs_ok ws h3 q)
  | .sq ws, _, d, r, e => by
    obtain ⟨a, xs, rfl, h2, h3⟩ := r
    simp only [toD0] at e
    cases q : toDs ws with
    | none => rw [q] at e; cases e
    | some ds => rw [q] at e; cases e; exact .lst h2.sq (toDs_ok ws h3 q)
  | .lst ws, _, d, r, e => by
    obtain ⟨a, xs, rfl, h2, _, h3⟩ := r
    simp only [toD0] at e
    cases q : toDs ws with
    | none => rw [q] at e; cases e
    | some ds => rw [q] at e; cases e; exact .lst (SqL.of h2) (toDs_ok ws h3 q)
  | .ty _, _, _, _, e => by cases e
  | .cl _, _, _, _, e => by cases e
  | .ref _, _, _, _, e => by cases e
  | .dct _ _, _, _, _, e => by cases e
  | .dtt _ _, _, _, _, e => by cases e
  | .exc _ _ _, _, _, _, e => by cases e
  | .exn _, _, _, _, e => by cases e
  | .clo _ _ _ _ _, _, _, _, e => by cases e
theorem toDs_ok : ∀ (ws : List Dv) {vs : List V} {ds : List PyData}, RVs Γ H μ Z ws vs → toDs ws = some ds → DpAll Γ.K H vs ds
  | [], _, _, r, e => by cases e; rw [show _ = _ from r]; exact .nil
  | w :: ws, _, _, r, e => by
    obtain ⟨x, xs, rfl, h2, h3⟩ := r
    simp only [toDs] at e
    split at e
    · rename_i d ds q1 q2
      cases e
      exact .cons (toD0_ok w h2 q1) (toDs_ok ws h3 q2)
    · cases e
end
theorem toD_ok {w : Dv} {v : V} {d : PyData} (hR : Rep Γ H μ Z s) (r : RV Γ H μ Z w v) (e : toD s w = some d) : Dp Γ.K H v d := by
  cases w with
  | ref n =>
    simp only [toD] at e
    split at e
    · rename_i us q
      obtain ⟨a, h1, h2⟩ := r
      obtain ⟨b, h3, _, xs, h4, h5⟩ := hR.at n _ q
      rw [h2] at h3
      cases h3
      subst h1
      cases q2 : toDs us with
      | none => rw [q2] at e; cases e
      | some ds => rw [q2] at e; cases e; exact .lst (SqL.of h4) (toDs_ok us h5 q2)
    · cases e
  | _ => exact toD0_ok _ r e
end
def cm (i j : Int) : Bool := decide ((-(2 ^ 64) < i ∧ i < 2 ^ 64) ∨ (-(2 ^ 64) < j ∧ j < 2 ^ 64))
theorem cm_ok {i j : Int} (h : cm i j = true) : CMul i j := (of_decide_eq_true h : (-(2 ^ 64) < i ∧ i < 2 ^ 64) ∨ (-(2 ^ 64) < j ∧ j < 2 ^ 64))
def addD : O2 := fun s x y => match x, y with
  | .int i, .int j => some (.int (i + j))
  | .str a, .str b => if a.length + b.length ≤ lim then some (.str (a ++ b)) else none
  | .tup a, .tup b => if a.length + b.length ≤ lim then some (.tup (a ++ b)) else none
  | x, y => match lstOf s x, lstOf s y with
    | some a, some b => if a.length + b.length ≤ lim then some (.lst (a ++ b)) else none
    | _, _ => none
def subD : O2 := fun _ x y => match x, y with
  | .int i, .int j => some (.int (i - j))
  | _, _ => none
def mulD : O2 := fun s x y => match x, y with
  | .int i, .int j => if cm i j = true then some (.int (i * j)) else none
  | .tup a, .int k => if -(2 ^ 63) ≤ k ∧ k < 2 ^ 63 ∧ a.length * k.toNat ≤ lim then some (.tup (List.replicate k.toNat a).flatten) else none
  | x, .int k => match lstOf s x with
    | some a => if -(2 ^ 63) ≤ k ∧ k < 2 ^ 63 ∧ a.length * k.toNat ≤ lim then some (.lst (List.replicate k.toNat a).flatten) else none
    | none => none
  | _, _ => none
def modD : O2 := fun _ x y => match x, y with
  | .int i, .int j => if 0 < j then some (.int (i % j)) else none
  | _, _ => none
def divD : O2 := fun _ x y => match x, y with
  | .int i, .int j => if 0 < j ∧ j < 1073741824 then some (.int (i / j)) else none
  | _, _ => none
def powD : O2 := fun _ x y => match x, y with
  | .int i, .int j => if 0 ≤ j ∧ j ≤ 1000000 ∧ i.natAbs < 2 ^ 64 then some (.int (i ^ j.toNat)) else none
  | _, _ => none
def negD : O1 := fun _ x => match x with
  | .int i => some (.int (-i))
  | _ => none
def cmpD (p : Int → Int → Bool) : O2 := fun _ x y => match x, y with
  | .int i, .int j => some (.bl (p i j))
  | _, _ => none
abbrev ltD : O2 := cmpD fun i j => decide (i < j)
abbrev leD : O2 := cmpD fun i j => decide (i ≤ j)
abbrev gtD : O2 := cmpD fun i j => decide (j < i)
abbrev geD : O2 := cmpD fun i j => decide (j ≤ i)
def eqB (s : Sto) (x y : Dv) : Option Bool := match flat x, flat y with
  | some a, some b => if scal a b = true then some (decide (a = b)) else none
  | _, _ => match toD s x, toD s y with
    | some d, some e => if SeqAt.shaped d = true ∧ SeqAt.shaped e = true then some (PyData.eqv d e) else none
    | _, _ => none
def eqD : O2 := fun s x y => (eqB s x y).map .bl
def neD : O2 := fun s x y => (eqB s x y).map fun b => .bl (!b)
def isN : Dv → Option Bool
  | .non => some true
  | .bl _ => some false | .int _ => some false | .str _ => some false | .tup _ => some false | .lst _ => some false | .sq _ => some false | .dct _ _ => some false | .dtt _ _ => some false | .exc _ _ _ => some false | .exn _ => some false | .ref _ => some false | .ty _ => some false | .cl _ => some false | .clo _ _ _ _ _ => some false
def isBl (c : Bool) : Dv → Bool
  | .bl b => b == c
  | _ => false
def isD : O2 := fun _ x y => match y with
  | .non => (isN x).map .bl
  | .bl c => some (.bl (isBl c x))
  | _ => none
def isntD : O2 := fun _ x y => match y with
  | .non => (isN x).map fun b => .bl (!b)
  | .bl c => some (.bl (!isBl c x))
  | _ => none
section
variable {Γ : Ct} {X : Cx}
abbrev rAdd (K : PySem.W.Frag) : R2 := fun x y H Q => ((rI0 fun i j => .int (i + j)) x y H Q ∨ (∃ i j, x = .str i ∧ y = .str j ∧ i.length + j.length ≤ sizeLine ∧ Q (.str (i ++ j)) H)) ∨ (rCatA K x y H Q ∨ rCat x y H Q)
theorem opAdd : OpR X (binaryOp .Add) (rAdd X.K) := OpR.or2 (OpR.or2 op_add op_add_str) (OpR.or2 op_catA op_cat)
theorem sAdd : Op2 Γ (rAdd Γ.K) addD := fun H μ Z s x y w u v Q hR r1 r2 e k => by
  unfold addD at e
  split at e
  · cases e
    exact .inl (.inl ⟨_, _, r1, r2, k _ H .refl hR rfl⟩)
  · rename_i a b
    split at e
    · rename_i hl
      cases e
      exact .inl (.inr ⟨_, _, r1, r2, lim_ok hl, k _ H .refl hR rfl⟩)
    · cases e
  · rename_i a b
    split at e
    · rename_i hl
      cases e
      obtain ⟨p, xs, h1, h2, h3⟩ := id r1
      obtain ⟨p', ys, g1, g2, g3⟩ := id r2
      refine .inr (.inl ⟨p, p', xs, ys, h1, g1, h2.sq, g2.sq, by rw [h3.len, g3.len]; exact lim_ok hl, fun z => ?_, fun z z' => ?_, fun z z' q hq => ?_⟩)
      · have hn : a = [] := by
          have := h3.len
          rw [z] at this
          exact List.eq_nil_of_length_eq_zero this.symm
        rw [hn, List.nil_append] at k
        exact k _ H .refl hR (g1 ▸ r2)
      · have hn : b = [] := by
          have := g3.len
          rw [z'] at this
          exact List.eq_nil_of_length_eq_zero this.symm
        rw [hn, List.append_nil] at k
        exact k _ H .refl hR (h1 ▸ r1)
      · exact k _ _ (Evo.laid hq) (hR.laid hq) (new_tup hR hq (h3.append g3))
    · cases e
  · split at e
    · rename_i a b q1 q2
      split at e
      · rename_i hl
        cases e
        obtain ⟨p, xs, h1, h2, h3⟩ := lstOf_ok hR r1 q1
        obtain ⟨p', ys, g1, g2, g3⟩ := lstOf_ok hR r2 q2
        exact .inr (.inr ⟨p, p', xs, ys, h1, g1, h2, g2, by rw [h3.len, g3.len]; exact lim_ok hl, fun q hq => k _ _ (Evo.laid hq) (hR.laid hq) (new_lst hR hq (h3.append g3))⟩)
      · cases e
    · cases e
theorem sSub : Op2 Γ (rI0 fun i j => .int (i - j)) subD := fun H μ Z s x y w u v Q hR r1 r2 e k => by
  unfold subD at e
  split at e
  · cases e
    exact ⟨_, _, r1, r2, k _ H .refl hR rfl⟩
  · cases e
abbrev rMul (K : PySem.W.Frag) : R2 := fun x y H Q => (rI CMul fun i j => .int (i * j)) x y H Q ∨ (rRepA K x y H Q ∨ rRep x y H Q)
theorem opMul : OpR X (binaryOp .Mult) (rMul X.K) := OpR.or2 op_mul (OpR.or2 op_repA op_rep)
theorem flat_one {α : Type} (l : List α) : (List.replicate 1 l).flatten = l := by simp
theorem flat_nil {α : Type} (n : Nat) : (List.replicate n ([] : List α)).flatten = [] := by
  induction n with
  | zero => rfl
  | succ n ih => rw [List.replicate_succ, List.flatten_cons, ih]; rfl
theorem sMul : Op2 Γ (rMul Γ.K) mulD := fun H μ Z s x y w u v Q hR r1 r2 e k => by
  unfold mulD at e
  split at e
  · split at e
    · rename_i hc
      cases e
      exact .inl ⟨_, _, r1, r2, cm_ok hc, k _ H .refl hR rfl⟩
    · cases e
  · rename_i a n
    split at e
    · rename_i hl
      cases e
      obtain ⟨p, xs, h1, h2, h3⟩ := id r1
      refine .inr (.inl ⟨p, n, xs, h1, r2, h2.sq, hl.1, hl.2.1, by rw [h3.len]; exact hl.2.2, fun z => ?_, fun z q hq => ?_⟩)
      · have hn : (List.replicate n.toNat a).flatten = a := by
          rcases z with z | z
          · have h0 : a = [] := by
              have := h3.len
              rw [z] at this
              exact List.eq_nil_of_length_eq_zero this.symm
            rw [h0, flat_nil]
          · rw [z]
            exact flat_one a
        rw [hn] at k
        exact k _ H .refl hR (h1 ▸ r1)
      · exact k _ _ (Evo.laid hq) (hR.laid hq) (new_tup hR hq (h3.rep _))
    · cases e
  · rename_i n _ _
    split at e
    · rename_i a q1
      split at e
      · rename_i hl
        cases e
        obtain ⟨p, xs, h1, h2, h3⟩ := lstOf_ok hR r1 q1
        exact .inr (.inr ⟨p, n, xs, h1, r2, h2, hl.1, hl.2.1, by rw [h3.len]; exact lim_ok hl.2.2, fun q hq => k _ _ (Evo.laid hq) (hR.laid hq) (new_lst hR hq (h3.rep _))⟩)
      · cases e
    · cases e
  · cases e
theorem sMod : Op2 Γ (rI (fun _ j => 0 < j) fun i j => .int (i % j)) modD := fun H μ Z s x y w u v Q hR r1 r2 e k => by
  unfold modD at e
  split at e
  · split at e
    · rename_i hc
      cases e
      exact ⟨_, _, r1, r2, hc, k _ H .refl hR rfl⟩
    · cases e
  · cases e
theorem sDiv : Op2 Γ (rI CDiv fun i j => .int (i / j)) divD := fun H μ Z s x y w u v Q hR r1 r2 e k => by
  unfold divD at e
  split at e
  · split at e
    · rename_i hc
      cases e
      exact ⟨_, _, r1, r2, hc, k _ H .refl hR rfl⟩
    · cases e
  · cases e
theorem sPow : Op2 Γ (rI CPow fun i j => .int (i ^ j.toNat)) powD := fun H μ Z s x y w u v Q hR r1 r2 e k => by
  unfold powD at e
  split at e
  · split at e
    · rename_i hc
      cases e
      exact ⟨_, _, r1, r2, hc, k _ H .refl hR rfl⟩
    · cases e
  · cases e
theorem sNeg : Op1 Γ (rU fun i => .int (-i)) negD := fun H μ Z s x w u Q hR r1 e k => by
  unfold negD at e
  split at e
  · cases e
    exact ⟨_, r1, k _ H .refl hR rfl⟩
  · cases e
theorem sCmp {p : Int → Int → Bool} : Op2 Γ (rI0 fun i j => .bl (p i j)) (cmpD p) := fun H μ Z s x y w u v Q hR r1 r2 e k => by
  unfold cmpD at e
  split at e
  · cases e
    exact ⟨_, _, r1, r2, k _ H .refl hR rfl⟩
  · cases e
abbrev rEqM (K : PySem.W.Frag) : R2 := fun x y H Q => rEq x y H Q ∨ rEqD K x y H Q
abbrev rNeM (K : PySem.W.Frag) : R2 := fun x y H Q => rNe x y H Q ∨ rNeD K x y H Q
theorem opEq (hu : X.A.units + 64 < cLine) : OpR X (compareOp .Eq) (rEqM X.K) := OpR.or2 op_eq (op_eqD hu)
theorem opNe (hu : X.A.units + 64 < cLine) : OpR X (compareOp .NotEq) (rNeM X.K) := OpR.or2 op_ne (op_neD hu)
theorem sEq : Op2 Γ (rEqM Γ.K) eqD := fun H μ Z s x y w u v Q hR r1 r2 e k => by
  unfold eqD eqB at e
  split at e
  · rename_i a b q1 q2
    split at e
    · rename_i hs
      cases e
      rw [flat_ok r1 q1, flat_ok r2 q2]
      exact .inl ⟨hs, k _ H .refl hR rfl⟩
    · cases e
  · split at e
    · rename_i d d' q1 q2
      split at e
      · rename_i hs
        cases e
        exact .inr ⟨d, d', toD_ok hR r1 q1, toD_ok hR r2 q2, hs.1, hs.2, k _ H .refl hR rfl⟩
      · cases e
    · cases e
theorem sNe : Op2 Γ (rNeM Γ.K) neD := fun H μ Z s x y w u v Q hR r1 r2 e k => by
  unfold neD eqB at e
  split at e
  · rename_i a b q1 q2
    split at e
    · rename_i hs
      cases e
      rw [flat_ok r1 q1, flat_ok r2 q2]
      exact .inl ⟨hs, k _ H .refl hR rfl⟩
    · cases e
  · split at e
    · rename_i d d' q1 q2
      split at e
      · rename_i hs
        cases e
        exact .inr ⟨d, d', toD_ok hR r1 q1, toD_ok hR r2 q2, hs.1, hs.2, k _ H .refl hR rfl⟩
      · cases e
    · cases e
theorem isN_ok {H : Hp} {μ : Mu} {Z : Zs} {w : Dv} {v : V} {b : Bool} (r : RV Γ H μ Z w v) (e : isN w = some b) : decide (v = V.non) = b := by
  cases w with
  | non => cases e; rw [show v = _ from r]; rfl
  | bl _ => cases e; rw [show v = _ from r]; rfl
  | int _ => cases e; rw [show v = _ from r]; rfl
  | str _ => cases e; rw [show v = _ from r]; rfl
  | ty _ => cases e; rw [show v = _ from r]; rfl
  | cl _ => cases e; rw [show v = _ from r]; rfl
  | ref n => cases e; obtain ⟨_, h, _⟩ := r; rw [h]; rfl
  | tup _ => cases e; obtain ⟨_, _, h, _⟩ := r; rw [h]; rfl
  | lst _ => cases e; obtain ⟨_, _, h, _⟩ := r; rw [h]; rfl
  | sq _ => cases e; obtain ⟨_, _, h, _⟩ := r; rw [h]; rfl
  | dct _ _ => cases e; obtain ⟨_, _, h, _⟩ := r; rw [h]; rfl
  | dtt _ _ => cases e; obtain ⟨_, _, h, _⟩ := r; rw [h]; rfl
  | exc _ _ _ => cases e; obtain ⟨_, _, _, h, _⟩ := r; rw [h]; rfl
  | exn _ => cases e; obtain ⟨_, h, _⟩ := r; rw [h]; rfl
  | clo _ _ _ _ _ => cases e; rw [show v = _ from r.1]; rfl
theorem isBl_ok {H : Hp} {μ : Mu} {Z : Zs} {w : Dv} {v : V} {c : Bool} (r : RV Γ H μ Z w v) : decide (v = V.bl c) = isBl c w := by
  cases w with
  | non => rw [show v = _ from r]; rfl
  | bl b => rw [show v = _ from r]; cases b <;> cases c <;> rfl
  | int _ => rw [show v = _ from r]; rfl
  | str _ => rw [show v = _ from r]; rfl
  | ty _ => rw [show v = _ from r]; rfl
  | cl _ => rw [show v = _ from r]; rfl
  | ref n => obtain ⟨_, h, _⟩ := r; rw [h]; rfl
  | tup _ => obtain ⟨_, _, h, _⟩ := r; rw [h]; rfl
  | lst _ => obtain ⟨_, _, h, _⟩ := r; rw [h]; rfl
  | sq _ => obtain ⟨_, _, h, _⟩ := r; rw [h]; rfl
  | dct _ _ => obtain ⟨_, _, h, _⟩ := r; rw [h]; rfl
  | dtt _ _ => obtain ⟨_, _, h, _⟩ := r; rw [h]; rfl
  | exc _ _ _ => obtain ⟨_, _, _, h, _⟩ := r; rw [h]; rfl
  | exn _ => obtain ⟨_, h, _⟩ := r; rw [h]; rfl
  | clo _ _ _ _ _ => rw [show v = _ from r.1]; rfl
/-- x is c, c one of None, True, False -/
def rIsC (n : Bool) : R2 := fun x y H Q => (y = .non ∨ ∃ b, y = .bl b) ∧ Q (.bl (decide (x = y) != n)) H
theorem rel_bl {x : V} {v : Value} (r : RelV x v) (b : Bool) : plainIs v (.bool b) = true ∧ (v == Value.bool b) = decide (x = V.bl b) := by
  cases x with
  | bl c => cases r; cases b <;> cases c <;> exact ⟨rfl, rfl⟩
  | ref a => cases r; exact ⟨rfl, rfl⟩
  | non => cases r; exact ⟨rfl, rfl⟩
  | int i => obtain ⟨t, rfl⟩ := r; exact ⟨rfl, rfl⟩
  | str x => obtain ⟨t, rfl⟩ := r; exact ⟨rfl, rfl⟩
  | byt x => obtain ⟨t, rfl⟩ := r; exact ⟨rfl, rfl⟩
  | flt x => obtain ⟨t, rfl⟩ := r; exact ⟨rfl, rfl⟩
  | ty n => cases r; exact ⟨rfl, rfl⟩
theorem op_isC : OpR X (compareOp .Is) (rIsC false) := by
  intro pins s σ H x y v u Q I rx ry h
  obtain ⟨hy | ⟨b, hy⟩, q⟩ := h
  · subst hy
    exact op_isN pins s σ H x .non v u Q I rx ry ⟨rfl, by simpa using q⟩
  · subst hy
    cases ry
    obtain ⟨h1, h2⟩ := rel_bl rx b
    exact wpAny_is_plain h1 (fin_bl I q (by rw [h2]; simp))
theorem op_notC : OpR X (compareOp .IsNot) (rIsC true) := by
  intro pins s σ H x y v u Q I rx ry h
  obtain ⟨hy | ⟨b, hy⟩, q⟩ := h
  · subst hy
    exact op_notN pins s σ H x .non v u Q I rx ry ⟨rfl, by simpa using q⟩
  · subst hy
    cases ry
    obtain ⟨h1, h2⟩ := rel_bl rx b
    exact wpAny_isNot_plain h1 (fin_bl I q (by rw [h2]; simp))
theorem sIsC : Op2 Γ (rIsC false) isD := fun H μ Z s x y w u v Q hR r1 r2 e k => by
  unfold isD at e
  split at e
  · cases q : isN x with
    | none => rw [q] at e; cases e
    | some b =>
      rw [q] at e
      cases e
      refine ⟨.inl r2, k _ H .refl hR ?_⟩
      rw [show v = _ from r2, isN_ok r1 q]
      simp [RV]
  · rename_i c
    cases e
    refine ⟨.inr ⟨c, r2⟩, k _ H .refl hR ?_⟩
    rw [show v = _ from r2, isBl_ok r1]
    simp [RV]
  · cases e
theorem sIsntC : Op2 Γ (rIsC true) isntD := fun H μ Z s x y w u v Q hR r1 r2 e k => by
  unfold isntD at e
  split at e
  · cases q : isN x with
    | none => rw [q] at e; cases e
    | some b =>
      rw [q] at e
      cases e
      refine ⟨.inl r2, k _ H .refl hR ?_⟩
      rw [show v = _ from r2, isN_ok r1 q]
      simp [RV]
  · rename_i c
    cases e
    refine ⟨.inr ⟨c, r2⟩, k _ H .refl hR ?_⟩
    rw [show v = _ from r2, isBl_ok r1]
    simp [RV]
  · cases e
end
end MP
set_option Elab.async false
set_option linter.all false
set_option maxRecDepth 100000
set_option maxHeartbeats 4000000
namespace MP
open PySem PySem.Spec PyProof.Rows L2
section
variable {X : Cx} {Γ : Ct} {W : WX} {st : Stmt} {rest : List Stmt} {e : Expr} {f : FE} {c c' : FS} {t : FT} {pos : Pos}
def mNext : FS := fun ρ s => .nx ρ s
def mSeq (c c' : FS) : FS := fun ρ s => match c ρ s with
  | .nx ρ' s' => c' ρ' s'
  | r => r
theorem mb_nil : MB X Γ W [] mNext := PSs.imp pss_nil fun D σ H ⟨μ, Z, ρ, s, hE, hR, q⟩ => q σ H μ .refl hR hE
theorem goS {H : Hp} {μ : Mu} {Z : Zs} {σ : L2.St} {ρ : Env} {s : Sto} {D : Ends} (hE : RE Γ H μ Z ρ σ) (hR : Rep Γ H μ Z s) (q : PostS Γ W H μ Z D (c ρ s)) : rdS Γ W c D σ H := ⟨μ, Z, ρ, s, hE, hR, q⟩
/-- a statement, then what goes on -/
theorem sS {H : Hp} {μ : Mu} {Z : Zs} {σ : L2.St} {ρ : Env} {s : Sto} {D : Ends} {nx : L2.St → Hp → Prop} (hE : RE Γ H μ Z ρ σ) (hR : Rep Γ H μ Z s) (h : PostS Γ W H μ Z D (mSeq c c' ρ s))
    (hk : ∀ ρ1 s1 σ1 H1 μ1, Evo H μ H1 μ1 → RE Γ H1 μ1 Z ρ1 σ1 → Rep Γ H1 μ1 Z s1 → PostS Γ W H1 μ1 Z D (c' ρ1 s1) → nx σ1 H1) : rdS Γ W c { D with nx := nx } σ H := by
  refine ⟨μ, Z, ρ, s, hE, hR, ?_⟩
  unfold mSeq at h
  cases q : c ρ s with
  | nx ρ1 s1 =>
    rw [q] at h
    exact fun σ1 H1 μ1 ev R1 E1 => hk ρ1 s1 σ1 H1 μ1 ev E1 R1 (PostS.evo ev h)
  | bk ρ1 s1 => rw [q] at h; exact h
  | ct ρ1 s1 => rw [q] at h; exact h
  | rt w s1 => rw [q] at h; exact h
  | er x ρ1 s1 => rw [q] at h; exact h
  | no => rw [q] at h; exact h
theorem mb_cons (h1 : MS X Γ W st c) (h2 : MB X Γ W rest c') : MB X Γ W (st :: rest) (mSeq c c') :=
  PSs.imp (pss_cons h1 h2) fun D σ H ⟨μ, Z, ρ, s, hE, hR, q⟩ => sS hE hR q fun ρ1 s1 σ1 H1 μ1 _ E1 R1 q1 => goS E1 R1 q1
theorem mb_one (h1 : MS X Γ W st c) : MB X Γ W [st] c := pss_one h1
def mExpr (f : FE) : FS := fun ρ s => (f ρ s).thenC ρ fun _ s1 => .nx ρ s1
theorem ms_expr (he : ME X Γ W e f) (hs : swapsWith e none pos.line X.env = pure false := by rfl) : MS X Γ W (.Expr e pos) (mExpr f) :=
  PS.imp (ps_expr he hs) fun D σ H ⟨μ, Z, ρ, s, hE, hR, q⟩ => eS hE hR q fun x s1 v H1 μ1 _ E1 R1 _ q1 => q1 σ H1 μ1 .refl R1 E1
def mRet (f : FE) : FS := fun ρ s => (f ρ s).thenC ρ fun w s1 => .rt w s1
theorem ms_ret (he : ME X Γ W e f) : MS X Γ W (.Return (some e) pos) (mRet f) :=
  PS.imp (ps_ret he) fun D σ H ⟨μ, Z, ρ, s, hE, hR, q⟩ => eS hE hR q fun x s1 v H1 μ1 _ E1 R1 r1 q1 => q1 v H1 μ1 .refl R1 r1
def mIfS (t : FT) (c c' : FS) : FS := fun ρ s => (t ρ s).thenC ρ fun b s1 => if b = true then c ρ s1 else c' ρ s1
theorem ms_if {cond : Expr} {a b : List Stmt} (hc : MT X Γ W cond t) (ha : MB X Γ W a c) (hb : MB X Γ W b c') : MS X Γ W (.If cond a b pos) (mIfS t c c') :=
  PS.imp (ps_if hc ha hb) fun D σ H ⟨μ, Z, ρ, s, hE, hR, q⟩ => tS hE hR q fun b s1 H1 μ1 _ E1 R1 q1 => by
    cases b with
    | true => rw [if_pos rfl] at q1 ⊢; exact goS E1 R1 q1
    | false => rw [if_neg Bool.false_ne_true] at q1 ⊢; exact goS E1 R1 q1
abbrev FG := Dv → Env → Sto → Option Env
/-- a target: what it does to the names -/
def GOk (Γ : Ct) (g : TG) (fg : FG) : Prop := ∀ (H : Hp) (μ : Mu) (Z : Zs) (ρ ρ' : Env) (s : Sto) (σ : L2.St) (w : Dv) (v : V) (Q : L2.St → Hp → Prop), RE Γ H μ Z ρ σ → Rep Γ H μ Z s → RV Γ H μ Z w v → fg w ρ s = some ρ' →
  (∀ σ', RE Γ H μ Z ρ' σ' → Q σ' H) → g v σ H Q
def GsOk (Γ : Ct) (g : TGs) (fg : List Dv → Env → Sto → Option Env) : Prop := ∀ (H : Hp) (μ : Mu) (Z : Zs) (ρ ρ' : Env) (s : Sto) (σ : L2.St) (ws : List Dv) (vs : List V) (Q : L2.St → Hp → Prop), RE Γ H μ Z ρ σ → Rep Γ H μ Z s → RVs Γ H μ Z ws vs → fg ws ρ s = some ρ' →
  (∀ σ', RE Γ H μ Z ρ' σ' → Q σ' H) → g vs σ H Q
def MG (X : Cx) (Γ : Ct) (tg : Expr) (g : TG) (fg : FG) : Prop := PG X tg g ∧ GOk Γ g fg
def MGs (X : Cx) (Γ : Ct) (tg : List Expr) (g : TGs) (fg : List Dv → Env → Sto → Option Env) : Prop := PGs X tg g ∧ GsOk Γ g fg
def gN (i : Nat) : FG := fun w ρ _ => some (ρ.set i (some w))
theorem mg_name {tg : Expr} {i : Nat} (h : PG X tg (gName i)) : MG X Γ tg (gName i) (gN i) := ⟨h, fun H μ Z ρ ρ' s σ w v Q hE hR r e k => by
  cases e
  exact k _ (hE.set i r)⟩
def gs0 : List Dv → Env → Sto → Option Env := fun ws ρ _ => match ws with
  | [] => some ρ
  | _ => none
def gsC (g : FG) (gs : List Dv → Env → Sto → Option Env) : List Dv → Env → Sto → Option Env := fun ws ρ s => match ws with
  | w :: r => (g w ρ s).bind fun ρ1 => gs r ρ1 s
  | [] => none
theorem mgs_nil : MGs X Γ [] gNil gs0 := ⟨pgs_nil, fun H μ Z ρ ρ' s σ ws vs Q hE hR r e k => by
  cases ws with
  | nil => cases e; exact ⟨r, k σ hE⟩
  | cons _ _ => cases e⟩
theorem mgs_cons {tg : Expr} {tgs : List Expr} {g : TG} {gs : TGs} {fg : FG} {fgs : List Dv → Env → Sto → Option Env} (h1 : MG X Γ tg g fg) (h2 : MGs X Γ tgs gs fgs) (h : PGs X (tg :: tgs) (gCons g gs)) : MGs X Γ (tg :: tgs) (gCons g gs) (gsC fg fgs) := ⟨h, fun H μ Z ρ ρ' s σ ws vs Q hE hR r e k => by
  cases ws with
  | nil => cases e
  | cons w ws =>
    obtain ⟨x, xs, rfl, r1, r2⟩ := r
    simp only [gsC] at e
    cases q : fg w ρ s with
    | none => rw [q] at e; cases e
    | some ρ1 =>
      rw [q] at e
      exact ⟨x, xs, rfl, h1.2 H μ Z ρ ρ1 s σ w x _ hE hR r1 q fun σ1 E1 => h2.2 H μ Z ρ1 ρ' s σ1 ws xs Q E1 hR r2 e k⟩⟩
def gT (n : Nat) (gs : List Dv → Env → Sto → Option Env) : FG := fun w ρ s => match tupOf w with
  | some ws => if ws.length = n then gs ws ρ s else none
  | none => none
theorem mg_tup {tg : Expr} {K : PySem.W.Frag} {n : Nat} {gs : TGs} {fgs : List Dv → Env → Sto → Option Env} (hK : K = Γ.K) (h : PG X tg (gTup K n gs)) (h2 : GsOk Γ gs fgs) : MG X Γ tg (gTup K n gs) (gT n fgs) := ⟨h, fun H μ Z ρ ρ' s σ w v Q hE hR r e k => by
  subst hK
  unfold gT at e
  split at e
  · rename_i ws q
    split at e
    · rename_i hl
      cases w with
      | tup us =>
        cases q
        obtain ⟨a, xs, h1, h3, h4⟩ := r
        exact ⟨a, xs, h1, h3.sq, by rw [h4.len]; exact hl, h2 H μ Z ρ ρ' s σ _ xs Q hE hR h4 e k⟩
      | _ => cases q
    · cases e
  · cases e⟩
/-- g = e -/
def mAsg (f : FE) (g : FG) : FS := fun ρ s => (f ρ s).thenC ρ fun w s1 => match g w ρ s1 with
  | some ρ' => .nx ρ' s1
  | none => .no
theorem asg_ok {g : TG} {fg : FG} {D : Ends} {σ : L2.St} {H : Hp} (hg : GOk Γ g fg) (h : rdS Γ W (mAsg f fg) D σ H) : tAsg (rdE Γ W f) g D σ H := by
  obtain ⟨μ, Z, ρ, s, hE, hR, q⟩ := h
  exact eS hE hR q fun w s1 v H1 μ1 _ E1 R1 r1 q1 => by
    split at q1
    · rename_i ρ' e
      exact hg H1 μ1 Z ρ ρ' s1 σ w v _ E1 R1 r1 e fun σ' E' => q1 σ' H1 μ1 .refl R1 E'
    · exact q1.elim
theorem ms_asg {g : TG} {fg : FG} (h : PS X st (tAsg (rdE Γ W f) g)) (hg : GOk Γ g fg) : MS X Γ W st (mAsg f fg) := PS.imp h fun D σ H => asg_ok hg
/-- the walk J yields these items -/
def Walks (Γ : Ct) (Z : Zs) (H : Hp) (μ : Mu) (ow : Option (Nat × List Dv)) (J : It) (ws : List Dv) : Prop := ∀ (H' : Hp) (μ' : Mu) (Z' : Zs) (s' : Sto), EvoZ Z H μ H' μ' → Rep Γ H' μ' Z' s' → (∀ a, Z a → Z' a) → (∀ a, Z' a → Z a ∨ H a = none) → (∀ n us, ow = some (n, us) → s'[n]? = some (.lst us)) →
  J.stop ws.length H' ∧ ∀ i w, ws[i]? = some w → J.go i H' ∧ ∀ x H'', J.yld i H' x H'' → Evo H' μ' H'' μ' ∧ Rep Γ H'' μ' Z' s' ∧ RV Γ H'' μ' Z' w x
structure Src where
  ws : List Dv
  ow : Option (Nat × List Dv) := none
abbrev FI := Env → Sto → R Src
def PostI (Γ : Ct) (W : WX) (H : Hp) (μ : Mu) (Z : Zs) (σ : L2.St) (Q : It → Hp → Prop) : R Src → Prop
  | .ok r s' => ∀ J H' μ', Evo H μ H' μ' → Rep Γ H' μ' Z s' → Walks Γ Z H' μ' r.ow J r.ws → Q J H'
  | .er x s' => ∀ cls d H' μ', Evo H μ H' μ' → Rep Γ H' μ' Z s' → RX Γ H' μ' Z x cls d → W cls d σ H'
  | .no => False
def rdI (Γ : Ct) (W : WX) (f : FI) : TI := fun σ H Q => ∃ μ Z ρ s, RE Γ H μ Z ρ σ ∧ Rep Γ H μ Z s ∧ PostI Γ W H μ Z σ Q (f ρ s)
def MI (X : Cx) (Γ : Ct) (W : WX) (tg iter : Expr) (f : FI) : Prop := PI X tg iter (rdI Γ W f)
theorem PI.imp {tg iter : Expr} {t t' : TI} (h : PI X tg iter t) (k : ∀ σ H Q, t' σ H Q → t σ H Q) : PI X tg iter t' := ⟨fun pins s σ H Q I q => h.run pins s σ H Q I (k σ H Q q)⟩
theorem PI.or {tg iter : Expr} {t t' : TI} (h : PI X tg iter t) (h' : PI X tg iter t') : PI X tg iter (fun σ H Q => t σ H Q ∨ t' σ H Q) := ⟨fun pins s σ H Q I q => q.elim (h.run pins s σ H Q I) (h'.run pins s σ H Q I)⟩
def srcOf (s : Sto) : Dv → Option Src
  | .tup ws => some { ws := ws }
  | .lst ws => some { ws := ws }
  | .sq ws => some { ws := ws }
  | .ref n => match s[n]? with
    | some (.lst ws) => some { ws := ws, ow := some (n, ws) }
    | _ => none
  | _ => none
def iSeq (f : FE) : FI := fun ρ s => (f ρ s).bind fun w s1 => R.of (srcOf s1 w) s1
mutual
theorem RV.strong {H : Hp} {μ : Mu} {Z Z' : Zs} (h : ∀ a, Z' a → Z a ∨ H a = none) : ∀ (w : Dv) {v : V}, RV Γ H μ Z w v → RV Γ H μ Z' w v
  | .non, _, q => q
  | .bl _, _, q => q
  | .int _, _, q => q
  | .str _, _, q => q
  | .ty _, _, q => q
  | .cl _, _, q => q
  | .ref n, _, q => q
  | .tup ws, _, q => by
    obtain ⟨a, xs, h1, h2, h3⟩ := q
    refine ⟨a, xs, h1, ?_, RVs.strong h ws h3⟩
    rcases h2 with ⟨h2, f⟩ | h2
    · exact .inl ⟨h2, f.1, fun z => (h a z).elim f.2 (Rd.alive h2)⟩
    · exact .inr h2
  | .sq ws, _, q => by
    obtain ⟨a, xs, h1, h2, h3⟩ := q
    refine ⟨a, xs, h1, ?_, RVs.strong h ws h3⟩
    rcases h2 with ⟨h2, f⟩ | h2
    · exact .inl ⟨h2, f.1, fun z => (h a z).elim f.2 (Rd.alive h2)⟩
    · exact .inr h2
  | .lst ws, _, q => by
    obtain ⟨a, xs, h1, h2, h3, h4⟩ := q
    exact ⟨a, xs, h1, h2, ⟨h3.1, fun z => (h a z).elim h3.2 (by rw [h2]; intro y; cases y)⟩, RVs.strong h ws h4⟩
  | .dct ks ws, _, q => by
    obtain ⟨a, kvs, h1, h2, h3, h4, h5⟩ := q
    exact ⟨a, kvs, h1, h2, ⟨h3.1, fun z => (h a z).elim h3.2 (by rw [h2]; intro y; cases y)⟩, h4, RVs.strong h ws h5⟩
  | .dtt kd ws, _, q => by
    obtain ⟨a, kvs, h1, h2, h3, h4, h5, h6⟩ := q
    exact ⟨a, kvs, h1, h2, ⟨h3.1, fun z => (h a z).elim h3.2 h2.some⟩, h4, RVs.strong h kd h5, RVs.strong h ws h6⟩
  | .exc c f w, _, q => by
    obtain ⟨a, dx, x, h1, h2, h3, h4, h5, h6⟩ := q
    exact ⟨a, dx, x, h1, h2, ⟨h3.1, fun z => (h a z).elim h3.2 (by rw [h2]; intro y; cases y)⟩, h4, ⟨h5.1, fun z => (h dx z).elim h5.2 (by rw [h4]; intro y; cases y)⟩, RV.strong h w h6⟩
  | .exn c, _, q => by
    obtain ⟨a, h1, h2, h3⟩ := q
    exact ⟨a, h1, h2, ⟨h3.1, fun z => (h a z).elim h3.2 (by rw [h2]; intro y; cases y)⟩⟩
  | .clo a c _ ws vs, _, q => by
    obtain ⟨h1, h2, h3, h4⟩ := q
    exact ⟨h1, h2, ⟨h3.1, fun z => (h c z).elim h3.2 (by rw [h2]; intro y; cases y)⟩, RVs.strong h ws h4⟩
theorem RVs.strong {H : Hp} {μ : Mu} {Z Z' : Zs} (h : ∀ a, Z' a → Z a ∨ H a = none) : ∀ (ws : List Dv) {vs : List V}, RVs Γ H μ Z ws vs → RVs Γ H μ Z' ws vs
  | [], _, q => q
  | w :: ws, _, q => by
    obtain ⟨x, xs, h1, h2, h3⟩ := q
    exact ⟨x, xs, h1, RV.strong h w h2, RVs.strong h ws h3⟩
end
/-- a list, a tuple: walked -/
theorem walk_l {H : Hp} {μ : Mu} {Z : Zs} {a : Addr} {xs : List V} {ws : List Dv} (h : ∀ H' μ', EvoZ Z H μ H' μ' → SqL Γ.K H' a xs) (r : RVs Γ H μ Z ws xs) : Walks Γ Z H μ none (Itl Γ.K a) ws := fun H' μ' Z' s' ev hR hy hz _ => by
  have q := h H' μ' ev
  refine ⟨⟨xs, q, by rw [r.len]; exact Nat.le_refl _⟩, fun i w e => ?_⟩
  obtain ⟨x, e1, e2⟩ := r.get e
  refine ⟨⟨xs, x, q, e1⟩, fun y H'' hq => ?_⟩
  obtain ⟨rfl, hq⟩ := hq
  have e3 := hq xs q
  rw [e1] at e3
  cases e3
  exact ⟨.refl, hR, (RV.strong hz w e2).monoZ (ev.more hy)⟩
theorem walk_t {H : Hp} {μ : Mu} {Z : Zs} {a : Addr} {xs : List V} {ws : List Dv} (h : ∀ H' μ', EvoZ Z H μ H' μ' → SqT Γ.K H' a xs) (r : RVs Γ H μ Z ws xs) : Walks Γ Z H μ none (Itt Γ.K a) ws := fun H' μ' Z' s' ev hR hy hz _ => by
  have q := h H' μ' ev
  refine ⟨⟨xs, q, by rw [r.len]; exact Nat.le_refl _⟩, fun i w e => ?_⟩
  obtain ⟨x, e1, e2⟩ := r.get e
  refine ⟨⟨xs, x, q, e1⟩, fun y H'' hq => ?_⟩
  obtain ⟨rfl, hq⟩ := hq
  have e3 := hq xs q
  rw [e1] at e3
  cases e3
  exact ⟨.refl, hR, (RV.strong hz w e2).monoZ (ev.more hy)⟩
/-- a list of the store: walked while it stands -/
theorem walk_m {H : Hp} {μ : Mu} {Z : Zs} {a : Addr} {n : Nat} {xs : List V} {ws : List Dv} (hn : μ n = some a) (hH : H a = some (.lst xs)) (r : RVs Γ H μ Z ws xs) : Walks Γ Z H μ (some (n, ws)) (Itl Γ.K a) ws := fun H' μ' Z' s' ev hR hy hz ho => by
  obtain ⟨b, h1, _, ys, h3, h4⟩ := hR.at n _ (ho n ws rfl)
  rw [ev.mu n a hn] at h1
  cases h1
  have q : SqL Γ.K H' a ys := SqL.of h3
  refine ⟨⟨ys, q, by rw [h4.len]; exact Nat.le_refl _⟩, fun i w e => ?_⟩
  obtain ⟨x, e1, e2⟩ := h4.get e
  refine ⟨⟨ys, x, q, e1⟩, fun y H'' hq => ?_⟩
  obtain ⟨rfl, hq⟩ := hq
  have e3 := hq ys q
  rw [e1] at e3
  cases e3
  exact ⟨.refl, hR, e2⟩
theorem iI {H : Hp} {μ : Mu} {Z : Zs} {σ : L2.St} {ρ : Env} {s : Sto} {f : FE} {k : Dv → Sto → R Src} {Q : It → Hp → Prop} {Q' : VK} (hE : RE Γ H μ Z ρ σ) (hR : Rep Γ H μ Z s) (h : PostI Γ W H μ Z σ Q ((f ρ s).bind k))
    (hk : ∀ x s1 v H1 μ1, Evo H μ H1 μ1 → RE Γ H1 μ1 Z ρ σ → Rep Γ H1 μ1 Z s1 → RV Γ H1 μ1 Z x v → PostI Γ W H1 μ1 Z σ Q (k x s1) → Q' v H1) : rdE Γ W f σ H Q' := by
  refine ⟨μ, Z, ρ, s, hE, hR, ?_⟩
  cases e : f ρ s with
  | ok x s1 =>
    rw [e] at h
    refine fun v H1 μ1 ev R1 r1 => hk x s1 v H1 μ1 ev (hE.mono ev) R1 r1 ?_
    have h' : PostI Γ W H μ Z σ Q (k x s1) := h
    cases q : k x s1 with
    | ok r s' => rw [q] at h'; exact fun J H' μ' e' => h' J H' μ' (ev.trans e')
    | er y s' => rw [q] at h'; exact fun c d H' μ' e' => h' c d H' μ' (ev.trans e')
    | no => rw [q] at h'; exact h'.elim
  | er x s1 => rw [e] at h; exact h
  | no => rw [e] at h; exact h.elim
theorem iA {H : Hp} {μ : Mu} {Z : Zs} {σ : L2.St} {ρ : Env} {s : Sto} {f : FA} {k : List Dv → Sto → R Src} {Q : It → Hp → Prop} {Q' : List V → Hp → Prop} (hE : RE Γ H μ Z ρ σ) (hR : Rep Γ H μ Z s) (h : PostI Γ W H μ Z σ Q ((f ρ s).bind k))
    (hk : ∀ x s1 v H1 μ1, Evo H μ H1 μ1 → RE Γ H1 μ1 Z ρ σ → Rep Γ H1 μ1 Z s1 → RVs Γ H1 μ1 Z x v → PostI Γ W H1 μ1 Z σ Q (k x s1) → Q' v H1) : rdA Γ W f σ H Q' := by
  refine ⟨μ, Z, ρ, s, hE, hR, ?_⟩
  cases e : f ρ s with
  | ok x s1 =>
    rw [e] at h
    refine fun v H1 μ1 ev R1 r1 => hk x s1 v H1 μ1 ev (hE.mono ev) R1 r1 ?_
    have h' : PostI Γ W H μ Z σ Q (k x s1) := h
    cases q : k x s1 with
    | ok r s' => rw [q] at h'; exact fun J H' μ' e' => h' J H' μ' (ev.trans e')
    | er y s' => rw [q] at h'; exact fun c d H' μ' e' => h' c d H' μ' (ev.trans e')
    | no => rw [q] at h'; exact h'.elim
  | er x s1 => rw [e] at h; exact h
  | no => rw [e] at h; exact h.elim
theorem mi_seq {tg l : Expr} {f : FE} (hK : Γ.K = X.K) (hl : ME X Γ W l f) : MI X Γ W tg l (iSeq f) :=
  PI.imp (PI.or (pi_list hl) (pi_tup hl)) fun σ H Q ⟨μ, Z, ρ, s, hE, hR, q⟩ => by
    rw [← hK]
    unfold iSeq at q
    cases e : f ρ s with
    | no => rw [e] at q; exact q.elim
    | er x s1 => rw [e] at q; exact .inl ⟨μ, Z, ρ, s, hE, hR, by rw [e]; exact q⟩
    | ok x s1 =>
      rw [e] at q
      have q' : PostI Γ W H μ Z σ Q (R.of (srcOf s1 x) s1) := q
      cases x with
      | tup ws =>
        refine .inr ⟨μ, Z, ρ, s, hE, hR, ?_⟩
        rw [e]
        rintro v H1 μ1 e1 R1 ⟨a, xs, h1, h2, h3⟩
        exact ⟨a, h1, ⟨xs, h2.sq⟩, q' _ _ _ e1 R1 (walk_t (fun H' μ' ev => (h2.monoZ ev).sq) h3)⟩
      | sq ws =>
        refine .inl ⟨μ, Z, ρ, s, hE, hR, ?_⟩
        rw [e]
        rintro v H1 μ1 e1 R1 ⟨a, xs, h1, h2, h3⟩
        exact ⟨a, h1, ⟨xs, h2.sq⟩, q' _ _ _ e1 R1 (walk_l (fun H' μ' ev => (h2.monoZ ev).sq) h3)⟩
      | lst ws =>
        refine .inl ⟨μ, Z, ρ, s, hE, hR, ?_⟩
        rw [e]
        rintro v H1 μ1 e1 R1 ⟨a, xs, h1, h2, h3, h4⟩
        exact ⟨a, h1, ⟨xs, SqL.of h2⟩, q' _ _ _ e1 R1 (walk_l (fun H' μ' ev => SqL.of (ev.keep _ _ h2 h3.1 h3.2)) h4)⟩
      | ref n =>
        simp only [srcOf] at q'
        split at q'
        · rename_i us e2
          refine .inl ⟨μ, Z, ρ, s, hE, hR, ?_⟩
          rw [e]
          rintro v H1 μ1 e1 R1 ⟨a, h1, h2⟩
          obtain ⟨b, g1, _, xs, g3, g4⟩ := R1.at n _ e2
          rw [h2] at g1
          cases g1
          exact ⟨a, h1, ⟨xs, SqL.of g3⟩, q' _ _ _ e1 R1 (walk_m h2 g3 g4)⟩
        · exact q'.elim
      | _ => exact q'.elim
/-- range(n), range(a, b) -/
def rng (lo : Int) (n : Nat) : List Dv := (List.range n).map fun (i : Nat) => .int (lo + i)
theorem rng_get {lo : Int} {n i : Nat} {w : Dv} (h : (rng lo n)[i]? = some w) : i < n ∧ w = .int (lo + i) := by
  unfold rng at h
  rw [List.getElem?_map] at h
  cases e : (List.range n)[i]? with
  | none => rw [e] at h; cases h
  | some j =>
    rw [e] at h
    cases h
    obtain ⟨h1, h2⟩ := List.getElem?_eq_some_iff.mp e
    rw [List.length_range] at h1
    rw [List.getElem_range] at h2
    exact ⟨h1, by rw [h2]⟩
theorem rng_len (lo : Int) (n : Nat) : (rng lo n).length = n := by unfold rng; rw [List.length_map, List.length_range]
theorem walk_r {H : Hp} {μ : Mu} {Z : Zs} {lo : Int} {n : Nat} : Walks Γ Z H μ none (Itr lo n) (rng lo n) := fun H' μ' Z' s' ev hR hy hz _ => by
  refine ⟨by rw [rng_len]; exact Nat.le_refl n, fun i w e => ?_⟩
  obtain ⟨h1, rfl⟩ := rng_get e
  refine ⟨h1, fun x H'' hq => ?_⟩
  obtain ⟨rfl, rfl⟩ := hq
  exact ⟨.refl, hR, rfl⟩
def okR (i : Int) : Bool := decide (-(2 ^ 62) ≤ i ∧ i < 2 ^ 62)
def iRange1 (fa : FA) : FI := fun ρ s => (fa ρ s).bind fun ws s1 => match ws with
  | [.int j] => if okR j = true then .ok { ws := rng 0 j.toNat } s1 else .no
  | _ => .no
def iRange2 (fa : FA) : FI := fun ρ s => (fa ρ s).bind fun ws s1 => match ws with
  | [.int i, .int j] => if okR i = true ∧ okR j = true then .ok { ws := rng i (j - i).toNat } s1 else .no
  | _ => .no
theorem mi_range1 {tg a : Expr} {fa : FA} {p pos : Pos} (hg : Gl X "range") (hm : X.mg "range" = none) (ha : MA X Γ W [a] fa) (hs : starEach [a] X.env = [(false, eval a X.env)] := by rfl) : MI X Γ W tg (.Call (.Name "range" p) [a] [] pos) (iRange1 fa) :=
  PI.imp (pi_range1 hg hm ha hs) fun σ H Q ⟨μ, Z, ρ, s, hE, hR, q⟩ => iA hE hR q fun ws s1 vs H1 μ1 e1 E1 R1 r1 q1 => by
    split at q1
    · rename_i j
      split at q1
      · rename_i hj
        have hj' : -(2 ^ 62) ≤ j ∧ j < 2 ^ 62 := of_decide_eq_true hj
        obtain ⟨x, xs, rfl, g1, g2⟩ := r1
        rw [show x = .int j from g1, show xs = [] from g2]
        exact ⟨j, rfl, hj'.1, hj'.2, q1 _ _ _ .refl R1 walk_r⟩
      · exact q1.elim
    · exact q1.elim
theorem mi_range2 {tg a b : Expr} {fa : FA} {p pos : Pos} (hg : Gl X "range") (hm : X.mg "range" = none) (ha : MA X Γ W [a, b] fa) (hs : starEach [a, b] X.env = [(false, eval a X.env), (false, eval b X.env)] := by rfl) (hs2 : starEach [b] X.env = [(false, eval b X.env)] := by rfl) :
    MI X Γ W tg (.Call (.Name "range" p) [a, b] [] pos) (iRange2 fa) :=
  PI.imp (pi_range2 hg hm ha hs hs2) fun σ H Q ⟨μ, Z, ρ, s, hE, hR, q⟩ => iA hE hR q fun ws s1 vs H1 μ1 e1 E1 R1 r1 q1 => by
    split at q1
    · rename_i i j
      split at q1
      · rename_i hj
        have hi : -(2 ^ 62) ≤ i ∧ i < 2 ^ 62 := of_decide_eq_true hj.1
        have hj' : -(2 ^ 62) ≤ j ∧ j < 2 ^ 62 := of_decide_eq_true hj.2
        obtain ⟨x, xs, rfl, g1, y, ys, rfl, g2, g3⟩ := r1
        rw [show x = .int i from g1, show y = .int j from g2, show ys = [] from g3]
        exact ⟨i, j, rfl, ⟨hi.1, hi.2, hj'.1, hj'.2⟩, q1 _ _ _ .refl R1 walk_r⟩
      · exact q1.elim
    · exact q1.elim
/-- whether the list that is walked stands as it did -/
def still (s : Sto) (r : Option (Nat × List Dv)) : Prop := ∀ n us, r = some (n, us) → s[n]? = some (.lst us)
open Classical in
noncomputable def stB (s : Sto) (r : Option (Nat × List Dv)) : Bool := decide (still s r)
noncomputable def forL (ow : Option (Nat × List Dv)) (g : FG) (body : FS) : List Dv → FS
  | [], ρ, s => if ow.isNone = true ∨ stB s ow = true then .nx ρ s else .no
  | w :: ws, ρ, s => if ow.isNone = true ∨ stB s ow = true then match g w ρ s with
    | none => .no
    | some ρ1 => match body ρ1 s with
      | .nx ρ2 s2 => forL ow g body ws ρ2 s2
      | .ct ρ2 s2 => forL ow g body ws ρ2 s2
      | .bk ρ2 s2 => .nx ρ2 s2
      | .rt v s2 => .rt v s2
      | .er x ρ2 s2 => .er x ρ2 s2
      | .no => .no
    else .no
noncomputable def mFor (f : FI) (g : FG) (body : FS) : FS := fun ρ s => (f ρ s).thenC ρ fun r s1 => forL r.ow g body r.ws ρ s1
open Classical in
theorem st_of {s : Sto} {ow : Option (Nat × List Dv)} (h : ow.isNone = true ∨ stB s ow = true) : still s ow := by
  rcases h with h | h
  · intro n us e
    rw [e] at h
    cases h
  · unfold stB at h
    exact of_decide_eq_true h
theorem iS {H : Hp} {μ : Mu} {Z : Zs} {σ : L2.St} {ρ : Env} {s : Sto} {f : FI} {k : Src → Sto → C} {D : Ends} {Q' : It → Hp → Prop} (hE : RE Γ H μ Z ρ σ) (hR : Rep Γ H μ Z s) (h : PostS Γ W H μ Z D ((f ρ s).thenC ρ k))
    (hk : ∀ r s1 J H1 μ1, Evo H μ H1 μ1 → RE Γ H1 μ1 Z ρ σ → Rep Γ H1 μ1 Z s1 → Walks Γ Z H1 μ1 r.ow J r.ws → PostS Γ W H1 μ1 Z D (k r s1) → Q' J H1) : rdI Γ W f σ H Q' := by
  refine ⟨μ, Z, ρ, s, hE, hR, ?_⟩
  cases e : f ρ s with
  | ok r s1 => rw [e] at h; exact fun J H1 μ1 ev R1 w => hk r s1 J H1 μ1 ev (hE.mono ev) R1 w (PostS.evo ev h)
  | er x s1 => rw [e] at h; exact fun c d H' μ' ev R' rx => h c d σ H' μ' ev R' (hE.mono ev) rx
  | no => rw [e] at h; exact h.elim
theorem for_ok {H : Hp} {μ : Mu} {Z : Zs} {σ : L2.St} {ρ : Env} {s : Sto} {D : Ends} {g : TG} {fg : FG} {body : FS} {ow : Option (Nat × List Dv)} {ws : List Dv} {J : It} (hg : GOk Γ g fg) (hE : RE Γ H μ Z ρ σ) (hR : Rep Γ H μ Z s) (hw : Walks Γ Z H μ ow J ws)
    (q : PostS Γ W H μ Z D (forL ow fg body ws ρ s)) :
    ∃ Wn : Nat → Nat → L2.St → Hp → Prop, (∃ m, Wn 0 m σ H) ∧ ∀ i m σ H, Wn i m σ H → (J.stop i H ∧ D.nx σ H) ∨ (J.go i H ∧ ∃ N : L2.St → Hp → Prop, (∀ σ' H', N σ' H' → ∃ m', m' < m ∧ Wn (i + 1) m' σ' H') ∧
      ∀ x H', J.yld i H x H' → g x σ H' fun σ2 H2 => rdS Γ W body { D with nx := N, ct := N, bk := D.nx } σ2 H2) := by
  let P : Nat → L2.St → Hp → Prop := fun i σ1 H1 => ∃ μ1 ρ1 s1, Evo H μ H1 μ1 ∧ RE Γ H1 μ1 Z ρ1 σ1 ∧ Rep Γ H1 μ1 Z s1 ∧ PostS Γ W H1 μ1 Z D (forL ow fg body (ws.drop i) ρ1 s1)
  refine ⟨fun i m σ1 H1 => m = ws.length - i ∧ i ≤ ws.length ∧ P i σ1 H1, ⟨ws.length, by omega, Nat.zero_le _, μ, ρ, s, .refl, hE, hR, q⟩, ?_⟩
  rintro i m σ1 H1 ⟨rfl, hi, μ1, ρ1, s1, ev, E1, R1, q1⟩
  by_cases hl : i < ws.length
  · have hd : ws.drop i = ws[i] :: ws.drop (i + 1) := List.drop_eq_getElem_cons hl
    rw [hd] at q1
    simp only [forL] at q1
    split at q1
    · rename_i hst
      obtain ⟨_, hgo⟩ := hw H1 μ1 Z s1 ev.z R1 (fun _ z => z) (fun a z => .inl z) (st_of hst)
      obtain ⟨h1, h2⟩ := hgo i ws[i] (List.getElem?_eq_getElem hl)
      refine .inr ⟨h1, P (i + 1), fun σ' H' p => ⟨_, by omega, rfl, hl, p⟩, fun x H' hy => ?_⟩
      obtain ⟨e2, R2, r2⟩ := h2 x H' hy
      cases eg : fg ws[i] ρ1 s1 with
      | none => rw [eg] at q1; exact q1.elim
      | some ρ2 =>
        rw [eg] at q1
        dsimp only at q1
        refine hg H' μ1 Z ρ1 ρ2 s1 σ1 ws[i] x _ (E1.mono e2) R2 r2 eg fun σ2 E2 => ⟨μ1, Z, ρ2, s1, E2, R2, ?_⟩
        cases eb : body ρ2 s1 with
        | nx ρ3 s3 => rw [eb] at q1; exact fun σ3 H3 μ3 e3 R3 E3 => ⟨μ3, ρ3, s3, (ev.trans e2).trans e3, E3, R3, PostS.evo (e2.trans e3) q1⟩
        | ct ρ3 s3 => rw [eb] at q1; exact fun σ3 H3 μ3 e3 R3 E3 => ⟨μ3, ρ3, s3, (ev.trans e2).trans e3, E3, R3, PostS.evo (e2.trans e3) q1⟩
        | bk ρ3 s3 => rw [eb] at q1; exact fun σ3 H3 μ3 e3 R3 E3 => q1 σ3 H3 μ3 (e2.trans e3) R3 E3
        | rt v s3 => rw [eb] at q1; exact fun v3 H3 μ3 e3 R3 r3 => q1 v3 H3 μ3 (e2.trans e3) R3 r3
        | er x3 ρ3 s3 => rw [eb] at q1; exact fun c d σ3 H3 μ3 e3 R3 E3 r3 => q1 c d σ3 H3 μ3 (e2.trans e3) R3 E3 r3
        | no => rw [eb] at q1; exact q1.elim
    · exact q1.elim
  · have he : i = ws.length := by omega
    subst he
    rw [List.drop_length] at q1
    simp only [forL] at q1
    split at q1
    · rename_i hst
      obtain ⟨hs, _⟩ := hw H1 μ1 Z s1 ev.z R1 (fun _ z => z) (fun a z => .inl z) (st_of hst)
      exact .inl ⟨hs, q1 σ1 H1 μ1 .refl R1 E1⟩
    · exact q1.elim
theorem ms_for {tg iter : Expr} {bd : List Stmt} {f : FI} {g : TG} {fg : FG} {body : FS} (hp : PassesOwn (model X.prog X.w) X.A X.env X.xe) (hc : X.calm = true) (hi : MI X Γ W tg iter f) (hg : MG X Γ tg g fg) (hb : MB X Γ W bd body)
    (hs : ∀ x, foldedSetIterable iter X.env x = pure x := by intro _; rfl) : MS X Γ W (.For tg iter bd [] pos) (mFor f fg body) :=
  PS.imp (ps_for hp hc hi hg.1 hb hs) fun D σ H ⟨μ, Z, ρ, s, hE, hR, q⟩ => iS hE hR q fun r s1 J H1 μ1 e1 E1 R1 w1 q1 => for_ok hg.2 E1 R1 w1 q1
def whL (t : FT) (body : FS) : Nat → FS
  | 0, _, _ => .no
  | n + 1, ρ, s => (t ρ s).thenC ρ fun b s1 => if b = true then match body ρ s1 with
      | .nx ρ2 s2 => whL t body n ρ2 s2
      | .ct ρ2 s2 => whL t body n ρ2 s2
      | .bk ρ2 s2 => .nx ρ2 s2
      | .rt v s2 => .rt v s2
      | .er x ρ2 s2 => .er x ρ2 s2
      | .no => .no
    else .nx ρ s1
theorem ms_while {cond : Expr} {bd : List Stmt} {body : FS} (n : Nat) (hp : PassesOwn (model X.prog X.w) X.A X.env X.xe) (hc : MT X Γ W cond t) (hb : MB X Γ W bd body) : MS X Γ W (.While cond bd [] pos) (whL t body n) :=
  PS.imp (ps_while hp hc hb) fun D σ H ⟨μ, Z, ρ, s, hE, hR, q⟩ => by
    refine ⟨fun m σ1 H1 => ∃ μ1 ρ1 s1, RE Γ H1 μ1 Z ρ1 σ1 ∧ Rep Γ H1 μ1 Z s1 ∧ PostS Γ W H1 μ1 Z D (whL t body m ρ1 s1), ⟨n, μ, ρ, s, hE, hR, q⟩, ?_⟩
    rintro m σ1 H1 ⟨μ1, ρ1, s1, E1, R1, q1⟩
    cases m with
    | zero => exact q1.elim
    | succ m =>
      refine tS E1 R1 q1 fun b s2 H2 μ2 e2 E2 R2 q2 => ?_
      cases b with
      | false =>
        rw [if_neg Bool.false_ne_true] at q2 ⊢
        exact q2 σ1 H2 μ2 .refl R2 E2
      | true =>
        rw [if_pos rfl] at q2 ⊢
        refine ⟨fun σ3 H3 => ∃ μ1 ρ1 s1, RE Γ H3 μ1 Z ρ1 σ3 ∧ Rep Γ H3 μ1 Z s1 ∧ PostS Γ W H3 μ1 Z D (whL t body m ρ1 s1), fun σ' H' p => ⟨m, Nat.lt_succ_self m, p⟩, μ2, Z, ρ1, s2, E2, R2, ?_⟩
        cases eb : body ρ1 s2 with
        | nx ρ3 s3 => rw [eb] at q2; exact fun σ3 H3 μ3 e3 R3 E3 => ⟨μ3, ρ3, s3, E3, R3, PostS.evo e3 q2⟩
        | ct ρ3 s3 => rw [eb] at q2; exact fun σ3 H3 μ3 e3 R3 E3 => ⟨μ3, ρ3, s3, E3, R3, PostS.evo e3 q2⟩
        | bk ρ3 s3 => rw [eb] at q2; exact fun σ3 H3 μ3 e3 R3 E3 => q2 σ3 H3 μ3 e3 R3 E3
        | rt v s3 => rw [eb] at q2; exact fun v3 H3 μ3 e3 R3 r3 => q2 v3 H3 μ3 e3 R3 r3
        | er x3 ρ3 s3 => rw [eb] at q2; exact fun c d σ3 H3 μ3 e3 R3 E3 r3 => q2 c d σ3 H3 μ3 e3 R3 E3 r3
        | no => rw [eb] at q2; exact q2.elim
end
end MP
set_option Elab.async false
set_option linter.all false
set_option maxRecDepth 100000
set_option maxHeartbeats 4000000
namespace MP
open PySem PySem.Spec PyProof.Rows L2
/-- nothing is raised here -/
abbrev W0 : WX := fun _ _ _ _ => False
section
variable {X : Cx} {Γ : Ct} {W : WX} {H H1 H' : Hp} {μ μ1 μ' : Mu} {Z Z' : Zs} {ρ : Env} {σ : L2.St} {s : Sto} {p : Addr} {o : HO}
abbrev hid (p : Addr) (Z : Zs) : Zs := fun b => b = p ∨ Z b
theorem RO.strong {a : Addr} {ob : Ob} (h : ∀ a, Z' a → Z a ∨ H a = none) (r : RO Γ H μ Z a ob) : RO Γ H μ Z' a ob := by
  cases ob with
  | lst ws =>
    obtain ⟨xs, h4, h5⟩ := r
    exact ⟨xs, h4, RVs.strong h ws h5⟩
  | dct kws =>
    obtain ⟨kvs, h4, h5, h6⟩ := r
    exact ⟨kvs, h4, h5, RVs.strong h _ h6⟩
  | dtt fr kws =>
    obtain ⟨kvs, h4, h5, h6, h7⟩ := r
    exact ⟨kvs, h4, h5, RVs.strong h _ h6, RVs.strong h _ h7⟩
  | obj c fs =>
    obtain ⟨dx, kvs, h4, h5, h6⟩ := r
    exact ⟨dx, kvs, h4, h5, RVs.strong h _ h6⟩
  | tab m q => exact ⟨r.1, tab_imp rfl (fun c e1 e2 => ⟨e1, e2.1, fun z => (h c z).elim e2.2 (by rw [e1]; intro y; cases y)⟩) r.2⟩
theorem RO.weak {a : Addr} {ob : Ob} (h : ∀ a, Z a → Z' a) (r : RO Γ H μ Z' a ob) : RO Γ H μ Z a ob := by
  cases ob with
  | lst ws =>
    obtain ⟨xs, h4, h5⟩ := r
    exact ⟨xs, h4, RVs.weak h ws h5⟩
  | dct kws =>
    obtain ⟨kvs, h4, h5, h6⟩ := r
    exact ⟨kvs, h4, h5, RVs.weak h _ h6⟩
  | dtt fr kws =>
    obtain ⟨kvs, h4, h5, h6, h7⟩ := r
    exact ⟨kvs, h4, h5, RVs.weak h _ h6, RVs.weak h _ h7⟩
  | obj c fs =>
    obtain ⟨dx, kvs, h4, h5, h6⟩ := r
    exact ⟨dx, kvs, h4, h5, RVs.weak h _ h6⟩
  | tab m q => exact ⟨r.1, tab_imp rfl (fun c e1 e2 => ⟨e1, e2.weak h⟩) r.2⟩
theorem Rep.weak (h : ∀ a, Z a → Z' a) (hR : Rep Γ H μ Z' s) : Rep Γ H μ Z s := ⟨fun n ob q => by
  obtain ⟨a, h1, h2, h3⟩ := hR.at n ob q
  exact ⟨a, h1, fun z => h2 (h a z), h3.weak h⟩, hR.inj, hR.dom, fun a z => hR.za a (h a z)⟩
/-- a fresh object, hidden -/
theorem Rep.hide (hR : Rep Γ H μ Z s) (hp : H p = none) : Rep Γ (upd H p o) μ (hid p Z) s := by
  have hz : ∀ a, hid p Z a → Z a ∨ H a = none := fun a z => z.elim (fun e => .inr (e ▸ hp)) .inl
  have ev : Evo H μ (upd H p o) μ := Evo.laid hp
  refine ⟨fun n ob q => ?_, hR.inj, hR.dom, fun a z => ?_⟩
  · obtain ⟨a, h1, h2, h3⟩ := hR.at n ob q
    have hne : a ≠ p := fun e => hR.alive h1 (e ▸ hp)
    exact ⟨a, h1, fun z => z.elim hne h2, (h3.strong hz).mono' ev (upd_ne hne)⟩
  · by_cases e : a = p
    · rw [e, upd_same]; intro y; cases y
    · rw [upd_ne e]
      exact hR.za a (z.resolve_left e)
theorem RE.hide (hE : RE Γ H μ Z ρ σ) (hp : H p = none) : RE Γ (upd H p o) μ (hid p Z) ρ σ := ⟨hE.1, fun i w q => by
  obtain ⟨v, h1, h2⟩ := hE.2 i w q
  exact ⟨v, h1, (RV.strong (fun a z => z.elim (fun e => .inr (e ▸ hp)) .inl) w h2).mono (Evo.laid hp)⟩⟩
theorem Evo.hid (e : Evo H μ H1 μ1) (hp : H p = none) : Evo H μ (upd H1 p o) μ1 where
  keep := fun a ob h hn => by rw [upd_ne (ne_of_none h hp)]; exact e.keep a ob h hn
  mu := e.mu
  new := e.new
  stay := fun n a h q => by
    rw [upd_ne (fun z : a = p => q (by rw [z]; exact hp))]
    exact e.stay n a h q
theorem RO.updZ {a : Addr} {ob : Ob} (hne : a ≠ p) (r : RO Γ H μ (MP.hid p Z) a ob) : RO Γ (upd H p o) μ (MP.hid p Z) a ob := by
  cases ob with
  | lst ws =>
    obtain ⟨xs, h4, h5⟩ := r
    exact ⟨xs, by rw [upd_ne hne]; exact h4, RVs.updZ ws h5⟩
  | dct kws =>
    obtain ⟨kvs, h4, h5, h6⟩ := r
    exact ⟨kvs, by rw [upd_ne hne]; exact h4, h5, RVs.updZ _ h6⟩
  | dtt fr kws =>
    obtain ⟨kvs, h4, h5, h6, h7⟩ := r
    exact ⟨kvs, h4.eq (upd_ne hne), h5, RVs.updZ _ h6, RVs.updZ _ h7⟩
  | obj c fs =>
    obtain ⟨dx, kvs, h4, h5, h6⟩ := r
    exact ⟨dx, kvs, by rw [upd_ne hne]; exact h4, h5, RVs.updZ _ h6⟩
  | tab m q => exact ⟨r.1, tab_imp (upd_ne hne) (fun c e1 e2 => ⟨by rw [upd_ne e2.evoZ]; exact e1, e2⟩) r.2⟩
theorem Rep.updZ (hR : Rep Γ H μ (MP.hid p Z) s) : Rep Γ (upd H p o) μ (MP.hid p Z) s := ⟨fun n ob q => by
  obtain ⟨a, h1, h2, h3⟩ := hR.at n ob q
  exact ⟨a, h1, h2, h3.updZ fun e => h2 (.inl e)⟩, hR.inj, hR.dom, fun a z => by
    by_cases e : a = p
    · rw [e, upd_same]; intro y; cases y
    · rw [upd_ne e]; exact hR.za a z⟩
theorem RE.wipe (hE : RE Γ H μ Z ρ σ) : ∀ vs : List Nat, RE Γ H μ Z (vs.foldr (fun v r => r.set v none) ρ) (L2.wipe σ vs)
  | [] => hE
  | v :: vs => (RE.wipe hE vs).del v
end
def wipeD (ρ : Env) (vs : List Nat) : Env := vs.foldr (fun v r => r.set v none) ρ
noncomputable def compL (ow : Option (Nat × List Dv)) (vs : List Nat) (g : FG) (tt : FT) (elt : FE) (ρ : Env) : List Dv → Sto → Option (List Dv × Sto)
  | [], s => if ow.isNone = true ∨ stB s ow = true then some ([], s) else none
  | w :: ws, s => if ow.isNone = true ∨ stB s ow = true then match g w (wipeD ρ vs) s with
    | none => none
    | some ρ1 => match tt ρ1 s with
      | .ok true s2 => match elt ρ1 s2 with
        | .ok y s3 => (compL ow vs g tt elt ρ ws s3).map fun r => (y :: r.1, r.2)
        | _ => none
      | .ok false s2 => compL ow vs g tt elt ρ ws s2
      | _ => none
    else none
noncomputable def mComp (f : FI) (vs : List Nat) (g : FG) (tt : FT) (elt : FE) : FE := fun ρ s => (f ρ s).bind fun r s1 => match compL r.ow vs g tt elt ρ r.ws s1 with
  | some (ws, s2) => if ws.length ≤ lim then .ok (.lst ws) s2 else .no
  | none => .no
def mYes : FT := fun _ s => .ok true s
/-- a target within the block's own names -/
def GWk (Γ : Ct) (g : TG) (fg : FG) (vs : List Nat) : Prop := ∀ (H : Hp) (μ : Mu) (Z : Zs) (ρ ρ' : Env) (s : Sto) (σ : L2.St) (w : Dv) (v : V) (Q : L2.St → Hp → Prop), RE Γ H μ Z ρ σ → Rep Γ H μ Z s → RV Γ H μ Z w v → fg w ρ s = some ρ' →
  (∀ σ', RE Γ H μ Z ρ' σ' → L2.wipe σ' vs = L2.wipe σ vs → Q σ' H) → g v σ H Q
def GsWk (Γ : Ct) (g : TGs) (fg : List Dv → Env → Sto → Option Env) (vs : List Nat) : Prop := ∀ (H : Hp) (μ : Mu) (Z : Zs) (ρ ρ' : Env) (s : Sto) (σ : L2.St) (ws : List Dv) (xs : List V) (Q : L2.St → Hp → Prop), RE Γ H μ Z ρ σ → Rep Γ H μ Z s → RVs Γ H μ Z ws xs → fg ws ρ s = some ρ' →
  (∀ σ', RE Γ H μ Z ρ' σ' → L2.wipe σ' vs = L2.wipe σ vs → Q σ' H) → g xs σ H Q
theorem wipe_set (σ : L2.St) (i : Nat) (v : Option V) : ∀ vs : List Nat, i ∈ vs → L2.wipe (σ.set i v) vs = L2.wipe σ vs
  | [], h => nomatch h
  | j :: vs, h => by
    show (L2.wipe (σ.set i v) vs).set j none = (L2.wipe σ vs).set j none
    by_cases hm : i ∈ vs
    · rw [wipe_set σ i v vs hm]
    · have e : i = j := (List.mem_cons.mp h).resolve_right hm
      subst e
      have comm : ∀ (us : List Nat), i ∉ us → L2.wipe (σ.set i v) us = (L2.wipe σ us).set i v := fun us => by
        induction us with
        | nil => intro _; rfl
        | cons k us ih =>
          intro hk
          show (L2.wipe (σ.set i v) us).set k none = ((L2.wipe σ us).set k none).set i v
          rw [ih fun z => hk (List.mem_cons_of_mem _ z)]
          exact List.set_comm _ _ fun z => hk (by rw [z]; exact List.mem_cons_self)
      rw [comm vs hm, List.set_set]
theorem wipe_wipe (σ : L2.St) (vs : List Nat) : L2.wipe (L2.wipe σ vs) vs = L2.wipe σ vs := by
  have key : ∀ (us : List Nat), (∀ i ∈ us, i ∈ vs) → L2.wipe (L2.wipe σ us) vs = L2.wipe σ vs := fun us => by
    induction us with
    | nil => intro _; rfl
    | cons j us ih =>
      intro h
      show L2.wipe ((L2.wipe σ us).set j none) vs = _
      rw [wipe_set _ j none vs (h j List.mem_cons_self)]
      exact ih fun i hi => h i (List.mem_cons_of_mem _ hi)
  exact key vs fun _ h => h
section
variable {X : Cx} {Γ : Ct} {W : WX}
theorem gw_name {i : Nat} {vs : List Nat} (h : i ∈ vs) : GWk Γ (gName i) (gN i) vs := fun H μ Z ρ ρ' s σ w v Q hE hR r e k => by
  cases e
  exact k _ (hE.set i r) (wipe_set σ i (some v) vs h)
theorem gws_nil {vs : List Nat} : GsWk Γ gNil gs0 vs := fun H μ Z ρ ρ' s σ ws xs Q hE hR r e k => by
  cases ws with
  | nil => cases e; exact ⟨r, k σ hE rfl⟩
  | cons _ _ => cases e
theorem gws_cons {g : TG} {gs : TGs} {fg : FG} {fgs : List Dv → Env → Sto → Option Env} {vs : List Nat} (h1 : GWk Γ g fg vs) (h2 : GsWk Γ gs fgs vs) : GsWk Γ (gCons g gs) (gsC fg fgs) vs := fun H μ Z ρ ρ' s σ ws xs Q hE hR r e k => by
  cases ws with
  | nil => cases e
  | cons w ws =>
    obtain ⟨x, xs, rfl, r1, r2⟩ := r
    simp only [gsC] at e
    cases q : fg w ρ s with
    | none => rw [q] at e; cases e
    | some ρ1 =>
      rw [q] at e
      exact ⟨x, xs, rfl, h1 H μ Z ρ ρ1 s σ w x _ hE hR r1 q fun σ1 E1 hw => h2 H μ Z ρ1 ρ' s σ1 ws xs Q E1 hR r2 e fun σ' E' hw' => k σ' E' (hw'.trans hw)⟩
theorem gw_tup {K : PySem.W.Frag} {n : Nat} {gs : TGs} {fgs : List Dv → Env → Sto → Option Env} {vs : List Nat} (hK : K = Γ.K) (h2 : GsWk Γ gs fgs vs) : GWk Γ (gTup K n gs) (gT n fgs) vs := fun H μ Z ρ ρ' s σ w v Q hE hR r e k => by
  subst hK
  unfold gT at e
  split at e
  · rename_i ws q
    split at e
    · rename_i hl
      cases w with
      | tup us =>
        cases q
        obtain ⟨a, xs, h1, h3, h4⟩ := r
        exact ⟨a, xs, h1, h3.sq, by rw [h4.len]; exact hl, h2 H μ Z ρ ρ' s σ _ xs Q hE hR h4 e k⟩
      | _ => cases q
    · cases e
  · cases e
theorem iE {H : Hp} {μ : Mu} {Z : Zs} {σ : L2.St} {ρ : Env} {s : Sto} {f : FI} {k : Src → Sto → R Dv} {Q : VK} {Q' : It → Hp → Prop} (hE : RE Γ H μ Z ρ σ) (hR : Rep Γ H μ Z s) (h : PostE Γ W H μ Z σ Q ((f ρ s).bind k))
    (hk : ∀ r s1 J H1 μ1, Evo H μ H1 μ1 → RE Γ H1 μ1 Z ρ σ → Rep Γ H1 μ1 Z s1 → Walks Γ Z H1 μ1 r.ow J r.ws → PostE Γ W H1 μ1 Z σ Q (k r s1) → Q' J H1) : rdI Γ W f σ H Q' := by
  refine ⟨μ, Z, ρ, s, hE, hR, ?_⟩
  cases e : f ρ s with
  | ok r s1 => rw [e] at h; exact fun J H1 μ1 ev R1 w => hk r s1 J H1 μ1 ev (hE.mono ev) R1 w (PostE.evo ev h)
  | er x s1 => rw [e] at h; exact h
  | no => rw [e] at h; exact h.elim
/-- the walk of a comprehension -/
theorem comp_ok {H1 : Hp} {μ1 : Mu} {Z : Zs} {σ : L2.St} {ρ : Env} {s1 s2 : Sto} {g : TG} {fg : FG} {tt : FT} {elt : FE} {vs : List Nat} {ow : Option (Nat × List Dv)} {ws tot : List Dv} {J : It} {Qd : Hp → Prop} {D : Addr} (hg : GWk Γ g fg vs) (hE : RE Γ H1 μ1 Z ρ σ) (hR : Rep Γ H1 μ1 Z s1) (hw : Walks Γ Z H1 μ1 ow J ws) (hD : H1 D = none)
    (q : compL ow vs fg tt elt ρ ws s1 = some (tot, s2)) (hl : tot.length ≤ lim)
    (fin : ∀ H μ acc, Evo H1 μ1 H μ → Rep Γ H μ (hid D Z) s2 → H D = some (.lst acc) → RVs Γ H μ (hid D Z) tot acc → Qd H) :
    ∃ Wn : Nat → Nat → Hp → Prop, (∃ m, Wn 0 m (upd H1 D (.lst []))) ∧ ∀ i m H, Wn i m H → (J.stop i H ∧ Qd H) ∨ (J.go i H ∧ ∃ Nx : Hp → Prop, (∀ H', Nx H' → ∃ m', m' < m ∧ Wn (i + 1) m' H') ∧
      ∀ x H', J.yld i H x H' → g x (L2.wipe σ vs) H' fun σ2 H2 => L2.wipe σ2 vs = L2.wipe σ vs ∧ rdT Γ W0 tt σ2 H2 fun b H3 =>
        if b = true then rdE Γ W0 elt σ2 H3 fun y H4 => ∃ acc, H4 D = some (.lst acc) ∧ acc.length < sizeLine ∧ Nx (upd H4 D (.lst (acc ++ [y]))) else Nx H3) := by
  let P : Nat → Hp → Prop := fun i H => ∃ μ s wa acc r, Evo H1 μ1 H μ ∧ Rep Γ H μ (hid D Z) s ∧ H D = some (.lst acc) ∧ RVs Γ H μ (hid D Z) wa acc ∧ compL ow vs fg tt elt ρ (ws.drop i) s = some (r, s2) ∧ wa ++ r = tot
  refine ⟨fun i m H => m = ws.length - i ∧ i ≤ ws.length ∧ P i H, ⟨ws.length, by omega, Nat.zero_le _, μ1, s1, [], [], tot, Evo.laid hD, hR.hide hD, upd_same, rfl, q, rfl⟩, ?_⟩
  rintro i m H ⟨rfl, hi, μ, s, wa, acc, r, ev, R, hH, ra, qr, ht⟩
  have hz : ∀ a, hid D Z a → Z a ∨ H1 a = none := fun a z => z.elim (fun e => .inr (e ▸ hD)) .inl
  have E : RE Γ H μ (hid D Z) ρ σ := ⟨hE.1, fun j w e => by
    obtain ⟨v, g1, g2⟩ := hE.2 j w e
    exact ⟨v, g1, (RV.strong hz w g2).mono ev⟩⟩
  by_cases hlt : i < ws.length
  · have hd : ws.drop i = ws[i] :: ws.drop (i + 1) := List.drop_eq_getElem_cons hlt
    rw [hd] at qr
    simp only [compL] at qr
    split at qr
    · rename_i hst
      obtain ⟨_, hgo⟩ := hw H μ (hid D Z) s ev.z R (fun a z => .inr z) hz (st_of hst)
      obtain ⟨h1, h2⟩ := hgo i ws[i] (List.getElem?_eq_getElem hlt)
      refine .inr ⟨h1, P (i + 1), fun H' p => ⟨_, by omega, rfl, hlt, p⟩, fun x H' hy => ?_⟩
      obtain ⟨e2, R2, r2⟩ := h2 x H' hy
      cases eg : fg ws[i] (wipeD ρ vs) s with
      | none => rw [eg] at qr; cases qr
      | some ρ2 =>
        rw [eg] at qr
        dsimp only at qr
        refine hg H' μ (hid D Z) (wipeD ρ vs) ρ2 s (L2.wipe σ vs) ws[i] x _ ((E.mono e2).wipe vs) R2 r2 eg fun σ2 E2 hwp => ⟨hwp.trans (wipe_wipe σ vs), μ, hid D Z, ρ2, s, E2, R2, ?_⟩
        cases et : tt ρ2 s with
        | no => rw [et] at qr; cases qr
        | er x3 s3 => rw [et] at qr; cases qr
        | ok b s3 =>
          rw [et] at qr
          intro H3 μ3 e3 R3
          have hH3 : H3 D = some (.lst acc) := e3.keep _ _ (e2.keep _ _ hH fun n hn => R.notZ hn (.inl rfl)) fun n hn => R2.notZ hn (.inl rfl)
          have ra3 : RVs Γ H3 μ3 (hid D Z) wa acc := (ra.mono e2).mono e3
          cases b with
          | false =>
            rw [if_neg Bool.false_ne_true]
            exact ⟨μ3, s3, wa, acc, r, (ev.trans e2).trans e3, R3, hH3, ra3, qr, ht⟩
          | true =>
            rw [if_pos rfl]
            dsimp only at qr
            refine ⟨μ3, hid D Z, ρ2, s3, E2.mono e3, R3, ?_⟩
            cases ee : elt ρ2 s3 with
            | no => rw [ee] at qr; cases qr
            | er x4 s4 => rw [ee] at qr; cases qr
            | ok y s4 =>
              rw [ee] at qr
              dsimp only at qr
              intro v H4 μ4 e4 R4 r4
              cases ec : compL ow vs fg tt elt ρ (ws.drop (i + 1)) s4 with
              | none => rw [ec] at qr; cases qr
              | some rr =>
                rw [ec] at qr
                obtain ⟨r', s''⟩ := rr
                cases qr
                have hH4 : H4 D = some (.lst acc) := e4.keep _ _ hH3 fun n hn => R3.notZ hn (.inl rfl)
                have hlen : acc.length < sizeLine := by
                  have := ra.len
                  rw [← ht, List.length_append] at hl
                  exact lim_lt (by omega)
                refine ⟨acc, hH4, hlen, μ4, s4, wa ++ [y], acc ++ [v], r', (((ev.trans e2).trans e3).trans e4).hid hD, R4.updZ, upd_same, RVs.append (RVs.updZ wa (ra3.mono e4)) (RVs.cons (RV.updZ y r4) rfl), ec, ?_⟩
                rw [← ht]
                simp
    · cases qr
  · have he : i = ws.length := by omega
    subst he
    rw [List.drop_length] at qr
    simp only [compL] at qr
    split at qr
    · rename_i hst
      cases qr
      obtain ⟨hs, _⟩ := hw H μ (hid D Z) _ ev.z R (fun a z => .inr z) hz (st_of hst)
      rw [List.append_nil] at ht
      subst ht
      exact .inl ⟨hs, fin H μ acc ev R hH ra⟩
    · cases qr
theorem PTs.imp {ifs : List Expr} {t t' : TT} (h : PTs X ifs t) (k : ∀ σ H Q, t' σ H Q → t σ H Q) : PTs X ifs t' := ⟨fun pins s σ H Q I q => h.run pins s σ H Q I (k σ H Q q)⟩
def MTs (X : Cx) (Γ : Ct) (ifs : List Expr) (t : FT) : Prop := PTs X ifs (rdT Γ W0 t)
theorem mts_nil : MTs X Γ [] mYes := PTs.imp pts_nil fun σ H Q ⟨μ, Z, ρ, s, hE, hR, q⟩ => q H μ .refl hR
theorem mts_one {c : Expr} {t : FT} (h : MT X Γ W0 c t) : MTs X Γ [c] t := pts_one h
theorem fin_lst {H1 H : Hp} {μ1 μ : Mu} {Z : Zs} {σ : L2.St} {s1 s2 : Sto} {tot : List Dv} {acc : List V} {D : Addr} {Q : VK} (hR1 : Rep Γ H1 μ1 Z s1) (hD : H1 D = none) (ev : Evo H1 μ1 H μ) (R : Rep Γ H μ (hid D Z) s2) (hH : H D = some (.lst acc)) (ra : RVs Γ H μ (hid D Z) tot acc)
    (q : PostE Γ W H1 μ1 Z σ Q (.ok (.lst tot) s2)) : Q (.ref D) H :=
  q _ H μ ev (R.weak fun a z => .inr z) ⟨D, acc, rfl, hH, ⟨fun n hn => R.notZ hn (.inl rfl), fun z => hR1.za D z hD⟩, RVs.weak (fun a z => .inr z) tot ra⟩
theorem me_comp {elt tg iter : Expr} {ifs : List Expr} {scope : Scope} {own : List (Str × Nat)} {pos : Pos} {f : FI} {g : TG} {fg : FG} {tt : FT} {fe : FE} (hc : X.calm = true) (hN : X.N.Nodup) (hi : MI X Γ W tg iter f) (ok : BlkOk X.N X.env.scope scope own)
    (hg : ∀ (s : Shared) (H : Hp) (C : Addr) (cl : List (Str × Addr)) (fp : List Addr), PG (X.blk s H scope (compEnvC scope cl C X.env) fp) tg g) (hw : GWk Γ g fg (own.map (·.2)))
    (ht : ∀ (s : Shared) (H : Hp) (C : Addr) (cl : List (Str × Addr)) (fp : List Addr), MTs (X.blk s H scope (compEnvC scope cl C X.env) fp) Γ ifs tt)
    (he : ∀ (s : Shared) (H : Hp) (C : Addr) (cl : List (Str × Addr)) (fp : List Addr), ME (X.blk s H scope (compEnvC scope cl C X.env) fp) Γ W0 elt fe) (hs : ∀ x, foldedSetIterable iter X.env x = pure x := by intro _; rfl) :
    ME X Γ W (.ListComp elt [⟨tg, iter, ifs, 0⟩] scope pos) (mComp f (own.map (·.2)) fg tt fe) :=
  PE.imp (pe_lc hc hN hi ok hg ht he hs) fun σ H Q ⟨μ, Z, ρ, s, hE, hR, q⟩ => iE hE hR q fun r s1 J H1 μ1 e1 E1 R1 w1 q1 D hD => by
    cases e : compL r.ow (own.map (·.2)) fg tt fe ρ r.ws s1 with
    | none => rw [e] at q1; exact q1.elim
    | some p =>
      obtain ⟨tot, s2⟩ := p
      rw [e] at q1
      dsimp only at q1
      split at q1
      · rename_i hl
        exact comp_ok hw E1 R1 w1 hD e hl fun H2 μ2 acc ev R2 hH ra => fin_lst R1 hD ev R2 hH ra q1
      · exact q1.elim
theorem asg_post {H : Hp} {μ : Mu} {Z : Zs} {σ : L2.St} {ρ : Env} {s : Sto} {f : FE} {i : Nat} {D : Ends} (hE : RE Γ H μ Z ρ σ) (q : PostS Γ W H μ Z D (mAsg f (gN i) ρ s)) : PostE Γ W H μ Z σ (fun x H1 => D.nx (σ.set i (some x)) H1) (f ρ s) := by
  unfold mAsg at q
  cases e : f ρ s with
  | ok w s1 => rw [e] at q; exact fun v H1 μ1 ev R1 r1 => q _ H1 μ1 ev R1 ((hE.mono ev).set i r1)
  | er x s1 => rw [e] at q; exact fun c d H1 μ1 ev R1 r1 => q c d σ H1 μ1 ev R1 (hE.mono ev) r1
  | no => rw [e] at q; exact q
/-- name = [..] on one line -/
theorem ms_setComp {i : Nat} {y : Str} {py : Pos} {elt tg iter : Expr} {ifs : List Expr} {scope : Scope} {own : List (Str × Nat)} {pos spos : Pos} {f : FI} {g : TG} {fg : FG} {tt : FT} {fe : FE} (hc : X.calm = true) (hN : X.N.Nodup) (hy : X.N[i]? = some y) (hyl : X.env.scope.names.lookup y = some .local)
    (hsw : swapsWith (.ListComp elt [⟨tg, iter, ifs, 0⟩] scope pos) (some (.Name y py)) spos.line X.env = pure true) (hi : MI X Γ W tg iter f) (ok : BlkOk X.N X.env.scope scope own)
    (hg : ∀ (s : Shared) (H : Hp) (C : Addr) (cl : List (Str × Addr)) (fp : List Addr), PG (X.blk s H scope (compEnvC scope cl C X.env) fp) tg g) (hw : GWk Γ g fg (own.map (·.2)))
    (ht : ∀ (s : Shared) (H : Hp) (C : Addr) (cl : List (Str × Addr)) (fp : List Addr), MTs (X.blk s H scope (compEnvC scope cl C X.env) fp) Γ ifs tt)
    (he : ∀ (s : Shared) (H : Hp) (C : Addr) (cl : List (Str × Addr)) (fp : List Addr), ME (X.blk s H scope (compEnvC scope cl C X.env) fp) Γ W0 elt fe) (hs : ∀ x, foldedSetIterable iter X.env x = pure x := by intro _; rfl) :
    MS X Γ W (.Assign [.Name y py] (.ListComp elt [⟨tg, iter, ifs, 0⟩] scope pos) spos) (mAsg (mComp f (own.map (·.2)) fg tt fe) (gN i)) :=
  PS.imp (ps_setLc hc hN hy hyl hsw hi ok hg ht he hs) fun D σ H h => by
    obtain ⟨μ, Z, ρ, s, hE, hR, q⟩ := h
    replace q := asg_post hE q
    exact iE hE hR q fun r s1 J H1 μ1 e1 E1 R1 w1 q1 D hD => by
      cases e : compL r.ow (own.map (·.2)) fg tt fe ρ r.ws s1 with
      | none => rw [e] at q1; exact q1.elim
      | some p =>
        obtain ⟨tot, s2⟩ := p
        rw [e] at q1
        dsimp only at q1
        split at q1
        · rename_i hl
          exact comp_ok hw E1 R1 w1 hD e hl fun H2 μ2 acc ev R2 hH ra => fin_lst R1 hD ev R2 hH ra q1
        · exact q1.elim
end
section
variable {X : Cx} {Γ : Ct} {W : WX}
noncomputable def compL2 (ow : Option (Nat × List Dv)) (vs : List Nat) (g : FG) (tt : FT) (f1 : FI) (vs1 : List Nat) (g1 : FG) (tt1 : FT) (elt : FE) (ρ : Env) : List Dv → Sto → Option (List Dv × Sto)
  | [], s => if ow.isNone = true ∨ stB s ow = true then some ([], s) else none
  | w :: ws, s => if ow.isNone = true ∨ stB s ow = true then match g w (wipeD ρ vs) s with
    | none => none
    | some ρ1 => match tt ρ1 s with
      | .ok true s2 => match f1 ρ1 s2 with
        | .ok r s3 => match compL r.ow vs1 g1 tt1 elt ρ1 r.ws s3 with
          | some (ys, s4) => (compL2 ow vs g tt f1 vs1 g1 tt1 elt ρ ws s4).map fun r => (ys ++ r.1, r.2)
          | none => none
        | _ => none
      | .ok false s2 => compL2 ow vs g tt f1 vs1 g1 tt1 elt ρ ws s2
      | _ => none
    else none
noncomputable def mComp2 (f : FI) (vs : List Nat) (g : FG) (tt : FT) (f1 : FI) (vs1 : List Nat) (g1 : FG) (tt1 : FT) (elt : FE) : FE := fun ρ s => (f ρ s).bind fun r s1 => match compL2 r.ow vs g tt f1 vs1 g1 tt1 elt ρ r.ws s1 with
  | some (ws, s2) => if ws.length ≤ lim then .ok (.lst ws) s2 else .no
  | none => .no
theorem compin_ok {H1 : Hp} {μ1 : Mu} {Z : Zs} {σ : L2.St} {ρ : Env} {s1 s2 : Sto} {g : TG} {fg : FG} {tt : FT} {elt : FE} {vs : List Nat} {ow : Option (Nat × List Dv)} {ws r0 wa0 : List Dv} {acc0 : List V} {J : It} {Nx : Hp → Prop} {D : Addr} (hg : GWk Γ g fg vs) (hE : RE Γ H1 μ1 (hid D Z) ρ σ) (hR : Rep Γ H1 μ1 (hid D Z) s1) (hw : Walks Γ (hid D Z) H1 μ1 ow J ws)
    (hH : H1 D = some (.lst acc0)) (ra0 : RVs Γ H1 μ1 (hid D Z) wa0 acc0) (q : compL ow vs fg tt elt ρ ws s1 = some (r0, s2)) (hl : (wa0 ++ r0).length ≤ lim)
    (fin : ∀ H μ acc, EvoZ (fun a => a = D) H1 μ1 H μ → Rep Γ H μ (hid D Z) s2 → H D = some (.lst acc) → RVs Γ H μ (hid D Z) (wa0 ++ r0) acc → Nx H) :
    ∃ Wn : Nat → Nat → Hp → Prop, (∃ m, Wn 0 m H1) ∧ ∀ i m H, Wn i m H → (J.stop i H ∧ Nx H) ∨ (J.go i H ∧ ∃ Nx1 : Hp → Prop, (∀ H', Nx1 H' → ∃ m', m' < m ∧ Wn (i + 1) m' H') ∧
      ∀ x H', J.yld i H x H' → g x (L2.wipe σ vs) H' fun σ2 H2 => L2.wipe σ2 vs = L2.wipe σ vs ∧ rdT Γ W0 tt σ2 H2 fun b H3 =>
        if b = true then rdE Γ W0 elt σ2 H3 fun y H4 => ∃ acc, H4 D = some (.lst acc) ∧ acc.length < sizeLine ∧ Nx1 (upd H4 D (.lst (acc ++ [y]))) else Nx1 H3) := by
  have hdz : ∀ a, a = D → hid D Z a := fun a e => .inl e
  let P : Nat → Hp → Prop := fun i H => ∃ μ s wa acc r, EvoZ (fun a => a = D) H1 μ1 H μ ∧ Rep Γ H μ (hid D Z) s ∧ H D = some (.lst acc) ∧ RVs Γ H μ (hid D Z) wa acc ∧ compL ow vs fg tt elt ρ (ws.drop i) s = some (r, s2) ∧ wa ++ r = wa0 ++ r0
  refine ⟨fun i m H => m = ws.length - i ∧ i ≤ ws.length ∧ P i H, ⟨ws.length, by omega, Nat.zero_le _, μ1, s1, wa0, acc0, r0, Evo.refl.z, hR, hH, ra0, q, rfl⟩, ?_⟩
  rintro i m H ⟨rfl, hi, μ, s, wa, acc, r, ev, R, hH, ra, qr, ht⟩
  have evz := ev.more hdz
  have E : RE Γ H μ (hid D Z) ρ σ := ⟨hE.1, fun j w e => by
    obtain ⟨v, g1, g2⟩ := hE.2 j w e
    exact ⟨v, g1, g2.monoZ evz⟩⟩
  by_cases hlt : i < ws.length
  · have hd : ws.drop i = ws[i] :: ws.drop (i + 1) := List.drop_eq_getElem_cons hlt
    rw [hd] at qr
    simp only [compL] at qr
    split at qr
    · rename_i hst
      obtain ⟨_, hgo⟩ := hw H μ (hid D Z) s evz R (fun _ z => z) (fun _ z => .inl z) (st_of hst)
      obtain ⟨h1, h2⟩ := hgo i ws[i] (List.getElem?_eq_getElem hlt)
      refine .inr ⟨h1, P (i + 1), fun H' p => ⟨_, by omega, rfl, hlt, p⟩, fun x H' hy => ?_⟩
      obtain ⟨e2, R2, r2⟩ := h2 x H' hy
      cases eg : fg ws[i] (wipeD ρ vs) s with
      | none => rw [eg] at qr; cases qr
      | some ρ2 =>
        rw [eg] at qr
        dsimp only at qr
        refine hg H' μ (hid D Z) (wipeD ρ vs) ρ2 s (L2.wipe σ vs) ws[i] x _ ((E.mono e2).wipe vs) R2 r2 eg fun σ2 E2 hwp => ⟨hwp.trans (wipe_wipe σ vs), μ, hid D Z, ρ2, s, E2, R2, ?_⟩
        cases et : tt ρ2 s with
        | no => rw [et] at qr; cases qr
        | er x3 s3 => rw [et] at qr; cases qr
        | ok b s3 =>
          rw [et] at qr
          intro H3 μ3 e3 R3
          have hH3 : H3 D = some (.lst acc) := e3.keep _ _ (e2.keep _ _ hH fun n hn => R.notZ hn (.inl rfl)) fun n hn => R2.notZ hn (.inl rfl)
          have ra3 : RVs Γ H3 μ3 (hid D Z) wa acc := (ra.mono e2).mono e3
          have ev3 : EvoZ (fun a => a = D) H1 μ1 H3 μ3 := (ev.trans e2.z).trans e3.z
          cases b with
          | false =>
            rw [if_neg Bool.false_ne_true]
            exact ⟨μ3, s3, wa, acc, r, ev3, R3, hH3, ra3, qr, ht⟩
          | true =>
            rw [if_pos rfl]
            dsimp only at qr
            refine ⟨μ3, hid D Z, ρ2, s3, E2.mono e3, R3, ?_⟩
            cases ee : elt ρ2 s3 with
            | no => rw [ee] at qr; cases qr
            | er x4 s4 => rw [ee] at qr; cases qr
            | ok y s4 =>
              rw [ee] at qr
              dsimp only at qr
              intro v H4 μ4 e4 R4 r4
              cases ec : compL ow vs fg tt elt ρ (ws.drop (i + 1)) s4 with
              | none => rw [ec] at qr; cases qr
              | some rr =>
                rw [ec] at qr
                obtain ⟨r', s''⟩ := rr
                cases qr
                have hH4 : H4 D = some (.lst acc) := e4.keep _ _ hH3 fun n hn => R3.notZ hn (.inl rfl)
                have hlen : acc.length < sizeLine := by
                  have := ra.len
                  rw [← ht, List.length_append] at hl
                  exact lim_lt (by simp at hl; omega)
                refine ⟨acc, hH4, hlen, μ4, s4, wa ++ [y], acc ++ [v], r', (ev3.trans e4.z).upd, R4.updZ, upd_same, RVs.append (RVs.updZ wa (ra3.mono e4)) (RVs.cons (RV.updZ y r4) rfl), ec, ?_⟩
                rw [← ht]
                simp
    · cases qr
  · have he : i = ws.length := by omega
    subst he
    rw [List.drop_length] at qr
    simp only [compL] at qr
    split at qr
    · rename_i hst
      cases qr
      obtain ⟨hs, _⟩ := hw H μ (hid D Z) _ evz R (fun _ z => z) (fun _ z => .inl z) (st_of hst)
      rw [List.append_nil] at ht
      subst ht
      exact .inl ⟨hs, fin H μ acc ev R hH ra⟩
    · cases qr
theorem comp2_ok {H1 : Hp} {μ1 : Mu} {Z : Zs} {σ : L2.St} {ρ : Env} {s1 s2 : Sto} {g g1 : TG} {fg fg1 : FG} {tt tt1 : FT} {f1 : FI} {elt : FE} {vs vs1 : List Nat} {ow : Option (Nat × List Dv)} {ws tot : List Dv} {J : It} {Qd : Hp → Prop} {D : Addr} (hg : GWk Γ g fg vs) (hg1 : GWk Γ g1 fg1 vs1) (hE : RE Γ H1 μ1 Z ρ σ) (hR : Rep Γ H1 μ1 Z s1) (hw : Walks Γ Z H1 μ1 ow J ws) (hD : H1 D = none)
    (q : compL2 ow vs fg tt f1 vs1 fg1 tt1 elt ρ ws s1 = some (tot, s2)) (hl : tot.length ≤ lim)
    (fin : ∀ H μ acc, Evo H1 μ1 H μ → Rep Γ H μ (hid D Z) s2 → H D = some (.lst acc) → RVs Γ H μ (hid D Z) tot acc → Qd H) :
    ∃ Wn : Nat → Nat → Hp → Prop, (∃ m, Wn 0 m (upd H1 D (.lst []))) ∧ ∀ i m H, Wn i m H → (J.stop i H ∧ Qd H) ∨ (J.go i H ∧ ∃ Nx : Hp → Prop, (∀ H', Nx H' → ∃ m', m' < m ∧ Wn (i + 1) m' H') ∧
      ∀ x H', J.yld i H x H' → g x (L2.wipe σ vs) H' fun σ2 H2 => L2.wipe σ2 vs = L2.wipe σ vs ∧ rdT Γ W0 tt σ2 H2 fun b H3 =>
        if b = true then rdI Γ W0 f1 σ2 H3 fun J1 H4 => ∃ W1 : Nat → Nat → Hp → Prop, (∃ m, W1 0 m H4) ∧ ∀ j k H, W1 j k H →
          (J1.stop j H ∧ Nx H) ∨ (J1.go j H ∧ ∃ Nx1 : Hp → Prop, (∀ H', Nx1 H' → ∃ k', k' < k ∧ W1 (j + 1) k' H') ∧ ∀ x H', J1.yld j H x H' → g1 x (L2.wipe σ2 vs1) H' fun σ3 H5 => L2.wipe σ3 vs1 = L2.wipe σ2 vs1 ∧ rdT Γ W0 tt1 σ3 H5 fun b H6 =>
            if b = true then rdE Γ W0 elt σ3 H6 fun y H7 => ∃ acc, H7 D = some (.lst acc) ∧ acc.length < sizeLine ∧ Nx1 (upd H7 D (.lst (acc ++ [y]))) else Nx1 H6)
        else Nx H3) := by
  let P : Nat → Hp → Prop := fun i H => ∃ μ s wa acc r, Evo H1 μ1 H μ ∧ Rep Γ H μ (hid D Z) s ∧ H D = some (.lst acc) ∧ RVs Γ H μ (hid D Z) wa acc ∧ compL2 ow vs fg tt f1 vs1 fg1 tt1 elt ρ (ws.drop i) s = some (r, s2) ∧ wa ++ r = tot
  refine ⟨fun i m H => m = ws.length - i ∧ i ≤ ws.length ∧ P i H, ⟨ws.length, by omega, Nat.zero_le _, μ1, s1, [], [], tot, Evo.laid hD, hR.hide hD, upd_same, rfl, q, rfl⟩, ?_⟩
  rintro i m H ⟨rfl, hi, μ, s, wa, acc, r, ev, R, hH, ra, qr, ht⟩
  have hz : ∀ a, hid D Z a → Z a ∨ H1 a = none := fun a z => z.elim (fun e => .inr (e ▸ hD)) .inl
  have E : RE Γ H μ (hid D Z) ρ σ := ⟨hE.1, fun j w e => by
    obtain ⟨v, g1, g2⟩ := hE.2 j w e
    exact ⟨v, g1, (RV.strong hz w g2).mono ev⟩⟩
  by_cases hlt : i < ws.length
  · have hd : ws.drop i = ws[i] :: ws.drop (i + 1) := List.drop_eq_getElem_cons hlt
    rw [hd] at qr
    simp only [compL2] at qr
    split at qr
    · rename_i hst
      obtain ⟨_, hgo⟩ := hw H μ (hid D Z) s ev.z R (fun a z => .inr z) hz (st_of hst)
      obtain ⟨h1, h2⟩ := hgo i ws[i] (List.getElem?_eq_getElem hlt)
      refine .inr ⟨h1, P (i + 1), fun H' p => ⟨_, by omega, rfl, hlt, p⟩, fun x H' hy => ?_⟩
      obtain ⟨e2, R2, r2⟩ := h2 x H' hy
      cases eg : fg ws[i] (wipeD ρ vs) s with
      | none => rw [eg] at qr; cases qr
      | some ρ2 =>
        rw [eg] at qr
        dsimp only at qr
        refine hg H' μ (hid D Z) (wipeD ρ vs) ρ2 s (L2.wipe σ vs) ws[i] x _ ((E.mono e2).wipe vs) R2 r2 eg fun σ2 E2 hwp => ⟨hwp.trans (wipe_wipe σ vs), μ, hid D Z, ρ2, s, E2, R2, ?_⟩
        cases et : tt ρ2 s with
        | no => rw [et] at qr; cases qr
        | er x3 s3 => rw [et] at qr; cases qr
        | ok b s3 =>
          rw [et] at qr
          intro H3 μ3 e3 R3
          have hH3 : H3 D = some (.lst acc) := e3.keep _ _ (e2.keep _ _ hH fun n hn => R.notZ hn (.inl rfl)) fun n hn => R2.notZ hn (.inl rfl)
          have ra3 : RVs Γ H3 μ3 (hid D Z) wa acc := (ra.mono e2).mono e3
          cases b with
          | false =>
            rw [if_neg Bool.false_ne_true]
            exact ⟨μ3, s3, wa, acc, r, (ev.trans e2).trans e3, R3, hH3, ra3, qr, ht⟩
          | true =>
            rw [if_pos rfl]
            dsimp only at qr
            refine ⟨μ3, hid D Z, ρ2, s3, E2.mono e3, R3, ?_⟩
            cases ef : f1 ρ2 s3 with
            | no => rw [ef] at qr; cases qr
            | er x4 s4 => rw [ef] at qr; cases qr
            | ok src s4 =>
              rw [ef] at qr
              dsimp only at qr
              intro J1 H4 μ4 e4 R4 w4
              cases ec : compL src.ow vs1 fg1 tt1 elt ρ2 src.ws s4 with
              | none => rw [ec] at qr; cases qr
              | some rr =>
                rw [ec] at qr
                obtain ⟨ys, s5⟩ := rr
                dsimp only at qr
                cases ed : compL2 ow vs fg tt f1 vs1 fg1 tt1 elt ρ (ws.drop (i + 1)) s5 with
                | none => rw [ed] at qr; cases qr
                | some rr =>
                  rw [ed] at qr
                  obtain ⟨r', s''⟩ := rr
                  cases qr
                  have hH4 : H4 D = some (.lst acc) := e4.keep _ _ hH3 fun n hn => R3.notZ hn (.inl rfl)
                  have hlen : (wa ++ ys).length ≤ lim := by
                    rw [← ht] at hl
                    simp at hl ⊢
                    omega
                  exact compin_ok hg1 ((E2.mono e3).mono e4) R4 w4 hH4 (ra3.mono e4) ec hlen fun H5 μ5 acc5 e5 R5 hH5 ra5 => ⟨μ5, s5, wa ++ ys, acc5, r', (((ev.trans e2).trans e3).trans e4).thenZ hD e5, R5, hH5, ra5, ed, by rw [← ht, List.append_assoc]⟩
    · cases qr
  · have he : i = ws.length := by omega
    subst he
    rw [List.drop_length] at qr
    simp only [compL2] at qr
    split at qr
    · rename_i hst
      cases qr
      obtain ⟨hs, _⟩ := hw H μ (hid D Z) _ ev.z R (fun a z => .inr z) hz (st_of hst)
      rw [List.append_nil] at ht
      subst ht
      exact .inl ⟨hs, fin H μ acc ev R hH ra⟩
    · cases qr
theorem ms_setComp2 {i : Nat} {y : Str} {py : Pos} {elt tg iter tg1 iter1 : Expr} {ifs ifs1 : List Expr} {scope : Scope} {own : List (Str × Nat)} {vs1 : List Nat} {pos spos : Pos} {f f1 : FI} {g g1 : TG} {fg fg1 : FG} {tt tt1 : FT} {fe : FE} (hc : X.calm = true) (hN : X.N.Nodup) (hy : X.N[i]? = some y) (hyl : X.env.scope.names.lookup y = some .local)
    (hsw : swapsWith (.ListComp elt [⟨tg, iter, ifs, 0⟩, ⟨tg1, iter1, ifs1, 0⟩] scope pos) (some (.Name y py)) spos.line X.env = pure true) (hi : MI X Γ W tg iter f) (ok : BlkOk X.N X.env.scope scope own) (hv : ∀ i ∈ vs1, i ∈ own.map (·.2))
    (hg : ∀ (s : Shared) (H : Hp) (C : Addr) (cl : List (Str × Addr)) (fp : List Addr), PG (X.blk s H scope (compEnvC scope cl C X.env) fp) tg g) (hw : GWk Γ g fg (own.map (·.2)))
    (ht : ∀ (s : Shared) (H : Hp) (C : Addr) (cl : List (Str × Addr)) (fp : List Addr), MTs (X.blk s H scope (compEnvC scope cl C X.env) fp) Γ ifs tt)
    (hi1 : ∀ (s : Shared) (H : Hp) (C : Addr) (cl : List (Str × Addr)) (fp : List Addr), MI (X.blk s H scope (compEnvC scope cl C X.env) fp) Γ W0 tg1 iter1 f1)
    (hg1 : ∀ (s : Shared) (H : Hp) (C : Addr) (cl : List (Str × Addr)) (fp : List Addr), PG (X.blk s H scope (compEnvC scope cl C X.env) fp) tg1 g1) (hw1 : GWk Γ g1 fg1 vs1)
    (ht1 : ∀ (s : Shared) (H : Hp) (C : Addr) (cl : List (Str × Addr)) (fp : List Addr), MTs (X.blk s H scope (compEnvC scope cl C X.env) fp) Γ ifs1 tt1)
    (he : ∀ (s : Shared) (H : Hp) (C : Addr) (cl : List (Str × Addr)) (fp : List Addr), ME (X.blk s H scope (compEnvC scope cl C X.env) fp) Γ W0 elt fe) (hs : ∀ x, foldedSetIterable iter X.env x = pure x := by intro _; rfl) (hs1 : ∀ env x, foldedSetIterable iter1 env x = pure x := by intro _ _; rfl) :
    MS X Γ W (.Assign [.Name y py] (.ListComp elt [⟨tg, iter, ifs, 0⟩, ⟨tg1, iter1, ifs1, 0⟩] scope pos) spos) (mAsg (mComp2 f (own.map (·.2)) fg tt f1 vs1 fg1 tt1 fe) (gN i)) :=
  PS.imp (ps_setLc2 hc hN hy hyl hsw hi ok hv hg ht hi1 hg1 ht1 he hs hs1) fun D σ H h => by
    obtain ⟨μ, Z, ρ, s, hE, hR, q⟩ := h
    replace q := asg_post hE q
    exact iE hE hR q fun r s1 J H1 μ1 e1 E1 R1 w1 q1 D hD => by
      cases e : compL2 r.ow (own.map (·.2)) fg tt f1 vs1 fg1 tt1 fe ρ r.ws s1 with
      | none => rw [e] at q1; exact q1.elim
      | some p =>
        obtain ⟨tot, s2⟩ := p
        rw [e] at q1
        dsimp only at q1
        split at q1
        · rename_i hl
          exact comp2_ok hw hw1 E1 R1 w1 hD e hl fun H2 μ2 acc ev R2 hH ra => fin_lst R1 hD ev R2 hH ra q1
        · exact q1.elim
end
mutual
def clean (n : Nat) : Dv → Bool
  | .ref k => decide (k < n)
  | .tup ws => cleans n ws
  | .lst ws => cleans n ws
  | .sq ws => cleans n ws
  | .dct _ ws => cleans n ws
  | .dtt kd ws => cleans n kd && cleans n ws
  | .exc _ _ w => clean n w
  | .clo _ _ _ ws _ => cleans n ws
  | _ => true
def cleans (n : Nat) : List Dv → Bool
  | [] => true
  | w :: ws => clean n w && cleans n ws
end
def Ob.clean (n : Nat) : Ob → Bool
  | .lst ws => cleans n ws
  | .dct kws => cleans n (kws.map (·.2))
  | .dtt _ kws => cleans n (kws.map (·.1)) && cleans n (kws.map (·.2))
  | .obj _ fs => cleans n (fs.map (·.2))
  | .tab _ _ => true
def mapO {α β : Type} (f : α → Option β) : List α → Option (List β)
  | [] => some []
  | a :: r => match f a, mapO f r with
    | some b, some bs => some (b :: bs)
    | _, _ => none
/-- lists of the callee's own are handed out as they stand -/
def fz : Nat → Sto → Nat → Dv → Option Dv
  | 0, _, n, w => if clean n w = true then some w else none
  | f + 1, s, n, w => if clean n w = true then some w else match w with
    | .tup ws => (mapO (fz f s n) ws).map .tup
    | .lst ws => (mapO (fz f s n) ws).map .lst
    | .ref k => match s[k]? with
      | some (.lst ws) => (mapO (fz f s n) ws).map .lst
      | some (.dtt true kws) => if cleans n (kws.map (·.1)) = true then (mapO (fz f s n) (kws.map (·.2))).map (.dtt (kws.map (·.1))) else none
      | _ => none
    | _ => none
/-- a def's end: what it made and nobody holds is forgotten -/
def finW (n : Nat) (w : Dv) (s : Sto) : R Dv :=
  if s.length ≤ n then .ok w s else if (s.take n).all (Ob.clean n) = true then match fz 4 s n w with
    | some w' => .ok w' (s.take n)
    | none => .ok w s
  else .ok w s
def finX (n : Nat) (x : Ex) (s : Sto) : R Dv :=
  if s.length ≤ n then .er x s else if (s.take n).all (Ob.clean n) = true then match fz 4 s n x.w with
    | some w' => .er { x with w := w' } (s.take n)
    | none => .er x s
  else .er x s
def finC (n : Nat) : C → R Dv
  | .nx _ s => finW n .non s
  | .rt w s => finW n w s
  | .er x _ s => finX n x s
  | _ => .no
def res (n : Nat) (μ : Mu) : Mu := fun m => if m < n then μ m else none
section
variable {Γ : Ct} {H : Hp} {μ : Mu} {Z : Zs} {s : Sto} {n : Nat}
theorem res_some {m : Nat} {a : Addr} (h : res n μ m = some a) : m < n ∧ μ m = some a := by
  unfold res at h
  split at h
  · exact ⟨by assumption, h⟩
  · cases h
theorem res_lt {m : Nat} {a : Addr} (h : m < n) (q : μ m = some a) : res n μ m = some a := by
  unfold res
  rw [if_pos h, q]
theorem Fz.res {a : Addr} (f : Fz μ Z a) : Fz (res n μ) Z a := ⟨fun m h => f.1 m (res_some h).2, f.2⟩
mutual
theorem RV.res : ∀ (w : Dv) {v : V}, clean n w = true → RV Γ H μ Z w v → RV Γ H (MP.res n μ) Z w v
  | .non, _, _, q => q
  | .bl _, _, _, q => q
  | .int _, _, _, q => q
  | .str _, _, _, q => q
  | .ty _, _, _, q => q
  | .cl _, _, _, q => q
  | .ref k, _, c, q => by
    obtain ⟨a, h1, h2⟩ := q
    exact ⟨a, h1, res_lt (of_decide_eq_true c) h2⟩
  | .tup ws, _, c, q => by
    obtain ⟨a, xs, h1, h2, h3⟩ := q
    exact ⟨a, xs, h1, h2.elim (fun z => .inl ⟨z.1, z.2.res⟩) .inr, RVs.res ws c h3⟩
  | .sq ws, _, c, q => by
    obtain ⟨a, xs, h1, h2, h3⟩ := q
    exact ⟨a, xs, h1, h2.elim (fun z => .inl ⟨z.1, z.2.res⟩) .inr, RVs.res ws c h3⟩
  | .lst ws, _, c, q => by
    obtain ⟨a, xs, h1, h2, h3, h4⟩ := q
    exact ⟨a, xs, h1, h2, h3.res, RVs.res ws c h4⟩
  | .dct ks ws, _, c, q => by
    obtain ⟨a, kvs, h1, h2, h3, h4, h5⟩ := q
    exact ⟨a, kvs, h1, h2, h3.res, h4, RVs.res ws c h5⟩
  | .dtt kd ws, _, c, q => by
    obtain ⟨a, kvs, h1, h2, h3, h4, h5, h6⟩ := q
    have c' : cleans n kd = true ∧ cleans n ws = true := Bool.and_eq_true_iff.mp c
    exact ⟨a, kvs, h1, h2, h3.res, h4, RVs.res kd c'.1 h5, RVs.res ws c'.2 h6⟩
  | .exc cc f w, _, c, q => by
    obtain ⟨a, dx, x, h1, h2, h3, h4, h5, h6⟩ := q
    exact ⟨a, dx, x, h1, h2, h3.res, h4, h5.res, RV.res w c h6⟩
  | .exn cc, _, c, q => by
    obtain ⟨a, h1, h2, h3⟩ := q
    exact ⟨a, h1, h2, h3.res⟩
  | .clo a b _ ws vs, _, c, q => by
    obtain ⟨h1, h2, h3, h4⟩ := q
    exact ⟨h1, h2, h3.res, RVs.res ws c h4⟩
theorem RVs.res : ∀ (ws : List Dv) {vs : List V}, cleans n ws = true → RVs Γ H μ Z ws vs → RVs Γ H (MP.res n μ) Z ws vs
  | [], _, _, q => q
  | w :: ws, _, c, q => by
    obtain ⟨x, xs, h1, h2, h3⟩ := q
    have c' : clean n w = true ∧ cleans n ws = true := Bool.and_eq_true_iff.mp c
    exact ⟨x, xs, h1, RV.res w c'.1 h2, RVs.res ws c'.2 h3⟩
end
theorem mapO_ok {f : Dv → Option Dv} (hf : ∀ w w' v, f w = some w' → RV Γ H μ Z w v → RV Γ H (res n μ) Z w' v) : ∀ (ws ws' : List Dv) (vs : List V), mapO f ws = some ws' → RVs Γ H μ Z ws vs → RVs Γ H (res n μ) Z ws' vs
  | [], _, _, e, q => by cases e; exact q
  | w :: ws, _, _, e, q => by
    obtain ⟨x, xs, rfl, h2, h3⟩ := q
    simp only [mapO] at e
    split at e
    · rename_i b bs e1 e2
      cases e
      exact RVs.cons (hf _ _ _ e1 h2) (mapO_ok hf ws bs xs e2 h3)
    · cases e
theorem fz_ok (hR : Rep Γ H μ Z s) : ∀ (f : Nat) (w w' : Dv) (v : V), fz f s n w = some w' → RV Γ H μ Z w v → RV Γ H (res n μ) Z w' v := fun f => by
  induction f with
  | zero =>
    intro w w' v e q
    simp only [fz] at e
    split at e
    · cases e; exact q.res w (by assumption)
    · cases e
  | succ f ih =>
    intro w w' v e q
    simp only [fz] at e
    split at e
    · cases e; exact q.res w (by assumption)
    · rename_i hc
      split at e
      · rename_i ws
        cases em : mapO (fz f s n) ws with
        | none => rw [em] at e; cases e
        | some us =>
          rw [em] at e
          cases e
          obtain ⟨a, xs, h1, h2, h3⟩ := q
          exact ⟨a, xs, h1, h2.elim (fun z => .inl ⟨z.1, z.2.res⟩) .inr, mapO_ok (fun w w' v => ih w w' v) _ _ _ em h3⟩
      · rename_i ws
        cases em : mapO (fz f s n) ws with
        | none => rw [em] at e; cases e
        | some us =>
          rw [em] at e
          cases e
          obtain ⟨a, xs, h1, h2, h3, h4⟩ := q
          exact ⟨a, xs, h1, h2, h3.res, mapO_ok (fun w w' v => ih w w' v) _ _ _ em h4⟩
      · rename_i k
        split at e
        · rename_i ws es
          cases em : mapO (fz f s n) ws with
          | none => rw [em] at e; cases e
          | some us =>
            rw [em] at e
            cases e
            obtain ⟨a, h1, h2⟩ := q
            obtain ⟨b, g1, g2, xs, g3, g4⟩ := hR.at k _ es
            rw [h2] at g1
            cases g1
            refine ⟨a, xs, h1, g3, ⟨fun m hm => ?_, g2⟩, mapO_ok (fun w w' v => ih w w' v) _ _ _ em g4⟩
            obtain ⟨m1, m2⟩ := res_some hm
            have := hR.inj _ _ _ m2 h2
            subst this
            exact hc (decide_eq_true m1)
        · rename_i kws es
          split at e
          · rename_i hck
            cases em : mapO (fz f s n) (kws.map (·.2)) with
            | none => rw [em] at e; cases e
            | some us =>
              rw [em] at e
              cases e
              obtain ⟨a, h1, h2⟩ := q
              obtain ⟨b, g1, g2, kvs, g3, g4, g5, g6⟩ := hR.at k _ es
              rw [h2] at g1
              cases g1
              have r6 := mapO_ok (fun w w' v => ih w w' v) _ _ _ em g6
              refine ⟨a, kvs, h1, g3, ⟨fun m hm => ?_, g2⟩, ⟨g4.1, ?_⟩, RVs.res _ hck g5, r6⟩
              · obtain ⟨m1, m2⟩ := res_some hm
                have := hR.inj _ _ _ m2 h2
                subst this
                exact hc (decide_eq_true m1)
              · have l6 := r6.len
                rw [List.length_map] at l6
                exact l6.symm
          · cases e
        · cases e
      · cases e
theorem RO.res {a : Addr} {ob : Ob} (c : ob.clean n = true) (h : RO Γ H μ Z a ob) : RO Γ H (MP.res n μ) Z a ob := by
  cases ob with
  | lst ws =>
    obtain ⟨xs, h1, h2⟩ := h
    exact ⟨xs, h1, h2.res ws c⟩
  | dct kws =>
    obtain ⟨kvs, h1, h2, h3⟩ := h
    exact ⟨kvs, h1, h2, h3.res _ c⟩
  | dtt fr kws =>
    obtain ⟨kvs, h1, h2, h3, h4⟩ := h
    have c' : cleans n (kws.map (·.1)) = true ∧ cleans n (kws.map (·.2)) = true := Bool.and_eq_true_iff.mp c
    exact ⟨kvs, h1, h2, h3.res _ c'.1, h4.res _ c'.2⟩
  | obj c fs =>
    obtain ⟨dx, kvs, h1, h2, h3⟩ := h
    exact ⟨dx, kvs, h1, h2, h3.res _ c⟩
  | tab m q => exact ⟨h.1, tab_imp rfl (fun c e1 e2 => ⟨e1, e2.res⟩) h.2⟩
theorem Rep.res (hR : Rep Γ H μ Z s) (hn : n ≤ s.length) (c : (s.take n).all (Ob.clean n) = true) : Rep Γ H (MP.res n μ) Z (s.take n) := ⟨fun m ob q => by
  have hm : m < n := by
    have := (List.getElem?_eq_some_iff.mp q).1
    rw [List.length_take] at this
    omega
  have q' : s[m]? = some ob := by rw [List.getElem?_take_of_lt hm] at q; exact q
  obtain ⟨a, h1, h2, h3⟩ := hR.at m ob q'
  exact ⟨a, res_lt hm h1, h2, h3.res (List.all_eq_true.mp c ob (List.mem_of_getElem? q))⟩,
  fun m k a h1 h2 => hR.inj _ _ _ (res_some h1).2 (res_some h2).2, fun m a h => by rw [List.length_take]; have := (res_some h).1; omega, hR.za⟩
theorem Evo.res {H0 : Hp} {μ0 : Mu} (e : Evo H0 μ0 H μ) (hd : ∀ m a, μ0 m = some a → m < n) : Evo H0 μ0 H (MP.res n μ) :=
  ⟨e.keep, fun m a h => res_lt (hd m a h) (e.mu m a h), fun m a h => e.new m a (res_some h).2, e.stay⟩
end
/-- what a def promises -/
def spM (Γ : Ct) (ps : List Str) (den : Fn) : Sp := fun vs H Q E => vs.length = ps.length ∧ ∃ μ Z s ws, Rep Γ H μ Z s ∧ RVs Γ H μ Z ws vs ∧ PostE Γ (fun c d _ H => E c d H) H μ Z [] Q (den ws s)
structure FnG (P : Program) (w : World) (mg : Str → Option Value) (base : Heap) (Γ : Ct) (k : Nat) (f : Addr) (fd : FuncData) (ps : List Str) (den : Fn) : Prop where
  run : ∀ (A : Around) (outer : List PySem.Env) (s : Shared) (H : Hp) (args : Args) (us : List Value) (vs : List V) (Q : VK) (E : XK), Room k A → A.guards = some [] → Env0 P w Γ.K mg base A outer s H → BindsTo s fd args (ps.zip us) → Vals vs us → spM Γ ps den vs H Q E →
    codeAny (model P w) A (.call (.ref f) args) (CR (L2.CX P w) outer P w H s Q E) s
def startD (n : Nat) (ws : List Dv) : Env := ws.map some ++ List.replicate (n - ws.length) none
def denOf (n : Nat) (body : FS) : Fn := fun ws s => finC s.length (body (startD n ws) s)
theorem re_start {Γ : Ct} {H : Hp} {μ : Mu} {Z : Zs} {N : List Str} {ws : List Dv} {vs : List V} (r : RVs Γ H μ Z ws vs) : RE Γ H μ Z (startD N.length ws) (L2.start N vs) := by
  have hl := r.len
  refine ⟨?_, fun i w q => ?_⟩
  · unfold startD L2.start
    rw [List.length_append, List.length_append, List.length_map, List.length_map, List.length_replicate, List.length_replicate, hl]
  · unfold startD at q
    unfold L2.start
    by_cases hi : i < ws.length
    · rw [List.getElem?_append_left (by rw [List.length_map]; exact hi), List.getElem?_map] at q
      rw [List.getElem?_append_left (by rw [List.length_map, hl]; exact hi), List.getElem?_map]
      cases e : ws[i]? with
      | none => rw [e] at q; cases q
      | some u =>
        rw [e] at q
        cases q
        obtain ⟨x, h1, h2⟩ := r.get e
        exact ⟨x, by rw [h1]; rfl, h2⟩
    · rw [List.getElem?_append_right (by rw [List.length_map]; omega), List.getElem?_replicate] at q
      split at q <;> cases q
end MP
set_option Elab.async false
set_option linter.all false
set_option maxRecDepth 100000
set_option maxHeartbeats 4000000
namespace MP
open PySem PySem.Spec PyProof.Rows L2
/-- the end of a body is the end of its def -/
theorem body_end {Γ : Ct} {H : Hp} {μ : Mu} {Z : Zs} {s : Sto} {Q : VK} {E : XK} {c : C} (hR : Rep Γ H μ Z s) (q : PostE Γ (fun c d _ H => E c d H) H μ Z [] Q (finC s.length c)) :
    PostS Γ (fun c d _ H => E c d H) H μ Z { nx := fun _ H' => Q .non H', rt := Q } c := by
  have key : ∀ (w : Dv) (s' : Sto), PostE Γ (fun c d _ H => E c d H) H μ Z [] Q (finW s.length w s') → ∀ v H' μ', Evo H μ H' μ' → Rep Γ H' μ' Z s' → RV Γ H' μ' Z w v → Q v H' := fun w s' q v H' μ' ev R' r' => by
    unfold finW at q
    split at q
    · exact q v H' μ' ev R' r'
    · rename_i hl
      split at q
      · rename_i hc
        split at q
        · rename_i w' e
          exact q v H' _ (ev.res hR.dom) (R'.res (by omega) hc) (fz_ok R' 4 w w' v e r')
        · exact q v H' μ' ev R' r'
      · exact q v H' μ' ev R' r'
  cases c with
  | nx ρ' s' => exact fun σ' H' μ' ev R' _ => key .non s' q .non H' μ' ev R' rfl
  | rt w s' => exact fun v H' μ' ev R' r' => key w s' q v H' μ' ev R' r'
  | bk ρ' s' => exact q.elim
  | ct ρ' s' => exact q.elim
  | no => exact q.elim
  | er x ρ' s' =>
    intro c d σ' H' μ' ev R' _ rx
    unfold finC finX at q
    dsimp only at q
    split at q
    · exact q c d H' μ' ev R' rx
    · rename_i hl
      split at q
      · rename_i hc
        split at q
        · rename_i w' e
          obtain ⟨h1, dd, v, h2, h3, h4, h5⟩ := rx
          exact q c d H' _ (ev.res hR.dom) (R'.res (by omega) hc) ⟨h1, dd, v, h2, h3, h4.res, fz_ok R' 4 _ w' v e h5⟩
        · exact q c d H' μ' ev R' rx
      · exact q c d H' μ' ev R' rx
abbrev envF (qual : Str) (st : Stmt) (s : Shared) (f : Addr) (cdv : Value) : PySem.Env := envOfC qual (defScope st) s.heap.objs.size f cdv
abbrev cxF (Γ : Ct) (P : Program) (w : World) (mg : Str → Option Value) (base : Heap) (N : List Str) (qual : Str) (st : Stmt) (f : Addr) (cdv : Value) (A : Around) (outer : List PySem.Env) (s : Shared) (H : Hp) (E : XK) : Cx :=
  cxOf (L2.CX P w) P w Γ.K mg base N qual (defScope st) f cdv A outer s H E
/-- A def keeps what its body's reading says -/
theorem ok_fn {P : Program} {w : World} {mg : Str → Option Value} {base : Heap} {Γ : Ct} {x qual : Str} {st : Stmt} {f : Addr} {fd : FuncData} {N ps : List Str} {k : Nat} {c : FS} (F : Fun Γ.K x qual st f fd) (S : FnScope N ps (defScope st))
    (hbody : ∀ (cdv : Value) (A : Around) (outer : List PySem.Env) (s : Shared) (H : Hp) (E : XK) (W : WX), Room k (A.deeper (envF qual st s f cdv)) → (A.deeper (envF qual st s f cdv)).guards = some [] → Takes (cxF Γ P w mg base N qual st f cdv A outer s H E) W →
      MB (cxF Γ P w mg base N qual st f cdv A outer s H E) Γ W (defBody st) c) : FnG P w mg base Γ (k + 1) f fd ps (denOf N.length c) := by
  obtain ⟨oc, od, kV, doc, pm, an, cdv, ct, osl, rfl, lk, hcd⟩ := F.ex
  refine ⟨fun A outer s H args us vs Q E room guards e0 binds rel ⟨hlen, μ, Z, st0, ws, hR, rws, post⟩ => ?_⟩
  have stays : ∀ b o, base.get? b = some o → s.heap.get? b = some o := fun b o e => (e0.bs b o e).1
  have inK : Γ.K.In s.heap := e0.mod.kin.keeps stays
  have kinds : ∀ y ∈ ps.zip us, (defScope st).names.lookup y.1 = some .local ∨ ((defScope st).names.lookup y.1 = some .cell ∧ ((cellsFrom (s.heap.objs.size + 1) (defScope st).names []).lookup y.1).isSome = true) := by
    rintro ⟨n, v⟩ hy
    exact (S.par n (List.of_mem_zip hy).1).imp id fun q => ⟨q, PySem.W.cellsFrom_some _ _ _ (.inl q)⟩
  refine codeAny_call_function room.depth (inK _ _ lk) rfl S.co S.gen rfl (PySem.W.codeRec_of inK hcd) (binds _ _ _ _ ?_)
  refine wpAny_newFunctionEnv_cells S.kind kinds fun env he s1 entered => ?_
  subst he
  refine ⟨(e0.mod.nolimit.keeps stays).keeps entered.toInCall.keep, codeAny_func ?_⟩
  have I := inv_start (CX := L2.CX P w) (E := E) (cd := cdv) S room.hd e0 hlen rel entered
  have tk : Takes (cxF Γ P w mg base N qual st f cdv A outer s H E) (fun cls d _ H' => E cls d H') := takes_of rfl rfl rfl rfl
  have run := (hbody cdv A outer s H E _ (room.deeper _) (by show (A.deeper _).guards = _; rw [← guards]; rfl) tk).run [] s1 (L2.start N vs) H { nx := fun _ H' => Q .non H', rt := Q } I
    ⟨μ, Z, startD N.length ws, st0, re_start rws, hR, body_end hR post⟩
  refine wpAny_mono run (fun fl s' hs => ?_) fun e s' hs => hs
  cases fl with
  | ret u =>
    obtain ⟨v, σ', H', J, rv, q⟩ := hs
    exact ⟨v, H', J.os, J.bare, J.base, J.hok, rv, q⟩
  | next =>
    obtain ⟨σ', H', J, q⟩ := hs
    exact ⟨V.non, H', J.os, J.bare, J.base, J.hok, rfl, q⟩
  | brk => exact hs.elim fun _ z => z.elim fun _ z => z.2.elim
  | cont => exact hs.elim fun _ z => z.elim fun _ z => z.2.elim
section
variable {X : Cx} {Γ : Ct} {W : WX} {k : Nat} {f : Addr} {fd : FuncData} {ps : List Str} {den : Fn} {x : Str} {p pos : Pos} {e : Expr} {es : List Expr} {fa : FA}
def mCall (den : Fn) (fa : FA) : FE := fun ρ s => (fa ρ s).bind den
theorem post_call {H : Hp} {μ : Mu} {Z : Zs} {σ : L2.St} {Q : VK} {r : R Dv} (h : PostE Γ W H μ Z σ Q r) : PostE Γ (fun c d _ H' => WE W σ c d H') H μ Z [] Q r := by
  cases r with
  | ok w s => exact h
  | er x s => exact h
  | no => exact h
theorem run_G {pins : List (Addr × Obj)} {σ : L2.St} {H : Hp} {s : Shared} {Q : VK} {us : List Value} {ds : List Value} {vs dvs : List V} (F : FnG X.prog X.w X.mg X.base Γ k f fd ps den) (hK : Γ.K = X.K) (hr : Room k X.A) (hg : X.A.guards = some []) (hb : Binds X.K fd ps ds) (hd : Vals dvs ds) (tk : Takes X W)
    (I : Inv X pins σ H s) (r : Vals vs us) (h : spM Γ ps den (vs ++ dvs) H Q (WE W σ)) : wpAny (model X.prog X.w) X.A (call (.ref f) us) (EP X pins σ Q) X.xe s := by
  have r2 : Vals (vs ++ dvs) (us ++ ds) := r.append hd
  have hl : (us ++ ds).length = ps.length := r2.length.symm.trans h.1
  refine wpAny_call (codeAny_mono (F.run X.A X.stack s H ⟨us, []⟩ (us ++ ds) (vs ++ dvs) Q (WE W σ) hr hg (by rw [hK]; exact I.env0) (hb s us I.kIn hl) r2 h) fun r' s' hq => ?_)
  cases r' with
  | error e => exact passAt tk σ pins H s e s' I hq
  | ok fl =>
    cases fl with
    | ret u => exact I.after hq
    | next => exact hq.elim
    | brk => exact hq.elim
    | cont => exact hq.elim
/-- f(e, ..), f a def of the text; ds its defaults -/
theorem me_call {ds : List Value} {dvs : List V} {dws : List Dv} (F : FnG X.prog X.w X.mg X.base Γ k f fd ps den) (hK : Γ.K = X.K) (hr : Room k X.A) (hg : X.A.guards = some []) (hgl : Gl X x) (hm : X.mg x = some (.ref f)) (hk : PySem.W.keepIn X.K (.ref f) = true) (hb : Binds X.K fd ps ds) (hd : Vals dvs ds)
    (hdw : ∀ H μ Z, RVs Γ H μ Z dws dvs) (n : Nat) (hn : n + dws.length = ps.length) (hnl : (e :: es).length = n) (tk : Takes X W) (ha : MA X Γ W (e :: es) fa) (hlen : ∀ ρ s ws s', fa ρ s = .ok ws s' → ws.length = n) (hdb : (x == ("__debug__" : Str)) = false := by decide)
    (he : starEach (e :: es) X.env = (false, eval e X.env) :: starEach es X.env := by rfl) (hpl : (backTo pos (starEach es X.env)).any (·.1) = false := by rfl) :
    ME X Γ W (.Call (.Name x p) (e :: es) [] pos) (mCall (fun ws => den (ws ++ dws)) fa) := by
  refine ⟨fun pins s σ H Q I ⟨μ, Z, ρ, s0, hE, hR, q⟩ => ?_⟩
  refine wpAny_Call_Name_kw (ld_glob I hgl hm ?_ hdb)
  have q' : rdA Γ W fa σ H fun vs H1 => spM Γ ps den (vs ++ dvs) H1 Q (WE W σ) := by
    refine ⟨μ, Z, ρ, s0, hE, hR, ?_⟩
    unfold mCall at q
    cases e1 : fa ρ s0 with
    | ok ws s1 =>
      rw [e1] at q
      have q2 : PostE Γ W H μ Z σ Q (den (ws ++ dws) s1) := q
      intro vs H1 μ1 ev R1 r1
      refine ⟨?_, μ1, Z, s1, ws ++ dws, R1, r1.append (hdw H1 μ1 Z), post_call (PostE.evo ev q2)⟩
      rw [List.length_append, r1.len, hlen _ _ _ _ e1, (hdw H1 μ1 Z).len, hn]
    | er x1 s1 => rw [e1] at q; exact q
    | no => rw [e1] at q; exact q
  refine PySem.W.callWith_K (h₀ := X.base) I.ok.mod.kin hk (thn (ha.run pos pins s σ H _ I q') fun us s1 ⟨vs, H1, I1, r, z⟩ => ⟨I1.kIn, ?_⟩) he hpl
  exact run_G F hK hr hg hb hd tk I1 r z
end
end MP
set_option Elab.async false
set_option linter.all false
set_option maxRecDepth 100000
set_option maxHeartbeats 4000000
namespace MP
open PySem PySem.Spec PyProof.Rows L2
abbrev ON := Sto → List Dv → Option Dv
def OpN (Γ : Ct) (r : List V → Hp → VK → Prop) (op : ON) : Prop := ∀ (H : Hp) (μ : Mu) (Z : Zs) (s : Sto) (xs : List Dv) (w : Dv) (vs : List V) (Q : VK), Rep Γ H μ Z s → RVs Γ H μ Z xs vs → op s xs = some w →
  (∀ v' H', Evo H μ H' μ → Rep Γ H' μ Z s → RV Γ H' μ Z w v' → Q v' H') → r vs H Q
def mBlt (op : ON) (fa : FA) : FE := fun ρ s => (fa ρ s).bind fun ws s1 => R.of (op s1 ws) s1
section
variable {X : Cx} {Γ : Ct} {W : WX} {x : Str} {p pos : Pos} {e : Expr} {es : List Expr} {fa : FA} {id T : String} {r r' : List V → Hp → VK → Prop} {op op' : ON}
theorem blt_ok {t : TE} {ta : TA} (ht : t = tCB r (rdA Γ W fa)) (hs : OpN Γ r op) (h : PE X e t) : ME X Γ W e (mBlt op fa) := by
  subst ht
  exact PE.imp h fun σ H Q ⟨μ, Z, ρ, s, hE, hR, q⟩ => aE hE hR q fun ws s1 vs H1 μ1 e1 E1 R1 r1 q1 => by
    obtain ⟨w, hw, k⟩ := ofE q1
    exact hs H1 μ1 Z s1 ws w vs Q R1 r1 hw k
theorem me_callB (hc : CallR X (.builtin id) r) (hs : OpN Γ r op) (hg : Gl X x) (hm : X.mg x = none) (hv : bootBuiltins x = some (.builtin id)) (ha : MA X Γ W (e :: es) fa) (hn : x ≠ "__name__" := by decide) (hdb : (x == ("__debug__" : Str)) = false := by decide)
    (he : starEach (e :: es) X.env = (false, eval e X.env) :: starEach es X.env := by rfl) (hpl : (backTo pos (starEach es X.env)).any (·.1) = false := by rfl) : ME X Γ W (.Call (.Name x p) (e :: es) [] pos) (mBlt op fa) :=
  blt_ok (ta := rdA Γ W fa) rfl hs (pe_callB hc hg hm hv ha hn hdb he hpl)
theorem me_callTy (hc : CallR X (.type T) r) (hs : OpN Γ r op) (hg : Gl X x) (hm : X.mg x = none) (hv : bootBuiltins x = some (.type T)) (ha : MA X Γ W (e :: es) fa) (hn : x ≠ "__name__" := by decide) (hdb : (x == ("__debug__" : Str)) = false := by decide)
    (he : starEach (e :: es) X.env = (false, eval e X.env) :: starEach es X.env := by rfl) (hpl : (backTo pos (starEach es X.env)).any (·.1) = false := by rfl) : ME X Γ W (.Call (.Name x p) (e :: es) [] pos) (mBlt op fa) :=
  blt_ok (ta := rdA Γ W fa) rfl hs (pe_callTy hc hg hm hv ha hn hdb he hpl)
theorem OpN.or (h : OpN Γ r op) (h' : OpN Γ r' op') : OpN Γ (fun x H Q => r x H Q ∨ r' x H Q) (fun s xs => match op s xs with
    | some w => some w
    | none => op' s xs) := fun H μ Z s xs w vs Q hR rx e k => by
  dsimp only at e
  split at e
  · rename_i w' e'
    cases e
    exact .inl (h H μ Z s xs _ vs Q hR rx e' k)
  · exact .inr (h' H μ Z s xs w vs Q hR rx e k)
/-- len -/
def lenD : ON := fun s xs => match xs with
  | [.str x] => if x.length ≤ lim then some (.int x.length) else none
  | [x] => (seqOf s x).map fun ws => .int ws.length
  | _ => none
theorem one {H : Hp} {μ : Mu} {Z : Zs} {x : Dv} {vs : List V} (r : RVs Γ H μ Z [x] vs) : ∃ v, vs = [v] ∧ RV Γ H μ Z x v := by
  obtain ⟨v, xs, rfl, h1, h2⟩ := r
  exact ⟨v, by rw [show xs = [] from h2], h1⟩
theorem two {H : Hp} {μ : Mu} {Z : Zs} {x y : Dv} {vs : List V} (r : RVs Γ H μ Z [x, y] vs) : ∃ v u, vs = [v, u] ∧ RV Γ H μ Z x v ∧ RV Γ H μ Z y u := by
  obtain ⟨v, xs, rfl, h1, u, ys, rfl, h2, h3⟩ := r
  exact ⟨v, u, by rw [show ys = [] from h3], h1, h2⟩
theorem sLen (hK : Γ.K = X.K) : OpN Γ (fun xs H Q => ∃ x n, xs = [x] ∧ LenV X.K x H n ∧ Q (.int n) H) lenD := fun H μ Z s xs w vs Q hR rx e k => by
  rw [← hK]
  unfold lenD at e
  split at e
  · rename_i y
    split at e
    · rename_i hl
      cases e
      obtain ⟨v, rfl, r1⟩ := one rx
      exact ⟨v, _, rfl, by rw [show v = .str y from r1]; exact ⟨lim_ok hl, rfl⟩, k _ H .refl hR rfl⟩
    · cases e
  · rename_i y _
    cases q : seqOf s y with
    | none => rw [q] at e; cases e
    | some ws =>
      rw [q] at e
      cases e
      obtain ⟨v, rfl, r1⟩ := one rx
      obtain ⟨a, ys, rfl, h2, h3⟩ := seqOf_ok hR r1 q
      refine ⟨_, ws.length, rfl, ?_, k _ H .refl hR rfl⟩
      rcases h2 with h2 | h2
      · exact .inl ⟨ys, h2, h3.len.symm⟩
      · exact .inr ⟨ys, h2, h3.len.symm⟩
  · cases e
/-- tuple(xs), list(xs) -/
def tupleD : ON := fun s xs => match xs with
  | [.tup ws] => some (.tup ws)
  | [.sq ws] => some (.tup ws)
  | [x] => (lstOf s x).map .tup
  | _ => none
theorem sTuple (hK : Γ.K = X.K) : OpN Γ (fun xs H Q => ∃ p ys, xs = [.ref p] ∧ ((SqL X.K H p ys ∧ ∀ l, H l = none → Q (.ref l) (upd H l (.tup ys))) ∨ (SqT X.K H p ys ∧ Q (.ref p) H))) tupleD := fun H μ Z s xs w vs Q hR rx e k => by
  rw [← hK]
  unfold tupleD at e
  split at e
  · cases e
    obtain ⟨v, rfl, a, ys, rfl, h2, h3⟩ := one rx
    exact ⟨a, ys, rfl, .inr ⟨h2.sq, k _ H .refl hR ⟨a, ys, rfl, h2, h3⟩⟩⟩
  · cases e
    obtain ⟨v, rfl, a, ys, rfl, h2, h3⟩ := one rx
    exact ⟨a, ys, rfl, .inl ⟨h2.sq, fun l hl => k _ _ (Evo.laid hl) (hR.laid hl) (new_tup hR hl h3)⟩⟩
  · rename_i y _ _
    cases q : lstOf s y with
    | none => rw [q] at e; cases e
    | some ws =>
      rw [q] at e
      cases e
      obtain ⟨v, rfl, r1⟩ := one rx
      obtain ⟨a, ys, rfl, h2, h3⟩ := lstOf_ok hR r1 q
      exact ⟨a, ys, rfl, .inl ⟨SqL.of h2, fun l hl => k _ _ (Evo.laid hl) (hR.laid hl) (new_tup hR hl h3)⟩⟩
  · cases e
def listD : ON := fun s xs => match xs with
  | [x] => (seqOf s x).map .lst
  | _ => none
theorem sList (hK : Γ.K = X.K) : OpN Γ (fun xs H Q => ∃ p ys, xs = [.ref p] ∧ (SqL X.K H p ys ∨ SqT X.K H p ys) ∧ ∀ l, H l = none → Q (.ref l) (upd H l (.lst ys))) listD := fun H μ Z s xs w vs Q hR rx e k => by
  rw [← hK]
  unfold listD at e
  split at e
  · rename_i y
    cases q : seqOf s y with
    | none => rw [q] at e; cases e
    | some ws =>
      rw [q] at e
      cases e
      obtain ⟨v, rfl, r1⟩ := one rx
      obtain ⟨a, ys, rfl, h2, h3⟩ := seqOf_ok hR r1 q
      exact ⟨a, ys, rfl, h2, fun l hl => k _ _ (Evo.laid hl) (hR.laid hl) (new_lst hR hl h3)⟩
  · cases e
/-- ints of a list -/
def intOf : Dv → Option Int
  | .int i => some i
  | _ => none
def intsOf (ws : List Dv) : Option (List Int) := mapO intOf ws
theorem intsOf_ok : ∀ {ws : List Dv} {ns : List Int}, intsOf ws = some ns → ws = ns.map .int
  | [], ns, e => by cases e; rfl
  | w :: ws, ns, e => by
    unfold intsOf at e
    simp only [mapO] at e
    split at e
    · rename_i b bs e1 e2
      cases e
      rw [intsOf_ok (ws := ws) (ns := bs) e2]
      cases w with
      | int i => cases e1; rfl
      | _ => cases e1
    · cases e
theorem intsOf_map : ∀ ns : List Int, intsOf (ns.map .int) = some ns
  | [] => rfl
  | n :: ns => by
    have := intsOf_map ns
    unfold intsOf at this ⊢
    rw [List.map_cons, mapO, this]
    rfl
/-- sorting by insertion -/
def ins (a : Int) : List Int → List Int
  | [] => [a]
  | b :: r => if a ≤ b then a :: b :: r else b :: ins a r
def srt : List Int → List Int
  | [] => []
  | a :: r => ins a (srt r)
theorem ins_perm (a : Int) : ∀ l : List Int, (ins a l).Perm (a :: l)
  | [] => .refl _
  | b :: r => by
    unfold ins
    split
    · exact .refl _
    · exact ((ins_perm a r).cons b).trans (.swap a b r)
theorem srt_perm : ∀ l : List Int, (srt l).Perm l
  | [] => .refl _
  | a :: r => (ins_perm a (srt r)).trans ((srt_perm r).cons a)
theorem ins_sorted (a : Int) : ∀ l : List Int, l.Pairwise (· ≤ ·) → (ins a l).Pairwise (· ≤ ·)
  | [], _ => List.pairwise_singleton _ _
  | b :: r, h => by
    unfold ins
    obtain ⟨h1, h2⟩ := List.pairwise_cons.mp h
    split
    · rename_i hab
      refine List.pairwise_cons.mpr ⟨fun c hc => ?_, h⟩
      rcases List.mem_cons.mp hc with e | e
      · rw [e]; exact hab
      · exact Int.le_trans hab (h1 c e)
    · rename_i hab
      refine List.pairwise_cons.mpr ⟨fun c hc => ?_, ins_sorted a r h2⟩
      rcases List.mem_cons.mp ((ins_perm a r).mem_iff.mp hc) with e | e
      · rw [e]; omega
      · exact h1 c e
theorem srt_sorted : ∀ l : List Int, (srt l).Pairwise (· ≤ ·)
  | [] => .nil
  | a :: r => ins_sorted a _ (srt_sorted r)
theorem sorted_eq : ∀ {l l' : List Int}, l.Perm l' → l.Pairwise (· ≤ ·) → l'.Pairwise (· ≤ ·) → l = l'
  | [], l', p, _, _ => (List.nil_perm.mp p).symm
  | a :: r, [], p, _, _ => (List.cons_ne_nil a r (List.perm_nil.mp p)).elim
  | a :: r, b :: t, p, h, h' => by
    obtain ⟨h1, h2⟩ := List.pairwise_cons.mp h
    obtain ⟨g1, g2⟩ := List.pairwise_cons.mp h'
    have hab : a = b := by
      have ha : a ∈ b :: t := p.mem_iff.mp List.mem_cons_self
      have hb : b ∈ a :: r := p.mem_iff.mpr List.mem_cons_self
      rcases List.mem_cons.mp ha with e | e
      · exact e
      · rcases List.mem_cons.mp hb with e' | e'
        · exact e'.symm
        · exact Int.le_antisymm (h1 b e') (g1 a e)
    subst hab
    rw [sorted_eq (List.perm_cons a |>.mp p) h2 g2]
theorem srt_uniq {l l' : List Int} (p : l'.Perm l) (h : l'.Pairwise (· ≤ ·)) : l' = srt l := sorted_eq (p.trans (srt_perm l).symm) h (srt_sorted l)
def sortedD : ON := fun s xs => match xs with
  | [x] => match lstOf s x with
    | some ws => (intsOf ws).map fun ns => .lst ((srt ns).map .int)
    | none => none
  | _ => none
theorem sSorted (hK : Γ.K = X.K) : OpN Γ (rSortedI X.K) sortedD := fun H μ Z s xs w vs Q hR rx e k => by
  rw [← hK]
  unfold sortedD at e
  split at e
  · rename_i y
    split at e
    · rename_i ws q
      cases q2 : intsOf ws with
      | none => rw [q2] at e; cases e
      | some ns =>
        rw [q2] at e
        cases e
        obtain ⟨v, rfl, r1⟩ := one rx
        obtain ⟨a, ys, rfl, h2, h3⟩ := lstOf_ok hR r1 q
        rw [intsOf_ok q2] at h3
        have h4 := h3.ints
        subst h4
        refine ⟨a, ns, rfl, SqL.of h2, fun ns' p hp hs hn => ?_⟩
        rw [srt_uniq hp hs]
        exact k _ _ (Evo.laid hn) (hR.laid hn) (new_lst hR hn (RVs.of_ints _))
    · cases e
  · cases e
def sumD : ON := fun s xs => match xs with
  | [x] => match lstOf s x with
    | some ws => (intsOf ws).map fun ns => .int ns.sum
    | none => none
  | _ => none
theorem sSum (hK : Γ.K = X.K) : OpN Γ (rSum X.K) sumD := fun H μ Z s xs w vs Q hR rx e k => by
  rw [← hK]
  unfold sumD at e
  split at e
  · rename_i y
    split at e
    · rename_i ws q
      cases q2 : intsOf ws with
      | none => rw [q2] at e; cases e
      | some ns =>
        rw [q2] at e
        cases e
        obtain ⟨v, rfl, r1⟩ := one rx
        obtain ⟨a, ys, rfl, h2, h3⟩ := lstOf_ok hR r1 q
        rw [intsOf_ok q2] at h3
        have h4 := h3.ints
        subst h4
        exact ⟨a, ns, rfl, SqL.of h2, k _ H .refl hR rfl⟩
    · cases e
  · cases e
def min2D : ON := fun _ xs => match xs with
  | [.int i, .int j] => some (.int (if j < i then j else i))
  | _ => none
theorem sMin2 : OpN Γ (fun xs H Q => ∃ i j, xs = [.int i, .int j] ∧ Q (.int (if j < i then j else i)) H) min2D := fun H μ Z s xs w vs Q hR rx e k => by
  unfold min2D at e
  split at e
  · rename_i i j
    cases e
    obtain ⟨v, u, rfl, r1, r2⟩ := two rx
    exact ⟨i, j, by rw [show v = _ from r1, show u = _ from r2], k _ H .refl hR rfl⟩
  · cases e
def intD : ON := fun _ xs => match xs with
  | [.int i] => some (.int i)
  | [.bl b] => some (.int (if b then 1 else 0))
  | _ => none
theorem sInt : OpN Γ (fun xs H Q => (∃ i, xs = [.int i] ∧ Q (.int i) H) ∨ ∃ k, xs = [.bl k] ∧ Q (.int (if k then 1 else 0)) H) intD := fun H μ Z s xs w vs Q hR rx e k => by
  unfold intD at e
  split at e
  · rename_i i
    cases e
    obtain ⟨v, rfl, r1⟩ := one rx
    exact .inl ⟨i, by rw [show v = _ from r1], k _ H .refl hR rfl⟩
  · rename_i b
    cases e
    obtain ⟨v, rfl, r1⟩ := one rx
    exact .inr ⟨b, by rw [show v = _ from r1], k _ H .refl hR rfl⟩
  · cases e
/-- isinstance of a built-in class -/
def tyName : Dv → Option String
  | .non => some "NoneType" | .bl _ => some "bool" | .int _ => some "int" | .str _ => some "str" | .tup _ => some "tuple" | .lst _ => some "list" | .dct _ _ => some "dict"
  | _ => none
def sub (a b : String) : Option Bool := match a, b with
  | "NoneType", "int" => some false | "NoneType", "bool" => some false | "NoneType", "tuple" => some false | "NoneType", "str" => some false | "NoneType", "list" => some false
  | "bool", "int" => some true | "bool", "bool" => some true | "bool", "tuple" => some false | "bool", "str" => some false | "bool", "list" => some false
  | "int", "int" => some true | "int", "bool" => some false | "int", "tuple" => some false | "int", "str" => some false | "int", "list" => some false
  | "str", "int" => some false | "str", "bool" => some false | "str", "tuple" => some false | "str", "str" => some true | "str", "list" => some false
  | "tuple", "int" => some false | "tuple", "bool" => some false | "tuple", "tuple" => some true | "tuple", "str" => some false | "tuple", "list" => some false
  | "list", "int" => some false | "list", "bool" => some false | "list", "tuple" => some false | "list", "str" => some false | "list", "list" => some true
  | "dict", "int" => some false | "dict", "bool" => some false | "dict", "tuple" => some false | "dict", "str" => some false | "dict", "list" => some false
  | _, _ => none
theorem sub_ok {a b : String} {r : Bool} (h : sub a b = some r) : kitB a b = some r := by
  unfold sub at h
  split at h <;> first
    | (cases h; decide +kernel)
    | cases h
def isiD : ON := fun _ xs => match xs with
  | [x, .ty n] => match tyName x with
    | some t => (sub t n).map .bl
    | none => none
  | _ => none
theorem tyName_ok {H : Hp} {μ : Mu} {Z : Zs} {x : Dv} {v : V} {t : String} (r : RV Γ H μ Z x v) (e : tyName x = some t) : TyX Γ.K H v (.type t) := by
  cases x with
  | non => cases e; rw [show v = _ from r]; exact .base .non
  | bl b => cases e; rw [show v = _ from r]; exact .base (.bl b)
  | int b => cases e; rw [show v = _ from r]; exact .base (.int b)
  | str b => cases e; rw [show v = _ from r]; exact .base (.str b)
  | tup ws =>
    cases e
    obtain ⟨a, xs, rfl, h2, h3⟩ := r
    rcases h2 with ⟨h2 | ⟨o, h2⟩, _⟩ | ⟨o, its, n, h2, h4, _⟩
    · exact .base (.tup h2)
    · exact .fTuple h2
    · exact .kTuple h2 h4
  | lst ws =>
    cases e
    obtain ⟨a, xs, rfl, h2, h3⟩ := r
    exact .base (.lst h2)
  | dct ks ws =>
    cases e
    obtain ⟨a, kvs, rfl, h2, h3⟩ := r
    exact .base (.dK h2)
  | _ => cases e
theorem sIsi (hK : Γ.K = X.K) : OpN Γ (rIsi X.K) isiD := fun H μ Z s xs w vs Q hR rx e k => by
  rw [← hK]
  unfold isiD at e
  split at e
  · rename_i y n
    split at e
    · rename_i t q
      cases q2 : sub t n with
      | none => rw [q2] at e; cases e
      | some b =>
        rw [q2] at e
        cases e
        obtain ⟨v, u, rfl, r1, r2⟩ := two rx
        exact ⟨v, u, .type t, .type n, b, rfl, by rw [show u = _ from r2]; exact .ty n, tyName_ok r1 q, kit_ty (sub_ok q2), k _ H .refl hR rfl⟩
    · cases e
  · cases e
def rRepr (K : PySem.W.Frag) : List V → Hp → VK → Prop := fun xs H Q => ∃ (x : V) (a : Addr) (d : PyData), xs = [x] ∧ x = .ref a ∧ Dp K H x d ∧ d.showable = true ∧ d.hasDict = false ∧ d.depth ≤ 60 ∧ d.shown.length ≤ sizeLine ∧ Q (.str d.shown) H
theorem call_repr (hg : X.A.guards = some []) (hu : X.A.units + 64 < cLine) : CallR X (.builtin "repr") (rRepr X.K) := by
  intro pins s σ H xs us Q I r h
  obtain ⟨x, a, d, rfl, rfl, hd, h1, h2, h3, h4, q⟩ := h
  obtain ⟨us', e, _⟩ : ∃ u, us = [u] ∧ RelV (.ref a) u := by
    cases r with
    | cons ru rn => cases rn; exact ⟨_, rfl, ru⟩
  subst e
  have er : us' = Value.ref a := by
    cases r with
    | cons ru rn => exact ru
  subst er
  obtain ⟨as, rd⟩ := hd.reads I d _ _ rfl
  exact repr_of_reads' rd h1 (fun z => by rw [h2] at z; cases z) hg (by omega) (fun _ _ z => z) (fun h' u tk k => ⟨.str d.shown, H, I.kept (t' := tk) k, ⟨u, rfl⟩, q⟩) h4
end
end MP
set_option Elab.async false
set_option linter.all false
set_option maxRecDepth 100000
set_option maxHeartbeats 4000000
namespace MP
open PySem PySem.Spec PyProof.Rows L2
section
variable {X : Cx} {Γ : Ct} {W : WX} {a b e : Expr} {f g : FE} {pos : Pos}
def orO (o o' : O2) : O2 := fun s x y => match o s x y with
  | some w => some w
  | none => o' s x y
theorem bin_or {o o' : O2} (h : ME X Γ W e (mBin o f g)) (h' : ME X Γ W e (mBin o' f g)) : ME X Γ W e (mBin (orO o o') f g) :=
  PE.imp (PE.or h h') fun σ H Q ⟨μ, Z, ρ, s, hE, hR, q⟩ => by
    have key : PostE Γ W H μ Z σ Q (mBin o f g ρ s) ∨ PostE Γ W H μ Z σ Q (mBin o' f g ρ s) := by
      unfold mBin at q ⊢
      revert q
      cases f ρ s with
      | no => exact .inl
      | er x s1 => exact .inl
      | ok x s1 =>
        dsimp only [R.bind]
        cases g ρ s1 with
        | no => exact .inl
        | er y s2 => exact .inl
        | ok y s2 =>
          dsimp only
          intro q
          unfold orO at q
          cases e1 : o s2 x y with
          | some w => rw [e1] at q; exact .inl q
          | none => rw [e1] at q; exact .inr q
    exact key.imp (fun z => ⟨μ, Z, ρ, s, hE, hR, z⟩) fun z => ⟨μ, Z, ρ, s, hE, hR, z⟩
theorem RVs.at {H : Hp} {μ : Mu} {Z : Zs} {ws : List Dv} {xs : List V} {i : Int} {w : Dv} (r : RVs Γ H μ Z ws xs) (e : atI ws i = some w) : ∃ x, atI xs i = some x ∧ RV Γ H μ Z w x := by
  unfold atI at e ⊢
  rw [r.len]
  cases q : ixN ws.length i with
  | none => rw [q] at e; cases e
  | some j =>
    rw [q] at e
    exact r.get e
def lstOrSq (s : Sto) : Dv → Option (List Dv)
  | .sq ws => some ws
  | w => lstOf s w
def ixL : O2 := fun s x y => match y with
  | .int i => (lstOrSq s x).bind fun ws => atI ws i
  | _ => none
def ixT : O2 := fun _ x y => match y with
  | .int i => (tupOf x).bind fun ws => atI ws i
  | _ => none
theorem lstOrSq_ok {H : Hp} {μ : Mu} {Z : Zs} {s : Sto} {w : Dv} {v : V} {ws : List Dv} (hR : Rep Γ H μ Z s) (r : RV Γ H μ Z w v) (e : lstOrSq s w = some ws) : ∃ a xs, v = .ref a ∧ SqL Γ.K H a xs ∧ RVs Γ H μ Z ws xs := by
  unfold lstOrSq at e
  split at e
  · cases e
    obtain ⟨a, xs, h1, h2, h3⟩ := r
    exact ⟨a, xs, h1, h2.sq, h3⟩
  · obtain ⟨a, xs, h1, h2, h3⟩ := lstOf_ok hR r e
    exact ⟨a, xs, h1, SqL.of h2, h3⟩
theorem tupOf_ok {H : Hp} {μ : Mu} {Z : Zs} {w : Dv} {v : V} {ws : List Dv} (r : RV Γ H μ Z w v) (e : tupOf w = some ws) : ∃ a xs, v = .ref a ∧ SqT Γ.K H a xs ∧ RVs Γ H μ Z ws xs := by
  cases w with
  | tup us =>
    cases e
    obtain ⟨a, xs, h1, h2, h3⟩ := r
    exact ⟨a, xs, h1, h2.sq, h3⟩
  | _ => cases e
theorem sIxL : Op2 Γ (rIxL Γ.K) ixL := fun H μ Z s x y w u v Q hR r1 r2 e k => by
  unfold ixL at e
  split at e
  · rename_i i
    cases q : lstOrSq s x with
    | none => rw [q] at e; cases e
    | some ws =>
      rw [q] at e
      obtain ⟨p, xs, h1, h2, h3⟩ := lstOrSq_ok hR r1 q
      obtain ⟨z, g1, g2⟩ := h3.at e
      exact ⟨p, xs, i, z, h1, r2, h2, g1, k _ H .refl hR g2⟩
  · cases e
theorem sIxT : Op2 Γ (rIxT Γ.K) ixT := fun H μ Z s x y w u v Q hR r1 r2 e k => by
  unfold ixT at e
  split at e
  · rename_i i
    cases q : tupOf x with
    | none => rw [q] at e; cases e
    | some ws =>
      rw [q] at e
      obtain ⟨p, xs, h1, h2, h3⟩ := tupOf_ok r1 q
      obtain ⟨z, g1, g2⟩ := h3.at e
      exact ⟨p, xs, i, z, h1, r2, h2, g1, k _ H .refl hR g2⟩
  · cases e
/-- dicts of the store -/
def keyOf : Dv → Option Key
  | .int i => some (.inl i)
  | .str x => some (.inr x)
  | _ => none
def valD (kws : List (Key × Dv)) (k : Key) : Option Dv := (kws.find? fun p => decide (p.1 = k)).map (·.2)
def putD (kws : List (Key × Dv)) (k : Key) (w : Dv) : List (Key × Dv) :=
  if (kws.any fun p => decide (p.1 = k)) = true then kws.map (fun p => if p.1 = k then (p.1, w) else p) else kws ++ [(k, w)]
def dctOf (s : Sto) : Dv → Option (List (Key × Dv))
  | .ref n => match s[n]? with
    | some (.dct kws) => some kws
    | _ => none
  | _ => none
def ixD : O2 := fun s x y => match dctOf s x, keyOf y with
  | some kws, some k => valD kws k
  | _, _ => none
theorem keyOf_ok {H : Hp} {μ : Mu} {Z : Zs} {w : Dv} {v : V} {k : Key} (r : RV Γ H μ Z w v) (e : keyOf w = some k) : v = kV k := by
  cases w with
  | int i => cases e; exact r
  | str x => cases e; exact r
  | _ => cases e
theorem valD_ok {H : Hp} {μ : Mu} {Z : Zs} {k : Key} {w : Dv} : ∀ {kws : List (Key × Dv)} {kvs : List (Key × V)}, kvs.map (·.1) = kws.map (·.1) → RVs Γ H μ Z (kws.map (·.2)) (kvs.map (·.2)) → valD kws k = some w → ∃ v, valV kvs k = some v ∧ RV Γ H μ Z w v
  | [], kvs, _, _, e => by cases e
  | p :: kws, [], h, _, e => by cases h
  | p :: kws, q :: kvs, h, r, e => by
    obtain ⟨h1, h2⟩ := List.cons.inj h
    obtain ⟨x, xs, h3, r1, r2⟩ := r
    obtain ⟨h4, h5⟩ := List.cons.inj h3
    subst h4
    by_cases hk : p.1 = k
    · have e1 : valD (p :: kws) k = some p.2 := by simp [valD, List.find?_cons, hk]
      rw [e1] at e
      cases e
      exact ⟨q.2, valV_pos (show q.1 = k from h1.trans hk), r1⟩
    · have e1 : valD (p :: kws) k = valD kws k := by simp [valD, List.find?_cons, hk]
      rw [e1] at e
      obtain ⟨v, g1, g2⟩ := valD_ok (kvs := kvs) h2 (h5 ▸ r2) e
      exact ⟨v, by rw [valV_neg (show ¬ q.1 = k from fun z => hk (h1.symm.trans z))]; exact g1, g2⟩
theorem putD_ok {H : Hp} {μ : Mu} {Z : Zs} {k : Key} {w : Dv} {v : V} (rw' : RV Γ H μ Z w v) {kws : List (Key × Dv)} {kvs : List (Key × V)} (h : kvs.map (·.1) = kws.map (·.1)) (r : RVs Γ H μ Z (kws.map (·.2)) (kvs.map (·.2))) :
    (putK kvs k v).map (·.1) = (putD kws k w).map (·.1) ∧ RVs Γ H μ Z ((putD kws k w).map (·.2)) ((putK kvs k v).map (·.2)) := by
  have hany : ∀ (kws : List (Key × Dv)) (kvs : List (Key × V)), kvs.map (·.1) = kws.map (·.1) → (kvs.any fun p => decide (p.1 = k)) = (kws.any fun p => decide (p.1 = k)) := fun kws => by
    induction kws with
    | nil => intro kvs h; cases kvs with
      | nil => rfl
      | cons _ _ => cases h
    | cons p kws ih => intro kvs h; cases kvs with
      | nil => cases h
      | cons q kvs =>
        obtain ⟨h1, h2⟩ := List.cons.inj h
        have h1' : q.1 = p.1 := h1
        rw [List.any_cons, List.any_cons, ih kvs h2, h1']
  have hmap : ∀ (kws : List (Key × Dv)) (kvs : List (Key × V)), kvs.map (·.1) = kws.map (·.1) → RVs Γ H μ Z (kws.map (·.2)) (kvs.map (·.2)) →
      (kvs.map (fun p => if p.1 = k then (p.1, v) else p)).map (·.1) = (kws.map (fun p => if p.1 = k then (p.1, w) else p)).map (·.1) ∧ RVs Γ H μ Z ((kws.map (fun p => if p.1 = k then (p.1, w) else p)).map (·.2)) ((kvs.map (fun p => if p.1 = k then (p.1, v) else p)).map (·.2)) := fun kws => by
    induction kws with
    | nil => intro kvs h r; cases kvs with
      | nil => exact ⟨rfl, rfl⟩
      | cons _ _ => cases h
    | cons p kws ih => intro kvs h r; cases kvs with
      | nil => cases h
      | cons q kvs =>
        obtain ⟨h1, h2⟩ := List.cons.inj h
        obtain ⟨x, xs, h3, r1, r2⟩ := r
        obtain ⟨h4, h5⟩ := List.cons.inj h3
        have h1' : q.1 = p.1 := h1
        subst h4
        obtain ⟨i1, i2⟩ := ih kvs h2 (h5 ▸ r2)
        by_cases hk : p.1 = k
        · have e1 : (if q.1 = k then (q.1, v) else q) = (q.1, v) := if_pos (h1'.trans hk)
          have e2 : (if p.1 = k then (p.1, w) else p) = (p.1, w) := if_pos hk
          have m1 : ((q :: kvs).map fun p => if p.1 = k then (p.1, v) else p) = (q.1, v) :: kvs.map fun p => if p.1 = k then (p.1, v) else p := by rw [List.map_cons, e1]
          have m2 : ((p :: kws).map fun p => if p.1 = k then (p.1, w) else p) = (p.1, w) :: kws.map fun p => if p.1 = k then (p.1, w) else p := by rw [List.map_cons, e2]
          rw [m1, m2]
          exact ⟨by rw [List.map_cons, List.map_cons, i1, h1'], RVs.cons rw' i2⟩
        · have e1 : (if q.1 = k then (q.1, v) else q) = q := if_neg fun z => hk (h1'.symm.trans z)
          have e2 : (if p.1 = k then (p.1, w) else p) = p := if_neg hk
          have m1 : ((q :: kvs).map fun p => if p.1 = k then (p.1, v) else p) = q :: kvs.map fun p => if p.1 = k then (p.1, v) else p := by rw [List.map_cons, e1]
          have m2 : ((p :: kws).map fun p => if p.1 = k then (p.1, w) else p) = p :: kws.map fun p => if p.1 = k then (p.1, w) else p := by rw [List.map_cons, e2]
          rw [m1, m2]
          exact ⟨by rw [List.map_cons, List.map_cons, i1, h1'], RVs.cons r1 i2⟩
  unfold putK putD
  rw [hany kws kvs h]
  split
  · exact hmap kws kvs h r
  · rw [List.map_append, List.map_append, List.map_append, List.map_append, h]
    exact ⟨rfl, r.append (RVs.cons rw' rfl)⟩
theorem dctOf_ok {H : Hp} {μ : Mu} {Z : Zs} {s : Sto} {w : Dv} {v : V} {kws : List (Key × Dv)} (hR : Rep Γ H μ Z s) (r : RV Γ H μ Z w v) (e : dctOf s w = some kws) : ∃ a kvs, v = .ref a ∧ H a = some (.dK kvs) ∧ kvs.map (·.1) = kws.map (·.1) ∧ RVs Γ H μ Z (kws.map (·.2)) (kvs.map (·.2)) := by
  cases w with
  | ref n =>
    simp only [dctOf] at e
    split at e
    · rename_i us q
      cases e
      obtain ⟨a, h1, h2⟩ := r
      obtain ⟨b', h3, _, kvs, h4, h5, h6⟩ := hR.at n _ q
      rw [h2] at h3
      cases h3
      exact ⟨a, kvs, h1, h4, h5, h6⟩
    · cases e
  | _ => cases e
theorem sIxD : Op2 Γ (fun x y H Q => ∃ a v, x = .ref a ∧ DGet H a y (some v) ∧ Q v H) ixD := fun H μ Z s x y w u v Q hR r1 r2 e k => by
  unfold ixD at e
  split at e
  · rename_i kws kk q1 q2
    obtain ⟨p, kvs, h1, h2, h3, h4⟩ := dctOf_ok hR r1 q1
    obtain ⟨z, g1, g2⟩ := valD_ok h3 h4 e
    refine ⟨p, z, h1, ?_, k _ H .refl hR g2⟩
    rw [keyOf_ok r2 q2, ← g1]
    exact DGet.k h2
  · cases e
theorem me_ixL (hK : Γ.K = X.K) (ha : ME X Γ W a f) (hb : ME X Γ W b g) (hs : PlainIx b) : ME X Γ W (.Subscript a b pos) (mBin ixL f g) :=
  PE.imp (pe_ix ix_list ha hb hs) fun σ H Q ⟨μ, Z, ρ, s, hE, hR, q⟩ => eE hE hR q fun x s1 u H1 μ1 e1 hE1 R1 r1 q1 => eE hE1 R1 q1 fun y s2 v H2 μ2 e2 hE2 R2 r2 q2 => by
    obtain ⟨w, hw, k⟩ := ofE q2
    rw [← hK]
    exact sIxL H2 μ2 Z s2 x y w u v Q R2 (r1.mono e2) r2 hw k
theorem me_ixT (hK : Γ.K = X.K) (ha : ME X Γ W a f) (hb : ME X Γ W b g) (hs : PlainIx b) : ME X Γ W (.Subscript a b pos) (mBin ixT f g) :=
  PE.imp (pe_ix ix_tup ha hb hs) fun σ H Q ⟨μ, Z, ρ, s, hE, hR, q⟩ => eE hE hR q fun x s1 u H1 μ1 e1 hE1 R1 r1 q1 => eE hE1 R1 q1 fun y s2 v H2 μ2 e2 hE2 R2 r2 q2 => by
    obtain ⟨w, hw, k⟩ := ofE q2
    rw [← hK]
    exact sIxT H2 μ2 Z s2 x y w u v Q R2 (r1.mono e2) r2 hw k
theorem me_ixD (hu : X.A.units + 1 < cLine) (ha : ME X Γ W a f) (hb : ME X Γ W b g) (hs : NoSl b) : ME X Γ W (.Subscript a b pos) (mBin ixD f g) :=
  PE.imp (pe_dget hu ha hb hs) fun σ H Q ⟨μ, Z, ρ, s, hE, hR, q⟩ => eE hE hR q fun x s1 u H1 μ1 e1 hE1 R1 r1 q1 => eE hE1 R1 q1 fun y s2 v H2 μ2 e2 hE2 R2 r2 q2 => by
    obtain ⟨w, hw, k⟩ := ofE q2
    exact sIxD H2 μ2 Z s2 x y w u v Q R2 (r1.mono e2) r2 hw k
/-- a[b]: of a list, a tuple, a dict -/
def ixA : O2 := orO (orO ixL ixT) ixD
theorem me_ix (hK : Γ.K = X.K) (hu : X.A.units + 1 < cLine) (ha : ME X Γ W a f) (hb : ME X Γ W b g) (hs : PlainIx b) (hs' : NoSl b) : ME X Γ W (.Subscript a b pos) (mBin ixA f g) :=
  bin_or (bin_or (me_ixL hK ha hb hs) (me_ixT hK ha hb hs)) (me_ixD hu ha hb hs')
abbrev FO := Env → Sto → R (Option Int)
def PostO (Γ : Ct) (W : WX) (H : Hp) (μ : Mu) (Z : Zs) (σ : L2.St) (Q : Option Int → Hp → Prop) : R (Option Int) → Prop
  | .ok b s' => ∀ H' μ', Evo H μ H' μ' → Rep Γ H' μ' Z s' → Q b H'
  | .er x s' => ∀ cls d H' μ', Evo H μ H' μ' → Rep Γ H' μ' Z s' → RX Γ H' μ' Z x cls d → W cls d σ H'
  | .no => False
def rdO (Γ : Ct) (W : WX) (f : FO) : TO := fun σ H Q => ∃ μ Z ρ s, RE Γ H μ Z ρ σ ∧ Rep Γ H μ Z s ∧ PostO Γ W H μ Z σ Q (f ρ s)
def MO (X : Cx) (Γ : Ct) (W : WX) (e : Option Expr) (f : FO) : Prop := PO X e (rdO Γ W f)
theorem PO.imp {e : Option Expr} {t t' : TO} (h : PO X e t) (k : ∀ σ H Q, t' σ H Q → t σ H Q) : PO X e t' := ⟨fun pins s σ H Q I q => h.run pins s σ H Q I (k σ H Q q)⟩
def mPart (f : FE) : FO := fun ρ s => (f ρ s).bind fun x s1 => match x with
  | .int i => .ok (some i) s1
  | _ => .no
def mNoPart : FO := fun _ s => .ok none s
theorem mo_none : MO X Γ W none mNoPart := PO.imp po_none fun σ H Q ⟨μ, Z, ρ, s, hE, hR, q⟩ => q H μ .refl hR
theorem mo_some (h : ME X Γ W e f) : MO X Γ W (some e) (mPart f) := PO.imp (po_some h) fun σ H Q ⟨μ, Z, ρ, s, hE, hR, q⟩ => by
  refine ⟨μ, Z, ρ, s, hE, hR, ?_⟩
  unfold mPart at q
  cases e1 : f ρ s with
  | no => rw [e1] at q; exact q.elim
  | er x s1 => rw [e1] at q; exact q
  | ok x s1 =>
    rw [e1] at q
    intro v H1 μ1 ev R1 r1
    cases x with
    | int i => exact ⟨i, r1, q H1 μ1 ev R1⟩
    | _ => exact q.elim
abbrev OS := Sto → Dv → Option Int → Option Int → Option Dv
def mSl (op : OS) (f : FE) (lo hi : FO) : FE := fun ρ s => (f ρ s).bind fun x s1 => (lo ρ s1).bind fun l s2 => (hi ρ s2).bind fun u s3 => R.of (op s3 x l u) s3
theorem oE {H : Hp} {μ : Mu} {Z : Zs} {σ : L2.St} {ρ : Env} {s : Sto} {fo : FO} {k : Option Int → Sto → R Dv} {Q : VK} {Q' : Option Int → Hp → Prop} (hE : RE Γ H μ Z ρ σ) (hR : Rep Γ H μ Z s) (h : PostE Γ W H μ Z σ Q ((fo ρ s).bind k))
    (hk : ∀ b s1 H1 μ1, Evo H μ H1 μ1 → RE Γ H1 μ1 Z ρ σ → Rep Γ H1 μ1 Z s1 → PostE Γ W H1 μ1 Z σ Q (k b s1) → Q' b H1) : rdO Γ W fo σ H Q' := by
  refine ⟨μ, Z, ρ, s, hE, hR, ?_⟩
  cases e : fo ρ s with
  | ok x s1 =>
    rw [e] at h
    exact fun H1 μ1 ev R1 => hk x s1 H1 μ1 ev (hE.mono ev) R1 (PostE.evo ev h)
  | er x s1 => rw [e] at h; exact h
  | no => rw [e] at h; exact h.elim
def cutD (ws : List Dv) (lo hi : Option Int) : List Dv := (ws.drop (HT.sIx ws.length 0 lo)).take (HT.sIx ws.length ws.length hi - HT.sIx ws.length 0 lo)
theorem cut_ok {H : Hp} {μ : Mu} {Z : Zs} {ws : List Dv} {xs : List V} (r : RVs Γ H μ Z ws xs) (lo hi : Option Int) : RVs Γ H μ Z (cutD ws lo hi) (cutV xs lo hi) := by
  unfold cutD cutV
  rw [r.len]
  exact (r.drop _).take _
def slL : OS := fun s x lo hi => (lstOrSq s x).map fun ws => .lst (cutD ws lo hi)
def slT : OS := fun _ x lo hi => (tupOf x).map fun ws => .tup (cutD ws lo hi)
variable {lo hi : Option Expr} {flo fhi : FO} {p2 : Pos}
theorem me_slL (hK : Γ.K = X.K) (ha : ME X Γ W e f) (hl : MO X Γ W lo flo) (hh : MO X Γ W hi fhi) : ME X Γ W (.Subscript e (.Slice lo hi none p2) pos) (mSl slL f flo fhi) :=
  PE.imp (pe_slice sl_list ha hl hh) fun σ H Q ⟨μ, Z, ρ, s, hE, hR, q⟩ => eE hE hR q fun x s1 u H1 μ1 e1 hE1 R1 r1 q1 => oE hE1 R1 q1 fun l s2 H2 μ2 e2 hE2 R2 q2 => oE hE2 R2 q2 fun h s3 H3 μ3 e3 hE3 R3 q3 => by
    obtain ⟨w, hw, k⟩ := ofE q3
    unfold slL at hw
    cases q : lstOrSq s3 x with
    | none => rw [q] at hw; cases hw
    | some ws =>
      rw [q] at hw
      cases hw
      obtain ⟨p, xs, h1, h2, h3⟩ := lstOrSq_ok R3 ((r1.mono e2).mono e3) q
      exact ⟨p, xs, h1, hK ▸ h2, fun l' hl' => k _ _ (Evo.laid hl') (R3.laid hl') (new_lst R3 hl' (cut_ok h3 l h))⟩
theorem cut_all {ws : List Dv} {lo hi : Option Int} (h1 : HT.sIx ws.length 0 lo = 0) (h2 : HT.sIx ws.length ws.length hi = ws.length) : cutD ws lo hi = ws := by
  unfold cutD
  rw [h1, h2, List.drop_zero, Nat.sub_zero, List.take_length]
theorem me_slT (hK : Γ.K = X.K) (ha : ME X Γ W e f) (hl : MO X Γ W lo flo) (hh : MO X Γ W hi fhi) : ME X Γ W (.Subscript e (.Slice lo hi none p2) pos) (mSl slT f flo fhi) :=
  PE.imp (pe_slice sl_tupA ha hl hh) fun σ H Q ⟨μ, Z, ρ, s, hE, hR, q⟩ => eE hE hR q fun x s1 u H1 μ1 e1 hE1 R1 r1 q1 => oE hE1 R1 q1 fun l s2 H2 μ2 e2 hE2 R2 q2 => oE hE2 R2 q2 fun h s3 H3 μ3 e3 hE3 R3 q3 => by
    obtain ⟨w, hw, k⟩ := ofE q3
    unfold slT at hw
    have r3 := (r1.mono e2).mono e3
    cases q : tupOf x with
    | none => rw [q] at hw; cases hw
    | some ws =>
      rw [q] at hw
      cases hw
      have hx : x = .tup ws := by cases x <;> cases q <;> rfl
      subst hx
      obtain ⟨p, xs, h1, h2, h3⟩ := id r3
      refine ⟨p, xs, h1, hK ▸ h2.sq, fun ⟨z1, z2⟩ => ?_, fun _ l' hl' => k _ _ (Evo.laid hl') (R3.laid hl') (new_tup R3 hl' (cut_ok h3 l h))⟩
      rw [h3.len] at z1 z2
      refine k _ H3 .refl R3 ?_
      show RV Γ H3 μ3 Z (.tup (cutD ws l h)) _
      rw [cut_all z1 z2, ← h1]
      exact r3
def orS (o o' : OS) : OS := fun s x l u => match o s x l u with
  | some w => some w
  | none => o' s x l u
theorem sl_or {o o' : OS} (h : ME X Γ W e (mSl o f flo fhi)) (h' : ME X Γ W e (mSl o' f flo fhi)) : ME X Γ W e (mSl (orS o o') f flo fhi) :=
  PE.imp (PE.or h h') fun σ H Q ⟨μ, Z, ρ, s, hE, hR, q⟩ => by
    have key : PostE Γ W H μ Z σ Q (mSl o f flo fhi ρ s) ∨ PostE Γ W H μ Z σ Q (mSl o' f flo fhi ρ s) := by
      unfold mSl at q ⊢
      revert q
      cases f ρ s with
      | no => exact .inl
      | er x s1 => exact .inl
      | ok x s1 =>
        dsimp only [R.bind]
        cases flo ρ s1 with
        | no => exact .inl
        | er y s2 => exact .inl
        | ok y s2 =>
          dsimp only
          cases fhi ρ s2 with
          | no => exact .inl
          | er y s3 => exact .inl
          | ok z s3 =>
            dsimp only
            intro q
            unfold orS at q
            cases e1 : o s3 x y z with
            | some w => rw [e1] at q; exact .inl q
            | none => rw [e1] at q; exact .inr q
    exact key.imp (fun z => ⟨μ, Z, ρ, s, hE, hR, z⟩) fun z => ⟨μ, Z, ρ, s, hE, hR, z⟩
def slA : OS := orS slL slT
theorem me_sl (hK : Γ.K = X.K) (ha : ME X Γ W e f) (hl : MO X Γ W lo flo) (hh : MO X Γ W hi fhi) : ME X Γ W (.Subscript e (.Slice lo hi none p2) pos) (mSl slA f flo fhi) := sl_or (me_slL hK ha hl hh) (me_slT hK ha hl hh)
theorem Evo.put {H : Hp} {μ : Mu} {n : Nat} {p : Addr} {o : HO} (hn : μ n = some p) : Evo H μ (upd H p o) μ where
  keep := fun a ob h hm => by rw [upd_ne (fun z : a = p => hm n (by rw [z]; exact hn))]; exact h
  mu := fun _ _ h => h
  new := fun _ _ h => .inl h
  stay := fun m a h q => by
    by_cases z : a = p
    · rw [z, upd_same]; intro y; cases y
    · rw [upd_ne z]; exact q
theorem Rep.put {H : Hp} {μ : Mu} {Z : Zs} {s : Sto} {n : Nat} {p : Addr} {o : HO} {ob : Ob} (hR : Rep Γ H μ Z s) (hn : μ n = some p) (ho : RO Γ (upd H p o) μ Z p ob) : Rep Γ (upd H p o) μ Z (s.set n ob) := by
  have ev : Evo H μ (upd H p o) μ := Evo.put hn
  refine ⟨fun m ob' q => ?_, hR.inj, fun m a h => by rw [List.length_set]; exact hR.dom m a h, fun a z => ev.alive (hR.za a z)⟩
  by_cases hm : n = m
  · subst hm
    have hl : n < s.length := hR.dom n p hn
    rw [List.getElem?_set_self hl] at q
    cases q
    exact ⟨p, hn, hR.notZ hn, ho⟩
  · rw [List.getElem?_set_ne hm] at q
    obtain ⟨a, h1, h2, h3⟩ := hR.at m ob' q
    exact ⟨a, h1, h2, h3.mono' ev (upd_ne (fun z : a = p => hm (hR.inj n m p hn (by rw [← z]; exact h1))))⟩
/-- xs.append(e) -/
def mApp (f g : FE) : FE := fun ρ s => (f ρ s).bind fun x s1 => match x with
  | .ref n => match s1[n]? with
    | some (.lst _) => (g ρ s1).bind fun y s2 => match s2[n]? with
      | some (.lst ws) => if ws.length < lim then .ok .non (s2.set n (.lst (ws ++ [y]))) else .no
      | _ => .no
    | _ => .no
  | _ => .no
theorem me_app (h : PE X e (tBM Γ.K "list" rAppend (rdE Γ W f) (tCons (rdE Γ W g) tNil))) : ME X Γ W e (mApp f g) :=
  PE.imp h fun σ H Q ⟨μ, Z, ρ, s, hE, hR, q⟩ => eE hE hR q fun x s1 u H1 μ1 e1 hE1 R1 r1 q1 => by
    cases x with
    | ref n =>
      dsimp only at q1
      split at q1
      · rename_i us q0
        obtain ⟨p, h1, h2⟩ := r1
        obtain ⟨p', g1, _, xs, g3, g4⟩ := R1.at n _ q0
        rw [h2] at g1
        cases g1
        subst h1
        refine ⟨.inl ⟨rfl, xs, SqL.of g3⟩, ?_⟩
        refine eE hE1 R1 q1 fun y s2 v H2 μ2 e2 hE2 R2 r2 q2 => ?_
        split at q2
        · rename_i ws q3
          split at q2
          · rename_i hl
            obtain ⟨p'', k1, _, ys, k3, k4⟩ := R2.at n _ q3
            rw [e2.mu _ _ h2] at k1
            cases k1
            refine ⟨p, ys, v, rfl, rfl, k3, by rw [k4.len]; exact Nat.lt_of_lt_of_le hl (lim_ok (Nat.le_refl _)), ?_⟩
            have ev : Evo H2 μ2 (upd H2 p (.lst (ys ++ [v]))) μ2 := Evo.put (e2.mu _ _ h2)
            exact q2 .non _ μ2 ev (R2.put (e2.mu _ _ h2) ⟨_, upd_same, (k4.append (RVs.cons r2 RVs.nil)).mono ev⟩) rfl
          · exact q2.elim
        · exact q2.elim
      · exact q1.elim
    | _ => exact q1.elim
/-- d[k] = e -/
def mDPut (fo fi fv : FE) : FS := fun ρ s => (fv ρ s).thenC ρ fun v s1 => (fo ρ s1).thenC ρ fun x s2 => (fi ρ s2).thenC ρ fun y s3 => match x, keyOf y with
  | .ref n, some k => match s3[n]? with
    | some (.dct kws) => if kws.length < lim then .nx ρ (s3.set n (.dct (putD kws k v))) else .no
    | _ => .no
  | _, _ => .no
theorem map_len {α β γ : Type} {l : List (α × β)} {l' : List (α × γ)} (h : l.map (·.1) = l'.map (·.1)) : l.length = l'.length := by
  have := congrArg List.length h
  rw [List.length_map, List.length_map] at this
  exact this
theorem ms_dput {o i value : Expr} {pos' : Pos} {fo fi fv : FE} (hu : X.A.units + 1 < cLine) (ho : ME X Γ W o fo) (hi : ME X Γ W i fi) (hv : ME X Γ W value fv) (hs : swapsWith value (some (.Subscript o i pos')) pos.line X.env = pure false) :
    MS X Γ W (.Assign [.Subscript o i pos'] value pos) (mDPut fo fi fv) :=
  PS.imp (ps_dput hu ho hi hv hs) fun D σ H ⟨μ, Z, ρ, s, hE, hR, q⟩ => eS hE hR q fun v s1 uv H1 μ1 e1 hE1 R1 r1 q1 => eS hE1 R1 q1 fun x s2 ux H2 μ2 e2 hE2 R2 r2 q2 => eS hE2 R2 q2 fun y s3 uy H3 μ3 e3 hE3 R3 r3 q3 => by
    split at q3
    · rename_i n k hk
      split at q3
      · rename_i kws q0
        split at q3
        · rename_i hl
          obtain ⟨p, h1, h2⟩ := r2.mono e3
          obtain ⟨p', g1, _, kvs, g3, g4, g5⟩ := R3.at n _ q0
          rw [h2] at g1
          cases g1
          have rv := (r1.mono e2).mono e3
          obtain ⟨k1, k2⟩ := putD_ok (k := k) rv g4 g5
          have ev : Evo H3 μ3 (upd H3 p (.dK (putK kvs k uv))) μ3 := Evo.put h2
          refine ⟨p, upd H3 p (.dK (putK kvs k uv)), h1, .inl ⟨kvs, k, g3, keyOf_ok r3 hk, by rw [map_len g4]; exact Nat.lt_of_lt_of_le hl (lim_ok (Nat.le_refl _)), rfl⟩, ?_⟩
          exact q3 σ _ μ3 ev (R3.put h2 ⟨_, upd_same, k1, k2.mono ev⟩) (hE3.mono ev)
        · exact q3.elim
      · exact q3.elim
    · exact q3.elim
end
end MP
set_option Elab.async false
set_option linter.all false
set_option maxRecDepth 100000
set_option maxHeartbeats 4000000
namespace MP
open PySem PySem.Spec PyProof.Rows L2
end MP
set_option Elab.async false
set_option linter.all false
set_option maxRecDepth 100000
set_option maxHeartbeats 4000000
namespace MP
open PySem PySem.Spec PyProof.Rows L2
def SqX (K : PySem.W.Frag) (H : Hp) (t : Bool) (a : Addr) (xs : List V) : Prop := if t = true then SqT K H a xs else SqL K H a xs
def ItX (h : Heap) (t : Bool) (it a : Addr) (i : Nat) : Prop := if t = true then h.IsTupleIter it a i else h.IsListIter it a i
def HasX (h : Heap) (t : Bool) (a : Addr) (its : Array Value) : Prop := if t = true then h.IsTuple a its else h.IsList a its
theorem ItX.at {h h' : Heap} {t : Bool} {it a : Addr} {i : Nat} (x : ItX h t it a i) (k : ∀ o, h.get? it = some o → h'.get? it = some o) : ItX h' t it a i := by
  unfold ItX at x ⊢
  cases t with
  | true => rw [if_pos rfl] at x ⊢; exact x.at k
  | false => rw [if_neg Bool.false_ne_true] at x ⊢; exact x.at k
theorem ItX.obj {h : Heap} {t : Bool} {it a : Addr} {i : Nat} (x : ItX h t it a i) : ∃ o, h.get? it = some o ∧ ∀ v, o.data ≠ .cell v := by
  unfold ItX at x
  cases t with
  | true => rw [if_pos rfl] at x; obtain ⟨o, e, _, d⟩ := x; exact ⟨o, e, fun v q => by rw [d] at q; cases q⟩
  | false => rw [if_neg Bool.false_ne_true] at x; obtain ⟨o, e, _, d⟩ := x; exact ⟨o, e, fun v q => by rw [d] at q; cases q⟩
theorem drawsX {prog : Program} {w : World} {A : Around} (hh : A.handled = none) (t : Bool) (it a : Addr) (hne : a ≠ it) (items : Array Value) :
    Draws prog w A it [it, a] items.size (fun i v => items[i]? = some v) (fun i h => ItX h t it a i ∧ HasX h t a items) := by
  unfold ItX HasX
  cases t with
  | true => exact Draws.tuple hh it a hne items
  | false => exact Draws.list hh it a hne items
theorem beginsX (t : Bool) (a : Addr) (items : Array Value) : Begins (.ref a) { cls := .type (if t = true then "tuple_iterator" else "list_iterator"), data := .fields #[.ref a, .int 0 0] } fun h => HasX h t a items := by
  unfold HasX
  cases t with
  | true => exact begins_tuple a items
  | false => exact begins_list a items
theorem SqX.has {X : Cx} {pins : List (Addr × Obj)} {σ : L2.St} {H : Hp} {s : Shared} {t : Bool} {a : Addr} {xs : List V} (I : Inv X pins σ H s) (h : SqX X.K H t a xs) : ∃ its : List Value, Vals xs its ∧ HasX s.heap t a its.toArray ∧ a < s.heap.objs.size := by
  unfold SqX at h
  unfold HasX
  cases t with
  | true =>
    rw [if_pos rfl] at h
    obtain ⟨its, r, p, _⟩ := I.tuple h
    exact ⟨its, r, p, p.lt⟩
  | false =>
    rw [if_neg Bool.false_ne_true] at h
    obtain ⟨its, r, p, _⟩ := I.list h
    exact ⟨its, r, p.isList, p.lt⟩
theorem SqX.inj {X : Cx} {pins : List (Addr × Obj)} {σ : L2.St} {H : Hp} {s : Shared} {t : Bool} {a : Addr} {xs ys : List V} (I : Inv X pins σ H s) (h : SqX X.K H t a xs) (h' : SqX X.K H t a ys) : xs = ys := by
  unfold SqX at h h'
  cases t with
  | true => rw [if_pos rfl] at h h'; exact I.tuple_inj h h'
  | false => rw [if_neg Bool.false_ne_true] at h h'; exact I.list_inj h h'
/-- an iterator of new tuples, by the library's own walk: a turn of ours -/
theorem turn_item {X : Cx} {tg : Expr} {it : Addr} {fp fp' wr : List Addr} {n i : Nat} {Y : Nat → Heap → Value → Heap → Prop} {St tn : Nat → Heap → Prop} {pins : List (Addr × Obj)} {s : Shared} {σ : L2.St} {H : Hp} {E : Value → Shared → Prop} {J : It} (I : Inv X pins σ H s) (hf : ∀ b ∈ fp, FpOk X pins H b) (live : ∀ b ∈ fp, b < s.heap.objs.size)
    (G : GoesN X.prog X.w X.A tg it fp' wr n Y St) (hi : i < n) (hst : St i s.heap) (hw : ∀ b ∈ wr, b ∈ fp) (next : ∀ h', (∀ b o, b ∉ wr → s.heap.get? b = some o → h'.get? b = some o) → St (i + 1) h' → tn (i + 1) h')
    (yl : ∀ v h', Y i s.heap v h' → ∃ T vals us, v = .ref T ∧ s.heap.objs.size ≤ T ∧ h'.IsTuple T us ∧ Vals vals us.toList ∧ vals.length ≤ sizeLine ∧ J.yld i H (.ref T) (upd H T (.tup vals))) :
    wpAny (model X.prog X.w) X.A (pyNext (.ref it)) (fun r s1 => ∃ u, r = some u ∧
      wpAny (model X.prog X.w) X.A (letOwnedTupleGo tg (.ref it) u) (fun _ s2 => ∃ x H', Inv X pins σ H' s2 ∧ RelV x u ∧ J.yld i H x H' ∧ tn (i + 1) s2.heap ∧ ∀ b ∈ fp, H' b = none) E s1) E s := by
  refine G.goes i s (fun u s2 => ∃ x H', Inv X pins σ H' s2 ∧ RelV x u ∧ J.yld i H x H' ∧ tn (i + 1) s2.heap ∧ ∀ b ∈ fp, H' b = none) E hi hst fun v h' tk hY st' hk _ => ?_
  obtain ⟨T, vals, us, rfl, hT, ht, rv, hl, hy⟩ := yl v h' hY
  have new : ObjOk X.prog X.w (upd H T (.tup vals)) h' T (.tup vals) := ⟨hl, us.toList, rv, by rw [Array.toArray_toList]; exact ht⟩
  have J1 : Inv X pins σ (upd H T (.tup vals)) { s with heap := h', toks := tk } := I.turnedNew (ch := fp) (fun b o hb q => hk b o (fun z => hb (hw b z)) q) hf hT new
  refine ⟨.ref T, _, J1, rfl, hy, next h' hk st', fun b hb => ?_⟩
  rw [upd_ne (Nat.ne_of_lt (Nat.lt_of_lt_of_le (live b hb) hT))]
  exact (hf b hb).1
def JZip (K : PySem.W.Frag) (t u : Bool) (a b : Addr) : It :=
  ⟨fun i H => ∃ (xs ys : List V) (x y : V), SqX K H t a xs ∧ SqX K H u b ys ∧ xs[i]? = some x ∧ ys[i]? = some y,
   fun i H v H' => ∃ T x y, v = .ref T ∧ H T = none ∧ H' = upd H T (.tup [x, y]) ∧ (∀ xs, SqX K H t a xs → xs[i]? = some x) ∧ ∀ ys, SqX K H u b ys → ys[i]? = some y,
   fun i H => ∃ xs ys : List V, SqX K H t a xs ∧ SqX K H u b ys ∧ min xs.length ys.length = i⟩
def ZipTn (t u : Bool) (a b : Addr) (N : Nat) (i : Nat) (h : Heap) : Prop := IsZip h (N + 4) (N + 2) (N + 3) .none ∧ IsTupOf2 h (N + 2) (.ref N) (.ref (N + 1)) ∧ (∃ x y, IsTupOf2 h (N + 3) x y) ∧ ItX h t N a i ∧ ItX h u (N + 1) b i
theorem turn_zipX {P : Program} {w : World} {K : PySem.W.Frag} {elts : List Expr} {kk : Nat} {tpos : Pos} {t u : Bool} {a b : Addr} {N : Nat} (la : a < N) (lb : b < N) :
    Turn P w K (.Tuple elts kk tpos) (JZip K t u a b) [N + 4, N + 2, N + 3, N, N + 1] (N + 4) (ZipTn t u a b N) where
  mem := by simp
  obj := fun i h st c hc => by
    obtain ⟨hz, hTI, ⟨x, y, hTO⟩, h1, h2⟩ := st
    have e : c = N + 4 ∨ c = N + 2 ∨ c = N + 3 ∨ c = N ∨ c = N + 1 := by simpa using hc
    rcases e with q | q | q | q | q
    · rw [q]; exact ⟨_, hz, fun v q => nomatch q⟩
    · rw [q]; exact ⟨_, hTI, fun v q => nomatch q⟩
    · rw [q]; exact ⟨_, hTO, fun v q => nomatch q⟩
    · rw [q]; exact h1.obj
    · rw [q]; exact h2.obj
  keep := fun i h h' st k => by
    obtain ⟨hz, hTI, ⟨x, y, hTO⟩, h1, h2⟩ := st
    exact ⟨k _ (by simp) _ hz, k _ (by simp) _ hTI, ⟨x, y, k _ (by simp) _ hTO⟩, h1.at fun o q => k N (by simp) o q, h2.at fun o q => k (N + 1) (by simp) o q⟩
  item := by
    intro X hP hw hK hc i pins s σ H E I hf st hg
    subst hP hw hK
    obtain ⟨xs, ys, x, y, hqx, hqy, hx, hy⟩ := hg
    obtain ⟨its, rv, p, _⟩ := hqx.has I
    obtain ⟨its2, rv2, p2, _⟩ := hqy.has I
    obtain ⟨v1, hv1, r1⟩ := rv.get hx
    obtain ⟨v2, hv2, r2⟩ := rv2.get hy
    have hh : X.A.in1.handled = none := I.ok.hd hc
    have sep := zip_sep2 (N := N) (fp1 := [a]) (fp2 := [b]) (by simpa using la) (by simpa using lb)
    have G := GoesN.zip2 (prog := X.prog) (w := X.w) (A := X.A) (elts := elts) (x1 := kk) (pos := tpos) sep (drawsX hh t N a (Nat.ne_of_lt la) its.toArray) (drawsX hh u (N + 1) b (Nat.ne_of_lt (Nat.lt_succ_of_lt lb)) its2.toArray)
    obtain ⟨hz, hTI, hTO, h1, h2⟩ := id st
    have l1 := (List.getElem?_eq_some_iff.mp hv1).1
    have l2 := (List.getElem?_eq_some_iff.mp hv2).1
    have liveX : ∀ c ∈ [N + 4, N + 2, N + 3, N, N + 1], c < s.heap.objs.size := fun c hc => by
      have hN : N + 4 < s.heap.objs.size := Heap.lt_size hz
      have e : c = N + 4 ∨ c = N + 2 ∨ c = N + 3 ∨ c = N ∨ c = N + 1 := by simpa using hc
      omega
    refine turn_item (tn := ZipTn t u a b N) I hf liveX G (by simp; omega) ⟨hz, hTI, hTO, ⟨h1, p⟩, h2, p2⟩ (fun c hc => by
      have e : c = N + 4 ∨ c = N + 3 ∨ c = N ∨ c = N + 1 := by simpa using hc
      rcases e with q | q | q | q <;> (rw [q]; simp)) (fun h' _ st' => show ZipTn t u a b N (i + 1) h' from ⟨st'.1, st'.2.1, st'.2.2.1, st'.2.2.2.1.1, st'.2.2.2.2.1⟩) fun v h' hY => ?_
    obtain ⟨T, c1, c2, rfl, hT, e1, e2, ht⟩ := hY
    have e1' : its[i]? = some c1 := by simpa using e1
    have e2' : its2[i]? = some c2 := by simpa using e2
    rw [hv1] at e1'
    rw [hv2] at e2'
    cases e1'
    cases e2'
    exact ⟨T, [x, y], #[v1, v2], rfl, hT, ht, .cons r1 (.cons r2 .nil), (show 2 ≤ sizeLine by rw [sizeLine_eq]; decide), T, x, y, rfl, I.hok.fresh hT, rfl, fun l hl => by rw [SqX.inj I hl hqx]; exact hx, fun l hl => by rw [SqX.inj I hl hqy]; exact hy⟩
  done := by
    intro X hP hw hK hc i pins s σ H E I hf st hg
    subst hP hw hK
    obtain ⟨xs, ys, hqx, hqy, hend⟩ := hg
    obtain ⟨its, rv, p, _⟩ := hqx.has I
    obtain ⟨its2, rv2, p2, _⟩ := hqy.has I
    have hh : X.A.in1.handled = none := I.ok.hd hc
    have sep := zip_sep2 (N := N) (fp1 := [a]) (fp2 := [b]) (by simpa using la) (by simpa using lb)
    have G := GoesN.zip2 (prog := X.prog) (w := X.w) (A := X.A) (elts := elts) (x1 := kk) (pos := tpos) sep (drawsX hh t N a (Nat.ne_of_lt la) its.toArray) (drawsX hh u (N + 1) b (Nat.ne_of_lt (Nat.lt_succ_of_lt lb)) its2.toArray)
    obtain ⟨hz, hTI, hTO, h1, h2⟩ := id st
    have l1 := rv.length
    have l2 := rv2.length
    have hn : min its.toArray.size its2.toArray.size = i := by simp; omega
    rw [hn] at G
    exact G.stops s (fun s1 => Inv X pins σ H s1) E ⟨hz, hTI, hTO, ⟨h1, p⟩, h2, p2⟩ fun h' tk hk _ => I.turnedL (ch := [N + 4, N + 2, N + 3, N, N + 1]) (fun c o hb q => hk c o (fun z => hb (by
      have e : c = N + 4 ∨ c = N + 3 ∨ c = N ∨ c = N + 1 := by simpa using z
      rcases e with q | q | q | q <;> (rw [q]; simp))) q) hf
  self := fun A i s Q E st h => wpAny_pyIter_zip st.1 h
def JEnum (K : PySem.W.Frag) (t : Bool) (a : Addr) : It :=
  ⟨fun i H => ∃ (xs : List V) (x : V), SqX K H t a xs ∧ xs[i]? = some x,
   fun i H v H' => ∃ T x, v = .ref T ∧ H T = none ∧ H' = upd H T (.tup [.int (i : Nat), x]) ∧ ∀ xs, SqX K H t a xs → xs[i]? = some x,
   fun i H => ∃ xs : List V, SqX K H t a xs ∧ xs.length = i⟩
def EnumTn (t : Bool) (a : Addr) (N : Nat) (i : Nat) (h : Heap) : Prop := (∃ old, IsEnum h (N + 1) N ((0 : Int) + (i : Int)) old) ∧ ItX h t N a i
theorem turn_enumX {P : Program} {w : World} {K : PySem.W.Frag} {elts : List Expr} {kk : Nat} {tpos : Pos} {t : Bool} {a : Addr} {N : Nat} (la : a < N) :
    Turn P w K (.Tuple elts kk tpos) (JEnum K t a) [N + 1, N] (N + 1) (EnumTn t a N) where
  mem := by simp
  obj := fun i h st c hc => by
    obtain ⟨⟨old, he⟩, h1⟩ := st
    have e : c = N + 1 ∨ c = N := by simpa using hc
    rcases e with q | q
    · rw [q]; exact ⟨_, he, fun v q => nomatch q⟩
    · rw [q]; exact h1.obj
  keep := fun i h h' st k => by
    obtain ⟨⟨old, he⟩, h1⟩ := st
    exact ⟨⟨old, k _ (by simp) _ he⟩, h1.at fun o q => k N (by simp) o q⟩
  item := by
    intro X hP hw hK hc i pins s σ H E I hf st hg
    subst hP hw hK
    obtain ⟨xs, x, hqx, hx⟩ := hg
    obtain ⟨its, rv, p, _⟩ := hqx.has I
    obtain ⟨v1, hv1, r1⟩ := rv.get hx
    have hh : X.A.in1.handled = none := I.ok.hd hc
    have nf : N + 1 ∉ [N, a] := fun m => by
      rcases List.mem_cons.mp m with e | e
      · exact Nat.succ_ne_self N e
      · exact Nat.lt_irrefl a (Nat.lt_trans la ((List.mem_singleton.mp e) ▸ Nat.lt_succ_self N))
    have G := GoesN.enumFrom (prog := X.prog) (w := X.w) (A := X.A) (elts := elts) (x1 := kk) (pos := tpos) 0 (drawsX hh t N a (Nat.ne_of_lt la) its.toArray) (N + 1) (Nat.succ_ne_self N) nf (by simp)
    obtain ⟨⟨old, he⟩, h1⟩ := id st
    have l1 := (List.getElem?_eq_some_iff.mp hv1).1
    have liveX : ∀ c ∈ [N + 1, N], c < s.heap.objs.size := fun c hc => by
      have hN : N + 1 < s.heap.objs.size := Heap.lt_size he
      have e : c = N + 1 ∨ c = N := by simpa using hc
      omega
    refine turn_item (tn := EnumTn t a N) I hf liveX G (by simpa using l1) ⟨⟨old, he⟩, h1, p⟩ (fun c hc => hc) (fun h' _ st' => show EnumTn t a N (i + 1) h' from ⟨st'.1, st'.2.1⟩) fun v h' hY => ?_
    obtain ⟨T, tt, c1, rfl, hT, e1, ht⟩ := hY
    have e1' : its[i]? = some c1 := by simpa using e1
    rw [hv1] at e1'
    cases e1'
    rw [Int.zero_add] at ht
    exact ⟨T, [.int (i : Nat), x], #[.int (i : Nat) tt, v1], rfl, hT, ht, .cons ⟨tt, rfl⟩ (.cons r1 .nil), (show 2 ≤ sizeLine by rw [sizeLine_eq]; decide), T, x, rfl, I.hok.fresh hT, rfl, fun l hl => by rw [SqX.inj I hl hqx]; exact hx⟩
  done := by
    intro X hP hw hK hc i pins s σ H E I hf st hg
    subst hP hw hK
    obtain ⟨xs, hqx, hend⟩ := hg
    obtain ⟨its, rv, p, _⟩ := hqx.has I
    have hh : X.A.in1.handled = none := I.ok.hd hc
    have nf : N + 1 ∉ [N, a] := fun m => by
      rcases List.mem_cons.mp m with e | e
      · exact Nat.succ_ne_self N e
      · exact Nat.lt_irrefl a (Nat.lt_trans la ((List.mem_singleton.mp e) ▸ Nat.lt_succ_self N))
    have G := GoesN.enumFrom (prog := X.prog) (w := X.w) (A := X.A) (elts := elts) (x1 := kk) (pos := tpos) 0 (drawsX hh t N a (Nat.ne_of_lt la) its.toArray) (N + 1) (Nat.succ_ne_self N) nf (by simp)
    obtain ⟨⟨old, he⟩, h1⟩ := id st
    have l1 := rv.length
    have hn : its.toArray.size = i := by simp; omega
    rw [hn] at G
    exact G.stops s (fun s1 => Inv X pins σ H s1) E ⟨⟨old, he⟩, h1, p⟩ fun h' tk hk _ => I.turnedL (ch := [N + 1, N]) (fun c o hb q => hk c o hb q) hf
  self := fun A i s Q E st h => let ⟨⟨_, he⟩, _⟩ := st; wpAny_pyIter_enum he h
section
variable {X : Cx} {Γ : Ct} {W : WX}
def iZipG (K : PySem.W.Frag) (ta : TA) : TI := fun σ H R => ta σ H fun vs H1 => ∃ t u a b xs ys, vs = [.ref a, .ref b] ∧ SqX K H1 t a xs ∧ SqX K H1 u b ys ∧ R (JZip K t u a b) H1
theorem pi_zipG {e e2 : Expr} {ta : TA} {p pos tpos : Pos} {elts : List Expr} {kk : Nat} (hg : Gl X "zip") (hm : X.mg "zip" = none) (ha : PA X [e, e2] ta) (hs : starEach [e, e2] X.env = (false, eval e X.env) :: starEach [e2] X.env := by rfl) (hpl : (backTo pos (starEach [e2] X.env)).any (·.1) = false := by rfl) :
    PI X (.Tuple elts kk tpos) (.Call (.Name "zip" p) [e, e2] [] pos) (iZipG X.K ta) := by
  refine ⟨fun pins s σ H R I h => ?_⟩
  refine Call_ (ld_blt I hg hm boot_zip (callWith_type1 (thn (ha.run pos pins s σ H _ I h) fun us s1 ⟨vs, H1, I1, r1, q1⟩ => ?_) hs hpl))
  obtain ⟨t, u, a, b, xs, ys, rfl, hqx, hqy, q⟩ := q1
  obtain ⟨v, us', rfl, rfl⟩ : ∃ v us', us = v :: us' ∧ v = Value.ref a := by cases r1 with | cons r rr => exact ⟨_, _, rfl, r⟩
  obtain ⟨v', rfl, rfl⟩ : ∃ v', us' = [v'] ∧ v' = Value.ref b := by
    cases r1 with
    | cons r rr => cases rr with
      | cons r' rr' => cases rr'; exact ⟨_, rfl, r'⟩
  obtain ⟨its, rv, p1, la⟩ := hqx.has I1
  obtain ⟨its2, rv2, p2, lb⟩ := hqy.has I1
  refine zip_begins2 (beginsX t a its.toArray) (beginsX u b its2.toArray) p1 p2 fun h' hz hTI hTO h1 h2 _ hk => wpAny_pyIter_zip hz ?_
  have I2 : Inv X pins σ H1 { s1 with heap := h' } := I1.kept (t' := s1.toks) hk
  refine ⟨_, [s1.heap.objs.size + 4, s1.heap.objs.size + 2, s1.heap.objs.size + 3, s1.heap.objs.size, s1.heap.objs.size + 1], _, _, H1, rfl, I2, turn_zipX la lb, ⟨hz, hTI, ⟨_, _, hTO⟩, ?_, ?_⟩, fun c hc => ?_, q⟩
  · unfold ItX
    cases t with
    | true => exact ⟨_, h1, rfl, rfl⟩
    | false => exact ⟨_, h1, rfl, rfl⟩
  · unfold ItX
    cases u with
    | true => exact ⟨_, h2, rfl, rfl⟩
    | false => exact ⟨_, h2, rfl, rfl⟩
  · have e' : c = s1.heap.objs.size + 4 ∨ c = s1.heap.objs.size + 2 ∨ c = s1.heap.objs.size + 3 ∨ c = s1.heap.objs.size ∨ c = s1.heap.objs.size + 1 := by simpa using hc
    have hle : s1.heap.objs.size ≤ c := by rcases e' with z | z | z | z | z <;> (rw [z]; first | exact Nat.le_refl _ | exact Nat.le_add_right _ _)
    exact I1.fpOk hle (I1.hok.fresh hle)
def zipD : List Dv → List Dv → List Dv
  | a :: r, b :: t => .tup [a, b] :: zipD r t
  | _, _ => []
theorem zipD_len : ∀ (l m : List Dv), (zipD l m).length = min l.length m.length
  | [], _ => by simp [zipD]
  | _ :: _, [] => by simp [zipD]
  | a :: r, b :: t => by simp [zipD, zipD_len r t]
theorem zipD_get : ∀ {l m : List Dv} {i : Nat} {w : Dv}, (zipD l m)[i]? = some w → ∃ x y, l[i]? = some x ∧ m[i]? = some y ∧ w = .tup [x, y]
  | [], _, _, _, h => by simp [zipD] at h
  | _ :: _, [], _, _, h => by simp [zipD] at h
  | a :: r, b :: t, 0, w, h => by simp [zipD] at h; exact ⟨a, b, rfl, rfl, h.symm⟩
  | a :: r, b :: t, i + 1, w, h => by
    have h' : (zipD r t)[i]? = some w := by simpa [zipD] using h
    obtain ⟨x, y, h1, h2, h3⟩ := zipD_get h'
    exact ⟨x, y, by simpa using h1, by simpa using h2, h3⟩
/-- a plain sequence, not of the store -/
def plainOf : Dv → Option (Bool × List Dv)
  | .tup ws => some (true, ws)
  | .lst ws => some (false, ws)
  | .sq ws => some (false, ws)
  | _ => none
theorem plain_ok {H : Hp} {μ : Mu} {Z : Zs} {w : Dv} {v : V} {t : Bool} {ws : List Dv} (r : RV Γ H μ Z w v) (e : plainOf w = some (t, ws)) : ∃ a xs, v = .ref a ∧ RVs Γ H μ Z ws xs ∧ ∀ H' μ', EvoZ Z H μ H' μ' → SqX Γ.K H' t a xs := by
  cases w with
  | tup us =>
    cases e
    obtain ⟨a, xs, h1, h2, h3⟩ := r
    exact ⟨a, xs, h1, h3, fun H' μ' ev => (h2.monoZ ev).sq⟩
  | sq us =>
    cases e
    obtain ⟨a, xs, h1, h2, h3⟩ := r
    exact ⟨a, xs, h1, h3, fun H' μ' ev => (h2.monoZ ev).sq⟩
  | lst us =>
    cases e
    obtain ⟨a, xs, h1, h2, h3, h4⟩ := r
    exact ⟨a, xs, h1, h4, fun H' μ' ev => SqL.of (ev.keep _ _ h2 h3.1 h3.2)⟩
  | _ => cases e
def iZip2 (fa : FA) : FI := fun ρ s => (fa ρ s).bind fun ws s1 => match ws with
  | [x, y] => match plainOf x, plainOf y with
    | some (_, a), some (_, b) => .ok { ws := zipD a b } s1
    | _, _ => .no
  | _ => .no
theorem mi_zip {e e2 : Expr} {fa : FA} {p pos tpos : Pos} {elts : List Expr} {kk : Nat} (hK : Γ.K = X.K) (hg : Gl X "zip") (hm : X.mg "zip" = none) (ha : MA X Γ W [e, e2] fa) (hs : starEach [e, e2] X.env = (false, eval e X.env) :: starEach [e2] X.env := by rfl) (hpl : (backTo pos (starEach [e2] X.env)).any (·.1) = false := by rfl) :
    MI X Γ W (.Tuple elts kk tpos) (.Call (.Name "zip" p) [e, e2] [] pos) (iZip2 fa) :=
  PI.imp (pi_zipG hg hm ha hs hpl) fun σ H Q ⟨μ, Z, ρ, s, hE, hR, q⟩ => iA hE hR q fun ws s1 vs H1 μ1 e1 E1 R1 r1 q1 => by
    split at q1
    · rename_i x y
      split at q1
      · rename_i t a u b qx qy
        obtain ⟨v, v', rfl, rx, ry⟩ := two r1
        obtain ⟨pa, xs, rfl, r2, k2⟩ := plain_ok rx qx
        obtain ⟨pb, ys, rfl, r3, k3⟩ := plain_ok ry qy
        rw [← hK]
        refine ⟨t, u, pa, pb, xs, ys, rfl, k2 _ _ Evo.refl.z, k3 _ _ Evo.refl.z, q1 _ _ _ .refl R1 fun H' μ' Z' s' ev hR' hy hz _ => ⟨⟨xs, ys, k2 _ _ ev, k3 _ _ ev, by rw [zipD_len, r2.len, r3.len]⟩, fun i w hi => ?_⟩⟩
        obtain ⟨x', y', g1, g2, rfl⟩ := zipD_get hi
        obtain ⟨ux, h1, h2⟩ := r2.get g1
        obtain ⟨uy, h3, h4⟩ := r3.get g2
        refine ⟨⟨xs, ys, ux, uy, k2 _ _ ev, k3 _ _ ev, h1, h3⟩, fun z H'' hq => ?_⟩
        obtain ⟨T, zx, zy, rfl, hT, rfl, j1, j2⟩ := hq
        have e3 := j1 xs (k2 _ _ ev)
        have e4 := j2 ys (k3 _ _ ev)
        rw [h1] at e3
        rw [h3] at e4
        cases e3
        cases e4
        exact ⟨Evo.laid hT, hR'.laid hT, new_tup hR' hT (RVs.cons ((RV.strong hz _ h2).monoZ (ev.more hy)) (RVs.cons ((RV.strong hz _ h4).monoZ (ev.more hy)) RVs.nil))⟩
      · exact q1.elim
    · exact q1.elim
def iEnumG (K : PySem.W.Frag) (ta : TA) : TI := fun σ H R => ta σ H fun vs H1 => ∃ t a xs, vs = [.ref a] ∧ SqX K H1 t a xs ∧ R (JEnum K t a) H1
def enumD : Nat → List Dv → List Dv
  | _, [] => []
  | n, a :: r => .tup [.int (n : Nat), a] :: enumD (n + 1) r
theorem enumD_len : ∀ (n : Nat) (l : List Dv), (enumD n l).length = l.length
  | _, [] => rfl
  | n, a :: r => by simp [enumD, enumD_len (n + 1) r]
theorem enumD_get : ∀ {l : List Dv} {n i : Nat} {w : Dv}, (enumD n l)[i]? = some w → ∃ x, l[i]? = some x ∧ w = .tup [.int ((n + i : Nat) : Int), x]
  | [], _, _, _, h => by simp [enumD] at h
  | a :: r, n, 0, w, h => by simp [enumD] at h; exact ⟨a, rfl, h.symm⟩
  | a :: r, n, i + 1, w, h => by
    have h' : (enumD (n + 1) r)[i]? = some w := by simpa [enumD] using h
    obtain ⟨x, h1, h2⟩ := enumD_get h'
    exact ⟨x, by simpa using h1, by rw [h2]; simp; omega⟩
def iEnum1 (fa : FA) : FI := fun ρ s => (fa ρ s).bind fun ws s1 => match ws with
  | [x] => match plainOf x with
    | some (_, a) => .ok { ws := enumD 0 a } s1
    | none => .no
  | _ => .no
end
end MP
set_option Elab.async false
set_option linter.all false
set_option maxRecDepth 100000
set_option maxHeartbeats 4000000
namespace MP
open PySem PySem.Spec PyProof.Rows L2
theorem enum_new {v : Value} {o : Obj} {Hh : Heap → Prop} (B : Begins v o Hh) : Meets (Builtin.«enumerate.__new__» ⟨[.type "enumerate", v], []⟩) (fun _ R s => Hh s.heap ∧
    R (.ok (.ret (.ref (s.heap.push o).objs.size))) { s with heap := (s.heap.push o).push { cls := .type "enumerate", data := .fields #[.none, .bool false, .ref s.heap.objs.size, rawInt 0, .none, .none] } }) :=
  .of_wp fun prog w A R s h => by
    obtain ⟨hp, g, d, tk, os⟩ := s
    obtain ⟨h1, h⟩ := h
    have hsub := sub_enumerate
    have it : ∀ {A' : Around} {E Q : Value → Shared → Prop}, Q (.ref hp.objs.size) ⟨hp.push o, g, d, tk, os⟩ → wpAny (model prog w) A' (pyIter v) Q E ⟨hp, g, d, tk, os⟩ := fun q => B.iter prog w _ _ ⟨hp, g, d, tk, os⟩ _ h1 q
    wp_walk using it
    refine wpAny_stack_any fun st => wpAny_pure ?_
    split
    · rename_i c _ _ _ _ _
      cases (c == Value.type "enumerate") <;> (wp_walk using it; exact ⟨_, rfl, h⟩)
    · wp_walk using it
      exact ⟨_, rfl, h⟩
section
variable {prog : Program} {w : World} {A : Around} {E : Value → Shared → Prop} {s : Shared}
theorem enum_call {v : Value} {o : Obj} {Hh : Heap → Prop} {Q : Value → Shared → Prop} (B : Begins v o Hh) (h1 : Hh s.heap)
    (h : ∀ h', IsEnum h' (s.heap.objs.size + 1) s.heap.objs.size 0 .none → h'.get? s.heap.objs.size = some o → (∀ b o, s.heap.get? b = some o → h'.get? b = some o) → Q (.ref (s.heap.objs.size + 1)) { s with heap := h' }) :
    wpAny (model prog w) A (call (.type "enumerate") [v]) Q E s := by
  refine callType_new F.called_enumerate (by decide) (F.typeCall_enumerate_1 _) (F.newCall_enumerate_1 _) (fun obj => F.args_object_init_2 obj _) F.entry_enumerate_new (enum_new B) ⟨h1, ?_⟩
  have sz : (s.heap.push o).objs.size = s.heap.objs.size + 1 := Heap.size_push ..
  show _ ∧ _
  rw [sz]
  have e := Heap.get?_push_size (s.heap.push o) (o := { cls := .type "enumerate", data := .fields #[.none, .bool false, .ref s.heap.objs.size, rawInt 0, .none, .none] }) rfl
  rw [sz] at e
  exact ⟨⟨_, e, rfl⟩, h _ e (Heap.get?_push_of_some _ (Heap.get?_push_size _ B.free)) fun b o x => Heap.get?_push_of_some _ (Heap.get?_push_of_some _ x)⟩
end
section
variable {X : Cx} {Γ : Ct} {W : WX}
theorem pi_enumG {e : Expr} {ta : TA} {p pos tpos : Pos} {elts : List Expr} {kk : Nat} (hg : Gl X "enumerate") (hm : X.mg "enumerate" = none) (ha : PA X [e] ta) (hs : starEach [e] X.env = [(false, eval e X.env)] := by rfl) :
    PI X (.Tuple elts kk tpos) (.Call (.Name "enumerate" p) [e] [] pos) (iEnumG X.K ta) := by
  refine ⟨fun pins s σ H R I h => ?_⟩
  refine Call_ (ld_blt I hg hm boot_enumerate (callWith_type1 (thn (ha.run pos pins s σ H _ I h) fun us s1 ⟨vs, H1, I1, r1, q1⟩ => ?_) hs rfl))
  obtain ⟨t, a, xs, rfl, hqx, q⟩ := q1
  obtain ⟨v, rfl, rfl⟩ : ∃ v, us = [v] ∧ v = Value.ref a := by
    cases r1 with
    | cons r rr => cases rr; exact ⟨_, rfl, r⟩
  obtain ⟨its, rv, p1, la⟩ := hqx.has I1
  refine enum_call (beginsX t a its.toArray) p1 fun h' he h1 hk => wpAny_pyIter_enum he ?_
  have I2 : Inv X pins σ H1 { s1 with heap := h' } := I1.kept (t' := s1.toks) hk
  refine ⟨_, [s1.heap.objs.size + 1, s1.heap.objs.size], _, _, H1, rfl, I2, turn_enumX la, ⟨⟨.none, he⟩, ?_⟩, fun c hc => ?_, q⟩
  · unfold ItX
    cases t with
    | true => exact ⟨_, h1, rfl, rfl⟩
    | false => exact ⟨_, h1, rfl, rfl⟩
  · have e' : c = s1.heap.objs.size + 1 ∨ c = s1.heap.objs.size := by simpa using hc
    have hle : s1.heap.objs.size ≤ c := by rcases e' with z | z <;> (rw [z]; first | exact Nat.le_refl _ | exact Nat.le_add_right _ _)
    exact I1.fpOk hle (I1.hok.fresh hle)
theorem mi_enum {e : Expr} {fa : FA} {p pos tpos : Pos} {elts : List Expr} {kk : Nat} (hK : Γ.K = X.K) (hg : Gl X "enumerate") (hm : X.mg "enumerate" = none) (ha : MA X Γ W [e] fa) (hs : starEach [e] X.env = [(false, eval e X.env)] := by rfl) :
    MI X Γ W (.Tuple elts kk tpos) (.Call (.Name "enumerate" p) [e] [] pos) (iEnum1 fa) :=
  PI.imp (pi_enumG hg hm ha hs) fun σ H Q ⟨μ, Z, ρ, s, hE, hR, q⟩ => iA hE hR q fun ws s1 vs H1 μ1 e1 E1 R1 r1 q1 => by
    split at q1
    · rename_i x
      split at q1
      · rename_i t a qx
        obtain ⟨v, rfl, rx⟩ := one r1
        obtain ⟨pa, xs, rfl, r2, k2⟩ := plain_ok rx qx
        rw [← hK]
        refine ⟨t, pa, xs, rfl, k2 _ _ Evo.refl.z, q1 _ _ _ .refl R1 fun H' μ' Z' s' ev hR' hy hz _ => ⟨⟨xs, k2 _ _ ev, by rw [enumD_len, r2.len]⟩, fun i w hi => ?_⟩⟩
        obtain ⟨x', g1, rfl⟩ := enumD_get hi
        obtain ⟨ux, h1, h2⟩ := r2.get g1
        refine ⟨⟨xs, ux, k2 _ _ ev, h1⟩, fun z H'' hq => ?_⟩
        obtain ⟨T, zx, rfl, hT, rfl, j1⟩ := hq
        have e3 := j1 xs (k2 _ _ ev)
        rw [h1] at e3
        cases e3
        rw [Nat.zero_add]
        exact ⟨Evo.laid hT, hR'.laid hT, new_tup hR' hT (RVs.cons (w := .int (i : Nat)) rfl (RVs.cons ((RV.strong hz _ h2).monoZ (ev.more hy)) RVs.nil))⟩
      · exact q1.elim
    · exact q1.elim
def disp : Dv → Bool
  | .tup _ => true | .lst _ => true | .sq _ => true | .ref _ => true
  | _ => false
def reprD : ON := fun s xs => match xs with
  | [x] => if disp x = true then match toD s x with
      | some d => if d.showable = true ∧ d.hasDict = false ∧ d.depth ≤ 60 ∧ d.shown.length ≤ lim then some (.str d.shown) else none
      | none => none
    else none
  | _ => none
theorem sRepr (hK : Γ.K = X.K) : OpN Γ (rRepr X.K) reprD := fun H μ Z s xs w vs Q hR rx e k => by
  rw [← hK]
  unfold reprD at e
  split at e
  · rename_i x
    split at e
    · rename_i hd
      split at e
      · rename_i d q
        split at e
        · rename_i hc
          cases e
          obtain ⟨v, rfl, r1⟩ := one rx
          have hv : ∃ a, v = .ref a := by
            cases x with
            | tup _ => obtain ⟨a, _, h, _⟩ := r1; exact ⟨a, h⟩
            | lst _ => obtain ⟨a, _, h, _⟩ := r1; exact ⟨a, h⟩
            | sq _ => obtain ⟨a, _, h, _⟩ := r1; exact ⟨a, h⟩
            | ref _ => obtain ⟨a, h, _⟩ := r1; exact ⟨a, h⟩
            | _ => cases hd
          obtain ⟨a, rfl⟩ := hv
          exact ⟨_, a, d, rfl, rfl, toD_ok hR r1 q, hc.1, hc.2.1, hc.2.2.1, lim_ok hc.2.2.2, k _ H .refl hR rfl⟩
        · cases e
      · cases e
    · cases e
  · cases e
def mPairs : List (FE × FE) → Env → Sto → R (List (Dv × Dv))
  | [], _, s => .ok [] s
  | (f, g) :: r, ρ, s => (f ρ s).bind fun x s1 => (g ρ s1).bind fun y s2 => (mPairs r ρ s2).bind fun ps s3 => .ok ((x, y) :: ps) s3
def keysOf : List (Dv × Dv) → Option (List (Key × Dv))
  | [] => some []
  | (x, y) :: r => match keyOf x, keysOf r with
    | some k, some l => some ((k, y) :: l)
    | _, _ => none
def mDctM (ps : List (FE × FE)) : FE := fun ρ s => match mPairs ps ρ s with
  | .ok l s1 => match keysOf l with
    | some kws => if kws.length ≤ 15 then .ok (.ref s1.length) (s1 ++ [.dct (kws.foldl (fun acc kv => putD acc kv.1 kv.2) [])]) else .no
    | none => .no
  | _ => .no
theorem pairs_ok {Z : Zs} {σ : L2.St} {ρ : Env} : ∀ {ps : List (FE × FE)} {H : Hp} {μ : Mu} {s s' : Sto} {l : List (Dv × Dv)} {Q' : List (V × V) → Hp → Prop}, RE Γ H μ Z ρ σ → Rep Γ H μ Z s → mPairs ps ρ s = .ok l s' →
    (∀ vs H1 μ1, Evo H μ H1 μ1 → Rep Γ H1 μ1 Z s' → RVs Γ H1 μ1 Z (l.map (·.1)) (vs.map (·.1)) → RVs Γ H1 μ1 Z (l.map (·.2)) (vs.map (·.2)) → Q' vs H1) →
    tPairs (ps.map fun p => (rdE Γ W p.1, rdE Γ W p.2)) σ H Q'
  | [], H, μ, s, s', l, Q', hE, hR, q, hk => by
    cases q
    exact hk [] H μ .refl hR rfl rfl
  | (f, g) :: r, H, μ, s, s', l, Q', hE, hR, q, hk => by
    simp only [mPairs] at q
    cases e1 : f ρ s with
    | no => rw [e1] at q; cases q
    | er x s1 => rw [e1] at q; cases q
    | ok x s1 =>
      rw [e1] at q
      dsimp only [R.bind] at q
      cases e2 : g ρ s1 with
      | no => rw [e2] at q; cases q
      | er y s2 => rw [e2] at q; cases q
      | ok y s2 =>
        rw [e2] at q
        dsimp only at q
        cases e3 : mPairs r ρ s2 with
        | no => rw [e3] at q; cases q
        | er y s2 => rw [e3] at q; cases q
        | ok l' s3 =>
          rw [e3] at q
          cases q
          refine ⟨μ, Z, ρ, s, hE, hR, ?_⟩
          show PostE Γ W H μ Z σ _ (f ρ s)
          rw [e1]
          intro u H1 μ1 v1 R1 r1
          refine ⟨μ1, Z, ρ, s1, hE.mono v1, R1, ?_⟩
          show PostE Γ W H1 μ1 Z σ _ (g ρ s1)
          rw [e2]
          intro v H2 μ2 v2 R2 r2
          exact pairs_ok ((hE.mono v1).mono v2) R2 e3 fun vs H3 μ3 v3 R3 g1 g2 => hk ((u, v) :: vs) H3 μ3 ((v1.trans v2).trans v3) R3 (RVs.cons ((r1.mono v2).mono v3) g1) (RVs.cons (r2.mono v3) g2)
theorem keysOf_ok {H : Hp} {μ : Mu} {Z : Zs} : ∀ {l : List (Dv × Dv)} {vs : List (V × V)} {kws : List (Key × Dv)}, RVs Γ H μ Z (l.map (·.1)) (vs.map (·.1)) → RVs Γ H μ Z (l.map (·.2)) (vs.map (·.2)) → keysOf l = some kws →
    ∃ kvs : List (Key × V), vs = kvs.map (fun kv => (kV kv.1, kv.2)) ∧ kvs.map (·.1) = kws.map (·.1) ∧ RVs Γ H μ Z (kws.map (·.2)) (kvs.map (·.2))
  | [], vs, _, h1, _, e => by
    cases e
    cases vs with
    | nil => exact ⟨[], rfl, rfl, rfl⟩
    | cons _ _ => cases h1
  | (x, y) :: l, vs, kws, h1, h2, e => by
    cases vs with
    | nil => obtain ⟨_, _, z, _⟩ := h1; cases z
    | cons p vs =>
      obtain ⟨u, us, z1, r1, r2⟩ := h1
      obtain ⟨v, ws, z2, r3, r4⟩ := h2
      obtain ⟨a1, a2⟩ := List.cons.inj z1
      obtain ⟨b1, b2⟩ := List.cons.inj z2
      simp only [keysOf] at e
      split at e
      · rename_i k l' e1 e2
        cases e
        obtain ⟨kvs, c1, c2, c3⟩ := keysOf_ok (a2 ▸ r2) (b2 ▸ r4) e2
        refine ⟨(k, v) :: kvs, ?_, by rw [List.map_cons, List.map_cons, c2], RVs.cons r3 c3⟩
        rw [List.map_cons, ← c1]
        have p1 : p.1 = u := a1
        have p2 : p.2 = v := b1
        show p :: vs = (kV k, v) :: vs
        rw [← keyOf_ok r1 e1, ← p1, ← p2]
      · cases e
theorem merge_ok {H : Hp} {μ : Mu} {Z : Zs} : ∀ {kws acc : List (Key × Dv)} {kvs bcc : List (Key × V)}, kvs.map (·.1) = kws.map (·.1) → RVs Γ H μ Z (kws.map (·.2)) (kvs.map (·.2)) → bcc.map (·.1) = acc.map (·.1) → RVs Γ H μ Z (acc.map (·.2)) (bcc.map (·.2)) →
    (mergeK bcc kvs).map (·.1) = (kws.foldl (fun acc kv => putD acc kv.1 kv.2) acc).map (·.1) ∧ RVs Γ H μ Z ((kws.foldl (fun acc kv => putD acc kv.1 kv.2) acc).map (·.2)) ((mergeK bcc kvs).map (·.2))
  | [], acc, kvs, bcc, h1, _, h3, h4 => by
    cases kvs with
    | nil => exact ⟨h3, h4⟩
    | cons _ _ => cases h1
  | p :: kws, acc, kvs, bcc, h1, h2, h3, h4 => by
    cases kvs with
    | nil => cases h1
    | cons q kvs =>
      obtain ⟨a1, a2⟩ := List.cons.inj h1
      obtain ⟨v, vs, z, r1, r2⟩ := h2
      obtain ⟨b1, b2⟩ := List.cons.inj z
      subst b1
      have a1' : q.1 = p.1 := a1
      obtain ⟨c1, c2⟩ := putD_ok (k := p.1) r1 h3 h4
      have := merge_ok (kws := kws) (acc := putD acc p.1 p.2) (kvs := kvs) (bcc := putK bcc p.1 q.2) a2 (b2 ▸ r2) c1 c2
      show (mergeK (putK bcc q.1 q.2) kvs).map (·.1) = _ ∧ RVs Γ H μ Z _ ((mergeK (putK bcc q.1 q.2) kvs).map (·.2))
      rw [a1']
      exact this
theorem ext_fz {μ : Mu} {Z : Zs} {n : Nat} {p a : Addr} (f : Fz μ (hid p Z) a) : Fz (MP.ext μ n p) Z a := ⟨fun m h => by
  unfold MP.ext at h
  split at h
  · cases h; exact f.2 (.inl rfl)
  · exact f.1 m h, fun z => f.2 (.inr z)⟩
theorem ext_mu {μ : Mu} {n m : Nat} {p a : Addr} (hn : μ n = none) (h : μ m = some a) : MP.ext μ n p m = some a := by
  unfold MP.ext
  rw [if_neg fun z => by rw [z, hn] at h; cases h]
  exact h
mutual
theorem RV.adopt {H : Hp} {μ : Mu} {Z : Zs} {n : Nat} {p : Addr} (hn : μ n = none) : ∀ (w : Dv) {v : V}, RV Γ H μ (hid p Z) w v → RV Γ H (MP.ext μ n p) Z w v
  | .non, _, q => q
  | .bl _, _, q => q
  | .int _, _, q => q
  | .str _, _, q => q
  | .ty _, _, q => q
  | .cl _, _, q => q
  | .ref n, _, q => by
    obtain ⟨a, h1, h2⟩ := q
    exact ⟨a, h1, ext_mu hn h2⟩
  | .tup ws, _, q => by
    obtain ⟨a, xs, h1, h2, h3⟩ := q
    exact ⟨a, xs, h1, h2.elim (fun z => .inl ⟨z.1, ext_fz z.2⟩) .inr, RVs.adopt hn ws h3⟩
  | .sq ws, _, q => by
    obtain ⟨a, xs, h1, h2, h3⟩ := q
    exact ⟨a, xs, h1, h2.elim (fun z => .inl ⟨z.1, ext_fz z.2⟩) .inr, RVs.adopt hn ws h3⟩
  | .lst ws, _, q => by
    obtain ⟨a, xs, h1, h2, h3, h4⟩ := q
    exact ⟨a, xs, h1, h2, ext_fz h3, RVs.adopt hn ws h4⟩
  | .dct ks ws, _, q => by
    obtain ⟨a, kvs, h1, h2, h3, h4, h5⟩ := q
    exact ⟨a, kvs, h1, h2, ext_fz h3, h4, RVs.adopt hn ws h5⟩
  | .dtt kd ws, _, q => by
    obtain ⟨a, kvs, h1, h2, h3, h4, h5, h6⟩ := q
    exact ⟨a, kvs, h1, h2, ext_fz h3, h4, RVs.adopt hn kd h5, RVs.adopt hn ws h6⟩
  | .exc c f w, _, q => by
    obtain ⟨a, dx, x, h1, h2, h3, h4, h5, h6⟩ := q
    exact ⟨a, dx, x, h1, h2, ext_fz h3, h4, ext_fz h5, RV.adopt hn w h6⟩
  | .exn c, _, q => by
    obtain ⟨a, h1, h2, h3⟩ := q
    exact ⟨a, h1, h2, ext_fz h3⟩
  | .clo a c _ ws vs, _, q => by
    obtain ⟨h1, h2, h3, h4⟩ := q
    exact ⟨h1, h2, ext_fz h3, RVs.adopt hn ws h4⟩
theorem RVs.adopt {H : Hp} {μ : Mu} {Z : Zs} {n : Nat} {p : Addr} (hn : μ n = none) : ∀ (ws : List Dv) {vs : List V}, RVs Γ H μ (hid p Z) ws vs → RVs Γ H (MP.ext μ n p) Z ws vs
  | [], _, q => q
  | w :: ws, _, q => by
    obtain ⟨x, xs, h1, h2, h3⟩ := q
    exact ⟨x, xs, h1, RV.adopt hn w h2, RVs.adopt hn ws h3⟩
end
theorem RO.adopt {H : Hp} {μ : Mu} {Z : Zs} {n : Nat} {p a : Addr} {ob : Ob} (hn : μ n = none) (r : RO Γ H μ (hid p Z) a ob) : RO Γ H (MP.ext μ n p) Z a ob := by
  cases ob with
  | lst ws =>
    obtain ⟨xs, h4, h5⟩ := r
    exact ⟨xs, h4, h5.adopt hn⟩
  | dct kws =>
    obtain ⟨kvs, h4, h5, h6⟩ := r
    exact ⟨kvs, h4, h5, h6.adopt hn⟩
  | dtt fr kws =>
    obtain ⟨kvs, h4, h5, h6, h7⟩ := r
    exact ⟨kvs, h4, h5, h6.adopt hn, h7.adopt hn⟩
  | obj c fs =>
    obtain ⟨dx, kvs, h4, h5, h6⟩ := r
    exact ⟨dx, kvs, h4, h5, h6.adopt hn⟩
  | tab m q => exact ⟨r.1, tab_imp rfl (fun c e1 e2 => ⟨e1, ext_fz e2⟩) r.2⟩
/-- what was hidden becomes an object of the store -/
theorem Rep.adoptO {H : Hp} {μ : Mu} {Z : Zs} {s : Sto} {D : Addr} {ob : Ob} (R : Rep Γ H μ (hid D Z) s) (hz : ¬ Z D) (ro : RO Γ H μ (hid D Z) D ob) : Rep Γ H (MP.ext μ s.length D) Z (s ++ [ob]) := by
  have nm := R.mu_new
  have noD : ∀ {m : Nat} {a : Addr}, μ m = some a → a ≠ D := fun h e => R.notZ h (.inl e)
  refine ⟨fun n o' q => ?_, fun n m a h1 h2 => ?_, fun n a h => ?_, fun a z => R.za a (.inr z)⟩
  · by_cases hn : n = s.length
    · subst hn
      rw [List.getElem?_append_right (Nat.le_refl _)] at q
      simp at q
      subst q
      exact ⟨D, by unfold MP.ext; rw [if_pos rfl], hz, ro.adopt nm⟩
    · have hl : n < s.length := by
        have := (List.getElem?_eq_some_iff.mp q).1
        rw [List.length_append, List.length_singleton] at this
        omega
      rw [List.getElem?_append_left hl] at q
      obtain ⟨a, h1, h2, h3⟩ := R.at n o' q
      exact ⟨a, ext_mu nm h1, fun z => h2 (.inr z), h3.adopt nm⟩
  · unfold MP.ext at h1 h2
    split at h1 <;> split at h2
    · rename_i e1 e2; rw [e1, e2]
    · cases h1; exact absurd rfl (noD h2)
    · cases h2; exact absurd rfl (noD h1)
    · exact R.inj _ _ _ h1 h2
  · unfold MP.ext at h
    rw [List.length_append, List.length_singleton]
    split at h
    · omega
    · have := R.dom _ _ h
      omega
theorem Evo.adopt {H H1 : Hp} {μ μ1 : Mu} {n : Nat} {p : Addr} (e : Evo H μ H1 μ1) (hp : H p = none) (hn : μ1 n = none) : Evo H μ H1 (MP.ext μ1 n p) :=
  ⟨e.keep, fun m a h => ext_mu hn (e.mu m a h), fun m a h => by
    unfold MP.ext at h
    split at h
    · cases h; exact .inr hp
    · exact e.new m a h, e.stay⟩
theorem me_dctM {pos : Pos} {keys : List (Option Expr)} {values : List Expr} {ps : List (FE × FE)} (h : PPs X pos keys values (ps.map fun p => (rdE Γ W p.1, rdE Γ W p.2))) (hall : keys.all (·.isSome) = true) (hl : keys.length = values.length) (h0 : keys ≠ []) (h15 : keys.length ≤ 15) :
    ME X Γ W (.Dict keys values pos) (mDctM ps) :=
  PE.imp (pe_disp h hall hl h0 h15) fun σ H Q ⟨μ, Z, ρ, s, hE, hR, q⟩ p hp => by
    unfold mDctM at q
    cases e : mPairs ps ρ s with
    | no => rw [e] at q; exact q.elim
    | er x s1 => rw [e] at q; exact q.elim
    | ok l s1 =>
      rw [e] at q
      dsimp only at q
      split at q
      · rename_i kws ek
        split at q
        · rename_i h15'
          refine pairs_ok (hE.hide hp) (hR.hide hp) e fun vs H1 μ1 ev R1 g1 g2 => ?_
          obtain ⟨kvs, c1, c2, c3⟩ := keysOf_ok g1 g2 ek
          have hH : H1 p = some (.dK []) := ev.keep p _ upd_same fun n hn => hR.alive hn hp
          refine ⟨hH, kvs, c1, by rw [map_len c2]; exact h15', ?_⟩
          obtain ⟨d1, d2⟩ := merge_ok (Γ := Γ) (H := upd H1 p (.dK (mergeK [] kvs))) (μ := μ1) (Z := hid p Z) (acc := []) (bcc := []) c2 (RVs.updZ _ c3) rfl rfl
          have R2 : Rep Γ (upd H1 p (.dK (mergeK [] kvs))) μ1 (hid p Z) s1 := R1.updZ
          have nz : ¬ Z p := fun z => hR.za p z hp
          have e0 : Evo H μ (upd H1 p (.dK (mergeK [] kvs))) μ1 := ((Evo.laid hp).trans ev).hid hp
          exact q (.ref p) _ _ (e0.adopt hp R1.mu_new) (R2.adoptO nz ⟨_, upd_same, d1, d2⟩) ⟨p, rfl, by unfold MP.ext; rw [if_pos rfl]⟩
        · exact q.elim
      · exact q.elim
end
end MP
set_option Elab.async false
set_option linter.all false
set_option maxRecDepth 100000
set_option maxHeartbeats 4000000
namespace MP
open PySem PySem.Spec PyProof.Rows L2
section
variable {X : Cx} {Γ : Ct} {W : WX} {a b c e : Expr} {f g h h' : FE} {pos : Pos} {x y : Str} {i j : Nat}
/-- a < b < c as a test -/
theorem mt_chain {op op' : CmpOp} {r r' : R2} {o o' : O2} (ho : OpR X (compareOp op) r) (ho' : OpR X (compareOp op') r') (hs : Op2 Γ r o) (hs' : Op2 Γ r' o') (hm : lastMarks [op, op'] [b, c] = false)
    (ha : ME X Γ W a f) (hb : ME X Γ W b g) (hc : ME X Γ W c h') : MT X Γ W (.Compare a [op, op'] [b, c] pos) (mTest (mChain o o' f g h')) := by
  have key : ∀ σ H (Q : VK), rdE Γ W (mChain o o' f g h') σ H Q → tChain r r' (rdE Γ W f) (rdE Γ W g) (rdE Γ W h') σ H Q := fun σ H Q ⟨μ, Z, ρ, s, hE, hR, q⟩ => eE hE hR q fun x s1 u H1 μ1 e1 hE1 R1 r1 q1 => eE hE1 R1 q1 fun y s2 v H2 μ2 e2 hE2 R2 r2 q2 => by
    cases hw : o s2 x y with
    | none => rw [hw] at q2; exact q2.elim
    | some w =>
      rw [hw] at q2
      refine hs H2 μ2 Z s2 x y w u v _ R2 (r1.mono e2) r2 hw fun z H3 e3 R3 r3 => ?_
      cases w with
      | bl k =>
        refine ⟨k, r3, ?_⟩
        cases k with
        | true =>
          rw [if_pos rfl]
          exact eE (hE2.mono e3) R3 (PostE.evo e3 q2) fun z' s3 v3 H4 μ4 e4 hE4 R4 r4 q4 => by
            obtain ⟨w', hw', k'⟩ := ofE q4
            exact hs' H4 μ4 Z s3 y z' w' v v3 Q R4 ((r2.mono e3).mono e4) r4 hw' k'
        | false =>
          rw [if_neg Bool.false_ne_true]
          exact okE R3 (w := .bl false) rfl (PostE.evo e3 q2)
      | _ => exact q2.elim
  refine PT.imp (pt_chain ho ho' ha hb hc hm) fun σ H Q ⟨μ, Z, ρ, s, hE, hR, q⟩ => key σ H _ ?_
  refine ⟨μ, Z, ρ, s, hE, hR, ?_⟩
  have q' : PostT Γ W H μ Z σ Q ((mChain o o' f g h' ρ s).bind fun x s1 => match x with
      | .bl b => .ok b s1
      | _ => .no) := q
  revert q'
  cases mChain o o' f g h' ρ s with
  | ok w s1 =>
    intro q' v H' μ' ev R' rv
    cases w with
    | bl b => exact ⟨b, rv, okT R' (PostT.evo ev q')⟩
    | _ => exact q'.elim
  | er x s1 => exact id
  | no => exact id
def mPar (i j : Nat) (fa : FA) : FS := fun ρ s => (fa ρ s).thenC ρ fun ws s1 => match ws with
  | [v, w] => .nx ((ρ.set i (some v)).set j (some w)) s1
  | _ => .no
theorem ms_par {px py pt : Pos} {kt k2 pt2} {fa : FA} (hc : X.calm = true) (hN : X.N.Nodup) (hi : X.N[i]? = some x) (hj : X.N[j]? = some y) (hij : i ≠ j)
    (hx : X.env.scope.names.lookup x = some .local) (hy : X.env.scope.names.lookup y = some .local) (ha : MA X Γ W [a, b] fa)
    (hw : swappedStores [.Tuple [.Name x px, .Name y py] kt pt] (.Tuple [a, b] k2 pt2) X.env = pure (some [x, y]))
    (hs : swapsWithSole [.Tuple [.Name x px, .Name y py] kt pt] (.Tuple [a, b] k2 pt2) pos.line X.env = pure false := by rfl) :
    MS X Γ W (.Assign [.Tuple [.Name x px, .Name y py] kt pt] (.Tuple [a, b] k2 pt2) pos) (mPar i j fa) :=
  PS.imp (ps_par hc hN hi hj hij hx hy ha hw hs) fun D σ H ⟨μ, Z, ρ, s, hE, hR, q⟩ => aS hE hR q fun ws s1 vs H1 μ1 ev E1 R1 r1 q1 => by
    match ws, q1, r1 with
    | [v, w], q1, r1 =>
      obtain ⟨x1, xs, rfl, ra, rb⟩ := r1
      obtain ⟨x2, xs, rfl, rb, rfl⟩ := rb
      exact ⟨x1, x2, rfl, q1 _ H1 μ1 .refl R1 ((E1.set i ra).set j rb)⟩
    | [], q1, _ => exact q1.elim
    | [_], q1, _ => exact q1.elim
    | _ :: _ :: _ :: _, q1, _ => exact q1.elim
def mStuck : FS := fun _ _ => .no
theorem ms_stuck {st : Stmt} : MS X Γ W st mStuck := PS.imp ps_never fun D σ H ⟨μ, Z, ρ, s, hE, hR, q⟩ => q.elim
theorem tk0 {X : Cx} : Takes X W0 := fun u s' ⟨_, _, _, _, _, _, _, _, _, _, _, _, _, _, _, _, w⟩ => w.elim
theorem me_globJ {x : Str} {i : Int} {pos : Pos} (hg : Gl X x) (hm : ∃ t, X.mg x = some (.int i t)) (hd : (x == ("__debug__" : Str)) = false := by decide) : ME X Γ W (.Name x pos) (mK (.int i)) := by
  obtain ⟨t, h⟩ := hm
  exact me_globI hg h hd
theorem go_name {i : Nat} : GOk Γ (gName i) (gN i) := fun H μ Z ρ ρ' s σ w v Q hE hR r e k => by
  cases e
  exact k _ (hE.set i r)
theorem ms_set {i : Nat} {x : Str} {pos' : Pos} (hN : X.N.Nodup) (hi : X.N[i]? = some x) (hx : Loc X.env.scope x) (he : ME X Γ W e f) (hs : swapsWith e (some (.Name x pos')) pos.line X.env = pure false := by rfl) (hf : X.fn x = true ∨ X.env.scope.names.lookup x = some .local := by first | exact .inl rfl | exact .inr rfl | assumption) :
    MS X Γ W (.Assign [.Name x pos'] e pos) (mAsg f (gN i)) := ms_asg (ps_set hN hi hx he hs hf) go_name
theorem mgs_cons' {tg : Expr} {tgs : List Expr} {g : TG} {gs : TGs} {fg : FG} {fgs : List Dv → Env → Sto → Option Env} (h1 : MG X Γ tg g fg) (h2 : MGs X Γ tgs gs fgs)
    (hs : (assignEach (tg :: tgs) X.env).map (·.2) = assign tg X.env :: (assignEach tgs X.env).map (·.2) := by rfl) : MGs X Γ (tg :: tgs) (gCons g gs) (gsC fg fgs) := mgs_cons h1 h2 (pgs_cons h1.1 h2.1 hs)
theorem mg_tup' {tgs : List Expr} {kk n : Nat} {gs : TGs} {fgs : List Dv → Env → Sto → Option Env} (hK : Γ.K = X.K) (hc : X.calm = true) (h : MGs X Γ tgs gs fgs)
    (hn : (assignEach tgs X.env).length = n := by rfl) (hst : (assignEach tgs X.env).findIdx? (·.1) = none := by rfl) : MG X Γ (.Tuple tgs kk pos) (gTup X.K n gs) (gT n fgs) := mg_tup hK.symm (pg_tup hc h.1 hn hst) h.2
theorem ms_setT {tg e : Expr} {g : TG} {fg : FG} (he : ME X Γ W e f) (hg : MG X Γ tg g fg) (hs : swapsWithSole [tg] e pos.line X.env = pure false := by rfl) (hw : swappedStores [tg] e X.env = pure none := by rfl)
    (h1 : (assignEach [tg] X.env).map (·.2) = [assign tg X.env] := by rfl) : MS X Γ W (.Assign [tg] e pos) (mAsg f fg) := ms_asg (ps_asg he hg.1 hs hw h1) hg.2
def FA.Len (fa : FA) (n : Nat) : Prop := ∀ ρ s ws s', fa ρ s = .ok ws s' → ws.length = n
theorem len_nil : FA.Len mNil 0 := fun ρ s ws s' q => by cases q; rfl
theorem len_cons {fa : FA} {n : Nat} (q : fa.Len n) : FA.Len (mCons f fa) (n + 1) := fun ρ s ws s' p => by
  unfold mCons at p
  cases h1 : f ρ s with
  | ok w s1 =>
    rw [h1] at p
    have p2 : (fa ρ s1).bind (fun xs s2 => R.ok (w :: xs) s2) = .ok ws s' := p
    cases h2 : fa ρ s1 with
    | ok xs s2 =>
      rw [h2] at p2
      cases p2
      rw [List.length_cons, q ρ s1 xs _ h2]
    | er z s2 => rw [h2] at p2; cases p2
    | no => rw [h2] at p2; cases p2
  | er z s1 => rw [h1] at p; cases p
  | no => rw [h1] at p; cases p
end
/-- what a call of x must know -/
def Cal (P : Program) (w : World) (mg : Str → Option Value) (base : Heap) (Γ : Ct) (k : Nat) (x : Str) (ps : List Str) (den : Fn) : Prop :=
  ∃ (f : Addr) (fd : FuncData), FnG P w mg base Γ k f fd ps den ∧ mg x = some (.ref f) ∧ PySem.W.keepIn Γ.K (.ref f) = true ∧ Binds Γ.K fd ps []
section
variable {X : Cx} {Γ : Ct} {W : WX} {k k' : Nat} {ps : List Str} {den : Fn} {x : Str} {p pos : Pos} {e : Expr} {es : List Expr} {fa : FA}
theorem me_cal (C : Cal X.prog X.w X.mg X.base Γ k x ps den) (hK : Γ.K = X.K) (hr : Room k X.A) (hg : X.A.guards = some []) (tk : Takes X W) (hgl : Gl X x) (ha : MA X Γ W (e :: es) fa) (n : Nat) (hl : FA.Len fa n) (hn : n = ps.length) (hnl : (e :: es).length = n) (hdb : (x == ("__debug__" : Str)) = false := by decide)
    (he : starEach (e :: es) X.env = (false, eval e X.env) :: starEach es X.env := by rfl) (hpl : (backTo pos (starEach es X.env)).any (·.1) = false := by rfl) :
    ME X Γ W (.Call (.Name x p) (e :: es) [] pos) (mCall den fa) := by
  obtain ⟨f, fd, F, hm, hk, hb⟩ := C
  have := me_call (ds := []) (dvs := []) (dws := []) (pos := pos) (p := p) F hK hr hg hgl hm (hK ▸ hk) (hK ▸ hb) .nil (fun _ _ _ => rfl) n (by simpa using hn) hnl tk ha hl hdb he hpl
  have e1 : mCall (fun ws => den (ws ++ [])) fa = mCall den fa := by
    congr 1
    funext ws
    rw [List.append_nil]
  rwa [e1] at this
end
end MP
set_option Elab.async false
set_option linter.all false
set_option maxRecDepth 100000
set_option maxHeartbeats 4000000
namespace MP
open PySem PySem.Spec PyProof.Rows L2
abbrev bare : Obj := seqObj "list" #[] 0
abbrev grown (h : Heap) (vs : List Value) : Heap := (h.push bare).update h.objs.size (Obj.mapSeq (· ++ vs.toArray))
section
variable {P : Program} {w : World} {A : Around} {E : Value → Shared → Prop} {s : Shared} {t : Addr} {vs : List Value}
theorem gather_tup {Q : List Value → Shared → Prop} (ht : IsTup s.heap t vs.toArray) (hz : vs.length ≤ sizeLine) (h : Q vs { s with heap := grown s.heap vs }) : wpAny (model P w) A (collect (.ref t)) Q E s := by
  obtain ⟨o, e1, e2, n, e3⟩ := id ht
  have m1 : (s.heap.push bare).get? s.heap.objs.size = some bare := Heap.get?_push_size _ rfl
  have m2 : (s.heap.push bare).get? t = some o := Heap.get?_push_of_some _ e1
  unfold collect
  apply wpAny_bind
  apply wpAny_runValue
  apply codeAny_builtin entry_proto_collect'
  apply wpAny_bind
  apply wpAny_newList (h := ?_) (Nat.zero_le _)
  refine wpAny_pure ⟨Code.quiet_builtin _ (by decide +kernel), codeAny_builtin entry_list_iadd' ?_⟩
  show wpAny _ _ (Builtin.List.listExtendWith _ _ _) _ _ _
  unfold Builtin.List.listExtendWith
  apply wpAny_bind
  refine wpAny_typeOf (T := "tuple") ⟨o, m2, e2⟩ ?_
  have tt : (Value.type "tuple" == Value.type "tuple") = true := by rfl
  rw [if_pos (by rw [tt, Bool.or_true])]
  apply wpAny_bind
  apply listItems_at m2 e3
  apply wpAny_bind
  apply listItems_at (xs := #[]) (n := 0) m1 rfl
  rw [if_neg (fun z => by simp at z)]
  apply wpAny_bind
  refine listUpdate_at (xs := #[]) (n := 0) m1 rfl (wpAny_pure ?_) (Nat.zero_le _) (by simp only [Array.size_append, List.size_toArray, List.length_nil]; omega)
  dsimp only
  apply wpAny_bind
  refine wpAny_load (get?_update_seq m1 _) ?_
  refine wpAny_pure (cast ?_ h)
  congr 1
  simp
theorem sorted_tup {lt : Value → Value → Bool} {Q : Value → Shared → Prop} (O : SrtO.Swo lt) (ht : IsTup s.heap t vs.toArray) (hz : vs.length ≤ sizeLine)
    (hS : 2 ≤ vs.length → ∀ (h1 : Heap) (a : Addr), SrtO.SortableO P w A.in1.in1 { s with heap := h1 } a vs lt)
    (h : ∀ out : List Value, SrtO.Srtd lt out → SrtO.Stb lt out vs → Q (.ref (s.heap.objs.size + 1)) { s with heap := sortedAll s.heap vs out.toArray }) :
    wpAny (model P w) A (call (.builtin "sorted") [.ref t]) Q E s := by
  apply Calls.call_function_entry kind_sorted plain_sorted entry_sorted (args_sorted1 _)
  unfold Builtin.«sorted»
  apply wpAny_bind (m := checkCount "sorted" 1 1 _)
  apply wpAny_pure
  apply wpAny_bind
  apply gather_tup ht hz
  apply wpAny_bind
  refine wpAny_newList ?_ hz
  have n1 : (grown s.heap vs).objs.size = s.heap.objs.size + 1 := (Heap.size_update _ _ _).trans (size_push' _ _)
  dsimp only
  rw [n1]
  have n2 : ((grown s.heap vs).push (seqObj "list" vs.toArray 0)).get? (s.heap.objs.size + 1) = some (seqObj "list" vs.toArray 0) := n1 ▸ Heap.get?_push_size _ rfl
  apply wpAny_bind
  apply wpAny_holding
  refine wpAny_call_entry slot_list_sort ⟨_, n2, rfl⟩ entry_list_sort ?_ (args_list_sort _)
  exact SrtO.list_sort_ord O n2 hz (fun h2 => hS h2 _ _) fun out a b => ⟨_, rfl, wpAny_pure ⟨_, rfl, h out a b⟩⟩
end
section
variable {X : Cx} {Γ : Ct}
def rSortedTI (K : PySem.W.Frag) : List V → Hp → VK → Prop := fun vs H Q => ∃ (a : Addr) (ns : List Int), vs = [V.ref a] ∧ SqT K H a (ns.map V.int) ∧
  ∀ (ms : List Int) (p : Addr), ms.Perm ns → ms.Pairwise (· ≤ ·) → H p = none → Q (.ref p) (upd H p (.lst (ms.map V.int)))
theorem cr_sortedTI : CallR X (.builtin "sorted") (rSortedTI X.K) := by
  intro pins s σ H vs us Q I r h
  obtain ⟨a, ns, rfl, ht, q⟩ := h
  obtain ⟨its, rv, it, hz⟩ := I.tuple ht
  rw [Vals.ref1 r]
  have ia := rv.ints
  have hz' : its.length ≤ sizeLine := by rw [← rv.length]; exact hz
  refine sorted_tup SrtO.swo_int it hz' (fun h2 _ _ => SrtO.ints_sortable ia h2) fun out h1 h2 => ?_
  obtain ⟨k1, k2, k3⟩ := SrtO.ints_out ia h1 h2
  obtain ⟨ep, at1⟩ := sortedAll_at s.heap its out.toArray
  have hl : ((out.map SrtO.iv).map V.int).length ≤ sizeLine := by
    rw [List.length_map] at hz ⊢
    rwa [k2.length_eq]
  refine ⟨.ref _, upd H (s.heap.objs.size + 1) (.lst ((out.map SrtO.iv).map V.int)), I.laid (t' := s.toks) (fun _ _ e => sortedAll_old e) (Nat.le_succ _) ?_, rfl, q _ _ k2 k3 (I.hok.fresh (Nat.le_succ _))⟩
  exact ⟨hl, out, ep, vals_of_ints k1, at1⟩
theorem IsTup.isTuple {h : Heap} {a : Addr} {xs : Array Value} (x : IsTup h a xs) : h.IsTuple a xs := by
  obtain ⟨o, e1, e2, n, e3⟩ := x
  exact ⟨o, e1, e2, n, e3⟩
theorem cr_sumT (hc : X.calm = true) : CallR X (.builtin "sum") (fun vs H Q => ∃ (a : Addr) (ns : List Int), vs = [V.ref a] ∧ SqT X.K H a (ns.map V.int) ∧ Q (.int ns.sum) H) := by
  intro pins s σ H vs us Q I r h
  obtain ⟨a, ns, rfl, ht, q⟩ := h
  obtain ⟨its, rv, it, hz⟩ := I.tuple ht
  rw [Vals.ref1 r]
  obtain ⟨xs, e⟩ := rv.ints.allInts.items
  have hn : numsOf (intItems xs).toList = ns := by rw [← e]; exact rv.ints.numsOf
  rw [nums_intItems] at hn
  rw [e] at it
  refine PySem.call_sum_walkG ?_
  have tu := IsTup.isTuple it
  obtain ⟨_, e0, _⟩ := id tu
  have lt := Heap.lt_size e0
  refine wpAny_pyIter_tuple tu ⟨s.heap.objs.size, _, _, _, _, _, numAt xs, rfl, Walks.tuple (A := X.A.in1) (I.ok.hd hc) _ a (Nat.ne_of_lt lt) (intItems xs), ⟨⟨_, Heap.get?_push_size _ rfl, rfl, rfl⟩, tu.push _⟩, fun b hb => ?_, fun _ _ => intItems_at, fun h' tk t' hk => ?_⟩
  · have : (s.heap.push { cls := .type "tuple_iterator", data := .fields #[.ref a, .int 0 0] }).objs.size = s.heap.objs.size + 1 := Heap.size_push _ _
    dsimp only
    rw [this]
    rcases List.mem_cons.mp hb with rfl | hb
    · exact Nat.lt_succ_self _
    · rw [List.mem_singleton.mp hb]; exact Nat.lt_succ_of_lt lt
  · refine ⟨.int _, H, I.kept (t' := tk) (h' := h') fun b o eb => hk b o (fun z => ?_) (Heap.get?_push_of_some _ eb), ⟨_, rfl⟩, ?_⟩
    · rw [List.mem_singleton.mp z] at eb
      exact Nat.lt_irrefl _ (Heap.lt_size eb)
    · have hs : (intItems xs).size = xs.size := by simp [intItems]
      rw [hs, preSum_eq, List.take_of_length_le (by simp), hn]
      exact q
def orN (o o' : ON) : ON := fun s xs => match o s xs with
  | some w => some w
  | none => o' s xs
def sortTD : ON := fun _ xs => match xs with
  | [.tup ws] => (intsOf ws).map fun ns => .lst ((srt ns).map .int)
  | _ => none
def sumTD : ON := fun _ xs => match xs with
  | [.tup ws] => (intsOf ws).map fun ns => .int ns.sum
  | _ => none
def sortedA : ON := orN sortedD sortTD
def sumA : ON := orN sumD sumTD
theorem sSortT (hK : Γ.K = X.K) : OpN Γ (rSortedTI X.K) sortTD := fun H μ Z s xs w vs Q hR rx e k => by
  rw [← hK]
  unfold sortTD at e
  split at e
  · rename_i ws
    cases q2 : intsOf ws with
    | none => rw [q2] at e; cases e
    | some ns =>
      rw [q2] at e
      cases e
      obtain ⟨v, rfl, a, ys, rfl, h2, h3⟩ := one rx
      rw [intsOf_ok q2] at h3
      have h4 := h3.ints
      subst h4
      refine ⟨a, ns, rfl, h2.sq, fun ms p hp hs hn => ?_⟩
      rw [srt_uniq hp hs]
      exact k _ _ (Evo.laid hn) (hR.laid hn) (new_lst hR hn (RVs.of_ints _))
  · cases e
theorem sSumT (hK : Γ.K = X.K) : OpN Γ (fun vs H Q => ∃ (a : Addr) (ns : List Int), vs = [V.ref a] ∧ SqT X.K H a (ns.map V.int) ∧ Q (.int ns.sum) H) sumTD := fun H μ Z s xs w vs Q hR rx e k => by
  rw [← hK]
  unfold sumTD at e
  split at e
  · rename_i ws
    cases q2 : intsOf ws with
    | none => rw [q2] at e; cases e
    | some ns =>
      rw [q2] at e
      cases e
      obtain ⟨v, rfl, a, ys, rfl, h2, h3⟩ := one rx
      rw [intsOf_ok q2] at h3
      have h4 := h3.ints
      subst h4
      exact ⟨a, ns, rfl, h2.sq, k _ H .refl hR rfl⟩
  · cases e
theorem cr_sortedA : CallR X (.builtin "sorted") (fun x H Q => rSortedI X.K x H Q ∨ rSortedTI X.K x H Q) := CallR.or2 cr_sortedI cr_sortedTI
theorem sSortedA (hK : Γ.K = X.K) : OpN Γ (fun x H Q => rSortedI X.K x H Q ∨ rSortedTI X.K x H Q) sortedA := OpN.or (sSorted hK) (sSortT hK)
def rSumA (K : PySem.W.Frag) : List V → Hp → VK → Prop := fun x H Q => rSum K x H Q ∨ ∃ (a : Addr) (ns : List Int), x = [V.ref a] ∧ SqT K H a (ns.map V.int) ∧ Q (.int ns.sum) H
theorem cr_sumA (hc : X.calm = true) : CallR X (.builtin "sum") (rSumA X.K) := CallR.or2 (cr_sum hc) (cr_sumT hc)
theorem sSumA (hK : Γ.K = X.K) : OpN Γ (rSumA X.K) sumA := OpN.or (sSum hK) (sSumT hK)
end
end MP
set_option Elab.async false
set_option linter.all false
set_option maxRecDepth 100000
set_option maxHeartbeats 4000000
namespace MP
open PySem PySem.Spec PyProof.Rows L2
section
variable {α β : Type} {a : α} {s s1 s2 : Sto} {ρ : Env} {x : Ex} {w v : Dv} {f g h : FE} {t u : FT} {c c' : FS} {fa : FA} {b : Bool} {o o' : O2}
@[simp] theorem bind_ok {k : α → Sto → R β} : (R.ok a s).bind k = k a s := rfl
@[simp] theorem bind_er {k : α → Sto → R β} : (R.er x s : R α).bind k = .er x s := rfl
@[simp] theorem bind_no {k : α → Sto → R β} : (R.no : R α).bind k = .no := rfl
@[simp] theorem then_ok {k : α → Sto → C} : (R.ok a s).thenC ρ k = k a s := rfl
@[simp] theorem then_er {k : α → Sto → C} : (R.er x s : R α).thenC ρ k = .er x ρ s := rfl
@[simp] theorem then_no {k : α → Sto → C} : (R.no : R α).thenC ρ k = .no := rfl
@[simp] theorem of_some : R.of (some a) s = .ok a s := rfl
@[simp] theorem of_none : (R.of none s : R α) = .no := rfl
@[simp] theorem var_0 : mVar 0 (some w :: ρ) s = .ok w s := rfl
@[simp] theorem var_s {y : Option Dv} {i : Nat} : mVar (i + 1) (y :: ρ) s = mVar i ρ s := by unfold mVar; rw [List.getElem?_cons_succ]
@[simp] theorem k_ev : mK w ρ s = .ok w s := rfl
@[simp] theorem bin_ev : mBin o f g ρ s = (f ρ s).bind fun x s1 => (g ρ s1).bind fun y s2 => R.of (o s2 x y) s2 := rfl
@[simp] theorem un_ev {o : O1} : mUn o f ρ s = (f ρ s).bind fun x s1 => R.of (o s1 x) s1 := rfl
@[simp] theorem blt_ev {o : ON} : mBlt o fa ρ s = (fa ρ s).bind fun ws s1 => R.of (o s1 ws) s1 := rfl
@[simp] theorem call_ev {d : Fn} : mCall d fa ρ s = (fa ρ s).bind d := rfl
@[simp] theorem nil_ev : mNil ρ s = .ok [] s := rfl
@[simp] theorem cons_ev : mCons f fa ρ s = (f ρ s).bind fun x s1 => (fa ρ s1).bind fun xs s2 => .ok (x :: xs) s2 := rfl
def chainK (o : Option Dv) (s : Sto) (k : R Dv) : R Dv := match o with
  | some (.bl true) => k
  | some (.bl false) => .ok (.bl false) s
  | _ => .no
@[simp] theorem chainK_bl {k : R Dv} : chainK (some (.bl b)) s k = if b = true then k else .ok (.bl false) s := by cases b <;> rfl
@[simp] theorem chain_ev : mChain o o' f g h ρ s = (f ρ s).bind fun x s1 => (g ρ s1).bind fun y s2 => chainK (o s2 x y) s2 ((h ρ s2).bind fun z s3 => R.of (o' s3 y z) s3) := rfl
def andK (d : Dv) (s : Sto) (k : R Dv) : R Dv := match d with
  | .bl true => k
  | .bl false => .ok (.bl false) s
  | _ => .no
@[simp] theorem andK_bl {k : R Dv} : andK (.bl b) s k = if b = true then k else .ok (.bl false) s := by cases b <;> rfl
@[simp] theorem andV_ev : mAndV f g ρ s = (f ρ s).bind fun x s1 => andK x s1 (g ρ s1) := rfl
def orK (d : Dv) (s : Sto) (k : R Dv) : R Dv := match d with
  | .bl true => .ok (.bl true) s
  | .bl false => k
  | _ => .no
@[simp] theorem orK_bl {k : R Dv} : orK (.bl b) s k = if b = true then .ok (.bl true) s else k := by cases b <;> rfl
@[simp] theorem orV_ev : mOrV f g ρ s = (f ρ s).bind fun x s1 => orK x s1 (g ρ s1) := by
  unfold mOrV
  congr 1
  funext x s1
  cases x with
  | bl b => cases b <;> rfl
  | _ => rfl
def notK (d : Dv) (s : Sto) : R Dv := match d with
  | .bl b => .ok (.bl (!b)) s
  | _ => .no
@[simp] theorem notK_bl : notK (.bl b) s = .ok (.bl (!b)) s := rfl
@[simp] theorem notV_ev : mNotV f ρ s = (f ρ s).bind notK := rfl
def testK (d : Dv) (s : Sto) : R Bool := match d with
  | .bl b => .ok b s
  | _ => .no
@[simp] theorem testK_bl : testK (.bl b) s = .ok b s := rfl
@[simp] theorem test_ev : mTest f ρ s = (f ρ s).bind testK := rfl
@[simp] theorem and_ev : mAnd t u ρ s = (t ρ s).bind fun c s1 => if c = true then u ρ s1 else .ok false s1 := rfl
@[simp] theorem or_ev : mOr t u ρ s = (t ρ s).bind fun c s1 => if c = true then .ok true s1 else u ρ s1 := rfl
@[simp] theorem not_ev : mNot t ρ s = (t ρ s).bind fun c s1 => .ok (!c) s1 := rfl
@[simp] theorem if_ev : mIf t f g ρ s = (t ρ s).bind fun c s1 => if c = true then f ρ s1 else g ρ s1 := rfl
@[simp] theorem tup_ev : mTup fa ρ s = (fa ρ s).bind fun ws s1 => if ws.length ≤ lim then .ok (.tup ws) s1 else .no := rfl
@[simp] theorem lst_ev : mLst fa ρ s = (fa ρ s).bind fun ws s1 => if ws.length ≤ lim then .ok (.lst ws) s1 else .no := rfl
@[simp] theorem lstM_ev : mLstM fa ρ s = (fa ρ s).bind fun ws s1 => if ws.length ≤ lim then .ok (.ref s1.length) (s1 ++ [.lst ws]) else .no := rfl
/-- what follows -/
def seqK (c : C) (k : FS) : C := match c with
  | .nx ρ s => k ρ s
  | c => c
@[simp] theorem seqK_nx {k : FS} : seqK (.nx ρ s) k = k ρ s := rfl
@[simp] theorem seqK_rt {k : FS} : seqK (.rt w s) k = .rt w s := rfl
@[simp] theorem seqK_bk {k : FS} : seqK (.bk ρ s) k = .bk ρ s := rfl
@[simp] theorem seqK_ct {k : FS} : seqK (.ct ρ s) k = .ct ρ s := rfl
@[simp] theorem seqK_er {k : FS} : seqK (.er x ρ s) k = .er x ρ s := rfl
@[simp] theorem seqK_no {k : FS} : seqK .no k = .no := rfl
@[simp] theorem seq_ev : mSeq c c' ρ s = seqK (c ρ s) c' := by
  unfold mSeq seqK
  cases c ρ s <;> rfl
@[simp] theorem next_ev : mNext ρ s = .nx ρ s := rfl
@[simp] theorem ret_ev : mRet f ρ s = (f ρ s).thenC ρ fun w s1 => .rt w s1 := rfl
@[simp] theorem expr_ev : mExpr f ρ s = (f ρ s).thenC ρ fun _ s1 => .nx ρ s1 := rfl
@[simp] theorem ifS_ev : mIfS t c c' ρ s = (t ρ s).thenC ρ fun b s1 => if b = true then c ρ s1 else c' ρ s1 := rfl
@[simp] theorem asgN_ev {i : Nat} : mAsg f (gN i) ρ s = (f ρ s).thenC ρ fun w s1 => .nx (ρ.set i (some w)) s1 := rfl
@[simp] theorem par_ev {i j : Nat} : mPar i j (mCons f (mCons g mNil)) ρ s = (f ρ s).thenC ρ fun v s1 => (g ρ s1).thenC ρ fun w s2 => .nx ((ρ.set i (some v)).set j (some w)) s2 := by
  unfold mPar mCons mNil
  cases f ρ s with
  | ok v s1 =>
    simp only [bind_ok, then_ok]
    cases g ρ s1 <;> rfl
  | er _ _ => rfl
  | no => rfl
theorem finW_le {n : Nat} (hn : s.length ≤ n) : finW n w s = .ok w s := by unfold finW; rw [if_pos hn]
@[simp] theorem finC_rt : finC s.length (.rt w s) = .ok w s := finW_le (Nat.le_refl _)
@[simp] theorem finC_nx : finC s.length (.nx ρ s) = .ok .non s := finW_le (Nat.le_refl _)
@[simp] theorem den_ev {n : Nat} {d : FS} {ws : List Dv} : denOf n d ws s = finC s.length (d (startD n ws) s) := rfl
@[simp] theorem start_ev {n : Nat} {ws : List Dv} : startD n ws = ws.map some ++ List.replicate (n - ws.length) none := rfl
@[simp] theorem cmp_ev {p : Int → Int → Bool} {i j : Int} : cmpD p s (.int i) (.int j) = some (.bl (p i j)) := rfl
@[simp] theorem sub_ev {i j : Int} : subD s (.int i) (.int j) = some (.int (i - j)) := rfl
@[simp] theorem neg_ev {i : Int} : negD s (.int i) = some (.int (-i)) := rfl
@[simp] theorem isi_ii {i : Int} : isiD s [.int i, .ty "int"] = some (.bl true) := rfl
@[simp] theorem isi_ib {i : Int} : isiD s [.int i, .ty "bool"] = some (.bl false) := rfl
@[simp] theorem isi_tt {ws : List Dv} : isiD s [.tup ws, .ty "tuple"] = some (.bl true) := rfl
@[simp] theorem isi_it {i : Int} : isiD s [.int i, .ty "tuple"] = some (.bl false) := rfl
@[simp] theorem len_tup {ws : List Dv} : lenD s [.tup ws] = some (.int ws.length) := rfl
@[simp] theorem len_lst {ws : List Dv} : lenD s [.lst ws] = some (.int ws.length) := rfl
@[simp] theorem len_sq {ws : List Dv} : lenD s [.sq ws] = some (.int ws.length) := rfl
abbrev tI (ns : List Int) : Dv := .tup (ns.map .int)
abbrev lI (ns : List Int) : Dv := .lst (ns.map .int)
section
variable {s : Sto} {ns ms : List Int} {ρ : Env} {ws : List Dv} {i j : Int} {f : FE}
@[simp] theorem sorted_TI : sortedA s [.tup (ns.map .int)] = some (.lst ((srt ns).map .int)) := by
  show (match sortedD s [.tup (ns.map .int)] with | some w => some w | none => sortTD s [.tup (ns.map .int)]) = _
  rw [show sortedD s [.tup (ns.map .int)] = none from rfl]
  show (intsOf (ns.map .int)).map _ = _
  rw [intsOf_map]
  rfl
@[simp] theorem sorted_LI : sortedA s [.lst (ns.map .int)] = some (.lst ((srt ns).map .int)) := by
  have : sortedD s [.lst (ns.map .int)] = some (.lst ((srt ns).map .int)) := by
    show (intsOf (ns.map .int)).map _ = _
    rw [intsOf_map]
    rfl
  show (match sortedD s [.lst (ns.map .int)] with | some w => some w | none => sortTD s [.lst (ns.map .int)]) = _
  rw [this]
@[simp] theorem sum_LI : sumA s [.lst (ns.map .int)] = some (.int ns.sum) := by
  have : sumD s [.lst (ns.map .int)] = some (.int ns.sum) := by
    show (intsOf (ns.map .int)).map _ = _
    rw [intsOf_map]
    rfl
  show (match sumD s [.lst (ns.map .int)] with | some w => some w | none => sumTD s [.lst (ns.map .int)]) = _
  rw [this]
@[simp] theorem sum_TI : sumA s [.tup (ns.map .int)] = some (.int ns.sum) := by
  show (match sumD s [.tup (ns.map .int)] with | some w => some w | none => sumTD s [.tup (ns.map .int)]) = _
  rw [show sumD s [.tup (ns.map .int)] = none from rfl]
  show (intsOf (ns.map .int)).map _ = _
  rw [intsOf_map]
  rfl
@[simp] theorem sl_tup {lo hi : Option Int} : slA s (.tup ws) lo hi = some (.tup (cutD ws lo hi)) := rfl
@[simp] theorem sl_lst {lo hi : Option Int} : slA s (.lst ws) lo hi = some (.lst (cutD ws lo hi)) := rfl
theorem cut_last {k : Nat} (h : k ≤ ws.length) (h0 : 0 < k) : cutD ws (some (-(k : Int))) none = ws.drop (ws.length - k) := by
  unfold cutD
  rw [HT.sIx_none]
  have e : HT.sIx ws.length 0 (some (-(k : Int))) = ws.length - k := by
    show (if -(k : Int) < 0 then (-(k : Int) + (ws.length : Int)).toNat else min (-(k : Int)).toNat ws.length) = _
    rw [if_pos (by omega)]
    omega
  rw [e]
  exact List.take_of_length_le (by rw [List.length_drop]; omega)
theorem cut_to {k : Nat} : cutD ws none (some (k : Int)) = ws.take k := by
  unfold cutD
  rw [HT.sIx_none, HT.sIx_nat, Nat.sub_zero, List.drop_zero, ← List.take_take, List.take_length]
theorem cut_mid {a b : Nat} (ha : a ≤ ws.length) (hb : b ≤ ws.length) : cutD ws (some (a : Int)) (some (b : Int)) = (ws.drop a).take (b - a) := by
  unfold cutD
  rw [HT.sIx_nat, HT.sIx_nat, Nat.min_eq_left ha, Nat.min_eq_left hb]
@[simp] theorem part_ev : mPart f ρ s = (f ρ s).bind fun x s1 => match x with
  | .int i => .ok (some i) s1
  | _ => .no := rfl
@[simp] theorem nopart_ev : mNoPart ρ s = .ok none s := rfl
@[simp] theorem sl_ev {op : OS} {lo hi : FO} : mSl op f lo hi ρ s = (f ρ s).bind fun x s1 => (lo ρ s1).bind fun l s2 => (hi ρ s2).bind fun u s3 => R.of (op s3 x l u) s3 := rfl
@[simp] theorem add_ii : addD s (.int i) (.int j) = some (.int (i + j)) := rfl
theorem mul_ii (h : cm i j = true) : mulD s (.int i) (.int j) = some (.int (i * j)) := by
  show (if cm i j = true then _ else _) = _
  rw [if_pos h]
theorem cm_l (h : -(2 ^ 64) < i ∧ i < 2 ^ 64) : cm i j = true := decide_eq_true (.inl h)
theorem cm_r (h : -(2 ^ 64) < j ∧ j < 2 ^ 64) : cm i j = true := decide_eq_true (.inr h)
@[simp] theorem int_i : intD s [.int i] = some (.int i) := rfl
@[simp] theorem int_b {b : Bool} : intD s [.bl b] = some (.int (if b then 1 else 0)) := rfl
theorem range1_ok {fa : FA} {s1 : Sto} (h : fa ρ s = .ok [.int j] s1) (hj : okR j = true) : iRange1 fa ρ s = .ok { ws := rng 0 j.toNat } s1 := by
  unfold iRange1
  rw [h, bind_ok]
  exact if_pos hj
theorem range2_ok {fa : FA} {s1 : Sto} (h : fa ρ s = .ok [.int i, .int j] s1) (hi : okR i = true) (hj : okR j = true) : iRange2 fa ρ s = .ok { ws := rng i (j - i).toNat } s1 := by
  unfold iRange2
  rw [h, bind_ok]
  exact if_pos ⟨hi, hj⟩
theorem rng_ev {lo : Int} {n : Nat} : rng lo n = (List.range n).map fun i : Nat => Dv.int (lo + (i : Int)) := by unfold rng; rfl
theorem okR_s {i : Int} (h : -1000000 ≤ i) (h2 : i ≤ 1000000) : okR i = true := decide_eq_true ⟨by omega, by omega⟩
@[simp] theorem tuple_lst : tupleD s [.lst ws] = some (.tup ws) := rfl
@[simp] theorem tuple_tup : tupleD s [.tup ws] = some (.tup ws) := rfl
theorem ix_tup {k : Nat} {w : Dv} (h : ws[k]? = some w) : ixA s (.tup ws) (.int (k : Int)) = some w := by
  have e : ixT s (.tup ws) (.int (k : Int)) = some w := atI_nat h
  show (match (match ixL s (.tup ws) (.int (k : Int)) with | some w => some w | none => ixT s (.tup ws) (.int (k : Int))) with | some w => some w | none => ixD s (.tup ws) (.int (k : Int))) = _
  rw [show ixL s (.tup ws) (.int (k : Int)) = none from rfl, e]
theorem ix_lst {k : Nat} {w : Dv} (h : ws[k]? = some w) : ixA s (.lst ws) (.int (k : Int)) = some w := by
  have e : ixL s (.lst ws) (.int (k : Int)) = some w := atI_nat h
  show (match (match ixL s (.lst ws) (.int (k : Int)) with | some w => some w | none => ixT s (.lst ws) (.int (k : Int))) with | some w => some w | none => ixD s (.lst ws) (.int (k : Int))) = _
  rw [e]
theorem zip_ints : ∀ (ns ms : List Int), zipD (ns.map .int) (ms.map .int) = (ns.zip ms).map fun p => .tup [.int p.1, .int p.2]
  | [], _ => by simp [zipD]
  | _ :: _, [] => by simp [zipD]
  | a :: r, b :: t => by simp [zipD, zip_ints r t]
end
section
open Classical
variable {vs : List Nat} {g : FG} {tt : FT} {elt : FE} {ρ : Env} {s : Sto}
@[simp] theorem yes_ev : mYes ρ s = .ok true s := rfl
theorem compL_map {φ : Dv → Dv} : ∀ {xs : List Dv}, (∀ x ∈ xs, ∃ ρ1, g x (wipeD ρ vs) s = some ρ1 ∧ elt ρ1 s = .ok (φ x) s) → compL none vs g mYes elt ρ xs s = some (xs.map φ, s)
  | [], _ => by unfold compL; rw [if_pos (.inl rfl)]; rfl
  | x :: xs, h => by
    obtain ⟨ρ1, h1, h2⟩ := h x List.mem_cons_self
    unfold compL
    rw [if_pos (.inl rfl), h1]
    simp only [yes_ev, h2]
    rw [compL_map fun y hy => h y (List.mem_cons_of_mem _ hy)]
    rfl
theorem comp_mapA {α : Type} {f : FI} {l : List α} {e : α → Dv} (φ : α → Dv) (hf : f ρ s = .ok { ws := l.map e } s) (hl : l.length ≤ lim) (h : ∀ a ∈ l, ∃ ρ1, g (e a) (wipeD ρ vs) s = some ρ1 ∧ elt ρ1 s = .ok (φ a) s) : mComp f vs g mYes elt ρ s = .ok (.lst (l.map φ)) s := by
  have key : ∀ {l : List α}, (∀ a ∈ l, ∃ ρ1, g (e a) (wipeD ρ vs) s = some ρ1 ∧ elt ρ1 s = .ok (φ a) s) → compL none vs g mYes elt ρ (l.map e) s = some (l.map φ, s) := fun {l} => by
    induction l with
    | nil => intro _; rw [List.map_nil]; simp [compL]
    | cons a l ih =>
      intro h
      obtain ⟨ρ1, h1, h2⟩ := h a List.mem_cons_self
      rw [List.map_cons]
      unfold compL
      rw [if_pos (.inl rfl), h1]
      simp only [yes_ev, h2]
      rw [ih fun b hb => h b (List.mem_cons_of_mem _ hb)]
      rfl
  unfold mComp
  rw [hf, bind_ok]
  dsimp only
  rw [key h]
  dsimp only
  rw [if_pos (by rw [List.length_map]; exact hl)]
/-- a comprehension, turn by turn: J i acc stands when i turns are done -/
theorem compL_ix {xs : List Dv} (J : Nat → List Dv → Sto → Prop) (h : ∀ i x acc s, xs[i]? = some x → J i acc s → ∃ ρ1 y s2, g x (wipeD ρ vs) s = some ρ1 ∧ elt ρ1 s = .ok y s2 ∧ J (i + 1) (acc ++ [y]) s2) :
    ∀ {k : Nat} {ys acc : List Dv} {s : Sto}, ys = xs.drop k → k ≤ xs.length → J k acc s → ∃ zs s', compL none vs g mYes elt ρ ys s = some (zs, s') ∧ zs.length = ys.length ∧ J xs.length (acc ++ zs) s'
  | k, [], acc, s, e, hk, j => by
    have : k = xs.length := by
      have := congrArg List.length e
      rw [List.length_drop, List.length_nil] at this
      omega
    subst this
    exact ⟨[], s, by unfold compL; rw [if_pos (.inl rfl)], rfl, by rw [List.append_nil]; exact j⟩
  | k, x :: ys, acc, s, e, hk, j => by
    have hx : xs[k]? = some x := by
      have := congrArg (·[0]?) e
      simpa using this.symm
    have hy : ys = xs.drop (k + 1) := by
      have := congrArg List.tail e
      simpa using this
    have hlt : k < xs.length := (List.getElem?_eq_some_iff.mp hx).1
    obtain ⟨ρ1, y, s2, h1, h2, h3⟩ := h k x acc s hx j
    obtain ⟨zs, s', h4, h5, h6⟩ := compL_ix J h hy hlt h3
    refine ⟨y :: zs, s', ?_, by rw [List.length_cons, h5, List.length_cons], ?_⟩
    · unfold compL
      rw [if_pos (.inl rfl), h1]
      simp only [yes_ev, h2, h4]
      rfl
    · rw [List.append_assoc] at h6
      exact h6
theorem comp_ix {f : FI} {xs : List Dv} {s1 : Sto} (J : Nat → List Dv → Sto → Prop) (hf : f ρ s = .ok { ws := xs } s1) (hl : xs.length ≤ lim) (j : J 0 [] s1)
    (h : ∀ i x acc s, xs[i]? = some x → J i acc s → ∃ ρ1 y s2, g x (wipeD ρ vs) s = some ρ1 ∧ elt ρ1 s = .ok y s2 ∧ J (i + 1) (acc ++ [y]) s2) : ∃ zs s', mComp f vs g mYes elt ρ s = .ok (.lst zs) s' ∧ zs.length = xs.length ∧ J xs.length zs s' := by
  obtain ⟨zs, s', h1, h2, h3⟩ := compL_ix J h (k := 0) (ys := xs) (acc := []) rfl (Nat.zero_le _) j
  refine ⟨zs, s', ?_, h2, h3⟩
  unfold mComp
  rw [hf, bind_ok]
  dsimp only
  rw [h1]
  dsimp only
  rw [if_pos (by rw [h2]; exact hl)]
/-- a loop, turn by turn: J i stands when i turns are done -/
theorem forL_ix {body : FS} {xs : List Dv} (J : Nat → Env → Sto → Prop) (h : ∀ i x ρ s, xs[i]? = some x → J i ρ s → ∃ ρ1 ρ2 s2, g x ρ s = some ρ1 ∧ (body ρ1 s = .nx ρ2 s2 ∨ body ρ1 s = .ct ρ2 s2) ∧ J (i + 1) ρ2 s2) :
    ∀ {k : Nat} {ys : List Dv} {ρ : Env} {s : Sto}, ys = xs.drop k → k ≤ xs.length → J k ρ s → ∃ ρ' s', forL none g body ys ρ s = .nx ρ' s' ∧ J xs.length ρ' s'
  | k, [], ρ, s, e, hk, j => by
    have : k = xs.length := by
      have := congrArg List.length e
      rw [List.length_drop, List.length_nil] at this
      omega
    subst this
    exact ⟨ρ, s, by unfold forL; rw [if_pos (.inl rfl)], j⟩
  | k, x :: ys, ρ, s, e, hk, j => by
    have hx : xs[k]? = some x := by
      have := congrArg (·[0]?) e
      simpa using this.symm
    have hy : ys = xs.drop (k + 1) := by
      have := congrArg List.tail e
      simpa using this
    have hlt : k < xs.length := (List.getElem?_eq_some_iff.mp hx).1
    obtain ⟨ρ1, ρ2, s2, h1, h2, h3⟩ := h k x ρ s hx j
    obtain ⟨ρ', s', h4, h5⟩ := forL_ix J h hy hlt h3
    refine ⟨ρ', s', ?_, h5⟩
    unfold forL
    rw [if_pos (.inl rfl), h1]
    rcases h2 with h2 | h2 <;> (simp only [h2]; exact h4)
theorem for_ix {F : FI} {body : FS} {xs : List Dv} {s1 : Sto} (J : Nat → Env → Sto → Prop) (hF : F ρ s = .ok { ws := xs } s1) (j : J 0 ρ s1) (h : ∀ i x ρ s, xs[i]? = some x → J i ρ s → ∃ ρ1 ρ2 s2, g x ρ s = some ρ1 ∧ (body ρ1 s = .nx ρ2 s2 ∨ body ρ1 s = .ct ρ2 s2) ∧ J (i + 1) ρ2 s2) :
    ∃ ρ' s', mFor F g body ρ s = .nx ρ' s' ∧ J xs.length ρ' s' := by
  obtain ⟨ρ', s', h1, h2⟩ := forL_ix J h (k := 0) (ys := xs) rfl (Nat.zero_le _) j
  refine ⟨ρ', s', ?_, h2⟩
  unfold mFor
  rw [hF]
  exact h1
end
end
end MP
set_option Elab.async false
set_option linter.all false
set_option maxRecDepth 100000
set_option maxHeartbeats 400000
namespace MP
open PySem PySem.Spec PyProof.Rows L2
def dot (rs ls : List Int) : Int := ((rs.zip ls).map fun p => p.1 * p.2).sum
theorem dot_nil {ls : List Int} : dot [] ls = 0 := by simp [dot]
theorem dot_nil' : ∀ {rs : List Int}, dot rs [] = 0 := by intro rs; simp [dot]
theorem dot_cons {a b : Int} {rs ls : List Int} : dot (a :: rs) (b :: ls) = a * b + dot rs ls := by simp [dot]
def at1 (lev n : Int) : Int := if lev ≤ n then 1 else 0
theorem sum_map_mul {α : Type} (k : Int) (f : α → Int) : ∀ l : List α, (l.map fun a => k * f a).sum = k * (l.map f).sum
  | [] => by simp
  | a :: l => by simp [sum_map_mul k f l, Int.mul_add]
theorem sum_map_add {α : Type} (f g : α → Int) : ∀ l : List α, (l.map fun a => f a + g a).sum = (l.map f).sum + (l.map g).sum
  | [] => by simp
  | a :: l => by simp [sum_map_add f g l]; omega
theorem sum_zero {α : Type} : ∀ l : List α, (l.map fun _ => (0 : Int)).sum = 0
  | [] => rfl
  | _ :: l => by simp [sum_zero l]
/-- each result is what its levels tell; so is each sum of them -/
theorem dot_levels {L : List (Int × Int)} : ∀ {rs ls : List Int}, (∀ n ∈ ls, (L.map fun p => p.2 * at1 p.1 n).sum = n) → (L.map fun p => p.2 * dot rs (ls.map (at1 p.1))).sum = dot rs ls
  | [], ls, _ => by
    simp only [dot_nil, Int.mul_zero]
    exact sum_zero L
  | a :: rs, [], _ => by
    simp only [List.map_nil, dot_nil', Int.mul_zero]
    exact sum_zero L
  | a :: rs, b :: ls, h => by
    have ih := dot_levels (L := L) (rs := rs) (ls := ls) fun n hn => h n (List.mem_cons_of_mem _ hn)
    have hb := h b List.mem_cons_self
    simp only [List.map_cons, dot_cons]
    rw [show (fun p : Int × Int => p.2 * (a * at1 p.1 b + dot rs (ls.map (at1 p.1)))) = fun p => a * (p.2 * at1 p.1 b) + p.2 * dot rs (ls.map (at1 p.1)) from funext fun p => by rw [Int.mul_add, Int.mul_left_comm]]
    rw [sum_map_add, sum_map_mul, hb, ih]
theorem at1_mono {lev a b : Int} (h : a ≤ b) : at1 lev a ≤ at1 lev b := by unfold at1; split <;> split <;> omega
theorem srt_at1 (lev : Int) (ns : List Int) : srt (ns.map (at1 lev)) = (srt ns).map (at1 lev) := by
  refine (srt_uniq (l := ns.map (at1 lev)) ((srt_perm ns).map _) ?_).symm
  rw [List.pairwise_map]
  exact (srt_sorted ns).imp fun h => at1_mono h
def last (k : Nat) (ns : List Int) : List Int := ns.drop (ns.length - k)
def idx (rs ns : List Int) : Int := dot rs (srt (last rs.length ns))
end MP
namespace MP
end MP
set_option Elab.async false
set_option linter.all false
set_option maxRecDepth 100000
set_option maxHeartbeats 400000
namespace MP
open PySem PySem.Spec PyProof.Rows L2
/-- a thing of at most n parts, at most k deep -/
structure Pl (n k : Nat) (w : Dv) (d : PyData) : Prop where
  to : toD0 w = some d
  lay : d.canLay0 = true
  shw : d.showable = true
  nod : d.hasDict = false
  deep : d.depth ≤ k
  len : d.shown.length + 2 ≤ 2000 * n
structure Pls (n k : Nat) (ws : List Dv) (ds : List PyData) : Prop where
  to : toDs ws = some ds
  lay : PyData.canLayAll0 ds = true
  shw : PyData.showableAll ds = true
  nod : PyData.hasDictAll ds = false
  deep : PyData.depthAll ds ≤ k
  len : piled (PyData.shownAll ds) ≤ 2000 * n
def Sm (i : Int) : Prop := i.natAbs < 2 ^ 300
theorem Sm.of {i : Int} (h : -1000000000000 ≤ i) (h2 : i ≤ 1000000000000) : Sm i := by
  have h3 : i.natAbs ≤ 1000000000000 := by omega
  exact Nat.lt_of_le_of_lt h3 (Nat.lt_of_lt_of_le (by decide : 1000000000000 < 2 ^ 40) (Nat.pow_le_pow_right (by decide) (by decide)))
theorem Sm.log {i : Int} (h : Sm i) : i.natAbs.log2 < 1920 := by
  by_cases h0 : i.natAbs = 0
  · rw [h0]; decide
  · exact (Nat.log2_lt h0).mpr (Nat.lt_of_lt_of_le h (Nat.pow_le_pow_right (by decide) (by decide)))
variable {n m k j : Nat} {w : Dv} {d : PyData} {ws us : List Dv} {ds es : List PyData} {i : Int} {ns : List Int} {s : Sto}
theorem pl_int (h : Sm i) : Pl 1 0 (.int i) (.int i) where
  to := rfl
  lay := by simp only [PyData.canLay0]
  shw := by
    simp only [PyData.showable]
    exact decide_eq_true h.log
  nod := by simp only [PyData.hasDict]
  deep := by simp only [PyData.depth]; exact Nat.le_refl _
  len := by
    have := int_text_len_1921 h.log
    simp only [PyData.shown]
    exact Nat.le_trans (Nat.add_le_add_right this 2) (by decide)
theorem pls_nil : Pls 0 k [] [] where
  to := rfl
  lay := by simp only [PyData.canLayAll0]
  shw := by simp only [PyData.showableAll]
  nod := by simp only [PyData.hasDictAll]
  deep := by simp only [PyData.depthAll]; exact Nat.zero_le _
  len := by simp only [PyData.shownAll, piled_nil]; exact Nat.zero_le _
theorem pls_cons (h : Pl n k w d) (t : Pls m k ws ds) : Pls (n + m) k (w :: ws) (d :: ds) where
  to := by simp only [toDs, h.to, t.to]
  lay := by simp only [PyData.canLayAll0, h.lay, t.lay]; rfl
  shw := by simp only [PyData.showableAll, h.shw, t.shw]; rfl
  nod := by simp only [PyData.hasDictAll, h.nod, t.nod]; rfl
  deep := by simp only [PyData.depthAll]; exact Nat.max_le.mpr ⟨h.deep, t.deep⟩
  len := by
    have h1 := h.len
    have h2 := t.len
    simp only [PyData.shownAll, piled_cons]
    omega
theorem Pl.mono (h : Pl n k w d) (hn : n ≤ m) (hk : k ≤ j) : Pl m j w d := ⟨h.to, h.lay, h.shw, h.nod, Nat.le_trans h.deep hk, Nat.le_trans h.len (Nat.mul_le_mul_left _ hn)⟩
theorem Pls.mono (h : Pls n k ws ds) (hn : n ≤ m) (hk : k ≤ j) : Pls m j ws ds := ⟨h.to, h.lay, h.shw, h.nod, Nat.le_trans h.deep hk, Nat.le_trans h.len (Nat.mul_le_mul_left _ hn)⟩
theorem listText_len : ∀ ts : List Str, (listText ts).length ≤ piled ts + 2
  | [] => by decide
  | t :: r => by
    unfold listText
    rw [strLen_append]
    show (textFrom 1 (("[" : Str) ++ ("" : String) ++ t) r).length + 1 ≤ _
    rw [textFrom_length_pos _ _ _ (by decide), strLen_append, strLen_append, piled_cons]
    show 1 + 0 + t.length + piled r + 1 ≤ _
    omega
theorem tupleText_len (ts : List Str) : (tupleText ts).length ≤ piled ts + 3 := by
  unfold tupleText
  rw [strLen_append, strLen_append]
  have e1 : ((("(" : String) : Str)).length = 1 := rfl
  have e3 : (((if ts.length == 1 then ",)" else ")" : String) : Str)).length ≤ 2 := by split <;> decide
  rw [e1]
  by_cases h : ts = []
  · subst h
    show 1 + 0 + _ ≤ _
    omega
  · have := join_length_add ts h
    omega
theorem pl_lst (h : Pls n k ws ds) : Pl (n + 1) (k + 1) (.lst ws) (.list ds) where
  to := by simp only [toD0, h.to]; rfl
  lay := by simp only [PyData.canLay0, h.lay]
  shw := by simp only [PyData.showable, h.shw]
  nod := by simp only [PyData.hasDict, h.nod]
  deep := by simp only [PyData.depth]; exact Nat.succ_le_succ h.deep
  len := by
    have h1 := h.len
    have h2 := listText_len (PyData.shownAll ds)
    simp only [PyData.shown]
    omega
theorem pl_tup (h : Pls n k ws ds) : Pl (n + 1) (k + 1) (.tup ws) (.tuple ds) where
  to := by simp only [toD0, h.to]; rfl
  lay := by simp only [PyData.canLay0, h.lay]
  shw := by simp only [PyData.showable, h.shw]
  nod := by simp only [PyData.hasDict, h.nod]
  deep := by simp only [PyData.depth]; exact Nat.succ_le_succ h.deep
  len := by
    have h1 := h.len
    have h2 := tupleText_len (PyData.shownAll ds)
    simp only [PyData.shown]
    omega
theorem pls_ints : ∀ {ns : List Int}, (∀ i ∈ ns, Sm i) → Pls ns.length 0 (ns.map .int) (ns.map .int)
  | [], _ => pls_nil
  | a :: ns, h => by
    have := pls_cons (pl_int (h a List.mem_cons_self)) (pls_ints fun i hi => h i (List.mem_cons_of_mem _ hi))
    rw [Nat.add_comm] at this
    exact this
theorem pl_tI (h : ∀ i ∈ ns, Sm i) : Pl (ns.length + 1) 1 (tI ns) (.tuple (ns.map .int)) := pl_tup (pls_ints h)
theorem repr_pl (hd : disp w = true) (ht : toD s w = toD0 w) (h : Pl n k w d) (hn : n ≤ 8000) (hk : k ≤ 60) : reprD s [w] = some (.str d.shown) := by
  show (if disp w = true then match toD s w with
      | some d => if d.showable = true ∧ d.hasDict = false ∧ d.depth ≤ 60 ∧ d.shown.length ≤ lim then some (Dv.str d.shown) else none
      | none => none
    else none) = _
  rw [if_pos hd, ht, h.to]
  have h1 := h.len
  exact if_pos ⟨h.shw, h.nod, Nat.le_trans h.deep hk, by unfold lim; omega⟩
theorem repr_lst (h : Pl n k (.lst ws) d) (hn : n ≤ 8000) (hk : k ≤ 60) : reprD s [.lst ws] = some (.str d.shown) := repr_pl rfl rfl h hn hk
theorem repr_tup (h : Pl n k (.tup ws) d) (hn : n ≤ 8000) (hk : k ≤ 60) : reprD s [.tup ws] = some (.str d.shown) := repr_pl rfl rfl h hn hk
theorem eq_ss {a b : Str} : eqD s (.str a) (.str b) = some (.bl (decide (a = b))) := by
  have e : decide (V.str a = V.str b) = decide (a = b) := by
    by_cases h : a = b
    · rw [h, decide_eq_true rfl, decide_eq_true rfl]
    · rw [decide_eq_false h, decide_eq_false fun z => h (V.str.inj z)]
  show (some (decide (V.str a = V.str b))).map Dv.bl = _
  rw [e]
  rfl
theorem eq_refl_ss {a : Str} : eqD s (.str a) (.str a) = some (.bl true) := by rw [eq_ss, decide_eq_true rfl]
/-- ints of any size -/
theorem toDs_ints : ∀ ns : List Int, toDs (ns.map .int) = some (ns.map .int)
  | [] => rfl
  | a :: ns => by
    rw [List.map_cons]
    simp only [toDs, toD0, toDs_ints ns]
    rfl
theorem lay_ints : ∀ ns : List Int, PyData.canLayAll0 (ns.map .int) = true
  | [] => by simp only [List.map_nil, PyData.canLayAll0]
  | a :: ns => by simp only [List.map_cons, PyData.canLayAll0, PyData.canLay0, lay_ints ns]; rfl
theorem deep_ints : ∀ ns : List Int, PyData.depthAll (ns.map .int) = 0
  | [] => by simp only [List.map_nil, PyData.depthAll]
  | a :: ns => by simp only [List.map_cons, PyData.depthAll, PyData.depth, deep_ints ns]; rfl
theorem shaped_list_ints : SeqAt.shaped (.list (ns.map .int)) = true := by
  unfold SeqAt.shaped
  simp only [PyData.canLay0, lay_ints, PyData.depth, deep_ints]
  rfl
theorem eqv_ints : ∀ ns ms : List Int, PyData.eqvAll (ns.map .int) (ms.map .int) = decide (ns = ms)
  | [], [] => by simp [PyData.eqvAll]
  | [], _ :: _ => by simp [PyData.eqvAll]
  | _ :: _, [] => by simp [PyData.eqvAll]
  | a :: ns, b :: ms => by
    rw [List.map_cons, List.map_cons]
    simp only [PyData.eqvAll, PyData.eqv, eqv_ints ns ms]
    by_cases h : a = b <;> by_cases h2 : ns = ms <;> simp [h, h2]
theorem eqB_lI {ms : List Int} : eqB s (lI ns) (lI ms) = some (decide (ns = ms)) := by
  have e1 : toD s (lI ns) = some (.list (ns.map .int)) := by
    show (toDs (ns.map .int)).map PyData.list = _
    rw [toDs_ints]; rfl
  have e2 : toD s (lI ms) = some (.list (ms.map .int)) := by
    show (toDs (ms.map .int)).map PyData.list = _
    rw [toDs_ints]; rfl
  show (match toD s (lI ns), toD s (lI ms) with
    | some d, some e => if SeqAt.shaped d = true ∧ SeqAt.shaped e = true then some (PyData.eqv d e) else none
    | _, _ => none) = _
  rw [e1, e2]
  dsimp only
  rw [if_pos ⟨shaped_list_ints, shaped_list_ints⟩]
  simp only [PyData.eqv, eqv_ints]
theorem eq_lI {ms : List Int} : eqD s (lI ns) (lI ms) = some (.bl (decide (ns = ms))) := by
  unfold eqD
  rw [eqB_lI]
  rfl
theorem ne_lI {ms : List Int} : neD s (lI ns) (lI ms) = some (.bl (!decide (ns = ms))) := by
  unfold neD
  rw [eqB_lI]
  rfl
/-- the branch that is not taken -/
theorem ifS_f {t : FT} {c c' : FS} {ρ : Env} {s1 : Sto} (h : t ρ s = .ok false s1) : mIfS t c c' ρ s = c' ρ s1 := by
  rw [ifS_ev, h, then_ok, if_neg (by decide)]
theorem ifS_t {t : FT} {c c' : FS} {ρ : Env} {s1 : Sto} (h : t ρ s = .ok true s1) : mIfS t c c' ρ s = c ρ s1 := by
  rw [ifS_ev, h, then_ok, if_pos rfl]
theorem lst_v {fa : FA} {ρ : Env} {s1 : Sto} {ws : List Dv} (h : fa ρ s = .ok ws s1) (hl : ws.length ≤ 1000000) : mLst fa ρ s = .ok (.lst ws) s1 := by
  rw [lst_ev, h, bind_ok, if_pos (by unfold lim; omega)]
theorem tup_v {fa : FA} {ρ : Env} {s1 : Sto} {ws : List Dv} (h : fa ρ s = .ok ws s1) (hl : ws.length ≤ 1000000) : mTup fa ρ s = .ok (.tup ws) s1 := by
  rw [tup_ev, h, bind_ok, if_pos (by unfold lim; omega)]
theorem cons_v {f : FE} {fa : FA} {ρ : Env} {s1 s2 : Sto} {w : Dv} {ws : List Dv} (h : f ρ s = .ok w s1) (h2 : fa ρ s1 = .ok ws s2) : mCons f fa ρ s = .ok (w :: ws) s2 := by
  rw [cons_ev, h, bind_ok, h2, bind_ok]
theorem call_v {d : Fn} {fa : FA} {ρ : Env} {s1 : Sto} {ws : List Dv} {r : R Dv} (h : fa ρ s = .ok ws s1) (h2 : d ws s1 = r) : mCall d fa ρ s = r := by
  rw [call_ev, h, bind_ok, h2]
theorem bin_v {o : O2} {f g : FE} {ρ : Env} {s1 s2 : Sto} {x y z : Dv} (h : f ρ s = .ok x s1) (h2 : g ρ s1 = .ok y s2) (h3 : o s2 x y = some z) : mBin o f g ρ s = .ok z s2 := by
  rw [bin_ev, h, bind_ok, h2, bind_ok, h3, of_some]
theorem blt_v {o : ON} {fa : FA} {ρ : Env} {s1 : Sto} {ws : List Dv} {z : Dv} (h : fa ρ s = .ok ws s1) (h3 : o s1 ws = some z) : mBlt o fa ρ s = .ok z s1 := by
  rw [blt_ev, h, bind_ok, h3, of_some]
theorem asg_v {f : FE} {i : Nat} {ρ : Env} {s1 : Sto} {w : Dv} (h : f ρ s = .ok w s1) : mAsg f (gN i) ρ s = .nx (ρ.set i (some w)) s1 := by
  rw [asgN_ev, h, then_ok]
theorem ret_v {f : FE} {ρ : Env} {s1 : Sto} {w : Dv} (h : f ρ s = .ok w s1) : mRet f ρ s = .rt w s1 := by
  rw [ret_ev, h, then_ok]
theorem seq_nx {c c' : FS} {ρ ρ1 : Env} {s1 : Sto} {r : C} (h : c ρ s = .nx ρ1 s1) (h2 : c' ρ1 s1 = r) : mSeq c c' ρ s = r := by
  rw [seq_ev, h, seqK_nx, h2]
theorem seq_rt {c c' : FS} {ρ : Env} {s1 : Sto} {w : Dv} (h : c ρ s = .rt w s1) : mSeq c c' ρ s = .rt w s1 := by
  rw [seq_ev, h, seqK_rt]
theorem test_v {f : FE} {ρ : Env} {s1 : Sto} {b : Bool} (h : f ρ s = .ok (.bl b) s1) : mTest f ρ s = .ok b s1 := by
  rw [test_ev, h, bind_ok, testK_bl]
section
open Classical
variable {vs : List Nat} {g : FG} {tt : FT} {elt : FE} {ρ : Env}
/-- a comprehension with a test that changes nothing -/
theorem comp_filt {α : Type} {f : FI} {l : List α} {e : α → Dv} (φ : α → Dv) (t : α → Bool) (hf : f ρ s = .ok { ws := l.map e } s) (hl : l.length ≤ lim) (h : ∀ a ∈ l, ∃ ρ1, g (e a) (wipeD ρ vs) s = some ρ1 ∧ tt ρ1 s = .ok (t a) s ∧ (t a = true → elt ρ1 s = .ok (φ a) s)) : mComp f vs g tt elt ρ s = .ok (.lst ((l.filter t).map φ)) s := by
  have key : ∀ {l : List α}, (∀ a ∈ l, ∃ ρ1, g (e a) (wipeD ρ vs) s = some ρ1 ∧ tt ρ1 s = .ok (t a) s ∧ (t a = true → elt ρ1 s = .ok (φ a) s)) → compL none vs g tt elt ρ (l.map e) s = some ((l.filter t).map φ, s) := fun {l} => by
    induction l with
    | nil => intro _; rw [List.map_nil]; simp [compL]
    | cons a l ih =>
      intro h
      obtain ⟨ρ1, h1, h2, h3⟩ := h a List.mem_cons_self
      rw [List.map_cons]
      unfold compL
      rw [if_pos (.inl rfl), h1]
      simp only [h2]
      cases q : t a with
      | true =>
        rw [List.filter_cons_of_pos q]
        simp only [h3 q]
        rw [ih fun b hb => h b (List.mem_cons_of_mem _ hb)]
        rfl
      | false =>
        rw [List.filter_cons_of_neg (by rw [q]; decide)]
        exact ih fun b hb => h b (List.mem_cons_of_mem _ hb)
  unfold mComp
  rw [hf, bind_ok]
  dsimp only
  rw [key h]
  dsimp only
  rw [if_pos (by rw [List.length_map]; exact Nat.le_trans (List.length_filter_le _ _) hl)]
end
end MP
set_option Elab.async false
set_option linter.all false
set_option maxRecDepth 100000
set_option maxHeartbeats 4000000
namespace MP
open PySem PySem.Spec PyProof.Rows L2
def maxO (d : Int) : List Int → Int
  | [] => d
  | n :: ns => ns.foldl max n
theorem foldl_max_le : ∀ (ns : List Int) (n : Int), n ≤ ns.foldl max n ∧ ∀ m ∈ ns, m ≤ ns.foldl max n
  | [], n => ⟨Int.le_refl _, fun _ h => nomatch h⟩
  | a :: ns, n => by
    obtain ⟨h1, h2⟩ := foldl_max_le ns (max n a)
    refine ⟨Int.le_trans (by omega : n ≤ max n a) h1, fun m hm => ?_⟩
    rcases List.mem_cons.mp hm with rfl | hm
    · exact Int.le_trans (by omega : m ≤ max n m) h1
    · exact h2 m hm
theorem foldl_max_mem : ∀ (ns : List Int) (n : Int), ns.foldl max n ∈ n :: ns
  | [], n => List.mem_cons_self
  | a :: ns, n => by
    have := foldl_max_mem ns (max n a)
    show ns.foldl max (max n a) ∈ _
    rcases List.mem_cons.mp this with h | h
    · rw [h]
      by_cases q : n ≤ a
      · rw [show max n a = a by omega]; exact List.mem_cons_of_mem _ List.mem_cons_self
      · rw [show max n a = n by omega]; exact List.mem_cons_self
    · exact List.mem_cons_of_mem _ (List.mem_cons_of_mem _ h)
theorem maxO_uniq {d m : Int} {ns : List Int} (h : m ∈ ns) (h2 : ∀ y ∈ ns, y ≤ m) : m = maxO d ns := by
  cases ns with
  | nil => cases h
  | cons a ns =>
    have h3 := h2 _ (foldl_max_mem ns a)
    obtain ⟨h4, h5⟩ := foldl_max_le ns a
    show m = ns.foldl max a
    rcases List.mem_cons.mp h with rfl | h
    · omega
    · have := h5 m h; omega
section
variable {X : Cx} {Γ : Ct} {W : WX}
def rMaxDef (K : PySem.W.Frag) : List V → List V → Hp → VK → Prop := fun vs zs H Q => ∃ (a : Addr) (ns : List Int) (d : Int), vs = [V.ref a] ∧ zs = [V.int d] ∧ SqL K H a (ns.map V.int) ∧ Q (.int (maxO d ns)) H
theorem cr_maxDef (hc : X.calm = true) (hu : X.A.units + 64 < cLine) : CallRK X (.builtin "max") [Str.ofString "default"] (rMaxDef X.K) := by
  intro pins s σ H vs zs us ws Q I r rz h
  obtain ⟨a, ns, d, rfl, rfl, hs, q⟩ := h
  obtain ⟨its, rv, hl, _⟩ := I.list hs
  rw [Vals.ref1 r]
  obtain ⟨w1, rfl, e1⟩ := vals1 rz
  have hd : PyData.depthAll (ns.map .int) = 0 := deep_ints ns
  refine PySem.W.max_list_default (xs := ns.map .int) (I.ok.hd hc) hl.isList (IntsAre.reads _ rv.ints) ?_ (by rw [hd]; omega) (fun h0 h' tk hk => ?_) fun y ys i v h' tk bs hx hv hr hk => ?_
  · constructor
    · intro x hx y hy
      obtain ⟨i, _, rfl⟩ := List.mem_map.mp hx
      obtain ⟨j, _, rfl⟩ := List.mem_map.mp hy
      simp [PySem.W.alike]
    · intro x hx
      obtain ⟨i, _, rfl⟩ := List.mem_map.mp hx
      intro z; cases z
  · have : ns = [] := by simpa using h0
    subst this
    exact ⟨.int d, H, I.kept hk, e1, q⟩
  · cases ns with
    | nil => cases hx
    | cons n ns =>
      cases hx
      rw [PySem.W.maxD_ints] at hr
      cases hr
      exact ⟨.int _, H, I.kept hk, ⟨_, rfl⟩, q⟩
/-- max(x, default=d) -/
def maxDefD : O2 := fun s x y => match y with
  | .int d => match lstOf s x with
    | some ws => (intsOf ws).map fun ns => .int (maxO d ns)
    | none => none
  | _ => none
theorem me_maxDef {e e2 : Expr} {f g : FE} {p pos kp : Pos} (hK : Γ.K = X.K) (hc : X.calm = true) (hu : X.A.units + 64 < cLine) (hg : Gl X "max") (hm : X.mg "max" = none) (ha : ME X Γ W e f) (hb : ME X Γ W e2 g)
    (he : backTo pos (starEach [e] X.env) = (false, eval e X.env) :: backTo pos (starEach [] X.env) := by rfl) (he' : starEach [e] X.env = (false, eval e X.env) :: starEach [] X.env := by rfl) (hpl : (backTo pos (starEach [e] X.env)).any (·.1) = false := by rfl)
    (hall : (backToKw pos (keywordEach [⟨some "default", e2, kp⟩] X.env)).all (·.1.isSome) = true := by rfl) (hnone : (backToKw pos (keywordEach [⟨some "default", e2, kp⟩] X.env)).any (·.1.isNone) = false := by rfl) (hks : (backToKw pos (keywordEach [⟨some "default", e2, kp⟩] X.env)).filterMap (·.1) = [Str.ofString "default"] := by rfl) :
    ME X Γ W (.Call (.Name "max" p) [e] [⟨some "default", e2, kp⟩] pos) (mBin maxDefD f g) :=
  PE.imp (pe_callBK (cr_maxDef hc hu) hg hm (by decide +kernel) (pa_cons ha pa_nil he') (pk_cons hb pk_nil) (by decide) (by decide) he hpl hall hnone hks) fun σ H Q ⟨μ, Z, ρ, s, hE, hR, q⟩ =>
    eE hE hR q fun x s1 u H1 μ1 e1 hE1 R1 r1 q1 => eE hE1 R1 q1 fun y s2 v H2 μ2 e2 hE2 R2 r2 q2 => by
      obtain ⟨w, hw, k⟩ := ofE q2
      unfold maxDefD at hw
      split at hw
      · rename_i d
        split at hw
        · rename_i ws ql
          cases qi : intsOf ws with
          | none => rw [qi] at hw; cases hw
          | some ns =>
            rw [qi] at hw
            cases hw
            obtain ⟨a, ys, rfl, h2, h3⟩ := lstOf_ok R2 (r1.mono e2) ql
            rw [intsOf_ok qi] at h3
            have h4 := h3.ints
            subst h4
            refine ⟨a, ns, d, rfl, ?_, SqL.of h2, k _ H2 .refl R2 rfl⟩
            rw [show v = .int d from r2]
        · cases hw
      · cases hw
/-- max(x), some ints -/
def maxLD : ON := fun s xs => match xs with
  | [x] => match lstOf s x with
    | some ws => match intsOf ws with
      | some (n :: ns) => some (.int (maxO 0 (n :: ns)))
      | _ => none
    | none => none
  | _ => none
theorem sMaxL (hK : Γ.K = X.K) : OpN Γ (rMax X.K) maxLD := fun H μ Z s xs w vs Q hR rx e k => by
  rw [← hK]
  unfold maxLD at e
  split at e
  · rename_i y
    split at e
    · rename_i ws q
      split at e
      · rename_i n ns q2
        cases e
        obtain ⟨v, rfl, r1⟩ := one rx
        obtain ⟨a, ys, rfl, h2, h3⟩ := lstOf_ok hR r1 q
        rw [intsOf_ok q2] at h3
        have h4 := h3.ints
        subst h4
        refine ⟨a, n :: ns, rfl, SqL.of h2, Nat.succ_pos _, fun m hm h => ?_⟩
        rw [maxO_uniq (d := 0) hm h]
        exact k _ H .refl hR rfl
      · cases e
    · cases e
  · cases e
/-- a try whose body raises nothing -/
def mTryN (c : FS) : FS := fun ρ s => match c ρ s with
  | .er _ _ _ => .no
  | r => r
theorem ms_tryN {body : List Stmt} {h₀ : ExceptHandler} {hs : List ExceptHandler} {pos : Pos} {c : FS} (hb : MB X.nox Γ W0 body c) : MS X Γ W (.Try body (h₀ :: hs) [] [] pos) (mTryN c) :=
  PS.imp (ps_try_thru0 hb) fun D σ H ⟨μ, Z, ρ, s, hE, hR, q⟩ => by
    refine ⟨μ, Z, ρ, s, hE, hR, ?_⟩
    unfold mTryN at q
    cases e : c ρ s with
    | er x ρ' s' => rw [e] at q; exact q.elim
    | nx _ _ => rw [e] at q; exact q
    | rt _ _ => rw [e] at q; exact q
    | bk _ _ => rw [e] at q; exact q
    | ct _ _ => rw [e] at q; exact q
    | no => rw [e] at q; exact q
end
end MP
set_option Elab.async false
set_option linter.all false
set_option maxRecDepth 100000
set_option maxHeartbeats 4000000
namespace MPZ
open PySem PySem.W
section
variable {prog : Program} {w : World} {A : Around} {E : Value → Shared → Prop} {s : Shared} {z TI TO T i1 i2 l1 l2 : Addr} {f : Bool} {oT : Obj} {k1 k2 : Nat} {xs ys : Array Value}
/-- a zip that goes on while its last tuple is still held -/
structure On (h : Heap) (z TI i1 i2 l1 l2 : Addr) (k1 k2 : Nat) (xs ys : Array Value) : Prop where
  tI : PySem.IsPair h TI (.ref i1) (.ref i2)
  a : h.IsTupleIter i1 l1 k1
  b : h.IsTupleIter i2 l2 k2
  la : h.IsTuple l1 xs
  lb : h.IsTuple l2 ys
/-- where a zip of two tuples stands -/
structure Zst (h : Heap) (z TI TO i1 i2 l1 l2 S : Addr) (k : Nat) (xs ys : Array Value) : Prop where
  on : On h z TI i1 i2 l1 l2 k k xs ys
  st : (PySem.IsZip h z TI TO .none ∧ PySem.IsPair h TO .none .none) ∨ ∃ T f oT, IsZipHeld h z TI TO T f ∧ h.get? T = some oT ∧ T ≠ z ∧ T ≠ i1 ∧ T ≠ i2 ∧ T ≠ S
variable {S : Addr} {k : Nat}
/-- the pairs, as new tuples above lo -/
structure Prs (xs ys : Array Value) (lo : Addr) (h : Heap) (as : List Addr) : Prop where
  rise : as.Pairwise (· < ·)
  over : ∀ a ∈ as, lo < a
  pair : ∀ (j : Nat) (a : Addr), as[j]? = some a → ∃ x y, xs[j]? = some x ∧ ys[j]? = some y ∧ PySem.IsPair h a x y
theorem Prs.low {lo lo' : Addr} {h : Heap} {as : List Addr} (p : Prs xs ys lo h as) (hl : lo' ≤ lo) : Prs xs ys lo' h as := ⟨p.rise, fun a ha => Nat.lt_of_le_of_lt hl (p.over a ha), p.pair⟩
theorem Prs.keep {lo : Addr} {h g : Heap} {as : List Addr} (p : Prs xs ys lo h as) (hk : ∀ b u, lo < b → h.get? b = some u → g.get? b = some u) : Prs xs ys lo g as :=
  ⟨p.rise, p.over, fun j a q => let ⟨x, y, e1, e2, e3⟩ := p.pair j a q; ⟨x, y, e1, e2, hk a _ (p.over a (List.mem_of_getElem? q)) e3⟩⟩
end
section
variable {prog : Program} {w : World} {A : Around} {s : Shared} {R : Result → Shared → Prop} {z TI TO i1 i2 l1 l2 S : Addr} {xs ys : Array Value}
theorem Zst.ty {h : Heap} {k : Nat} (zs : Zst h z TI TO i1 i2 l1 l2 S k xs ys) {s : Shared} (e : s.heap = h) : s.TypeIs (.ref z) "zip" := by
  subst e
  rcases zs.st with ⟨hz, _⟩ | ⟨_, _, _, hz, _⟩
  · exact ⟨_, hz, rfl⟩
  · exact ⟨_, hz, rfl⟩
end
end MPZ
set_option Elab.async false
set_option linter.all false
set_option maxRecDepth 100000
set_option maxHeartbeats 4000000
namespace MP
open PySem PySem.Spec PyProof.Rows L2
theorem Un.more {fs ex : List Addr} {H H1 : Hp} {h h' : Heap} {a : Addr} {o : HO} (u : Un fs ex H H1 h h') (hp : h.objs.size ≤ a) (hn : H1 a = none) : Un fs ex H (upd H1 a o) h h' where
  keep := u.keep
  slot := u.slot
  free := fun b ob q n hx => by rw [upd_ne (Nat.ne_of_lt (Nat.lt_of_lt_of_le (Heap.lt_size q) hp))]; exact u.free b ob q n hx
  there := u.there
  tups := fun b xs q => by rw [upd_ne (ne_of_none (u.tups b xs q) hn)]; exact u.tups b xs q
  frzs := fun b ob xs q => by rw [upd_ne (ne_of_none (u.frzs b ob xs q) hn)]; exact u.frzs b ob xs q
  tbls := fun b ps q => by
    obtain ⟨m, e⟩ := u.tbls b ps q
    exact ⟨m, by rw [upd_ne (ne_of_none e hn)]; exact e⟩
theorem HOk.more {P : Program} {w : World} {H : Hp} {h : Heap} {a : Addr} {o : HO} (x : HOk P w H h) (hn : H a = none) (new : ObjOk P w (upd H a o) h a o) : HOk P w (upd H a o) h := fun b u e => by
  by_cases hb : b = a
  · subst hb
    rw [upd_same] at e
    cases e
    exact new
  · rw [upd_ne hb] at e
    exact (x b u e).stay (fun _ _ _ q => q) (fun c q => (upd_ne (ne_of_none q hn)).trans q) fun c ps q => (upd_ne (ne_of_none q hn)).trans q
end MP
set_option Elab.async false
set_option linter.all false
set_option maxRecDepth 100000
set_option maxHeartbeats 4000000
namespace MP
open PySem PySem.Spec PyProof.Rows L2
def under (c j : Nat) : Bool := decide (c = j) || (decide (j = 0) && decide (c ≤ 7))
def underT (c : Nat) (n : String) : Option Bool := if n = "ValueError" then some (decide (c ≤ 7)) else if n = "LookupError" then some (decide (c = 8)) else none
def exCls : Dv → Option Nat
  | .exc c _ _ => if c < 9 then some c else none
  | .exn c => if c < 9 then some c else none
  | _ => none
def isxD : ON := fun _ xs => match xs with
  | [x, .cl j] => match exCls x with
    | some c => if j < 9 then some (.bl (under c j)) else none
    | none => none
  | [x, .ty n] => match exCls x with
    | some c => (underT c n).map .bl
    | none => none
  | _ => none
section
variable {X : Cx} {Γ : Ct}
/-- isinstance, of data and of exceptions -/
def isiA : ON := fun s xs => match isiD s xs with
  | some w => some w
  | none => isxD s xs
end
end MP
set_option Elab.async false
set_option linter.all false
set_option maxRecDepth 100000
set_option maxHeartbeats 4000000
namespace MP
open PySem PySem.Spec PyProof.Rows L2
/-- raise C(e) -/
def mRaise (c : Nat) (f : Str) (g : FE) : FS := fun ρ s => (g ρ s).thenC ρ fun w s1 => .er ⟨c, f, w⟩ ρ s1
end MP
set_option Elab.async false
set_option linter.all false
set_option maxRecDepth 100000
set_option maxHeartbeats 4000000
namespace MP
open PySem PySem.Spec PyProof.Rows L2
end MP
set_option Elab.async false
set_option linter.all false
set_option maxRecDepth 100000
set_option maxHeartbeats 4000000
namespace MP
open PySem PySem.Spec PyProof.Rows L2
end MP
set_option Elab.async false
set_option linter.all false
set_option maxRecDepth 100000
set_option maxHeartbeats 4000000
namespace MP
open PySem PySem.Spec PyProof.Rows L2
/-- the names of a lambda: captured ones, globals, and of its own none but what its maker has not -/
structure LamN (N : List Str) (sc scope : Scope) : Prop where
  kind : scope.kind = .function
  co : scope.isCoroutine = false
  gen : scope.isGenerator = false
  cell : ∀ y ∈ scope.names, y.2 ≠ .cell
  own : ∀ y ∈ scope.names, y.2 = .local → y.1 ∉ N
  free : ∀ y ∈ scope.names, y.2 = .free → sc.names.lookup y.1 = some .cell ∨ sc.names.lookup y.1 = some .free
theorem LamN.has {N : List Str} {X : Cx} {scope : Scope} (L : LamN N X.env.scope scope) (ok : X.Ok) : ∀ y ∈ scope.names, y.2 = .free → ∃ c, X.env.cells.lookup y.1 = some c := fun y hy e => ok.has _ (L.free y hy e)
end MP
set_option Elab.async false
set_option linter.all false
set_option maxRecDepth 100000
set_option maxHeartbeats 4000000
namespace MP
open PySem PySem.Spec PyProof.Rows L2
abbrev lamFd (q : Str) (params : Arguments) (body : Expr) (scope : Scope) (cl : List (Str × Addr)) (dV doc pm : Value) (c' : Addr) (ctv : Value) : FuncData := PySem.W.kdv_fn "<lambda>" q params (.expr body) scope cl dV doc pm (.ref c') ctv
abbrev lamObj (q : Str) (params : Arguments) (body : Expr) (scope : Scope) (cl : List (Str × Addr)) (dV doc pm : Value) (c' : Addr) (ctv : Value) : Obj := { cls := .type "function", data := .func (lamFd q params body scope cl dV doc pm c' ctv) }
/-- a lambda on its way, made ahead of the state s0 under the frames outer: what holds of it and what its call does -/
structure Thk (P : Program) (w : World) (Γ : Ct) (mg : Str → Option Value) (base : Heap) (kk : Nat) (outer : List PySem.Env) (s0 : Shared) (H0 : Hp) (f c' : Addr) (q : Str) (ws : List Dv) (vs : List V) (g : Sto → R Dv) : Prop where
  fn : ∀ (s1 : Shared) (HZ : Hp), Un (frs outer) [] H0 HZ s0.heap s1.heap → HOk P w HZ s1.heap → PySem.W.FnAt f s1.heap
  run : ∀ (A : Around) (outer1 : List PySem.Env) (s1 : Shared) (HZ : Hp) (Q : VK) (E : XK) (μ : Mu) (Z : Zs) (st : Sto), Room kk A → A.guards = some [] → Env0 P w Γ.K mg base A outer1 s1 HZ → Un (frs outer) [] H0 HZ s0.heap s1.heap →
    HZ c' = some (LamX.CodeO c' q) → RVs Γ HZ μ Z ws vs → Rep Γ HZ μ Z st → PostE Γ (fun c d _ H => E c d H) HZ μ Z [] Q (g st) → codeAny (model P w) A (.call (.ref f) ⟨[], []⟩) (CR (L2.CX P w) outer1 P w HZ s1 Q E) s1
theorem un_comp {fs : List Addr} {L : Addr} {H H1 H2 : Hp} {h h1 h2 : Heap} (u : Un fs [] H H1 h h1) (v : Un (L :: fs) [] H1 H2 h1 h2) (hL : h.objs.size ≤ L) : Un fs [] H H2 h h2 where
  keep := fun b o q n hb hx => v.keep b o (u.keep b o q n hb hx) (u.free b o q n hx) (fun z => (List.mem_cons.mp z).elim (fun e => Nat.lt_irrefl _ (Nat.lt_of_lt_of_le (Heap.lt_size q) (by rw [e]; exact hL))) hb) hx
  slot := fun b o q n hb hx => by
    obtain ⟨sl, e1⟩ := u.slot b o q n hb hx
    obtain ⟨sl2, e2⟩ := v.slot b _ e1 (u.free b o q n hx) (List.mem_cons_of_mem _ hb) hx
    exact ⟨sl2, e2⟩
  free := fun b o q n hx => by
    obtain ⟨o1, e1⟩ := u.there b o q hx
    exact v.free b o1 e1 (u.free b o q n hx) hx
  there := fun b o q hx => by
    obtain ⟨o1, e1⟩ := u.there b o q hx
    exact v.there b o1 e1 hx
  tups := fun b xs q => v.tups b xs (u.tups b xs q)
  frzs := fun b o xs q => v.frzs b o xs (u.frzs b o xs q)
  tbls := fun b ps q => by
    obtain ⟨m1, e1⟩ := u.tbls b ps q
    obtain ⟨m2, e2⟩ := v.tbls b _ e1
    exact ⟨m1 ++ m2, by rw [e2, Array.append_assoc]⟩
/-- one frame deeper -/
theorem Thk.deeper {P : Program} {w : World} {Γ : Ct} {mg : Str → Option Value} {base : Heap} {kk : Nat} {outer : List PySem.Env} {s0 s' : Shared} {H0 H' : Hp} {f c' : Addr} {q : Str} {ws : List Dv} {vs : List V} {g : Sto → R Dv} {env : PySem.Env} {L : Addr}
    (T : Thk P w Γ mg base kk outer s0 H0 f c' q ws vs g) (hf : env.frame = some L) (hL : s0.heap.objs.size ≤ L) (u : Un (frs outer) [] H0 H' s0.heap s'.heap) : Thk P w Γ mg base kk (env :: outer) s' H' f c' q ws vs g := by
  have e : frs (env :: outer) = L :: frs outer := by unfold frs; rw [List.filterMap_cons, hf]
  exact ⟨fun s1 HZ v ok => T.fn s1 HZ (un_comp u (e ▸ v) hL) ok, fun A outer1 s1 HZ Q E μ Z st h1 h2 h3 v => T.run A outer1 s1 HZ Q E μ Z st h1 h2 h3 (un_comp u (e ▸ v) hL)⟩
end MP
set_option Elab.async false
set_option linter.all false
set_option maxRecDepth 100000
set_option maxHeartbeats 4000000
namespace MP
open PySem PySem.Spec PyProof.Rows L2
end MP
set_option Elab.async false
set_option linter.all false
set_option maxRecDepth 100000
set_option maxHeartbeats 4000000
namespace MP
open PySem PySem.Spec PyProof.Rows L2
section
variable {X : Cx} {Γ : Ct} {W : WX} {k kk : Nat} {f : Addr} {fd : FuncData} {ps : List Str} {den : (Sto → R Dv) → Fn} {x a : Str} {i : Nat} {p p1 p2 pos lpos : Pos} {es : List Expr} {fa : FA}
open Classical in
/-- a(): the lambda that the name holds -/
noncomputable def mThk (i : Nat) (cl : Dv) (g : Sto → R Dv) : FE := fun ρ s => if ρ[i]? = some (some cl) then g s else .no
open Classical in
/-- x(a, ..): the lambda is handed on -/
noncomputable def mPass (cl : Dv) (g : Sto → R Dv) (den : (Sto → R Dv) → Fn) (fa : FA) : FE := fun ρ s => (fa ρ s).bind fun ws s1 => match ws with
  | w :: wa => if w = cl then den g wa s1 else .no
  | [] => .no
end
end MP
set_option Elab.async false
set_option linter.all false
set_option maxRecDepth 100000
set_option maxHeartbeats 4000000
namespace MP
open PySem PySem.Spec PyProof.Rows L2
end MP
set_option Elab.async false
set_option linter.all false
set_option maxRecDepth 100000
set_option maxHeartbeats 4000000
namespace MP
open PySem PySem.Spec PyProof.Rows L2
end MP
set_option Elab.async false
set_option linter.all false
set_option maxRecDepth 100000
set_option maxHeartbeats 4000000
namespace MP
open PySem PySem.Spec PyProof.Rows L2
end MP
set_option Elab.async false
set_option linter.all false
set_option maxRecDepth 100000
set_option maxHeartbeats 4000000
namespace MP
open PySem PySem.Spec PyProof.Rows L2
section
variable {s s1 : Sto} {ρ : Env} {w v : Dv} {f g : FE} {fa : FA} {c su : FS} {ws : List Dv} {i n : Nat} {j : Int} {b : Bool} {y : Str} {ks : List Key}
@[simp] theorem isA_ii : isiA s [.int j, .ty "int"] = some (.bl true) := rfl
@[simp] theorem isA_ib : isiA s [.int j, .ty "bool"] = some (.bl false) := rfl
@[simp] theorem isA_it : isiA s [.int j, .ty "tuple"] = some (.bl false) := rfl
@[simp] theorem isA_bi : isiA s [.bl b, .ty "int"] = some (.bl true) := rfl
@[simp] theorem isA_bb : isiA s [.bl b, .ty "bool"] = some (.bl true) := rfl
@[simp] theorem isA_bt : isiA s [.bl b, .ty "tuple"] = some (.bl false) := rfl
@[simp] theorem isA_ni : isiA s [.non, .ty "int"] = some (.bl false) := rfl
@[simp] theorem isA_nt : isiA s [.non, .ty "tuple"] = some (.bl false) := rfl
@[simp] theorem isA_si : isiA s [.str y, .ty "int"] = some (.bl false) := rfl
@[simp] theorem isA_st : isiA s [.str y, .ty "tuple"] = some (.bl false) := rfl
@[simp] theorem isA_tt : isiA s [.tup ws, .ty "tuple"] = some (.bl true) := rfl
@[simp] theorem isA_ti : isiA s [.tup ws, .ty "int"] = some (.bl false) := rfl
@[simp] theorem isA_lt : isiA s [.lst ws, .ty "tuple"] = some (.bl false) := rfl
@[simp] theorem isA_li : isiA s [.lst ws, .ty "int"] = some (.bl false) := rfl
@[simp] theorem raise_ev {k : Nat} : mRaise k y f ρ s = (f ρ s).thenC ρ fun w s1 => .er ⟨k, y, w⟩ ρ s1 := rfl
@[simp] theorem finC_er {x : Ex} : finC s.length (.er x ρ s) = .er x s := by
  show finX s.length x s = _
  unfold finX
  rw [if_pos (Nat.le_refl _)]
@[simp] theorem thk_ev {cl : Dv} {t : Sto → R Dv} : mThk 0 cl t (some cl :: ρ) s = t s := by unfold mThk; exact if_pos rfl
@[simp] theorem pass_ev {cl : Dv} {t : Sto → R Dv} {den : (Sto → R Dv) → Fn} : mPass cl t den (mCons (mVar 0) fa) (some cl :: ρ) s = (fa (some cl :: ρ) s).bind fun wa s1 => den t wa s1 := by
  unfold mPass mCons
  rw [var_0, bind_ok]
  cases fa (some cl :: ρ) s with
  | ok wa s1 => exact if_pos rfl
  | er _ _ => rfl
  | no => rfl
end
end MP
set_option Elab.async false
set_option linter.all false
set_option maxRecDepth 100000
set_option maxHeartbeats 4000000
namespace MP
open PySem PySem.Spec PyProof.Rows L2
mutual
def toX : Dv → Option PyData
  | .non => some .none | .bl b => some (.bool b) | .int i => some (.int i) | .str x => some (.str x)
  | .tup ws => (toXs ws).map .tuple
  | .dct ks ws => match ks, ws with
    | [], [] => some (.dict [])
    | _, _ => none
  | _ => none
def toXs : List Dv → Option (List PyData)
  | [] => some []
  | w :: ws => match toX w, toXs ws with
    | some d, some ds => some (d :: ds)
    | _, _ => none
end
section
variable {X : Cx} {Γ : Ct} {pins : List (Addr × Obj)} {σ : L2.St} {H : Hp} {s : Shared} {μ : Mu} {Z : Zs}
mutual
theorem rx_reads (I : Inv X pins σ H s) (hK : Γ.K = X.K) : ∀ (w : Dv) {v : V} {u : Value} {d : PyData}, RV Γ H μ Z w v → L2.RelV v u → toX w = some d → ∃ as, Reads s.heap u d as ∧ sysModules ∉ as
  | .non, _, _, _, r, ru, e => by cases e; rw [show _ = _ from r] at ru; cases ru; exact ⟨_, Reads.none, fun z => nomatch z⟩
  | .bl b, _, _, _, r, ru, e => by cases e; rw [show _ = _ from r] at ru; cases ru; exact ⟨_, Reads.bool b, fun z => nomatch z⟩
  | .int i, _, _, _, r, ru, e => by cases e; rw [show _ = _ from r] at ru; obtain ⟨t, rfl⟩ := ru; exact ⟨_, Reads.int i t, fun z => nomatch z⟩
  | .str x, _, _, _, r, ru, e => by cases e; rw [show _ = _ from r] at ru; obtain ⟨t, rfl⟩ := ru; exact ⟨_, Reads.str x t, fun z => nomatch z⟩
  | .tup ws, _, _, _, r, ru, e => by
    obtain ⟨a, xs, rfl, h2, h3⟩ := r
    cases ru
    cases q : toXs ws with
    | none => unfold toX at e; rw [q] at e; cases e
    | some ds =>
      unfold toX at e
      rw [q] at e
      cases e
      have hs := h2.sq
      rw [hK] at hs
      obtain ⟨its, rv, ⟨o, ho, hc, n, hd⟩, _⟩ := I.tuple hs
      obtain ⟨as, hr, hn⟩ := rxs_reads I hK ws h3 rv q
      exact ⟨_, Reads.tuple ho hc hd hr, hn⟩
  | .ty _, _, _, _, _, _, e => by cases e
  | .cl _, _, _, _, _, _, e => by cases e
  | .ref _, _, _, _, _, _, e => by cases e
  | .lst _, _, _, _, _, _, e => by cases e
  | .sq _, _, _, _, _, _, e => by cases e
  | .exc _ _ _, _, _, _, _, _, e => by cases e
  | .exn _, _, _, _, _, _, e => by cases e
  | .dtt _ _, _, _, _, _, _, e => by cases e
  | .clo _ _ _ _ _, _, _, _, _, _, e => by cases e
  | .dct ks ws, _, _, _, r, ru, e => by
    unfold toX at e
    split at e
    · cases e
      obtain ⟨a, kvs, rfl, h1, _, h3, _⟩ := r
      cases ru
      have hk : kvs = [] := by cases kvs with
        | nil => rfl
        | cons _ _ => cases h3
      subst hk
      obtain ⟨_, hsm, vs, kv, o, es, ep, ho, hx, hd, _, hp, _⟩ := I.hok a _ h1
      cases kv
      have he : es.toList = [] := by
        generalize es.toList = l at hp
        cases hp
        rfl
      refine ⟨_, Reads.dict (as := []) (bs := []) ho hx.1 hd (by rw [he]; exact ReadsAll.nil) (by rw [he]; exact ReadsAll.nil), ?_⟩
      intro hm
      simp at hm
      rw [← hm] at hsm
      simp at hsm
    · cases e
theorem rxs_reads (I : Inv X pins σ H s) (hK : Γ.K = X.K) : ∀ (ws : List Dv) {vs : List V} {us : List Value} {ds : List PyData}, RVs Γ H μ Z ws vs → Vals vs us → toXs ws = some ds → ∃ as, ReadsAll s.heap us ds as ∧ sysModules ∉ as
  | [], _, _, _, r, ru, e => by
    cases e
    rw [show _ = _ from r] at ru
    cases ru
    exact ⟨_, ReadsAll.nil, fun z => nomatch z⟩
  | w :: ws, _, _, _, r, ru, e => by
    obtain ⟨x, xs, rfl, r1, r2⟩ := r
    cases ru with
    | cons u1 u2 =>
      unfold toXs at e
      split at e
      · rename_i d ds q1 q2
        cases e
        obtain ⟨as, h1, n1⟩ := rx_reads I hK w r1 u1 q1
        obtain ⟨bs, h2, n2⟩ := rxs_reads I hK ws r2 u2 q2
        exact ⟨_, ReadsAll.cons h1 h2, fun z => (List.mem_append.mp z).elim n1 n2⟩
      · cases e
end
def rReprX (K : PySem.W.Frag) : List V → Hp → VK → Prop := fun xs H Q => ∃ (x : V) (d : PyData), xs = [x] ∧ (∀ (X : Cx) (pins : List (Addr × Obj)) (σ : L2.St) (s : Shared) (u : Value), X.K = K → Inv X pins σ H s → L2.RelV x u → ∃ as, Reads s.heap u d as ∧ sysModules ∉ as) ∧
  d.showable = true ∧ d.depth ≤ 60 ∧ d.shown.length ≤ sizeLine ∧ Q (.str d.shown) H
theorem call_reprX (hg : X.A.guards = some []) (hu : X.A.units + 64 < cLine) : CallR X (.builtin "repr") (rReprX X.K) := by
  intro pins s σ H xs us Q I r h
  obtain ⟨x, d, rfl, hr, h1, h3, h4, q⟩ := h
  obtain ⟨u, rfl, ru⟩ := vals1 r
  obtain ⟨as, rd, hn⟩ := hr X pins σ s u rfl I ru
  have big : ∀ (a : Addr), u = .ref a → wpAny (model X.prog X.w) X.A (call (.builtin "repr") [u]) (EP X pins σ Q) X.xe s := fun a e => by
    subst e
    exact repr_of_reads' rd h1 (fun _ => hn) hg (by omega) (fun _ _ z => z) (fun h' u tk k => ⟨.str d.shown, H, I.kept (t' := tk) k, ⟨u, rfl⟩, q⟩) h4
  cases rd with
  | none => exact PySem.P.repr_of_none ⟨.str _, H, I.tok _, ⟨_, rfl⟩, q⟩
  | bool b => exact PySem.P.repr_of_bool ⟨.str _, H, I.tok _, ⟨_, rfl⟩, q⟩
  | int i t => exact PySem.P.repr_of_int (of_decide_eq_true h1) ⟨.str _, H, I.tok _, ⟨_, rfl⟩, q⟩
  | str x t => exact PySem.P.repr_of_str ⟨.str _, H, I.tok _, ⟨_, rfl⟩, q⟩ h4
  | list _ _ _ _ => exact big _ rfl
  | tuple _ _ _ _ => exact big _ rfl
  | dict _ _ _ _ _ => exact big _ rfl
def reprXD : ON := fun _ xs => match xs with
  | [x] => match toX x with
    | some d => if d.showable = true ∧ d.depth ≤ 60 ∧ d.shown.length ≤ lim then some (.str d.shown) else none
    | none => none
  | _ => none
theorem sReprX (hK : Γ.K = X.K) : OpN Γ (rReprX X.K) reprXD := fun H μ Z s xs w vs Q hR rx e k => by
  unfold reprXD at e
  split at e
  · rename_i x
    split at e
    · rename_i d q
      split at e
      · rename_i hc
        cases e
        obtain ⟨v, rfl, r1⟩ := one rx
        exact ⟨v, d, rfl, fun X' pins σ s u hX I ru => rx_reads I (hK.trans hX.symm) x r1 ru q, hc.1, hc.2.1, lim_ok hc.2.2, k _ H .refl hR rfl⟩
      · cases e
    · cases e
  · cases e
/-- repr of lists and tuples without dicts, or of what is without lists -/
def reprA : ON := fun s xs => match reprD s xs with
  | some w => some w
  | none => reprXD s xs
theorem cr_reprA (hg : X.A.guards = some []) (hu : X.A.units + 64 < cLine) : CallR X (.builtin "repr") (fun x H Q => rRepr X.K x H Q ∨ rReprX X.K x H Q) := CallR.or2 (call_repr hg hu) (call_reprX hg hu)
theorem sReprA (hK : Γ.K = X.K) : OpN Γ (fun x H Q => rRepr X.K x H Q ∨ rReprX X.K x H Q) reprA := OpN.or (sRepr hK) (sReprX hK)
end
end MP
set_option Elab.async false
set_option linter.all false
set_option maxRecDepth 100000
set_option maxHeartbeats 4000000
namespace MP
open PySem PySem.Spec PyProof.Rows L2
/-- a table: where the code object of its def stands, where the table, the lambdas' name -/
structure Tb where
  c : Addr
  T : Addr
  q : Str
def tabsOf : Nat → List Tb → Sto
  | _, [] => []
  | i, t :: r => .tab i t.q :: tabsOf (i + 1) r
theorem tabsOf_len : ∀ (i : Nat) (r : List Tb), (tabsOf i r).length = r.length
  | _, [] => rfl
  | i, t :: r => by simp [tabsOf, tabsOf_len (i + 1) r]
theorem tabsOf_get : ∀ {i n : Nat} {r : List Tb} {o : Ob}, (tabsOf i r)[n]? = some o → ∃ t, r[n]? = some t ∧ o = .tab (i + n) t.q
  | i, n, [], o, h => by simp [tabsOf] at h
  | i, 0, t :: r, o, h => by
    simp [tabsOf] at h
    exact ⟨t, rfl, h.symm⟩
  | i, n + 1, t :: r, o, h => by
    have h' : (tabsOf (i + 1) r)[n]? = some o := by simpa [tabsOf] using h
    obtain ⟨t', h1, h2⟩ := tabsOf_get h'
    exact ⟨t', by simpa using h1, by rw [h2]; congr 1; omega⟩
def Ts (tabs : List Tb) : List Addr := tabs.map (·.T)
section
variable {P : Program} {w : World} {Γ : Ct} {mg mb : Str → Option Value} {k : Nat} {fa a : Addr} {fd : FuncData} {x : Str} {den : Fn} {s₁ : Shared} {vs : List Value} {ns : List Int} {tabs : List Tb}
theorem law_GTs (KX : Γ.K.In s₁.heap) (hns : s₁.heap.Ns mainGlobals mg) (hb : s₁.heap.Ns builtinsNs mb) (hbb : ∀ x : Str, x ≠ "__name__" → mb x = bootBuiltins x) (hlim : s₁.heap.NoLimit) (hg : s₁.gens = #[])
    (hT : ∀ t ∈ tabs, s₁.heap.get? t.T = some { cls := .none, data := .fields #[] } ∧ Γ.K.lookup t.T = none ∧ PySem.W.CodeHd s₁.heap t.c t.T) (hΓ : ∀ (i : Nat) (t : Tb), tabs[i]? = some t → Γ.tb i = t.T) (nd : (Ts tabs).Nodup)
    (hbm : ∃ (bm : Addr) (ob : Obj), mg "__builtins__" = some (.ref bm) ∧ bm ≠ builtinsNs ∧ s₁.heap.get? bm = some ob ∧ ob.cls = .type "module" ∧ ob.dict = some builtinsNs ∧ ob.data = .plain)
    (ha : s₁.heap.get? a = some { cls := .type "list", data := .seq vs.toArray }) (hi : IntsAre vs ns) (hl : ns.length ≤ sizeLine) (hr : Room k callerA)
    (F : ∀ base : Heap, Γ.K.In base → base.Ns mainGlobals mg → (∀ t ∈ tabs, LamX.TabB base mg t.c t.T) → FnG P w mg base Γ k fa fd [x] den) (hbind : ∀ (s : Shared) (u : Value), BindsTo s fd ⟨[u], []⟩ [(x, u)])
    (hden : ∃ s', den [.sq (ns.map .int)] (tabsOf 0 tabs) = .ok (.bl true) s') :
    codeAny (model P w) callerA (.call (.ref fa) ⟨[.ref a], []⟩) (fun r s' => r = .ok (.ret (.bool true)) ∧ OldK s₁.heap s'.heap ∧ s'.os = s₁.os ∧ AllBare s'.gens) s₁ := by
  have rv : Vals (ns.map V.int) vs := vals_ints hi
  have rl := hi.length
  let ob : Obj := { cls := .type "list", data := .seq vs.toArray }
  let tr : HO := .frz ob (.lst (ns.map V.int))
  let H : Hp := fun b => if b = a ∧ Γ.K.lookup a = none then some tr else if b ∈ Ts tabs then some (.tbl #[]) else none
  have inT : ∀ {b : Addr}, b ∈ Ts tabs → ∃ t ∈ tabs, t.T = b := fun h => List.mem_map.mp h
  have atT : ∀ {b : Addr}, b ∈ Ts tabs → s₁.heap.get? b = some { cls := .none, data := .fields #[] } := fun h => by
    obtain ⟨t, h1, rfl⟩ := inT h
    exact (hT t h1).1
  have nT : ∀ {b : Addr}, b ∈ Ts tabs → Γ.K.lookup b = none := fun h => by
    obtain ⟨t, h1, rfl⟩ := inT h
    exact (hT t h1).2.1
  have naT : ∀ {b : Addr}, b ∈ Ts tabs → a ≠ b := fun h z => by rw [z, atT h] at ha; cases ha
  have HT : ∀ {b : Addr}, b ∈ Ts tabs → H b = some (.tbl #[]) := fun {b} h => by
    show (if b = a ∧ Γ.K.lookup a = none then some tr else if b ∈ Ts tabs then some (HO.tbl #[]) else none) = _
    rw [if_neg (fun z => naT h z.1.symm), if_pos h]
  have Hin : ∀ b o, H b = some o → ((b = a ∧ Γ.K.lookup a = none) ∧ o = tr) ∨ (b ∈ Ts tabs ∧ o = .tbl #[]) := fun b o e => by
    have e' : (if b = a ∧ Γ.K.lookup a = none then some tr else if b ∈ Ts tabs then some (HO.tbl #[]) else none) = some o := e
    split at e'
    · exact .inl ⟨by assumption, (Option.some.inj e').symm⟩
    · split at e'
      · exact .inr ⟨by assumption, (Option.some.inj e').symm⟩
      · cases e'
  have free : ∀ b, ¬ (b = a ∧ Γ.K.lookup a = none) → b ∉ Ts tabs → H b = none := fun b c d => (if_neg c).trans (if_neg d)
  have hok : HOk P w H s₁.heap := fun b o e => by
    rcases Hin b o e with ⟨⟨rfl, _⟩, rfl⟩ | ⟨h, rfl⟩
    · exact ⟨ha, by rw [List.length_map]; exact hl, vs, _, rv, ha⟩
    · exact atT h
  let base := hidT s₁.heap H
  have keeps : ∀ {b : Addr} {o : Obj}, s₁.heap.get? b = some o → (∀ (u : Array Value) (n : Nat), o.data ≠ .seq u n) → o.cls ≠ .none → base.get? b = some o := fun {b o} e h1 h2 => hidT_get e (free b (fun z => by
    rw [z.1, ha] at e
    cases e
    exact h1 _ _ rfl) fun z => by
    rw [atT z] at e
    cases e
    exact h2 rfl)
  have dictIn : ∀ {b : Addr} {m : Str → Option Value}, s₁.heap.Ns b m → base.Ns b m := fun {b m} ⟨o, es, ep, e, d, r⟩ => by
    refine ⟨o, es, ep, hidT_get e (free b (fun z => ?_) fun z => ?_), d, r⟩
    · rw [z.1, ha] at e
      cases e
      cases d
    · rw [atT z] at e
      cases e
      cases d
  have kIn : Γ.K.In base := fun b o e => hidT_get (KX b o e) (free b (fun z => by
    rw [z.1, z.2] at e
    cases e) fun z => by
    rw [nT z] at e
    cases e)
  have gM : base.Ns mainGlobals mg := dictIn hns
  have md : Mod Γ.K mg base := ⟨kIn, gM, ⟨mb, dictIn hb, hbb⟩, let ⟨mc, h1, h2⟩ := hlim; ⟨mc, dictIn h1, h2⟩⟩
  have gT : ∀ {b : Addr}, b ∈ Ts tabs → mainGlobals ≠ b := fun h z => by
    obtain ⟨o, es, ep, e, d, _⟩ := hns
    rw [z, atT h] at e
    cases e
    cases d
  have TB : ∀ t ∈ tabs, LamX.TabB base mg t.c t.T := fun t ht => by
    have htT : t.T ∈ Ts tabs := List.mem_map.mpr ⟨t, ht, rfl⟩
    refine ⟨?_, ?_, gT htT⟩
    · obtain ⟨o, us, file, tf, flags, tg, inF, text, tt, e1, r1, r2, r⟩ := (hT t ht).2.2
      exact ⟨o, us, file, tf, flags, tg, inF, text, tt, keeps e1 (fun u n z => by rw [r2] at z; cases z) (fun z => by rw [r1] at z; cases z), r1, r2, r⟩
    · obtain ⟨bm, o, b1, b2, b3, b4, b5, b6⟩ := hbm
      refine ⟨bm, o, b1, b2, fun z => ?_, fun z => ?_, keeps b3 (fun u n z => by rw [b6] at z; cases z) (fun z => by rw [b4] at z; cases z), b4, b5, b6⟩
      · obtain ⟨o2, es, ep, e, d, _⟩ := hns
        rw [z, e] at b3
        cases b3
        rw [b6] at d
        cases d
      · rw [z, atT htT] at b3
        cases b3
        cases b6
  have e0 : Env0 P w Γ.K mg base callerA [] s₁ H :=
    { frames := rfl, mod := md, bs := fun b o e => of_hidT e, bsz := Nat.le_of_eq (hidT_size _ _), funs := trivial, frf := fun b hb => (nomatch hb), hok := hok, bare := .of_eq hg }
  obtain ⟨s', hd⟩ := hden
  let μ : Mu := fun n => (Ts tabs)[n]?
  have μin : ∀ {n : Nat} {b : Addr}, μ n = some b → b ∈ Ts tabs := fun {n b} z => List.mem_of_getElem? z
  have rs : RV Γ H μ (fun _ => False) (.sq (ns.map .int)) (.ref a) := by
    refine ⟨a, _, rfl, ?_, RVs.of_ints ns⟩
    cases hk : Γ.K.lookup a with
    | none => exact .inl ⟨.inr ⟨ob, if_pos ⟨rfl, hk⟩⟩, ⟨fun n z => naT (μin z) rfl, id⟩⟩
    | some o =>
      have e := KX a o hk
      rw [ha] at e
      cases e
      exact .inr ⟨_, vs.toArray, _, hk, rfl, rfl, rfl, by rw [List.size_toArray, rl]; exact hl, by simpa using rv⟩
  have rep : Rep Γ H μ (fun _ => False) (tabsOf 0 tabs) := ⟨fun n o e => by
    obtain ⟨t, h1, rfl⟩ := tabsOf_get e
    have h2 : t.T ∈ Ts tabs := List.mem_map.mpr ⟨t, List.mem_of_getElem? h1, rfl⟩
    refine ⟨t.T, ?_, id, ?_, #[], HT h2, trivial, fun pos cv z => by simp [codeAmong] at z⟩
    · show (Ts tabs)[n]? = some t.T
      unfold Ts
      rw [List.getElem?_map, h1]
      rfl
    · rw [Nat.zero_add]
      exact (hΓ n t h1).symm, fun n m b e1 e2 => by
      have h1 := (List.getElem?_eq_some_iff.mp e1)
      have h2 := (List.getElem?_eq_some_iff.mp e2)
      obtain ⟨l1, g1⟩ := h1
      obtain ⟨l2, g2⟩ := h2
      exact (List.getElem_inj nd).mp (g1.trans g2.symm), fun n b e => by
      obtain ⟨l1, _⟩ := List.getElem?_eq_some_iff.mp e
      rw [tabsOf_len]
      unfold Ts at l1
      rw [List.length_map] at l1
      exact l1, fun b z => z.elim⟩
  refine codeAny_mono ((F base kIn gM TB).run callerA [] s₁ H ⟨[.ref a], []⟩ [.ref a] [.ref a] (fun v _ => v = .bl true) (fun _ _ _ => False) hr rfl e0 (hbind s₁ (.ref a)) (.cons rfl .nil)
    ⟨rfl, μ, _, _, [.sq (ns.map .int)], rep, RVs.cons rs rfl, by rw [hd]; exact fun v H' μ' _ _ r => r⟩) fun r s2 h => ?_
  cases r with
  | error e =>
    obtain ⟨_, _, _, _, _, _, _, _, _, _, _, _, z⟩ := h
    exact z.elim
  | ok fl =>
    cases fl with
    | next => exact h.elim
    | brk => exact h.elim
    | cont => exact h.elim
    | ret u =>
      obtain ⟨v, H', os, bare, un, hok', rv', q'⟩ := h
      obtain rfl : v = .bl true := q'
      obtain rfl : u = Value.bool true := rv'
      have key : ∀ b o, b ∉ Ts tabs → s₁.heap.get? b = some o → s2.heap.get? b = some o := fun b o nb e => by
        cases qb : H b with
        | none => exact un.keep b o e qb (fun z => nomatch z) (fun z => nomatch z)
        | some u =>
          rcases Hin b u qb with ⟨⟨rfl, _⟩, rfl⟩ | ⟨z, _⟩
          · obtain ⟨e2, _⟩ := hok' b _ (un.frzs b ob _ qb)
            rw [ha] at e
            cases e
            exact e2
          · exact absurd z nb
      have grown : ∀ b, b ∈ Ts tabs → ∃ more, s2.heap.get? b = some { cls := .none, data := .fields (#[] ++ more) } := fun b h => by
        obtain ⟨more, z⟩ := un.tbls b #[] (HT h)
        exact ⟨more, hok' b _ z⟩
      refine ⟨rfl, ⟨fun b o e => ?_, fun b o e => ?_⟩, os, bare⟩
      · by_cases h : b ∈ Ts tabs
        · obtain ⟨t, ht, rfl⟩ := inT h
          obtain ⟨more, g⟩ := grown _ h
          rw [atT h] at e
          cases e
          exact .inr (.inl ⟨((hT t ht).2.2.tab (hT t ht).1).isCodeTable, rfl, #[], more, rfl, g⟩)
        · exact .inl (key b o h e)
      · by_cases h : b ∈ Ts tabs
        · obtain ⟨more, g⟩ := grown _ h
          exact ⟨_, g⟩
        · exact ⟨o, key b o h e⟩
/-- what the head leaves to be shown; ys: the defs that make lambdas -/
theorem walk_GTs {l : PySem.W.OpenLaw} {n k : Nat} {q : Program} {loose : List Str} {XP : (Str → Option Value) → Heap → Prop} {YP : World → Heap → Prop} {d : DefRec} {Kf : Params → PySem.W.Frag} {x : Str} {ys qs : List Str} (hn : l.most = some n) (hn2 : n ≤ sizeLine) (hdf : d.params.defaults = []) (hr : Room k callerA)
    (hY : ∀ (w : World) (h : Heap), YP w h → (Kf w.params).In h) (hy : ∀ y ∈ ys, ∃ dy, (recsOf q).find? (fun e => e.name == y) = some dy)
    (F : ∀ (w : World) (mg : Str → Option Value) (fa : Addr) (h : Heap), (Kf w.params).In h → h.Ns mainGlobals mg → mg d.name = some (.ref fa) →
      ∃ (Γ : Ct) (fd : FuncData) (den : Fn) (tabs : List Tb), Γ.K = Kf w.params ∧ (∀ (i : Nat) (t : Tb), tabs[i]? = some t → Γ.tb i = t.T) ∧ (Ts tabs).Nodup ∧ (∀ t ∈ tabs, ∃ y ∈ ys, PySem.W.tabIn Γ.K y = some (t.c, t.T) ∧ Γ.K.lookup t.T = none) ∧ tabs.map (·.q) = qs ∧ (∀ (s : Shared) (u : Value), BindsTo s fd ⟨[u], []⟩ [(x, u)]) ∧
        (∀ base : Heap, Γ.K.In base → base.Ns mainGlobals mg → (∀ t ∈ tabs, LamX.TabB base mg t.c t.T) → FnG l.prog w mg base Γ k fa fd [x] den) ∧
        ∀ ns : List Int, ns.length ≤ n → ∃ s', den [.sq (ns.map .int)] (tabsOf 0 (qs.map fun q => ⟨0, 0, q⟩)) = .ok (.bl true) s') :
    PySem.W.WalkO q loose XP YP l.row.toRowW d [] (fun f vs => PySem.call f vs) := by
  refine Att.attach_call hn hdf fun w s₀ s₁ mg mb fa o pm cd doc a vs ns G Y ho hd hcd hmg hobj hints hlen hg => ?_
  have KX := hY w _ Y
  obtain ⟨Γ, fd, den, tabs, hK, hΓ, nd, ht, hq, hb, hF, hden⟩ := F w mg fa _ KX G.T.g hmg
  have et : ∀ (i : Nat) (r : List Tb), tabsOf i ((r.map (·.q)).map fun q => ⟨0, 0, q⟩) = tabsOf i r := fun i r => by
    induction r generalizing i with
    | nil => rfl
    | cons t r ih => simp only [List.map_cons, tabsOf, ih]
  refine law_GTs (hK ▸ KX) G.T.g G.T.b G.T.builtins G.T.nolimit hg (fun t h => ?_) hΓ nd G.T.bmain hobj hints (Nat.le_trans hlen hn2) hr hF hb (by
    obtain ⟨s', e⟩ := hden ns hlen
    rw [← hq, et] at e
    exact ⟨s', e⟩)
  obtain ⟨y, hy1, h1, h2⟩ := ht t h
  obtain ⟨dy, hy2⟩ := hy y hy1
  obtain ⟨hC, hT⟩ := PySem.W.tab_of G.T (hK ▸ KX) hy2 h1
  exact ⟨hT, h2, hC⟩
end
end MP
set_option Elab.async false
set_option linter.all false
set_option maxRecDepth 100000
set_option maxHeartbeats 4000000
namespace MP
open PySem PySem.Spec PyProof.Rows L2
end MP
set_option Elab.async false
set_option linter.all false
set_option maxRecDepth 100000
set_option maxHeartbeats 400000
namespace MP
open PySem PySem.Spec PyProof.Rows L2
structure PlX (n k : Nat) (w : Dv) (d : PyData) : Prop where
  to : toX w = some d
  shw : d.showable = true
  deep : d.depth ≤ k
  len : d.shown.length + 2 ≤ 2000 * n
structure PlsX (n k : Nat) (ws : List Dv) (ds : List PyData) : Prop where
  to : toXs ws = some ds
  shw : PyData.showableAll ds = true
  deep : PyData.depthAll ds ≤ k
  len : piled (PyData.shownAll ds) ≤ 2000 * n
variable {n m k j : Nat} {w : Dv} {d : PyData} {ws us : List Dv} {ds es : List PyData} {i : Int} {ns : List Int} {s : Sto}
theorem PlX.mono (h : PlX n k w d) (hn : n ≤ m) (hk : k ≤ j) : PlX m j w d := ⟨h.to, h.shw, Nat.le_trans h.deep hk, Nat.le_trans h.len (Nat.mul_le_mul_left _ hn)⟩
theorem PlsX.mono (h : PlsX n k ws ds) (hn : n ≤ m) (hk : k ≤ j) : PlsX m j ws ds := ⟨h.to, h.shw, Nat.le_trans h.deep hk, Nat.le_trans h.len (Nat.mul_le_mul_left _ hn)⟩
/-- repr says something -/
def Sh (w : Dv) : Prop := ∀ s : Sto, ∃ t, reprA s [w] = some (.str t)
theorem sh_d {t : Str} (h : ∀ s : Sto, reprD s [w] = some (.str t)) : Sh w := fun s => ⟨t, by unfold reprA; rw [h s]⟩
theorem sh_lst (h : Pl n k (.lst ws) d) (hn : n ≤ 8000) (hk : k ≤ 60) : Sh (.lst ws) := sh_d fun s => repr_lst h hn hk
end MP
set_option Elab.async false
set_option linter.all false
set_option maxRecDepth 100000
set_option maxHeartbeats 400000
namespace MP
open PySem PySem.Spec PyProof.Rows L2
section
variable {s s1 s2 s3 : Sto} {ρ : Env} {f g : FE} {fa : FA} {lo hi : FO} {x w y : Dv} {ws us : List Dv} {a b : Option Int} {i j : Int} {k : Nat} {t : FT} {bb : Bool}
theorem sl_v {op : OS} (h : f ρ s = .ok x s1) (hl : lo ρ s1 = .ok a s2) (hh : hi ρ s2 = .ok b s3) (e : op s3 x a b = some w) : mSl op f lo hi ρ s = .ok w s3 := by
  rw [sl_ev, h, bind_ok, hl, bind_ok, hh, bind_ok, e, of_some]
theorem part_v (h : f ρ s = .ok (.int i) s1) : mPart f ρ s = .ok (some i) s1 := by rw [part_ev, h, bind_ok]
theorem cut_from : cutD ws (some (k : Int)) none = ws.drop k := by
  unfold cutD
  rw [HT.sIx_nat, HT.sIx_none]
  by_cases h : k ≤ ws.length
  · rw [Nat.min_eq_left h]
    exact List.take_of_length_le (by rw [List.length_drop]; omega)
  · rw [Nat.min_eq_right (by omega), List.drop_length, List.drop_of_length_le (by omega)]
    simp
theorem add_tup (h : ws.length + us.length ≤ 1000000) : addD s (.tup ws) (.tup us) = some (.tup (ws ++ us)) := by
  show (if ws.length + us.length ≤ lim then some (Dv.tup (ws ++ us)) else none) = _
  rw [if_pos (by unfold lim; omega)]
theorem add_lst (h : ws.length + us.length ≤ 1000000) : addD s (.lst ws) (.lst us) = some (.lst (ws ++ us)) := by
  show (if ws.length + us.length ≤ lim then some (Dv.lst (ws ++ us)) else none) = _
  rw [if_pos (by unfold lim; omega)]
theorem un_v {o : O1} (h : f ρ s = .ok x s1) (e : o s1 x = some w) : mUn o f ρ s = .ok w s1 := by rw [un_ev, h, bind_ok, e, of_some]
theorem if_vt {g' : FE} {r : R Dv} (h : t ρ s = .ok true s1) (h2 : f ρ s1 = r) : mIf t f g' ρ s = r := by rw [if_ev, h, bind_ok, if_pos rfl, h2]
theorem if_vf {g' : FE} {r : R Dv} (h : t ρ s = .ok false s1) (h2 : f ρ s1 = r) : mIf t g' f ρ s = r := by rw [if_ev, h, bind_ok, if_neg Bool.false_ne_true, h2]
theorem not_v (h : t ρ s = .ok bb s1) : mNot t ρ s = .ok (!bb) s1 := by rw [not_ev, h, bind_ok]
theorem ne_of_eq {x y : Dv} {c : Bool} (h : eqD s x y = some (.bl c)) : neD s x y = some (.bl (!c)) := by
  unfold neD
  unfold eqD at h
  cases q : eqB s x y with
  | none => rw [q] at h; cases h
  | some c' => rw [q] at h; cases h; rfl
end
end MP
namespace MP
open PySem PySem.Spec PyProof.Rows L2
end MP
namespace MP
open PySem PySem.Spec PyProof.Rows L2
section
variable {n : Nat} {c c' : FS} {ρ ρ1 : Env} {s s1 : Sto} {r : R Dv} {w : Dv} {x : Ex}
theorem fin_nx (h : c ρ s = .nx ρ1 s1) (k : finC n (c' ρ1 s1) = r) : finC n (mSeq c c' ρ s) = r := by rw [seq_nx h rfl]; exact k
theorem fin_rtS (h : c ρ s = .rt w s1) (k : finC n (.rt w s1) = r) : finC n (mSeq c c' ρ s) = r := by rw [seq_rt h]; exact k
end
end MP
namespace MP
open PySem PySem.Spec PyProof.Rows L2
section
variable {t u : FT} {ρ : Env} {s s1 : Sto} {r : R Bool}
theorem or_f (h : t ρ s = .ok false s1) (h2 : u ρ s1 = r) : mOr t u ρ s = r := by unfold mOr; rw [h, bind_ok, if_neg Bool.false_ne_true, h2]
theorem and_t (h : t ρ s = .ok true s1) (h2 : u ρ s1 = r) : mAnd t u ρ s = r := by unfold mAnd; rw [h, bind_ok, if_pos rfl, h2]
theorem and_f (h : t ρ s = .ok false s1) : mAnd t u ρ s = .ok false s1 := by unfold mAnd; rw [h, bind_ok]; exact if_neg Bool.false_ne_true
theorem not_vt (h : t ρ s = .ok true s1) : mNot t ρ s = .ok false s1 := not_v h
end
end MP
namespace MP
open PySem PySem.Spec PyProof.Rows L2
section
variable {ρ : Env} {s s1 s2 : Sto} {f : FE} {fa : FA} {x : Ex} {d : Fn} {o : ON} {g : FG} {w : Dv} {k : Nat}
theorem expr_v (h : f ρ s = .ok w s1) : mExpr f ρ s = .nx ρ s1 := by unfold mExpr; rw [h]; rfl
theorem asg_gv {ρ' : Env} (h : f ρ s = .ok w s1) (h2 : g w ρ s1 = some ρ') : mAsg f g ρ s = .nx ρ' s1 := by unfold mAsg; rw [h, then_ok, h2]
theorem mul_lst {ws : List Dv} (h : ws.length * k ≤ 1000000) (hk : k ≤ 1000000) : mulD s (.lst ws) (.int (k : Int)) = some (.lst (List.replicate k ws).flatten) := by
  unfold mulD
  dsimp only [lstOf]
  rw [if_pos ⟨by omega, by omega, by rw [Int.toNat_natCast]; unfold lim; omega⟩, Int.toNat_natCast]
end
end MP
set_option Elab.async false
set_option linter.all false
set_option maxRecDepth 100000
set_option maxHeartbeats 4000000
namespace MP
open PySem PySem.Spec PyProof.Rows L2
section
variable {X : Cx} {Γ : Ct}
theorem Op2.or {r r' : R2} {o o' : O2} (h : Op2 Γ r o) (h' : Op2 Γ r' o') : Op2 Γ (fun x y H Q => r x y H Q ∨ r' x y H Q) (orO o o') := fun H μ Z s x y w u v Q hR r1 r2 e k => by
  unfold orO at e
  cases q : o s x y with
  | some z => rw [q] at e; cases e; exact .inl (h H μ Z s x y w u v Q hR r1 r2 q k)
  | none => rw [q] at e; exact .inr (h' H μ Z s x y w u v Q hR r1 r2 e k)
end
end MP
set_option Elab.async false
set_option linter.all false
set_option maxRecDepth 100000
set_option maxHeartbeats 4000000
namespace MP
open PySem PySem.Spec PyProof.Rows L2
end MP
set_option Elab.async false
set_option linter.all false
set_option maxRecDepth 100000
set_option maxHeartbeats 4000000
namespace MP
open PySem PySem.Spec PyProof.Rows L2
end MP
namespace MP
open PySem PySem.Spec PyProof.Rows L2
end MP
set_option Elab.async false
set_option linter.all false
set_option maxRecDepth 100000
set_option maxHeartbeats 400000
namespace MP
open PySem PySem.Spec PyProof.Rows L2 TL PySem.NumText
end MP
set_option Elab.async false
set_option linter.all false
set_option maxRecDepth 100000
set_option maxHeartbeats 400000
namespace MP
open PySem PySem.Spec PyProof.Rows L2
end MP
set_option Elab.async false
set_option linter.all false
set_option maxRecDepth 100000
set_option maxHeartbeats 4000000
namespace MP
open PySem PySem.Spec PyProof.Rows L2
open Sem (wp)
end MP
set_option Elab.async false
set_option linter.all false
set_option maxRecDepth 100000
set_option maxHeartbeats 4000000
namespace MP
open PySem PySem.Spec PyProof.Rows L2
section
variable {X : Cx} {Γ : Ct} {W : WX}
theorem RX.weak {H : Hp} {μ : Mu} {Z Z' : Zs} {x : Ex} {c : Value} {d : Option Addr} (h : ∀ a, Z a → Z' a) (r : RX Γ H μ Z' x c d) : RX Γ H μ Z x c d := by
  obtain ⟨h1, dd, v, h2, h3, h4, h5⟩ := r
  exact ⟨h1, dd, v, h2, h3, h4.weak h, RV.weak h x.w h5⟩
end
end MP
set_option Elab.async false
set_option linter.all false
set_option maxRecDepth 100000
set_option maxHeartbeats 400000
namespace MP
open PySem PySem.Spec PyProof.Rows L2 TL PySem.NumText
structure Tx (n : Nat) (x : Str) : Prop where
  low : ∀ c ∈ tl x, c < 128
  len : x.length ≤ n
theorem Tx.mono {n m : Nat} {x : Str} (h : Tx n x) (k : n ≤ m) : Tx m x := ⟨h.low, Nat.le_trans h.len k⟩
/-- the int of a word that passes -/
def vl (w : Str) : Int := (PySem.intText? w).getD 0
end MP
set_option Elab.async false
set_option linter.all false
set_option maxRecDepth 100000
set_option maxHeartbeats 4000000
namespace MP.Raw
open PySem Builtin Builtin.ObjectAttr
end MP.Raw
namespace MP
open PySem PySem.Spec PyProof.Rows L2
end MP
set_option Elab.async false
set_option linter.all false
set_option maxRecDepth 100000
set_option maxHeartbeats 4000000
namespace MP
open PySem PySem.Spec PyProof.Rows L2
end MP
set_option Elab.async false
set_option linter.all false
set_option maxRecDepth 100000
set_option maxHeartbeats 4000000
namespace MP
open PySem PySem.Spec PyProof.Rows L2
end MP
set_option Elab.async false
set_option linter.all false
set_option maxRecDepth 100000
set_option maxHeartbeats 4000000
namespace MP
open PySem PySem.Spec PyProof.Rows L2
end MP
namespace MP
open PySem PySem.Spec PyProof.Rows L2
end MP
set_option Elab.async false
set_option linter.all false
set_option maxRecDepth 100000
set_option maxHeartbeats 4000000
namespace MP.Raw
open PySem
end MP.Raw
set_option Elab.async false
set_option linter.all false
set_option maxRecDepth 100000
set_option maxHeartbeats 4000000
namespace MP.Raw
open PySem
end MP.Raw
set_option Elab.async false
set_option linter.all false
set_option maxRecDepth 100000
set_option maxHeartbeats 4000000
namespace MP.Raw
open PySem
end MP.Raw
namespace MP
open PySem PySem.Spec PyProof.Rows L2
end MP
set_option Elab.async false
set_option linter.all false
set_option maxRecDepth 100000
set_option maxHeartbeats 4000000
namespace MP
open PySem PySem.Spec PyProof.Rows L2 MP.Raw
end MP
set_option Elab.async false
set_option linter.all false
set_option maxRecDepth 100000
set_option maxHeartbeats 4000000
namespace MP
open PySem PySem.Spec PyProof.Rows L2
section
variable {X : Cx} {pins : List (Addr × Obj)} {σ : L2.St} {H : Hp} {s : Shared}
abbrev Fzn (o : Obj) : HO := .frz o (.own 0)
end
/-- a lambda, as it is written -/
structure LamW where
  params : Arguments
  body : Expr
  scope : Scope
/-- at f: that lambda, made by the def at hand -/
def LamAt (X : Cx) (L : LamW) (H : Hp) (μ : Mu) (Z : Zs) (f : Addr) : Prop := ∃ (c' : Addr) (dV doc ctv : Value) (tl : List (Addr × Obj)),
  H f = some (Fzn (lamObj (X.env.qual ++ "<lambda>") L.params L.body L.scope (cloFrom X.env.cells L.scope.names []) dV doc ((X.mg "__name__").getD .none) c' ctv)) ∧ Fz μ Z f ∧ H c' = some (LamX.CodeO c' (X.env.qual ++ "<lambda>")) ∧ Fz μ Z c' ∧
  (∀ p ∈ tl, H p.1 = some (Fzn p.2) ∧ Fz μ Z p.1) ∧
  ∀ s1 : Shared, (∀ p ∈ tl, s1.heap.get? p.1 = some p.2) → ∃ binds, BindsTo s1 (lamFd (X.env.qual ++ "<lambda>") L.params L.body L.scope (cloFrom X.env.cells L.scope.names []) dV doc ((X.mg "__name__").getD .none) c' ctv) ⟨[], []⟩ binds ∧ ∀ y ∈ binds, L.scope.names.lookup y.1 = some .local
theorem LamAt.mono {X : Cx} {L : LamW} {H H' : Hp} {μ μ' : Mu} {Z : Zs} {f : Addr} (e : Evo H μ H' μ') (h : LamAt X L H μ Z f) : LamAt X L H' μ' Z f := by
  obtain ⟨c', dV, doc, ctv, tl, h1, h2, h3, h4, h5, h6⟩ := h
  have al : ∀ {a : Addr} {o : HO}, H a = some o → H a ≠ none := fun q z => by rw [q] at z; cases z
  exact ⟨c', dV, doc, ctv, tl, e.keep _ _ h1 h2.1, e.fz (al h1) h2, e.keep _ _ h3 h4.1, e.fz (al h3) h4, fun p hp => ⟨e.keep _ _ (h5 p hp).1 (h5 p hp).2.1, e.fz (al (h5 p hp).1) (h5 p hp).2⟩, h6⟩
end MP
set_option Elab.async false
set_option linter.all false
set_option maxRecDepth 100000
set_option maxHeartbeats 4000000
namespace MP
open PySem PySem.Spec PyProof.Rows L2
mutual
def KRV (K : PySem.W.Frag) : Dv → Value → Prop
  | .int i, u => ∃ t, u = .int i t
  | .str x, u => ∃ t, u = .str x t
  | .tup ws, u => ∃ (a : Addr) (o : Obj) (its : Array Value) (n : Nat), u = .ref a ∧ K.lookup a = some o ∧ o.cls = .type "tuple" ∧ o.data = .seq its n ∧ its.size ≤ sizeLine ∧ KRVs K ws its.toList
  | _, _ => False
def KRVs (K : PySem.W.Frag) : List Dv → List Value → Prop
  | [], us => us = []
  | w :: ws, us => ∃ u r, us = u :: r ∧ KRV K w u ∧ KRVs K ws r
end
mutual
theorem krv_ok {Γ : Ct} {H : Hp} {μ : Mu} {Z : Zs} : ∀ (w : Dv) {u : Value}, KRV Γ.K w u → ∃ v, RelV v u ∧ RV Γ H μ Z w v
  | .int i, _, h => ⟨.int i, h, rfl⟩
  | .str x, _, h => ⟨.str x, h, rfl⟩
  | .tup ws, _, h => by
    obtain ⟨a, o, its, n, rfl, h1, h2, h3, h4, h5⟩ := h
    obtain ⟨vs, g1, g2⟩ := krvs_ok (Γ := Γ) (H := H) (μ := μ) (Z := Z) ws h5
    exact ⟨.ref a, rfl, a, vs, rfl, .inr ⟨o, its, n, h1, h2, h3, h4, g1⟩, g2⟩
  | .non, _, h => h.elim
  | .bl _, _, h => h.elim
  | .ty _, _, h => h.elim
  | .cl _, _, h => h.elim
  | .ref _, _, h => h.elim
  | .lst _, _, h => h.elim
  | .sq _, _, h => h.elim
  | .dct _ _, _, h => h.elim
  | .dtt _ _, _, h => h.elim
  | .exc _ _ _, _, h => h.elim
  | .exn _, _, h => h.elim
  | .clo _ _ _ _ _, _, h => h.elim
theorem krvs_ok {Γ : Ct} {H : Hp} {μ : Mu} {Z : Zs} : ∀ (ws : List Dv) {us : List Value}, KRVs Γ.K ws us → ∃ vs, Vals vs us ∧ RVs Γ H μ Z ws vs
  | [], _, h => by rw [show _ = [] from h]; exact ⟨[], .nil, rfl⟩
  | w :: ws, _, h => by
    obtain ⟨u, r, rfl, h1, h2⟩ := h
    obtain ⟨v, g1, g2⟩ := krv_ok (Γ := Γ) (H := H) (μ := μ) (Z := Z) w h1
    obtain ⟨vs, g3, g4⟩ := krvs_ok (Γ := Γ) (H := H) (μ := μ) (Z := Z) ws h2
    exact ⟨v :: vs, .cons g1 g3, RVs.cons g2 g4⟩
end
mutual
def krvB (K : PySem.W.Frag) : Dv → Value → Bool
  | .int i, .int j _ => decide (i = j)
  | .str x, .str y _ => decide (x = y)
  | .tup ws, .ref a => match K.lookup a with
    | some ⟨.type T, _, .seq its _, _⟩ => decide (T = "tuple") && (decide (its.size ≤ 1000) && krvsB K ws its.toList)
    | _ => false
  | _, _ => false
def krvsB (K : PySem.W.Frag) : List Dv → List Value → Bool
  | [], [] => true
  | w :: ws, u :: us => krvB K w u && krvsB K ws us
  | _, _ => false
end
mutual
theorem krvB_ok {K : PySem.W.Frag} : ∀ (w : Dv) {u : Value}, krvB K w u = true → KRV K w u
  | .int i, u, h => by
    cases u <;> first | (exact ⟨_, by rw [of_decide_eq_true h]⟩) | (simp [krvB] at h)
  | .str x, u, h => by
    cases u <;> first | (exact ⟨_, by rw [of_decide_eq_true h]⟩) | (simp [krvB] at h)
  | .tup ws, u, h => by
    cases u with
    | ref a =>
      unfold krvB at h
      split at h
      · rename_i T od its n sl e
        rw [Bool.and_eq_true, Bool.and_eq_true] at h
        obtain ⟨h1, h2, h3⟩ := h
        exact ⟨a, _, its, n, rfl, e, by rw [of_decide_eq_true h1], rfl, Nat.le_trans (of_decide_eq_true h2) (by rw [sizeLine_eq]; decide), krvsB_ok ws h3⟩
      · cases h
    | _ => simp [krvB] at h
  | .non, u, h => by cases u <;> simp [krvB] at h
  | .bl _, u, h => by cases u <;> simp [krvB] at h
  | .ty _, u, h => by cases u <;> simp [krvB] at h
  | .cl _, u, h => by cases u <;> simp [krvB] at h
  | .ref _, u, h => by cases u <;> simp [krvB] at h
  | .lst _, u, h => by cases u <;> simp [krvB] at h
  | .sq _, u, h => by cases u <;> simp [krvB] at h
  | .dct _ _, u, h => by cases u <;> simp [krvB] at h
  | .dtt _ _, u, h => by cases u <;> simp [krvB] at h
  | .exc _ _ _, u, h => by cases u <;> simp [krvB] at h
  | .exn _, u, h => by cases u <;> simp [krvB] at h
  | .clo _ _ _ _ _, u, h => by cases u <;> simp [krvB] at h
theorem krvsB_ok {K : PySem.W.Frag} : ∀ (ws : List Dv) {us : List Value}, krvsB K ws us = true → KRVs K ws us
  | [], us, h => by
    cases us with
    | nil => rfl
    | cons _ _ => simp [krvsB] at h
  | w :: ws, us, h => by
    cases us with
    | nil => simp [krvsB] at h
    | cons u r =>
      simp only [krvsB, Bool.and_eq_true] at h
      exact ⟨u, r, rfl, krvB_ok w h.1, krvsB_ok ws h.2⟩
end
theorem me_globT {X : Cx} {Γ : Ct} {W : WX} {x : Str} {w : Dv} {pos : Pos} (hK : Γ.K = X.K) (hg : Gl X x) (hm : ∃ u, X.mg x = some u ∧ KRV Γ.K w u) (hd : (x == ("__debug__" : Str)) = false := by decide) : ME X Γ W (.Name x pos) (mK w) := by
  obtain ⟨u, h, hk⟩ := hm
  refine ⟨fun pins s σ H Q I ⟨μ, Z, ρ, st, hE, hR, q⟩ => ?_⟩
  obtain ⟨v, g1, g2⟩ := krv_ok (Γ := Γ) (H := H) (μ := μ) (Z := Z) w hk
  exact ld_glob I hg h ⟨v, H, I, g1, okE hR g2 q⟩ hd
end MP
namespace MP
open PySem PySem.Spec PyProof.Rows L2
end MP
set_option Elab.async false
set_option linter.all false
set_option maxRecDepth 100000
set_option maxHeartbeats 4000000
namespace MP
open PySem PySem.Spec PyProof.Rows L2
end MP
namespace MP
open PySem PySem.Spec PyProof.Rows L2
end MP
set_option Elab.async false
set_option linter.all false
set_option maxRecDepth 100000
set_option maxHeartbeats 4000000
namespace MP
open PySem PySem.Spec PyProof.Rows L2
end MP
set_option Elab.async false
set_option linter.all false
set_option maxRecDepth 100000
set_option maxHeartbeats 4000000
namespace MP
open PySem PySem.Spec PyProof.Rows L2
section
variable {X : Cx} {Γ : Ct} {W : WX} {c k n : Nat} {g : Addr} {m : Str} {ps ks : List Str} {den : Fn} {o e : Expr} {es : List Expr} {fo f : FE} {fa : FA} {pos apos p : Pos} {kws : List Keyword} {nm : Option Str} {kpos : Pos}
theorem Binds.at {K : PySem.W.Frag} {fd : FuncData} {s : Shared} {us : List Value} (hb : Binds K fd ps []) (hk : K.In s.heap) (hl : us.length = ps.length) : BindsTo s fd ⟨us, []⟩ (ps.zip us) := by
  have := hb s us hk (by rw [List.append_nil]; exact hl)
  rwa [List.append_nil] at this
end
end MP
set_option Elab.async false
set_option linter.all false
set_option maxRecDepth 100000
set_option maxHeartbeats 4000000
namespace MP
open PySem PySem.Spec PyProof.Rows L2
end MP
set_option Elab.async false
set_option linter.all false
set_option maxRecDepth 100000
set_option maxHeartbeats 4000000
namespace MP
open PySem PySem.Spec PyProof.Rows L2
end MP
set_option Elab.async false
set_option linter.all false
set_option maxRecDepth 100000
set_option maxHeartbeats 4000000
namespace MP
open PySem PySem.Spec PyProof.Rows L2
section
variable {X : Cx} {Γ : Ct} {W : WX} {k kk : Nat} {f : Addr} {fd : FuncData} {ps : List Str} {den : (Sto → R Dv) → Fn} {x a : Str} {i : Nat} {p p1 p2 pos lpos : Pos} {es : List Expr} {fa : FA}
theorem rvs_rg {H : Hp} {μ : Mu} {Z : Zs} {a b : Int} : RVs Γ H μ Z (rng a (b - a).toNat) (rgV a b) := by
  have : rng a (b - a).toNat = ((List.range (b - a).toNat).map fun i : Nat => a + (i : Int)).map .int := by rw [List.map_map]; rfl
  have h2 : rgV a b = ((List.range (b - a).toNat).map fun i : Nat => a + (i : Int)).map .int := by unfold rgV; rw [List.map_map]; rfl
  rw [this, h2]
  exact RVs.of_ints _
def rgOkB (a b : Int) : Bool := decide (-(2 ^ 62) ≤ a ∧ a < 2 ^ 62 ∧ -(2 ^ 62) ≤ b ∧ b < 2 ^ 62 ∧ (b - a).toNat ≤ 1000000)
theorem rgOkB_ok {a b : Int} (h : rgOkB a b = true) : RgOk a b := by
  have := of_decide_eq_true h
  exact ⟨this.1, this.2.1, this.2.2.1, this.2.2.2.1, Nat.le_trans this.2.2.2.2 (by decide)⟩
def mListRg1 (f : FE) : FE := fun ρ s => (f ρ s).bind fun x s1 => match x with
  | .int j => if rgOkB 0 j = true then .ok (.lst (rng 0 (j - 0).toNat)) s1 else .no
  | _ => .no
theorem me_listRg1 {e : Expr} {g : FE} {p p2 pos pos2 : Pos} (hc : X.calm = true) (hgl : Gl X "list") (hm : X.mg "list" = none) (hg2 : Gl X "range") (hm2 : X.mg "range" = none) (ha : ME X Γ W e g)
    (na : starEach [e] X.env = (false, eval e X.env) :: starEach [] X.env := by rfl)
    (nb : starEach [.Call (.Name "range" p2) [e] [] pos2] X.env = (false, eval (.Call (.Name "range" p2) [e] [] pos2) X.env) :: starEach [] X.env := by rfl) :
    ME X Γ W (.Call (.Name "list" p) [.Call (.Name "range" p2) [e] [] pos2] [] pos) (mListRg1 g) :=
  PE.imp (pe_listRg hc hgl hm (prg_1 hg2 hm2 ha na) nb) fun σ H Q ⟨μ, Z, ρ, s, hE, hR, q⟩ => by
    refine eE hE hR q fun x s1 v H1 μ1 e1 E1 R1 r1 q1 => ?_
    cases x with
    | int j =>
      replace q1 : PostE Γ W H1 μ1 Z σ Q (if rgOkB 0 j = true then .ok (.lst (rng 0 (j - 0).toNat)) s1 else .no) := q1
      split at q1
      · rename_i hj
        refine ⟨j, r1, rgOkB_ok hj, fun t ht => ?_⟩
        exact q1 _ _ μ1 (Evo.laid ht) (R1.laid ht) (new_lst R1 ht rvs_rg)
      · exact q1.elim
    | _ => exact q1.elim
end
end MP
set_option Elab.async false
set_option linter.all false
set_option maxRecDepth 100000
set_option maxHeartbeats 4000000
namespace MP
open PySem PySem.Spec PyProof.Rows L2
section
variable {prog : Program} {w : World} {A : Around} {E : Value → Shared → Prop} {s : Shared}
theorem sliceApplied_rev {sl : Addr} {vs : Value} {n : Nat} {Q : Int × Int × Nat → Shared → Prop} (hs : s.heap.IsSliceOf sl .none .none vs) (ps : IsPart vs (some (-1)))
    (h : Q ((n : Int) - 1, -1, n) s) : wpAny (model prog w) A (Builtin.Slice.sliceApplied (.ref sl) (pure (n : Int))) Q E s := by
  obtain ⟨os, hos, hcs, hds⟩ := id hs
  unfold Builtin.Slice.sliceApplied Builtin.Slice.sliceFields
  refine wpAny_bind (wpAny_bind (wpAny_field hos hds (x := .none) rfl (wpAny_bind (wpAny_field hos hds (x := .none) rfl (wpAny_bind (wpAny_field hos hds (x := vs) rfl (wpAny_pure ?_)))))))
  refine wpAny_bind (HT.slicePart_ ps ?_)
  show wpAny _ _ (if ((-1 : Int) == 0) = true then _ else _) _ _ s
  rw [if_neg (by decide)]
  refine wpAny_bind (HT.slicePart_ .none (wpAny_bind (HT.slicePart_ .none (wpAny_bind (wpAny_pure ?_)))))
  have e1 : Builtin.Slice.sliceAdjust none none (-1) (n : Int) = ((n : Int) - 1, -1) := by
    unfold Builtin.Slice.sliceAdjust
    rfl
  have e2 : Builtin.Slice.slicePlaces ((n : Int) - 1) (-1) (-1) = n := by
    unfold Builtin.Slice.slicePlaces
    rw [if_neg (by decide)]
    by_cases h0 : (n : Int) - 1 > -1
    · rw [if_pos h0, show (-(-1) : Int) = 1 from rfl, Int.ediv_one]
      omega
    · rw [if_neg h0]
      show 0 = n
      omega
  show wpAny _ _ (match Builtin.Slice.sliceAdjust none none (-1) (n : Int) with | (lo, hi) => pure (lo, (-1 : Int), Builtin.Slice.slicePlaces lo hi (-1))) _ _ s
  rw [e1]
  show wpAny _ _ (pure ((n : Int) - 1, (-1 : Int), Builtin.Slice.slicePlaces ((n : Int) - 1) (-1) (-1))) _ _ s
  rw [e2]
  exact wpAny_pure h
theorem pick_rev (xs : Array Value) : ((List.range xs.size).filterMap fun (m : Nat) => xs[(((xs.size : Int) - 1) + (m : Int) * (-1)).toNat]?).toArray = xs.toList.reverse.toArray := by
  have e : ((List.range xs.size).filterMap fun (m : Nat) => xs[(((xs.size : Int) - 1) + (m : Int) * (-1)).toNat]?) = ((List.range xs.size).map (fun k => xs.size - 1 - k)).filterMap (xs[·]?) := by
    rw [List.filterMap_map]
    congr 1
    funext m
    show xs[(((xs.size : Int) - 1) + (m : Int) * (-1)).toNat]? = xs[xs.size - 1 - m]?
    rw [show (((xs.size : Int) - 1) + (m : Int) * (-1)).toNat = xs.size - 1 - m by omega]
  rw [e, PySem.W.krv_range, List.filterMap_reverse, PySem.W.krv_all]
theorem getItem_tuple_rev {t sl : Addr} {items : Array Value} {vs : Value} {Q : Value → Shared → Prop} (ht : IsTup s.heap t items) (hs : s.heap.IsSliceOf sl .none .none vs) (ps : IsPart vs (some (-1)))
    (h : Q (.ref s.heap.objs.size) { s with heap := s.heap.push { cls := .type "tuple", data := .seq items.toList.reverse.toArray } })
    (hsz : items.size ≤ sizeLine) : wpAny (model prog w) A (getItem (.ref t) (.ref sl)) Q E s := by
  have htake : sizeOk (.seq items.toList.reverse.toArray) := by
    show items.toList.reverse.toArray.size ≤ sizeLine
    rw [List.size_toArray, List.length_reverse, Array.length_toList]
    omega
  obtain ⟨os, hos, hcs, hds⟩ := id hs
  have hTs : s.TypeIs (.ref sl) "slice" := ⟨os, hos, hcs⟩
  unfold getItem
  try with_reducible refine wpAny_holding ?_
  first | refine wpAny_bind (wpAny_pure ?_) | skip
  refine wpAny_bind (wpAny_sequenceKey ht.typeIs (by decide) ?_)
  refine wpAny_bind (wpAny_callSpecial?_slot (name := Str.ofString "__getitem__") ht.typeIs PyProof.Rows.slot_tuple_getitem
    (wpAny_call_entry PyProof.Rows.slot_tuple_getitem ht.typeIs entry_tuple_getitem ?_ (args_tuple_getitem _ _)))
  show wpAny _ _ (Builtin.Tuple.tupleItemsOf (.ref t) >>= _) _ _ s
  refine wpAny_bind (PyProof.Rows.tupleItemsOf_ ht ?_)
  refine wpAny_bind (wpAny_typeOf hTs ?_)
  rw [if_pos (by decide)]
  refine wpAny_bind (sliceApplied_rev hs ps ?_)
  have hno : ¬ ((((items.size : Int) - 1 == 0 && (-1 : Int) == 1 && items.size == items.size)) = true) := by
    rw [show ((-1 : Int) == 1) = false from rfl, Bool.and_false, Bool.false_and]
    exact Bool.false_ne_true
  show wpAny _ _ (if (((items.size : Int) - 1 == 0 && (-1 : Int) == 1 && items.size == items.size)) = true then _ else _) _ _ s
  rw [if_neg hno, pick_rev]
  first
    | exact wpAny_bind (m := Builtin.Tuple.tupleExact _) (wpAny_newObj_type (wpAny_pure ⟨_, rfl, wpAny_pure h⟩) htake)
    | exact wpAny_bind (m := Builtin.Tuple.tupleExact _) (wpAny_newObj_type (wpAny_bind (wpAny_pure (wpAny_pure ⟨_, rfl, wpAny_pure h⟩))) htake)
    | exact wpAny_bind (wpAny_bind (m := Builtin.Tuple.tupleExact _) (wpAny_newObj_type (wpAny_pure (wpAny_pure ⟨_, rfl, wpAny_pure h⟩)) htake))
    | exact wpAny_bind (wpAny_bind (m := Builtin.Tuple.tupleExact _) (wpAny_newObj_type (wpAny_pure ⟨_, rfl, wpAny_pure h⟩) htake))
end
section
variable {X : Cx} {e : Expr} {te : TE}
def tRevT (K : PySem.W.Frag) (te : TE) : TE := fun σ H Q => te σ H fun x H1 => ∃ a xs, x = .ref a ∧ SqT K H1 a xs ∧ ∀ p, H1 p = none → Q (.ref p) (upd H1 p (.tup xs.reverse))
theorem pe_revT {k : Nat} {p1 p2 p3 pos : Pos} (he : PE X e te) : PE X (.Subscript e (.Slice none none (some (.UnaryOp .USub (.Constant (.int 1) k p1) p2)) p3) pos) (tRevT X.K te) := by
  refine ⟨fun pins s σ H Q I h => ?_⟩
  refine Subscript_ (thn (he.run pins s σ H _ I h) fun v s1 ⟨x, H1, I1, r1, q1⟩ => ?_)
  obtain ⟨a, xs, ex, hx, q⟩ := q1
  subst ex
  cases r1
  have hst : PO X (some (.UnaryOp .USub (.Constant (.int 1) k p1) p2)) (tPart (tUn (rU fun i => .int (-i)) (tC (.int 1)))) := po_some (pe_un un_neg pe_int)
  refine wpAny_Slice ?_
  rw [evalPart_none]
  refine wpAny_pure (wpAny_pure ?_)
  refine thn (hst.run pins s1 σ H1 (fun o H4 => o = some (-1) ∧ H4 = H1) I1 ⟨1, rfl, -1, rfl, rfl, rfl⟩) fun vs s4 ⟨o, H4, I4, ps, eo, e4⟩ => ?_
  subst eo e4
  have I5 : Inv X pins σ H4 { s4 with heap := s4.heap.push { cls := .type "slice", data := .fields #[.none, .none, vs] } } := I4.kept (t' := s4.toks) fun b ob q => Heap.get?_push_of_some _ q
  obtain ⟨its, r, ht, hz⟩ := I5.tuple hx
  have hlen := r.length
  show wpAny (model X.prog X.w) X.A (subscriptTail e (.Slice none none (some (.UnaryOp .USub (.Constant (.int 1) k p1) p2)) p3) (.ref a) (.ref s4.heap.objs.size)) (EP X pins σ Q) X.xe { s4 with heap := s4.heap.push { cls := .type "slice", data := .fields #[.none, .none, vs] } }
  refine tail_any (ops := [.ref a, .ref s4.heap.objs.size]) ht.typeIs (PyProof.Rows.slot_tuple_getitem.lookup) ?_ (by with_unfolding_all rfl)
  refine getItem_tuple_rev ht (Heap.IsSliceOf.new _ .none .none vs) ps ?_ (by rw [List.size_toArray]; omega)
  refine ⟨.ref _, _, I5.laid (t' := s4.toks) (o := .tup xs.reverse) (fun b ob q => Heap.get?_push_of_some _ q) (Nat.le_refl _) ?_, rfl, q _ (I5.hok.fresh (Nat.le_refl _))⟩
  exact ⟨by rw [List.length_reverse]; exact hz, _, r.reverse, IsTup.new _ _⟩
end
section
variable {X : Cx} {Γ : Ct} {W : WX} {e a b : Expr} {f g : FE} {pos : Pos}
theorem RVs.rev {H : Hp} {μ : Mu} {Z : Zs} : ∀ {ws : List Dv} {xs : List V}, RVs Γ H μ Z ws xs → RVs Γ H μ Z ws.reverse xs.reverse
  | [], _, h => by rw [show _ = [] from h]; exact rfl
  | w :: ws, _, h => by
    obtain ⟨x, xs, rfl, h2, h3⟩ := h
    rw [List.reverse_cons, List.reverse_cons]
    exact RVs.append (RVs.rev h3) (RVs.cons h2 RVs.nil)
/-- e[::-1] -/
def revD (s : Sto) (x : Dv) : Option Dv := match lstOrSq s x with
  | some ws => some (.lst ws.reverse)
  | none => match x with
    | .tup ws => some (.tup ws.reverse)
    | _ => none
def mRev (f : FE) : FE := fun ρ s => (f ρ s).bind fun x s1 => R.of (revD s1 x) s1
theorem me_rev {k : Nat} {p1 p2 p3 : Pos} (hK : Γ.K = X.K) (he : ME X Γ W e f) : ME X Γ W (.Subscript e (.Slice none none (some (.UnaryOp .USub (.Constant (.int 1) k p1) p2)) p3) pos) (mRev f) :=
  PE.imp (PE.or (pe_revL he) (pe_revT he)) fun σ H Q ⟨μ, Z, ρ, s, hE, hR, q⟩ => by
    have key : (∃ μ Z ρ s, RE Γ H μ Z ρ σ ∧ Rep Γ H μ Z s ∧ PostE Γ W H μ Z σ Q ((f ρ s).bind fun x s1 => R.of ((lstOrSq s1 x).map fun ws => Dv.lst ws.reverse) s1)) ∨ (∃ μ Z ρ s, RE Γ H μ Z ρ σ ∧ Rep Γ H μ Z s ∧ PostE Γ W H μ Z σ Q ((f ρ s).bind fun x s1 => R.of (match x with | .tup ws => some (.tup ws.reverse) | _ => none) s1)) := by
      have q0 : PostE Γ W H μ Z σ Q ((f ρ s).bind fun x s1 => R.of (revD s1 x) s1) := q
      cases e1 : f ρ s with
      | no => rw [e1] at q0; exact q0.elim
      | er x s1 => rw [e1] at q0; exact .inl ⟨μ, Z, ρ, s, hE, hR, by rw [e1]; exact q0⟩
      | ok x s1 =>
        rw [e1, bind_ok] at q0
        cases e2 : lstOrSq s1 x with
        | some ws => exact .inl ⟨μ, Z, ρ, s, hE, hR, by rw [e1, bind_ok, e2]; unfold revD at q0; rw [e2] at q0; exact q0⟩
        | none => exact .inr ⟨μ, Z, ρ, s, hE, hR, by rw [e1, bind_ok]; unfold revD at q0; rw [e2] at q0; exact q0⟩
    rcases key with ⟨μ, Z, ρ, s, hE, hR, q⟩ | ⟨μ, Z, ρ, s, hE, hR, q⟩
    · refine .inl (eE hE hR q fun x s1 u H1 μ1 e1 hE1 R1 r1 q1 => ?_)
      cases e2 : lstOrSq s1 x with
      | none => rw [e2] at q1; exact q1.elim
      | some ws =>
        rw [e2] at q1
        obtain ⟨p, xs, h1, h2, h3⟩ := lstOrSq_ok R1 r1 e2
        refine ⟨p, xs, h1, hK ▸ h2, fun t ht => ?_⟩
        obtain ⟨w, hw, k⟩ := ofE q1
        cases hw
        exact k _ _ (Evo.laid ht) (R1.laid ht) (new_lst R1 ht h3.rev)
    · refine .inr (eE hE hR q fun x s1 u H1 μ1 e1 hE1 R1 r1 q1 => ?_)
      cases x with
      | tup ws =>
        obtain ⟨p, xs, h1, h2, h3⟩ := r1
        refine ⟨p, xs, h1, hK ▸ h2.sq, fun t ht => ?_⟩
        obtain ⟨w, hw, k⟩ := ofE q1
        cases hw
        exact k _ _ (Evo.laid ht) (R1.laid ht) (new_tup R1 ht h3.rev)
      | _ => exact q1.elim
/-- every st-th one from the i-th on -/
def stepL {α : Type} (xs : List α) (i st : Nat) : List α := (List.range ((xs.length - i + (st - 1)) / st)).filterMap fun m => xs[i + m * st]?
theorem step_pick (xs : Array Value) (i st : Nat) (h : 0 < st) : slicePick xs (some (i : Int)) none (some (st : Int)) = (stepL xs.toList i st).toArray := by
  have hs : ((st : Int) > 0) := by omega
  have eb : sliceBounds (some (i : Int)) none (some (st : Int)) xs.size = (((min i xs.size : Nat) : Int), (xs.size : Int), (st : Int)) := by
    unfold sliceBounds
    simp only [Option.getD_some, hs, if_true]
    refine Prod.ext ?_ rfl
    show max (0 : Int) (min (if (i : Int) < 0 then (i : Int) + xs.size else (i : Int)) xs.size) = ((min i xs.size : Nat) : Int)
    rw [if_neg (by omega)]
    omega
  unfold slicePick
  rw [eb]
  unfold sliceRange stepL
  simp only [hs, if_true]
  congr 1
  rw [List.filterMap_map, Array.length_toList]
  by_cases hi : i < xs.size
  · have e1 : ((if ((min i xs.size : Nat) : Int) < (xs.size : Int) then ((xs.size : Int) - ((min i xs.size : Nat) : Int) + (st : Int) - 1) / (st : Int) else 0) : Int).toNat = (xs.size - i + (st - 1)) / st := by
      rw [if_pos (by omega), show ((xs.size : Int) - ((min i xs.size : Nat) : Int) + (st : Int) - 1) = ((xs.size - i + (st - 1) : Nat) : Int) by omega]
      rfl
    rw [e1]
    congr 1
    funext m
    show xs[(((min i xs.size : Nat) : Int) + (st : Int) * (m : Int)).toNat]? = xs.toList[i + m * st]?
    rw [Array.getElem?_toList, show (((min i xs.size : Nat) : Int) + (st : Int) * (m : Int)).toNat = i + m * st by
      rw [Nat.min_eq_left (by omega), Nat.mul_comm m st]
      have : (st : Int) * (m : Int) = ((st * m : Nat) : Int) := by rw [Int.natCast_mul]
      omega]
  · have e1 : ((if ((min i xs.size : Nat) : Int) < (xs.size : Int) then ((xs.size : Int) - ((min i xs.size : Nat) : Int) + (st : Int) - 1) / (st : Int) else 0) : Int).toNat = 0 := by
      rw [if_neg (by omega)]
      rfl
    have e2 : (xs.size - i + (st - 1)) / st = 0 := by
      rw [show xs.size - i = 0 by omega, Nat.zero_add]
      exact Nat.div_eq_of_lt (by omega)
    rw [e1, e2]
    rfl
theorem stepL_len {α : Type} (xs : List α) (i st : Nat) (h : 0 < st) : (stepL xs i st).length ≤ xs.length := by
  unfold stepL
  refine Nat.le_trans (List.length_filterMap_le _ _) ?_
  rw [List.length_range]
  by_cases hi : i < xs.length
  · refine Nat.le_trans ?_ (Nat.sub_le xs.length i)
    exact Nat.lt_succ_iff.mp ((Nat.div_lt_iff_lt_mul h).mpr (by
      have : xs.length - i ≤ (xs.length - i) * st := Nat.le_mul_of_pos_right _ h
      rw [Nat.succ_mul]
      omega))
  · rw [show xs.length - i = 0 by omega, Nat.zero_add, Nat.div_eq_of_lt (by omega)]
    exact Nat.zero_le _
theorem Vals.filterRange {xs : List V} {us : List Value} (r : Vals xs us) (f : Nat → Nat) : ∀ l : List Nat, Vals (l.filterMap fun m => xs[f m]?) (l.filterMap fun m => us[f m]?)
  | [] => .nil
  | m :: l => by
    rw [List.filterMap_cons, List.filterMap_cons]
    have hl := r.length
    by_cases h : f m < xs.length
    · obtain ⟨u, hu, ru⟩ := r.get (List.getElem?_eq_getElem h)
      rw [List.getElem?_eq_getElem h, hu]
      exact .cons ru (Vals.filterRange r f l)
    · rw [List.getElem?_eq_none (by omega), List.getElem?_eq_none (by omega)]
      exact Vals.filterRange r f l
theorem RVs.filterRange {H : Hp} {μ : Mu} {Z : Zs} {ws : List Dv} {xs : List V} (r : RVs Γ H μ Z ws xs) (f : Nat → Nat) : ∀ l : List Nat, RVs Γ H μ Z (l.filterMap fun m => ws[f m]?) (l.filterMap fun m => xs[f m]?)
  | [] => rfl
  | m :: l => by
    rw [List.filterMap_cons, List.filterMap_cons]
    have hl := r.len
    by_cases h : f m < ws.length
    · obtain ⟨u, hu, ru⟩ := r.get (List.getElem?_eq_getElem h)
      rw [List.getElem?_eq_getElem h, hu]
      exact RVs.cons ru (RVs.filterRange r f l)
    · rw [List.getElem?_eq_none (by omega), List.getElem?_eq_none (by omega)]
      exact RVs.filterRange r f l
def tStep (K : PySem.W.Frag) (te tl ts : TE) : TE := fun σ H Q => te σ H fun x H1 => tl σ H1 fun y H2 => ts σ H2 fun z H3 => ∃ (a : Addr) (xs : List V) (i st : Nat), x = .ref a ∧ y = .int (i : Int) ∧ z = .int (st : Int) ∧ 0 < st ∧ SqL K H3 a xs ∧ ∀ p, H3 p = none → Q (.ref p) (upd H3 p (.lst (stepL xs i st)))
theorem pe_step {el est : Expr} {te tl ts : TE} {p3 : Pos} (he : PE X e te) (hl : PE X el tl) (hst : PE X est ts) (hsub : ∀ ops : List Value, True := by intro _; trivial) : PE X (.Subscript e (.Slice (some el) none (some est) p3) pos) (tStep X.K te tl ts) := by
  refine ⟨fun pins s σ H Q I h => ?_⟩
  refine Subscript_ (thn (he.run pins s σ H _ I h) fun v s1 ⟨x, H1, I1, r1, q1⟩ => ?_)
  refine wpAny_Slice ?_
  rw [evalPart_some]
  refine thn (hl.run pins s1 σ H1 _ I1 q1) fun vl s2 ⟨y, H2, I2, r2, q2⟩ => ?_
  rw [evalPart_none]
  refine wpAny_pure ?_
  rw [evalPart_some]
  refine thn (hst.run pins s2 σ H2 _ I2 q2) fun vs s3 ⟨z, H3, I3, r3, q3⟩ => ?_
  obtain ⟨a, xs, i, st, ex, ey, ez, hpos, hx, q⟩ := q3
  subst ex ey ez
  cases r1
  obtain ⟨t2, rfl⟩ := r2
  obtain ⟨t3, rfl⟩ := r3
  have I5 : Inv X pins σ H3 { s3 with heap := s3.heap.push { cls := .type "slice", data := .fields #[.int (i : Int) t2, .none, .int (st : Int) t3] } } := I3.kept (t' := s3.toks) fun b ob q => Heap.get?_push_of_some _ q
  obtain ⟨its, r, ht, hz⟩ := I5.list hx
  have hlen := r.length
  show wpAny (model X.prog X.w) X.A (subscriptTail e (.Slice (some el) none (some est) p3) (.ref a) (.ref s3.heap.objs.size)) (EP X pins σ Q) X.xe { s3 with heap := s3.heap.push { cls := .type "slice", data := .fields #[.int (i : Int) t2, .none, .int (st : Int) t3] } }
  refine tail_any (ops := [.ref a, .ref s3.heap.objs.size]) ht.isList.typeIs (PySem.slot_list_getitem.lookup) ?_ (by with_unfolding_all rfl)
  refine wpAny_getItem_list_slice ht.isList (Heap.IsSliceOf.new _ _ _ _) (.int _ _) .none (.int _ _) (fun z => by have := Option.some.inj z; omega) ?_ (by rw [List.size_toArray]; omega)
  rw [step_pick _ _ _ hpos]
  refine ⟨.ref _, _, I5.laid (t' := s3.toks) (o := .lst (stepL xs i st)) (fun b ob q => Heap.get?_push_of_some _ q) (Nat.le_refl _) ?_, rfl, q _ (I5.hok.fresh (Nat.le_refl _))⟩
  refine ⟨Nat.le_trans (stepL_len _ _ _ hpos) hz, _, 0, ?_, Heap.get?_push_size _ rfl⟩
  have := Vals.filterRange r (fun m => i + m * st) (List.range ((xs.length - i + (st - 1)) / st))
  unfold stepL
  rw [List.toList_toArray, ← hlen]
  exact this
def mStep (f g h : FE) : FE := fun ρ s => (f ρ s).bind fun x s1 => (g ρ s1).bind fun y s2 => (h ρ s2).bind fun z s3 => match lstOrSq s3 x, y, z with
  | some ws, .int i, .int st => if 0 ≤ i ∧ 0 < st then .ok (.lst (stepL ws i.toNat st.toNat)) s3 else .no
  | _, _, _ => .no
theorem me_step {el est : Expr} {g h : FE} {p3 : Pos} (hK : Γ.K = X.K) (he : ME X Γ W e f) (hl : ME X Γ W el g) (hst : ME X Γ W est h) : ME X Γ W (.Subscript e (.Slice (some el) none (some est) p3) pos) (mStep f g h) :=
  PE.imp (pe_step he hl hst) fun σ H Q ⟨μ, Z, ρ, s, hE, hR, q⟩ => by
    refine eE hE hR q fun x s1 u H1 μ1 e1 E1 R1 r1 q1 => ?_
    refine eE E1 R1 q1 fun y s2 v H2 μ2 e2 E2 R2 r2 q2 => ?_
    refine eE E2 R2 q2 fun z s3 t H3 μ3 e3 E3 R3 r3 q3 => ?_
    have rx := (r1.mono e2).mono e3
    have ry := r2.mono e3
    cases e0 : lstOrSq s3 x with
    | none => rw [e0] at q3; exact q3.elim
    | some ws =>
      rw [e0] at q3
      cases y with
      | int i =>
        cases z with
        | int st =>
          replace q3 : PostE Γ W H3 μ3 Z σ Q (if 0 ≤ i ∧ 0 < st then .ok (.lst (stepL ws i.toNat st.toNat)) s3 else .no) := q3
          split at q3
          · rename_i hc
            obtain ⟨p, xs, h1, h2, h3⟩ := lstOrSq_ok R3 rx e0
            refine ⟨p, xs, i.toNat, st.toNat, h1, ?_, ?_, by omega, hK ▸ h2, fun t ht => ?_⟩
            · rw [Int.toNat_of_nonneg hc.1]; exact ry
            · rw [Int.toNat_of_nonneg (by omega)]; exact r3
            · refine q3 _ _ μ3 (Evo.laid ht) (R3.laid ht) (new_lst R3 ht ?_)
              unfold stepL
              rw [h3.len]
              exact RVs.filterRange h3 (fun m => i.toNat + m * st.toNat) _
          · exact q3.elim
        | _ => exact q3.elim
      | _ => exact q3.elim
end
end MP
set_option Elab.async false
set_option linter.all false
set_option maxRecDepth 100000
set_option maxHeartbeats 4000000
namespace MP
open PySem PySem.Spec PyProof.Rows L2
section
variable {X : Cx} {Γ : Ct} {W : WX} {e a b : Expr} {f g : FE} {pos : Pos}
def mAug (i : Nat) (o : O2) (f : FE) : FS := fun ρ s => match ρ[i]? with
  | some (some x) => (f ρ s).thenC ρ fun y s1 => match o s1 x y with
    | some z => .nx (ρ.set i (some z)) s1
    | none => .no
  | _ => .no
/-- what an operator on ints says -/
def addI : O2 := fun _ x y => match x, y with
  | .int i, .int j => some (.int (i + j))
  | _, _ => none
theorem sAddI : Op2 Γ (rI0 fun i j => .int (i + j)) addI := fun H μ Z s x y w u v Q hR r1 r2 e k => by
  unfold addI at e
  split at e
  · cases e
    exact ⟨_, _, r1, r2, k _ H .refl hR rfl⟩
  · cases e
theorem ms_aug {i : Nat} {x : Str} {op : Operator} {r : R2} {o : O2} {pos' : Pos} (hN : X.N.Nodup) (hi : X.N[i]? = some x) (hx : Loc X.env.scope x) (he : ME X Γ W e f) (ho : OpR X (inplaceOp op) r) (hs : Op2 Γ r o) (hf : X.fn x = true ∨ X.env.scope.names.lookup x = some .local := by first | exact .inl rfl | exact .inr rfl | assumption) :
    MS X Γ W (.AugAssign (.Name x pos') op e pos) (mAug i o f) :=
  PS.imp (ps_aug hN hi hx he ho hf) fun D σ H ⟨μ, Z, ρ, s, hE, hR, q⟩ => by
    unfold mAug at q
    split at q
    · rename_i w hw
      obtain ⟨v, hv, rv⟩ := hE.2 i w hw
      refine ⟨v, hv, eS hE hR q fun y s1 u H1 μ1 e1 E1 R1 r1 q1 => ?_⟩
      cases e2 : o s1 w y with
      | none => rw [e2] at q1; exact q1.elim
      | some z =>
        rw [e2] at q1
        exact hs H1 μ1 Z s1 w y z v u _ R1 (rv.mono e1) r1 e2 fun v' H' ev R' r' => q1 _ H' μ1 ev R' ((E1.mono ev).set i r')
    · exact q.elim
def divmodD : ON := fun _ xs => match xs with
  | [.int i, .int j] => if 0 < j ∧ j < 1073741824 then some (.tup [.int (i / j), .int (i % j)]) else none
  | _ => none
theorem sDivmod : OpN Γ (fun xs H Q => ∃ i j, xs = [.int i, .int j] ∧ CDiv i j ∧ ∀ p, H p = none → Q (.ref p) (upd H p (.tup [.int (i / j), .int (i % j)]))) divmodD := fun H μ Z s xs w vs Q hR rx e k => by
  unfold divmodD at e
  split at e
  · rename_i i j
    split at e
    · rename_i hc
      cases e
      obtain ⟨x, t, rfl, r1, y, t2, rfl, r2, r3⟩ := rx
      refine ⟨i, j, by rw [show x = .int i from r1, show y = .int j from r2, show t2 = [] from r3], hc, fun p hp => ?_⟩
      exact k _ _ (Evo.laid hp) (hR.laid hp) (new_tup hR hp (RVs.cons rfl (RVs.cons rfl rfl)))
    · cases e
  · cases e
def shlD : O2 := fun _ x y => match x, y with
  | .int i, .int j => if 0 ≤ j ∧ j ≤ 1000000 ∧ i.natAbs < 2 ^ 64 then some (.int (i * 2 ^ j.toNat)) else none
  | _, _ => none
theorem sShl : Op2 Γ (rI CPow fun i j => .int (i * 2 ^ j.toNat)) shlD := fun H μ Z s x y w u v Q hR r1 r2 e k => by
  unfold shlD at e
  split at e
  · split at e
    · rename_i hc
      cases e
      exact ⟨_, _, r1, r2, hc, k _ H .refl hR rfl⟩
    · cases e
  · cases e
/-- the ints b - 1 .. a -/
def rngR (a b : Int) : List Dv := (List.range (b - a).toNat).map fun (i : Nat) => .int (b - 1 - i)
theorem walk_rc {H : Hp} {μ : Mu} {Z : Zs} {a b : Int} : Walks Γ Z H μ none (Itc (a + (((b - a).toNat : Nat) : Int) - 1) (-1) (b - a).toNat) (rngR a b) := fun H' μ' Z' s' ev hR hy hz _ => by
  have hl : (rngR a b).length = (b - a).toNat := by unfold rngR; rw [List.length_map, List.length_range]
  refine ⟨by rw [hl]; exact Nat.le_refl _, fun i w e => ?_⟩
  unfold rngR at e
  rw [List.getElem?_map] at e
  cases e1 : (List.range (b - a).toNat)[i]? with
  | none => rw [e1] at e; cases e
  | some j =>
    rw [e1] at e
    cases e
    obtain ⟨h1, h2⟩ := List.getElem?_eq_some_iff.mp e1
    rw [List.length_range] at h1
    rw [List.getElem_range] at h2
    subst h2
    refine ⟨h1, fun x H'' hq => ?_⟩
    obtain ⟨rfl, rfl⟩ := hq
    refine ⟨.refl, hR, ?_⟩
    show V.int _ = V.int _
    congr 1
    omega
def iRevR2 (f g : FE) : FI := fun ρ s => (f ρ s).bind fun x s1 => (g ρ s1).bind fun y s2 => match x, y with
  | .int i, .int j => if okR i = true ∧ okR j = true then .ok { ws := rngR i j } s2 else .no
  | _, _ => .no
theorem mi_revR2 {tg : Expr} {p p2 pos2 : Pos} (hg : Gl X "reversed") (hm : X.mg "reversed" = none) (hg2 : Gl X "range") (hm2 : X.mg "range" = none) (ha : ME X Γ W a f) (hb : ME X Γ W b g)
    (na : starEach [a, b] X.env = (false, eval a X.env) :: starEach [b] X.env := by rfl) (nb : starEach [b] X.env = (false, eval b X.env) :: starEach [] X.env := by rfl) (hp : (backTo pos2 (starEach [b] X.env)).any (·.1) = false := by rfl)
    (nc : starEach [.Call (.Name "range" p2) [a, b] [] pos2] X.env = (false, eval (.Call (.Name "range" p2) [a, b] [] pos2) X.env) :: starEach [] X.env := by rfl) :
    MI X Γ W tg (.Call (.Name "reversed" p) [.Call (.Name "range" p2) [a, b] [] pos2] [] pos) (iRevR2 f g) :=
  PI.imp (pi_revR hg hm (prg_2 hg2 hm2 ha hb na nb hp) nc) fun σ H R ⟨μ, Z, ρ, s, hE, hR, q⟩ => by
    refine iI hE hR q fun x s1 u H1 μ1 e1 E1 R1 r1 q1 => ?_
    refine iI E1 R1 q1 fun y s2 v H2 μ2 e2 E2 R2 r2 q2 => ?_
    have rx := r1.mono e2
    cases x with
    | int i =>
      cases y with
      | int j =>
        replace q2 : PostI Γ W H2 μ2 Z σ R (if okR i = true ∧ okR j = true then .ok { ws := rngR i j } s2 else .no) := q2
        split at q2
        · rename_i hc
          have hi : -(2 ^ 62) ≤ i ∧ i < 2 ^ 62 := of_decide_eq_true hc.1
          have hj : -(2 ^ 62) ≤ j ∧ j < 2 ^ 62 := of_decide_eq_true hc.2
          exact ⟨i, j, rx, r2, hi.1, hi.2, hj.1, hj.2, q2 _ _ _ .refl R2 walk_rc⟩
        · exact q2.elim
      | _ => exact q2.elim
    | _ => exact q2.elim
def inDD (neg : Bool) : O2 := fun s x y => match dctOf s y, keyOf x with
  | some kws, some k => some (.bl (if neg then !(valD kws k).isSome else (valD kws k).isSome))
  | _, _ => none
def rInDct (neg : Bool) : R2 := fun x y H Q => ∃ a o, y = .ref a ∧ DGet H a x o ∧ Q (.bl (if neg then !o.isSome else o.isSome)) H
theorem op_inDct (hu : X.A.units + 64 < cLine) : OpR X (compareOp .In) (rInDct false) := by
  rintro pins s σ H x y v u Q I rx ry ⟨a, o, rfl, g, q⟩
  obtain rfl : u = Value.ref a := ry
  exact d_in (by omega) I g rx fun s' I' => ⟨.bl _, H, I', rfl, q⟩
theorem valD_some {H : Hp} {μ : Mu} {Z : Zs} {k : Key} : ∀ {kws : List (Key × Dv)} {kvs : List (Key × V)}, kvs.map (·.1) = kws.map (·.1) → (valV kvs k).isSome = (valD kws k).isSome
  | [], kvs, h => by
    cases kvs with
    | nil => rfl
    | cons _ _ => cases h
  | p :: kws, [], h => by cases h
  | p :: kws, q :: kvs, h => by
    obtain ⟨h1, h2⟩ := List.cons.inj h
    by_cases hk : p.1 = k
    · have e1 : valD (p :: kws) k = some p.2 := by simp [valD, List.find?_cons, hk]
      rw [e1, valV_pos (show q.1 = k from h1.trans hk)]
      rfl
    · have e1 : valD (p :: kws) k = valD kws k := by simp [valD, List.find?_cons, hk]
      rw [e1, valV_neg (show ¬ q.1 = k from fun z => hk (h1.symm.trans z))]
      exact valD_some (H := H) (μ := μ) (Z := Z) h2
theorem sInDct {neg : Bool} : Op2 Γ (rInDct neg) (inDD neg) := fun H μ Z s x y w u v Q hR r1 r2 e k => by
  unfold inDD at e
  split at e
  · rename_i kws kk h1 h2
    cases e
    obtain ⟨n, rfl, hn⟩ : ∃ n, y = .ref n ∧ s[n]? = some (.dct kws) := by
      unfold dctOf at h1
      split at h1
      · rename_i n
        split at h1
        · rename_i z q
          cases h1
          exact ⟨n, rfl, q⟩
        · cases h1
      · cases h1
    obtain ⟨p, g1, g2⟩ := r2
    obtain ⟨p', k1, _, kvs, k3, k4, k5⟩ := hR.at n _ hn
    rw [g2] at k1
    cases k1
    have hk := keyOf_ok r1 h2
    refine ⟨p, valV kvs kk, g1, hk ▸ DGet.k k3, ?_⟩
    rw [valD_some (H := H) (μ := μ) (Z := Z) k4]
    exact k _ H .refl hR rfl
  · cases e
/-- the first place of an int -/
def firstI (i : Int) : Nat → List Dv → Option Nat
  | _, [] => none
  | k, .int j :: ws => if j = i then some k else firstI i (k + 1) ws
  | _, _ :: _ => none
def allInt : List Dv → Bool
  | [] => true
  | .int _ :: ws => allInt ws
  | _ :: _ => false
def mIndex (f g : FE) : FE := fun ρ s => (f ρ s).bind fun x s1 => match lstOrSq s1 x with
  | none => .no
  | some _ => (g ρ s1).bind fun y s2 => match lstOrSq s2 x, y with
    | some ws, .int i => if allInt ws = true then match firstI i 0 ws with
        | some k => .ok (.int k) s2
        | none => .no
      else .no
    | _, _ => .no
theorem first_spec {H : Hp} {μ : Mu} {Z : Zs} {i : Int} : ∀ {ws : List Dv} {xs : List V} {k j : Nat}, RVs Γ H μ Z ws xs → allInt ws = true → firstI i k ws = some j → k ≤ j ∧ xs[j - k]? = some (.int i) ∧ (∀ (m : Nat) (z : V), m < j - k → xs[m]? = some z → eqV z (.int i) = false)
  | [], _, _, _, _, _, h => by cases h
  | w :: ws, _, k, j, r, ha, h => by
    obtain ⟨x, xs, rfl, r1, r2⟩ := r
    cases w with
    | int n =>
      obtain rfl : x = .int n := r1
      unfold firstI at h
      split at h
      · rename_i hn
        cases h
        subst hn
        exact ⟨Nat.le_refl _, by rw [Nat.sub_self]; rfl, fun m z hm => absurd hm (by omega)⟩
      · rename_i hn
        obtain ⟨h1, h2, h3⟩ := first_spec (k := k + 1) r2 ha h
        refine ⟨by omega, ?_, fun m z hm hz => ?_⟩
        · rw [show j - k = (j - (k + 1)) + 1 by omega, List.getElem?_cons_succ]
          exact h2
        · cases m with
          | zero =>
            cases hz
            show (n == i) = false
            exact beq_eq_false_iff_ne.mpr hn
          | succ m =>
            rw [List.getElem?_cons_succ] at hz
            exact h3 m z (by omega) hz
    | _ => cases ha
theorem flat_ints {H : Hp} {μ : Mu} {Z : Zs} : ∀ {ws : List Dv} {xs : List V}, RVs Γ H μ Z ws xs → allInt ws = true → xs.all flatV = true
  | [], _, r, _ => by rw [show _ = [] from r]; rfl
  | w :: ws, _, r, ha => by
    obtain ⟨x, xs, rfl, r1, r2⟩ := r
    cases w with
    | int n =>
      obtain rfl : x = .int n := r1
      rw [List.all_cons, flat_ints r2 ha]
      rfl
    | _ => cases ha
theorem me_index (hK : Γ.K = X.K) (h : PE X e (tBM Γ.K "list" (rIndex X.K) (rdE Γ W f) (tCons (rdE Γ W g) tNil))) : ME X Γ W e (mIndex f g) :=
  PE.imp h fun σ H Q ⟨μ, Z, ρ, s, hE, hR, q⟩ => eE hE hR q fun x s1 u H1 μ1 e1 hE1 R1 r1 q1 => by
    cases e0 : lstOrSq s1 x with
    | none => rw [e0] at q1; exact q1.elim
    | some ws0 =>
      rw [e0] at q1
      dsimp only at q1
      obtain ⟨p, xs, h1, h2, h3⟩ := lstOrSq_ok R1 r1 e0
      subst h1
      refine ⟨.inl ⟨rfl, xs, h2⟩, ?_⟩
      refine eE hE1 R1 q1 fun y s2 v H2 μ2 e2 hE2 R2 r2 q2 => ?_
      cases e3 : lstOrSq s2 x with
      | none => rw [e3] at q2; exact q2.elim
      | some ws =>
        rw [e3] at q2
        cases y with
        | int i =>
          replace q2 : PostE Γ W H2 μ2 Z σ Q (if allInt ws = true then match firstI i 0 ws with
              | some k => .ok (.int k) s2
              | none => .no
            else .no) := q2
          split at q2
          · rename_i ha
            cases e4 : firstI i 0 ws with
            | none => rw [e4] at q2; exact q2.elim
            | some k =>
              rw [e4] at q2
              obtain ⟨p', ys, k1, k2, k3⟩ := lstOrSq_ok R2 (r1.mono e2) e3
              obtain ⟨f1, f2, f3⟩ := first_spec k3 ha e4
              rw [Nat.sub_zero] at f2 f3
              cases k1
              exact ⟨p, ys, .int i, k, .int i, rfl, by rw [show v = .int i from r2], hK ▸ k2, rfl, flat_ints k3 ha, f2, (by show (i == i) = true; exact beq_self_eq_true i), f3, q2 _ H2 μ2 .refl R2 rfl⟩
          · exact q2.elim
        | _ => exact q2.elim
/-- {} that is written to -/
def mDctM0 : FE := fun _ s => .ok (.ref s.length) (s ++ [.dct []])
theorem me_dctM0 : ME X Γ W (.Dict [] [] pos) mDctM0 :=
  PE.imp pe_dnewK fun σ H Q ⟨μ, Z, ρ, s, hE, hR, q⟩ p hp => by
    have ev : Evo H μ (upd H p (.dK [])) (MP.ext μ s.length p) := Evo.ext hp hR.mu_new
    exact q (.ref p) _ _ ev (hR.push hp ⟨[], upd_same, rfl, rfl⟩) ⟨p, rfl, by unfold MP.ext; rw [if_pos rfl]⟩
end
end MP
set_option Elab.async false
set_option linter.all false
set_option maxRecDepth 100000
set_option maxHeartbeats 4000000
namespace MP
open PySem PySem.Spec PyProof.Rows L2
end MP
set_option Elab.async false
set_option linter.all false
set_option maxRecDepth 100000
set_option maxHeartbeats 4000000
namespace MP
open PySem PySem.Spec PyProof.Rows L2
end MP
set_option Elab.async false
set_option linter.all false
set_option maxRecDepth 100000
set_option maxHeartbeats 4000000
namespace MP
open PySem PySem.Spec PyProof.Rows L2
section
variable {X : Cx} {Γ : Ct} {W : WX}
def anyD (neg : Bool) (d : PyData) (ds : List PyData) : Bool := if neg = true then !(ds.any fun z => PyData.eqv z d) else ds.any fun z => PyData.eqv z d
def inT (neg : Bool) : O2 := fun s x y => match toD s x, toD s y with
  | some d, some (.tuple ds) => if SeqAt.shaped d = true ∧ SeqAt.shaped (.tuple ds) = true ∧ d.depth ≤ 60 then some (.bl (anyD neg d ds)) else none
  | _, _ => none
end
end MP
set_option Elab.async false
set_option linter.all false
set_option maxRecDepth 100000
set_option maxHeartbeats 4000000
namespace MP
open PySem PySem.Spec PyProof.Rows L2
section
variable {X : Cx} {Γ : Ct} {pins : List (Addr × Obj)} {σ : L2.St} {H : Hp} {s : Shared} {μ : Mu} {Z : Zs}
mutual
theorem nk_ok (I : Inv X pins σ H s) (hK : Γ.K = X.K) : ∀ (w : Dv) {v : V} {u : Value} {k : NestedKey}, RV Γ H μ Z w v → L2.RelV v u → nk w = some k → NestedIs s.heap k u
  | .int i, _, _, _, r, ru, e => by cases e; rw [show _ = _ from r] at ru; obtain ⟨t, rfl⟩ := ru; exact NestedIs.int i t
  | .tup ws, _, _, _, r, ru, e => by
    obtain ⟨a, xs, rfl, h2, h3⟩ := r
    cases ru
    unfold nk at e
    cases q : nks ws with
    | none => rw [q] at e; cases e
    | some ks =>
      rw [q] at e
      cases e
      have hs := h2.sq
      rw [hK] at hs
      obtain ⟨its, rv, ⟨o, ho, hc, n, hd⟩, _⟩ := I.tuple hs
      exact NestedIs.tup ho hc hd (by rw [List.toList_toArray]; exact nks_ok I hK ws h3 rv q)
  | .non, _, _, _, _, _, e => by cases e
  | .bl _, _, _, _, _, _, e => by cases e
  | .str _, _, _, _, _, _, e => by cases e
  | .ty _, _, _, _, _, _, e => by cases e
  | .cl _, _, _, _, _, _, e => by cases e
  | .ref _, _, _, _, _, _, e => by cases e
  | .lst _, _, _, _, _, _, e => by cases e
  | .sq _, _, _, _, _, _, e => by cases e
  | .dct _ _, _, _, _, _, _, e => by cases e
  | .dtt _ _, _, _, _, _, _, e => by cases e
  | .exc _ _ _, _, _, _, _, _, e => by cases e
  | .exn _, _, _, _, _, _, e => by cases e
  | .clo _ _ _ _ _, _, _, _, _, _, e => by cases e
theorem nks_ok (I : Inv X pins σ H s) (hK : Γ.K = X.K) : ∀ (ws : List Dv) {vs : List V} {us : List Value} {ks : List NestedKey}, RVs Γ H μ Z ws vs → Vals vs us → nks ws = some ks → NestedAll s.heap ks us
  | [], _, _, _, r, rv, e => by
    cases e
    rw [show _ = [] from r] at rv
    cases rv
    exact .nil
  | w :: ws, _, _, _, r, rv, e => by
    obtain ⟨x, xs, rfl, h2, h3⟩ := r
    unfold nks at e
    split at e
    · rename_i k ks q1 q2
      cases e
      cases rv with
      | cons ru rn => exact .cons (nk_ok I hK w h2 ru q1) (nks_ok I hK ws h3 rn q2)
    · cases e
end
mutual
theorem hash_any {w w' : World} : ∀ (d : Dv) {k : NestedKey}, nk d = some k → k.hash w = k.hash w'
  | .int i, _, e => by cases e; rfl
  | .tup ws, _, e => by
    unfold nk at e
    cases q : nks ws with
    | none => rw [q] at e; cases e
    | some ks =>
      rw [q] at e
      cases e
      show reduceHash (Builtin.Tuple.tupleHashOf (NestedKey.hashes w ks)) = reduceHash (Builtin.Tuple.tupleHashOf (NestedKey.hashes w' ks))
      rw [hashes_any ws q]
  | .non, _, e => by cases e
  | .bl _, _, e => by cases e
  | .str _, _, e => by cases e
  | .ty _, _, e => by cases e
  | .cl _, _, e => by cases e
  | .ref _, _, e => by cases e
  | .lst _, _, e => by cases e
  | .sq _, _, e => by cases e
  | .dct _ _, _, e => by cases e
  | .dtt _ _, _, e => by cases e
  | .exc _ _ _, _, e => by cases e
  | .exn _, _, e => by cases e
  | .clo _ _ _ _ _, _, e => by cases e
theorem hashes_any {w w' : World} : ∀ (ds : List Dv) {ks : List NestedKey}, nks ds = some ks → NestedKey.hashes w ks = NestedKey.hashes w' ks
  | [], _, e => by cases e; rfl
  | d :: ds, _, e => by
    unfold nks at e
    split at e
    · rename_i k ks q1 q2
      cases e
      show NestedKey.hash w k :: NestedKey.hashes w ks = NestedKey.hash w' k :: NestedKey.hashes w' ks
      rw [hash_any d q1, hashes_any ds q2]
    · cases e
end
abbrev R3 (p : NestedKey × V × V) (q : NestedKey × Addr × Value) : Prop := p.1 = q.1 ∧ p.2.1 = .ref q.2.1 ∧ RelV p.2.2 q.2.2
/-- what stands at a, as the library tells it -/
theorem dt_obj (I : Inv X pins σ H s) (hK : Γ.K = X.K) {a : Addr} {kvs : List (NestedKey × V × V)} (hd : Rd H a (DTO a kvs)) : ∀ {kd ws : List Dv}, KVs kd ws kvs → RVs Γ H μ Z kd (kvs.map (·.2.1)) →
    (a == sysModules) = false ∧ kvs.length ≤ sizeLine ∧ (∀ p ∈ kvs, p.1.depth ≤ 8) ∧ ∃ xs, Paired R3 kvs xs ∧ s.heap.DictOfH (nestedKind X.prog X.w) a xs := by
  intro kd ws hk rk
  obtain ⟨⟨h1, h2, h8, xs, h3, o, es, ep, h4, h5, h6, h7, h9⟩, _⟩ := (show ObjOk X.prog X.w H s.heap a (DTO a kvs) from hd.ok I.hok)
  refine ⟨h1, h2, h8, xs, h3, o, es, ep, h4, h5, h6, h7 _ _, ?_, h9⟩
  have key : ∀ {kd : List Dv} {kvs : List (NestedKey × V × V)} {xs : List (NestedKey × Addr × Value)}, Paired R3 kvs xs → kd.map nk = kvs.map (fun p => some p.1) → RVs Γ H μ Z kd (kvs.map (·.2.1)) → (∀ p ∈ kvs, p.1.depth ≤ 8) → ∀ x ∈ xs, (nestedKind X.prog X.w).is s.heap x.1 x.2.1 := by
    intro kd kvs xs p
    induction p generalizing kd with
    | nil => intro _ _ _ x hx; cases hx
    | @cons p q ps qs h t ih =>
      intro e r d x hx
      cases kd with
      | nil => cases e
      | cons w kd =>
        obtain ⟨e1, e2⟩ := List.cons.inj e
        obtain ⟨y, ys, r0, r1, r2⟩ := r
        obtain ⟨r3, r4⟩ := List.cons.inj r0
        subst r3 r4
        rcases List.mem_cons.mp hx with rfl | hx
        · obtain ⟨g1, g2, g3⟩ := h
          have g2' : L2.RelV p.2.1 (.ref x.2.1) := by rw [g2]; rfl
          have e1' : nk w = some x.1 := by rw [← g1]; exact e1
          refine ⟨nk_ok I hK w r1 g2' e1', ?_⟩
          rw [← g1]
          exact d p List.mem_cons_self
        · exact ih e2 r2 (fun z hz => d z (List.mem_cons_of_mem _ hz)) x hx
  exact key h3 hk.1 rk h8
def valT (kws : List (Dv × Dv)) (k : NestedKey) : Option Dv := (kws.find? fun p => decide (nk p.1 = some k)).map (·.2)
def putT (kws : List (Dv × Dv)) (y : Dv) (k : NestedKey) (w : Dv) : List (Dv × Dv) :=
  if (kws.any fun p => decide (nk p.1 = some k)) = true then kws.map (fun p => if nk p.1 = some k then (p.1, w) else p) else kws ++ [(y, w)]
def putV (kvs : List (NestedKey × V × V)) (k : NestedKey) (y v : V) : List (NestedKey × V × V) :=
  if (kvs.any fun p => decide (p.1 = k)) = true then kvs.map (fun p => if p.1 = k then (p.1, p.2.1, v) else p) else kvs ++ [(k, y, v)]
theorem any_T {k : NestedKey} : ∀ {kd : List Dv} {kvs : List (NestedKey × V × V)}, kd.map nk = kvs.map (fun p => some p.1) → (kvs.any fun p => decide (p.1 = k)) = kd.any fun d => decide (nk d = some k)
  | [], [], _ => rfl
  | d :: kd, p :: kvs, h => by
    obtain ⟨h1, h2⟩ := List.cons.inj h
    have h1' : nk d = some p.1 := h1
    rw [List.any_cons, List.any_cons, any_T h2, h1']
    congr 1
    by_cases e : p.1 = k
    · rw [decide_eq_true e, decide_eq_true (by rw [e])]
    · rw [decide_eq_false e, decide_eq_false fun z => e (Option.some.inj z)]
  | [], _ :: _, h => by cases h
  | _ :: _, [], h => by cases h
theorem map_T {k : NestedKey} {w : Dv} {v : V} (rw' : RV Γ H μ Z w v) : ∀ {kws : List (Dv × Dv)} {kvs : List (NestedKey × V × V)}, (kws.map (·.1)).map nk = kvs.map (fun p => some p.1) → RVs Γ H μ Z (kws.map (·.1)) (kvs.map (·.2.1)) → RVs Γ H μ Z (kws.map (·.2)) (kvs.map (·.2.2)) →
    ((kws.map fun p => if nk p.1 = some k then (p.1, w) else p).map (·.1)) = kws.map (·.1) ∧ (kvs.map fun p => if p.1 = k then (p.1, p.2.1, v) else p).map (fun p => some p.1) = kvs.map (fun p => some p.1) ∧ (kvs.map fun p => if p.1 = k then (p.1, p.2.1, v) else p).map (·.2.1) = kvs.map (·.2.1) ∧
      RVs Γ H μ Z ((kws.map fun p => if nk p.1 = some k then (p.1, w) else p).map (·.2)) ((kvs.map fun p => if p.1 = k then (p.1, p.2.1, v) else p).map (·.2.2))
  | [], [], _, _, r => ⟨rfl, rfl, rfl, rfl⟩
  | q :: kws, p :: kvs, h, rk, r => by
    obtain ⟨h1, h2⟩ := List.cons.inj h
    obtain ⟨y, ys, r0, r1, r2⟩ := r
    obtain ⟨r3, r4⟩ := List.cons.inj r0
    subst r3 r4
    obtain ⟨z, zs, k0, k1, k2⟩ := rk
    obtain ⟨k3, k4⟩ := List.cons.inj k0
    subst k3 k4
    obtain ⟨i1, i2, i3, i4⟩ := map_T (k := k) rw' h2 k2 r2
    have h1' : nk q.1 = some p.1 := h1
    by_cases e : p.1 = k
    · have e' : nk q.1 = some k := by rw [h1', e]
      have m1 : ((q :: kws).map fun p => if nk p.1 = some k then (p.1, w) else p) = (q.1, w) :: kws.map fun p => if nk p.1 = some k then (p.1, w) else p := by rw [List.map_cons, if_pos e']
      have m2 : ((p :: kvs).map fun p => if p.1 = k then (p.1, p.2.1, v) else p) = (p.1, p.2.1, v) :: kvs.map fun p => if p.1 = k then (p.1, p.2.1, v) else p := by rw [List.map_cons, if_pos e]
      rw [m1, m2]
      exact ⟨by rw [List.map_cons, List.map_cons, i1], by rw [List.map_cons, List.map_cons, i2], by rw [List.map_cons, List.map_cons, i3], RVs.cons rw' i4⟩
    · have e' : ¬ nk q.1 = some k := fun z => e (Option.some.inj (h1.symm.trans z))
      have m1 : ((q :: kws).map fun p => if nk p.1 = some k then (p.1, w) else p) = q :: kws.map fun p => if nk p.1 = some k then (p.1, w) else p := by rw [List.map_cons, if_neg e']
      have m2 : ((p :: kvs).map fun p => if p.1 = k then (p.1, p.2.1, v) else p) = p :: kvs.map fun p => if p.1 = k then (p.1, p.2.1, v) else p := by rw [List.map_cons, if_neg e]
      rw [m1, m2]
      exact ⟨by rw [List.map_cons, List.map_cons, i1], by rw [List.map_cons, List.map_cons, i2], by rw [List.map_cons, List.map_cons, i3], RVs.cons r1 i4⟩
  | [], _ :: _, h, _, _ => by cases h
  | _ :: _, [], h, _, _ => by cases h
theorem putT_ok {k : NestedKey} {y w : Dv} {vy v : V} {kws : List (Dv × Dv)} {kvs : List (NestedKey × V × V)} (hy : nk y = some k) (ry : RV Γ H μ Z y vy) (rw' : RV Γ H μ Z w v) (h : KVs (kws.map (·.1)) (kws.map (·.2)) kvs) (rk : RVs Γ H μ Z (kws.map (·.1)) (kvs.map (·.2.1))) (r : RVs Γ H μ Z (kws.map (·.2)) (kvs.map (·.2.2))) :
    KVs ((putT kws y k w).map (·.1)) ((putT kws y k w).map (·.2)) (putV kvs k vy v) ∧ RVs Γ H μ Z ((putT kws y k w).map (·.1)) ((putV kvs k vy v).map (·.2.1)) ∧ RVs Γ H μ Z ((putT kws y k w).map (·.2)) ((putV kvs k vy v).map (·.2.2)) := by
  have ha : (kvs.any fun p => decide (p.1 = k)) = kws.any fun p => decide (nk p.1 = some k) := by
    rw [any_T h.1, List.any_map]
    rfl
  have hl : kws.length = kvs.length := by
    have := h.2
    rwa [List.length_map] at this
  unfold putT putV
  rw [ha]
  split
  · obtain ⟨i1, i2, i3, i4⟩ := map_T (k := k) rw' h.1 rk r
    refine ⟨⟨by rw [i1, i2]; exact h.1, by rw [List.length_map, List.length_map, List.length_map]; exact hl⟩, by rw [i1, i3]; exact rk, i4⟩
  · refine ⟨⟨?_, by rw [List.length_map, List.length_append, List.length_append, hl]; rfl⟩, ?_, ?_⟩
    · rw [List.map_append, List.map_append, List.map_append, h.1]
      show _ ++ [nk y] = _ ++ [some k]
      rw [hy]
    · rw [List.map_append, List.map_append]
      exact rk.append (RVs.cons ry rfl)
    · rw [List.map_append, List.map_append]
      exact r.append (RVs.cons rw' rfl)
theorem putV_st {k : NestedKey} {b : Addr} {v : V} {u : Value} (ru : RelV v u) {kvs : List (NestedKey × V × V)} {xs : List (NestedKey × Addr × Value)} (h : Paired R3 kvs xs) : Paired R3 (putV kvs k (.ref b) v) (storedH xs k b u) := by
  have e : (kvs.any fun p => decide (p.1 = k)) = (atKey xs k).isSome := by
    induction h with
    | nil => rfl
    | @cons p q ps qs g t ih =>
      rw [List.any_cons, ih]
      by_cases e : p.1 = k
      · have e' : q.1 = k := g.1.symm.trans e
        rw [decide_eq_true e]
        simp [atKey, List.find?_cons, e']
      · have e' : ¬ q.1 = k := fun z => e (g.1.trans z)
        rw [decide_eq_false e]
        simp [atKey, List.find?_cons, e']
  unfold putV storedH
  rw [e]
  split
  · rename_i hq
    clear e hq
    induction h with
    | nil => exact .nil
    | @cons p q ps qs g t ih =>
      rw [List.map_cons, List.map_cons]
      refine .cons ?_ ih
      obtain ⟨g1, g2, g3⟩ := g
      unfold putAt
      by_cases e : p.1 = k
      · rw [if_pos e, if_pos (g1.symm.trans e)]
        exact ⟨g1, g2, ru⟩
      · rw [if_neg e, if_neg fun z => e (g1.trans z)]
        exact ⟨g1, g2, g3⟩
  · exact Paired.snoc h ⟨rfl, rfl, ru⟩
theorem putV_len (kvs : List (NestedKey × V × V)) (k : NestedKey) (y v : V) : (putV kvs k y v).length ≤ kvs.length + 1 := by
  unfold putV
  split
  · rw [List.length_map]; omega
  · rw [List.length_append]; exact Nat.le_refl _
theorem putV_mem {kvs : List (NestedKey × V × V)} {k : NestedKey} {y v : V} {p : NestedKey × V × V} (h : p ∈ putV kvs k y v) : p.1 = k ∨ ∃ q ∈ kvs, p.1 = q.1 := by
  unfold putV at h
  split at h
  · obtain ⟨q, hq, rfl⟩ := List.mem_map.mp h
    by_cases e : q.1 = k
    · rw [if_pos e]; exact .inl e
    · rw [if_neg e]; exact .inr ⟨q, hq, rfl⟩
  · rcases List.mem_append.mp h with h | h
    · exact .inr ⟨p, h, rfl⟩
    · rw [List.mem_singleton.mp h]; exact .inl rfl
end
end MP
set_option Elab.async false
set_option linter.all false
set_option maxRecDepth 100000
set_option maxHeartbeats 4000000
namespace MP
open PySem PySem.Spec PyProof.Rows L2
section
variable {X : Cx} {Γ : Ct} {W : WX} {pins : List (Addr × Obj)} {σ : L2.St} {H : Hp} {s : Shared} {μ : Mu} {Z : Zs}
def lookV (kvs : List (NestedKey × V × V)) (k : NestedKey) : Option V := (kvs.find? fun p => decide (p.1 = k)).map (·.2.2)
theorem valT_v {k : NestedKey} {w : Dv} : ∀ {kws : List (Dv × Dv)} {kvs : List (NestedKey × V × V)}, (kws.map (·.1)).map nk = kvs.map (fun p => some p.1) → RVs Γ H μ Z (kws.map (·.2)) (kvs.map (·.2.2)) → valT kws k = some w → ∃ v, lookV kvs k = some v ∧ RV Γ H μ Z w v
  | [], kvs, _, _, e => by cases e
  | q :: kws, [], h, _, e => by cases h
  | q :: kws, p :: kvs, h, r, e => by
    obtain ⟨h1, h2⟩ := List.cons.inj h
    have h1' : nk q.1 = some p.1 := h1
    obtain ⟨y, ys, r0, r1, r2⟩ := r
    obtain ⟨r3, r4⟩ := List.cons.inj r0
    subst r3 r4
    by_cases hk : p.1 = k
    · have e1 : valT (q :: kws) k = some q.2 := by simp [valT, List.find?_cons, h1', hk]
      rw [e1] at e
      cases e
      exact ⟨p.2.2, by simp [lookV, List.find?_cons, hk], r1⟩
    · have e1 : valT (q :: kws) k = valT kws k := by simp [valT, List.find?_cons, h1', hk]
      rw [e1] at e
      obtain ⟨v, k1, k2⟩ := valT_v h2 r2 e
      exact ⟨v, by rw [← k1]; simp [lookV, List.find?_cons, hk], k2⟩
theorem lookV_at {k : NestedKey} {v : V} : ∀ {kvs : List (NestedKey × V × V)} {xs : List (NestedKey × Addr × Value)}, Paired R3 kvs xs → lookV kvs k = some v → ∃ p, atKey xs k = some p ∧ RelV v p.2
  | _, _, .nil, e => by cases e
  | p :: kvs, x :: xs, .cons g t, e => by
    obtain ⟨g1, g2, g3⟩ := g
    by_cases hk : p.1 = k
    · have e1 : lookV (p :: kvs) k = some p.2.2 := by simp [lookV, List.find?_cons, hk]
      rw [e1] at e
      cases e
      exact ⟨x.2, by simp [atKey, List.find?_cons, g1.symm.trans hk], g3⟩
    · have e1 : lookV (p :: kvs) k = lookV kvs k := by simp [lookV, List.find?_cons, hk]
      rw [e1] at e
      have hx : ¬ x.1 = k := fun z => hk (g1.trans z)
      obtain ⟨p', k1, k2⟩ := lookV_at t e
      exact ⟨p', by rw [← k1]; simp [atKey, List.find?_cons, hx], k2⟩
def dttOf (s : Sto) : Dv → Option (List (Dv × Dv))
  | .ref n => match s[n]? with
    | some (.dtt _ kws) => some kws
    | _ => none
  | .dtt kd ws => some (kd.zip ws)
  | _ => none
def nkT : Dv → Option NestedKey
  | .tup ws => match nk (.tup ws) with
    | some k => if k.depth ≤ 8 then some k else none
    | none => none
  | _ => none
theorem nkT_ok {y : Dv} {k : NestedKey} (h : nkT y = some k) : (∃ ws, y = .tup ws) ∧ nk y = some k ∧ k.depth ≤ 8 := by
  unfold nkT at h
  split at h
  · rename_i ws
    split at h
    · rename_i k' e
      split at h
      · cases h; exact ⟨⟨ws, rfl⟩, e, by assumption⟩
      · cases h
    · cases h
  · cases h
theorem zip_fst : ∀ {kd ws : List Dv}, ws.length = kd.length → (kd.zip ws).map (·.1) = kd ∧ (kd.zip ws).map (·.2) = ws
  | [], [], _ => ⟨rfl, rfl⟩
  | a :: kd, b :: ws, h => by
    obtain ⟨h1, h2⟩ := zip_fst (kd := kd) (ws := ws) (by simpa using h)
    exact ⟨by rw [List.zip_cons_cons, List.map_cons, h1], by rw [List.zip_cons_cons, List.map_cons, h2]⟩
  | [], _ :: _, h => by cases h
  | _ :: _, [], h => by cases h
theorem dttOf_ok {st : Sto} {w : Dv} {v : V} {kws : List (Dv × Dv)} (hR : Rep Γ H μ Z st) (r : RV Γ H μ Z w v) (e : dttOf st w = some kws) :
    ∃ a kvs, v = .ref a ∧ Rd H a (DTO a kvs) ∧ KVs (kws.map (·.1)) (kws.map (·.2)) kvs ∧ RVs Γ H μ Z (kws.map (·.1)) (kvs.map (·.2.1)) ∧ RVs Γ H μ Z (kws.map (·.2)) (kvs.map (·.2.2)) := by
  unfold dttOf at e
  split at e
  · split at e
    · rename_i q
      cases e
      obtain ⟨a, h1, h2⟩ := r
      obtain ⟨b, h3, _, kvs, h4, h5, h6, h7⟩ := hR.at _ _ q
      rw [h2] at h3
      cases h3
      exact ⟨a, kvs, h1, h4.rd, h5, h6, h7⟩
    · cases e
  · cases e
    obtain ⟨a, kvs, h1, h2, h3, h4, h5, h6⟩ := r
    have hl := h4.2
    have hk := congrArg List.length h4.1
    rw [List.length_map, List.length_map] at hk
    obtain ⟨z1, z2⟩ := zip_fst (hl.trans hk.symm)
    exact ⟨a, kvs, h1, h2.rd, by rw [z1, z2]; exact h4, by rw [z1]; exact h5, by rw [z2]; exact h6⟩
  · cases e
def ixDT : O2 := fun s x y => match dttOf s x, nkT y with
  | some kws, some k => valT kws k
  | _, _ => none
def rGetT (Γ : Ct) : R2 := fun x y H Q => ∃ (μ : Mu) (Z : Zs) (a b : Addr) (kvs : List (NestedKey × V × V)) (kd ws : List Dv) (wy : Dv) (k : NestedKey) (v : V), x = .ref a ∧ y = .ref b ∧ Rd H a (DTO a kvs) ∧ KVs kd ws kvs ∧ RVs Γ H μ Z kd (kvs.map (·.2.1)) ∧
  RV Γ H μ Z wy y ∧ nk wy = some k ∧ k.depth ≤ 8 ∧ lookV kvs k = some v ∧ Q v H
theorem sGetT : Op2 Γ (rGetT Γ) ixDT := fun H μ Z st x y w u v Q hR r1 r2 e k => by
  unfold ixDT at e
  split at e
  · rename_i kws kk q1 q2
    obtain ⟨a, kvs, h1, h2, h3, h4, h5⟩ := dttOf_ok hR r1 q1
    obtain ⟨⟨ws, rfl⟩, e2, e3⟩ := nkT_ok q2
    obtain ⟨v', g1, g2⟩ := valT_v h3.1 h5 e
    obtain ⟨b, xs, hb, _⟩ := id r2
    exact ⟨μ, Z, a, b, kvs, _, _, .tup ws, kk, v', h1, hb, h2, h3, h4, r2, e2, e3, g1, k _ H .refl hR g2⟩
  · cases e
variable {o i e value : Expr} {pos pos' : Pos} {td ty tv : TE} {f g : FE}
theorem pe_getT (hK : Γ.K = X.K) (hu : X.A.units + 64 < cLine) (ho : PE X o td) (hi : PE X i ty) (hs : NoSl i) : PE X (.Subscript o i pos) (tOp (rGetT Γ) td ty) := by
  refine ⟨fun pins s σ H Q I h => ?_⟩
  refine subD_of PySem.F.slot_dict_getitem.lookup hs (thn (ho.run pins s σ H _ I h) fun u s1 ⟨x, H1, I1, rx, q1⟩ => thn (hi.run pins s1 σ H1 _ I1 q1) fun iv s2 ⟨y, H2, I2, ry, q2⟩ => ?_)
  obtain ⟨μ, Z, a, b, kvs, kd, ws, wy, k, v, rfl, rfl, hd, hk, rk, rwy, ek, dk, hv, q⟩ := q2
  cases rx
  cases ry
  obtain ⟨hsm, hl, h8, xs, hp, dd⟩ := dt_obj I2 hK hd hk rk
  obtain ⟨p, hp1, hp2⟩ := lookV_at hp hv
  refine ⟨dd.typeIs, wpAny_getItem_heap (knd := nestedKind X.prog X.w) (by show X.A.units + 1 + 8 < cLine; omega) ⟨nk_ok I2 hK wy rwy rfl ek, dk⟩ dd hp1 ?_⟩
  exact ⟨v, H2, I2.tok _, hp2, q⟩
theorem me_ixDT (hK : Γ.K = X.K) (hu : X.A.units + 64 < cLine) (ha : ME X Γ W o f) (hb : ME X Γ W i g) (hs : NoSl i) : ME X Γ W (.Subscript o i pos) (mBin ixDT f g) :=
  PE.imp (pe_getT hK hu ha hb hs) fun σ H Q ⟨μ, Z, ρ, s, hE, hR, q⟩ => eE hE hR q fun x s1 u H1 μ1 e1 hE1 R1 r1 q1 => eE hE1 R1 q1 fun y s2 v H2 μ2 e2 hE2 R2 r2 q2 => by
    obtain ⟨w, hw, k⟩ := ofE q2
    exact sGetT H2 μ2 Z s2 x y w u v Q R2 (r1.mono e2) r2 hw k
theorem dtf_stay {a : Addr} {kvs : List (NestedKey × V × V)} : ∀ h1 h2 : Heap, DTf a kvs h1 → (∀ ob, h1.get? a = some ob → h2.get? a = some ob) → DTf a kvs h2 :=
  fun h1 h2 ⟨c1, c2, c3, xs, c4, ob, es, ep, c5, c6⟩ st => ⟨c1, c2, c3, xs, c4, ob, es, ep, st ob c5, c6⟩
/-- the keys are ints and tuples -/
def Plain (kvs : List (NestedKey × V × V)) : Prop := ∀ p ∈ kvs, ∃ d, nk d = some p.1
theorem plain_of {kd ws : List Dv} {kvs : List (NestedKey × V × V)} (h : KVs kd ws kvs) : Plain kvs := fun p hp => by
  have : (some p.1 : Option NestedKey) ∈ kvs.map (fun p => some p.1) := List.mem_map.mpr ⟨p, hp, rfl⟩
  rw [← h.1] at this
  obtain ⟨d, _, hd⟩ := List.mem_map.mp this
  exact ⟨d, hd⟩
theorem dtf_of {P : Program} {w : World} {h : Heap} {a : Addr} {kvs : List (NestedKey × V × V)} {xs : List (NestedKey × Addr × Value)} (c1 : (a == sysModules) = false) (c2 : kvs.length ≤ sizeLine) (c3 : ∀ p ∈ kvs, p.1.depth ≤ 8) (pl : Plain kvs) (c4 : Paired R3 kvs xs)
    (dd : h.DictOfH (nestedKind P w) a xs) : DTf a kvs h ∧ ∃ ob, h.get? a = some ob := by
  obtain ⟨ob, es, ep, g1, g2, g3, g4, g5, g6⟩ := dd
  refine ⟨⟨c1, c2, c3, xs, c4, ob, es, ep, g1, g2, g3, fun P' w' => ?_, g6⟩, ob, g1⟩
  rw [g4]
  refine List.map_congr_left fun x hx => ?_
  have key : ∀ {kvs : List (NestedKey × V × V)} {xs : List (NestedKey × Addr × Value)}, Paired R3 kvs xs → ∀ x ∈ xs, ∃ p ∈ kvs, p.1 = x.1 := by
    intro kvs xs p
    induction p with
    | nil => intro x hx; cases hx
    | @cons p q ps qs hh t ih =>
      intro x hx
      rcases List.mem_cons.mp hx with rfl | hx
      · exact ⟨p, List.mem_cons_self, hh.1⟩
      · obtain ⟨z, z1, z2⟩ := ih x hx
        exact ⟨z, List.mem_cons_of_mem _ z1, z2⟩
  obtain ⟨p, hp, ep'⟩ := key c4 x hx
  obtain ⟨d, hd⟩ := pl p hp
  rw [ep'] at hd
  show (⟨x.1.hash w, .ref x.2.1, x.2.2⟩ : DictEntry) = ⟨x.1.hash w', .ref x.2.1, x.2.2⟩
  rw [hash_any (w := w) (w' := w') d hd]
theorem dto_new {P : Program} {w : World} {H' : Hp} {h : Heap} {a : Addr} {kvs : List (NestedKey × V × V)} (z : DTf a kvs h ∧ ∃ ob, h.get? a = some ob) : ObjOk P w H' h a (DTO a kvs) := ⟨z.1, z.2, dtf_stay⟩
/-- {} -/
def tNewT : TE := fun _ H Q => ∀ p, H p = none → Q (.ref p) (upd H p (DTO p []))
theorem pe_newT : PE X (.Dict [] [] pos) tNewT := by
  refine ⟨fun pins s σ H Q I h => wpAny_Dict_empty ?_⟩
  have new := Heap.DictOfH.new (knd := nestedKind X.prog X.w) s.heap
  refine ⟨.ref s.heap.objs.size, _, I.laid (a := s.heap.objs.size) (o := DTO s.heap.objs.size []) (t' := s.toks) (fun _ _ q => Heap.get?_push_of_some _ q) (Nat.le_refl _) (dto_new (dtf_of ?_ (Nat.zero_le _) (fun p hp => nomatch hp) (fun p hp => nomatch hp) .nil new)), rfl, h _ (I.hok.fresh (Nat.le_refl _))⟩
  exact beq_eq_false_iff_ne.mpr (Ne.symm (Nat.ne_of_lt I.big))
def mDctT0 : FE := fun _ s => .ok (.ref s.length) (s ++ [.dtt false []])
theorem me_dctT0 : ME X Γ W (.Dict [] [] pos) mDctT0 :=
  PE.imp pe_newT fun σ H Q ⟨μ, Z, ρ, s, hE, hR, q⟩ p hp => by
    have ev : Evo H μ (upd H p (DTO p [])) (MP.ext μ s.length p) := Evo.ext hp hR.mu_new
    exact q (.ref p) _ _ ev (hR.push hp ⟨[], (show HD _ p false [] from upd_same), ⟨rfl, rfl⟩, rfl, rfl⟩) ⟨p, rfl, by unfold MP.ext; rw [if_pos rfl]⟩
/-- d[k] = v -/
def sPutT (Γ : Ct) (td ty tv : TE) : TS := fun D σ H => tv σ H fun v H1 => td σ H1 fun x H2 => ty σ H2 fun y H3 => ∃ (μ : Mu) (Z : Zs) (a b : Addr) (kvs : List (NestedKey × V × V)) (kd ws : List Dv) (wy : Dv) (k : NestedKey), x = .ref a ∧ y = .ref b ∧ H3 a = some (DTO a kvs) ∧ KVs kd ws kvs ∧
  RVs Γ H3 μ Z kd (kvs.map (·.2.1)) ∧ RV Γ H3 μ Z wy y ∧ nk wy = some k ∧ k.depth ≤ 8 ∧ kvs.length < sizeLine ∧ D.nx σ (upd H3 a (DTO a (putV kvs k y v)))
theorem ps_putT (hK : Γ.K = X.K) (hu : X.A.units + 64 < cLine) (ho : PE X o td) (hi : PE X i ty) (hv : PE X value tv) (hs : swapsWith value (some (.Subscript o i pos')) pos.line X.env = pure false) : PS X (.Assign [.Subscript o i pos'] value pos) (sPutT Γ td ty tv) := by
  refine ⟨fun pins s σ H D I h => ?_⟩
  refine wpAny_Assign_Subscript (thn (hv.run pins s σ H _ I h) fun r s1 ⟨v, H1, I1, rv, q1⟩ => thn (ho.run pins s1 σ H1 _ I1 q1) fun u s2 ⟨x, H2, I2, rx, q2⟩ => thn (hi.run pins s2 σ H2 _ I2 q2) fun iv s3 ⟨y, H3, I3, ry, q3⟩ => ?_) hs
  obtain ⟨μ, Z, a, b, kvs, kd, ws, wy, k, rfl, rfl, hd, hk, rk, rwy, ek, dk, hl, q⟩ := q3
  cases rx
  cases ry
  obtain ⟨hsm, hl', h8, xs, hp, dd⟩ := dt_obj I3 hK (.inl hd) hk rk
  have hz : xs.length ≤ sizeLine := by rw [← Paired.length hp]; exact hl'
  refine wpAny_setItem_heap (hsz := hz) (knd := nestedKind X.prog X.w) (by show X.A.units + 1 + 8 < cLine; omega) ⟨nk_ok I3 hK wy rwy rfl ek, dk⟩ dd fun h' dd' sb => ?_
  have nw := dtf_of (kvs := putV kvs k (.ref b) v) hsm (by have := putV_len kvs k (.ref b) v; omega) (fun p hp => by
    rcases putV_mem hp with e | ⟨q, hq, e⟩
    · rw [e]; exact dk
    · rw [e]; exact h8 q hq) (fun p hp => by
    rcases putV_mem hp with e | ⟨q, hq, e⟩
    · exact ⟨wy, e ▸ ek⟩
    · obtain ⟨d, hd'⟩ := plain_of hk q hq
      exact ⟨d, e ▸ hd'⟩) (putV_st rv hp) dd'
  exact ⟨σ, _, d_write I3 (by rw [hd]; exact True.intro) sb nw.2 (dto_new nw), q⟩
def mDPutT (fo fi fv : FE) : FS := fun ρ s => (fv ρ s).thenC ρ fun v s1 => (fo ρ s1).thenC ρ fun x s2 => (fi ρ s2).thenC ρ fun y s3 => match x, nkT y with
  | .ref n, some k => match s3[n]? with
    | some (.dtt false kws) => if kws.length < lim then .nx ρ (s3.set n (.dtt false (putT kws y k v))) else .no
    | _ => .no
  | _, _ => .no
theorem ms_putT {fo fi fv : FE} (hK : Γ.K = X.K) (hu : X.A.units + 64 < cLine) (ho : ME X Γ W o fo) (hi : ME X Γ W i fi) (hv : ME X Γ W value fv) (hs : swapsWith value (some (.Subscript o i pos')) pos.line X.env = pure false) : MS X Γ W (.Assign [.Subscript o i pos'] value pos) (mDPutT fo fi fv) :=
  PS.imp (ps_putT hK hu ho hi hv hs) fun D σ H ⟨μ, Z, ρ, s, hE, hR, q⟩ => eS hE hR q fun v s1 uv H1 μ1 e1 hE1 R1 r1 q1 => eS hE1 R1 q1 fun x s2 ux H2 μ2 e2 hE2 R2 r2 q2 => eS hE2 R2 q2 fun y s3 uy H3 μ3 e3 hE3 R3 r3 q3 => by
    split at q3
    · rename_i n k hk
      split at q3
      · rename_i kws q0
        split at q3
        · rename_i hl
          obtain ⟨p, h1, h2⟩ := r2.mono e3
          obtain ⟨p', g1, _, kvs, g3, g4, g5, g6⟩ := R3.at n _ q0
          rw [h2] at g1
          cases g1
          have g3' : H3 p = some (DTO p kvs) := g3
          obtain ⟨⟨ws, rfl⟩, k2, k3⟩ := nkT_ok hk
          obtain ⟨b, xs, hb, _⟩ := id r3
          have rv := (r1.mono e2).mono e3
          obtain ⟨k4, k5, k6⟩ := putT_ok (k := k) k2 r3 rv g4 g5 g6
          have ev : Evo H3 μ3 (upd H3 p (DTO p (putV kvs k uy uv))) μ3 := Evo.put h2
          refine ⟨μ3, Z, p, b, kvs, _, _, .tup ws, k, h1, hb, g3', g4, g5, r3, k2, k3, ?_, ?_⟩
          · have := g4.2
            rw [List.length_map] at this
            rw [← this]
            exact Nat.lt_of_lt_of_le hl (lim_ok (Nat.le_refl _))
          · exact q3 σ _ μ3 ev (R3.put h2 ⟨_, (show HD _ p false _ from upd_same), k4, k5.mono ev, k6.mono ev⟩) (hE3.mono ev)
        · exact q3.elim
      · exact q3.elim
    · exact q3.elim
/-- a dict is handed out, and not written any more -/
def mRetF (f : FE) : FS := fun ρ s => (f ρ s).thenC ρ fun w s1 => match w with
  | .ref n => match s1[n]? with
    | some (.dtt false kws) => .rt w (s1.set n (.dtt true kws))
    | _ => .no
  | _ => .no
theorem ps_retF {te : TE} (he : PE X e te) : PS X (.Return (some e) pos) (fun D σ H => te σ H fun v H1 => ∃ (a : Addr) (u : HO), v = .ref a ∧ H1 a = some u ∧ Mut (some u) ∧ ∀ od, D.rt v (upd H1 a (.frz od u))) := by
  refine ⟨fun pins s σ H D I h => ?_⟩
  refine wpAny_Return_some (thn (he.run pins s σ H _ I h) fun v s1 ⟨x, H1, I1, rx, a, u, ex, ha, mu, q⟩ => ?_)
  obtain ⟨od, I2⟩ := I1.lock ha mu
  exact ⟨x, σ, _, I2, rx, q od⟩
theorem ms_retF (he : ME X Γ W e f) : MS X Γ W (.Return (some e) pos) (mRetF f) :=
  PS.imp (ps_retF he) fun D σ H ⟨μ, Z, ρ, s, hE, hR, q⟩ => eS hE hR q fun w s1 v H1 μ1 e1 hE1 R1 r1 q1 => by
    split at q1
    · rename_i n
      split at q1
      · rename_i kws q0
        obtain ⟨p, h1, h2⟩ := id r1
        obtain ⟨p', g1, _, kvs, g3, g4, g5, g6⟩ := R1.at n _ q0
        rw [h2] at g1
        cases g1
        refine ⟨p, DTO p kvs, h1, g3, True.intro, fun od => ?_⟩
        have ev : Evo H1 μ1 (upd H1 p (.frz od (DTO p kvs))) μ1 := Evo.put h2
        exact q1 v _ μ1 ev (R1.put h2 ⟨kvs, (show HD _ p true kvs from ⟨od, upd_same⟩), g4, g5.mono ev, g6.mono ev⟩) (r1.mono ev)
      · exact q1.elim
    · exact q1.elim
end
end MP
set_option Elab.async false
set_option linter.all false
set_option maxRecDepth 100000
set_option maxHeartbeats 4000000
namespace MP
open PySem PySem.Spec PyProof.Rows L2
section
variable {X : Cx} {Γ : Ct} {W : WX} {pins : List (Addr × Obj)} {σ : L2.St} {H : Hp} {s : Shared} {μ : Mu} {Z : Zs}
theorem frzN {d : Addr} {od : Obj} {kvs : List (NestedKey × V × V)} (I : Inv X pins σ H s) (h : H d = some (.frz od (DTO d kvs))) :
    (d == sysModules) = false ∧ s.heap.get? d = some od ∧ od.ExactDict ∧ ∃ (es : Array DictEntry) (ep : Nat), od.data = .dict es ep ∧ es.size = kvs.length ∧
      ∀ (i : Nat) (p : NestedKey × V × V), kvs[i]? = some p → ∃ en, es[i]? = some en ∧ RelV p.2.1 en.key ∧ RelV p.2.2 en.val := by
  obtain ⟨g0, ⟨g1, g2, g3, xs, g4, ob, es, ep, g5, g6, g7, g8, g9⟩, _⟩ := I.hok d _ h
  rw [g0] at g5
  cases g5
  have he := g8 X.prog X.w
  refine ⟨g1, g0, g6, es, ep, g7, ?_, fun i p e => ?_⟩
  · rw [size_of_entries he, ← Paired.length g4]
  · obtain ⟨x, hx, e1, e2, e3⟩ := paired_get g4 e
    have q := entry_at he i
    rw [hx] at q
    exact ⟨_, q, by rw [e2]; rfl, e3⟩
def Itn (d : Addr) (od : Obj) (kvs : List (NestedKey × V × V)) : It :=
  ⟨fun i H => H d = some (.frz od (DTO d kvs)) ∧ i < kvs.length, fun i H x H' => H' = H ∧ (kvs.map (·.2.1))[i]? = some x, fun i H => H d = some (.frz od (DTO d kvs)) ∧ kvs.length ≤ i⟩
theorem turn_n {P : Program} {w : World} {K : PySem.W.Frag} {tg : Expr} {d : Addr} {od : Obj} {es : Array DictEntry} {ep : Nat} {kvs : List (NestedKey × V × V)} (it : Addr) (hod : od.data = .dict es ep) : Turn P w K tg (Itn d od kvs) [it] it (fun i h => h.IsKeyIter it d i kvs.length ep) where
  mem := List.mem_singleton.mpr rfl
  obj := fun i h st b hb => by
    obtain rfl := List.mem_singleton.mp hb
    obtain ⟨ob, e1, e2, e3⟩ := st
    exact ⟨ob, e1, fun v z => by rw [e3] at z; cases z⟩
  keep := fun i h h' st k => st.at fun ob e => k it (List.mem_singleton.mpr rfl) ob e
  item := by
    intro X hP hw hK hc i pins s σ H E I hf st ⟨hd, hi⟩
    subst hP hw hK
    obtain ⟨a0, a1, a2, a3, a4, a5⟩ := hf it (List.mem_singleton.mpr rfl)
    obtain ⟨_, h0, h1, es', ep', h2, hsz, ent⟩ := frzN I hd
    obtain ⟨rfl, rfl⟩ := dict_ep hod h2
    obtain ⟨p, hp⟩ : ∃ p, kvs[i]? = some p := ⟨_, List.getElem?_eq_getElem hi⟩
    obtain ⟨en, hen, hkey, _⟩ := ent i p hp
    refine next_key_item st h0 h2 hsz hen fun h' st' sb => ?_
    have I1 : Inv X pins σ H { s with heap := h' } := I.turned (t' := s.toks) (fun b ob hb e => (sb.2 b hb).trans e) a0 a1 a3 a4 a5
    obtain ⟨oi, e1, e2, e3⟩ := id st'
    refine ⟨en.key, rfl, go_of (s := { s with heap := h' }) e1 e2 e3 (by decide) ⟨p.2.1, H, I1, hkey, ⟨rfl, ?_⟩, st', fun b hb => (hf b hb).1⟩⟩
    rw [List.getElem?_map, hp]
    rfl
  done := by
    intro X hP hw hK hc i pins s σ H E I hf st ⟨hd, hi⟩
    subst hP hw hK
    obtain ⟨a0, a1, a2, a3, a4, a5⟩ := hf it (List.mem_singleton.mpr rfl)
    obtain ⟨_, h0, h1, es', ep', h2, hsz, ent⟩ := frzN I hd
    obtain ⟨rfl, rfl⟩ := dict_ep hod h2
    exact next_key_end (I.ok.hd hc) st h0 h2 hsz hi fun h' eb => ⟨rfl, I.turned (t' := s.toks) (fun b ob hb e => eb b ob hb e) a0 a1 a3 a4 a5⟩
  self := fun A i s Q E st h => by
    refine wpAny_pyIter_slot st.typeIs F.slot_dict_keyiterator_iter (wpAny_call_entry F.slot_dict_keyiterator_iter st.typeIs F.entry_dict_keyiterator_iter ?_ (F.args_dict_keyiterator_iter_1 _))
    exact (show wpAny _ _ (ret (.ref it)) _ _ s from wpAny_pure ⟨_, rfl, "dict_keyiterator", _, st.typeIs, F.slot_dict_keyiterator_next.lookup, h⟩)
variable {tg e : Expr} {te : TE} {f : FE} {pos apos cpos : Pos}
theorem pi_n (he : PE X e te) : PI X tg e (fun σ H R => te σ H fun x H1 => ∃ (d : Addr) (od : Obj) (kvs : List (NestedKey × V × V)), x = .ref d ∧ H1 d = some (.frz od (DTO d kvs)) ∧ R (Itn d od kvs) H1) := by
  refine ⟨fun pins s σ H R I h => ?_⟩
  refine thn (he.run pins s σ H _ I h) fun u s1 ⟨x, H1, I1, rx, d, od, kvs, ex, hd, q⟩ => ?_
  subst ex
  cases rx
  obtain ⟨hs, h0, h1, es, ep, h2, hsz, ent⟩ := frzN I1 hd
  refine iter_keys hs h0 h1 h2 (pi_one (tk := s1.toks) I1 _ (turn_n _ h2) ⟨_, Heap.get?_push_size _ rfl, rfl, ?_⟩ q)
  rw [hsz]
  all_goals rfl
def iKeysT (f : FE) : FI := fun ρ s => (f ρ s).bind fun w s1 => match w with
  | .dtt kd _ => .ok { ws := kd } s1
  | _ => .no
theorem mi_n (he : ME X Γ W e f) : MI X Γ W tg e (iKeysT f) :=
  PI.imp (pi_n he) fun σ H Q ⟨μ, Z, ρ, s, hE, hR, q⟩ => iI hE hR q fun x s1 v H1 μ1 e1 E1 R1 r1 q1 => by
    cases x with
    | dtt kd ws =>
      obtain ⟨a, kvs, h1, ⟨od, h2⟩, h3, h4, h5, h6⟩ := r1
      refine ⟨a, od, kvs, h1, h2, ?_⟩
      refine q1 _ H1 μ1 .refl R1 fun H' μ' Z' s' ev hR' hy hz _ => ?_
      have hd : H' a = some (.frz od (DTO a kvs)) := ev.keep a _ h2 h3.1 h3.2
      have hl : kvs.length = kd.length := by
        have := congrArg List.length h4.1
        rw [List.length_map, List.length_map] at this
        exact this.symm
      refine ⟨⟨hd, by rw [hl]; exact Nat.le_refl _⟩, fun i w hw => ?_⟩
      obtain ⟨y, g1, g2⟩ := h5.get hw
      refine ⟨⟨hd, by rw [hl]; exact (List.getElem?_eq_some_iff.mp hw).1⟩, fun z H'' ⟨z1, z2⟩ => ?_⟩
      subst z1
      obtain rfl : y = z := Option.some.inj (g1.symm.trans z2)
      exact ⟨.refl, hR', (RV.strong hz w g2).monoZ (ev.more hy)⟩
    | _ => exact q1.elim
theorem rawT {d : Addr} {kvs : List (NestedKey × V × V)} (I : Inv X pins σ H s) (h : Rd H d (DTO d kvs)) : (d == sysModules) = false ∧ kvs.length ≤ sizeLine ∧ ∃ es ep, s.heap.DictRaw d es ep ∧ es.size = kvs.length ∧ ∀ (i : Nat) (p : NestedKey × V × V), kvs[i]? = some p → ∃ en, es[i]? = some en ∧ RelV p.2.2 en.val := by
  obtain ⟨⟨g1, g2, g3, xs, g4, ob, es, ep, g5, g6, g7, g8, g9⟩, _⟩ := (show ObjOk X.prog X.w H s.heap d (DTO d kvs) from h.ok I.hok)
  have he := g8 X.prog X.w
  refine ⟨g1, g2, es, ep, ⟨ob, g5, g6, g7⟩, by rw [size_of_entries he, ← Paired.length g4], fun i p e => ?_⟩
  obtain ⟨x, hx, e1, e2, e3⟩ := paired_get g4 e
  have q := entry_at he i
  rw [hx] at q
  exact ⟨_, q, e3⟩
def rLenT : List V → Hp → VK → Prop := fun xs H Q => ∃ (d : Addr) (kvs : List (NestedKey × V × V)), xs = [.ref d] ∧ Rd H d (DTO d kvs) ∧ Q (.int ((kvs.length : Nat) : Int)) H
theorem call_lenT : CallR X (.builtin "len") rLenT := by
  intro pins s σ H xs us Q I r h
  obtain ⟨d, kvs, rfl, hd, q⟩ := h
  obtain ⟨u, rfl, rx⟩ := r.one
  cases rx
  obtain ⟨h1, h2, es, ep, h3, h4, _⟩ := rawT I hd
  refine call_len_slot (n := (kvs.length : Int)) h3.typeIs F.slot_dict_len (fun Q' hq => call_len_raw h1 h3 (by rw [h4]; exact hq)) (by omega) (by rw [sizeLine_eq] at h2; omega) ?_
  exact ⟨.int ((kvs.length : Nat) : Int), H, I.tok _, ⟨_, rfl⟩, q⟩
def lenT : ON := fun s xs => match xs with
  | [x] => (dttOf s x).map fun kws => .int ((kws.length : Nat) : Int)
  | _ => none
theorem sLenT : OpN Γ rLenT lenT := fun H μ Z st xs w vs Q hR rx e k => by
  unfold lenT at e
  split at e
  · rename_i x
    cases q : dttOf st x with
    | none => rw [q] at e; cases e
    | some kws =>
      rw [q] at e
      cases e
      obtain ⟨v, rfl, r1⟩ := one rx
      obtain ⟨a, kvs, h1, h2, h3, _⟩ := dttOf_ok hR r1 q
      refine ⟨a, kvs, by rw [h1], h2, k _ H .refl hR ?_⟩
      have := h3.2
      rw [List.length_map] at this
      show V.int ((kvs.length : Nat) : Int) = V.int ((kws.length : Nat) : Int)
      rw [this]
  · cases e
def vwO (p d : Addr) : HO := .ext fun h => h.IsValuesView p d
theorem vwO_ok {P : Program} {w : World} {H : Hp} {h : Heap} {p d : Addr} (e : h.get? p = some { cls := .type "dict_values", data := .fields #[.ref d] }) : ObjOk P w H h p (vwO p d) :=
  ⟨⟨_, e, rfl, rfl⟩, ⟨_, e⟩, fun g1 g2 y k => let ⟨ob, z, t⟩ := y; ⟨ob, k ob z, t⟩⟩
theorem pe_valuesT (he : PE X e te) (hbase : attributeBase e "values" X.env (eval e X.env) = eval e X.env := by rfl) (hline : (apos.endLine == cpos.line) = true := by rfl) :
    PE X (.Call (.Attribute e "values" apos) [] [] cpos) (fun σ H Q => te σ H fun x H1 => ∃ (d : Addr) (kvs : List (NestedKey × V × V)), x = .ref d ∧ Rd H1 d (DTO d kvs) ∧ ∀ p, H1 p = none → Q (.ref p) (upd H1 p (vwO p d))) := by
  refine ⟨fun pins s σ H Q I h => ?_⟩
  refine wpAny_Call_method (T := "dict") (id := "dict.values") hbase rfl hline F.plainAttrs_dict F.slot_dict_values F.type_dict_values (thn (he.run pins s σ H _ I h) fun u s1 ⟨x, H1, I1, rx, d, kvs, ex, hd, q⟩ => ?_)
  subst ex
  cases rx
  obtain ⟨h1, h2, es, ep, h3, h4, _⟩ := rawT I1 hd
  have ht := h3.typeIs (s := s1)
  refine ⟨ht, fun b e => ?_, ?_⟩
  · cases e
    obtain ⟨ob, z1, z2, z3⟩ := h3
    exact ⟨ob, z1, z2.2.1⟩
  have new := vwO_ok (P := X.prog) (w := X.w) (H := upd H1 s1.heap.objs.size (vwO s1.heap.objs.size d)) (p := s1.heap.objs.size) (d := d) (Heap.get?_push_size s1.heap (o := { cls := .type "dict_values", data := .fields #[.ref d] }) rfl)
  have fin : EP X pins σ Q (.ref s1.heap.objs.size) { s1 with heap := s1.heap.push { cls := .type "dict_values", data := .fields #[.ref d] } } :=
    ⟨.ref s1.heap.objs.size, _, I1.laid (t' := s1.toks) (o := vwO s1.heap.objs.size d) (fun b ob e => Heap.get?_push_of_some _ e) (Nat.le_refl _) new, rfl, q _ (I1.hok.fresh (Nat.le_refl _))⟩
  exact (show wpAny _ _ (callWith cpos (.builtin "dict.values") [.ref d] [] []) _ X.xe s1 from method_meetsIn F.slot_dict_values F.entry_dict_values rfl (PySem.evalArgs_none ⟨rfl, ht, F.args_dict_values_1 _, _, meets_dict_values_raw d h1, ⟨es, ep, h3⟩, fin⟩))
theorem call_listVw (hc : X.calm = true) : CallR X (.type "list") (fun xs H Q => ∃ (p d : Addr) (kvs : List (NestedKey × V × V)), xs = [.ref p] ∧ H p = some (vwO p d) ∧ Rd H d (DTO d kvs) ∧ ∀ q, H q = none → Q (.ref q) (upd H q (.lst (kvs.map (·.2.2))))) := by
  intro pins s σ H xs us Q I r h
  obtain ⟨p, d, kvs, rfl, hp, hd, q⟩ := h
  obtain ⟨u, rfl, rx⟩ := r.one
  cases rx
  obtain ⟨h1, h2, es, ep, h3, h4, ent⟩ := rawT I hd
  have hv : s.heap.IsValuesView p d := (I.hok p _ hp).1
  refine PySem.W.kdl_call PySem.KdlSrc.rawValues (I.ok.hd hc) ⟨hv, h3⟩ (by omega) fun h' tk acc' c' kp e it => ?_
  have rv : Vals (kvs.map (·.2.2)) acc'.toList := by
    have hl : acc'.toList.length = kvs.length := by rw [Array.length_toList, it.1]; exact h4
    have key : ∀ (l : List (NestedKey × V × V)) (m : List Value), l.length = m.length → (∀ (i : Nat) (p : NestedKey × V × V), l[i]? = some p → ∃ u, m[i]? = some u ∧ RelV p.2.2 u) → Vals (l.map (·.2.2)) m := fun l => by
      induction l with
      | nil => intro m hm _; cases m with
        | nil => exact .nil
        | cons _ _ => cases hm
      | cons p l ih => intro m hm k; cases m with
        | nil => cases hm
        | cons u m =>
          obtain ⟨u', e1, e2⟩ := k 0 p rfl
          cases e1
          exact .cons e2 (ih m (by simpa using hm) fun i z hz => k (i + 1) z hz)
    refine key kvs acc'.toList hl.symm fun i z hz => ?_
    obtain ⟨en, hen, hr⟩ := ent i z hz
    have hlt : i < acc'.toList.length := by rw [hl]; exact (List.getElem?_eq_some_iff.mp hz).1
    have hj : acc'.toList[i]? = some acc'.toList[i] := List.getElem?_eq_getElem hlt
    obtain ⟨hi, hval⟩ := it.2 i acc'.toList[i] (by rw [← Array.getElem?_toList]; exact hj)
    refine ⟨_, hj, ?_⟩
    rw [hval]
    rw [Array.getElem?_eq_getElem hi] at hen
    cases hen
    exact hr
  refine ⟨.ref s.heap.objs.size, _, I.laid (t' := tk) (o := .lst (kvs.map (·.2.2))) kp (Nat.le_refl _) ?_, rfl, q _ (I.hok.fresh (Nat.le_refl _))⟩
  exact ⟨by rw [List.length_map]; exact h2, acc'.toList, c', rv, by rw [Array.toArray_toList]; exact e⟩
def mListVals (f : FE) : FE := fun ρ s => (f ρ s).bind fun w s1 => match w with
  | .dtt kd ws => .ok (.lst ws) s1
  | _ => .no
theorem me_listVals {p : Pos} (hc : X.calm = true) (hgl : Gl X "list") (hm : X.mg "list" = none) (ha : ME X Γ W e f) (hbase : attributeBase e "values" X.env (eval e X.env) = eval e X.env := by rfl) (hline : (apos.endLine == cpos.line) = true := by rfl)
    (na : starEach [.Call (.Attribute e "values" apos) [] [] cpos] X.env = (false, eval (.Call (.Attribute e "values" apos) [] [] cpos) X.env) :: starEach [] X.env := by rfl) :
    ME X Γ W (.Call (.Name "list" p) [.Call (.Attribute e "values" apos) [] [] cpos] [] pos) (mListVals f) :=
  PE.imp (pe_callTy (call_listVw hc) hgl hm rfl (pa_cons (pe_valuesT ha hbase hline) pa_nil na)) fun σ H Q ⟨μ, Z, ρ, s, hE, hR, q⟩ => by
    refine eE hE hR q fun x s1 v H1 μ1 e1 E1 R1 r1 q1 => ?_
    cases x with
    | dtt kd ws =>
      obtain ⟨a, kvs, h1, h2, h3, h4, h5, h6⟩ := id r1
      refine ⟨a, kvs, h1, h2.rd, fun p hp => ?_⟩
      have ev : Evo H1 μ1 (upd H1 p (vwO p a)) μ1 := Evo.laid hp
      have R2 := R1.laid (o := vwO p a) hp
      have h2' : Rd (upd H1 p (vwO p a)) a (DTO a kvs) := HD.rd (h2.eq (upd_ne fun z => h2.some (z ▸ hp)))
      refine ⟨p, a, kvs, rfl, upd_same, h2', fun t ht => ?_⟩
      exact q1 _ _ μ1 (ev.trans (Evo.laid ht)) (R2.laid ht) (new_lst R2 ht (h6.mono ev))
    | _ => exact q1.elim
end
end MP
set_option Elab.async false
set_option linter.all false
set_option maxRecDepth 100000
set_option maxHeartbeats 4000000
namespace MP
open PySem PySem.Spec PyProof.Rows L2
section
variable {prog : Program} {w : World} {K : Type} [DecidableEq K] {knd : HeapKind prog w K} {A : Around} {E : Value → Shared → Prop} {s : Shared}
/-- the values are these ints -/
def IntVs (xs : List (K × Addr × Value)) (ns : List Int) : Prop := Paired (fun (x : K × Addr × Value) (n : Int) => ∃ t, x.2.2 = .int n t) xs ns
theorem intVs_get {xs : List (K × Addr × Value)} {ns : List Int} (h : IntVs xs ns) : ∀ {i : Nat} {x : K × Addr × Value}, xs[i]? = some x → ∃ n t, ns[i]? = some n ∧ x.2.2 = .int n t := by
  intro i x e
  obtain ⟨n, h1, t, h2⟩ := paired_get h e
  exact ⟨n, t, h1, h2⟩
theorem same_pairs {nm : String} {a b : Addr} {xs ys : List (K × Addr × Value)} {ns ms : List Int} {Q : Bool → Shared → Prop} (la : (a == sysModules) = false) (lb : (b == sysModules) = false) (hu : knd.room A)
    (hx : s.heap.DictOfH knd a xs) (hy : s.heap.DictOfH knd b ys) (hk : xs.map (·.1) = ys.map (·.1)) (hn : IntVs xs ns) (hm : IntVs ys ms) (h : Q (decide (ns = ms)) s) :
    wpAny (model prog w) A (Builtin.Dict.samePairs nm a b) Q E s := by
  obtain ⟨o1, es1, ep1, p1, _, p2, p3, p4, p5⟩ := hx
  obtain ⟨o2, es2, ep2, q1, _, q2, q3, q4, q5⟩ := hy
  have z1 : es1.size = xs.length := size_of_entries p3
  have z2 : es2.size = ys.length := size_of_entries q3
  have z3 : xs.length = ys.length := by
    have := congrArg List.length hk
    rwa [List.length_map, List.length_map] at this
  have l1 : xs.length = ns.length := Paired.length hn
  have l2 : ys.length = ms.length := Paired.length hm
  have hno : ∀ d : Addr, (d == sysModules) = false → ¬ (d == sysModules) = true := fun d e z => by rw [e] at z; cases z
  unfold Builtin.Dict.samePairs Builtin.Dict.showsAll
  rw [if_neg (hno a la), if_neg (hno b lb)]
  refine wpAny_bind (wpAny_pure (wpAny_bind (wpAny_pure (wpAny_bind (wpAny_dictEntries p1 p2 ?_)))))
  dsimp only
  refine wpAny_bind (wpAny_dictEntries q1 q2 ?_)
  rw [if_neg (by rw [z1, z2, z3]; simp)]
  refine wpAny_bind (wpAny_dictEpoch p1 p2 (wpAny_bind ?_))
  rw [Std.Legacy.Range.forIn_eq_forIn_range']
  simp only [Std.Legacy.Range.size, Nat.sub_zero, Nat.add_sub_cancel, Nat.div_one]
  refine wpAny_forIn_list _ (fun rest q t => t = s ∧ q = (none, ()) ∧ ∃ i, rest = List.range' i (es1.size - i) ∧ i ≤ es1.size ∧ ns.take i = ms.take i) _ ?_ ?_ _ _ ⟨rfl, rfl, 0, by simp, Nat.zero_le _, rfl⟩
  · rintro j rest q t ⟨rfl, rfl, i, e1, e2, e3⟩
    have hlt : i < es1.size := by
      rcases Nat.lt_or_ge i es1.size with z | z
      · exact z
      · rw [Nat.sub_eq_zero_of_le z] at e1
        cases e1
    have e4 : es1.size - i = (es1.size - (i + 1)) + 1 := by omega
    rw [e4, List.range'_succ] at e1
    obtain ⟨rfl, e5⟩ := List.cons.inj e1
    obtain ⟨x, hx⟩ : ∃ x, xs[j]? = some x := ⟨_, List.getElem?_eq_getElem (by omega)⟩
    obtain ⟨y, hy⟩ : ∃ y, ys[j]? = some y := ⟨_, List.getElem?_eq_getElem (by omega)⟩
    obtain ⟨n, t1, hn1, hn2⟩ := intVs_get hn hx
    obtain ⟨m, t2, hm1, hm2⟩ := intVs_get hm hy
    have hxy : x.1 = y.1 := by
      have g := congrArg (fun l : List K => l[j]?) hk
      simp only [List.getElem?_map, hx, hy, Option.map_some] at g
      exact Option.some.inj g
    have hent : es1[j]? = some (entryOfKey knd x) := by rw [entry_at p3 j, hx]; rfl
    refine wpAny_bind (wpAny_dictEntries p1 p2 ?_)
    rw [hent]
    have hkey : knd.is t.heap x.1 x.2.1 := p4 x (List.mem_of_getElem? hx)
    show wpAny _ _ (holding [Value.ref x.2.1, x.2.2] _ >>= _) _ _ _
    refine wpAny_bind (wpAny_holding (wpAny_bind (wpAny_dictFind_heap hu hkey q1 q2 q3 q4 q5 (fun z => ?_) fun k p z => ?_)))
    · exact absurd (show ys[j]? = some (x.1, y.2) by rw [hy, hxy]) (z j y.2)
    · have hkj : k = j := idxH_unique q5 z (show ys[j]? = some (x.1, y.2) by rw [hy, hxy])
      subst hkj
      refine wpAny_bind (wpAny_dictEntries q1 q2 ?_)
      rw [entry_at q3 k, hy]
      refine wpAny_holding ?_
      show wpAny _ _ (eqBool x.2.2 y.2.2) _ _ _
      rw [hn2, hm2]
      refine SeqAt.EqAt.int_int n t1 m t2 prog w _ _ ?_
      by_cases hnm : n = m
      · have : (n == m) = true := by rw [hnm]; exact beq_self_eq_true m
        rw [this]
        show wpAny _ _ (if (!true) = true then _ else _) _ _ _
        rw [if_neg (by decide)]
        refine wpAny_bind (wpAny_dictEpoch p1 p2 ?_)
        rw [if_neg (by simp)]
        refine wpAny_pure ⟨rfl, rfl, k + 1, e5, hlt, ?_⟩
        rw [List.take_succ, List.take_succ, e3, hn1, hm1, hnm]
      · have : (n == m) = false := by simpa using hnm
        rw [this]
        show wpAny _ _ (if (!false) = true then _ else _) _ _ _
        rw [if_pos (by decide)]
        refine wpAny_pure (wpAny_pure ?_)
        have hne : ¬ ns = ms := fun z => by
          rw [z, hm1] at hn1
          exact hnm (Option.some.inj hn1).symm
        rw [decide_eq_false hne] at h
        exact h
  · rintro q t ⟨rfl, rfl, i, e1, e2, e3⟩
    have hi : i = es1.size := by
      rcases Nat.lt_or_ge i es1.size with z | z
      · have e4 : es1.size - i = (es1.size - (i + 1)) + 1 := by omega
        rw [e4, List.range'_succ] at e1
        cases e1
      · omega
    refine wpAny_pure ?_
    have he : ns = ms := by
      rw [List.take_of_length_le (by omega), List.take_of_length_le (by omega)] at e3
      exact e3
    rw [decide_eq_true he] at h
    exact h
theorem eq_pairs {a b : Addr} {xs ys : List (K × Addr × Value)} {ns ms : List Int} {Q : Value → Shared → Prop} (la : (a == sysModules) = false) (lb : (b == sysModules) = false) (hu : A.units < cLine) (hr : knd.room A.in1)
    (hx : s.heap.DictOfH knd a xs) (hy : s.heap.DictOfH knd b ys) (hk : xs.map (·.1) = ys.map (·.1)) (hn : IntVs xs ns) (hm : IntVs ys ms) (h : Q (.bool (decide (ns = ms))) s) :
    wpAny (model prog w) A (compareOp .Eq (.ref a) (.ref b)) Q E s := by
  have ta := hx.typeIs (s := s)
  have tb := hy.typeIs (s := s)
  refine wpAny_richCompare_same_room (op := .Eq) ta tb PySem.F.slot_dict_eq (wpAny_call_entry PySem.F.slot_dict_eq ta PySem.F.entry_dict_eq ?_ (PySem.F.args_dict_eq_2 _ _)) hu
  show wpAny _ _ (Builtin.Dict.dictSlotArgs "__eq__" ⟨[.ref a, .ref b], []⟩ >>= _) _ _ s
  unfold Builtin.Dict.dictSlotArgs
  refine wpAny_bind (wpAny_bind (wpAny_notOrdered_dict ta ?_))
  refine (show wpAny _ _ (pure (Value.ref a, Value.ref b)) _ _ s from wpAny_pure (wpAny_bind (wpAny_isInstance (T := "dict") tb PySem.F.sub_dict_dict ?_)))
  simp only [Bool.not_true, Bool.false_eq_true, if_false]
  refine wpAny_bind (wpAny_pure (wpAny_bind (wpAny_pure (wpAny_bind (same_pairs la lb hr hx hy hk hn hm (wpAny_pure ⟨_, rfl, ?_, ?_⟩))))))
  · exact fun z => nomatch z
  · simpa using h
end
section
variable {X : Cx} {Γ : Ct} {W : WX} {σ : L2.St} {H : Hp} {s : Shared} {μ : Mu} {Z : Zs}
def rEqT (Γ : Ct) : R2 := fun x y H Q => ∃ (μ : Mu) (Z : Zs) (a b : Addr) (ks ls : List (NestedKey × V × V)) (kd ws ld us : List Dv) (ns ms : List Int), x = .ref a ∧ y = .ref b ∧ Rd H a (DTO a ks) ∧ Rd H b (DTO b ls) ∧ KVs kd ws ks ∧ KVs ld us ls ∧
  RVs Γ H μ Z kd (ks.map (·.2.1)) ∧ RVs Γ H μ Z ld (ls.map (·.2.1)) ∧ ks.map (·.1) = ls.map (·.1) ∧ ks.map (·.2.2) = ns.map .int ∧ ls.map (·.2.2) = ms.map .int ∧ Q (.bl (decide (ns = ms))) H
theorem keys_of : ∀ {ks : List (NestedKey × V × V)} {xs : List (NestedKey × Addr × Value)}, Paired R3 ks xs → ks.map (·.1) = xs.map (·.1)
  | _, _, .nil => rfl
  | _, _, .cons g t => by rw [List.map_cons, List.map_cons, keys_of t, g.1]
theorem intVs_of : ∀ {ks : List (NestedKey × V × V)} {xs : List (NestedKey × Addr × Value)} {ns : List Int}, Paired R3 ks xs → ks.map (·.2.2) = ns.map .int → IntVs xs ns
  | _, _, [], .nil, _ => .nil
  | _, _, n :: ns, .nil, e => by cases e
  | _, _, [], .cons g t, e => by cases e
  | p :: ks, x :: xs, n :: ns, .cons g t, e => by
    obtain ⟨e1, e2⟩ := List.cons.inj e
    refine .cons ?_ (intVs_of t e2)
    have g3 := g.2.2
    have e1' : p.2.2 = .int n := e1
    rw [e1'] at g3
    exact g3
theorem op_eqT (hK : Γ.K = X.K) (hu : X.A.units + 64 < cLine) : OpR X (compareOp .Eq) (rEqT Γ) := by
  intro pins s σ H x y v u Q I rx ry h
  obtain ⟨μ, Z, a, b, ks, ls, kd, ws, ld, us, ns, ms, rfl, rfl, ha, hb, k1, k2, r1, r2, hk, hn, hm, q⟩ := h
  cases rx
  cases ry
  obtain ⟨a1, _, _, xs, a2, a3⟩ := dt_obj I hK ha k1 r1
  obtain ⟨b1, _, _, ys, b2, b3⟩ := dt_obj I hK hb k2 r2
  refine eq_pairs (knd := nestedKind X.prog X.w) a1 b1 (by omega) (by show X.A.units + 1 + 8 < cLine; omega) a3 b3 (by rw [← keys_of a2, ← keys_of b2, hk]) (intVs_of a2 hn) (intVs_of b2 hm) ?_
  exact ⟨.bl _, H, I, rfl, q⟩
def eqDT : O2 := fun s x y => match dttOf s x, dttOf s y with
  | some k1, some k2 => match intsOf (k1.map (·.2)), intsOf (k2.map (·.2)) with
    | some ns, some ms => if (k1.map (·.1)).map nk = (k2.map (·.1)).map nk then some (.bl (decide (ns = ms))) else none
    | _, _ => none
  | _, _ => none
theorem sEqT : Op2 Γ (rEqT Γ) eqDT := fun H μ Z st x y w u v Q hR r1 r2 e k => by
  unfold eqDT at e
  split at e
  · rename_i k1 k2 h1 h2
    split at e
    · rename_i ns ms h3 h4
      split at e
      · rename_i hk
        cases e
        obtain ⟨a, ks, a1, a2, a3, a4, a5⟩ := dttOf_ok hR r1 h1
        obtain ⟨b, ls, b1, b2, b3, b4, b5⟩ := dttOf_ok hR r2 h2
        rw [intsOf_ok h3] at a5
        rw [intsOf_ok h4] at b5
        refine ⟨μ, Z, a, b, ks, ls, _, _, _, _, ns, ms, a1, b1, a2, b2, a3, b3, a4, b4, ?_, a5.ints, b5.ints, k _ H .refl hR rfl⟩
        have e1 : ks.map (fun p => some p.1) = ls.map (fun p => some p.1) := by rw [← a3.1, ← b3.1, hk]
        have e2 : (ks.map (·.1)).map some = (ls.map (·.1)).map some := by rw [List.map_map, List.map_map]; exact e1
        have inj : ∀ {l m : List NestedKey}, l.map some = m.map some → l = m := fun {l} => by
          induction l with
          | nil => intro m h; cases m with
            | nil => rfl
            | cons _ _ => cases h
          | cons a l ih => intro m h; cases m with
            | nil => cases h
            | cons b m =>
              obtain ⟨g1, g2⟩ := List.cons.inj h
              rw [Option.some.inj g1, ih g2]
        exact inj e2
      · cases e
    · cases e
  · cases e
end
end MP
set_option Elab.async false
set_option linter.all false
set_option maxRecDepth 100000
set_option maxHeartbeats 4000000
namespace MP.PG
open PySem PySem.Spec PyProof.Rows L2 MP
noncomputable def d_is_int : FS := (mRet (mAndV (mBlt isiD (mCons (mVar 0) (mCons (mK (.ty "int")) mNil))) (mAndV (mBin isntD (mVar 0) (mK (.bl true))) (mBin isntD (mVar 0) (mK (.bl false))))))
noncomputable def g_is_int : Fn := denOf 1 d_is_int
noncomputable def d_is_int_within : FS := (mRet (mAndV (mCall (g_is_int) (mCons (mVar 0) mNil)) (mChain leD leD (mVar 1) (mVar 0) (mVar 2))))
noncomputable def g_is_int_within : Fn := denOf 3 d_is_int_within
noncomputable def d_is_tuple : FS := (mRet (mAndV (mBlt isiD (mCons (mVar 0) (mCons (mK (.ty "tuple")) mNil))) (mChain leD leD (mVar 1) (mBlt lenD (mCons (mVar 0) mNil)) (mVar 2))))
noncomputable def g_is_tuple : Fn := denOf 3 d_is_tuple
noncomputable def F_first_outside_1 : FI := (iEnum1 (mCons (mVar 0) mNil))
noncomputable def t_first_outside_1 : FG := (gT 2 (gsC (gN 3) (gsC (gN 4) gs0)))
noncomputable def b_first_outside_1 : FS := (mIfS (mOr (mNot (mTest (mBlt isiD (mCons (mVar 4) (mCons (mK (.ty "int")) mNil))))) (mOr (mTest (mBin isD (mVar 4) (mK (.bl true)))) (mOr (mTest (mBin isD (mVar 4) (mK (.bl false)))) (mNot (mTest (mChain leD leD (mVar 1) (mVar 4) (mVar 2))))))) (mRet (mVar 3)) mNext)
noncomputable def d_first_outside : FS := (mSeq (mFor F_first_outside_1 t_first_outside_1 b_first_outside_1)
  (mRet (mK .non)))
noncomputable def g_first_outside : Fn := denOf 5 d_first_outside
noncomputable def d_need_rule : FS := (mSeq (mIfS (mNot (mTest (mCall (g_is_tuple) (mCons (mVar 0) (mCons (mK (.int 1)) (mCons (mK (.int 6)) mNil)))))) mStuck mNext)
  (mSeq (mAsg (mCall (g_first_outside) (mCons (mVar 0) (mCons (mUn negD (mK (.int 20))) (mCons (mK (.int 20)) mNil)))) (gN 1))
  (mSeq (mIfS (mTest (mBin isntD (mVar 1) (mK .non))) mStuck mNext)
  (mRet (mVar 0)))))
noncomputable def g_need_rule : Fn := denOf 2 d_need_rule
noncomputable def d_is_rule : FS := (mSeq (mTryN (mExpr (mCall (g_need_rule) (mCons (mVar 0) mNil))))
  (mRet (mK (.bl true))))
noncomputable def g_is_rule : Fn := denOf 1 d_is_rule
noncomputable def d_need_row : FS := (mSeq (mIfS (mNot (mTest (mCall (g_is_tuple) (mCons (mVar 0) (mCons (mK (.int 0)) (mCons (mK (.int 200)) mNil)))))) mStuck mNext)
  (mSeq (mAsg (mCall (g_first_outside) (mCons (mVar 0) (mCons (mK (.int 0)) (mCons (mK (.int 1000000)) mNil)))) (gN 1))
  (mSeq (mIfS (mTest (mBin isntD (mVar 1) (mK .non))) mStuck mNext)
  (mRet (mVar 0)))))
noncomputable def g_need_row : Fn := denOf 2 d_need_row
noncomputable def d_need_row_of : FS := (mSeq (mExpr (mCall (g_need_row) (mCons (mVar 0) mNil)))
  (mSeq (mIfS (mTest (mBin ltD (mBlt lenD (mCons (mVar 0) mNil)) (mVar 1))) mStuck mNext)
  (mRet (mVar 0))))
noncomputable def g_need_row_of : Fn := denOf 2 d_need_row_of
noncomputable def cF_index_of_1 : FI := (iZip2 (mCons (mVar 0) (mCons (mVar 2) mNil)))
noncomputable def ct_index_of_1 : FG := (gT 2 (gsC (gN 3) (gsC (gN 4) gs0)))
noncomputable def ci_index_of_1 : FT := mYes
noncomputable def ce_index_of_1 : FE := (mBin mulD (mVar 3) (mVar 4))
noncomputable def d_index_of : FS := (mSeq (mAsg (mBlt sortedA (mCons (mSl slA (mVar 1) (mPart (mUn negD (mBlt lenD (mCons (mVar 0) mNil)))) mNoPart) mNil)) (gN 2))
  (mRet (mBlt sumA (mCons (mComp cF_index_of_1 [3, 4] ct_index_of_1 ci_index_of_1 ce_index_of_1) mNil))))
noncomputable def g_index_of : Fn := denOf 5 d_index_of
noncomputable def F_indexes_by_ones_1 : FI := (iSeq (mRev (mVar 0)))
noncomputable def t_indexes_by_ones_1 : FG := (gN 2)
noncomputable def b_indexes_by_ones_1 : FS := (mExpr (mApp (mVar 1) (mBin addD (mBin ixA (mVar 1) (mUn negD (mK (.int 1)))) (mVar 2))))
noncomputable def d_indexes_by_ones : FS := (mSeq (mAsg (mLstM (mCons (mK (.int 0)) mNil)) (gN 1))
  (mSeq (mFor F_indexes_by_ones_1 t_indexes_by_ones_1 b_indexes_by_ones_1)
  (mRet (mVar 1))))
noncomputable def g_indexes_by_ones : Fn := denOf 3 d_indexes_by_ones
noncomputable def d_is_factor : FS := (mRet (mCall (g_is_int_within) (mCons (mVar 0) (mCons (mUn negD (mK (.int 50))) (mCons (mK (.int 50)) mNil)))))
noncomputable def g_is_factor : Fn := denOf 1 d_is_factor
noncomputable def d_is_term : FS := (mSeq (mIfS (mNot (mTest (mCall (g_is_tuple) (mCons (mVar 0) (mCons (mK (.int 3)) (mCons (mK (.int 3)) mNil)))))) (mRet (mK (.bl false))) mNext)
  (mSeq (mAsg (mVar 0) (gT 3 (gsC (gN 1) (gsC (gN 2) (gsC (gN 3) gs0)))))
  (mRet (mAndV (mCall (g_is_rule) (mCons (mVar 1) mNil)) (mAndV (mCall (g_is_factor) (mCons (mVar 2) mNil)) (mCall (g_is_factor) (mCons (mVar 3) mNil)))))))
noncomputable def g_is_term : Fn := denOf 4 d_is_term
noncomputable def F_need_bill_1 : FI := (iEnum1 (mCons (mVar 2) mNil))
noncomputable def t_need_bill_1 : FG := (gT 2 (gsC (gN 3) (gsC (gN 4) gs0)))
noncomputable def b_need_bill_1 : FS := (mIfS (mNot (mTest (mCall (g_is_term) (mCons (mVar 4) mNil)))) mStuck mNext)
noncomputable def d_need_bill : FS := (mSeq (mIfS (mNot (mTest (mCall (g_is_tuple) (mCons (mVar 0) (mCons (mK (.int 2)) (mCons (mK (.int 2)) mNil)))))) mStuck mNext)
  (mSeq (mAsg (mVar 0) (gT 2 (gsC (gN 1) (gsC (gN 2) gs0))))
  (mSeq (mIfS (mNot (mTest (mCall (g_is_factor) (mCons (mVar 1) mNil)))) mStuck mNext)
  (mSeq (mIfS (mNot (mTest (mCall (g_is_tuple) (mCons (mVar 2) (mCons (mK (.int 0)) (mCons (mK (.int 2)) mNil)))))) mStuck mNext)
  (mSeq (mFor F_need_bill_1 t_need_bill_1 b_need_bill_1)
  (mRet (mVar 0)))))))
noncomputable def g_need_bill : Fn := denOf 5 d_need_bill
noncomputable def cF_width_of_1 : FI := (iSeq (mBin ixA (mVar 0) (mK (.int 1))))
noncomputable def ct_width_of_1 : FG := (gN 1)
noncomputable def ci_width_of_1 : FT := mYes
noncomputable def ce_width_of_1 : FE := (mBlt lenD (mCons (mBin ixA (mVar 1) (mK (.int 0))) mNil))
noncomputable def d_width_of : FS := (mRet (mBin maxDefD (mComp cF_width_of_1 [1] ct_width_of_1 ci_width_of_1 ce_width_of_1) (mK (.int 1))))
noncomputable def g_width_of : Fn := denOf 2 d_width_of
noncomputable def cF_last_pay_1 : FI := (iSeq (mVar 3))
noncomputable def ct_last_pay_1 : FG := (gT 3 (gsC (gN 6) (gsC (gN 7) (gsC (gN 8) gs0))))
noncomputable def ci_last_pay_1 : FT := mYes
noncomputable def ce_last_pay_1 : FE := (mBin addD (mBin mulD (mVar 7) (mCall (g_index_of) (mCons (mVar 6) (mCons (mVar 4) mNil)))) (mBin mulD (mVar 8) (mCall (g_index_of) (mCons (mVar 6) (mCons (mVar 1) mNil)))))
noncomputable def d_last_pay : FS := (mSeq (mAsg (mVar 0) (gT 2 (gsC (gN 2) (gsC (gN 3) gs0))))
  (mSeq (mAsg (mSl slA (mVar 1) mNoPart (mPart (mUn negD (mK (.int 1))))) (gN 4))
  (mSeq (mAsg (mComp cF_last_pay_1 [6, 7, 8] ct_last_pay_1 ci_last_pay_1 ce_last_pay_1) (gN 5))
  (mRet (mBin addD (mBin mulD (mVar 2) (mBin ixA (mVar 1) (mUn negD (mK (.int 1))))) (mBlt sumA (mCons (mVar 5) mNil)))))))
noncomputable def g_last_pay : Fn := denOf 9 d_last_pay
noncomputable def cF_pays_of_1 : FI := (iRange2 (mCons (mVar 2) (mCons (mBlt lenD (mCons (mVar 1) mNil)) mNil)))
noncomputable def ct_pays_of_1 : FG := (gN 3)
noncomputable def ci_pays_of_1 : FT := mYes
noncomputable def ce_pays_of_1 : FE := (mCall (g_last_pay) (mCons (mVar 0) (mCons (mSl slA (mVar 1) (mPart (mBin subD (mVar 3) (mVar 2))) (mPart (mBin addD (mVar 3) (mK (.int 1))))) mNil)))
noncomputable def d_pays_of : FS := (mSeq (mAsg (mCall (g_width_of) (mCons (mVar 0) mNil)) (gN 2))
  (mRet (mBlt tupleD (mCons (mComp cF_pays_of_1 [3] ct_pays_of_1 ci_pays_of_1 ce_pays_of_1) mNil))))
noncomputable def g_pays_of : Fn := denOf 4 d_pays_of
noncomputable def d_pays : FS := (mSeq (mExpr (mCall (g_need_bill) (mCons (mVar 0) mNil)))
  (mSeq (mExpr (mCall (g_need_row_of) (mCons (mVar 1) (mCons (mCall (g_width_of) (mCons (mVar 0) mNil)) mNil))))
  (mRet (mCall (g_pays_of) (mCons (mVar 0) (mCons (mVar 1) mNil))))))
noncomputable def g_pays : Fn := denOf 2 d_pays
noncomputable def d_worth : FS := (mRet (mBlt sumA (mCons (mCall (g_pays) (mCons (mVar 0) (mCons (mVar 1) mNil))) mNil)))
noncomputable def g_worth : Fn := denOf 2 d_worth
noncomputable def F_signs_of_1 : FI := (iRange1 (mCons (mVar 2) mNil))
noncomputable def t_signs_of_1 : FG := (gN 4)
noncomputable def b_signs_of_1 : FS := (mSeq (mAsg (mBlt divmodD (mCons (mVar 0) (mCons (mBlt lenD (mCons (mVar 1) mNil)) mNil))) (gT 2 (gsC (gN 0) (gsC (gN 5) gs0))))
  (mExpr (mApp (mVar 3) (mBin ixA (mVar 1) (mVar 5)))))
noncomputable def d_signs_of : FS := (mSeq (mAsg (mLstM mNil) (gN 3))
  (mSeq (mFor F_signs_of_1 t_signs_of_1 b_signs_of_1)
  (mRet (mBlt tupleD (mCons (mRev (mVar 3)) mNil)))))
noncomputable def g_signs_of : Fn := denOf 6 d_signs_of
noncomputable def cF_ones_of_1 : FI := (iSeq (mVar 1))
noncomputable def ct_ones_of_1 : FG := (gN 3)
noncomputable def ci_ones_of_1 : FT := mYes
noncomputable def ce_ones_of_1 : FE := (mBin addD (mVar 3) (mK (.int 1)))
noncomputable def F_ones_of_1 : FI := (iRange1 (mCons (mVar 0) mNil))
noncomputable def t_ones_of_1 : FG := (gN 2)
noncomputable def b_ones_of_1 : FS := (mAsg (mBin addD (mVar 1) (mComp cF_ones_of_1 [3] ct_ones_of_1 ci_ones_of_1 ce_ones_of_1)) (gN 1))
noncomputable def d_ones_of : FS := (mSeq (mAsg (mLst (mCons (mK (.int 0)) mNil)) (gN 1))
  (mSeq (mFor F_ones_of_1 t_ones_of_1 b_ones_of_1)
  (mRet (mVar 1))))
noncomputable def g_ones_of : Fn := denOf 4 d_ones_of
noncomputable def cF_term_pays_1 : FI := (iSeq (mCall (g_ones_of) (mCons (mBlt lenD (mCons (mVar 2) mNil)) mNil)))
noncomputable def ct_term_pays_1 : FG := (gN 9)
noncomputable def ci_term_pays_1 : FT := mYes
noncomputable def ce_term_pays_1 : FE := (mBin ixA (mVar 5) (mVar 9))
noncomputable def cF_term_pays_2 : FI := (iSeq (mVar 6))
noncomputable def ct_term_pays_2 : FG := (gN 10)
noncomputable def ci_term_pays_2 : FT := mYes
noncomputable def cF1_term_pays_2 : FI := (iSeq (mK (.tup [.int 0, .int 1])))
noncomputable def ct1_term_pays_2 : FG := (gN 11)
noncomputable def ci1_term_pays_2 : FT := mYes
noncomputable def ce_term_pays_2 : FE := (mVar 10)
noncomputable def cF_term_pays_3 : FI := (iZip2 (mCons (mVar 7) (mCons (mBin mulD (mVar 6) (mK (.int 2))) mNil)))
noncomputable def ct_term_pays_3 : FG := (gT 2 (gsC (gN 12) (gsC (gN 13) gs0)))
noncomputable def ci_term_pays_3 : FT := mYes
noncomputable def ce_term_pays_3 : FE := (mBin addD (mBin mulD (mVar 3) (mVar 12)) (mBin mulD (mVar 4) (mVar 13)))
noncomputable def d_term_pays : FS := (mSeq (mAsg (mVar 0) (gT 3 (gsC (gN 2) (gsC (gN 3) (gsC (gN 4) gs0)))))
  (mSeq (mAsg (mCall (g_indexes_by_ones) (mCons (mVar 2) mNil)) (gN 5))
  (mSeq (mAsg (mComp cF_term_pays_1 [9] ct_term_pays_1 ci_term_pays_1 ce_term_pays_1) (gN 6))
  (mSeq (mAsg (mComp2 cF_term_pays_2 [10, 11] ct_term_pays_2 ci_term_pays_2 cF1_term_pays_2 [11] ct1_term_pays_2 ci1_term_pays_2 ce_term_pays_2) (gN 7))
  (mSeq (mAsg (mComp cF_term_pays_3 [12, 13] ct_term_pays_3 ci_term_pays_3 ce_term_pays_3) (gN 8))
  (mRet (mBin mulD (mVar 8) (mBin shlD (mK (.int 1)) (mBin subD (mVar 1) (mBlt lenD (mCons (mVar 2) mNil)))))))))))
noncomputable def g_term_pays : Fn := denOf 14 d_term_pays
noncomputable def cF_bit_pays_1 : FI := (iZip2 (mCons (mVar 4) (mCons (mCall (g_term_pays) (mCons (mVar 5) (mCons (mVar 3) mNil))) mNil)))
noncomputable def ct_bit_pays_1 : FG := (gT 2 (gsC (gN 6) (gsC (gN 7) gs0)))
noncomputable def ci_bit_pays_1 : FT := mYes
noncomputable def ce_bit_pays_1 : FE := (mBin addD (mVar 6) (mVar 7))
noncomputable def F_bit_pays_1 : FI := (iSeq (mVar 2))
noncomputable def t_bit_pays_1 : FG := (gN 5)
noncomputable def b_bit_pays_1 : FS := (mAsg (mComp cF_bit_pays_1 [6, 7] ct_bit_pays_1 ci_bit_pays_1 ce_bit_pays_1) (gN 4))
noncomputable def d_bit_pays : FS := (mSeq (mAsg (mVar 0) (gT 2 (gsC (gN 1) (gsC (gN 2) gs0))))
  (mSeq (mAsg (mCall (g_width_of) (mCons (mVar 0) mNil)) (gN 3))
  (mSeq (mAsg (mBin mulD (mLst (mCons (mK (.int 0)) (mCons (mVar 1) mNil))) (mBin shlD (mK (.int 1)) (mVar 3))) (gN 4))
  (mSeq (mFor F_bit_pays_1 t_bit_pays_1 b_bit_pays_1)
  (mRet (mVar 4))))))
noncomputable def g_bit_pays : Fn := denOf 8 d_bit_pays
noncomputable def cF_raised_1 : FI := (iZip2 (mCons (mVar 0) (mCons (mBin mulD (mVar 1) (mVar 2)) mNil)))
noncomputable def ct_raised_1 : FG := (gT 2 (gsC (gN 6) (gsC (gN 7) gs0)))
noncomputable def ci_raised_1 : FT := mYes
noncomputable def ce_raised_1 : FE := (mBin addD (mVar 6) (mVar 7))
noncomputable def cF_raised_2 : FI := (iZip2 (mCons (mVar 3) (mCons (mStep (mVar 4) (mVar 5) (mVar 2)) mNil)))
noncomputable def ct_raised_2 : FG := (gT 2 (gsC (gN 8) (gsC (gN 9) gs0)))
noncomputable def ci_raised_2 : FT := mYes
noncomputable def ce_raised_2 : FE := (mIf (mTest (mBin gtD (mVar 8) (mVar 9))) (mVar 8) (mVar 9))
noncomputable def F_raised_1 : FI := (iRange1 (mCons (mVar 2) mNil))
noncomputable def t_raised_1 : FG := (gN 5)
noncomputable def b_raised_1 : FS := (mAsg (mComp cF_raised_2 [8, 9] ct_raised_2 ci_raised_2 ce_raised_2) (gN 3))
noncomputable def d_raised : FS := (mSeq (mAsg (mVar 1) (gN 3))
  (mSeq (mAsg (mComp cF_raised_1 [6, 7] ct_raised_1 ci_raised_1 ce_raised_1) (gN 4))
  (mSeq (mFor F_raised_1 t_raised_1 b_raised_1)
  (mRet (mVar 3)))))
noncomputable def g_raised : Fn := denOf 10 d_raised
noncomputable def wt_trail_1 : FT := (mTest (mBin neD (mBin addD (mBin ixA (mVar 0) (mVar 9)) (mBin ixA (mVar 8) (mBin modD (mVar 9) (mBlt lenD (mCons (mVar 8) mNil))))) (mBin ixA (mBin ixA (mVar 1) (mVar 7)) (mVar 4))))
noncomputable def wb_trail_1 : FS := (mAug 9 addI (mK (.int 1)))
noncomputable def F_trail_1 : FI := (iRevR2 (mK (.int 1)) (mBlt lenD (mCons (mVar 1) mNil)))
noncomputable def t_trail_1 : FG := (gN 7)
noncomputable def b_trail_1 : FS := (mSeq (mAsg (mBin ixA (mVar 1) (mBin subD (mVar 7) (mK (.int 1)))) (gN 8))
  (mSeq (mAsg (mBin mulD (mVar 3) (mVar 4)) (gN 9))
  (mSeq (whL wt_trail_1 wb_trail_1 100000)
  (mSeq (mAsg (mBin modD (mVar 9) (mBlt lenD (mCons (mVar 8) mNil))) (gN 4))
  (mSeq (mExpr (mApp (mVar 5) (mVar 4)))
  (mExpr (mApp (mVar 6) (mBin modD (mVar 9) (mVar 3)))))))))
noncomputable def d_trail : FS := (mSeq (mAsg (mVar 2) (gN 4))
  (mSeq (mAsg (mLstM (mCons (mVar 4) mNil)) (gN 5))
  (mSeq (mAsg (mLstM mNil) (gN 6))
  (mSeq (mFor F_trail_1 t_trail_1 b_trail_1)
  (mRet (mTup (mCons (mVar 5) (mCons (mVar 6) mNil))))))))
noncomputable def g_trail : Fn := denOf 10 d_trail
noncomputable def F_ring_on_1 : FI := (iEnum1 (mCons (mVar 0) mNil))
noncomputable def t_ring_on_1 : FG := (gT 2 (gsC (gN 3) (gsC (gN 4) gs0)))
noncomputable def b_ring_on_1 : FS := (mSeq (mIfS (mTest (mBin (inDD false) (mVar 4) (mVar 2))) (mRet (mTup (mCons (mVar 4) (mCons (mBlt tupleD (mCons (mSl slA (mVar 1) (mPart (mBin ixA (mVar 2) (mVar 4))) (mPart (mVar 3))) mNil)) mNil)))) mNext)
  (mDPut (mVar 2) (mVar 4) (mVar 3)))
noncomputable def d_ring_on : FS := (mSeq (mAsg mDctM0 (gN 2))
  (mSeq (mFor F_ring_on_1 t_ring_on_1 b_ring_on_1)
  (mRet (mK .non))))
noncomputable def g_ring_on : Fn := denOf 5 d_ring_on
noncomputable def F_ring_of_one_1 : FI := (iRange1 (mCons (mVar 1) mNil))
noncomputable def t_ring_of_one_1 : FG := (gN 3)
noncomputable def b_ring_of_one_1 : FS := (mIfS (mTest (mBin gtD (mBin ixA (mVar 0) (mBin mulD (mVar 3) (mVar 2))) (mK (.int 0)))) (mRet (mTup (mCons (mBin divD (mBin mulD (mVar 3) (mVar 2)) (mVar 1)) (mCons (mTup (mCons (mVar 3) mNil)) mNil)))) mNext)
noncomputable def d_ring_of_one : FS := (mSeq (mAsg (mBin divD (mBin subD (mBlt lenD (mCons (mVar 0) mNil)) (mK (.int 1))) (mBin subD (mVar 1) (mK (.int 1)))) (gN 2))
  (mSeq (mFor F_ring_of_one_1 t_ring_of_one_1 b_ring_of_one_1)
  (mRet (mK .non))))
noncomputable def g_ring_of_one : Fn := denOf 4 d_ring_of_one
noncomputable def cF_steepest_1 : FI := (iZip2 (mCons (mBin ixA (mVar 0) (mUn negD (mK (.int 1)))) (mCons (mBin ixA (mVar 0) (mUn negD (mK (.int 2)))) mNil)))
noncomputable def ct_steepest_1 : FG := (gT 2 (gsC (gN 2) (gsC (gN 3) gs0)))
noncomputable def ci_steepest_1 : FT := mYes
noncomputable def ce_steepest_1 : FE := (mBin subD (mVar 2) (mVar 3))
noncomputable def d_steepest : FS := (mSeq (mAsg (mComp cF_steepest_1 [2, 3] ct_steepest_1 ci_steepest_1 ce_steepest_1) (gN 1))
  (mRet (mIndex (mVar 1) (mBlt maxLD (mCons (mVar 1) mNil)))))
noncomputable def g_steepest : Fn := denOf 4 d_steepest
noncomputable def wt_climb_1 : FT := (mTest (mK (.bl true)))
noncomputable def wb_climb_1 : FS := (mSeq (mAsg (mCall (g_raised) (mCons (mVar 0) (mCons (mBin ixA (mVar 3) (mUn negD (mK (.int 1)))) (mCons (mVar 1) mNil)))) (gN 5))
  (mSeq (mIfS (mTest (mBin eqD (mVar 5) (mBin ixA (mVar 3) (mUn negD (mK (.int 1)))))) (mRet (mTup (mCons (mVar 3) (mCons (mK .non) mNil)))) mNext)
  (mSeq (mExpr (mApp (mVar 3) (mVar 5)))
  (mIfS (mTest (mBin gtD (mBlt lenD (mCons (mVar 3) mNil)) (mVar 4))) (mSeq (mAsg (mCall (g_trail) (mCons (mVar 0) (mCons (mVar 3) (mCons (mCall (g_steepest) (mCons (mVar 3) mNil)) (mCons (mVar 1) mNil))))) (gT 2 (gsC (gN 6) (gsC (gN 7) gs0))))
  (mSeq (mAsg (mCall (g_ring_on) (mCons (mVar 6) (mCons (mVar 7) mNil))) (gN 2))
  (mSeq (mIfS (mTest (mBin isntD (mVar 2) (mK .non))) (mRet (mTup (mCons (mK .non) (mCons (mVar 2) mNil)))) mNext)
  (mAug 4 addI (mBin addD (mK (.int 1)) (mBin divD (mVar 4) (mK (.int 4)))))))) mNext))))
noncomputable def d_climb : FS := (mSeq (mAsg (mCall (g_ring_of_one) (mCons (mVar 0) (mCons (mVar 1) mNil))) (gN 2))
  (mSeq (mIfS (mTest (mBin isntD (mVar 2) (mK .non))) (mRet (mTup (mCons (mK .non) (mCons (mVar 2) mNil)))) mNext)
  (mSeq (mAsg (mLstM (mCons (mBin mulD (mLst (mCons (mK (.int 0)) mNil)) (mBin divD (mBlt lenD (mCons (mVar 0) mNil)) (mVar 1))) mNil)) (gN 3))
  (mSeq (mAsg (mK (.int 1)) (gN 4))
  (whL wt_climb_1 wb_climb_1 100000)))))
noncomputable def g_climb : Fn := denOf 8 d_climb
noncomputable def cF_greatest_of_1 : FI := (iSeq (mVar 1))
noncomputable def ct_greatest_of_1 : FG := (gN 2)
noncomputable def ci_greatest_of_1 : FT := mYes
noncomputable def ce_greatest_of_1 : FE := (mBin ixA (mVar 0) (mVar 2))
noncomputable def d_greatest_of : FS := (mRet (mBlt maxLD (mCons (mComp cF_greatest_of_1 [2] ct_greatest_of_1 ci_greatest_of_1 ce_greatest_of_1) mNil)))
noncomputable def g_greatest_of : Fn := denOf 3 d_greatest_of
noncomputable def wt_best_walk_1 : FT := (mTest (mBin ltD (mCall (g_greatest_of) (mCons (mBin ixA (mVar 1) (mVar 5)) (mCons (mVar 2) mNil))) (mVar 4)))
noncomputable def wb_best_walk_1 : FS := (mAug 5 addI (mK (.int 1)))
noncomputable def cF_best_walk_1 : FI := (iSeq (mVar 2))
noncomputable def ct_best_walk_1 : FG := (gN 9)
noncomputable def ci_best_walk_1 : FT := (mTest (mBin eqD (mBin ixA (mBin ixA (mVar 1) (mVar 5)) (mVar 9)) (mVar 4)))
noncomputable def ce_best_walk_1 : FE := (mVar 9)
noncomputable def d_best_walk : FS := (mSeq (mAsg (mCall (g_greatest_of) (mCons (mBin ixA (mVar 1) (mUn negD (mK (.int 1)))) (mCons (mVar 2) mNil))) (gN 4))
  (mSeq (mAsg (mK (.int 0)) (gN 5))
  (mSeq (whL wt_best_walk_1 wb_best_walk_1 100000)
  (mSeq (mAsg (mComp cF_best_walk_1 [9] ct_best_walk_1 ci_best_walk_1 ce_best_walk_1) (gN 6))
  (mSeq (mAsg (mCall (g_trail) (mCons (mVar 0) (mCons (mSl slA (mVar 1) mNoPart (mPart (mBin addD (mVar 5) (mK (.int 1))))) (mCons (mBin ixA (mVar 6) (mK (.int 0))) (mCons (mVar 3) mNil))))) (gT 2 (gsC (gN 7) (gsC (gN 8) gs0))))
  (mRet (mTup (mCons (mBin ixA (mVar 6) (mK (.int 0))) (mCons (mBlt tupleD (mCons (mVar 8) mNil)) mNil)))))))))
noncomputable def g_best_walk : Fn := denOf 10 d_best_walk
noncomputable def d_is_bounded : FS := (mSeq (mAsg (mCall (g_climb) (mCons (mCall (g_bit_pays) (mCons (mCall (g_need_bill) (mCons (mVar 0) mNil)) mNil)) (mCons (mK (.int 2)) mNil))) (gT 2 (gsC (gN 1) (gsC (gN 2) gs0))))
  (mRet (mBin isD (mVar 2) (mK .non))))
noncomputable def g_is_bounded : Fn := denOf 3 d_is_bounded
noncomputable def d_greatest : FS := (mSeq (mAsg (mCall (g_climb) (mCons (mCall (g_bit_pays) (mCons (mCall (g_need_bill) (mCons (mVar 0) mNil)) mNil)) (mCons (mK (.int 2)) mNil))) (gT 2 (gsC (gN 1) (gsC (gN 2) gs0))))
  (mSeq (mIfS (mTest (mBin isntD (mVar 2) (mK .non))) (mRet (mK .non)) mNext)
  (mRet (mBlt maxLD (mCons (mBin ixA (mVar 1) (mUn negD (mK (.int 1)))) mNil)))))
noncomputable def g_greatest : Fn := denOf 3 d_greatest
noncomputable def d_best_row_of : FS := (mSeq (mAsg (mCall (g_best_walk) (mCons (mVar 1) (mCons (mVar 2) (mCons (mListRg1 (mBlt lenD (mCons (mBin ixA (mVar 2) (mK (.int 0))) mNil))) (mCons (mK (.int 2)) mNil))))) (gT 2 (gsC (gN 3) (gsC (gN 4) gs0))))
  (mRet (mBin addD (mCall (g_signs_of) (mCons (mVar 3) (mCons (mK (.tup [.int 0, .int 1])) (mCons (mCall (g_width_of) (mCons (mVar 0) mNil)) mNil)))) (mVar 4))))
noncomputable def g_best_row_of : Fn := denOf 5 d_best_row_of
noncomputable def d_best_row : FS := (mSeq (mAsg (mCall (g_bit_pays) (mCons (mCall (g_need_bill) (mCons (mVar 0) mNil)) mNil)) (gN 1))
  (mSeq (mAsg (mCall (g_climb) (mCons (mVar 1) (mCons (mK (.int 2)) mNil))) (gT 2 (gsC (gN 2) (gsC (gN 3) gs0))))
  (mSeq (mIfS (mTest (mBin isntD (mVar 3) (mK .non))) (mRet (mK .non)) mNext)
  (mRet (mCall (g_best_row_of) (mCons (mVar 0) (mCons (mVar 1) (mCons (mVar 2) mNil))))))))
noncomputable def g_best_row : Fn := denOf 4 d_best_row
noncomputable def cF__law_begun_1 : FI := (iSeq (mVar 0))
noncomputable def ct__law_begun_1 : FG := (gN 2)
noncomputable def ci__law_begun_1 : FT := (mTest (mBin geD (mVar 2) (mBin powD (mK (.int 10)) (mK (.int 18)))))
noncomputable def ce__law_begun_1 : FE := (mVar 2)
noncomputable def d__law_begun : FS := (mSeq (mAsg (mComp cF__law_begun_1 [2] ct__law_begun_1 ci__law_begun_1 ce__law_begun_1) (gN 1))
  (mRet (mDctM [((mK (.str "cells")), (mBin addD (mBlt listD (mCons (mVar 0) mNil)) (mLst (mCons (mBlt lenD (mCons (mVar 0) mNil)) mNil)))), ((mK (.str "left")), (mIf (mTest (mBin neD (mVar 1) (mLst mNil))) (mBin ixA (mVar 1) (mK (.int 0))) (mK (.int 0)))), ((mK (.str "spot")), (mK (.int 0)))])))
noncomputable def g__law_begun : Fn := denOf 3 d__law_begun
noncomputable def d__law_draw : FS := (mSeq (mIfS (mTest (mBin gtD (mBin ixA (mVar 0) (mK (.str "left"))) (mK (.int 0)))) (mSeq (mAsg (mBin modD (mBlt intD (mCons (mBin ixA (mVar 0) (mK (.str "left"))) mNil)) (mVar 1)) (gN 2))
  (mSeq (mDPut (mVar 0) (mK (.str "left")) (mBin divD (mBin ixA (mVar 0) (mK (.str "left"))) (mVar 1)))
  (mRet (mVar 2)))) mNext)
  (mSeq (mAsg (mBin addD (mBin ixA (mVar 0) (mK (.str "spot"))) (mK (.int 1))) (gN 3))
  (mSeq (mDPut (mVar 0) (mK (.str "spot")) (mVar 3))
  (mSeq (mAsg (mBin ixA (mBin ixA (mVar 0) (mK (.str "cells"))) (mBin modD (mBlt intD (mCons (mVar 3) mNil)) (mBlt lenD (mCons (mBin ixA (mVar 0) (mK (.str "cells"))) mNil)))) (gN 4))
  (mSeq (mAsg (mBin mulD (mBlt intD (mCons (mBin addD (mBin addD (mBin modD (mBlt intD (mCons (mVar 4) mNil)) (mK (.int 2147483629))) (mBin mulD (mK (.int 6133)) (mVar 3))) (mBin mulD (mBin mulD (mK (.int 23)) (mVar 3)) (mVar 3))) mNil)) (mK (.int 48271))) (gN 5))
  (mSeq (mAsg (mBin mulD (mBlt intD (mCons (mBin addD (mBin modD (mBlt intD (mCons (mVar 5) mNil)) (mK (.int 2147483647))) (mBin mulD (mK (.int 93241)) (mVar 3))) mNil)) (mK (.int 69621))) (gN 5))
  (mRet (mBin modD (mBlt intD (mCons (mBin divD (mBin modD (mBlt intD (mCons (mVar 5) mNil)) (mK (.int 2147483587))) (mK (.int 13))) mNil)) (mVar 1)))))))))
noncomputable def g__law_draw : Fn := denOf 6 d__law_draw
noncomputable def d__law_of : FS := (mRet (mBin ixA (mVar 1) (mCall (g__law_draw) (mCons (mVar 0) (mCons (mBlt lenD (mCons (mVar 1) mNil)) mNil)))))
noncomputable def g__law_of : Fn := denOf 2 d__law_of
noncomputable def cF__law_weights_1 : FI := (iRange1 (mCons (mBin addD (mK (.int 1)) (mCall (g__law_draw) (mCons (mVar 0) (mCons (mVar 1) mNil)))) mNil))
noncomputable def ct__law_weights_1 : FG := (gN 4)
noncomputable def ci__law_weights_1 : FT := mYes
noncomputable def ce__law_weights_1 : FE := (mIf (mTest (mBin eqD (mVar 2) (mK (.int 1)))) (mBin subD (mCall (g__law_draw) (mCons (mVar 0) (mCons (mK (.int 41)) mNil))) (mK (.int 20))) (mCall (g__law_draw) (mCons (mVar 0) (mCons (mK (.int 4)) mNil))))
noncomputable def d__law_weights : FS := (mSeq (mAsg (mCall (g__law_draw) (mCons (mVar 0) (mCons (mK (.int 2)) mNil))) (gN 2))
  (mSeq (mAsg (mComp cF__law_weights_1 [4] ct__law_weights_1 ci__law_weights_1 ce__law_weights_1) (gN 3))
  (mRet (mBlt tupleD (mCons (mVar 3) mNil)))))
noncomputable def g__law_weights : Fn := denOf 5 d__law_weights
noncomputable def F__law_drawn_bill_1 : FI := (iRange1 (mCons (mCall (g__law_draw) (mCons (mVar 0) (mCons (mK (.int 3)) mNil))) mNil))
noncomputable def t__law_drawn_bill_1 : FG := (gN 4)
noncomputable def b__law_drawn_bill_1 : FS := (mExpr (mApp (mVar 3) (mTup (mCons (mCall (g__law_weights) (mCons (mVar 0) (mCons (mVar 1) mNil))) (mCons (mBin subD (mCall (g__law_draw) (mCons (mVar 0) (mCons (mK (.int 7)) mNil))) (mK (.int 3))) (mCons (mBin subD (mCall (g__law_draw) (mCons (mVar 0) (mCons (mK (.int 7)) mNil))) (mK (.int 3))) mNil))))))
noncomputable def d__law_drawn_bill : FS := (mSeq (mPar 2 3 (mCons (mCall (g__law_of) (mCons (mVar 0) (mCons (mLst (mCons (mK (.int 0)) (mCons (mK (.int 1)) (mCons (mK (.int 2)) (mCons (mUn negD (mK (.int 1))) (mCons (mBin subD (mCall (g__law_draw) (mCons (mVar 0) (mCons (mK (.int 101)) mNil))) (mK (.int 50))) mNil)))))) mNil))) (mCons (mLstM mNil) mNil)))
  (mSeq (mFor F__law_drawn_bill_1 t__law_drawn_bill_1 b__law_drawn_bill_1)
  (mRet (mTup (mCons (mVar 2) (mCons (mBlt tupleD (mCons (mVar 3) mNil)) mNil))))))
noncomputable def g__law_drawn_bill : Fn := denOf 5 d__law_drawn_bill
noncomputable def cF__law_tame_bill_1 : FI := (iRange1 (mCons (mBin addD (mK (.int 1)) (mCall (g__law_draw) (mCons (mVar 0) (mCons (mVar 1) mNil)))) mNil))
noncomputable def ct__law_tame_bill_1 : FG := (gN 4)
noncomputable def ci__law_tame_bill_1 : FT := mYes
noncomputable def ce__law_tame_bill_1 : FE := (mCall (g__law_draw) (mCons (mVar 0) (mCons (mK (.int 4)) mNil)))
noncomputable def d__law_tame_bill : FS := (mSeq (mAsg (mBlt tupleD (mCons (mComp cF__law_tame_bill_1 [4] ct__law_tame_bill_1 ci__law_tame_bill_1 ce__law_tame_bill_1) mNil)) (gN 2))
  (mSeq (mAsg (mCall (g__law_of) (mCons (mVar 0) (mCons (mLst (mCons (mK (.int 0)) (mCons (mBin subD (mK (.int 0)) (mBlt sumA (mCons (mVar 2) mNil))) (mCons (mBin subD (mCall (g__law_draw) (mCons (mVar 0) (mCons (mK (.int 9)) mNil))) (mK (.int 6))) mNil)))) mNil))) (gN 3))
  (mRet (mTup (mCons (mVar 3) (mCons (mTup (mCons (mTup (mCons (mVar 2) (mCons (mBin subD (mCall (g__law_draw) (mCons (mVar 0) (mCons (mK (.int 3)) mNil))) (mK (.int 1))) (mCons (mBin subD (mCall (g__law_draw) (mCons (mVar 0) (mCons (mK (.int 3)) mNil))) (mK (.int 1))) mNil)))) mNil)) mNil))))))
noncomputable def g__law_tame_bill : Fn := denOf 5 d__law_tame_bill
noncomputable def cF__law_drawn_row_1 : FI := (iRange1 (mCons (mBin addD (mVar 1) (mCall (g__law_draw) (mCons (mVar 0) (mCons (mBin addD (mVar 2) (mK (.int 1))) mNil)))) mNil))
noncomputable def ct__law_drawn_row_1 : FG := (gN 4)
noncomputable def ci__law_drawn_row_1 : FT := mYes
noncomputable def ce__law_drawn_row_1 : FE := (mCall (g__law_draw) (mCons (mVar 0) (mCons (mBin addD (mVar 3) (mK (.int 1))) mNil)))
noncomputable def d__law_drawn_row : FS := (mRet (mBlt tupleD (mCons (mComp cF__law_drawn_row_1 [4] ct__law_drawn_row_1 ci__law_drawn_row_1 ce__law_drawn_row_1) mNil)))
noncomputable def g__law_drawn_row : Fn := denOf 5 d__law_drawn_row
noncomputable def F__law_index_1 : FI := (iRange1 (mCons (mBlt lenD (mCons (mVar 0) mNil)) mNil))
noncomputable def t__law_index_1 : FG := (gN 4)
noncomputable def b__law_index_1 : FS := (mAsg (mBin addD (mVar 2) (mBin mulD (mBin ixA (mVar 0) (mVar 4)) (mBin ixA (mVar 3) (mVar 4)))) (gN 2))
noncomputable def d__law_index : FS := (mSeq (mPar 2 3 (mCons (mK (.int 0)) (mCons (mBlt sortedA (mCons (mVar 1) mNil)) mNil)))
  (mSeq (mFor F__law_index_1 t__law_index_1 b__law_index_1)
  (mRet (mVar 2))))
noncomputable def g__law_index : Fn := denOf 5 d__law_index
noncomputable def cF__law_wide_1 : FI := (iSeq (mBin ixA (mVar 0) (mK (.int 1))))
noncomputable def ct__law_wide_1 : FG := (gN 1)
noncomputable def ci__law_wide_1 : FT := mYes
noncomputable def ce__law_wide_1 : FE := (mBlt lenD (mCons (mBin ixA (mVar 1) (mK (.int 0))) mNil))
noncomputable def d__law_wide : FS := (mRet (mBlt maxLD (mCons (mBin addD (mLst (mCons (mK (.int 1)) mNil)) (mComp cF__law_wide_1 [1] ct__law_wide_1 ci__law_wide_1 ce__law_wide_1)) mNil)))
noncomputable def g__law_wide : Fn := denOf 2 d__law_wide
noncomputable def F__law_paid_1 : FI := (iSeq (mBin ixA (mVar 0) (mK (.int 1))))
noncomputable def t__law_paid_1 : FG := (gT 3 (gsC (gN 5) (gsC (gN 6) (gsC (gN 7) gs0))))
noncomputable def b__law_paid_1 : FS := (mSeq (mAsg (mBlt lenD (mCons (mVar 5) mNil)) (gN 8))
  (mSeq (mAsg (mBin addD (mVar 4) (mBin mulD (mVar 6) (mCall (g__law_index) (mCons (mVar 5) (mCons (mSl slA (mVar 1) (mPart (mBin subD (mVar 3) (mVar 8))) (mPart (mVar 3))) mNil))))) (gN 4))
  (mAsg (mBin addD (mVar 4) (mBin mulD (mVar 7) (mCall (g__law_index) (mCons (mVar 5) (mCons (mSl slA (mVar 1) (mPart (mBin subD (mBin addD (mVar 3) (mK (.int 1))) (mVar 8))) (mPart (mBin addD (mVar 3) (mK (.int 1))))) mNil))))) (gN 4))))
noncomputable def F__law_paid_2 : FI := (iRange2 (mCons (mCall (g__law_wide) (mCons (mVar 0) mNil)) (mCons (mBlt lenD (mCons (mVar 1) mNil)) mNil)))
noncomputable def t__law_paid_2 : FG := (gN 3)
noncomputable def b__law_paid_2 : FS := (mSeq (mAsg (mBin mulD (mBin ixA (mVar 0) (mK (.int 0))) (mBin ixA (mVar 1) (mVar 3))) (gN 4))
  (mSeq (mFor F__law_paid_1 t__law_paid_1 b__law_paid_1)
  (mExpr (mApp (mVar 2) (mVar 4)))))
noncomputable def d__law_paid : FS := (mSeq (mAsg (mLstM mNil) (gN 2))
  (mSeq (mFor F__law_paid_2 t__law_paid_2 b__law_paid_2)
  (mRet (mVar 2))))
noncomputable def g__law_paid : Fn := denOf 9 d__law_paid
noncomputable def F__law_bit_rows_1 : FI := (iSeq (mVar 1))
noncomputable def t__law_bit_rows_1 : FG := (gN 4)
noncomputable def b__law_bit_rows_1 : FS := (mAsg (mBin addD (mVar 3) (mLst (mCons (mBin addD (mVar 4) (mTup (mCons (mK (.int 0)) mNil))) (mCons (mBin addD (mVar 4) (mTup (mCons (mK (.int 1)) mNil))) mNil)))) (gN 3))
noncomputable def F__law_bit_rows_2 : FI := (iRange1 (mCons (mVar 0) mNil))
noncomputable def t__law_bit_rows_2 : FG := (gN 2)
noncomputable def b__law_bit_rows_2 : FS := (mSeq (mAsg (mLst mNil) (gN 3))
  (mSeq (mFor F__law_bit_rows_1 t__law_bit_rows_1 b__law_bit_rows_1)
  (mAsg (mVar 3) (gN 1))))
noncomputable def d__law_bit_rows : FS := (mSeq (mAsg (mLst (mCons (mTup mNil) mNil)) (gN 1))
  (mSeq (mFor F__law_bit_rows_2 t__law_bit_rows_2 b__law_bit_rows_2)
  (mRet (mVar 1))))
noncomputable def g__law_bit_rows : Fn := denOf 5 d__law_bit_rows
noncomputable def cF__law_net_1 : FI := (iSeq (mTup (mCons (mK (.int 0)) (mCons (mK (.int 1)) mNil))))
noncomputable def ct__law_net_1 : FG := (gN 4)
noncomputable def ci__law_net_1 : FT := mYes
noncomputable def ce__law_net_1 : FE := (mTup (mCons (mVar 4) (mCons (mBin ixA (mCall (g__law_paid) (mCons (mVar 0) (mCons (mBin addD (mVar 2) (mTup (mCons (mVar 4) mNil))) mNil))) (mK (.int 0))) (mCons (mBin addD (mSl slA (mVar 2) (mPart (mK (.int 1))) mNoPart) (mTup (mCons (mVar 4) mNil))) mNil))))
noncomputable def F__law_net_1 : FI := (iSeq (mCall (g__law_bit_rows) (mCons (mCall (g__law_wide) (mCons (mVar 0) mNil)) mNil)))
noncomputable def t__law_net_1 : FG := (gN 2)
noncomputable def b__law_net_1 : FS := (mSeq (mAsg (mComp cF__law_net_1 [4] ct__law_net_1 ci__law_net_1 ce__law_net_1) (gN 3))
  (mDPutT (mVar 1) (mVar 2) (mVar 3)))
noncomputable def d__law_net : FS := (mSeq (mAsg mDctT0 (gN 1))
  (mSeq (mFor F__law_net_1 t__law_net_1 b__law_net_1)
  (mRetF (mVar 1))))
noncomputable def g__law_net : Fn := denOf 5 d__law_net
noncomputable def F__law_best_1 : FI := (iKeysT (mVar 0))
noncomputable def t__law_best_1 : FG := (gN 2)
noncomputable def b__law_best_1 : FS := (mDPutT (mVar 1) (mVar 2) (mK (.int 0)))
noncomputable def cF__law_best_1 : FI := (iSeq (mBin ixDT (mVar 0) (mVar 2)))
noncomputable def ct__law_best_1 : FG := (gT 3 (gsC (gN 5) (gsC (gN 6) (gsC (gN 7) gs0))))
noncomputable def ci__law_best_1 : FT := mYes
noncomputable def ce__law_best_1 : FE := (mBin addD (mVar 6) (mBin ixDT (mVar 1) (mVar 7)))
noncomputable def F__law_best_2 : FI := (iKeysT (mVar 0))
noncomputable def t__law_best_2 : FG := (gN 2)
noncomputable def b__law_best_2 : FS := (mDPutT (mVar 4) (mVar 2) (mBlt maxLD (mCons (mBin addD (mLst (mCons (mK (.int 0)) mNil)) (mComp cF__law_best_1 [5, 6, 7] ct__law_best_1 ci__law_best_1 ce__law_best_1)) mNil)))
noncomputable def F__law_best_3 : FI := (iRange1 (mCons (mBin addD (mBlt lenT (mCons (mVar 0) mNil)) (mK (.int 1))) mNil))
noncomputable def t__law_best_3 : FG := (gN 3)
noncomputable def b__law_best_3 : FS := (mSeq (mAsg mDctT0 (gN 4))
  (mSeq (mFor F__law_best_2 t__law_best_2 b__law_best_2)
  (mSeq (mIfS (mTest (mBin eqDT (mVar 4) (mVar 1))) (mRetF (mVar 1)) mNext)
  (mAsg (mVar 4) (gN 1)))))
noncomputable def d__law_best : FS := (mSeq (mAsg mDctT0 (gN 1))
  (mSeq (mFor F__law_best_1 t__law_best_1 b__law_best_1)
  (mSeq (mFor F__law_best_3 t__law_best_3 b__law_best_3)
  (mRet (mK .non)))))
noncomputable def g__law_best : Fn := denOf 8 d__law_best
end MP.PG
set_option Elab.async false
set_option linter.all false
set_option maxRecDepth 100000
set_option maxHeartbeats 400000
namespace MP.PG
open PySem PySem.Spec PyProof.Rows L2 MP
@[simp] theorem isI_t {s : Sto} {i : Int} {b : Bool} : isD s (.int i) (.bl b) = some (.bl false) := rfl
@[simp] theorem isntI_t {s : Sto} {i : Int} {b : Bool} : isntD s (.int i) (.bl b) = some (.bl true) := rfl
theorem is_int_int (i : Int) (s : Sto) : g_is_int [.int i] s = .ok (.bl true) s := by
  simp [g_is_int, d_is_int]
theorem is_int_within_int (i a b : Int) (s : Sto) : g_is_int_within [.int i, .int a, .int b] s = .ok (.bl (decide (a ≤ i) && decide (i ≤ b))) s := by
  by_cases h : a ≤ i <;> simp [g_is_int_within, d_is_int_within, is_int_int, h]
theorem is_tuple_tup (ws : List Dv) (a b : Int) (s : Sto) : g_is_tuple [.tup ws, .int a, .int b] s = .ok (.bl (decide (a ≤ ws.length) && decide (ws.length ≤ b))) s := by
  by_cases h : a ≤ ws.length <;> simp [g_is_tuple, d_is_tuple, h]
theorem first_in (ns : List Int) (a b : Int) (s : Sto) (h : ∀ i ∈ ns, a ≤ i ∧ i ≤ b) : g_first_outside [tI ns, .int a, .int b] s = .ok .non s := by
  obtain ⟨ρ', s', h1, h2⟩ := for_ix (g := t_first_outside_1) (body := b_first_outside_1) (F := F_first_outside_1) (ρ := [some (tI ns), some (.int a), some (.int b), none, none]) (s := s) (s1 := s) (xs := enumD 0 (ns.map .int))
    (fun _ ρ s' => s' = s ∧ ∃ x y, ρ = [some (tI ns), some (.int a), some (.int b), x, y]) rfl ⟨rfl, _, _, rfl⟩ (fun i x ρ s' hx hJ => by
      obtain ⟨rfl, y, z, rfl⟩ := hJ
      obtain ⟨w, hw, rfl⟩ := enumD_get hx
      rw [List.getElem?_map] at hw
      cases hn : ns[i]? with
      | none => rw [hn] at hw; cases hw
      | some n =>
        rw [hn] at hw
        cases hw
        have hb := h n (List.mem_of_getElem? hn)
        refine ⟨[some (tI ns), some (.int a), some (.int b), some (.int (0 + i : Nat)), some (.int n)], [some (tI ns), some (.int a), some (.int b), some (.int (0 + i : Nat)), some (.int n)], s', rfl, .inl ?_, rfl, _, _, rfl⟩
        simp [b_first_outside_1, hb.1, hb.2])
  obtain ⟨rfl, x, y, rfl⟩ := h2
  simp [g_first_outside, d_first_outside, h1]
structure Rule (rs : List Int) : Prop where
  one : 1 ≤ rs.length
  six : rs.length ≤ 6
  ok : ∀ i ∈ rs, -20 ≤ i ∧ i ≤ 20
structure Row (ns : List Int) : Prop where
  most : ns.length ≤ 200
  ok : ∀ i ∈ ns, 0 ≤ i ∧ i ≤ 1000000
@[simp] theorem isnt_nn {s : Sto} : isntD s .non .non = some (.bl false) := rfl
@[simp] theorem is_nn {s : Sto} : isD s .non .non = some (.bl true) := rfl
theorem need_rule_ok {rs : List Int} (h : Rule rs) (s : Sto) : g_need_rule [tI rs] s = .ok (tI rs) s := by
  have h1 := h.one
  have h6 := h.six
  simp [g_need_rule, d_need_rule, is_tuple_tup, first_in rs _ _ _ h.ok, h6, show (1 : Int) ≤ rs.length by omega, show (rs.length : Int) ≤ 6 by omega]
theorem need_row_ok {ns : List Int} (h : Row ns) (s : Sto) : g_need_row [tI ns] s = .ok (tI ns) s := by
  have h1 := h.most
  simp [g_need_row, d_need_row, is_tuple_tup, first_in ns _ _ _ h.ok, show (ns.length : Int) ≤ 200 by omega]
theorem need_row_of_ok {ns : List Int} (h : Row ns) {k : Int} (hk : k ≤ ns.length) (s : Sto) : g_need_row_of [tI ns, .int k] s = .ok (tI ns) s := by
  simp [g_need_row_of, d_need_row_of, need_row_ok h, show ¬ ((ns.length : Int) < k) by omega]
theorem index_of_ok {rs ns : List Int} (h : Rule rs) (hn : ns.length ≤ 200) (hl : rs.length ≤ ns.length) (s : Sto) : g_index_of [tI rs, tI ns] s = .ok (.int (idx rs ns)) s := by
  have h0 : 0 < rs.length := h.one
  have hc : mComp cF_index_of_1 [3, 4] ct_index_of_1 ci_index_of_1 ce_index_of_1 [some (tI rs), some (tI ns), some (lI (srt (last rs.length ns))), none, none] s = .ok (.lst ((rs.zip (srt (last rs.length ns))).map fun p => .int (p.1 * p.2))) s := by
    refine comp_mapA (e := fun p : Int × Int => .tup [.int p.1, .int p.2]) _ ?_ ?_ fun p hp => ?_
    · show R.ok (α := Src) { ws := zipD _ _ } s = _
      rw [zip_ints]
    · have := List.length_zip (l₁ := rs) (l₂ := srt (last rs.length ns))
      have := h.six
      unfold lim
      omega
    · refine ⟨[some (tI rs), some (tI ns), some (lI (srt (last rs.length ns))), some (.int p.1), some (.int p.2)], rfl, ?_⟩
      have hb := h.ok p.1 (List.of_mem_zip (a := p.1) (b := p.2) hp).1
      simp [ce_index_of_1, mul_ii (cm_l (j := p.2) ⟨show -(2 ^ 64) < p.1 by omega, show p.1 < 2 ^ 64 by omega⟩)]
  have hd : cutD (ns.map .int) (some (-(rs.length : Int))) none = (last rs.length ns).map .int := by
    rw [cut_last (by rw [List.length_map]; exact hl) h0, List.length_map, ← List.map_drop]
    rfl
  have e : ((rs.zip (srt (last rs.length ns))).map fun p => Dv.int (p.1 * p.2)) = ((rs.zip (srt (last rs.length ns))).map fun p => p.1 * p.2).map .int := by rw [List.map_map]; rfl
  rw [e] at hc
  simp [-List.map_map, g_index_of, d_index_of, hd, hc]
  rfl
end MP.PG
set_option Elab.async false
set_option linter.all false
set_option maxRecDepth 100000
set_option maxHeartbeats 400000
namespace MP.PG
open PySem PySem.Spec PyProof.Rows L2 MP
abbrev kCells : Key := .inr (Str.ofString "cells")
abbrev kLeft : Key := .inr (Str.ofString "left")
abbrev kSpot : Key := .inr (Str.ofString "spot")
abbrev Dc (cs : List Int) (l p : Int) : Ob := .dct [(kCells, .lst (cs.map .int)), (kLeft, .int l), (kSpot, .int p)]
/-- the store: what stands ahead, the state of the draws, what came behind -/
def St (pre tl : Sto) (cs : List Int) (l p : Int) : Sto := pre ++ Dc cs l p :: tl
section
variable {pre tl : Sto} {cs : List Int} {l p l' p' : Int}
theorem St_at : (St pre tl cs l p)[pre.length]? = some (Dc cs l p) := by
  unfold St
  rw [List.getElem?_append_right (Nat.le_refl _), Nat.sub_self]
  rfl
theorem St_dct : dctOf (St pre tl cs l p) (.ref pre.length) = some [(kCells, .lst (cs.map .int)), (kLeft, .int l), (kSpot, .int p)] := by
  unfold dctOf
  dsimp only
  rw [St_at]
theorem St_set : (St pre tl cs l p).set pre.length (Dc cs l' p') = St pre tl cs l' p' := by
  unfold St
  rw [List.set_append_right _ _ (Nat.le_refl _), Nat.sub_self]
  rfl
theorem St_len : (St pre tl cs l p).length = pre.length + (1 + tl.length) := by
  unfold St
  rw [List.length_append, List.length_cons]
  omega
theorem ix_dct {s : Sto} {n : Nat} {kws : List (Key × Dv)} {x : Str} (h : dctOf s (.ref n) = some kws) (hn : ∀ ws, s[n]? ≠ some (.lst ws)) : ixA s (.ref n) (.str x) = valD kws (.inr x) := by
  show (match (match ixL s (.ref n) (.str x) with | some w => some w | none => ixT s (.ref n) (.str x)) with | some w => some w | none => ixD s (.ref n) (.str x)) = _
  rw [show ixL s (.ref n) (.str x) = none from rfl, show ixT s (.ref n) (.str x) = none from rfl]
  dsimp only
  unfold ixD
  rw [h]
  rfl
theorem get_left : ixA (St pre tl cs l p) (.ref pre.length) (.str "left") = some (.int l) := (ix_dct St_dct fun ws h => by rw [St_at] at h; cases h).trans rfl
theorem get_spot : ixA (St pre tl cs l p) (.ref pre.length) (.str "spot") = some (.int p) := (ix_dct St_dct fun ws h => by rw [St_at] at h; cases h).trans rfl
theorem get_cells : ixA (St pre tl cs l p) (.ref pre.length) (.str "cells") = some (.lst (cs.map .int)) := (ix_dct St_dct fun ws h => by rw [St_at] at h; cases h).trans rfl
theorem put_ev {f h : FE} {ρ : Env} {s : Sto} {n : Nat} {x : Str} {v : Dv} {kws : List (Key × Dv)} (h0 : f ρ s = .ok (.ref n) s) (h2 : h ρ s = .ok v s) (h3 : s[n]? = some (.dct kws)) (hl : kws.length < lim) : mDPut f (mK (.str x)) h ρ s = .nx ρ (s.set n (.dct (putD kws (.inr x) v))) := by
  unfold mDPut
  rw [h2, then_ok, h0, then_ok, k_ev, then_ok]
  show (match s[n]? with
    | some (.dct kws) => if kws.length < lim then C.nx ρ (s.set n (.dct (putD kws (.inr x) v))) else .no
    | _ => .no) = _
  rw [h3]
  exact if_pos hl
theorem fin_St {w : Dv} : finC (St pre tl cs l p).length (.rt w (St pre tl cs l' p')) = .ok w (St pre tl cs l' p') := finW_le (by rw [St_len, St_len]; exact Nat.le_refl _)
end
theorem put_left {pre tl : Sto} {cs : List Int} {l p l' : Int} {ρ : Env} {f : FE} {i : Nat} (h0 : mVar 0 ρ (St pre tl cs l p) = .ok (.ref pre.length) (St pre tl cs l p)) (h : f ρ (St pre tl cs l p) = .ok (.int l') (St pre tl cs l p)) : mDPut (mVar 0) (mK (.str "left")) f ρ (St pre tl cs l p) = .nx ρ (St pre tl cs l' p) := by
  rw [put_ev h0 h St_at (by show 3 < lim; unfold lim; decide)]
  exact congrArg (C.nx ρ) St_set
theorem put_spot {pre tl : Sto} {cs : List Int} {l p p' : Int} {ρ : Env} {f : FE} {i : Nat} (h0 : mVar 0 ρ (St pre tl cs l p) = .ok (.ref pre.length) (St pre tl cs l p)) (h : f ρ (St pre tl cs l p) = .ok (.int p') (St pre tl cs l p)) : mDPut (mVar 0) (mK (.str "spot")) f ρ (St pre tl cs l p) = .nx ρ (St pre tl cs l p') := by
  rw [put_ev h0 h St_at (by show 3 < lim; unfold lim; decide)]
  exact congrArg (C.nx ρ) St_set
theorem mod_ii {s : Sto} {i j : Int} (h : 0 < j) : modD s (.int i) (.int j) = some (.int (i % j)) := if_pos h
theorem div_ii {s : Sto} {i j : Int} (h : 0 < j) (h2 : j < 1073741824) : divD s (.int i) (.int j) = some (.int (i / j)) := if_pos ⟨h, h2⟩
structure Drawn (many : Int) (pre tl : Sto) (cs : List Int) (p : Int) (rr : R Dv) : Prop where
  ok : ∃ d l' p', rr = .ok (.int d) (St pre tl cs l' p') ∧ 0 ≤ d ∧ d < many ∧ 0 ≤ p' ∧ p' ≤ p + 1
theorem draw_ok {pre tl : Sto} {cs : List Int} {l p many : Int} (hc : cs ≠ []) (hm : 0 < many) (hm2 : many < 1073741824) (hp : 0 ≤ p) (hp2 : p < 1000000) : Drawn many pre tl cs p (g__law_draw [.ref pre.length, .int many] (St pre tl cs l p)) := by
  have e0 : startD 6 [.ref pre.length, .int many] = [some (.ref pre.length), some (.int many), none, none, none, none] := rfl
  have eT : ∀ ρ : Env, mTest (mBin gtD (mBin ixA (mVar 0) (mK (.str "left"))) (mK (.int 0))) (some (.ref pre.length) :: ρ) (St pre tl cs l p) = .ok (decide (0 < l)) (St pre tl cs l p) := fun ρ => by
    rw [test_ev, bin_ev, bin_ev, var_0, bind_ok, k_ev, bind_ok, get_left, of_some, bind_ok, k_ev, bind_ok]
    rfl
  by_cases hl : 0 < l
  · refine ⟨l % many, l / many, p, ?_, Int.emod_nonneg _ (by omega), Int.emod_lt_of_pos _ hm, hp, by omega⟩
    have e1 : mAsg (mBin modD (mBlt intD (mCons (mBin ixA (mVar 0) (mK (.str "left"))) mNil)) (mVar 1)) (gN 2) [some (.ref pre.length), some (.int many), none, none, none, none] (St pre tl cs l p) = .nx [some (.ref pre.length), some (.int many), some (.int (l % many)), none, none, none] (St pre tl cs l p) := by
      rw [asgN_ev, bin_ev, blt_ev, cons_ev, bin_ev, var_0, bind_ok, k_ev, bind_ok, get_left, of_some, bind_ok, nil_ev, bind_ok, bind_ok, int_i, of_some, bind_ok, var_s, var_0, bind_ok, mod_ii hm, of_some, then_ok]
      rfl
    have e2 : mDPut (mVar 0) (mK (.str "left")) (mBin divD (mBin ixA (mVar 0) (mK (.str "left"))) (mVar 1)) [some (.ref pre.length), some (.int many), some (.int (l % many)), none, none, none] (St pre tl cs l p) = .nx [some (.ref pre.length), some (.int many), some (.int (l % many)), none, none, none] (St pre tl cs (l / many) p) := by
      refine put_left (i := 0) rfl ?_
      rw [bin_ev, bin_ev, var_0, bind_ok, k_ev, bind_ok, get_left, of_some, bind_ok, var_s, var_0, bind_ok, div_ii hm hm2, of_some]
    unfold g__law_draw d__law_draw
    rw [den_ev, e0, seq_ev, ifS_ev, eT, then_ok, decide_eq_true hl, if_pos rfl, seq_ev, e1, seqK_nx, seq_ev, e2, seqK_nx, ret_ev, var_s, var_s, var_0, then_ok, seqK_rt]
    exact fin_St
  · have hcl : 0 < cs.length := List.length_pos_iff.mpr hc
    have hx : ((p + 1) % (cs.length : Int)).toNat < cs.length := by
      have h1 := Int.emod_lt_of_pos (p + 1) (show (0 : Int) < cs.length by omega)
      have h2 := Int.emod_nonneg (p + 1) (show (cs.length : Int) ≠ 0 by omega)
      omega
    have hy : ((((p + 1) % (cs.length : Int)).toNat : Nat) : Int) = (p + 1) % (cs.length : Int) := Int.toNat_of_nonneg (Int.emod_nonneg _ (by omega))
    generalize hq : ((p + 1) % (cs.length : Int)).toNat = q at hx hy
    let c := cs[q]
    let m1 := (c % 2147483629 + 6133 * (p + 1) + 23 * (p + 1) * (p + 1)) * 48271
    let m2 := (m1 % 2147483647 + 93241 * (p + 1)) * 69621
    refine ⟨m2 % 2147483587 / 13 % many, l, p + 1, ?_, Int.emod_nonneg _ (by omega), Int.emod_lt_of_pos _ hm, by omega, by omega⟩
    have hcq : (cs.map Dv.int)[q]? = some (.int c) := by rw [List.getElem?_map, List.getElem?_eq_getElem hx]; rfl
    have e1 : mAsg (mBin addD (mBin ixA (mVar 0) (mK (.str "spot"))) (mK (.int 1))) (gN 3) [some (.ref pre.length), some (.int many), none, none, none, none] (St pre tl cs l p) = .nx [some (.ref pre.length), some (.int many), none, some (.int (p + 1)), none, none] (St pre tl cs l p) := by
      rw [asgN_ev, bin_ev, bin_ev, var_0, bind_ok, k_ev, bind_ok, get_spot, of_some, bind_ok, k_ev, bind_ok, add_ii, of_some, then_ok]
      rfl
    have e2 : mDPut (mVar 0) (mK (.str "spot")) (mVar 3) [some (.ref pre.length), some (.int many), none, some (.int (p + 1)), none, none] (St pre tl cs l p) = .nx [some (.ref pre.length), some (.int many), none, some (.int (p + 1)), none, none] (St pre tl cs l (p + 1)) := put_spot (i := 0) rfl rfl
    have e3 : mAsg (mBin ixA (mBin ixA (mVar 0) (mK (.str "cells"))) (mBin modD (mBlt intD (mCons (mVar 3) mNil)) (mBlt lenD (mCons (mBin ixA (mVar 0) (mK (.str "cells"))) mNil)))) (gN 4) [some (.ref pre.length), some (.int many), none, some (.int (p + 1)), none, none] (St pre tl cs l (p + 1)) = .nx [some (.ref pre.length), some (.int many), none, some (.int (p + 1)), some (.int c), none] (St pre tl cs l (p + 1)) := by
      rw [asgN_ev, bin_ev, bin_ev, var_0, bind_ok, k_ev, bind_ok, get_cells, of_some, bind_ok, bin_ev, blt_ev, cons_ev, var_s, var_s, var_s, var_0, bind_ok, nil_ev, bind_ok, bind_ok, int_i, of_some, bind_ok, blt_ev, cons_ev, bin_ev, var_0, bind_ok, k_ev, bind_ok, get_cells, of_some, bind_ok, nil_ev, bind_ok, bind_ok, len_lst, of_some, bind_ok, List.length_map, mod_ii (by omega), of_some, bind_ok, ← hy, ix_lst hcq, of_some, then_ok]
      rfl
    have ee : ∀ (z : Option Dv), mBlt intD (mCons (mVar 3) mNil) [some (.ref pre.length), some (.int many), none, some (.int (p + 1)), some (.int c), z] (St pre tl cs l (p + 1)) = .ok (.int (p + 1)) (St pre tl cs l (p + 1)) := fun z => by
      rw [blt_ev, cons_ev, var_s, var_s, var_s, var_0, bind_ok, nil_ev, bind_ok, bind_ok, int_i, of_some]
    have v3 : ∀ (z : Option Dv), mVar 3 [some (.ref pre.length), some (.int many), none, some (.int (p + 1)), some (.int c), z] (St pre tl cs l (p + 1)) = .ok (.int (p + 1)) (St pre tl cs l (p + 1)) := fun z => rfl
    have v4 : ∀ (z : Option Dv), mVar 4 [some (.ref pre.length), some (.int many), none, some (.int (p + 1)), some (.int c), z] (St pre tl cs l (p + 1)) = .ok (.int c) (St pre tl cs l (p + 1)) := fun z => rfl
    have v5 : ∀ (z : Int), mVar 5 [some (.ref pre.length), some (.int many), none, some (.int (p + 1)), some (.int c), some (.int z)] (St pre tl cs l (p + 1)) = .ok (.int z) (St pre tl cs l (p + 1)) := fun z => rfl
    have v1 : ∀ (z : Option Dv), mVar 1 [some (.ref pre.length), some (.int many), none, some (.int (p + 1)), some (.int c), z] (St pre tl cs l (p + 1)) = .ok (.int many) (St pre tl cs l (p + 1)) := fun z => rfl
    have s5 : ∀ (z : Option Dv) (u : Int), [some (.ref pre.length), some (.int many), none, some (.int (p + 1)), some (.int c), z].set 5 (some (Dv.int u)) = [some (.ref pre.length), some (.int many), none, some (.int (p + 1)), some (.int c), some (.int u)] := fun z u => rfl
    have e4 : mAsg (mBin mulD (mBlt intD (mCons (mBin addD (mBin addD (mBin modD (mBlt intD (mCons (mVar 4) mNil)) (mK (.int 2147483629))) (mBin mulD (mK (.int 6133)) (mVar 3))) (mBin mulD (mBin mulD (mK (.int 23)) (mVar 3)) (mVar 3))) mNil)) (mK (.int 48271))) (gN 5) [some (.ref pre.length), some (.int many), none, some (.int (p + 1)), some (.int c), none] (St pre tl cs l (p + 1)) = .nx [some (.ref pre.length), some (.int many), none, some (.int (p + 1)), some (.int c), some (.int m1)] (St pre tl cs l (p + 1)) := by
      simp only [asgN_ev, bin_ev, blt_ev, cons_ev, nil_ev, v4, v3, k_ev, bind_ok, int_i, of_some, mod_ii (show (0 : Int) < 2147483629 by decide), mul_ii (cm_l (i := 6133) (j := p + 1) (by decide)), mul_ii (cm_l (i := 23) (j := p + 1) (by decide)), mul_ii (cm_r (i := 23 * (p + 1)) (j := p + 1) ⟨by omega, by omega⟩), add_ii, mul_ii (cm_r (j := 48271) (by decide)), then_ok, s5]
      rfl
    have e5 : mAsg (mBin mulD (mBlt intD (mCons (mBin addD (mBin modD (mBlt intD (mCons (mVar 5) mNil)) (mK (.int 2147483647))) (mBin mulD (mK (.int 93241)) (mVar 3))) mNil)) (mK (.int 69621))) (gN 5) [some (.ref pre.length), some (.int many), none, some (.int (p + 1)), some (.int c), some (.int m1)] (St pre tl cs l (p + 1)) = .nx [some (.ref pre.length), some (.int many), none, some (.int (p + 1)), some (.int c), some (.int m2)] (St pre tl cs l (p + 1)) := by
      simp only [asgN_ev, bin_ev, blt_ev, cons_ev, nil_ev, v5, v3, k_ev, bind_ok, int_i, of_some, mod_ii (show (0 : Int) < 2147483647 by decide), mul_ii (cm_l (i := 93241) (j := p + 1) (by decide)), add_ii, mul_ii (cm_r (j := 69621) (by decide)), then_ok, s5]
      rfl
    have e6 : mRet (mBin modD (mBlt intD (mCons (mBin divD (mBin modD (mBlt intD (mCons (mVar 5) mNil)) (mK (.int 2147483587))) (mK (.int 13))) mNil)) (mVar 1)) [some (.ref pre.length), some (.int many), none, some (.int (p + 1)), some (.int c), some (.int m2)] (St pre tl cs l (p + 1)) = .rt (.int (m2 % 2147483587 / 13 % many)) (St pre tl cs l (p + 1)) := by
      simp only [ret_ev, bin_ev, blt_ev, cons_ev, nil_ev, v5, v1, k_ev, bind_ok, int_i, of_some, mod_ii (show (0 : Int) < 2147483587 by decide), div_ii (show (0 : Int) < 13 by decide) (by decide), mod_ii hm, then_ok]
    unfold g__law_draw d__law_draw
    rw [den_ev, e0, seq_ev, ifS_ev, eT, then_ok, decide_eq_false hl, if_neg (by decide), next_ev, seqK_nx, seq_ev, e1, seqK_nx, seq_ev, e2, seqK_nx, seq_ev, e3, seqK_nx, seq_ev, e4, seqK_nx, seq_ev, e5, seqK_nx, e6]
    exact fin_St
end MP.PG
set_option Elab.async false
set_option linter.all false
set_option maxRecDepth 100000
set_option maxHeartbeats 400000
namespace MP.PG
open PySem PySem.Spec PyProof.Rows L2 MP
theorem eq_ii {s : Sto} {a b : Int} : eqD s (.int a) (.int b) = some (.bl (decide (a = b))) := by
  have e : decide (V.int a = V.int b) = decide (a = b) := by
    by_cases h : a = b
    · rw [h, decide_eq_true rfl, decide_eq_true rfl]
    · rw [decide_eq_false h, decide_eq_false fun z => h (V.int.inj z)]
  show (some (decide (V.int a = V.int b))).map Dv.bl = _
  rw [e]
  rfl
/-- a row of draws -/
theorem weights_ok {pre tl : Sto} {cs : List Int} {l p : Int} (hc : cs ≠ []) {most : Int} (hm : 1 ≤ most) (hm6 : most ≤ 6) (hp : 0 ≤ p) (hp2 : p < 900000) : ∃ rs l' p', g__law_weights [.ref pre.length, .int most] (St pre tl cs l p) = .ok (tI rs) (St pre tl cs l' p') ∧ Rule rs ∧ 0 ≤ p' ∧ p' ≤ p + 8 ∧ (rs.length : Int) ≤ most := by
  obtain ⟨wd, l1, p1, d1, w0, w2, p10, p11⟩ := (draw_ok (l := l) hc (show (0 : Int) < 2 by decide) (by decide) hp (by omega)).ok
  obtain ⟨k, l2, p2, d2, k0, k6, p20, p21⟩ := (draw_ok (l := l1) hc (show (0 : Int) < most by omega) (by omega) p10 (by omega)).ok
  have e0 : startD 5 [.ref pre.length, .int most] = [some (.ref pre.length), some (.int most), none, none, none] := rfl
  have hF : cF__law_weights_1 [some (.ref pre.length), some (.int most), some (.int wd), none, none] (St pre tl cs l1 p1) = .ok { ws := rng 0 (1 + k).toNat } (St pre tl cs l2 p2) := by
    refine range1_ok ?_ (okR_s (by omega) (by omega))
    rw [cons_ev, bin_ev, k_ev, bind_ok, call_ev, cons_ev, var_0, bind_ok, cons_ev, var_s, var_0, bind_ok, nil_ev, bind_ok, bind_ok, bind_ok, d2, bind_ok, add_ii, of_some, bind_ok, nil_ev, bind_ok]
  obtain ⟨zs, s', c1, c2, rs, l3, p3, rfl, rfl, r1, r2, r3, r4⟩ := comp_ix (vs := [4]) (g := ct__law_weights_1) (elt := ce__law_weights_1) (fun i acc s => ∃ (rs : List Int) (l3 p3 : Int), acc = rs.map .int ∧ s = St pre tl cs l3 p3 ∧ rs.length = i ∧ (∀ r ∈ rs, -20 ≤ r ∧ r ≤ 20) ∧ 0 ≤ p3 ∧ p3 ≤ p + 2 + i)
    hF (by rw [rng_len]; unfold lim; omega) ⟨[], l2, p2, rfl, rfl, rfl, fun _ h => (nomatch h), p20, by omega⟩ fun i x acc s hx hJ => by
      obtain ⟨rs, l3, p3, rfl, rfl, r1, r2, r3, r4⟩ := hJ
      obtain ⟨hi, rfl⟩ := rng_get hx
      have hp3 : p3 < 1000000 := by omega
      obtain ⟨a, l4, p4, d4, a0, a1, p40, p41⟩ := (draw_ok (l := l3) hc (show (0 : Int) < 41 by decide) (by decide) r3 hp3).ok
      obtain ⟨b, l5, p5, d5, b0, b1, p50, p51⟩ := (draw_ok (l := l3) hc (show (0 : Int) < 4 by decide) (by decide) r3 hp3).ok
      have et : mTest (mBin eqD (mVar 2) (mK (.int 1))) [some (.ref pre.length), some (.int most), some (.int wd), none, some (.int (0 + (i : Int)))] (St pre tl cs l3 p3) = .ok (decide (wd = 1)) (St pre tl cs l3 p3) := by
        rw [test_ev, bin_ev, var_s, var_s, var_0, bind_ok, k_ev, bind_ok, eq_ii]
        rfl
      by_cases hw : wd = 1
      · refine ⟨[some (.ref pre.length), some (.int most), some (.int wd), none, some (.int (0 + (i : Int)))], .int (a - 20), St pre tl cs l4 p4, rfl, ?_, rs ++ [a - 20], l4, p4, by rw [List.map_append]; rfl, rfl, by rw [List.length_append, r1]; rfl, fun r hr => ?_, p40, by omega⟩
        · unfold ce__law_weights_1
          rw [if_ev, et, bind_ok, decide_eq_true hw, if_pos rfl, bin_ev, call_ev, cons_ev, var_0, bind_ok, cons_ev, k_ev, bind_ok, nil_ev, bind_ok, bind_ok, bind_ok, d4, bind_ok, k_ev, bind_ok, sub_ev, of_some]
        · rcases List.mem_append.mp hr with h | h
          · exact r2 r h
          · rw [List.mem_singleton.mp h]; omega
      · refine ⟨[some (.ref pre.length), some (.int most), some (.int wd), none, some (.int (0 + (i : Int)))], .int b, St pre tl cs l5 p5, rfl, ?_, rs ++ [b], l5, p5, by rw [List.map_append]; rfl, rfl, by rw [List.length_append, r1]; rfl, fun r hr => ?_, p50, by omega⟩
        · unfold ce__law_weights_1
          rw [if_ev, et, bind_ok, decide_eq_false hw, if_neg (by decide), call_ev, cons_ev, var_0, bind_ok, cons_ev, k_ev, bind_ok, nil_ev, bind_ok, bind_ok, bind_ok, d5]
        · rcases List.mem_append.mp hr with h | h
          · exact r2 r h
          · rw [List.mem_singleton.mp h]; omega
  rw [rng_len] at r1 r4
  refine ⟨rs, l3, p3, ?_, ⟨by omega, by omega, r2⟩, r3, by omega, by omega⟩
  have e1 : mAsg (mCall g__law_draw (mCons (mVar 0) (mCons (mK (.int 2)) mNil))) (gN 2) [some (.ref pre.length), some (.int most), none, none, none] (St pre tl cs l p) = .nx [some (.ref pre.length), some (.int most), some (.int wd), none, none] (St pre tl cs l1 p1) := by
    rw [asgN_ev, call_ev, cons_ev, var_0, bind_ok, cons_ev, k_ev, bind_ok, nil_ev, bind_ok, bind_ok, bind_ok, d1, then_ok]
    rfl
  have c1' : mComp cF__law_weights_1 [4] ct__law_weights_1 ci__law_weights_1 ce__law_weights_1 [some (.ref pre.length), some (.int most), some (.int wd), none, none] (St pre tl cs l1 p1) = .ok (.lst (rs.map .int)) (St pre tl cs l3 p3) := c1
  unfold g__law_weights d__law_weights
  rw [den_ev, e0, seq_ev, e1, seqK_nx, seq_ev, asgN_ev, c1', then_ok, seqK_nx]
  show finC (St pre tl cs l p).length (mRet (mBlt tupleD (mCons (mVar 3) mNil)) [some (.ref pre.length), some (.int most), some (.int wd), some (.lst (rs.map .int)), none] (St pre tl cs l3 p3)) = _
  rw [ret_ev, blt_ev, cons_ev, var_s, var_s, var_s, var_0, bind_ok, nil_ev, bind_ok, bind_ok, tuple_lst, of_some, then_ok]
  exact fin_St
theorem drawn_row_ok {pre tl : Sto} {cs : List Int} {l p least more high : Int} (hc : cs ≠ []) (hp : 0 ≤ p) (hp2 : p < 900000) (h0 : 0 ≤ least) (h1 : 0 ≤ more) (h2 : least + more ≤ 200) (h3 : 0 ≤ high) (h4 : high ≤ 1000000) :
    ∃ ns l' p', g__law_drawn_row [.ref pre.length, .int least, .int more, .int high] (St pre tl cs l p) = .ok (tI ns) (St pre tl cs l' p') ∧ least ≤ ns.length ∧ ns.length ≤ least + more ∧ (∀ n ∈ ns, 0 ≤ n ∧ n ≤ high) ∧ 0 ≤ p' ∧ p' ≤ p + 1 + (least + more) := by
  obtain ⟨k, l2, p2, d2, k0, k6, p20, p21⟩ := (draw_ok (l := l) hc (show (0 : Int) < more + 1 by omega) (by omega) hp (by omega)).ok
  have e0 : startD 5 [.ref pre.length, .int least, .int more, .int high] = [some (.ref pre.length), some (.int least), some (.int more), some (.int high), none] := rfl
  have hF : cF__law_drawn_row_1 [some (.ref pre.length), some (.int least), some (.int more), some (.int high), none] (St pre tl cs l p) = .ok { ws := rng 0 (least + k).toNat } (St pre tl cs l2 p2) := by
    refine range1_ok ?_ (okR_s (by omega) (by omega))
    rw [cons_ev, bin_ev, var_s, var_0, bind_ok, call_ev, cons_ev, var_0, bind_ok, cons_ev, bin_ev, var_s, var_s, var_0, bind_ok, k_ev, bind_ok, add_ii, of_some, bind_ok, nil_ev, bind_ok, bind_ok, bind_ok, d2, bind_ok, add_ii, of_some, bind_ok, nil_ev, bind_ok]
  obtain ⟨zs, s', c1, c2, rs, l3, p3, rfl, rfl, r1, r2, r3, r4⟩ := comp_ix (vs := [4]) (g := ct__law_drawn_row_1) (elt := ce__law_drawn_row_1) (fun i acc s => ∃ (rs : List Int) (l3 p3 : Int), acc = rs.map .int ∧ s = St pre tl cs l3 p3 ∧ rs.length = i ∧ (∀ r ∈ rs, 0 ≤ r ∧ r ≤ high) ∧ 0 ≤ p3 ∧ p3 ≤ p + 1 + i)
    hF (by rw [rng_len]; unfold lim; omega) ⟨[], l2, p2, rfl, rfl, rfl, fun _ h => (nomatch h), p20, by omega⟩ fun i x acc s hx hJ => by
      obtain ⟨rs, l3, p3, rfl, rfl, r1, r2, r3, r4⟩ := hJ
      obtain ⟨hi, rfl⟩ := rng_get hx
      obtain ⟨a, l4, p4, d4, a0, a1, p40, p41⟩ := (draw_ok (l := l3) hc (show (0 : Int) < high + 1 by omega) (by omega) r3 (by omega)).ok
      refine ⟨[some (.ref pre.length), some (.int least), some (.int more), some (.int high), some (.int (0 + (i : Int)))], .int a, St pre tl cs l4 p4, rfl, ?_, rs ++ [a], l4, p4, by rw [List.map_append]; rfl, rfl, by rw [List.length_append, r1]; rfl, fun r hr => ?_, p40, by omega⟩
      · unfold ce__law_drawn_row_1
        rw [call_ev, cons_ev, var_0, bind_ok, cons_ev, bin_ev, var_s, var_s, var_s, var_0, bind_ok, k_ev, bind_ok, add_ii, of_some, bind_ok, nil_ev, bind_ok, bind_ok, bind_ok, d4]
      · rcases List.mem_append.mp hr with h | h
        · exact r2 r h
        · rw [List.mem_singleton.mp h]; omega
  rw [rng_len] at r1 r4
  refine ⟨rs, l3, p3, ?_, by omega, by omega, r2, r3, by omega⟩
  have c1' : mComp cF__law_drawn_row_1 [4] ct__law_drawn_row_1 ci__law_drawn_row_1 ce__law_drawn_row_1 [some (.ref pre.length), some (.int least), some (.int more), some (.int high), none] (St pre tl cs l p) = .ok (.lst (rs.map .int)) (St pre tl cs l3 p3) := c1
  unfold g__law_drawn_row d__law_drawn_row
  rw [den_ev, e0, ret_ev, blt_ev, cons_ev, c1', bind_ok, nil_ev, bind_ok, bind_ok, tuple_lst, of_some, then_ok]
  exact fin_St
/-- one of some -/
theorem law_of_ok {pre tl : Sto} {cs : List Int} {l p : Int} {ws : List Dv} (hc : cs ≠ []) (hp : 0 ≤ p) (hp2 : p < 1000000) (hw : ws ≠ []) (hw2 : ws.length < 1000) : ∃ w l' p', w ∈ ws ∧ g__law_of [.ref pre.length, .lst ws] (St pre tl cs l p) = .ok w (St pre tl cs l' p') ∧ 0 ≤ p' ∧ p' ≤ p + 1 := by
  have hl : 0 < ws.length := List.length_pos_iff.mpr hw
  obtain ⟨k, l2, p2, d2, k0, k6, p20, p21⟩ := (draw_ok (l := l) hc (show (0 : Int) < ws.length by omega) (by omega) hp hp2).ok
  obtain ⟨j, rfl⟩ := Int.eq_ofNat_of_zero_le k0
  have hj : j < ws.length := by omega
  refine ⟨ws[j], l2, p2, List.getElem_mem hj, ?_, p20, p21⟩
  have e0 : startD 2 [.ref pre.length, .lst ws] = [some (.ref pre.length), some (.lst ws)] := rfl
  unfold g__law_of d__law_of
  rw [den_ev, e0, ret_ev, bin_ev, var_s, var_0, bind_ok, call_ev, cons_ev, var_0, bind_ok, cons_ev, blt_ev, cons_ev, var_s, var_0, bind_ok, nil_ev, bind_ok, bind_ok, len_lst, of_some, bind_ok, nil_ev, bind_ok, bind_ok, bind_ok, d2, bind_ok, ix_lst (List.getElem?_eq_getElem hj), of_some, then_ok]
  exact fin_St
end MP.PG
set_option Elab.async false
set_option linter.all false
set_option maxRecDepth 100000
set_option maxHeartbeats 400000
namespace MP.PG
open PySem PySem.Spec PyProof.Rows L2 MP
structure Term where
  rs : List Int
  a : Int
  b : Int
abbrev tm (t : Term) : Dv := .tup [tI t.rs, .int t.a, .int t.b]
abbrev bi (o : Int) (ts : List Term) : Dv := .tup [.int o, .tup (ts.map tm)]
structure TermOk (t : Term) : Prop where
  rule : Rule t.rs
  a0 : -50 ≤ t.a
  a1 : t.a ≤ 50
  b0 : -50 ≤ t.b
  b1 : t.b ≤ 50
structure Bill (o : Int) (ts : List Term) : Prop where
  o0 : -50 ≤ o
  o1 : o ≤ 50
  two : ts.length ≤ 2
  ok : ∀ t ∈ ts, TermOk t
abbrev lens (ts : List Term) : List Int := ts.map fun t => (t.rs.length : Int)
def wd (ts : List Term) : Nat := (maxO 1 (lens ts)).toNat
theorem lens_ok {ts : List Term} (h : ∀ t ∈ ts, TermOk t) : ∀ n ∈ lens ts, 1 ≤ n ∧ n ≤ 6 := fun n hn => by
  obtain ⟨t, ht, rfl⟩ := List.mem_map.mp hn
  have h1 := (h t ht).rule.one
  have h6 := (h t ht).rule.six
  omega
theorem maxO_rng {ns : List Int} (h : ∀ n ∈ ns, 1 ≤ n ∧ n ≤ 6) : 1 ≤ maxO 1 ns ∧ maxO 1 ns ≤ 6 := by
  cases ns with
  | nil => exact ⟨by decide, by decide⟩
  | cons a ns => exact h _ (foldl_max_mem ns a)
theorem maxO_ge {ns : List Int} {d n : Int} (h : n ∈ ns) : n ≤ maxO d ns := by
  cases ns with
  | nil => cases h
  | cons a ns =>
    obtain ⟨h1, h2⟩ := foldl_max_le ns a
    rcases List.mem_cons.mp h with rfl | h
    · exact h1
    · exact h2 n h
theorem maxO_one {ns : List Int} (h : ∀ n ∈ ns, 1 ≤ n ∧ n ≤ 6) : maxO 0 (1 :: ns) = maxO 1 ns := by
  cases ns with
  | nil => rfl
  | cons a ns =>
    show ns.foldl max (max 1 a) = ns.foldl max a
    rw [show max 1 a = a by have := (h a List.mem_cons_self).1; omega]
theorem wd_int {ts : List Term} (h : ∀ t ∈ ts, TermOk t) : maxO 1 (lens ts) = (wd ts : Int) := by
  have := (maxO_rng (lens_ok h)).1
  unfold wd
  omega
theorem wd_rng {ts : List Term} (h : ∀ t ∈ ts, TermOk t) : 1 ≤ wd ts ∧ wd ts ≤ 6 := by
  have := maxO_rng (lens_ok h)
  rw [wd_int h] at this
  omega
theorem wd_ge {ts : List Term} (h : ∀ t ∈ ts, TermOk t) {t : Term} (ht : t ∈ ts) : t.rs.length ≤ wd ts := by
  have := maxO_ge (d := 1) (List.mem_map.mpr ⟨t, ht, rfl⟩ : (t.rs.length : Int) ∈ lens ts)
  rw [wd_int h] at this
  omega
variable {s : Sto} {o : Int} {ts : List Term} {ns : List Int}
theorem is_rule_ok {rs : List Int} (h : Rule rs) : g_is_rule [tI rs] s = .ok (.bl true) s := by
  have e0 : startD 1 [tI rs] = [some (tI rs)] := rfl
  have e1 : mTryN (mExpr (mCall g_need_rule (mCons (mVar 0) mNil))) [some (tI rs)] s = .nx [some (tI rs)] s := by
    unfold mTryN
    rw [expr_ev, call_v (cons_v (w := tI rs) rfl nil_ev) (need_rule_ok h s), then_ok]
  unfold g_is_rule d_is_rule
  rw [den_ev, e0, seq_nx e1 (ret_v k_ev), finC_rt]
theorem is_factor_ok {i : Int} (h : -50 ≤ i) (h2 : i ≤ 50) : g_is_factor [.int i] s = .ok (.bl true) s := by
  have e0 : startD 1 [.int i] = [some (.int i)] := rfl
  have := is_int_within_int i (-50) 50 s
  rw [decide_eq_true h, decide_eq_true h2] at this
  unfold g_is_factor d_is_factor
  rw [den_ev, e0]
  simp [this]
theorem is_term_ok {t : Term} (h : TermOk t) : g_is_term [tm t] s = .ok (.bl true) s := by
  have e0 : startD 4 [tm t] = [some (tm t), none, none, none] := rfl
  have e1 := is_tuple_tup [tI t.rs, .int t.a, .int t.b] 3 3 s
  have e2 : g_is_tuple [tm t, .int 3, .int 3] s = .ok (.bl true) s := e1
  have e3 : mAsg (mVar 0) (gT 3 (gsC (gN 1) (gsC (gN 2) (gsC (gN 3) gs0)))) [some (tm t), none, none, none] s = .nx [some (tm t), some (tI t.rs), some (.int t.a), some (.int t.b)] s := rfl
  unfold g_is_term d_is_term
  rw [den_ev, e0, seq_nx ((ifS_f (by rw [not_ev, test_v (call_v (cons_v (w := tm t) rfl (cons_v k_ev (cons_v k_ev nil_ev))) e2), bind_ok]; rfl)).trans next_ev) (seq_nx e3 (ret_v (w := .bl true) ?_))]
  · exact finC_rt
  · rw [andV_ev, call_v (cons_v (w := tI t.rs) rfl nil_ev) (is_rule_ok h.rule), bind_ok, andK_bl, if_pos rfl, andV_ev, call_v (cons_v (w := .int t.a) rfl nil_ev) (is_factor_ok h.a0 h.a1), bind_ok, andK_bl, if_pos rfl, call_v (cons_v (w := .int t.b) rfl nil_ev) (is_factor_ok h.b0 h.b1)]
theorem need_bill_ok (h : Bill o ts) : g_need_bill [bi o ts] s = .ok (bi o ts) s := by
  have h2 := h.two
  have e0 : startD 5 [bi o ts] = [some (bi o ts), none, none, none, none] := rfl
  have e2 : g_is_tuple [bi o ts, .int 2, .int 2] s = .ok (.bl true) s := is_tuple_tup [.int o, .tup (ts.map tm)] 2 2 s
  have e4 : g_is_tuple [.tup (ts.map tm), .int 0, .int 2] s = .ok (.bl true) s := by
    rw [is_tuple_tup, List.length_map, decide_eq_true (by omega), decide_eq_true (by omega)]
    rfl
  have e3 : mAsg (mVar 0) (gT 2 (gsC (gN 1) (gsC (gN 2) gs0))) [some (bi o ts), none, none, none, none] s = .nx [some (bi o ts), some (.int o), some (.tup (ts.map tm)), none, none] s := rfl
  obtain ⟨ρ', s', h1, rfl, x, y, rfl⟩ := for_ix (g := t_need_bill_1) (body := b_need_bill_1) (F := F_need_bill_1) (ρ := [some (bi o ts), some (.int o), some (.tup (ts.map tm)), none, none]) (s := s) (s1 := s) (xs := enumD 0 (ts.map tm))
    (fun _ ρ s' => s' = s ∧ ∃ x y, ρ = [some (bi o ts), some (.int o), some (.tup (ts.map tm)), x, y]) rfl ⟨rfl, _, _, rfl⟩ (fun i x ρ s' hx hJ => by
      obtain ⟨rfl, y, z, rfl⟩ := hJ
      obtain ⟨w, hw, rfl⟩ := enumD_get hx
      rw [List.getElem?_map] at hw
      cases hn : ts[i]? with
      | none => rw [hn] at hw; cases hw
      | some t =>
        rw [hn] at hw
        cases hw
        refine ⟨[some (bi o ts), some (.int o), some (.tup (ts.map tm)), some (.int (0 + i : Nat)), some (tm t)], [some (bi o ts), some (.int o), some (.tup (ts.map tm)), some (.int (0 + i : Nat)), some (tm t)], s', rfl, .inl ?_, rfl, _, _, rfl⟩
        unfold b_need_bill_1
        exact (ifS_f (by rw [not_ev, test_v (call_v (cons_v (w := tm t) rfl nil_ev) (is_term_ok (h.ok t (List.mem_of_getElem? hn)))), bind_ok]; rfl)).trans next_ev)
  unfold g_need_bill d_need_bill
  rw [den_ev, e0, seq_nx ((ifS_f (by rw [not_ev, test_v (call_v (cons_v (w := bi o ts) rfl (cons_v k_ev (cons_v k_ev nil_ev))) e2), bind_ok]; rfl)).trans next_ev) (seq_nx e3
    (seq_nx ((ifS_f (by rw [not_ev, test_v (call_v (cons_v (w := .int o) rfl nil_ev) (is_factor_ok h.o0 h.o1)), bind_ok]; rfl)).trans next_ev)
    (seq_nx ((ifS_f (by rw [not_ev, test_v (call_v (cons_v (w := .tup (ts.map tm)) rfl (cons_v k_ev (cons_v k_ev nil_ev))) e4), bind_ok]; rfl)).trans next_ev)
    (seq_nx h1 (ret_v (w := bi o ts) rfl)))))]
  exact finC_rt
theorem ix_tup0 {a : Dv} {ws : List Dv} : ixA s (.tup (a :: ws)) (.int 0) = some a := ix_tup (k := 0) rfl
theorem ix_tup1 {a b : Dv} {ws : List Dv} : ixA s (.tup (a :: b :: ws)) (.int 1) = some b := ix_tup (k := 1) rfl
theorem width_of_ok (h : ∀ t ∈ ts, TermOk t) (h2 : ts.length ≤ 2) : g_width_of [bi o ts] s = .ok (.int (wd ts)) s := by
  have e0 : startD 2 [bi o ts] = [some (bi o ts), none] := rfl
  have hc : mComp cF_width_of_1 [1] ct_width_of_1 ci_width_of_1 ce_width_of_1 [some (bi o ts), none] s = .ok (lI (lens ts)) s := by
    have : mComp cF_width_of_1 [1] ct_width_of_1 ci_width_of_1 ce_width_of_1 [some (bi o ts), none] s = .ok (.lst (ts.map fun t => .int (t.rs.length : Int))) s := by
      refine comp_mapA (e := tm) _ ?_ (by unfold lim; omega) fun t _ => ⟨[some (bi o ts), some (tm t)], rfl, ?_⟩
      · unfold cF_width_of_1 iSeq
        rw [bin_v (x := bi o ts) rfl k_ev ix_tup1, bind_ok]
        rfl
      · unfold ce_width_of_1
        exact blt_v (cons_v (bin_v (x := tm t) rfl k_ev ix_tup0) nil_ev) (by rw [len_tup, List.length_map])
    rw [this]
    unfold lI lens
    rw [List.map_map]
    rfl
  have hm : maxDefD s (lI (lens ts)) (.int 1) = some (.int (wd ts)) := by
    show (match lstOf s (lI (lens ts)) with
      | some ws => (intsOf ws).map fun ns => Dv.int (maxO 1 ns)
      | none => none) = _
    show (intsOf ((lens ts).map .int)).map (fun ns => Dv.int (maxO 1 ns)) = _
    rw [intsOf_map, Option.map_some, wd_int h]
  unfold g_width_of d_width_of
  rw [den_ev, e0, ret_v (bin_v hc k_ev hm), finC_rt]
def seg (rs ns : List Int) (e : Nat) : List Int := (ns.drop (e - rs.length)).take rs.length
/-- the index of the results that end at e -/
def ixe (rs ns : List Int) (e : Nat) : Int := dot rs (srt (seg rs ns e))
def ps (o : Int) (ts : List Term) (ns : List Int) (e : Nat) : Int := o * ns.getD e 0 + (ts.map fun t => t.a * ixe t.rs ns e + t.b * ixe t.rs ns (e + 1)).sum
theorem ixe_of {rs : List Int} {i k : Nat} (hk : rs.length ≤ k) (hn : i + k ≤ ns.length) : idx rs ((ns.drop i).take k) = ixe rs ns (i + k) := by
  unfold idx ixe seg last
  rw [List.length_take, List.length_drop, Nat.min_eq_left (by omega), List.drop_take, List.drop_drop]
  rw [show i + (k - rs.length) = i + k - rs.length by omega, show k - (k - rs.length) = rs.length by omega]
theorem last_pay_ok {xs : List Int} {v : Int} (h : Bill o ts) (hr : ∀ t ∈ ts, t.rs.length ≤ xs.length) (hx : xs.length < 200) : g_last_pay [bi o ts, tI (xs ++ [v])] s = .ok (.int (o * v + (ts.map fun t => t.a * idx t.rs xs + t.b * idx t.rs (xs ++ [v])).sum)) s := by
  have h2 := h.two
  have e0 : startD 9 [bi o ts, tI (xs ++ [v])] = [some (bi o ts), some (tI (xs ++ [v])), none, none, none, none, none, none, none] := rfl
  have e1 : mAsg (mVar 0) (gT 2 (gsC (gN 2) (gsC (gN 3) gs0))) [some (bi o ts), some (tI (xs ++ [v])), none, none, none, none, none, none, none] s = .nx [some (bi o ts), some (tI (xs ++ [v])), some (.int o), some (.tup (ts.map tm)), none, none, none, none, none] s := rfl
  have hcut : cutD ((xs ++ [v]).map Dv.int) none (some (-1)) = xs.map .int := by
    unfold cutD
    rw [HT.sIx_none]
    have e : HT.sIx ((xs ++ [v]).map Dv.int).length ((xs ++ [v]).map Dv.int).length (some (-1)) = xs.length := by
      show (if (-1 : Int) < 0 then (-1 + (((xs ++ [v]).map Dv.int).length : Int)).toNat else min (-1 : Int).toNat ((xs ++ [v]).map Dv.int).length) = _
      rw [if_pos (by decide), List.length_map, List.length_append]
      show (-1 + ((xs.length + 1 : Nat) : Int)).toNat = _
      omega
    rw [e, List.map_append, List.drop_zero, Nat.sub_zero, List.take_left' (by rw [List.length_map])]
  have e2 : mAsg (mSl slA (mVar 1) mNoPart (mPart (mUn negD (mK (.int 1))))) (gN 4) [some (bi o ts), some (tI (xs ++ [v])), some (.int o), some (.tup (ts.map tm)), none, none, none, none, none] s = .nx [some (bi o ts), some (tI (xs ++ [v])), some (.int o), some (.tup (ts.map tm)), some (tI xs), none, none, none, none] s := by
    refine (asg_v (w := tI xs) ?_).trans rfl
    rw [sl_ev, show mVar 1 [some (bi o ts), some (tI (xs ++ [v])), some (.int o), some (.tup (ts.map tm)), none, none, none, none, none] s = .ok (tI (xs ++ [v])) s from rfl, bind_ok, nopart_ev, bind_ok, part_ev, un_ev, k_ev, bind_ok, neg_ev, of_some, bind_ok]
    dsimp only
    rw [bind_ok, sl_tup, hcut, of_some]
  have hc : mComp cF_last_pay_1 [6, 7, 8] ct_last_pay_1 ci_last_pay_1 ce_last_pay_1 [some (bi o ts), some (tI (xs ++ [v])), some (.int o), some (.tup (ts.map tm)), some (tI xs), none, none, none, none] s = .ok (lI (ts.map fun t => t.a * idx t.rs xs + t.b * idx t.rs (xs ++ [v]))) s := by
    have : mComp cF_last_pay_1 [6, 7, 8] ct_last_pay_1 ci_last_pay_1 ce_last_pay_1 [some (bi o ts), some (tI (xs ++ [v])), some (.int o), some (.tup (ts.map tm)), some (tI xs), none, none, none, none] s = .ok (.lst (ts.map fun t => .int (t.a * idx t.rs xs + t.b * idx t.rs (xs ++ [v])))) s := by
      refine comp_mapA (e := tm) _ rfl (by unfold lim; omega) fun t ht => ⟨[some (bi o ts), some (tI (xs ++ [v])), some (.int o), some (.tup (ts.map tm)), some (tI xs), none, some (tI t.rs), some (.int t.a), some (.int t.b)], rfl, ?_⟩
      have hk := h.ok t ht
      have hl := hr t ht
      have a0 := hk.a0
      have a1 := hk.a1
      have b0 := hk.b0
      have b1 := hk.b1
      unfold ce_last_pay_1
      refine bin_v (bin_v (x := .int t.a) rfl (call_v (cons_v (w := tI t.rs) rfl (cons_v (w := tI xs) rfl nil_ev)) (index_of_ok hk.rule (by omega) hl s)) (mul_ii (cm_l ⟨by omega, by omega⟩)))
        (bin_v (x := .int t.b) rfl (call_v (cons_v (w := tI t.rs) rfl (cons_v (w := tI (xs ++ [v])) rfl nil_ev)) (index_of_ok hk.rule (by rw [List.length_append]; show xs.length + 1 ≤ 200; omega) (by rw [List.length_append]; omega) s)) (mul_ii (cm_l ⟨by omega, by omega⟩))) add_ii
    rw [this]
    unfold lI
    rw [List.map_map]
    rfl
  have hl : mBin ixA (mVar 1) (mUn negD (mK (.int 1))) [some (bi o ts), some (tI (xs ++ [v])), some (.int o), some (.tup (ts.map tm)), some (tI xs), some (lI (ts.map fun t => t.a * idx t.rs xs + t.b * idx t.rs (xs ++ [v]))), none, none, none] s = .ok (.int v) s := by
    refine bin_v (x := tI (xs ++ [v])) (y := .int (-1)) rfl (by rw [un_ev, k_ev, bind_ok, neg_ev, of_some]) ?_
    have e : ixT s (tI (xs ++ [v])) (.int (-1)) = some (.int v) := by
      show atI ((xs ++ [v]).map Dv.int) (-1) = _
      rw [List.map_append]
      exact atI_last _ _
    show (match (match ixL s (tI (xs ++ [v])) (.int (-1)) with | some w => some w | none => ixT s (tI (xs ++ [v])) (.int (-1))) with | some w => some w | none => ixD s (tI (xs ++ [v])) (.int (-1))) = _
    rw [show ixL s (tI (xs ++ [v])) (.int (-1)) = none from rfl, e]
  have o0 := h.o0
  have o1 := h.o1
  unfold g_last_pay d_last_pay
  rw [den_ev, e0, seq_nx e1 (seq_nx e2 (seq_nx ((asg_v hc).trans rfl) (ret_v (bin_v (bin_v (x := .int o) rfl hl (mul_ii (cm_l ⟨by omega, by omega⟩))) (blt_v (cons_v (w := lI (ts.map fun t => t.a * idx t.rs xs + t.b * idx t.rs (xs ++ [v]))) rfl nil_ev) sum_LI) add_ii))))]
  exact finC_rt
/-- what all pay but the first ones -/
abbrev pys (o : Int) (ts : List Term) (ns : List Int) : List Int := (List.range (ns.length - wd ts)).map fun i => ps o ts ns (wd ts + i)
theorem pays_of_ok (h : Bill o ts) (hn : Row ns) (hw : wd ts ≤ ns.length) : g_pays_of [bi o ts, tI ns] s = .ok (tI (pys o ts ns)) s := by
  have hn2 := hn.most
  obtain ⟨w1, w6⟩ := wd_rng h.ok
  have e0 : startD 4 [bi o ts, tI ns] = [some (bi o ts), some (tI ns), none, none] := rfl
  have e1 : mAsg (mCall g_width_of (mCons (mVar 0) mNil)) (gN 2) [some (bi o ts), some (tI ns), none, none] s = .nx [some (bi o ts), some (tI ns), some (.int (wd ts)), none] s :=
    (asg_v (call_v (cons_v (w := bi o ts) rfl nil_ev) (width_of_ok h.ok h.two))).trans rfl
  have hc : mComp cF_pays_of_1 [3] ct_pays_of_1 ci_pays_of_1 ce_pays_of_1 [some (bi o ts), some (tI ns), some (.int (wd ts)), none] s = .ok (lI (pys o ts ns)) s := by
    have : mComp cF_pays_of_1 [3] ct_pays_of_1 ci_pays_of_1 ce_pays_of_1 [some (bi o ts), some (tI ns), some (.int (wd ts)), none] s = .ok (.lst ((List.range (ns.length - wd ts)).map fun i => .int (ps o ts ns (wd ts + i)))) s := by
      refine comp_mapA (e := fun i : Nat => .int ((wd ts : Int) + (i : Int))) _ ?_ ?_ fun i hi => ⟨[some (bi o ts), some (tI ns), some (.int (wd ts)), some (.int ((wd ts : Int) + (i : Int)))], rfl, ?_⟩
      · have e1 : ((ns.length : Int) - (wd ts : Int)).toNat = ns.length - wd ts := by omega
        have := range2_ok (fa := mCons (mVar 2) (mCons (mBlt lenD (mCons (mVar 1) mNil)) mNil)) (ρ := [some (bi o ts), some (tI ns), some (.int (wd ts)), none]) (s := s) (s1 := s) (i := wd ts) (j := ns.length)
          (cons_v (w := .int (wd ts)) rfl (cons_v (blt_v (cons_v (w := tI ns) rfl nil_ev) (by rw [len_tup, List.length_map])) nil_ev)) (okR_s (by omega) (by omega)) (okR_s (by omega) (by omega))
        rw [e1, rng_ev] at this
        exact this
      · rw [List.length_range]
        unfold lim
        omega
      · have hi' := List.mem_range.mp hi
        have hv : ns[wd ts + i]? = some (ns.getD (wd ts + i) 0) := by
          rw [List.getD_eq_getElem?_getD, List.getElem?_eq_getElem (by omega)]
          rfl
        have ht : (ns.drop i).take (wd ts + 1) = (ns.drop i).take (wd ts) ++ [ns.getD (wd ts + i) 0] := by
          rw [List.take_succ, List.getElem?_drop, Nat.add_comm i, hv]
          rfl
        have e2 : cutD (ns.map .int) (some ((wd ts : Int) + (i : Int) - (wd ts : Int))) (some ((wd ts : Int) + (i : Int) + 1)) = ((ns.drop i).take (wd ts) ++ [ns.getD (wd ts + i) 0]).map .int := by
          rw [show ((wd ts : Int) + (i : Int) - (wd ts : Int)) = (i : Int) by omega, show ((wd ts : Int) + (i : Int) + 1) = ((wd ts + i + 1 : Nat) : Int) by omega, cut_mid (by rw [List.length_map]; omega) (by rw [List.length_map]; omega), ← List.map_drop, ← List.map_take, show wd ts + i + 1 - i = wd ts + 1 by omega, ht]
        have hl : ((ns.drop i).take (wd ts)).length = wd ts := by rw [List.length_take, List.length_drop]; omega
        have := last_pay_ok (s := s) (xs := (ns.drop i).take (wd ts)) (v := ns.getD (wd ts + i) 0) h (fun t ht => by rw [hl]; exact wd_ge h.ok ht) (by rw [hl]; omega)
        unfold ce_pays_of_1
        refine call_v (cons_v (w := bi o ts) rfl (cons_v (w := tI ((ns.drop i).take (wd ts) ++ [ns.getD (wd ts + i) 0])) ?_ nil_ev)) (this.trans ?_)
        · rw [sl_ev, show mVar 1 [some (bi o ts), some (tI ns), some (.int (wd ts)), some (.int ((wd ts : Int) + (i : Int)))] s = .ok (tI ns) s from rfl, bind_ok, part_ev, bin_v (x := .int ((wd ts : Int) + (i : Int))) (y := .int (wd ts)) rfl rfl sub_ev, bind_ok]
          dsimp only
          rw [bind_ok, part_ev, bin_v (x := .int ((wd ts : Int) + (i : Int))) rfl k_ev add_ii, bind_ok]
          dsimp only
          rw [bind_ok, sl_tup, e2, of_some]
        · unfold ps
          congr 3
          congr 1
          refine List.map_congr_left fun t hm => ?_
          have hk := wd_ge h.ok hm
          rw [← ht, ixe_of hk (by omega), ixe_of (by omega) (by omega), show i + wd ts = wd ts + i by omega, show i + (wd ts + 1) = wd ts + i + 1 by omega]
    rw [this]
    unfold lI pys
    rw [List.map_map]
    rfl
  unfold g_pays_of d_pays_of
  rw [den_ev, e0, seq_nx e1 (ret_v (blt_v (cons_v hc nil_ev) tuple_lst))]
  exact finC_rt
theorem pays_ok (h : Bill o ts) (hn : Row ns) (hw : wd ts ≤ ns.length) : g_pays [bi o ts, tI ns] s = .ok (tI (pys o ts ns)) s := by
  have e0 : startD 2 [bi o ts, tI ns] = [some (bi o ts), some (tI ns)] := rfl
  have e1 : mExpr (mCall g_need_bill (mCons (mVar 0) mNil)) [some (bi o ts), some (tI ns)] s = .nx [some (bi o ts), some (tI ns)] s := by
    rw [expr_ev, call_v (cons_v (w := bi o ts) rfl nil_ev) (need_bill_ok h), then_ok]
  have e2 : mExpr (mCall g_need_row_of (mCons (mVar 1) (mCons (mCall g_width_of (mCons (mVar 0) mNil)) mNil))) [some (bi o ts), some (tI ns)] s = .nx [some (bi o ts), some (tI ns)] s := by
    rw [expr_ev, call_v (cons_v (w := tI ns) rfl (cons_v (call_v (cons_v (w := bi o ts) rfl nil_ev) (width_of_ok h.ok h.two)) nil_ev)) (need_row_of_ok hn (by omega) s), then_ok]
  unfold g_pays d_pays
  rw [den_ev, e0, seq_nx e1 (seq_nx e2 (ret_v (call_v (cons_v (w := bi o ts) rfl (cons_v (w := tI ns) rfl nil_ev)) (pays_of_ok h hn hw))))]
  exact finC_rt
theorem worth_ok (h : Bill o ts) (hn : Row ns) (hw : wd ts ≤ ns.length) : g_worth [bi o ts, tI ns] s = .ok (.int (pys o ts ns).sum) s := by
  have e0 : startD 2 [bi o ts, tI ns] = [some (bi o ts), some (tI ns)] := rfl
  unfold g_worth d_worth
  rw [den_ev, e0, ret_v (blt_v (cons_v (call_v (cons_v (w := bi o ts) rfl (cons_v (w := tI ns) rfl nil_ev)) (pays_ok h hn hw)) nil_ev) sum_TI)]
  exact finC_rt
end MP.PG
set_option Elab.async false
set_option linter.all false
set_option maxRecDepth 100000
set_option maxHeartbeats 400000
namespace MP.PG
open PySem PySem.Spec PyProof.Rows L2 MP
theorem dot_take {rs ms : List Int} {i : Nat} {a b : Int} (h1 : rs[i]? = some a) (h2 : ms[i]? = some b) : dot (rs.take (i + 1)) (ms.take (i + 1)) = dot (rs.take i) (ms.take i) + a * b := by
  obtain ⟨l1, e1⟩ := List.getElem?_eq_some_iff.mp h1
  obtain ⟨l2, e2⟩ := List.getElem?_eq_some_iff.mp h2
  unfold dot
  rw [List.take_succ, List.take_succ, h1, h2]
  rw [List.zip_append (by rw [List.length_take, List.length_take]; omega), List.map_append, List.sum_append]
  simp
theorem law_index_ok {rs ns : List Int} (h : Rule rs) (hl : ns.length = rs.length) (s : Sto) : g__law_index [tI rs, tI ns] s = .ok (.int (dot rs (srt ns))) s := by
  have h6 := h.six
  have hs : (srt ns).length = rs.length := by rw [(srt_perm ns).length_eq, hl]
  have hF : F__law_index_1 [some (tI rs), some (tI ns), some (.int 0), some (lI (srt ns)), none] s = .ok { ws := rng 0 rs.length } s :=
    range1_ok (fa := mCons (mBlt lenD (mCons (mVar 0) mNil)) mNil) (j := rs.length) (by simp) (okR_s (by omega) (by omega))
  obtain ⟨ρ', s', h1, h2⟩ := for_ix (g := t__law_index_1) (body := b__law_index_1)
    (fun i ρ s' => s' = s ∧ ∃ y, ρ = [some (tI rs), some (tI ns), some (.int (dot (rs.take i) ((srt ns).take i))), some (lI (srt ns)), y]) hF ⟨rfl, _, rfl⟩ (fun i x ρ s' hx hJ => by
      obtain ⟨rfl, y, rfl⟩ := hJ
      obtain ⟨hi, rfl⟩ := rng_get hx
      have a1 : rs[i]? = some rs[i] := List.getElem?_eq_getElem hi
      have a2 : (srt ns)[i]? = some ((srt ns)[i]'(by omega)) := List.getElem?_eq_getElem _
      have b1 : (rs.map Dv.int)[i]? = some (.int rs[i]) := by rw [List.getElem?_map, a1]; rfl
      have b2 : ((srt ns).map Dv.int)[i]? = some (.int ((srt ns)[i]'(by omega))) := by rw [List.getElem?_map, a2]; rfl
      have hb := h.ok rs[i] (List.getElem_mem hi)
      refine ⟨[some (tI rs), some (tI ns), some (.int (dot (rs.take i) ((srt ns).take i))), some (lI (srt ns)), some (.int (0 + (i : Int)))], [some (tI rs), some (tI ns), some (.int (dot (rs.take (i + 1)) ((srt ns).take (i + 1)))), some (lI (srt ns)), some (.int (0 + (i : Int)))], s', rfl, .inl ?_, rfl, _, rfl⟩
      rw [dot_take a1 a2, Int.zero_add]
      unfold b__law_index_1
      rw [asgN_ev, bin_ev, var_s, var_s, var_0, bind_ok, bin_ev, bin_ev, var_0, bind_ok, var_s, var_s, var_s, var_s, var_0, bind_ok, ix_tup b1, of_some, bind_ok, bin_ev, var_s, var_s, var_s, var_0, bind_ok, var_s, var_s, var_s, var_s, var_0, bind_ok, ix_lst b2, of_some, bind_ok, mul_ii (cm_l ⟨by omega, by omega⟩), of_some, bind_ok, add_ii, of_some, then_ok]
      rfl)
  obtain ⟨rfl, y, rfl⟩ := h2
  have hr : (rng 0 rs.length).length = rs.length := rng_len _ _
  rw [hr, List.take_of_length_le (Nat.le_refl _), List.take_of_length_le (by omega)] at h1
  have e1 : mPar 2 3 (mCons (mK (.int 0)) (mCons (mBlt sortedA (mCons (mVar 1) mNil)) mNil)) [some (tI rs), some (tI ns), none, none, none] s' = .nx [some (tI rs), some (tI ns), some (.int 0), some (lI (srt ns)), none] s' := by
    rw [par_ev]
    simp
  have e0 : startD 5 [tI rs, tI ns] = [some (tI rs), some (tI ns), none, none, none] := rfl
  unfold g__law_index d__law_index
  rw [den_ev, e0, seq_ev, e1, seqK_nx, seq_ev, h1, seqK_nx, ret_ev, var_s, var_s, var_0, then_ok, finC_rt]
theorem cleans_int (n : Nat) : ∀ l : List Int, cleans n (l.map .int) = true
  | [] => rfl
  | _ :: l => by
    show (true && cleans n (l.map .int)) = true
    rw [cleans_int n l]
    rfl
theorem clean_tm (n : Nat) (t : Term) : clean n (tm t) = true := by
  show (cleans n (t.rs.map .int) && (true && (true && true))) = true
  rw [cleans_int]
  rfl
theorem cleans_tm (n : Nat) : ∀ l : List Term, cleans n (l.map tm) = true
  | [] => rfl
  | t :: l => by
    show (clean n (tm t) && cleans n (l.map tm)) = true
    rw [clean_tm, cleans_tm n l]
    rfl
theorem clean_bi (n : Nat) (o : Int) (ts : List Term) : clean n (bi o ts) = true := by
  show (true && (cleans n (ts.map tm) && true)) = true
  rw [cleans_tm]
  rfl
theorem fz_ints {s : Sto} {n k : Nat} : ∀ l : List Int, mapO (fz (k + 1) s n) (l.map .int) = some (l.map .int)
  | [] => rfl
  | a :: l => by
    have e : fz (k + 1) s n (.int a) = some (.int a) := by
      unfold fz
      exact if_pos rfl
    rw [List.map_cons]
    unfold mapO
    rw [e, fz_ints l]
/-- the place behind all -/
def r1 (pre os : Sto) : Nat := pre.length + 1 + os.length
def ClP (pre os : Sto) : Prop := ∀ n, pre.all (Ob.clean n) = true ∧ os.all (Ob.clean n) = true
theorem St_clean {n : Nat} {pre os : Sto} {cs : List Int} {l p : Int} (ho : ClP pre os) : (St pre os cs l p).all (Ob.clean n) = true := by
  unfold St
  rw [List.all_append, (ho n).1]
  show (true && ((cleans n (cs.map .int) && (true && (true && true))) && os.all (Ob.clean n))) = true
  rw [cleans_int, (ho n).2]
  rfl
theorem St_app {pre os us : Sto} {cs : List Int} {l p : Int} : St pre (os ++ us) cs l p = St pre os cs l p ++ us := by
  unfold St
  rw [List.append_assoc]
  rfl
theorem r1_len {pre os : Sto} {cs : List Int} {l p : Int} : (St pre os cs l p).length = r1 pre os := by rw [St_len]; unfold r1; omega
theorem at_end {pre os : Sto} {cs : List Int} {l p : Int} {x : Ob} : (St pre (os ++ [x]) cs l p)[r1 pre os]? = some x := by
  rw [St_app, ← r1_len (cs := cs) (l := l) (p := p), List.getElem?_append_right (Nat.le_refl _), Nat.sub_self]
  rfl
theorem set_end {pre os : Sto} {cs : List Int} {l p : Int} {x y : Ob} : (St pre (os ++ [x]) cs l p).set (r1 pre os) y = St pre (os ++ [y]) cs l p := by
  rw [St_app, St_app, ← r1_len (cs := cs) (l := l) (p := p), List.set_append_right _ _ (Nat.le_refl _), Nat.sub_self]
  rfl
theorem take_end {pre os : Sto} {cs : List Int} {l p : Int} {x : Ob} : (St pre (os ++ [x]) cs l p).take (r1 pre os) = St pre os cs l p := by
  rw [St_app, ← r1_len (cs := cs) (l := l) (p := p), List.take_left' rfl]
theorem len_end {pre os : Sto} {cs : List Int} {l p : Int} {x : Ob} : (St pre (os ++ [x]) cs l p).length = r1 pre os + 1 := by
  rw [St_app, List.length_append, r1_len]
  rfl
theorem lstM_s {fa : FA} {ρ : Env} {pre os : Sto} {cs : List Int} {l p l' p' : Int} {ws : List Dv} (h : fa ρ (St pre os cs l p) = .ok ws (St pre os cs l' p')) (hl : ws.length ≤ 1000000) : mLstM fa ρ (St pre os cs l p) = .ok (.ref (r1 pre os)) (St pre (os ++ [.lst ws]) cs l' p') := by
  rw [lstM_ev, h, bind_ok, if_pos (by unfold lim; omega), r1_len, St_app]
/-- what is the callee's own goes out as it stands -/
theorem fin_own {pre os : Sto} (ho : ClP pre os) {cs : List Int} {l p l' p' : Int} {ob : Ob} {w w' : Dv} (h : fz 4 (St pre (os ++ [ob]) cs l' p') (r1 pre os) w = some w') : finC (St pre os cs l p).length (.rt w (St pre (os ++ [ob]) cs l' p')) = .ok w' (St pre os cs l' p') := by
  rw [r1_len]
  show finW (r1 pre os) w (St pre (os ++ [ob]) cs l' p') = _
  unfold finW
  rw [if_neg (by rw [len_end]; omega), take_end, if_pos (St_clean ho), h]
theorem fin_lst {pre os : Sto} (ho : ClP pre os) {cs : List Int} {l p l' p' : Int} {ws : List Dv} (h : mapO (fz 3 (St pre (os ++ [.lst ws]) cs l' p') (r1 pre os)) ws = some ws) : finC (St pre os cs l p).length (.rt (.ref (r1 pre os)) (St pre (os ++ [.lst ws]) cs l' p')) = .ok (.lst ws) (St pre os cs l' p') := by
  refine fin_own ho ?_
  unfold fz
  rw [if_neg (by show ¬ (decide (r1 pre os < r1 pre os) = true); simp)]
  dsimp only
  rw [at_end]
  dsimp only
  rw [h]
  rfl
theorem fin_ref {pre os : Sto} (ho : ClP pre os) {cs : List Int} {l p l' p' : Int} {acc : List Int} : finC (St pre os cs l p).length (.rt (.ref (r1 pre os)) (St pre (os ++ [.lst (acc.map .int)]) cs l' p')) = .ok (lI acc) (St pre os cs l' p') := fin_lst ho (fz_ints _)
theorem fin_bi {pre os : Sto} (ho : ClP pre os) {cs : List Int} {l p l' p' o : Int} {ts : List Term} {ob : Ob} : finC (St pre os cs l p).length (.rt (bi o ts) (St pre (os ++ [ob]) cs l' p')) = .ok (bi o ts) (St pre os cs l' p') := by
  refine fin_own ho ?_
  unfold fz
  exact if_pos (clean_bi _ _ _)
theorem app_v {f g : FE} {ρ : Env} {s s1 s2 : Sto} {n : Nat} {ws us : List Dv} {y : Dv} (h : f ρ s = .ok (.ref n) s1) (h1 : s1[n]? = some (.lst us)) (h2 : g ρ s1 = .ok y s2) (h3 : s2[n]? = some (.lst ws)) (hl : ws.length < lim) : mApp f g ρ s = .ok .non (s2.set n (.lst (ws ++ [y]))) := by
  unfold mApp
  rw [h, bind_ok]
  simp only [h1, h2, bind_ok, h3, if_pos hl]
theorem drawn_bill_ok {pre os : Sto} (ho : ClP pre os) {cs : List Int} {l p most : Int} (hc : cs ≠ []) (hp : 0 ≤ p) (hp2 : p < 800000) (hm : 1 ≤ most) (hm6 : most ≤ 6) :
    ∃ o ts l' p', g__law_drawn_bill [.ref pre.length, .int most] (St pre os cs l p) = .ok (bi o ts) (St pre os cs l' p') ∧ Bill o ts ∧ 0 ≤ p' ∧ p' ≤ p + 30 ∧ ∀ t ∈ ts, (t.rs.length : Int) ≤ most := by
  obtain ⟨d, l1, p1, d1, d0, d101, p10, p11⟩ := (draw_ok (pre := pre) (tl := os) (l := l) hc (show (0 : Int) < 101 by decide) (by decide) hp (by omega)).ok
  obtain ⟨w, l2, p2, hw, d2, p20, p21⟩ := law_of_ok (pre := pre) (tl := os) (l := l1) (ws := [.int 0, .int 1, .int 2, .int (-1), .int (d - 50)]) hc p10 (by omega) (by intro z; cases z) (by show 5 < 1000; decide)
  obtain ⟨o, rfl, o0, o1⟩ : ∃ o : Int, w = .int o ∧ -50 ≤ o ∧ o ≤ 50 := by
    rcases List.mem_cons.mp hw with rfl | hw
    · exact ⟨0, rfl, by omega, by omega⟩
    rcases List.mem_cons.mp hw with rfl | hw
    · exact ⟨1, rfl, by omega, by omega⟩
    rcases List.mem_cons.mp hw with rfl | hw
    · exact ⟨2, rfl, by omega, by omega⟩
    rcases List.mem_cons.mp hw with rfl | hw
    · exact ⟨-1, rfl, by omega, by omega⟩
    rcases List.mem_cons.mp hw with rfl | hw
    · exact ⟨d - 50, rfl, by omega, by omega⟩
    · cases hw
  obtain ⟨k, l3, p3, d3, k0, k3, p30, p31⟩ := (draw_ok (pre := pre) (tl := os ++ [.lst []]) (l := l2) hc (show (0 : Int) < 3 by decide) (by decide) p20 (by omega)).ok
  have e0 : startD 5 [.ref pre.length, .int most] = [some (.ref pre.length), some (.int most), none, none, none] := rfl
  have eN : mUn negD (mK (.int 1)) [some (.ref pre.length), some (.int most), none, none, none] (St pre os cs l p) = .ok (.int (-1)) (St pre os cs l p) := by rw [un_ev, k_ev, bind_ok, neg_ev, of_some]
  have eO : mCall (g__law_of) (mCons (mVar 0) (mCons (mLst (mCons (mK (.int 0)) (mCons (mK (.int 1)) (mCons (mK (.int 2)) (mCons (mUn negD (mK (.int 1))) (mCons (mBin subD (mCall (g__law_draw) (mCons (mVar 0) (mCons (mK (.int 101)) mNil))) (mK (.int 50))) mNil)))))) mNil)) [some (.ref pre.length), some (.int most), none, none, none] (St pre os cs l p) = .ok (.int o) (St pre os cs l2 p2) :=
    call_v (cons_v (w := .ref pre.length) rfl (cons_v (lst_v (cons_v k_ev (cons_v k_ev (cons_v k_ev (cons_v eN (cons_v (bin_v (call_v (cons_v (w := .ref pre.length) rfl (cons_v k_ev nil_ev)) d1) k_ev sub_ev) nil_ev))))) (by show 5 ≤ _; decide)) nil_ev)) d2
  have e1 : mPar 2 3 (mCons (mCall (g__law_of) (mCons (mVar 0) (mCons (mLst (mCons (mK (.int 0)) (mCons (mK (.int 1)) (mCons (mK (.int 2)) (mCons (mUn negD (mK (.int 1))) (mCons (mBin subD (mCall (g__law_draw) (mCons (mVar 0) (mCons (mK (.int 101)) mNil))) (mK (.int 50))) mNil)))))) mNil))) (mCons (mLstM mNil) mNil)) [some (.ref pre.length), some (.int most), none, none, none] (St pre os cs l p) = .nx [some (.ref pre.length), some (.int most), some (.int o), some (.ref (r1 pre os)), none] (St pre (os ++ [.lst []]) cs l2 p2) := by
    rw [par_ev, eO, then_ok, lstM_s (ws := []) nil_ev (by decide), then_ok]
    rfl
  have hF : F__law_drawn_bill_1 [some (.ref pre.length), some (.int most), some (.int o), some (.ref (r1 pre os)), none] (St pre (os ++ [.lst []]) cs l2 p2) = .ok { ws := rng 0 k.toNat } (St pre (os ++ [.lst []]) cs l3 p3) :=
    range1_ok (cons_v (call_v (cons_v (w := .ref pre.length) rfl (cons_v k_ev nil_ev)) d3) nil_ev) (okR_s (by omega) (by omega))
  obtain ⟨ρ', s', f1, us, l4, p4, y, g1, rfl, g2, g3, g4, rfl⟩ := for_ix (g := t__law_drawn_bill_1) (body := b__law_drawn_bill_1)
    (fun i ρ s' => ∃ (us : List Term) (l4 p4 : Int) (y : Option Dv), us.length = i ∧ s' = St pre (os ++ [.lst (us.map tm)]) cs l4 p4 ∧ (∀ t ∈ us, TermOk t ∧ (t.rs.length : Int) ≤ most) ∧ 0 ≤ p4 ∧ p4 ≤ p3 + 10 * (i : Int) ∧ ρ = [some (.ref pre.length), some (.int most), some (.int o), some (.ref (r1 pre os)), y])
    hF ⟨[], l3, p3, _, rfl, rfl, (fun _ h => nomatch h), p30, by omega, rfl⟩ fun i x ρ s' hx hJ => by
      obtain ⟨us, l4, p4, y, g1, rfl, g2, g3, g4, rfl⟩ := hJ
      obtain ⟨hi, rfl⟩ := rng_get hx
      obtain ⟨rs, l5, p5, w1, w2, w3, w4⟩ := weights_ok (pre := pre) (tl := os ++ [.lst (us.map tm)]) (l := l4) hc hm hm6 g3 (by omega)
      obtain ⟨a, l6, p6, a1, a2, a3, a4, a5⟩ := (draw_ok (pre := pre) (tl := os ++ [.lst (us.map tm)]) (l := l5) hc (show (0 : Int) < 7 by decide) (by decide) w3 (by omega)).ok
      obtain ⟨b, l7, p7, b1, b2, b3, b4, b5⟩ := (draw_ok (pre := pre) (tl := os ++ [.lst (us.map tm)]) (l := l6) hc (show (0 : Int) < 7 by decide) (by decide) a4 (by omega)).ok
      have et : mTup (mCons (mCall (g__law_weights) (mCons (mVar 0) (mCons (mVar 1) mNil))) (mCons (mBin subD (mCall (g__law_draw) (mCons (mVar 0) (mCons (mK (.int 7)) mNil))) (mK (.int 3))) (mCons (mBin subD (mCall (g__law_draw) (mCons (mVar 0) (mCons (mK (.int 7)) mNil))) (mK (.int 3))) mNil))) [some (.ref pre.length), some (.int most), some (.int o), some (.ref (r1 pre os)), some (.int (0 + (i : Int)))] (St pre (os ++ [.lst (us.map tm)]) cs l4 p4) = .ok (tm (Term.mk rs (a - 3) (b - 3))) (St pre (os ++ [.lst (us.map tm)]) cs l7 p7) :=
        tup_v (cons_v (call_v (cons_v (w := .ref pre.length) rfl (cons_v (w := .int most) rfl nil_ev)) w1) (cons_v (bin_v (call_v (cons_v (w := .ref pre.length) rfl (cons_v k_ev nil_ev)) a1) k_ev sub_ev) (cons_v (bin_v (call_v (cons_v (w := .ref pre.length) rfl (cons_v k_ev nil_ev)) b1) k_ev sub_ev) nil_ev))) (by show 3 ≤ _; decide)
      refine ⟨[some (.ref pre.length), some (.int most), some (.int o), some (.ref (r1 pre os)), some (.int (0 + (i : Int)))], [some (.ref pre.length), some (.int most), some (.int o), some (.ref (r1 pre os)), some (.int (0 + (i : Int)))], St pre (os ++ [.lst ((us ++ [Term.mk rs (a - 3) (b - 3)]).map tm)]) cs l7 p7, rfl, .inl ?_, us ++ [Term.mk rs (a - 3) (b - 3)], l7, p7, _, by rw [List.length_append, g1]; rfl, rfl, fun t ht => ?_, b4, by omega, rfl⟩
      · unfold b__law_drawn_bill_1
        rw [expr_ev, app_v (n := r1 pre os) (us := us.map tm) rfl at_end et (ws := us.map tm) at_end (by rw [List.length_map]; unfold lim; omega), then_ok, set_end, List.map_append]
        rfl
      · rcases List.mem_append.mp ht with h | h
        · exact g2 t h
        · rw [List.mem_singleton.mp h]
          exact ⟨⟨w2, by show (-50 : Int) ≤ a - 3; omega, by show a - 3 ≤ 50; omega, by show (-50 : Int) ≤ b - 3; omega, by show b - 3 ≤ 50; omega⟩, w4.2⟩
  rw [rng_len] at g1 g4
  refine ⟨o, us, l4, p4, ?_, ⟨o0, o1, by omega, fun t ht => (g2 t ht).1⟩, g3, by omega, fun t ht => (g2 t ht).2⟩
  unfold g__law_drawn_bill d__law_drawn_bill
  rw [den_ev, e0, seq_nx e1 (seq_nx f1 (ret_v (w := bi o us) (tup_v (cons_v (w := .int o) rfl (cons_v (blt_v (cons_v (w := .ref (r1 pre os)) rfl nil_ev) (z := .tup (us.map tm)) (by show (match (St pre (os ++ [Ob.lst (us.map tm)]) cs l4 p4)[r1 pre os]? with | some (Ob.lst ws) => some ws | _ => none).map Dv.tup = _; rw [at_end]; rfl)) nil_ev)) (by show 2 ≤ _; decide))))]
  exact fin_bi ho
variable {s : Sto} {o : Int} {ts : List Term} {ns : List Int}
theorem law_wide_ok (h : ∀ t ∈ ts, TermOk t) (h2 : ts.length ≤ 2) : g__law_wide [bi o ts] s = .ok (.int (wd ts)) s := by
  have e0 : startD 2 [bi o ts] = [some (bi o ts), none] := rfl
  have hc : mComp cF__law_wide_1 [1] ct__law_wide_1 ci__law_wide_1 ce__law_wide_1 [some (bi o ts), none] s = .ok (lI (lens ts)) s := by
    have : mComp cF__law_wide_1 [1] ct__law_wide_1 ci__law_wide_1 ce__law_wide_1 [some (bi o ts), none] s = .ok (.lst (ts.map fun t => .int (t.rs.length : Int))) s := by
      refine comp_mapA (e := tm) _ ?_ (by unfold lim; omega) fun t _ => ⟨[some (bi o ts), some (tm t)], rfl, ?_⟩
      · unfold cF__law_wide_1 iSeq
        rw [bin_v (x := bi o ts) rfl k_ev ix_tup1, bind_ok]
        rfl
      · unfold ce__law_wide_1
        exact blt_v (cons_v (bin_v (x := tm t) rfl k_ev ix_tup0) nil_ev) (by rw [len_tup, List.length_map])
    rw [this]
    unfold lI lens
    rw [List.map_map]
    rfl
  have ha : addD s (.lst [.int 1]) (lI (lens ts)) = some (lI (1 :: lens ts)) := by
    show (if [Dv.int 1].length + ((lens ts).map Dv.int).length ≤ lim then some (Dv.lst ([Dv.int 1] ++ (lens ts).map .int)) else none) = _
    rw [if_pos (by rw [List.length_map, List.length_map]; show 1 + ts.length ≤ lim; unfold lim; omega)]
    rfl
  have hm : maxLD s [lI (1 :: lens ts)] = some (.int (wd ts)) := by
    show (match intsOf ((1 :: lens ts).map .int) with
      | some (n :: ns) => some (Dv.int (maxO 0 (n :: ns)))
      | _ => none) = _
    rw [intsOf_map]
    dsimp only
    rw [maxO_one (lens_ok h), wd_int h]
  unfold g__law_wide d__law_wide
  rw [den_ev, e0, ret_v (blt_v (cons_v (bin_v (lst_v (cons_v k_ev nil_ev) (by show 1 ≤ _; decide)) hc ha) nil_ev) hm), finC_rt]
theorem seg_len {rs : List Int} {e : Nat} (h : rs.length ≤ e) (h2 : e ≤ ns.length) : (seg rs ns e).length = rs.length := by
  unfold seg
  rw [List.length_take, List.length_drop]
  omega
theorem seg_cut {rs : List Int} {e : Nat} {lo hi : Int} (h : rs.length ≤ e) (h2 : e ≤ ns.length) (hlo : lo = (e : Int) - rs.length) (hhi : hi = (e : Int)) : cutD (ns.map .int) (some lo) (some hi) = (seg rs ns e).map .int := by
  rw [hlo, hhi, show (e : Int) - (rs.length : Int) = ((e - rs.length : Nat) : Int) by omega, cut_mid (by rw [List.length_map]; omega) (by rw [List.length_map]; omega), ← List.map_drop, ← List.map_take, show e - (e - rs.length) = rs.length by omega]
  rfl
abbrev ev (r : Nat) (o : Int) (ts : List Term) (ns : List Int) (e : Nat) (w : Int) (a b c d : Option Dv) : Env := [some (bi o ts), some (tI ns), some (.ref r), some (.int e), some (.int w), a, b, c, d]
theorem turn_ok {r : Nat} {t : Term} {e : Nat} {w : Int} {d : Option Dv} (h : TermOk t) (hl : t.rs.length ≤ e) (he : e < ns.length) :
    b__law_paid_1 (ev r o ts ns e w (some (tI t.rs)) (some (.int t.a)) (some (.int t.b)) d) s = .nx (ev r o ts ns e (w + (t.a * ixe t.rs ns e + t.b * ixe t.rs ns (e + 1))) (some (tI t.rs)) (some (.int t.a)) (some (.int t.b)) (some (.int t.rs.length))) s := by
  have a0 := h.a0
  have a1 := h.a1
  have b0 := h.b0
  have b1 := h.b1
  have e1 : mAsg (mBlt lenD (mCons (mVar 5) mNil)) (gN 8) (ev r o ts ns e w (some (tI t.rs)) (some (.int t.a)) (some (.int t.b)) d) s = .nx (ev r o ts ns e w (some (tI t.rs)) (some (.int t.a)) (some (.int t.b)) (some (.int t.rs.length))) s :=
    (asg_v (w := .int t.rs.length) (blt_v (cons_v (w := tI t.rs) rfl nil_ev) (by rw [len_tup, List.length_map]))).trans rfl
  have c1 : mSl slA (mVar 1) (mPart (mBin subD (mVar 3) (mVar 8))) (mPart (mVar 3)) (ev r o ts ns e w (some (tI t.rs)) (some (.int t.a)) (some (.int t.b)) (some (.int t.rs.length))) s = .ok (tI (seg t.rs ns e)) s := by
    rw [sl_ev, show mVar 1 (ev r o ts ns e w (some (tI t.rs)) (some (.int t.a)) (some (.int t.b)) (some (.int t.rs.length))) s = .ok (tI ns) s from rfl, bind_ok, part_ev, bin_v (x := .int e) (y := .int t.rs.length) rfl rfl sub_ev, bind_ok]
    dsimp only
    rw [bind_ok, part_ev, show mVar 3 (ev r o ts ns e w (some (tI t.rs)) (some (.int t.a)) (some (.int t.b)) (some (.int t.rs.length))) s = .ok (.int e) s from rfl, bind_ok]
    dsimp only
    rw [bind_ok, sl_tup, seg_cut hl (by omega) rfl rfl, of_some]
  have i1 := law_index_ok h.rule (seg_len hl (Nat.le_of_lt he)) s
  have e2 : mAsg (mBin addD (mVar 4) (mBin mulD (mVar 6) (mCall (g__law_index) (mCons (mVar 5) (mCons (mSl slA (mVar 1) (mPart (mBin subD (mVar 3) (mVar 8))) (mPart (mVar 3))) mNil))))) (gN 4) (ev r o ts ns e w (some (tI t.rs)) (some (.int t.a)) (some (.int t.b)) (some (.int t.rs.length))) s = .nx (ev r o ts ns e (w + t.a * ixe t.rs ns e) (some (tI t.rs)) (some (.int t.a)) (some (.int t.b)) (some (.int t.rs.length))) s :=
    (asg_v (bin_v (x := .int w) rfl (bin_v (x := .int t.a) rfl (call_v (cons_v (w := tI t.rs) rfl (cons_v c1 nil_ev)) i1) (mul_ii (cm_l ⟨by omega, by omega⟩))) add_ii)).trans rfl
  have c2 : mSl slA (mVar 1) (mPart (mBin subD (mBin addD (mVar 3) (mK (.int 1))) (mVar 8))) (mPart (mBin addD (mVar 3) (mK (.int 1)))) (ev r o ts ns e (w + t.a * ixe t.rs ns e) (some (tI t.rs)) (some (.int t.a)) (some (.int t.b)) (some (.int t.rs.length))) s = .ok (tI (seg t.rs ns (e + 1))) s := by
    rw [sl_ev, show mVar 1 (ev r o ts ns e (w + t.a * ixe t.rs ns e) (some (tI t.rs)) (some (.int t.a)) (some (.int t.b)) (some (.int t.rs.length))) s = .ok (tI ns) s from rfl, bind_ok, part_ev, bin_v (bin_v (x := .int e) rfl k_ev add_ii) (y := .int t.rs.length) rfl sub_ev, bind_ok]
    dsimp only
    rw [bind_ok, part_ev, bin_v (x := .int e) rfl k_ev add_ii, bind_ok]
    dsimp only
    rw [bind_ok, sl_tup, seg_cut (rs := t.rs) (e := e + 1) (by omega) (by omega) (by omega) (by omega), of_some]
  have i2 := law_index_ok h.rule (seg_len (ns := ns) (e := e + 1) (Nat.le_succ_of_le hl) he) s
  have e3 : mAsg (mBin addD (mVar 4) (mBin mulD (mVar 7) (mCall (g__law_index) (mCons (mVar 5) (mCons (mSl slA (mVar 1) (mPart (mBin subD (mBin addD (mVar 3) (mK (.int 1))) (mVar 8))) (mPart (mBin addD (mVar 3) (mK (.int 1))))) mNil))))) (gN 4) (ev r o ts ns e (w + t.a * ixe t.rs ns e) (some (tI t.rs)) (some (.int t.a)) (some (.int t.b)) (some (.int t.rs.length))) s = .nx (ev r o ts ns e (w + t.a * ixe t.rs ns e + t.b * ixe t.rs ns (e + 1)) (some (tI t.rs)) (some (.int t.a)) (some (.int t.b)) (some (.int t.rs.length))) s :=
    (asg_v (bin_v (x := .int (w + t.a * ixe t.rs ns e)) rfl (bin_v (x := .int t.b) rfl (call_v (cons_v (w := tI t.rs) rfl (cons_v c2 nil_ev)) i2) (mul_ii (cm_l ⟨by omega, by omega⟩))) add_ii)).trans rfl
  unfold b__law_paid_1
  rw [seq_nx e1 (seq_nx e2 e3), Int.add_assoc]
theorem turns_ok {r : Nat} {e : Nat} {w : Int} {a b c d : Option Dv} (h : ∀ t ∈ ts, TermOk t) (hl : ∀ t ∈ ts, t.rs.length ≤ e) (he : e < ns.length) :
    ∃ a' b' c' d', mFor F__law_paid_1 t__law_paid_1 b__law_paid_1 (ev r o ts ns e w a b c d) s = .nx (ev r o ts ns e (w + (ts.map fun t => t.a * ixe t.rs ns e + t.b * ixe t.rs ns (e + 1)).sum) a' b' c' d') s := by
  have hF : F__law_paid_1 (ev r o ts ns e w a b c d) s = .ok { ws := ts.map tm } s := by
    unfold F__law_paid_1 iSeq
    rw [bin_v (x := bi o ts) rfl k_ev ix_tup1, bind_ok]
    rfl
  obtain ⟨ρ', s', f1, rfl, a', b', c', d', rfl⟩ := for_ix (g := t__law_paid_1) (body := b__law_paid_1)
    (fun i ρ s' => s' = s ∧ ∃ a b c d, ρ = ev r o ts ns e (w + ((ts.take i).map fun t => t.a * ixe t.rs ns e + t.b * ixe t.rs ns (e + 1)).sum) a b c d)
    hF ⟨rfl, a, b, c, d, by rw [List.take_zero, List.map_nil, List.sum_nil, Int.add_zero]⟩ fun i x ρ s' hx hJ => by
      obtain ⟨rfl, a, b, c, d, rfl⟩ := hJ
      rw [List.getElem?_map] at hx
      cases hn : ts[i]? with
      | none => rw [hn] at hx; cases hx
      | some t =>
        rw [hn] at hx
        cases hx
        have hm := List.mem_of_getElem? hn
        refine ⟨ev r o ts ns e (w + ((ts.take i).map fun t => t.a * ixe t.rs ns e + t.b * ixe t.rs ns (e + 1)).sum) (some (tI t.rs)) (some (.int t.a)) (some (.int t.b)) d, _, _, rfl, .inl (turn_ok (d := d) (h t hm) (hl t hm) he), rfl, some (tI t.rs), some (.int t.a), some (.int t.b), some (.int t.rs.length), ?_⟩
        rw [List.take_succ, hn, List.map_append, List.sum_append, Int.add_assoc]
        simp
  rw [List.length_map, List.take_of_length_le (Nat.le_refl _)] at f1
  exact ⟨_, _, _, _, f1⟩
theorem law_paid_ok {pre os : Sto} (ho : ClP pre os) {cs : List Int} {l p : Int} (h : Bill o ts) (hn : Row ns) (hw : wd ts ≤ ns.length) : g__law_paid [bi o ts, tI ns] (St pre os cs l p) = .ok (lI (pys o ts ns)) (St pre os cs l p) := by
  have hn2 := hn.most
  have o0 := h.o0
  have o1 := h.o1
  obtain ⟨w1, w6⟩ := wd_rng h.ok
  have e0 : startD 9 [bi o ts, tI ns] = [some (bi o ts), some (tI ns), none, none, none, none, none, none, none] := rfl
  have e1 : mAsg (mLstM mNil) (gN 2) [some (bi o ts), some (tI ns), none, none, none, none, none, none, none] (St pre os cs l p) = .nx [some (bi o ts), some (tI ns), some (.ref (r1 pre os)), none, none, none, none, none, none] (St pre (os ++ [.lst []]) cs l p) := (asg_v (lstM_s (ws := []) nil_ev (by decide))).trans rfl
  have hF : F__law_paid_2 [some (bi o ts), some (tI ns), some (.ref (r1 pre os)), none, none, none, none, none, none] (St pre (os ++ [.lst []]) cs l p) = .ok { ws := rng (wd ts) (ns.length - wd ts) } (St pre (os ++ [.lst []]) cs l p) := by
    have := range2_ok (fa := mCons (mCall (g__law_wide) (mCons (mVar 0) mNil)) (mCons (mBlt lenD (mCons (mVar 1) mNil)) mNil)) (ρ := [some (bi o ts), some (tI ns), some (.ref (r1 pre os)), none, none, none, none, none, none]) (s := St pre (os ++ [.lst []]) cs l p) (s1 := St pre (os ++ [.lst []]) cs l p) (i := wd ts) (j := ns.length)
      (cons_v (call_v (cons_v (w := bi o ts) rfl nil_ev) (law_wide_ok h.ok h.two)) (cons_v (blt_v (cons_v (w := tI ns) rfl nil_ev) (by rw [len_tup, List.length_map])) nil_ev)) (okR_s (by omega) (by omega)) (okR_s (by omega) (by omega))
    rw [show ((ns.length : Int) - (wd ts : Int)).toNat = ns.length - wd ts by omega] at this
    exact this
  obtain ⟨ρ', s', f1, rfl, y3, y4, y5, y6, y7, y8, rfl⟩ := for_ix (g := t__law_paid_2) (body := b__law_paid_2)
    (fun i ρ s' => s' = St pre (os ++ [.lst (((List.range i).map fun j => ps o ts ns (wd ts + j)).map .int)]) cs l p ∧ ∃ y3 y4 y5 y6 y7 y8, ρ = [some (bi o ts), some (tI ns), some (.ref (r1 pre os)), y3, y4, y5, y6, y7, y8])
    hF ⟨rfl, _, _, _, _, _, _, rfl⟩ fun i x ρ s' hx hJ => by
      obtain ⟨rfl, y3, y4, y5, y6, y7, y8, rfl⟩ := hJ
      obtain ⟨hi, rfl⟩ := rng_get hx
      have hv : (ns.map Dv.int)[wd ts + i]? = some (.int (ns.getD (wd ts + i) 0)) := by
        rw [List.getElem?_map, List.getD_eq_getElem?_getD, List.getElem?_eq_getElem (by omega)]
        rfl
      obtain ⟨a', b', c', d', f2⟩ := turns_ok (s := St pre (os ++ [.lst (((List.range i).map fun j => ps o ts ns (wd ts + j)).map .int)]) cs l p) (o := o) (ts := ts) (ns := ns) (e := wd ts + i) (w := o * ns.getD (wd ts + i) 0) (a := y5) (b := y6) (c := y7) (d := y8) h.ok (fun t ht => Nat.le_trans (wd_ge h.ok ht) (Nat.le_add_right _ _)) (by omega)
      have ei : ((wd ts : Int) + (i : Int)) = ((wd ts + i : Nat) : Int) := by omega
      have g1 : mAsg (mBin mulD (mBin ixA (mVar 0) (mK (.int 0))) (mBin ixA (mVar 1) (mVar 3))) (gN 4) [some (bi o ts), some (tI ns), some (.ref (r1 pre os)), some (.int ((wd ts : Int) + (i : Int))), y4, y5, y6, y7, y8] (St pre (os ++ [.lst (((List.range i).map fun j => ps o ts ns (wd ts + j)).map .int)]) cs l p) = .nx (ev (r1 pre os) o ts ns (wd ts + i) (o * ns.getD (wd ts + i) 0) y5 y6 y7 y8) (St pre (os ++ [.lst (((List.range i).map fun j => ps o ts ns (wd ts + j)).map .int)]) cs l p) := by
        rw [ei]
        exact (asg_v (bin_v (bin_v (x := bi o ts) rfl k_ev ix_tup0) (bin_v (x := tI ns) (y := .int ((wd ts + i : Nat) : Int)) rfl rfl (ix_tup hv)) (mul_ii (cm_l ⟨by omega, by omega⟩)))).trans rfl
      refine ⟨[some (bi o ts), some (tI ns), some (.ref (r1 pre os)), some (.int ((wd ts : Int) + (i : Int))), y4, y5, y6, y7, y8], ev (r1 pre os) o ts ns (wd ts + i) (ps o ts ns (wd ts + i)) a' b' c' d', _, rfl, .inl ?_, rfl, _, _, _, _, _, _, rfl⟩
      unfold b__law_paid_2
      refine seq_nx g1 (seq_nx f2 ?_)
      rw [expr_ev, app_v (n := r1 pre os) (us := ((List.range i).map fun j => ps o ts ns (wd ts + j)).map .int) (ws := ((List.range i).map fun j => ps o ts ns (wd ts + j)).map .int) rfl at_end (y := .int (ps o ts ns (wd ts + i))) (s2 := St pre (os ++ [.lst (((List.range i).map fun j => ps o ts ns (wd ts + j)).map .int)]) cs l p) rfl at_end (by rw [List.length_map, List.length_map, List.length_range]; unfold lim; omega), then_ok, set_end, List.range_succ, List.map_append, List.map_append]
      rfl
  rw [rng_len] at f1
  unfold g__law_paid d__law_paid
  rw [den_ev, e0, seq_nx e1 (seq_nx f1 (ret_v (w := .ref (r1 pre os)) rfl))]
  exact fin_ref ho
end MP.PG
set_option Elab.async false
set_option linter.all false
set_option maxRecDepth 100000
set_option maxHeartbeats 400000
namespace MP.PG
open PySem PySem.Spec PyProof.Rows L2 MP
theorem gt_ii {s : Sto} {i j : Int} : gtD s (.int i) (.int j) = some (.bl (decide (j < i))) := rfl
theorem smN {i : Int} (h : i.natAbs ≤ 1000000000000000) : Sm i := Nat.lt_of_le_of_lt h (Nat.lt_of_lt_of_le (by decide : 1000000000000000 < 2 ^ 50) (Nat.pow_le_pow_right (by decide) (by decide)))
theorem dot_abs {M : Nat} : ∀ {rs ls : List Int}, (∀ r ∈ rs, -20 ≤ r ∧ r ≤ 20) → (∀ n ∈ ls, n.natAbs ≤ M) → (dot rs ls).natAbs ≤ rs.length * (20 * M)
  | [], ls, _, _ => by rw [dot_nil]; exact Nat.zero_le _
  | a :: rs, [], _, _ => by rw [dot_nil']; exact Nat.zero_le _
  | a :: rs, b :: ls, h1, h2 => by
    have ih := dot_abs (M := M) (rs := rs) (ls := ls) (fun r hr => h1 r (List.mem_cons_of_mem _ hr)) fun n hn => h2 n (List.mem_cons_of_mem _ hn)
    have ha := h1 a List.mem_cons_self
    have hb := h2 b List.mem_cons_self
    have h3 : (a * b).natAbs ≤ 20 * M := by
      rw [Int.natAbs_mul]
      exact Nat.mul_le_mul (by omega) hb
    rw [dot_cons, List.length_cons, Nat.succ_mul]
    omega
theorem sum_abs {M : Nat} : ∀ {l : List Int}, (∀ n ∈ l, n.natAbs ≤ M) → l.sum.natAbs ≤ l.length * M
  | [], _ => Nat.zero_le _
  | a :: l, h => by
    have ih := sum_abs fun n hn => h n (List.mem_cons_of_mem a hn)
    have ha := h a List.mem_cons_self
    rw [List.sum_cons, List.length_cons, Nat.succ_mul]
    omega
variable {s : Sto} {o : Int} {ts : List Term} {ns : List Int}
theorem ixe_abs {rs : List Int} {e : Nat} (h : Rule rs) (hn : Row ns) : (ixe rs ns e).natAbs ≤ 120000000 := by
  have h6 := h.six
  have := dot_abs (M := 1000000) (rs := rs) (ls := srt (seg rs ns e)) h.ok fun n hm => by
    have hm : n ∈ ns := List.mem_of_mem_drop (List.mem_of_mem_take ((srt_perm (seg rs ns e)).mem_iff.mp hm))
    have := hn.ok n hm
    omega
  have h7 : rs.length * (20 * 1000000) ≤ 6 * (20 * 1000000) := Nat.mul_le_mul_right _ h6
  exact Nat.le_trans this h7
theorem ps_abs {e : Nat} (h : Bill o ts) (hn : Row ns) : (ps o ts ns e).natAbs ≤ 30000000000 := by
  have h2 := h.two
  have o0 := h.o0
  have o1 := h.o1
  have k1 : (o * ns.getD e 0).natAbs ≤ 50 * 1000000 := by
    rw [Int.natAbs_mul]
    refine Nat.mul_le_mul (by omega) ?_
    rw [List.getD_eq_getElem?_getD]
    cases q : ns[e]? with
    | none => decide
    | some v => have := hn.ok v (List.mem_of_getElem? q); show v.natAbs ≤ _; omega
  have k2 : (ts.map fun t => t.a * ixe t.rs ns e + t.b * ixe t.rs ns (e + 1)).sum.natAbs ≤ ts.length * 12000000000 := by
    have := sum_abs (M := 12000000000) (l := ts.map fun t => t.a * ixe t.rs ns e + t.b * ixe t.rs ns (e + 1)) fun n hm => by
      obtain ⟨t, ht, rfl⟩ := List.mem_map.mp hm
      have q := h.ok t ht
      have q1 := q.a0
      have q2 := q.a1
      have q3 := q.b0
      have q4 := q.b1
      have r1 : (t.a * ixe t.rs ns e).natAbs ≤ 50 * 120000000 := by
        rw [Int.natAbs_mul]
        exact Nat.mul_le_mul (by omega) (ixe_abs q.rule hn)
      have r2 : (t.b * ixe t.rs ns (e + 1)).natAbs ≤ 50 * 120000000 := by
        rw [Int.natAbs_mul]
        exact Nat.mul_le_mul (by omega) (ixe_abs q.rule hn)
      omega
    rwa [List.length_map] at this
  have k3 : ts.length * 12000000000 ≤ 2 * 12000000000 := Nat.mul_le_mul_right _ h2
  unfold ps
  omega
theorem pys_abs (h : Bill o ts) (hn : Row ns) : ∀ i ∈ pys o ts ns, i.natAbs ≤ 30000000000 := fun i hi => by
  obtain ⟨k, _, rfl⟩ := List.mem_map.mp hi
  exact ps_abs h hn
theorem pys_len : (pys o ts ns).length = ns.length - wd ts := by rw [List.length_map, List.length_range]
theorem rule_sm (h : Rule ns) : ∀ i ∈ ns, Sm i := fun i hi => by
  have := h.ok i hi
  exact Sm.of (by omega) (by omega)
abbrev td (t : Term) : PyData := .tuple [.tuple (t.rs.map .int), .int t.a, .int t.b]
theorem pl_tm {t : Term} (h : TermOk t) : Pl 10 2 (tm t) (td t) := by
  have h6 := h.rule.six
  have q1 := h.a0
  have q2 := h.a1
  have q3 := h.b0
  have q4 := h.b1
  exact (pl_tup (pls_cons ((pl_tI (rule_sm h.rule)).mono (m := 7) (by omega) (Nat.le_refl _)) (pls_cons ((pl_int (i := t.a) (Sm.of (by omega) (by omega))).mono (Nat.le_refl _) (Nat.zero_le _)) (pls_cons ((pl_int (i := t.b) (Sm.of (by omega) (by omega))).mono (Nat.le_refl _) (Nat.zero_le _)) pls_nil)))).mono (by omega) (Nat.le_refl _)
theorem pls_tms : ∀ {ts : List Term}, (∀ t ∈ ts, TermOk t) → Pls (ts.length * 10) 2 (ts.map tm) (ts.map td)
  | [], _ => pls_nil
  | t :: ts, h => by
    have := pls_cons (pl_tm (h t List.mem_cons_self)) (pls_tms fun i hi => h i (List.mem_cons_of_mem _ hi))
    refine this.mono ?_ (Nat.le_refl _)
    rw [List.length_cons, Nat.succ_mul]
    omega
abbrev bd (o : Int) (ts : List Term) : PyData := .tuple [.int o, .tuple (ts.map td)]
theorem pl_bi (h : Bill o ts) : Pl 25 4 (bi o ts) (bd o ts) := by
  have h2 := h.two
  have q1 := h.o0
  have q2 := h.o1
  exact (pl_tup (pls_cons ((pl_int (i := o) (Sm.of (by omega) (by omega))).mono (Nat.le_refl _) (Nat.zero_le _)) (pls_cons ((pl_tup (pls_tms h.ok)).mono (m := 21) (by omega) (Nat.le_refl _)) pls_nil))).mono (by omega) (Nat.le_refl _)
end MP.PG
set_option Elab.async false
set_option linter.all false
set_option maxRecDepth 100000
set_option maxHeartbeats 400000
namespace MP.PG
open PySem PySem.Spec PyProof.Rows L2 MP
theorem pow_ii {s : Sto} {i j : Int} (h : 0 ≤ j ∧ j ≤ 1000000 ∧ i.natAbs < 2 ^ 64) : powD s (.int i) (.int j) = some (.int (i ^ j.toNat)) := if_pos h
theorem ge_ii {s : Sto} {i j : Int} : geD s (.int i) (.int j) = some (.bl (decide (j ≤ i))) := rfl
/-- what is begun with -/
theorem begun_ok {pre : Sto} {ns : List Int} (hn : ns.length ≤ 63) : ∃ l, g__law_begun [.sq (ns.map .int)] pre = .ok (.ref pre.length) (St pre [] (ns ++ [(ns.length : Int)]) l 0) := by
  have e0 : startD 3 [.sq (ns.map .int)] = [some (.sq (ns.map .int)), none, none] := rfl
  have e1 : mComp cF__law_begun_1 [2] ct__law_begun_1 ci__law_begun_1 ce__law_begun_1 [some (.sq (ns.map .int)), none, none] pre = .ok (lI (ns.filter fun n => decide ((10 : Int) ^ 18 ≤ n))) pre := by
    refine comp_filt (e := .int) (φ := .int) (t := fun n => decide ((10 : Int) ^ 18 ≤ n)) rfl (by unfold lim; omega) fun n _ => ⟨[some (.sq (ns.map .int)), none, some (.int n)], rfl, ?_, fun _ => ?_⟩
    · unfold ci__law_begun_1
      rw [test_ev, bin_ev, var_s, var_s, var_0, bind_ok, bin_ev, k_ev, bind_ok, k_ev, bind_ok, pow_ii ⟨by decide, by decide, by decide⟩, of_some, bind_ok, ge_ii]
      rfl
    · rfl
  obtain ⟨gs, hg⟩ : ∃ gs, gs = ns.filter fun n => decide ((10 : Int) ^ 18 ≤ n) := ⟨_, rfl⟩
  rw [← hg] at e1
  have eL : mBin addD (mBlt listD (mCons (mVar 0) mNil)) (mLst (mCons (mBlt lenD (mCons (mVar 0) mNil)) mNil)) [some (.sq (ns.map .int)), some (lI gs), none] pre = .ok (lI (ns ++ [(ns.length : Int)])) pre := by
    rw [bin_ev, blt_ev, cons_ev, var_0, bind_ok, nil_ev, bind_ok, bind_ok]
    show (R.of (some (Dv.lst (ns.map .int))) pre).bind _ = _
    rw [of_some, bind_ok, lst_ev, cons_ev, blt_ev, cons_ev, var_0, bind_ok, nil_ev, bind_ok, bind_ok, len_sq, of_some, bind_ok, nil_ev, bind_ok, bind_ok, if_pos (by show 1 ≤ lim; unfold lim; decide), bind_ok]
    show R.of (if (ns.map Dv.int).length + 1 ≤ lim then some (Dv.lst (ns.map .int ++ [.int (ns.map Dv.int).length])) else none) pre = _
    rw [if_pos (by rw [List.length_map]; unfold lim; omega), List.length_map, of_some, lI, List.map_append]
    rfl
  have eG : ∃ l, mIf (mTest (mBin neD (mVar 1) (mLst mNil))) (mBin ixA (mVar 1) (mK (.int 0))) (mK (.int 0)) [some (.sq (ns.map .int)), some (lI gs), none] pre = .ok (.int l) pre := by
    have et : mTest (mBin neD (mVar 1) (mLst mNil)) [some (.sq (ns.map .int)), some (lI gs), none] pre = .ok (!decide (gs = [])) pre := by
      rw [test_ev, bin_ev, var_s, var_0, bind_ok, lst_ev, nil_ev, bind_ok, if_pos (by show 0 ≤ lim; unfold lim; decide), bind_ok]
      show (R.of (neD pre (lI gs) (lI [])) pre).bind testK = _
      rw [ne_lI]
      rfl
    rw [if_ev, et, bind_ok]
    cases gs with
    | nil => exact ⟨0, rfl⟩
    | cons a r =>
      refine ⟨a, ?_⟩
      rw [if_pos (by simp), bin_ev, var_s, var_0, bind_ok, k_ev, bind_ok]
      show R.of (ixA pre (.lst (.int a :: r.map .int)) (.int ((0 : Nat) : Int))) pre = _
      rw [ix_lst (w := .int a) rfl, of_some]
  obtain ⟨l, eG⟩ := eG
  refine ⟨l, ?_⟩
  have eD : mDctM [((mK (.str "cells")), (mBin addD (mBlt listD (mCons (mVar 0) mNil)) (mLst (mCons (mBlt lenD (mCons (mVar 0) mNil)) mNil)))), ((mK (.str "left")), (mIf (mTest (mBin neD (mVar 1) (mLst mNil))) (mBin ixA (mVar 1) (mK (.int 0))) (mK (.int 0)))), ((mK (.str "spot")), (mK (.int 0)))] [some (.sq (ns.map .int)), some (lI gs), none] pre = .ok (.ref pre.length) (St pre [] (ns ++ [(ns.length : Int)]) l 0) := by
    have : mPairs [((mK (.str "cells")), (mBin addD (mBlt listD (mCons (mVar 0) mNil)) (mLst (mCons (mBlt lenD (mCons (mVar 0) mNil)) mNil)))), ((mK (.str "left")), (mIf (mTest (mBin neD (mVar 1) (mLst mNil))) (mBin ixA (mVar 1) (mK (.int 0))) (mK (.int 0)))), ((mK (.str "spot")), (mK (.int 0)))] [some (.sq (ns.map .int)), some (lI gs), none] pre = .ok [(.str "cells", lI (ns ++ [(ns.length : Int)])), (.str "left", .int l), (.str "spot", .int 0)] pre := by
      unfold mPairs
      rw [k_ev, bind_ok, eL, bind_ok]
      unfold mPairs
      rw [k_ev, bind_ok, eG, bind_ok]
      unfold mPairs
      rw [k_ev, bind_ok, k_ev, bind_ok]
      rfl
    unfold mDctM
    rw [this]
    rfl
  unfold g__law_begun d__law_begun
  rw [den_ev, e0, seq_ev, asgN_ev, e1, then_ok, seqK_nx]
  show finC pre.length (mRet (mDctM _) [some (.sq (ns.map .int)), some (lI gs), none] pre) = _
  rw [ret_ev, eD, then_ok]
  show finW pre.length (.ref pre.length) (St pre [] (ns ++ [(ns.length : Int)]) l 0) = _
  unfold finW
  have e : fz 4 (St pre [] (ns ++ [(ns.length : Int)]) l 0) pre.length (.ref pre.length) = none := by
    unfold fz
    rw [if_neg (by show ¬ (decide (pre.length < pre.length) = true); simp)]
    dsimp only
    rw [St_at]
  split
  · rfl
  · split
    · rw [e]
    · rfl
end MP.PG
set_option Elab.async false
set_option linter.all false
set_option maxRecDepth 100000
set_option maxHeartbeats 400000
namespace MP.PG
open PySem PySem.Spec MP
open PyProof.Rows hiding St
open L2 hiding St r1
theorem lt_ii {s : Sto} {i j : Int} : ltD s (.int i) (.int j) = some (.bl (decide (i < j))) := rfl
theorem fin_one {s : Sto} {w : Dv} {ob : Ob} (hs : s.all (Ob.clean s.length) = true) (hw : clean s.length w = true) : finC s.length (.rt w (s ++ [ob])) = .ok w s := by
  show finW s.length w (s ++ [ob]) = _
  unfold finW
  have e1 : (s ++ [ob]).take s.length = s := by simp
  rw [if_neg (by rw [List.length_append, List.length_singleton]; omega), e1, if_pos hs]
  have e2 : fz 4 (s ++ [ob]) s.length w = some w := by
    unfold fz
    exact if_pos hw
  rw [e2]
section
variable {F : FI} {g : FG} {body : FS} {ρ ρ1 ρ2 : Env} {s s1 s2 : Sto} {w v : Dv} {ws : List Dv}
theorem for_src (h : F ρ s = .ok { ws := ws } s1) : mFor F g body ρ s = forL none g body ws ρ s1 := by
  unfold mFor
  rw [h]
  rfl
theorem forL_nil : forL none g body [] ρ s = .nx ρ s := by
  rw [forL, if_pos (.inl rfl)]
theorem forL_nx (h1 : g w ρ s = some ρ1) (h2 : body ρ1 s = .nx ρ2 s2) : forL none g body (w :: ws) ρ s = forL none g body ws ρ2 s2 := by
  rw [forL, if_pos (.inl rfl), h1]
  dsimp only
  rw [h2]
theorem forL_rt (h1 : g w ρ s = some ρ1) (h2 : body ρ1 s = .rt v s2) : forL none g body (w :: ws) ρ s = .rt v s2 := by
  rw [forL, if_pos (.inl rfl), h1]
  dsimp only
  rw [h2]
end
theorem pl_bl {b : Bool} : Pl 1 0 (.bl b) (.bool b) := by cases b <;> exact ⟨rfl, by decide +kernel, by decide +kernel, by decide +kernel, by decide +kernel, by decide +kernel⟩
theorem pl_non : Pl 1 0 .non .none := ⟨rfl, by decide +kernel, by decide +kernel, by decide +kernel, by decide +kernel, by decide +kernel⟩
theorem pl_small {i : Int} (h : i.natAbs ≤ 1000000000000000) : Pl 1 0 (.int i) (.int i) := pl_int (smN h)
end MP.PG
set_option Elab.async false
set_option linter.all false
set_option maxRecDepth 100000
set_option maxHeartbeats 400000
namespace MP.PG
open PySem PySem.Spec MP
open PyProof.Rows hiding St
open L2 hiding St r1
/-- the ints f 0 .. f (n - 1) -/
def lf (n : Nat) (f : Nat → Int) : List Int := (List.range n).map f
section
variable {n m k b : Nat} {f g : Nat → Int} {i : Nat}
theorem lf_len : (lf n f).length = n := by unfold lf; rw [List.length_map, List.length_range]
theorem lf_get (h : i < n) : (lf n f)[i]? = some (f i) := by
  unfold lf
  rw [List.getElem?_map, List.getElem?_range h]
  rfl
theorem lf_ext (h : ∀ i, i < n → f i = g i) : lf n f = lf n g := List.map_congr_left fun i hi => h i (List.mem_range.mp hi)
theorem lf_of {l : List Int} (h : l.length = n) (hg : ∀ i, i < n → l[i]? = some (f i)) : l = lf n f := by
  refine List.ext_getElem? fun i => ?_
  by_cases hi : i < n
  · rw [hg i hi, lf_get hi]
  · rw [List.getElem?_eq_none (by omega), List.getElem?_eq_none (by rw [lf_len]; omega)]
theorem lf_zipWith {φ : Int → Int → Int} : List.zipWith φ (lf n f) (lf n g) = lf n fun i => φ (f i) (g i) := by
  refine lf_of (by rw [List.length_zipWith, lf_len, lf_len, Nat.min_self]) fun i hi => ?_
  rw [List.getElem?_zipWith, lf_get hi, lf_get hi]
theorem lf_map {φ : Int → Int} : (lf n f).map φ = lf n fun i => φ (f i) := by unfold lf; rw [List.map_map]; rfl
theorem lf_app : lf n f ++ lf m g = lf (n + m) fun i => if i < n then f i else g (i - n) := by
  refine lf_of (by rw [List.length_append, lf_len, lf_len]) fun i hi => ?_
  by_cases h : i < n
  · rw [List.getElem?_append_left (by rw [lf_len]; exact h), lf_get h, if_pos h]
  · rw [List.getElem?_append_right (by rw [lf_len]; omega), lf_len, lf_get (by omega), if_neg h]
theorem lf_succ : lf (n + 1) f = lf n f ++ [f n] := by unfold lf; rw [List.range_succ, List.map_append]; rfl
theorem lf_rep (hn : 0 < n) : ∀ k : Nat, (List.replicate k (lf n f)).flatten = lf (k * n) fun i => f (i % n)
  | 0 => by rw [Nat.zero_mul]; rfl
  | k + 1 => by
    rw [List.replicate_succ, List.flatten_cons, lf_rep hn k, lf_app, Nat.succ_mul, Nat.add_comm]
    refine lf_ext fun i hi => ?_
    by_cases h : i < n
    · rw [if_pos h, Nat.mod_eq_of_lt h]
    · rw [if_neg h, Nat.mod_eq_sub_mod (a := i) (by omega)]
theorem lf_step {s : Nat} (hs : s < b) : stepL (lf (b * n) f) s b = lf n fun i => f (s + i * b) := by
  unfold stepL
  have hl : ((lf (b * n) f).length - s + (b - 1)) / b = n := by
    rw [lf_len]
    cases n with
    | zero => rw [Nat.mul_zero, Nat.zero_sub, Nat.zero_add]; exact Nat.div_eq_of_lt (by omega)
    | succ n =>
      have e : b * (n + 1) - s + (b - 1) = (b - 1 - s) + b * (n + 1) := by
        have : b ≤ b * (n + 1) := Nat.le_mul_of_pos_right _ (Nat.succ_pos _)
        omega
      rw [e, Nat.add_mul_div_left _ _ (by omega), Nat.div_eq_of_lt (by omega), Nat.zero_add]
  rw [hl]
  have hall : ∀ m ∈ List.range n, (lf (b * n) f)[s + m * b]? = some (f (s + m * b)) := fun m hm => by
    have := List.mem_range.mp hm
    refine lf_get ?_
    have h1 : m * b + b ≤ n * b := by
      have := Nat.mul_le_mul_right b (show m + 1 ≤ n by omega)
      rwa [Nat.succ_mul] at this
    rw [Nat.mul_comm b n]
    omega
  have key : ∀ l : List Nat, (∀ m ∈ l, (lf (b * n) f)[s + m * b]? = some (f (s + m * b))) → l.filterMap (fun m => (lf (b * n) f)[s + m * b]?) = l.map fun m => f (s + m * b) := fun l => by
    induction l with
    | nil => intro _; rfl
    | cons a l ih =>
      intro h
      rw [List.filterMap_cons, h a List.mem_cons_self, List.map_cons, ih fun m hm => h m (List.mem_cons_of_mem _ hm)]
  exact key _ hall
theorem stepL_map {α β : Type} (φ : α → β) (xs : List α) (i st : Nat) : stepL (xs.map φ) i st = (stepL xs i st).map φ := by
  unfold stepL
  rw [List.map_filterMap, List.length_map]
  congr 1
  funext m
  rw [List.getElem?_map]
end
section
variable {s : Sto} {ws us : List Dv} {x y : Ob} {v w w' : Dv} {ρ : Env} {f g : FE}
def Cl (s : Sto) : Prop := ∀ n, s.all (Ob.clean n) = true
theorem at_s : (s ++ [x])[s.length]? = some x := by
  rw [List.getElem?_append_right (Nat.le_refl _), Nat.sub_self]
  rfl
theorem set_s : (s ++ [x]).set s.length y = s ++ [y] := by
  rw [List.set_append_right _ _ (Nat.le_refl _), Nat.sub_self]
  rfl
theorem fin_sn {us : Sto} (hs : Cl s) (h0 : us ≠ []) (h : fz 4 (s ++ us) s.length w = some w') : finC s.length (.rt w (s ++ us)) = .ok w' s := by
  show finW s.length w (s ++ us) = _
  have hl : us.length ≠ 0 := fun z => h0 (List.length_eq_zero_iff.mp z)
  unfold finW
  rw [if_neg (by rw [List.length_append]; omega), List.take_left' rfl, if_pos (hs _), h]
theorem fz_ref {us : Sto} {i k : Nat} (h : us[i]? = some (.lst ws)) (hc : mapO (fz k (s ++ us) s.length) ws = some us') : fz (k + 1) (s ++ us) s.length (.ref (s.length + i)) = some (.lst us') := by
  unfold fz
  rw [if_neg (by show ¬ (decide (s.length + i < s.length) = true); simp)]
  have e : (s ++ us)[s.length + i]? = some (.lst ws) := by
    rw [List.getElem?_append_right (by omega), Nat.add_sub_cancel_left, h]
  dsimp only
  rw [e]
  dsimp only
  rw [hc]
  rfl
theorem fz_ref0 {us : Sto} {k : Nat} {us' : List Dv} (h : us[0]? = some (.lst ws)) (hc : mapO (fz k (s ++ us) s.length) ws = some us') : fz (k + 1) (s ++ us) s.length (.ref s.length) = some (.lst us') := fz_ref (i := 0) h hc
theorem fin_I {acc : List Int} (hs : Cl s) : finC s.length (.rt (.ref s.length) (s ++ [.lst (acc.map .int)])) = .ok (lI acc) s := fin_sn hs (by simp) (fz_ref0 rfl (fz_ints acc))
theorem app_s (hl : ws.length < 1000000) (h : f ρ (s ++ [.lst ws]) = .ok (.ref s.length) (s ++ [.lst ws])) (hg : g ρ (s ++ [.lst ws]) = .ok v (s ++ [.lst ws])) : mApp f g ρ (s ++ [.lst ws]) = .ok .non (s ++ [.lst (ws ++ [v])]) := by
  rw [app_v h at_s hg at_s (by unfold lim; omega), set_s]
theorem ixA_list (h : lstOrSq s v = some ws) {i : Int} {w : Dv} (hi : atI ws i = some w) : ixA s v (.int i) = some w := by
  have e : ixL s v (.int i) = some w := by
    show (lstOrSq s v).bind (fun ws => atI ws i) = _
    rw [h]
    exact hi
  show orO (orO ixL ixT) ixD s v (.int i) = _
  unfold orO
  rw [e]
theorem ref_list {k : Nat} (h : s[k]? = some (.lst ws)) : lstOrSq s (.ref k) = some ws := by
  show (match s[k]? with | some (.lst ws) => some ws | _ => none) = _
  rw [h]
theorem atI_nat {i : Nat} (h : ws[i]? = some w) : atI ws (i : Int) = some w := by
  have hl := (List.getElem?_eq_some_iff.mp h).1
  unfold atI ixN
  rw [if_pos (by omega), if_pos (by omega)]
  show ws[(i : Int).toNat]? = _
  rw [Int.toNat_natCast]
  exact h
end
end MP.PG
set_option Elab.async false
set_option linter.all false
set_option maxRecDepth 100000
set_option maxHeartbeats 1000000
namespace MP.PG
open PySem PySem.Spec MP
open PyProof.Rows hiding St
open L2 hiding St r1
section
variable {s : Sto} {ρ : Env}
/-- a comprehension over two lists of ints side by side -/
theorem comp_zip {F : FI} {elt : FE} {i j : Nat} {ns ms : List Int} (φ : Int → Int → Int) (hF : F ρ s = .ok { ws := zipD (ns.map .int) (ms.map .int) } s) (hl : ns.length ≤ 1000000)
    (h : ∀ a b : Int, elt (((wipeD ρ [i, j]).set i (some (.int a))).set j (some (.int b))) s = .ok (.int (φ a b)) s) :
    mComp F [i, j] (gT 2 (gsC (gN i) (gsC (gN j) gs0))) mYes elt ρ s = .ok (lI (List.zipWith φ ns ms)) s := by
  rw [zip_ints] at hF
  have := comp_mapA (vs := [i, j]) (g := gT 2 (gsC (gN i) (gsC (gN j) gs0))) (elt := elt) (e := fun p : Int × Int => .tup [.int p.1, .int p.2]) (fun p => .int (φ p.1 p.2)) hF (by rw [List.length_zip]; unfold lim; omega) fun p _ => ⟨_, rfl, h p.1 p.2⟩
  rw [this]
  unfold lI
  rw [← List.map_uncurry_zip_eq_zipWith, List.map_map]
  rfl
theorem zip_src {f g : FE} {ns ms : List Int} (h : f ρ s = .ok (lI ns) s) (h2 : g ρ s = .ok (lI ms) s) : iZip2 (mCons f (mCons g mNil)) ρ s = .ok { ws := zipD (ns.map .int) (ms.map .int) } s := by
  unfold iZip2
  rw [cons_v h (cons_v h2 nil_ev), bind_ok]
  rfl
theorem mulL {f g : FE} {n k : Nat} {φ : Nat → Int} (hn : 0 < n) (h : f ρ s = .ok (lI (lf n φ)) s) (h2 : g ρ s = .ok (.int (k : Int)) s) (hk : n * k ≤ 1000000) : mBin mulD f g ρ s = .ok (lI (lf (k * n) fun i => φ (i % n))) s := by
  have hk1 : k ≤ 1000000 := Nat.le_trans (Nat.le_mul_of_pos_left _ hn) hk
  refine bin_v h h2 ((mul_lst (by rw [List.length_map, lf_len]; exact hk) hk1).trans ?_)
  rw [← lf_rep hn k, lI, List.map_flatten, List.map_replicate]
/-- the index of bits of which so many are ones -/
def idb (rs : List Int) (k : Nat) : Int := (rs.reverse.take k).sum
theorem idb_succ {rs : List Int} {k : Nat} {w : Int} (h : rs.reverse[k]? = some w) : idb rs (k + 1) = idb rs k + w := by
  unfold idb
  rw [List.take_succ, h, List.sum_append]
  show _ + (w + 0) = _
  omega
theorem told_ok {rs : List Int} (hs : Cl s) (hr : rs.length ≤ 1000) : g_indexes_by_ones [tI rs] s = .ok (lI (lf (rs.length + 1) (idb rs))) s := by
  have e0 : startD 3 [tI rs] = [some (tI rs), none, none] := rfl
  have e1 : mAsg (mLstM (mCons (mK (.int 0)) mNil)) (gN 1) [some (tI rs), none, none] s = .nx [some (tI rs), some (.ref s.length), none] (s ++ [.lst ((lf 1 (idb rs)).map .int)]) := by
    rw [asgN_ev, lstM_ev, cons_v k_ev nil_ev, bind_ok, if_pos (by show 1 ≤ lim; unfold lim; decide), then_ok]
    rfl
  have hF : F_indexes_by_ones_1 [some (tI rs), some (.ref s.length), none] (s ++ [.lst ((lf 1 (idb rs)).map .int)]) = .ok { ws := rs.reverse.map .int } (s ++ [.lst ((lf 1 (idb rs)).map .int)]) := by
    unfold F_indexes_by_ones_1 iSeq
    have : mRev (mVar 0) [some (tI rs), some (.ref s.length), none] (s ++ [.lst ((lf 1 (idb rs)).map .int)]) = .ok (.tup (rs.map .int).reverse) (s ++ [.lst ((lf 1 (idb rs)).map .int)]) := rfl
    rw [this, bind_ok, ← List.map_reverse]
    rfl
  obtain ⟨ρ', s', f1, rfl, z, rfl⟩ := for_ix (g := t_indexes_by_ones_1) (body := b_indexes_by_ones_1)
    (fun i ρ s' => s' = s ++ [.lst ((lf (i + 1) (idb rs)).map .int)] ∧ ∃ z, ρ = [some (tI rs), some (.ref s.length), z]) hF ⟨rfl, _, rfl⟩ fun i x ρ s' hx hJ => by
      obtain ⟨rfl, z, rfl⟩ := hJ
      rw [List.getElem?_map] at hx
      cases hq : rs.reverse[i]? with
      | none => rw [hq] at hx; cases hx
      | some w =>
        rw [hq] at hx
        cases hx
        have hi : i < rs.length := by have := (List.getElem?_eq_some_iff.mp hq).1; rwa [List.length_reverse] at this
        refine ⟨[some (tI rs), some (.ref s.length), some (.int w)], [some (tI rs), some (.ref s.length), some (.int w)], s ++ [.lst ((lf (i + 1 + 1) (idb rs)).map .int)], rfl, .inl ?_, rfl, _, rfl⟩
        unfold b_indexes_by_ones_1
        have hl : mBin ixA (mVar 1) (mUn negD (mK (.int 1))) [some (tI rs), some (.ref s.length), some (.int w)] (s ++ [.lst ((lf (i + 1) (idb rs)).map .int)]) = .ok (.int (idb rs i)) (s ++ [.lst ((lf (i + 1) (idb rs)).map .int)]) := by
          refine bin_v (x := .ref s.length) (y := .int (-1)) rfl (un_v k_ev neg_ev) (ixA_list (ref_list at_s) ?_)
          rw [lf_succ, List.map_append]
          exact atI_last _ _
        rw [expr_v (app_s (v := .int (idb rs (i + 1))) (by rw [List.length_map, lf_len]; omega) rfl (bin_v hl (y := .int w) rfl (by rw [idb_succ hq]; exact add_ii))), lf_succ (n := i + 1), List.map_append]
        rfl
  rw [List.length_map, List.length_reverse] at f1
  unfold g_indexes_by_ones d_indexes_by_ones
  rw [den_ev, e0]
  refine fin_nx e1 (fin_nx f1 ?_)
  rw [ret_v (w := .ref s.length) rfl]
  exact fin_I hs
def pop : Nat → Nat
  | 0 => 0
  | n + 1 => (n + 1) % 2 + pop ((n + 1) / 2)
theorem pop_0 : pop 0 = 0 := by simp [pop]
theorem pop_eq (n : Nat) : pop n = n % 2 + pop (n / 2) := by
  cases n with
  | zero => simp [pop]
  | succ n => rw [pop]
theorem pop_top : ∀ (w : Nat) {n : Nat}, n < 2 ^ w → pop (2 ^ w + n) = pop n + 1
  | 0, n, h => by
    obtain rfl : n = 0 := by simpa using h
    simp [pop]
  | w + 1, n, h => by
    have e : 2 ^ (w + 1) = 2 * 2 ^ w := by rw [Nat.pow_succ, Nat.mul_comm]
    rw [pop_eq (2 ^ (w + 1) + n), pop_eq n, show (2 ^ (w + 1) + n) / 2 = 2 ^ w + n / 2 by omega, pop_top w (n := n / 2) (by omega)]
    omega
theorem pop_le : ∀ (w : Nat) {n : Nat}, n < 2 ^ w → pop n ≤ w
  | 0, n, h => by
    obtain rfl : n = 0 := by simpa using h
    rw [pop_0]
    exact Nat.le_refl _
  | w + 1, n, h => by
    have e : 2 ^ (w + 1) = 2 * 2 ^ w := by rw [Nat.pow_succ, Nat.mul_comm]
    rw [pop_eq n]
    have := pop_le w (n := n / 2) (by omega)
    omega
theorem ones_ok {w : Nat} (hw : w ≤ 12) : g_ones_of [.int (w : Int)] s = .ok (lI (lf (2 ^ w) fun i => pop i)) s := by
  have e0 : startD 4 [.int (w : Int)] = [some (.int w), none, none, none] := rfl
  have e1 : mAsg (mLst (mCons (mK (.int 0)) mNil)) (gN 1) [some (.int (w : Int)), none, none, none] s = .nx [some (.int (w : Int)), some (lI (lf (2 ^ 0) fun i => pop i)), none, none] s := by
    have h1 : lf (2 ^ 0) (fun i => (pop i : Int)) = [0] := by simp [lf, pop]
    rw [h1]
    exact (asg_v (lst_v (cons_v k_ev nil_ev) (by simp))).trans rfl
  have hF : F_ones_of_1 [some (.int (w : Int)), some (lI (lf (2 ^ 0) fun i => pop i)), none, none] s = .ok { ws := rng 0 w } s := by
    have := range1_ok (fa := mCons (mVar 0) mNil) (ρ := [some (.int (w : Int)), some (lI (lf (2 ^ 0) fun i => pop i)), none, none]) (s := s) (cons_v (w := .int (w : Int)) rfl nil_ev) (okR_s (by omega) (by omega))
    rw [Int.toNat_natCast] at this
    exact this
  obtain ⟨ρ', s', f1, rfl, z, z2, rfl⟩ := for_ix (g := t_ones_of_1) (body := b_ones_of_1)
    (fun i ρ s' => s' = s ∧ ∃ z z2, ρ = [some (.int (w : Int)), some (lI (lf (2 ^ i) fun i => pop i)), z, z2]) hF ⟨rfl, _, _, rfl⟩ fun i x ρ s' hx hJ => by
      obtain ⟨rfl, z, z2, rfl⟩ := hJ
      obtain ⟨hi, rfl⟩ := rng_get hx
      have hp : 2 ^ i ≤ 4096 := Nat.le_trans (Nat.pow_le_pow_right (by decide) (by omega : i ≤ 12)) (by decide)
      have hc : mComp cF_ones_of_1 [3] ct_ones_of_1 ci_ones_of_1 ce_ones_of_1 [some (.int (w : Int)), some (lI (lf (2 ^ i) fun i => pop i)), some (.int (0 + (i : Int))), z2] s' = .ok (lI ((lf (2 ^ i) fun i => (pop i : Int)).map (· + 1))) s' := by
        have := comp_mapA (vs := [3]) (g := ct_ones_of_1) (elt := ce_ones_of_1) (f := cF_ones_of_1) (ρ := [some (.int (w : Int)), some (lI (lf (2 ^ i) fun i => pop i)), some (.int (0 + (i : Int))), z2]) (s := s') (l := lf (2 ^ i) fun i => pop i) (e := .int) (fun a => .int (a + 1)) rfl (by rw [lf_len]; unfold lim; omega) fun a _ => ⟨_, rfl, bin_v (x := .int a) rfl k_ev add_ii⟩
        refine this.trans ?_
        unfold lI
        rw [List.map_map]
        rfl
      refine ⟨[some (.int (w : Int)), some (lI (lf (2 ^ i) fun i => pop i)), some (.int (0 + (i : Int))), z2], [some (.int (w : Int)), some (lI (lf (2 ^ (i + 1)) fun i => pop i)), some (.int (0 + (i : Int))), z2], s', rfl, .inl ?_, rfl, _, _, rfl⟩
      unfold b_ones_of_1
      refine (asg_v (bin_v (x := lI (lf (2 ^ i) fun i => pop i)) rfl hc (add_lst (by rw [List.length_map, List.length_map, List.length_map, lf_len]; omega)))).trans ?_
      rw [← List.map_append, lf_map, lf_app]
      have : lf (2 ^ i + 2 ^ i) (fun j => if j < 2 ^ i then (pop j : Int) else (pop (j - 2 ^ i) : Int) + 1) = lf (2 ^ (i + 1)) fun j => (pop j : Int) := by
        rw [Nat.pow_succ, Nat.mul_two]
        refine lf_ext fun j hj => ?_
        by_cases h : j < 2 ^ i
        · rw [if_pos h]
        · rw [if_neg h]
          have := pop_top i (n := j - 2 ^ i) (by omega)
          rw [show 2 ^ i + (j - 2 ^ i) = j by omega] at this
          rw [this]
          rfl
      rw [this]
      rfl
  rw [rng_len] at f1
  unfold g_ones_of d_ones_of
  rw [den_ev, e0]
  refine fin_nx e1 (fin_nx f1 ?_)
  rw [ret_v (w := lI (lf (2 ^ w) fun i => pop i)) rfl]
  exact finC_rt
end
end MP.PG
set_option Elab.async false
set_option linter.all false
set_option maxRecDepth 100000
set_option maxHeartbeats 1000000
namespace MP.PG
open PySem PySem.Spec MP
open PyProof.Rows hiding St
open L2 hiding St r1
section
variable {s : Sto} {ρ : Env}
theorem compL_map {vs : List Nat} {g : FG} {elt : FE} (φ : Dv → Dv) : ∀ {us : List Dv}, (∀ u ∈ us, ∃ ρ1, g u (wipeD ρ vs) s = some ρ1 ∧ elt ρ1 s = .ok (φ u) s) → compL none vs g mYes elt ρ us s = some (us.map φ, s)
  | [], _ => by rw [List.map_nil]; simp [compL]
  | a :: l, h => by
    obtain ⟨ρ1, h1, h2⟩ := h a List.mem_cons_self
    rw [List.map_cons]
    unfold compL
    rw [if_pos (.inl rfl), h1]
    simp only [yes_ev, h2, compL_map φ (us := l) fun u hu => h u (List.mem_cons_of_mem _ hu)]
    rfl
theorem compL2_dup {vs vs1 : List Nat} {g g1 : FG} {F1 : FI} {elt : FE} {us : List Dv} (φ : Dv → Dv → Dv) : ∀ {ws : List Dv}, (∀ w ∈ ws, ∃ ρ1, g w (wipeD ρ vs) s = some ρ1 ∧ F1 ρ1 s = .ok { ws := us } s ∧ ∀ u ∈ us, ∃ ρ2, g1 u (wipeD ρ1 vs1) s = some ρ2 ∧ elt ρ2 s = .ok (φ w u) s) →
    compL2 none vs g mYes F1 vs1 g1 mYes elt ρ ws s = some (ws.flatMap fun w => us.map (φ w), s)
  | [], _ => by simp [compL2]
  | a :: l, h => by
    obtain ⟨ρ1, h1, h2, h3⟩ := h a List.mem_cons_self
    unfold compL2
    rw [if_pos (.inl rfl), h1]
    simp only [yes_ev, h2, compL_map (φ a) h3, compL2_dup φ (ws := l) fun u hu => h u (List.mem_cons_of_mem _ hu)]
    rfl
theorem comp2_dup {F F1 : FI} {vs vs1 : List Nat} {g g1 : FG} {elt : FE} {ws us : List Dv} (φ : Dv → Dv → Dv) (hF : F ρ s = .ok { ws := ws } s)
    (h : ∀ w ∈ ws, ∃ ρ1, g w (wipeD ρ vs) s = some ρ1 ∧ F1 ρ1 s = .ok { ws := us } s ∧ ∀ u ∈ us, ∃ ρ2, g1 u (wipeD ρ1 vs1) s = some ρ2 ∧ elt ρ2 s = .ok (φ w u) s) (hl : ws.length * us.length ≤ 1000000) :
    mComp2 F vs g mYes F1 vs1 g1 mYes elt ρ s = .ok (.lst (ws.flatMap fun w => us.map (φ w))) s := by
  unfold mComp2
  rw [hF, bind_ok]
  dsimp only
  rw [compL2_dup φ h]
  have e : (ws.flatMap fun w => us.map (φ w)).length = ws.length * us.length := by
    rw [List.length_flatMap]
    clear h hF hl
    induction ws with
    | nil => simp
    | cons a l ih => rw [List.map_cons, List.sum_cons, ih, List.length_map, List.length_cons, Nat.succ_mul, Nat.add_comm]
  dsimp only
  rw [if_pos (by rw [e]; unfold lim; omega)]
theorem lf_dup {n : Nat} {f : Nat → Int} : ((lf n f).map Dv.int).flatMap (fun w => [w, w]) = (lf (2 * n) fun i => f (i / 2)).map .int := by
  induction n with
  | zero => rfl
  | succ n ih =>
    rw [lf_succ, List.map_append, List.flatMap_append, ih, show 2 * (n + 1) = 2 * n + 1 + 1 by omega, lf_succ, lf_succ, List.append_assoc, List.map_append]
    congr 1
    show [Dv.int (f n), .int (f n)] = [.int (f (2 * n / 2)), .int (f ((2 * n + 1) / 2))]
    rw [show 2 * n / 2 = n by omega, show (2 * n + 1) / 2 = n by omega]
theorem pow12 {n : Nat} (h : n ≤ 12) : 2 ^ n ≤ 4096 := Nat.le_trans (Nat.pow_le_pow_right (by decide) h) (by decide)
theorem shl_one {n : Nat} (h : n ≤ 12) : shlD s (.int 1) (.int (n : Int)) = some (.int ((2 ^ n : Nat) : Int)) := by
  show (if 0 ≤ (n : Int) ∧ (n : Int) ≤ 1000000 ∧ (1 : Int).natAbs < 2 ^ 64 then some (Dv.int (1 * 2 ^ (n : Int).toNat)) else none) = _
  rw [if_pos ⟨by omega, by omega, by decide⟩, Int.toNat_natCast, Int.one_mul]
  congr 2
/-- what a term pays for a window -/
def tpF (t : Term) (w : Nat) : Int := t.a * idb t.rs (pop (w / 2 % 2 ^ t.rs.length)) + t.b * idb t.rs (pop (w % 2 ^ t.rs.length))
theorem term_pays_ok {t : Term} {wide : Nat} (hs : Cl s) (h : TermOk t) (hl : t.rs.length ≤ wide) (hw : wide ≤ 6) : g_term_pays [tm t, .int (wide : Int)] s = .ok (lI (lf (2 ^ (wide + 1)) (tpF t))) s := by
  have h6 := h.rule.six
  have h1 := h.rule.one
  have p1 := pow12 (n := t.rs.length) (by omega)
  have p2 : 0 < 2 ^ t.rs.length := Nat.two_pow_pos _
  have hN : 2 ^ (t.rs.length + 1) = 2 * 2 ^ t.rs.length := by rw [Nat.pow_succ, Nat.mul_comm]
  have ha := h.a0
  have ha1 := h.a1
  have hb := h.b0
  have hb1 := h.b1
  have e0 : startD 14 [tm t, .int (wide : Int)] = [some (tm t), some (.int wide), none, none, none, none, none, none, none, none, none, none, none, none] := rfl
  have e1 : mAsg (mVar 0) (gT 3 (gsC (gN 2) (gsC (gN 3) (gsC (gN 4) gs0)))) [some (tm t), some (.int (wide : Int)), none, none, none, none, none, none, none, none, none, none, none, none] s = .nx [some (tm t), some (.int wide), some (tI t.rs), some (.int t.a), some (.int t.b), none, none, none, none, none, none, none, none, none] s := rfl
  have e2 : mAsg (mCall (g_indexes_by_ones) (mCons (mVar 2) mNil)) (gN 5) [some (tm t), some (.int (wide : Int)), some (tI t.rs), some (.int t.a), some (.int t.b), none, none, none, none, none, none, none, none, none] s = .nx [some (tm t), some (.int wide), some (tI t.rs), some (.int t.a), some (.int t.b), some (lI (lf (t.rs.length + 1) (idb t.rs))), none, none, none, none, none, none, none, none] s :=
    (asg_v (call_v (cons_v (w := tI t.rs) rfl nil_ev) (told_ok hs (by omega)))).trans rfl
  have e3 : mAsg (mComp cF_term_pays_1 [9] ct_term_pays_1 ci_term_pays_1 ce_term_pays_1) (gN 6) [some (tm t), some (.int (wide : Int)), some (tI t.rs), some (.int t.a), some (.int t.b), some (lI (lf (t.rs.length + 1) (idb t.rs))), none, none, none, none, none, none, none, none] s = .nx [some (tm t), some (.int wide), some (tI t.rs), some (.int t.a), some (.int t.b), some (lI (lf (t.rs.length + 1) (idb t.rs))), some (lI (lf (2 ^ t.rs.length) fun v => idb t.rs (pop v))), none, none, none, none, none, none, none] s := by
    refine (asg_v (w := lI (lf (2 ^ t.rs.length) fun v => idb t.rs (pop v))) ?_).trans rfl
    have hF : cF_term_pays_1 [some (tm t), some (.int (wide : Int)), some (tI t.rs), some (.int t.a), some (.int t.b), some (lI (lf (t.rs.length + 1) (idb t.rs))), none, none, none, none, none, none, none, none] s = .ok { ws := (List.range (2 ^ t.rs.length)).map fun v => .int (pop v : Int) } s := by
      unfold cF_term_pays_1 iSeq
      rw [call_v (cons_v (blt_v (cons_v (w := tI t.rs) rfl nil_ev) (z := .int (t.rs.length : Int)) (by rw [len_tup, List.length_map])) nil_ev) (ones_ok (by omega)), bind_ok]
      unfold lf lI
      rw [List.map_map]
      rfl
    have := comp_mapA (vs := [9]) (g := ct_term_pays_1) (elt := ce_term_pays_1) (l := List.range (2 ^ t.rs.length)) (e := fun v => .int (pop v : Int)) (fun v => .int (idb t.rs (pop v))) hF (by rw [List.length_range]; unfold lim; omega) fun v hv => ⟨_, rfl, by
      have hp := pop_le t.rs.length (List.mem_range.mp hv)
      have hx : ((lf (t.rs.length + 1) (idb t.rs)).map Dv.int)[pop v]? = some (.int (idb t.rs (pop v))) := by rw [List.getElem?_map, lf_get (by omega)]; rfl
      exact bin_v (x := lI (lf (t.rs.length + 1) (idb t.rs))) (y := .int (pop v : Int)) rfl rfl (ix_lst hx)⟩
    refine this.trans ?_
    unfold lI lf
    rw [List.map_map]
    rfl
  have e4 : mAsg (mComp2 cF_term_pays_2 [10, 11] ct_term_pays_2 ci_term_pays_2 cF1_term_pays_2 [11] ct1_term_pays_2 ci1_term_pays_2 ce_term_pays_2) (gN 7) [some (tm t), some (.int (wide : Int)), some (tI t.rs), some (.int t.a), some (.int t.b), some (lI (lf (t.rs.length + 1) (idb t.rs))), some (lI (lf (2 ^ t.rs.length) fun v => idb t.rs (pop v))), none, none, none, none, none, none, none] s = .nx [some (tm t), some (.int wide), some (tI t.rs), some (.int t.a), some (.int t.b), some (lI (lf (t.rs.length + 1) (idb t.rs))), some (lI (lf (2 ^ t.rs.length) fun v => idb t.rs (pop v))), some (lI (lf (2 ^ (t.rs.length + 1)) fun v => idb t.rs (pop (v / 2)))), none, none, none, none, none, none] s := by
    refine (asg_v (w := lI (lf (2 ^ (t.rs.length + 1)) fun v => idb t.rs (pop (v / 2)))) ?_).trans rfl
    have := comp2_dup (F := cF_term_pays_2) (F1 := cF1_term_pays_2) (vs := [10, 11]) (vs1 := [11]) (g := ct_term_pays_2) (g1 := ct1_term_pays_2) (elt := ce_term_pays_2) (s := s) (ρ := [some (tm t), some (.int (wide : Int)), some (tI t.rs), some (.int t.a), some (.int t.b), some (lI (lf (t.rs.length + 1) (idb t.rs))), some (lI (lf (2 ^ t.rs.length) fun v => idb t.rs (pop v))), none, none, none, none, none, none, none]) (ws := (lf (2 ^ t.rs.length) fun v => idb t.rs (pop v)).map .int) (us := [.int 0, .int 1]) (fun w _ => w) rfl
      (fun w _ => ⟨_, rfl, rfl, fun u _ => ⟨_, rfl, rfl⟩⟩) (by rw [List.length_map, lf_len]; show 2 ^ t.rs.length * 2 ≤ _; omega)
    refine this.trans ?_
    have q : ((lf (2 ^ t.rs.length) fun v => idb t.rs (pop v)).map Dv.int).flatMap (fun w => [Dv.int 0, .int 1].map fun _ => w) = ((lf (2 ^ t.rs.length) fun v => idb t.rs (pop v)).map Dv.int).flatMap fun w => [w, w] := rfl
    rw [q, lf_dup, hN]
  have e5 : mAsg (mComp cF_term_pays_3 [12, 13] ct_term_pays_3 ci_term_pays_3 ce_term_pays_3) (gN 8) [some (tm t), some (.int (wide : Int)), some (tI t.rs), some (.int t.a), some (.int t.b), some (lI (lf (t.rs.length + 1) (idb t.rs))), some (lI (lf (2 ^ t.rs.length) fun v => idb t.rs (pop v))), some (lI (lf (2 ^ (t.rs.length + 1)) fun v => idb t.rs (pop (v / 2)))), none, none, none, none, none, none] s = .nx [some (tm t), some (.int wide), some (tI t.rs), some (.int t.a), some (.int t.b), some (lI (lf (t.rs.length + 1) (idb t.rs))), some (lI (lf (2 ^ t.rs.length) fun v => idb t.rs (pop v))), some (lI (lf (2 ^ (t.rs.length + 1)) fun v => idb t.rs (pop (v / 2)))), some (lI (lf (2 ^ (t.rs.length + 1)) fun v => t.a * idb t.rs (pop (v / 2)) + t.b * idb t.rs (pop (v % 2 ^ t.rs.length)))), none, none, none, none, none] s := by
    refine (asg_v (w := lI (lf (2 ^ (t.rs.length + 1)) fun v => t.a * idb t.rs (pop (v / 2)) + t.b * idb t.rs (pop (v % 2 ^ t.rs.length)))) ?_).trans rfl
    have hm := mulL (ρ := [some (tm t), some (.int (wide : Int)), some (tI t.rs), some (.int t.a), some (.int t.b), some (lI (lf (t.rs.length + 1) (idb t.rs))), some (lI (lf (2 ^ t.rs.length) fun v => idb t.rs (pop v))), some (lI (lf (2 ^ (t.rs.length + 1)) fun v => idb t.rs (pop (v / 2)))), none, none, none, none, none, none]) (s := s) (f := mVar 6) (g := mK (.int 2)) (n := 2 ^ t.rs.length) (k := 2) (φ := fun v => idb t.rs (pop v)) p2 rfl k_ev (by omega)
    have hF := zip_src (f := mVar 7) (ns := lf (2 ^ (t.rs.length + 1)) fun v => idb t.rs (pop (v / 2))) rfl hm
    have := comp_zip (elt := ce_term_pays_3) (i := 12) (j := 13) (fun x y => t.a * x + t.b * y) (F := cF_term_pays_3) hF (by rw [lf_len, hN]; omega) fun x y =>
      bin_v (bin_v (x := .int t.a) (y := .int x) rfl rfl (mul_ii (cm_l ⟨by omega, by omega⟩))) (bin_v (x := .int t.b) (y := .int y) rfl rfl (mul_ii (cm_l ⟨by omega, by omega⟩))) add_ii
    refine this.trans ?_
    rw [hN, lf_zipWith]
  have e6 : mBin mulD (mVar 8) (mBin shlD (mK (.int 1)) (mBin subD (mVar 1) (mBlt lenD (mCons (mVar 2) mNil)))) [some (tm t), some (.int (wide : Int)), some (tI t.rs), some (.int t.a), some (.int t.b), some (lI (lf (t.rs.length + 1) (idb t.rs))), some (lI (lf (2 ^ t.rs.length) fun v => idb t.rs (pop v))), some (lI (lf (2 ^ (t.rs.length + 1)) fun v => idb t.rs (pop (v / 2)))), some (lI (lf (2 ^ (t.rs.length + 1)) fun v => t.a * idb t.rs (pop (v / 2)) + t.b * idb t.rs (pop (v % 2 ^ t.rs.length)))), none, none, none, none, none] s = .ok (lI (lf (2 ^ (wide + 1)) (tpF t))) s := by
    have h7 : 2 ^ (t.rs.length + 1) ≤ 128 := Nat.le_trans (Nat.pow_le_pow_right (by decide) (by omega : t.rs.length + 1 ≤ 7)) (by decide)
    have h8 : 2 ^ (wide - t.rs.length) ≤ 64 := Nat.le_trans (Nat.pow_le_pow_right (by decide) (by omega : wide - t.rs.length ≤ 6)) (by decide)
    have hk : mBin shlD (mK (.int 1)) (mBin subD (mVar 1) (mBlt lenD (mCons (mVar 2) mNil))) [some (tm t), some (.int (wide : Int)), some (tI t.rs), some (.int t.a), some (.int t.b), some (lI (lf (t.rs.length + 1) (idb t.rs))), some (lI (lf (2 ^ t.rs.length) fun v => idb t.rs (pop v))), some (lI (lf (2 ^ (t.rs.length + 1)) fun v => idb t.rs (pop (v / 2)))), some (lI (lf (2 ^ (t.rs.length + 1)) fun v => t.a * idb t.rs (pop (v / 2)) + t.b * idb t.rs (pop (v % 2 ^ t.rs.length)))), none, none, none, none, none] s = .ok (.int ((2 ^ (wide - t.rs.length) : Nat) : Int)) s := by
      have hsub : mBin subD (mVar 1) (mBlt lenD (mCons (mVar 2) mNil)) [some (tm t), some (.int (wide : Int)), some (tI t.rs), some (.int t.a), some (.int t.b), some (lI (lf (t.rs.length + 1) (idb t.rs))), some (lI (lf (2 ^ t.rs.length) fun v => idb t.rs (pop v))), some (lI (lf (2 ^ (t.rs.length + 1)) fun v => idb t.rs (pop (v / 2)))), some (lI (lf (2 ^ (t.rs.length + 1)) fun v => t.a * idb t.rs (pop (v / 2)) + t.b * idb t.rs (pop (v % 2 ^ t.rs.length)))), none, none, none, none, none] s = .ok (.int ((wide - t.rs.length : Nat) : Int)) s := by
        have := bin_v (o := subD) (f := mVar 1) (ρ := [some (tm t), some (.int (wide : Int)), some (tI t.rs), some (.int t.a), some (.int t.b), some (lI (lf (t.rs.length + 1) (idb t.rs))), some (lI (lf (2 ^ t.rs.length) fun v => idb t.rs (pop v))), some (lI (lf (2 ^ (t.rs.length + 1)) fun v => idb t.rs (pop (v / 2)))), some (lI (lf (2 ^ (t.rs.length + 1)) fun v => t.a * idb t.rs (pop (v / 2)) + t.b * idb t.rs (pop (v % 2 ^ t.rs.length)))), none, none, none, none, none]) (s := s) (x := .int (wide : Int)) rfl (blt_v (o := lenD) (cons_v (f := mVar 2) (w := tI t.rs) rfl nil_ev) (z := .int (t.rs.length : Int)) (by rw [len_tup, List.length_map])) sub_ev
        rw [show (wide : Int) - (t.rs.length : Int) = ((wide - t.rs.length : Nat) : Int) by omega] at this
        exact this
      exact bin_v k_ev hsub (shl_one (by omega))
    have := mulL (n := 2 ^ (t.rs.length + 1)) (φ := fun v => t.a * idb t.rs (pop (v / 2)) + t.b * idb t.rs (pop (v % 2 ^ t.rs.length))) (f := mVar 8) (by omega) rfl hk (Nat.le_trans (Nat.mul_le_mul h7 h8) (by decide))
    refine this.trans ?_
    have e : 2 ^ (wide - t.rs.length) * 2 ^ (t.rs.length + 1) = 2 ^ (wide + 1) := by rw [← Nat.pow_add, show wide - t.rs.length + (t.rs.length + 1) = wide + 1 by omega]
    rw [e]
    refine congrArg (fun l => R.ok (lI l) s) (lf_ext fun v hv => ?_)
    unfold tpF
    rw [hN, Nat.mod_mul_right_div_self, Nat.mod_mod_of_dvd v (Nat.dvd_mul_left _ 2)]
  unfold g_term_pays d_term_pays
  rw [den_ev, e0]
  refine fin_nx e1 (fin_nx e2 (fin_nx e3 (fin_nx e4 (fin_nx e5 ?_))))
  rw [ret_v e6]
  exact finC_rt
/-- what a bill pays for a window of bits -/
def bpF (o : Int) (ts : List Term) (w : Nat) : Int := o * ((w % 2 : Nat) : Int) + (ts.map fun t => tpF t w).sum
theorem bit_pays_ok {o : Int} {ts : List Term} (hs : Cl s) (h : Bill o ts) : g_bit_pays [bi o ts] s = .ok (lI (lf (2 ^ (wd ts + 1)) (bpF o ts))) s := by
  have h2 := h.two
  obtain ⟨w1, w6⟩ := wd_rng h.ok
  have p1 : 2 ^ wd ts ≤ 64 := Nat.le_trans (Nat.pow_le_pow_right (by decide) w6) (by decide)
  have hN : 2 ^ (wd ts + 1) = 2 ^ wd ts * 2 := Nat.pow_succ 2 _
  have e0 : startD 8 [bi o ts] = [some (bi o ts), none, none, none, none, none, none, none] := rfl
  have e1 : mAsg (mVar 0) (gT 2 (gsC (gN 1) (gsC (gN 2) gs0))) [some (bi o ts), none, none, none, none, none, none, none] s = .nx [some (bi o ts), some (.int o), some (.tup (ts.map tm)), none, none, none, none, none] s := rfl
  have e2 : mAsg (mCall (g_width_of) (mCons (mVar 0) mNil)) (gN 3) [some (bi o ts), some (.int o), some (.tup (ts.map tm)), none, none, none, none, none] s = .nx [some (bi o ts), some (.int o), some (.tup (ts.map tm)), some (.int (wd ts)), none, none, none, none] s :=
    (asg_v (call_v (cons_v (w := bi o ts) rfl nil_ev) (width_of_ok h.ok h.two))).trans rfl
  have z0 : lf 2 (fun i => o * (i : Int)) = [0, o] := by simp [lf, List.range_succ]
  have e3 : mAsg (mBin mulD (mLst (mCons (mK (.int 0)) (mCons (mVar 1) mNil))) (mBin shlD (mK (.int 1)) (mVar 3))) (gN 4) [some (bi o ts), some (.int o), some (.tup (ts.map tm)), some (.int (wd ts)), none, none, none, none] s = .nx [some (bi o ts), some (.int o), some (.tup (ts.map tm)), some (.int (wd ts)), some (lI (lf (2 ^ (wd ts + 1)) (bpF o []))), none, none, none] s := by
    refine (asg_v (w := lI (lf (2 ^ (wd ts + 1)) (bpF o []))) ?_).trans rfl
    have := mulL (ρ := [some (bi o ts), some (.int o), some (.tup (ts.map tm)), some (.int (wd ts)), none, none, none, none]) (s := s) (n := 2) (k := 2 ^ wd ts) (φ := fun i => o * (i : Int)) (f := mLst (mCons (mK (.int 0)) (mCons (mVar 1) mNil))) (g := mBin shlD (mK (.int 1)) (mVar 3)) (by decide) (by rw [z0]; exact lst_v (cons_v k_ev (cons_v (w := .int o) rfl nil_ev)) (by simp)) (bin_v k_ev (y := .int (wd ts : Int)) rfl (shl_one (by omega))) (by omega)
    refine this.trans ?_
    rw [hN]
    congr 2
    refine lf_ext fun i _ => ?_
    unfold bpF
    show _ = _ + (0 : Int)
    rw [Int.add_zero]
  have hF : F_bit_pays_1 [some (bi o ts), some (.int o), some (.tup (ts.map tm)), some (.int (wd ts)), some (lI (lf (2 ^ (wd ts + 1)) (bpF o []))), none, none, none] s = .ok { ws := ts.map tm } s := rfl
  obtain ⟨ρ', s', f1, rfl, z5, rfl⟩ := for_ix (g := t_bit_pays_1) (body := b_bit_pays_1)
    (fun i ρ s' => s' = s ∧ ∃ z5, ρ = [some (bi o ts), some (.int o), some (.tup (ts.map tm)), some (.int (wd ts)), some (lI (lf (2 ^ (wd ts + 1)) (bpF o (ts.take i)))), z5, none, none]) hF ⟨rfl, _, rfl⟩ fun i x ρ s' hx hJ => by
      obtain ⟨rfl, z5, rfl⟩ := hJ
      rw [List.getElem?_map] at hx
      cases hq : ts[i]? with
      | none => rw [hq] at hx; cases hx
      | some t =>
        rw [hq] at hx
        cases hx
        have hm := List.mem_of_getElem? hq
        refine ⟨[some (bi o ts), some (.int o), some (.tup (ts.map tm)), some (.int (wd ts)), some (lI (lf (2 ^ (wd ts + 1)) (bpF o (ts.take i)))), some (tm t), none, none], [some (bi o ts), some (.int o), some (.tup (ts.map tm)), some (.int (wd ts)), some (lI (lf (2 ^ (wd ts + 1)) (bpF o (ts.take (i + 1))))), some (tm t), none, none], s', rfl, .inl ?_, rfl, _, rfl⟩
        unfold b_bit_pays_1
        refine (asg_v (w := lI (lf (2 ^ (wd ts + 1)) (bpF o (ts.take (i + 1))))) ?_).trans rfl
        have hz := zip_src (ρ := [some (bi o ts), some (.int o), some (.tup (ts.map tm)), some (.int (wd ts)), some (lI (lf (2 ^ (wd ts + 1)) (bpF o (ts.take i)))), some (tm t), none, none]) (s := s') (f := mVar 4) (g := mCall (g_term_pays) (mCons (mVar 5) (mCons (mVar 3) mNil))) (ns := lf (2 ^ (wd ts + 1)) (bpF o (ts.take i))) rfl (call_v (cons_v (w := tm t) rfl (cons_v (w := .int (wd ts : Int)) rfl nil_ev)) (term_pays_ok hs (h.ok t hm) (wd_ge h.ok hm) w6))
        have := comp_zip (elt := ce_bit_pays_1) (i := 6) (j := 7) (fun x y => x + y) (F := cF_bit_pays_1) hz (by rw [lf_len, hN]; omega) fun x y => bin_v (x := .int x) (y := .int y) rfl rfl add_ii
        refine this.trans ?_
        rw [lf_zipWith]
        congr 2
        refine lf_ext fun v _ => ?_
        unfold bpF
        rw [List.take_succ, hq, List.map_append, List.sum_append]
        show _ + _ = _ + (_ + (tpF t v + 0))
        omega
  rw [List.length_map, List.take_of_length_le (Nat.le_refl _)] at f1
  unfold g_bit_pays d_bit_pays
  rw [den_ev, e0]
  refine fin_nx e1 (fin_nx e2 (fin_nx e3 (fin_nx f1 ?_)))
  rw [ret_v (w := lI (lf (2 ^ (wd ts + 1)) (bpF o ts))) rfl]
  exact finC_rt
end
end MP.PG
set_option Elab.async false
set_option linter.all false
set_option maxRecDepth 100000
set_option maxHeartbeats 1000000
namespace MP.PG
open PySem PySem.Spec MP
open PyProof.Rows hiding St
open L2 hiding St r1
section
variable (p : Nat → Int) (N b : Nat) (H : Nat → Int) (n : Nat)
/-- what a walk pays whose first sign is this, the rest being as high as it may -/
def wk (s : Nat) : Int := p (s + n * b) + H ((s + n * b) % N)
/-- the height, or what begins with one of so many signs -/
def rzS : Nat → Int
  | 0 => H n
  | j + 1 => if rzS j > wk p N b H n j then rzS j else wk p N b H n j
def rz : Int := rzS p N b H n b
end
section
variable {p : Nat → Int} {N b : Nat} {H G : Nat → Int} {n s j : Nat}
theorem rzS_ge : ∀ j, H n ≤ rzS p N b H n j
  | 0 => Int.le_refl _
  | j + 1 => by
    have := rzS_ge j
    unfold rzS
    split <;> omega
theorem rzS_gew : ∀ {j}, s < j → wk p N b H n s ≤ rzS p N b H n j
  | j + 1, h => by
    unfold rzS
    by_cases e : s = j
    · subst e
      split <;> omega
    · have := rzS_gew (j := j) (by omega)
      split <;> omega
theorem rzS_att : ∀ j, rzS p N b H n j = H n ∨ ∃ s, s < j ∧ rzS p N b H n j = wk p N b H n s
  | 0 => .inl rfl
  | j + 1 => by
    unfold rzS
    split
    · rcases rzS_att j with h | ⟨s, h1, h2⟩
      · exact .inl h
      · exact .inr ⟨s, by omega, h2⟩
    · exact .inr ⟨j, by omega, rfl⟩
theorem rz_ge : H n ≤ rz p N b H n := rzS_ge b
theorem rz_gew (h : s < b) : wk p N b H n s ≤ rz p N b H n := rzS_gew h
theorem rz_att : rz p N b H n = H n ∨ ∃ s, s < b ∧ rz p N b H n = wk p N b H n s := rzS_att b
/-- heights are asked at numbers below N alone -/
theorem wk_congr (hN : 0 < N) (h : ∀ i, i < N → H i = G i) : wk p N b H n s = wk p N b G n s := by
  unfold wk
  rw [h _ (Nat.mod_lt _ hN)]
theorem rzS_congr (hN : 0 < N) (h : ∀ i, i < N → H i = G i) (hn : n < N) : ∀ j, rzS p N b H n j = rzS p N b G n j
  | 0 => h n hn
  | j + 1 => by
    unfold rzS
    rw [rzS_congr hN h hn j, wk_congr hN h]
theorem rz_congr (hN : 0 < N) (h : ∀ i, i < N → H i = G i) (hn : n < N) : rz p N b H n = rz p N b G n := rzS_congr hN h hn b
/-- the heights by at most so many steps -/
def Hh (p : Nat → Int) (N b : Nat) : Nat → Nat → Int
  | 0 => fun _ => 0
  | k + 1 => fun n => rz p N b (Hh p N b k) n
theorem Hh_mono (k : Nat) : Hh p N b k n ≤ Hh p N b (k + 1) n := rz_ge
theorem Hh_le {i k : Nat} (h : i ≤ k) : Hh p N b i n ≤ Hh p N b k n := by
  induction k with
  | zero =>
    obtain rfl : i = 0 := by omega
    exact Int.le_refl _
  | succ k ih =>
    by_cases e : i = k + 1
    · subst e; exact Int.le_refl _
    · exact Int.le_trans (ih (by omega)) (Hh_mono k)
theorem Hh_nonneg {k : Nat} : 0 ≤ Hh p N b k n := Hh_le (p := p) (N := N) (b := b) (i := 0) (Nat.zero_le k)
/-- what grew in a step grew by a sign, behind which it had grown in the step before -/
theorem grew {k : Nat} (h : Hh p N b k n < Hh p N b (k + 1) n) : ∃ s, s < b ∧ Hh p N b (k + 1) n = wk p N b (Hh p N b k) n s := by
  rcases rz_att (p := p) (N := N) (b := b) (H := Hh p N b k) (n := n) with e | h'
  · exact absurd h (by rw [show Hh p N b (k + 1) n = Hh p N b k n from e]; omega)
  · exact h'
theorem grew_back {k : Nat} (h : Hh p N b (k + 1) n < Hh p N b (k + 2) n) (hs : s < b) (e : Hh p N b (k + 2) n = wk p N b (Hh p N b (k + 1)) n s) : Hh p N b k ((s + n * b) % N) < Hh p N b (k + 1) ((s + n * b) % N) := by
  have h1 : wk p N b (Hh p N b k) n s ≤ Hh p N b (k + 1) n := rz_gew hs
  unfold wk at h1 e
  omega
end
section
variable {s : Sto} {p H : Nat → Int} {N b : Nat}
theorem raised_ok (hN : 0 < N) (hb : 0 < b) (hm : b * N ≤ 1000000) : g_raised [lI (lf (b * N) p), lI (lf N H), .int (b : Int)] s = .ok (lI (lf N (rz p N b H))) s := by
  have hb1 : b ≤ b * N := Nat.le_mul_of_pos_right _ hN
  have hN1 : N ≤ b * N := Nat.le_mul_of_pos_left _ hb
  have e0 : startD 10 [lI (lf (b * N) p), lI (lf N H), .int (b : Int)] = [some (lI (lf (b * N) p)), some (lI (lf N H)), some (.int b), none, none, none, none, none, none, none] := rfl
  have e1 : mAsg (mVar 1) (gN 3) [some (lI (lf (b * N) p)), some (lI (lf N H)), some (.int (b : Int)), none, none, none, none, none, none, none] s = .nx [some (lI (lf (b * N) p)), some (lI (lf N H)), some (.int b), some (lI (lf N H)), none, none, none, none, none, none] s := rfl
  have e2 : mAsg (mComp cF_raised_1 [6, 7] ct_raised_1 ci_raised_1 ce_raised_1) (gN 4) [some (lI (lf (b * N) p)), some (lI (lf N H)), some (.int (b : Int)), some (lI (lf N H)), none, none, none, none, none, none] s = .nx [some (lI (lf (b * N) p)), some (lI (lf N H)), some (.int b), some (lI (lf N H)), some (lI (lf (b * N) fun i => p i + H (i % N))), none, none, none, none, none] s := by
    refine (asg_v (w := lI (lf (b * N) fun i => p i + H (i % N))) ?_).trans rfl
    have hmu := mulL (ρ := [some (lI (lf (b * N) p)), some (lI (lf N H)), some (.int (b : Int)), some (lI (lf N H)), none, none, none, none, none, none]) (s := s) (f := mVar 1) (g := mVar 2) (n := N) (k := b) (φ := H) hN rfl rfl (by rw [Nat.mul_comm]; exact hm)
    have hF := zip_src (f := mVar 0) (ns := lf (b * N) p) rfl hmu
    have := comp_zip (elt := ce_raised_1) (i := 6) (j := 7) (fun x y => x + y) (F := cF_raised_1) hF (by rw [lf_len]; exact hm) fun x y => bin_v (x := .int x) (y := .int y) rfl rfl add_ii
    refine this.trans ?_
    rw [lf_zipWith]
  have hF : F_raised_1 [some (lI (lf (b * N) p)), some (lI (lf N H)), some (.int (b : Int)), some (lI (lf N H)), some (lI (lf (b * N) fun i => p i + H (i % N))), none, none, none, none, none] s = .ok { ws := rng 0 b } s := by
    have := range1_ok (fa := mCons (mVar 2) mNil) (ρ := [some (lI (lf (b * N) p)), some (lI (lf N H)), some (.int (b : Int)), some (lI (lf N H)), some (lI (lf (b * N) fun i => p i + H (i % N))), none, none, none, none, none]) (s := s) (cons_v (w := .int (b : Int)) rfl nil_ev) (okR_s (by omega) (by omega))
    rw [Int.toNat_natCast] at this
    exact this
  obtain ⟨ρ', s', f1, rfl, z5, rfl⟩ := for_ix (g := t_raised_1) (body := b_raised_1)
    (fun i ρ s' => s' = s ∧ ∃ z5, ρ = [some (lI (lf (b * N) p)), some (lI (lf N H)), some (.int (b : Int)), some (lI (lf N fun n => rzS p N b H n i)), some (lI (lf (b * N) fun i => p i + H (i % N))), z5, none, none, none, none]) hF ⟨rfl, _, rfl⟩ fun i x ρ s' hx hJ => by
      obtain ⟨rfl, z5, rfl⟩ := hJ
      obtain ⟨hi, rfl⟩ := rng_get hx
      refine ⟨[some (lI (lf (b * N) p)), some (lI (lf N H)), some (.int (b : Int)), some (lI (lf N fun n => rzS p N b H n i)), some (lI (lf (b * N) fun i => p i + H (i % N))), some (.int (0 + (i : Int))), none, none, none, none], [some (lI (lf (b * N) p)), some (lI (lf N H)), some (.int (b : Int)), some (lI (lf N fun n => rzS p N b H n (i + 1))), some (lI (lf (b * N) fun i => p i + H (i % N))), some (.int (0 + (i : Int))), none, none, none, none], s', rfl, .inl ?_, rfl, _, rfl⟩
      unfold b_raised_1
      refine (asg_v (w := lI (lf N fun n => rzS p N b H n (i + 1))) ?_).trans rfl
      have hst : mStep (mVar 4) (mVar 5) (mVar 2) [some (lI (lf (b * N) p)), some (lI (lf N H)), some (.int (b : Int)), some (lI (lf N fun n => rzS p N b H n i)), some (lI (lf (b * N) fun i => p i + H (i % N))), some (.int (0 + (i : Int))), none, none, none, none] s' = .ok (lI (lf N fun n => wk p N b H n i)) s' := by
        have : mStep (mVar 4) (mVar 5) (mVar 2) [some (lI (lf (b * N) p)), some (lI (lf N H)), some (.int (b : Int)), some (lI (lf N fun n => rzS p N b H n i)), some (lI (lf (b * N) fun i => p i + H (i % N))), some (.int (0 + (i : Int))), none, none, none, none] s' = (if 0 ≤ (0 + (i : Int)) ∧ 0 < (b : Int) then .ok (.lst (stepL ((lf (b * N) fun i => p i + H (i % N)).map .int) (0 + (i : Int)).toNat (b : Int).toNat)) s' else .no) := rfl
        rw [this, if_pos ⟨by omega, by omega⟩, Int.zero_add, Int.toNat_natCast, Int.toNat_natCast, stepL_map, lf_step hi]
        rfl
      have hz := zip_src (f := mVar 3) (ns := lf N fun n => rzS p N b H n i) rfl hst
      have := comp_zip (elt := ce_raised_2) (i := 8) (j := 9) (fun x y => if x > y then x else y) (F := cF_raised_2) hz (by rw [lf_len]; omega) fun x y => by
        have ht : mTest (mBin gtD (mVar 8) (mVar 9)) (((wipeD [some (lI (lf (b * N) p)), some (lI (lf N H)), some (.int (b : Int)), some (lI (lf N fun n => rzS p N b H n i)), some (lI (lf (b * N) fun i => p i + H (i % N))), some (.int (0 + (i : Int))), none, none, none, none] [8, 9]).set 8 (some (.int x))).set 9 (some (.int y))) s' = .ok (decide (y < x)) s' := test_v (bin_v (x := .int x) (y := .int y) rfl rfl gt_ii)
        unfold ce_raised_2
        by_cases hxy : x > y
        · rw [decide_eq_true hxy] at ht
          rw [if_pos hxy]
          exact if_vt ht rfl
        · rw [decide_eq_false hxy] at ht
          rw [if_neg hxy]
          exact if_vf ht rfl
      refine this.trans ?_
      rw [lf_zipWith]
      rfl
  rw [rng_len] at f1
  unfold g_raised d_raised
  rw [den_ev, e0]
  refine fin_nx e1 (fin_nx e2 (fin_nx f1 ?_))
  rw [ret_v (w := lI (lf N (rz p N b H))) rfl]
  exact finC_rt
end
end MP.PG
set_option Elab.async false
set_option linter.all false
set_option maxRecDepth 100000
set_option maxHeartbeats 1000000
namespace MP.PG
open PySem PySem.Spec MP
open PyProof.Rows hiding St
open L2 hiding St r1
/-- the first one that holds, of so many -/
def fstS (f : Nat → Bool) : Nat → Nat
  | 0 => 0
  | b + 1 => if f 0 = true then 0 else fstS (fun i => f (i + 1)) b + 1
theorem fstS_spec : ∀ {b : Nat} {f : Nat → Bool}, (∃ s, s < b ∧ f s = true) → fstS f b < b ∧ f (fstS f b) = true ∧ ∀ s, s < fstS f b → f s = false
  | 0, f, ⟨s, h, _⟩ => absurd h (by omega)
  | b + 1, f, ⟨s, h, hs⟩ => by
    unfold fstS
    by_cases h0 : f 0 = true
    · rw [if_pos h0]
      exact ⟨by omega, h0, fun s hs => absurd hs (by omega)⟩
    · rw [if_neg h0]
      obtain ⟨s, rfl⟩ : ∃ t, s = t + 1 := by
        cases s with
        | zero => exact absurd hs h0
        | succ t => exact ⟨t, rfl⟩
      obtain ⟨h1, h2, h3⟩ := fstS_spec (b := b) (f := fun i => f (i + 1)) ⟨s, by omega, hs⟩
      refine ⟨by omega, h2, fun t ht => ?_⟩
      cases t with
      | zero => simpa using h0
      | succ t => exact h3 t (by omega)
section
variable (p : Nat → Int) (N b : Nat)
/-- the first sign by which a number has its height in a layer -/
def sgn (l n : Nat) : Nat := fstS (fun s => decide (wk p N b (Hh p N b l) n s = Hh p N b (l + 1) n)) b
/-- where a trail is behind so many steps down from layer K -/
def cur (K st : Nat) : Nat → Nat
  | 0 => st
  | i + 1 => (sgn p N b (K - 1 - i) (cur K st i) + cur K st i * b) % N
def sg (K st i : Nat) : Nat := sgn p N b (K - 1 - i) (cur p N b K st i)
end
section
variable {p : Nat → Int} {N b : Nat} {K st i l n : Nat}
theorem sgn_spec (h : Hh p N b l n < Hh p N b (l + 1) n) : sgn p N b l n < b ∧ wk p N b (Hh p N b l) n (sgn p N b l n) = Hh p N b (l + 1) n ∧ ∀ s, s < sgn p N b l n → wk p N b (Hh p N b l) n s ≠ Hh p N b (l + 1) n := by
  obtain ⟨s, h1, h2⟩ := grew h
  obtain ⟨g1, g2, g3⟩ := fstS_spec (b := b) (f := fun s => decide (wk p N b (Hh p N b l) n s = Hh p N b (l + 1) n)) ⟨s, h1, decide_eq_true h2.symm⟩
  exact ⟨g1, of_decide_eq_true g2, fun s hs => of_decide_eq_false (g3 s hs)⟩
theorem cur_lt (hN : 0 < N) (hst : st < N) : cur p N b K st i < N := by
  cases i with
  | zero => exact hst
  | succ i => exact Nat.mod_lt _ hN
/-- what stands on a trail grew in its step -/
theorem cur_grew (h : Hh p N b (K - 1) st < Hh p N b K st) : ∀ {i}, i < K → Hh p N b (K - 1 - i) (cur p N b K st i) < Hh p N b (K - i) (cur p N b K st i)
  | 0, _ => h
  | i + 1, hi => by
    have ih := cur_grew h (i := i) (by omega)
    have e1 : K - 1 - i = (K - 1 - (i + 1)) + 1 := by omega
    have e2 : K - i = (K - 1 - (i + 1)) + 2 := by omega
    rw [e1, e2] at ih
    obtain ⟨g1, g2, _⟩ := sgn_spec ih
    have hb := grew_back ih g1 g2.symm
    show Hh p N b (K - 1 - (i + 1)) ((sgn p N b (K - 1 - i) (cur p N b K st i) + cur p N b K st i * b) % N) < Hh p N b (K - (i + 1)) ((sgn p N b (K - 1 - i) (cur p N b K st i) + cur p N b K st i * b) % N)
    rw [e1, show K - (i + 1) = (K - 1 - (i + 1)) + 1 by omega]
    exact hb
/-- a step on a trail -/
theorem cur_step (h : Hh p N b (K - 1) st < Hh p N b K st) (hi : i < K) : sg p N b K st i < b ∧ Hh p N b (K - i) (cur p N b K st i) = p (sg p N b K st i + cur p N b K st i * b) + Hh p N b (K - (i + 1)) (cur p N b K st (i + 1)) := by
  have hg := cur_grew h hi
  rw [show K - i = (K - 1 - i) + 1 by omega] at hg
  obtain ⟨g1, g2, _⟩ := sgn_spec hg
  refine ⟨g1, ?_⟩
  rw [show K - i = (K - 1 - i) + 1 by omega, ← g2]
  show wk p N b (Hh p N b (K - 1 - i)) (cur p N b K st i) (sgn p N b (K - 1 - i) (cur p N b K st i)) = _
  unfold wk
  rw [show K - (i + 1) = K - 1 - i by omega]
  rfl
end
section
variable {s : Sto} {p : Nat → Int} {N b : Nat}
theorem ne_ii {i j : Int} : neD s (.int i) (.int j) = some (.bl (!decide (i = j))) := ne_of_eq eq_ii
theorem nx_aug {i : Nat} {f : FE} {ρ : Env} {a c : Int} (h0 : ρ[i]? = some (some (.int a))) (h : f ρ s = .ok (.int c) s) : mAug i addI f ρ s = .nx (ρ.set i (some (.int (a + c)))) s := by
  unfold mAug
  rw [h0]
  dsimp only
  rw [h, then_ok]
  rfl
abbrev te (p : Nat → Int) (N b : Nat) (w : Dv) (st : Nat) (n l : Nat) (s : Sto) (x8 x9 : Option Dv) : Env := [some (lI (lf (b * N) p)), some w, some (.int (st : Int)), some (.int (b : Int)), some (.int (n : Int)), some (.ref s.length), some (.ref (s.length + 1)), some (.int (l : Int)), x8, x9]
/-- the layers from 0 to K, each as a list -/
def LY (p : Nat → Int) (N b K : Nat) : List Dv := (List.range (K + 1)).map fun k => lI (lf N (Hh p N b k))
theorem LY_get {K k : Nat} (h : k ≤ K) : (LY p N b K)[k]? = some (lI (lf N (Hh p N b k))) := by
  unfold LY
  rw [List.getElem?_map, List.getElem?_range (by omega)]
  rfl
theorem LY_len {K : Nat} : (LY p N b K).length = K + 1 := by unfold LY; rw [List.length_map, List.length_range]
theorem wh_ev {K l n st j : Nat} {w : Dv} {S : Sto} {s : Sto} (hN : 0 < N) (hn : n < N) (hj : j < b) (hl : l + 1 ≤ K) (hw : lstOrSq S w = some (LY p N b K)) : wt_trail_1 (te p N b w st n (l + 1) s (some (lI (lf N (Hh p N b l)))) (some (.int ((j + n * b : Nat) : Int)))) S = .ok (!decide (wk p N b (Hh p N b l) n j = Hh p N b (l + 1) n)) S := by
  have hlt : j + n * b < b * N := by
    have := Nat.mul_le_mul_right b (show n + 1 ≤ N by omega)
    rw [Nat.succ_mul, Nat.mul_comm N b] at this
    omega
  have h1 : mBin ixA (mVar 0) (mVar 9) (te p N b w st n (l + 1) s (some (lI (lf N (Hh p N b l)))) (some (.int ((j + n * b : Nat) : Int)))) S = .ok (.int (p (j + n * b))) S := by
    refine bin_v (x := lI (lf (b * N) p)) (y := .int ((j + n * b : Nat) : Int)) rfl rfl (ix_lst ?_)
    rw [List.getElem?_map, lf_get hlt]
    rfl
  have hmod : mBin modD (mVar 9) (mBlt lenD (mCons (mVar 8) mNil)) (te p N b w st n (l + 1) s (some (lI (lf N (Hh p N b l)))) (some (.int ((j + n * b : Nat) : Int)))) S = .ok (.int (((j + n * b) % N : Nat) : Int)) S := by
    refine bin_v (x := .int ((j + n * b : Nat) : Int)) (y := .int (N : Int)) rfl (blt_v (cons_v (w := lI (lf N (Hh p N b l))) rfl nil_ev) (by rw [len_lst, List.length_map, lf_len])) ?_
    rw [mod_ii (by omega)]
    rfl
  have h2 : mBin ixA (mVar 8) (mBin modD (mVar 9) (mBlt lenD (mCons (mVar 8) mNil))) (te p N b w st n (l + 1) s (some (lI (lf N (Hh p N b l)))) (some (.int ((j + n * b : Nat) : Int)))) S = .ok (.int (Hh p N b l ((j + n * b) % N))) S := by
    refine bin_v (x := lI (lf N (Hh p N b l))) rfl hmod (ix_lst ?_)
    rw [List.getElem?_map, lf_get (Nat.mod_lt _ hN)]
    rfl
  have h3 : mBin ixA (mBin ixA (mVar 1) (mVar 7)) (mVar 4) (te p N b w st n (l + 1) s (some (lI (lf N (Hh p N b l)))) (some (.int ((j + n * b : Nat) : Int)))) S = .ok (.int (Hh p N b (l + 1) n)) S := by
    refine bin_v (x := lI (lf N (Hh p N b (l + 1)))) (y := .int (n : Int)) (bin_v (x := w) (y := .int ((l + 1 : Nat) : Int)) rfl rfl (ixA_list hw (atI_nat (LY_get hl)))) rfl (ix_lst ?_)
    rw [List.getElem?_map, lf_get hn]
    rfl
  unfold wt_trail_1
  exact test_v (bin_v (bin_v h1 h2 add_ii) h3 ne_ii)
theorem wh_find {K l n st s0 : Nat} {w : Dv} {S s : Sto} (hN : 0 < N) (hn : n < N) (h0 : s0 < b) (hl : l + 1 ≤ K) (hw : lstOrSq S w = some (LY p N b K)) (he : wk p N b (Hh p N b l) n s0 = Hh p N b (l + 1) n) (hf : ∀ s, s < s0 → wk p N b (Hh p N b l) n s ≠ Hh p N b (l + 1) n) :
    ∀ (m j F : Nat), j + m = s0 → m < F → whL wt_trail_1 wb_trail_1 F (te p N b w st n (l + 1) s (some (lI (lf N (Hh p N b l)))) (some (.int ((j + n * b : Nat) : Int)))) S = .nx (te p N b w st n (l + 1) s (some (lI (lf N (Hh p N b l)))) (some (.int ((s0 + n * b : Nat) : Int)))) S
  | 0, j, F, hj, hF => by
    obtain ⟨F, rfl⟩ : ∃ G, F = G + 1 := ⟨F - 1, by omega⟩
    obtain rfl : j = s0 := by omega
    unfold whL
    rw [wh_ev hN hn h0 hl hw, decide_eq_true he, then_ok]
    rfl
  | m + 1, j, F, hj, hF => by
    obtain ⟨F, rfl⟩ : ∃ G, F = G + 1 := ⟨F - 1, by omega⟩
    unfold whL
    rw [wh_ev hN hn (by omega) hl hw, decide_eq_false (hf j (by omega)), then_ok]
    have hb : wb_trail_1 (te p N b w st n (l + 1) s (some (lI (lf N (Hh p N b l)))) (some (.int ((j + n * b : Nat) : Int)))) S = .nx (te p N b w st n (l + 1) s (some (lI (lf N (Hh p N b l)))) (some (.int ((j + 1 + n * b : Nat) : Int)))) S := by
      have := nx_aug (i := 9) (f := mK (.int 1)) (ρ := te p N b w st n (l + 1) s (some (lI (lf N (Hh p N b l)))) (some (.int ((j + n * b : Nat) : Int)))) (s := S) rfl k_ev
      rw [show ((j + n * b : Nat) : Int) + 1 = ((j + 1 + n * b : Nat) : Int) by omega] at this
      exact this
    rw [if_pos (by rfl), hb]
    exact wh_find hN hn h0 hl hw he hf m (j + 1) F (by omega) (by omega)
theorem two_set0 {a c a' : Ob} : (s ++ [a, c]).set s.length a' = s ++ [a', c] := by
  rw [List.set_append_right _ _ (Nat.le_refl _), Nat.sub_self]
  rfl
theorem two_set1 {a c c' : Ob} : (s ++ [a, c]).set (s.length + 1) c' = s ++ [a, c'] := by
  rw [List.set_append_right _ _ (by omega), Nat.add_sub_cancel_left]
  rfl
theorem two_at0 {a c : Ob} : (s ++ [a, c])[s.length]? = some a := by
  rw [List.getElem?_append_right (Nat.le_refl _), Nat.sub_self]
  rfl
theorem two_at1 {a c : Ob} : (s ++ [a, c])[s.length + 1]? = some c := by
  rw [List.getElem?_append_right (by omega), Nat.add_sub_cancel_left]
  rfl
theorem trail_ok {K st : Nat} {w : Dv} (hs : Cl s) (hN : 0 < N) (hb : 0 < b) (hb3 : b ≤ 100) (hst : st < N) (hK : K ≤ 90000) (hw : ∀ us, lstOrSq (s ++ us) w = some (LY p N b K)) (hlen : ∀ us, lenD (s ++ us) [w] = some (.int ((K + 1 : Nat) : Int))) (hg : 0 < K → Hh p N b (K - 1) st < Hh p N b K st) :
    g_trail [lI (lf (b * N) p), w, .int (st : Int), .int (b : Int)] s = .ok (.tup [lI (lf (K + 1) fun i => (cur p N b K st i : Int)), lI (lf K fun i => (sg p N b K st i : Int))]) s := by
  let A : Nat → Sto := fun i => s ++ [.lst ((lf (i + 1) fun i => (cur p N b K st i : Int)).map .int), .lst ((lf i fun i => (sg p N b K st i : Int)).map .int)]
  have e0 : startD 10 [lI (lf (b * N) p), w, .int (st : Int), .int (b : Int)] = [some (lI (lf (b * N) p)), some w, some (.int (st : Int)), some (.int (b : Int)), none, none, none, none, none, none] := rfl
  have e1 : mAsg (mVar 2) (gN 4) [some (lI (lf (b * N) p)), some w, some (.int (st : Int)), some (.int (b : Int)), none, none, none, none, none, none] s = .nx [some (lI (lf (b * N) p)), some w, some (.int (st : Int)), some (.int (b : Int)), some (.int (st : Int)), none, none, none, none, none] s := rfl
  have e2 : mAsg (mLstM (mCons (mVar 4) mNil)) (gN 5) [some (lI (lf (b * N) p)), some w, some (.int (st : Int)), some (.int (b : Int)), some (.int (st : Int)), none, none, none, none, none] s = .nx [some (lI (lf (b * N) p)), some w, some (.int (st : Int)), some (.int (b : Int)), some (.int (st : Int)), some (.ref s.length), none, none, none, none] (s ++ [.lst [.int (st : Int)]]) := by
    rw [asgN_ev, lstM_ev, cons_v (w := .int (st : Int)) rfl nil_ev, bind_ok, if_pos (by show 1 ≤ lim; unfold lim; decide), then_ok]
    rfl
  have e3 : mAsg (mLstM mNil) (gN 6) [some (lI (lf (b * N) p)), some w, some (.int (st : Int)), some (.int (b : Int)), some (.int (st : Int)), some (.ref s.length), none, none, none, none] (s ++ [.lst [.int (st : Int)]]) = .nx [some (lI (lf (b * N) p)), some w, some (.int (st : Int)), some (.int (b : Int)), some (.int (st : Int)), some (.ref s.length), some (.ref (s.length + 1)), none, none, none] (A 0) := by
    rw [asgN_ev, lstM_ev, nil_ev, bind_ok, if_pos (by show 0 ≤ lim; unfold lim; decide), then_ok, List.append_assoc, List.length_append]
    rfl
  have hF : F_trail_1 [some (lI (lf (b * N) p)), some w, some (.int (st : Int)), some (.int (b : Int)), some (.int (st : Int)), some (.ref s.length), some (.ref (s.length + 1)), none, none, none] (A 0) = .ok { ws := rngR 1 ((K + 1 : Nat) : Int) } (A 0) := by
    unfold F_trail_1 iRevR2
    rw [k_ev, bind_ok, blt_v (cons_v (w := w) rfl nil_ev) (hlen _), bind_ok]
    exact if_pos ⟨okR_s (by omega) (by omega), okR_s (by omega) (by omega)⟩
  have hrl : (rngR 1 ((K + 1 : Nat) : Int)).length = K := by unfold rngR; rw [List.length_map, List.length_range]; omega
  obtain ⟨ρ', s', f1, rfl, x7, x8, x9, rfl⟩ := for_ix (g := t_trail_1) (body := b_trail_1)
    (fun i ρ s' => s' = A i ∧ ∃ x7 x8 x9, ρ = [some (lI (lf (b * N) p)), some w, some (.int (st : Int)), some (.int (b : Int)), some (.int (cur p N b K st i : Int)), some (.ref s.length), some (.ref (s.length + 1)), x7, x8, x9]) hF ⟨rfl, _, _, _, rfl⟩ fun i x ρ s' hx hJ => by
      obtain ⟨rfl, x7, x8, x9, rfl⟩ := hJ
      have hi : i < K := by have := (List.getElem?_eq_some_iff.mp hx).1; omega
      obtain rfl : x = .int ((K - i : Nat) : Int) := by
        unfold rngR at hx
        rw [List.getElem?_map, List.getElem?_range (by omega)] at hx
        cases hx
        show Dv.int _ = Dv.int _
        congr 1
        omega
      obtain ⟨l, hl⟩ : ∃ l, K - i = l + 1 := ⟨K - i - 1, by omega⟩
      have hl2 : K - 1 - i = l := by omega
      have hn := cur_lt (p := p) (b := b) (K := K) (i := i) hN hst
      have hgr := cur_grew (hg (by omega)) hi
      rw [hl2, hl] at hgr
      obtain ⟨g1, g2, g3⟩ := sgn_spec hgr
      rw [hl]
      have hbn : cur p N b K st i * b ≤ 1000000000 * 100 ∨ True := .inr trivial
      have c1 : mAsg (mBin ixA (mVar 1) (mBin subD (mVar 7) (mK (.int 1)))) (gN 8) (te p N b w st (cur p N b K st i) (l + 1) s x8 x9) (A i) = .nx (te p N b w st (cur p N b K st i) (l + 1) s (some (lI (lf N (Hh p N b l)))) x9) (A i) := by
        refine (asg_v (w := lI (lf N (Hh p N b l))) (bin_v (x := w) (y := .int (l : Int)) rfl ?_ (ixA_list (hw _) (atI_nat (LY_get (by omega)))))).trans rfl
        have := bin_v (o := subD) (f := mVar 7) (g := mK (.int 1)) (ρ := te p N b w st (cur p N b K st i) (l + 1) s x8 x9) (s := A i) (x := .int ((l + 1 : Nat) : Int)) rfl k_ev sub_ev
        rw [show ((l + 1 : Nat) : Int) - 1 = (l : Int) by omega] at this
        exact this
      have c2 : mAsg (mBin mulD (mVar 3) (mVar 4)) (gN 9) (te p N b w st (cur p N b K st i) (l + 1) s (some (lI (lf N (Hh p N b l)))) x9) (A i) = .nx (te p N b w st (cur p N b K st i) (l + 1) s (some (lI (lf N (Hh p N b l)))) (some (.int ((0 + cur p N b K st i * b : Nat) : Int)))) (A i) := by
        refine (asg_v (w := .int ((0 + cur p N b K st i * b : Nat) : Int)) ?_).trans rfl
        refine bin_v (x := .int (b : Int)) (y := .int (cur p N b K st i : Int)) rfl rfl ((mul_ii (cm_l ⟨by omega, by omega⟩)).trans ?_)
        rw [Nat.zero_add, Int.natCast_mul, Int.mul_comm]
      have c3 := wh_find (st := st) (s := s) (S := A i) hN hn g1 (by omega : l + 1 ≤ K) (hw _) g2 g3 (sgn p N b l (cur p N b K st i)) 0 100000 (by omega) (by omega)
      have c4 : mAsg (mBin modD (mVar 9) (mBlt lenD (mCons (mVar 8) mNil))) (gN 4) (te p N b w st (cur p N b K st i) (l + 1) s (some (lI (lf N (Hh p N b l)))) (some (.int ((sgn p N b l (cur p N b K st i) + cur p N b K st i * b : Nat) : Int)))) (A i) = .nx (te p N b w st (cur p N b K st (i + 1)) (l + 1) s (some (lI (lf N (Hh p N b l)))) (some (.int ((sgn p N b l (cur p N b K st i) + cur p N b K st i * b : Nat) : Int)))) (A i) := by
        refine (asg_v (w := .int (cur p N b K st (i + 1) : Int)) ?_).trans rfl
        refine bin_v (x := .int ((sgn p N b l (cur p N b K st i) + cur p N b K st i * b : Nat) : Int)) (y := .int (N : Int)) rfl (blt_v (cons_v (w := lI (lf N (Hh p N b l))) rfl nil_ev) (by rw [len_lst, List.length_map, lf_len])) ?_
        rw [mod_ii (by omega)]
        show some (Dv.int _) = some (Dv.int (((sgn p N b (K - 1 - i) (cur p N b K st i) + cur p N b K st i * b) % N : Nat) : Int))
        rw [hl2]
        rfl
      have c5 : mExpr (mApp (mVar 5) (mVar 4)) (te p N b w st (cur p N b K st (i + 1)) (l + 1) s (some (lI (lf N (Hh p N b l)))) (some (.int ((sgn p N b l (cur p N b K st i) + cur p N b K st i * b : Nat) : Int)))) (A i) = .nx (te p N b w st (cur p N b K st (i + 1)) (l + 1) s (some (lI (lf N (Hh p N b l)))) (some (.int ((sgn p N b l (cur p N b K st i) + cur p N b K st i * b : Nat) : Int)))) (s ++ [.lst ((lf (i + 1 + 1) fun i => (cur p N b K st i : Int)).map .int), .lst ((lf i fun i => (sg p N b K st i : Int)).map .int)]) := by
        rw [expr_v (app_v (n := s.length) (us := (lf (i + 1) fun i => (cur p N b K st i : Int)).map .int) (ws := (lf (i + 1) fun i => (cur p N b K st i : Int)).map .int) (y := .int (cur p N b K st (i + 1) : Int)) rfl two_at0 rfl two_at0 (by rw [List.length_map, lf_len]; unfold lim; omega)), two_set0, lf_succ (n := i + 1), List.map_append]
        rfl
      have c6 : mExpr (mApp (mVar 6) (mBin modD (mVar 9) (mVar 3))) (te p N b w st (cur p N b K st (i + 1)) (l + 1) s (some (lI (lf N (Hh p N b l)))) (some (.int ((sgn p N b l (cur p N b K st i) + cur p N b K st i * b : Nat) : Int)))) (s ++ [.lst ((lf (i + 1 + 1) fun i => (cur p N b K st i : Int)).map .int), .lst ((lf i fun i => (sg p N b K st i : Int)).map .int)]) = .nx (te p N b w st (cur p N b K st (i + 1)) (l + 1) s (some (lI (lf N (Hh p N b l)))) (some (.int ((sgn p N b l (cur p N b K st i) + cur p N b K st i * b : Nat) : Int)))) (A (i + 1)) := by
        have hm : mBin modD (mVar 9) (mVar 3) (te p N b w st (cur p N b K st (i + 1)) (l + 1) s (some (lI (lf N (Hh p N b l)))) (some (.int ((sgn p N b l (cur p N b K st i) + cur p N b K st i * b : Nat) : Int)))) (s ++ [.lst ((lf (i + 1 + 1) fun i => (cur p N b K st i : Int)).map .int), .lst ((lf i fun i => (sg p N b K st i : Int)).map .int)]) = .ok (.int (sg p N b K st i : Int)) (s ++ [.lst ((lf (i + 1 + 1) fun i => (cur p N b K st i : Int)).map .int), .lst ((lf i fun i => (sg p N b K st i : Int)).map .int)]) := by
          refine bin_v (x := .int ((sgn p N b l (cur p N b K st i) + cur p N b K st i * b : Nat) : Int)) (y := .int (b : Int)) rfl rfl ((mod_ii (by omega)).trans ?_)
          unfold sg
          rw [hl2]
          have : (sgn p N b l (cur p N b K st i) + cur p N b K st i * b) % b = sgn p N b l (cur p N b K st i) := by rw [Nat.add_mul_mod_self_right, Nat.mod_eq_of_lt g1]
          show some (Dv.int (((sgn p N b l (cur p N b K st i) + cur p N b K st i * b) % b : Nat) : Int)) = _
          rw [this]
        rw [expr_v (app_v (n := s.length + 1) (us := (lf i fun i => (sg p N b K st i : Int)).map .int) (ws := (lf i fun i => (sg p N b K st i : Int)).map .int) (y := .int (sg p N b K st i : Int)) rfl two_at1 hm two_at1 (by rw [List.length_map, lf_len]; unfold lim; omega)), two_set1]
        show C.nx _ _ = C.nx _ (s ++ [.lst ((lf (i + 1 + 1) fun i => (cur p N b K st i : Int)).map .int), .lst ((lf (i + 1) fun i => (sg p N b K st i : Int)).map .int)])
        rw [lf_succ (n := i), List.map_append]
        rfl
      refine ⟨te p N b w st (cur p N b K st i) (l + 1) s x8 x9, _, A (i + 1), rfl, .inl ?_, rfl, some (.int ((l + 1 : Nat) : Int)), some (lI (lf N (Hh p N b l))), some (.int ((sgn p N b l (cur p N b K st i) + cur p N b K st i * b : Nat) : Int)), rfl⟩
      unfold b_trail_1
      exact seq_nx c1 (seq_nx c2 (seq_nx c3 (seq_nx c4 (seq_nx c5 c6))))
  rw [hrl] at f1
  unfold g_trail d_trail
  rw [den_ev, e0]
  refine fin_nx e1 (fin_nx e2 (fin_nx e3 (fin_nx f1 ?_)))
  rw [ret_v (w := .tup [.ref s.length, .ref (s.length + 1)]) (tup_v (cons_v (w := .ref s.length) rfl (cons_v (w := .ref (s.length + 1)) rfl nil_ev)) (by simp))]
  refine fin_sn hs (by simp) ?_
  unfold fz
  rw [if_neg (by show ¬ ((decide (s.length < s.length) && _) = true); simp)]
  dsimp only
  unfold mapO
  rw [fz_ref0 rfl (fz_ints _)]
  unfold mapO
  rw [fz_ref (i := 1) rfl (fz_ints _)]
  rfl
end
end MP.PG
set_option Elab.async false
set_option linter.all false
set_option maxRecDepth 100000
set_option maxHeartbeats 1000000
namespace MP.PG
open PySem PySem.Spec MP
open PyProof.Rows hiding St
open L2 hiding St r1
section
variable {s : Sto} {c g : Nat → Nat} {K : Nat}
theorem lf_cons {n : Nat} {f : Nat → Int} : lf (n + 1) f = f 0 :: lf n fun i => f (i + 1) := by
  unfold lf
  rw [List.range_succ_eq_map, List.map_cons, List.map_map]
  rfl
theorem lf_cut {n a y : Nat} {f : Nat → Int} (ha : a ≤ y) (hy : y ≤ n) : ((lf n f).drop a).take (y - a) = lf (y - a) fun i => f (a + i) := by
  refine lf_of (by rw [List.length_take, List.length_drop, lf_len]; omega) fun i hi => ?_
  rw [List.getElem?_take, if_pos hi, List.getElem?_drop, lf_get (by omega)]
/-- where so many numbers stand -/
def seen (c : Nat → Nat) (j : Nat) : List (Key × Dv) := (List.range j).map fun i => (.inl (c i : Int), .int (i : Int))
theorem seen_succ {j : Nat} : seen c (j + 1) = seen c j ++ [(.inl (c j : Int), .int (j : Int))] := by
  unfold seen
  rw [List.range_succ, List.map_append]
  rfl
theorem seen_len {j : Nat} : (seen c j).length = j := by unfold seen; rw [List.length_map, List.length_range]
theorem valD_app {l r : List (Key × Dv)} {k : Key} : valD (l ++ r) k = (valD l k).or (valD r k) := by
  unfold valD
  rw [List.find?_append]
  cases List.find? (fun p => decide (p.1 = k)) l <;> rfl
theorem seen_none {n : Nat} : ∀ {j : Nat}, (∀ x, x < j → c x ≠ n) → valD (seen c j) (.inl (n : Int)) = none
  | 0, _ => rfl
  | j + 1, h => by
    rw [seen_succ, valD_app, seen_none fun x hx => h x (by omega)]
    have : ¬ ((.inl (c j : Int) : Key) = .inl (n : Int)) := fun z => h j (by omega) (by injection z with z; omega)
    simp [valD, this]
theorem seen_some {a n : Nat} : ∀ {j : Nat}, a < j → c a = n → (∀ x, x < a → c x ≠ n) → valD (seen c j) (.inl (n : Int)) = some (.int (a : Int))
  | j + 1, h, e, hu => by
    rw [seen_succ, valD_app]
    by_cases ha : a = j
    · subst ha
      rw [seen_none hu, e]
      simp [valD]
    · rw [seen_some (by omega) e hu]
      rfl
theorem seen_put {j : Nat} {w : Dv} (h : ∀ x, x < j → c x ≠ c j) : putD (seen c j) (.inl (c j : Int)) w = seen c j ++ [(.inl (c j : Int), w)] := by
  unfold putD
  rw [if_neg]
  intro z
  obtain ⟨q, hq, e⟩ := List.any_eq_true.mp z
  obtain ⟨x, hx, rfl⟩ := List.mem_map.mp hq
  have := of_decide_eq_true e
  injection this with this
  exact h x (List.mem_range.mp hx) (by omega)
/-- a number comes again, and none before it does -/
def Ring1 (c : Nat → Nat) (a y : Nat) : Prop := a < y ∧ c a = c y ∧ ∀ x z, x < z → z < y → c x ≠ c z
abbrev re (c g : Nat → Nat) (K : Nat) (s : Sto) (x3 x4 : Option Dv) : Env := [some (lI (lf (K + 1) fun i => c i)), some (lI (lf K fun i => g i)), some (.ref s.length), x3, x4]
theorem dctAt {kws : List (Key × Dv)} : dctOf (s ++ [.dct kws]) (.ref s.length) = some kws := by
  show (match (s ++ [.dct kws])[s.length]? with | some (.dct kws) => some kws | _ => none) = _
  rw [at_s]
theorem ixD_at {kws : List (Key × Dv)} {n : Int} {w : Dv} (h : valD kws (.inl n) = some w) : ixA (s ++ [.dct kws]) (.ref s.length) (.int n) = some w := by
  have e : ixL (s ++ [.dct kws]) (.ref s.length) (.int n) = none := by
    show (lstOrSq (s ++ [.dct kws]) (.ref s.length)).bind _ = _
    have : lstOrSq (s ++ [.dct kws]) (.ref s.length) = none := by
      show (match (s ++ [.dct kws])[s.length]? with | some (.lst ws) => some ws | _ => none) = _
      rw [at_s]
    rw [this]
    rfl
  show orO (orO ixL ixT) ixD _ _ _ = _
  unfold orO
  rw [e]
  show (match dctOf (s ++ [.dct kws]) (.ref s.length), keyOf (.int n) with | some kws, some k => valD kws k | _, _ => none) = _
  rw [dctAt]
  exact h
theorem put_i {f k h : FE} {ρ : Env} {n : Int} {v : Dv} {kws : List (Key × Dv)} (h0 : f ρ (s ++ [.dct kws]) = .ok (.ref s.length) (s ++ [.dct kws])) (h1 : k ρ (s ++ [.dct kws]) = .ok (.int n) (s ++ [.dct kws])) (h2 : h ρ (s ++ [.dct kws]) = .ok v (s ++ [.dct kws])) (hl : kws.length < lim) :
    mDPut f k h ρ (s ++ [.dct kws]) = .nx ρ (s ++ [.dct (putD kws (.inl n) v)]) := by
  unfold mDPut
  rw [h2, then_ok, h0, then_ok, h1, then_ok]
  show (match (s ++ [Ob.dct kws])[s.length]? with
    | some (.dct kws2) => if kws2.length < lim then C.nx ρ (List.set (s ++ [Ob.dct kws]) s.length (Ob.dct (putD kws2 (.inl n) v))) else .no
    | _ => .no) = _
  rw [at_s]
  dsimp only
  rw [if_pos hl, set_s]
theorem ring_for (hK : K ≤ 90000) : ∀ (m j : Nat) (x3 x4 : Option Dv), j + m = K + 1 → (∀ x z, x < z → z < j → c x ≠ c z) →
    (∃ x3' x4', forL none t_ring_on_1 b_ring_on_1 (enumD j ((lf m fun i => (c (j + i) : Int)).map .int)) (re c g K s x3 x4) (s ++ [.dct (seen c j)]) = .nx (re c g K s x3' x4') (s ++ [.dct (seen c (K + 1))]) ∧ ∀ x z, x < z → z < K + 1 → c x ≠ c z)
    ∨ ∃ a y, y ≤ K ∧ Ring1 c a y ∧ forL none t_ring_on_1 b_ring_on_1 (enumD j ((lf m fun i => (c (j + i) : Int)).map .int)) (re c g K s x3 x4) (s ++ [.dct (seen c j)]) = .rt (.tup [.int (c y : Int), tI (lf (y - a) fun i => g (a + i))]) (s ++ [.dct (seen c y)])
  | 0, j, x3, x4, hj, h => by
    obtain rfl : j = K + 1 := by omega
    exact .inl ⟨x3, x4, rfl, h⟩
  | m + 1, j, x3, x4, hj, h => by
    have e0 : forL none t_ring_on_1 b_ring_on_1 (enumD j ((lf (m + 1) fun i => (c (j + i) : Int)).map .int)) (re c g K s x3 x4) (s ++ [.dct (seen c j)]) = match b_ring_on_1 (re c g K s (some (.int (j : Int))) (some (.int (c j : Int)))) (s ++ [.dct (seen c j)]) with
      | .nx ρ2 s2 => forL none t_ring_on_1 b_ring_on_1 (enumD (j + 1) ((lf m fun i => (c (j + 1 + i) : Int)).map .int)) ρ2 s2
      | .ct ρ2 s2 => forL none t_ring_on_1 b_ring_on_1 (enumD (j + 1) ((lf m fun i => (c (j + 1 + i) : Int)).map .int)) ρ2 s2
      | .bk ρ2 s2 => .nx ρ2 s2
      | .rt v s2 => .rt v s2
      | .er x ρ2 s2 => .er x ρ2 s2
      | .no => .no := by
      rw [lf_cons, show (lf m fun i => (c (j + (i + 1)) : Int)) = lf m fun i => (c (j + 1 + i) : Int) from lf_ext fun i _ => by rw [show j + (i + 1) = j + 1 + i by omega]]
      rfl
    have hin : ∀ bb, (valD (seen c j) (.inl (c j : Int))).isSome = bb → mTest (mBin (inDD false) (mVar 4) (mVar 2)) (re c g K s (some (.int (j : Int))) (some (.int (c j : Int)))) (s ++ [.dct (seen c j)]) = .ok bb (s ++ [.dct (seen c j)]) := fun bb hb => by
      refine test_v (bin_v (x := .int (c j : Int)) (y := .ref s.length) rfl rfl ?_)
      show (match dctOf (s ++ [.dct (seen c j)]) (.ref s.length), keyOf (.int (c j : Int)) with
        | some kws, some k => some (Dv.bl (if false = true then !(valD kws k).isSome else (valD kws k).isSome))
        | _, _ => none) = _
      rw [dctAt]
      show some (Dv.bl ((valD (seen c j) (.inl (c j : Int))).isSome)) = _
      rw [hb]
    by_cases hr : ∃ a, a < j ∧ c a = c j
    · obtain ⟨a, ha, ea⟩ := hr
      have hv := seen_some (c := c) (n := c j) ha ea fun x hx z => h x a hx ha (z.trans ea.symm)
      refine .inr ⟨a, j, by omega, ⟨ha, ea, h⟩, ?_⟩
      have hb : b_ring_on_1 (re c g K s (some (.int (j : Int))) (some (.int (c j : Int)))) (s ++ [.dct (seen c j)]) = .rt (.tup [.int (c j : Int), tI (lf (j - a) fun i => g (a + i))]) (s ++ [.dct (seen c j)]) := by
        unfold b_ring_on_1
        refine seq_rt ((ifS_t (hin true (by rw [hv]; rfl))).trans ?_)
        refine ret_v (tup_v (cons_v (w := .int (c j : Int)) rfl (cons_v (w := tI (lf (j - a) fun i => g (a + i))) (blt_v (cons_v (w := lI (lf (j - a) fun i => g (a + i))) (sl_v (x := lI (lf K fun i => g i)) rfl (part_v (i := (a : Int)) (bin_v (x := .ref s.length) (y := .int (c j : Int)) rfl rfl (ixD_at hv))) (part_v (i := (j : Int)) rfl) ?_) nil_ev) tuple_lst) nil_ev)) (by simp))
        rw [sl_lst, cut_mid (by rw [List.length_map, lf_len]; omega) (by rw [List.length_map, lf_len]; omega), ← List.map_drop, ← List.map_take, lf_cut (by omega) (by omega)]
      rw [e0, hb]
    · have hne : ∀ x, x < j → c x ≠ c j := fun x hx z => hr ⟨x, hx, z⟩
      have hb : b_ring_on_1 (re c g K s (some (.int (j : Int))) (some (.int (c j : Int)))) (s ++ [.dct (seen c j)]) = .nx (re c g K s (some (.int (j : Int))) (some (.int (c j : Int)))) (s ++ [.dct (seen c (j + 1))]) := by
        unfold b_ring_on_1
        refine seq_nx ((ifS_f (hin false (by rw [seen_none hne]; rfl))).trans rfl) ?_
        rw [put_i (n := (c j : Int)) (v := .int (j : Int)) rfl rfl rfl (by rw [seen_len]; unfold lim; omega), seen_put hne, seen_succ]
      rw [e0, hb]
      refine ring_for hK m (j + 1) _ _ (by omega) fun x z hx hz => ?_
      by_cases e : z = j
      · subst e; exact hne x hx
      · exact h x z hx (by omega)
theorem ring_ok (hs : Cl s) (hK : K ≤ 90000) :
    (g_ring_on [lI (lf (K + 1) fun i => c i), lI (lf K fun i => g i)] s = .ok .non s ∧ ∀ x z, x < z → z < K + 1 → c x ≠ c z)
    ∨ ∃ a y, y ≤ K ∧ Ring1 c a y ∧ g_ring_on [lI (lf (K + 1) fun i => c i), lI (lf K fun i => g i)] s = .ok (.tup [.int (c y : Int), tI (lf (y - a) fun i => g (a + i))]) s := by
  have e0 : startD 5 [lI (lf (K + 1) fun i => (c i : Int)), lI (lf K fun i => (g i : Int))] = [some (lI (lf (K + 1) fun i => (c i : Int))), some (lI (lf K fun i => (g i : Int))), none, none, none] := rfl
  have e1 : mAsg mDctM0 (gN 2) [some (lI (lf (K + 1) fun i => (c i : Int))), some (lI (lf K fun i => (g i : Int))), none, none, none] s = .nx (re c g K s none none) (s ++ [.dct (seen c 0)]) := rfl
  have hF : ∀ F, mFor F_ring_on_1 t_ring_on_1 F (re c g K s none none) (s ++ [.dct (seen c 0)]) = forL none t_ring_on_1 F (enumD 0 ((lf (K + 1) fun i => (c (0 + i) : Int)).map .int)) (re c g K s none none) (s ++ [.dct (seen c 0)]) := fun F => by
    rw [show (lf (K + 1) fun i => (c (0 + i) : Int)) = lf (K + 1) fun i => (c i : Int) from lf_ext fun i _ => by rw [Nat.zero_add]]
    rfl
  have hc : g_ring_on [lI (lf (K + 1) fun i => (c i : Int)), lI (lf K fun i => (g i : Int))] s = finC s.length (mSeq (mAsg mDctM0 (gN 2)) (mSeq (mFor F_ring_on_1 t_ring_on_1 b_ring_on_1) (mRet (mK .non))) [some (lI (lf (K + 1) fun i => (c i : Int))), some (lI (lf K fun i => (g i : Int))), none, none, none] s) := by
    unfold g_ring_on d_ring_on
    rw [den_ev, e0]
  rcases ring_for (s := s) (c := c) (g := g) hK (K + 1) 0 none none (by omega) (fun x z _ hz => absurd hz (by omega)) with ⟨x3, x4, f1, hu⟩ | ⟨a, y, hy, hr, f1⟩
  · refine .inl ⟨?_, hu⟩
    rw [hc]
    refine fin_nx e1 (fin_nx ((hF _).trans f1) ?_)
    rw [ret_v k_ev]
    exact fin_one (hs _) rfl
  · refine .inr ⟨a, y, hy, hr, ?_⟩
    rw [hc]
    refine fin_nx e1 (fin_rtS ((hF _).trans f1) ?_)
    refine fin_one (hs _) ?_
    show (true && (cleans s.length ((lf (y - a) fun i => (g (a + i) : Int)).map .int) && true)) = true
    rw [cleans_int]
    rfl
end
end MP.PG
set_option Elab.async false
set_option linter.all false
set_option maxRecDepth 100000
set_option maxHeartbeats 1000000
namespace MP.PG
open PySem PySem.Spec MP
open PyProof.Rows hiding St
open L2 hiding St r1
/-- a loop that ends with what it finds first, or goes through -/
theorem forL_esc {s : Sto} {g : FG} {body : FS} (J : Env → Prop) : ∀ {xs : List Dv} {ρ : Env} (v : Nat → Dv) (bad : Nat → Bool), J ρ →
    (∀ i x ρ, xs[i]? = some x → J ρ → ∃ ρ1, g x ρ s = some ρ1 ∧ (bad i = true → body ρ1 s = .rt (v i) s) ∧ (bad i = false → ∃ ρ2, body ρ1 s = .nx ρ2 s ∧ J ρ2)) →
    (∃ ρ', forL none g body xs ρ s = .nx ρ' s ∧ J ρ' ∧ ∀ i, i < xs.length → bad i = false) ∨ ∃ i, i < xs.length ∧ bad i = true ∧ forL none g body xs ρ s = .rt (v i) s
  | [], ρ, v, bad, j, _ => .inl ⟨ρ, rfl, j, fun i hi => absurd hi (Nat.not_lt_zero _)⟩
  | x :: xs, ρ, v, bad, j, h => by
    obtain ⟨ρ1, g1, h1, h2⟩ := h 0 x ρ rfl j
    have e0 : forL none g body (x :: xs) ρ s = match body ρ1 s with
      | .nx ρ2 s2 => forL none g body xs ρ2 s2
      | .ct ρ2 s2 => forL none g body xs ρ2 s2
      | .bk ρ2 s2 => .nx ρ2 s2
      | .rt v s2 => .rt v s2
      | .er x ρ2 s2 => .er x ρ2 s2
      | .no => .no := by
      show (if _ then (match g x ρ s with | none => C.no | some ρ1 => _) else C.no) = _
      rw [if_pos (.inl rfl), g1] <;> rfl
    cases hb : bad 0 with
    | true => exact .inr ⟨0, Nat.succ_pos _, hb, by rw [e0, h1 hb]⟩
    | false =>
      obtain ⟨ρ2, b1, j2⟩ := h2 hb
      rw [e0, b1]
      rcases forL_esc J (xs := xs) (ρ := ρ2) (fun i => v (i + 1)) (fun i => bad (i + 1)) j2 (fun i x ρ hx hJ => h (i + 1) x ρ hx hJ) with ⟨ρ', f1, f2, f3⟩ | ⟨i, hi, hbi, f1⟩
      · refine .inl ⟨ρ', f1, f2, fun i hi => ?_⟩
        cases i with
        | zero => exact hb
        | succ i => exact f3 i (by rw [List.length_cons] at hi; omega)
      · exact .inr ⟨i + 1, by rw [List.length_cons]; omega, hbi, f1⟩
section
variable {s : Sto} {p : Nat → Int} {N b : Nat}
theorem ones_lt (hb : 2 ≤ b) (hm : 0 < b * N) {i : Nat} (hi : i < b) : i * ((b * N - 1) / (b - 1)) < b * N := by
  have h1 : i * ((b * N - 1) / (b - 1)) ≤ (b - 1) * ((b * N - 1) / (b - 1)) := Nat.mul_le_mul_right _ (by omega)
  have h2 : (b - 1) * ((b * N - 1) / (b - 1)) ≤ b * N - 1 := Nat.mul_div_le _ _
  omega
theorem one_ok (hN : 0 < N) (hb : 2 ≤ b) (hm : b * N ≤ 1000000) :
    (g_ring_of_one [lI (lf (b * N) p), .int (b : Int)] s = .ok .non s ∧ ∀ i, i < b → p (i * ((b * N - 1) / (b - 1))) ≤ 0)
    ∨ ∃ i, i < b ∧ 0 < p (i * ((b * N - 1) / (b - 1))) ∧ g_ring_of_one [lI (lf (b * N) p), .int (b : Int)] s = .ok (.tup [.int ((i * ((b * N - 1) / (b - 1)) / b : Nat) : Int), tI [(i : Int)]]) s := by
  have hb1 : b ≤ b * N := Nat.le_mul_of_pos_right _ hN
  generalize ho : (b * N - 1) / (b - 1) = o
  have hol : ∀ {i}, i < b → i * o < b * N := fun hi => ho ▸ ones_lt hb (by omega) hi
  have ho1 : o < 1000000 := by have := Nat.div_le_self (b * N - 1) (b - 1); omega
  have e0 : startD 4 [lI (lf (b * N) p), .int (b : Int)] = [some (lI (lf (b * N) p)), some (.int (b : Int)), none, none] := rfl
  have e1 : mAsg (mBin divD (mBin subD (mBlt lenD (mCons (mVar 0) mNil)) (mK (.int 1))) (mBin subD (mVar 1) (mK (.int 1)))) (gN 2) [some (lI (lf (b * N) p)), some (.int (b : Int)), none, none] s = .nx [some (lI (lf (b * N) p)), some (.int (b : Int)), some (.int (o : Int)), none] s := by
    refine (asg_v (w := .int (o : Int)) (bin_v (x := .int ((b * N : Nat) - 1 : Int)) (y := .int ((b : Int) - 1)) (bin_v (x := .int ((b * N : Nat) : Int)) (y := .int 1) (blt_v (cons_v (w := lI (lf (b * N) p)) rfl nil_ev) (by rw [len_lst, List.length_map, lf_len])) rfl sub_ev) (bin_v (x := .int (b : Int)) (y := .int 1) rfl rfl sub_ev) ?_)).trans rfl
    rw [div_ii (by omega) (by omega), ← ho, show ((b * N : Nat) : Int) - 1 = ((b * N - 1 : Nat) : Int) by omega, show (b : Int) - 1 = ((b - 1 : Nat) : Int) by omega]
    rfl
  have hF : ∀ F, mFor F_ring_of_one_1 t_ring_of_one_1 F [some (lI (lf (b * N) p)), some (.int (b : Int)), some (.int (o : Int)), none] s = forL none t_ring_of_one_1 F (rng 0 b) [some (lI (lf (b * N) p)), some (.int (b : Int)), some (.int (o : Int)), none] s := fun F => by
    have := range1_ok (fa := mCons (mVar 1) mNil) (ρ := [some (lI (lf (b * N) p)), some (.int (b : Int)), some (.int (o : Int)), none]) (s := s) (cons_v (w := .int (b : Int)) rfl nil_ev) (okR_s (by omega) (by omega))
    rw [Int.toNat_natCast] at this
    exact for_src this
  have hc : g_ring_of_one [lI (lf (b * N) p), .int (b : Int)] s = finC s.length (d_ring_of_one [some (lI (lf (b * N) p)), some (.int (b : Int)), none, none] s) := by
    unfold g_ring_of_one
    rw [den_ev, e0]
  rcases forL_esc (s := s) (g := t_ring_of_one_1) (body := b_ring_of_one_1) (xs := rng 0 b) (ρ := [some (lI (lf (b * N) p)), some (.int (b : Int)), some (.int (o : Int)), none]) (fun ρ => ∃ z, ρ = [some (lI (lf (b * N) p)), some (.int (b : Int)), some (.int (o : Int)), z])
    (fun i => .tup [.int ((i * o / b : Nat) : Int), tI [(i : Int)]]) (fun i => decide (0 < p (i * o))) ⟨_, rfl⟩ (fun i x ρ hx hJ => by
      obtain ⟨z, rfl⟩ := hJ
      obtain ⟨hi, rfl⟩ := rng_get hx
      rw [Int.zero_add]
      have hm1 : mBin mulD (mVar 3) (mVar 2) [some (lI (lf (b * N) p)), some (.int (b : Int)), some (.int (o : Int)), some (.int (i : Int))] s = .ok (.int ((i * o : Nat) : Int)) s := by
        refine bin_v (x := .int (i : Int)) (y := .int (o : Int)) rfl rfl ((mul_ii (cm_l ⟨by omega, by omega⟩)).trans ?_)
        rw [Int.natCast_mul]
      have ht : mTest (mBin gtD (mBin ixA (mVar 0) (mBin mulD (mVar 3) (mVar 2))) (mK (.int 0))) [some (lI (lf (b * N) p)), some (.int (b : Int)), some (.int (o : Int)), some (.int (i : Int))] s = .ok (decide (0 < p (i * o))) s := by
        refine test_v (bin_v (x := .int (p (i * o))) (y := .int 0) (bin_v (x := lI (lf (b * N) p)) rfl hm1 (ix_lst ?_)) rfl gt_ii)
        rw [List.getElem?_map, lf_get (hol hi)]
        rfl
      refine ⟨[some (lI (lf (b * N) p)), some (.int (b : Int)), some (.int (o : Int)), some (.int (i : Int))], rfl, fun hb2 => ?_, fun hb2 => ⟨[some (lI (lf (b * N) p)), some (.int (b : Int)), some (.int (o : Int)), some (.int (i : Int))], ?_, _, rfl⟩⟩
      · rw [hb2] at ht
        unfold b_ring_of_one_1
        refine (ifS_t ht).trans (ret_v (tup_v (cons_v (w := .int ((i * o / b : Nat) : Int)) (bin_v (y := .int (b : Int)) hm1 rfl ?_) (cons_v (w := tI [(i : Int)]) (tup_v (cons_v (w := .int (i : Int)) rfl nil_ev) (by simp)) nil_ev)) (by simp)))
        rw [div_ii (by omega) (by omega)]
        rfl
      · rw [hb2] at ht
        unfold b_ring_of_one_1
        exact (ifS_f ht).trans rfl) with ⟨ρ', f1, ⟨z, rfl⟩, f3⟩ | ⟨i, hi, hbi, f1⟩
  · refine .inl ⟨?_, fun i hi => ?_⟩
    · rw [hc]
      unfold d_ring_of_one
      refine fin_nx e1 (fin_nx ((hF _).trans f1) ?_)
      rw [ret_v k_ev]
      exact finC_rt
    · have := of_decide_eq_false (f3 i (by rw [rng_len]; exact hi))
      omega
  · refine .inr ⟨i, by rwa [rng_len] at hi, of_decide_eq_true hbi, ?_⟩
    rw [hc]
    unfold d_ring_of_one
    refine fin_nx e1 (fin_rtS ((hF _).trans f1) ?_)
    exact finC_rt
theorem allInt_I : ∀ l : List Int, allInt (l.map .int) = true
  | [] => rfl
  | _ :: l => allInt_I l
theorem firstI_mem {i : Int} : ∀ {l : List Int} (j : Nat), i ∈ l → ∃ k, firstI i j (l.map .int) = some (j + k) ∧ l[k]? = some i
  | [], _, h => nomatch h
  | a :: l, j, h => by
    by_cases e : a = i
    · subst e
      exact ⟨0, if_pos rfl, rfl⟩
    · have hm : i ∈ l := by
        rcases List.mem_cons.mp h with rfl | h
        · exact absurd rfl e
        · exact h
      obtain ⟨k, h1, h2⟩ := firstI_mem (j + 1) hm
      refine ⟨k + 1, ?_, h2⟩
      show (if a = i then some j else firstI i (j + 1) (l.map .int)) = _
      rw [if_neg e, h1, show j + 1 + k = j + (k + 1) by omega]
theorem intsOf_I : ∀ l : List Int, intsOf (l.map .int) = some l
  | [] => rfl
  | a :: l => by
    have := intsOf_I l
    unfold intsOf at this ⊢
    simp only [List.map_cons, mapO, this]
    rfl
theorem max_I {l : List Int} (h : l ≠ []) : maxLD s [lI l] = some (.int (maxO 0 l)) := by
  cases l with
  | nil => exact absurd rfl h
  | cons a l =>
    show (match intsOf ((a :: l).map .int) with
      | some (n :: ns) => some (Dv.int (maxO 0 (n :: ns)))
      | _ => none) = _
    rw [intsOf_I]
theorem maxO_mem {l : List Int} (h : l ≠ []) : maxO 0 l ∈ l := by
  cases l with
  | nil => exact absurd rfl h
  | cons a l => exact foldl_max_mem l a
theorem maxO_le {l : List Int} {x : Int} (h : x ∈ l) : x ≤ maxO 0 l := by
  cases l with
  | nil => cases h
  | cons a l =>
    obtain ⟨h1, h2⟩ := foldl_max_le l a
    rcases List.mem_cons.mp h with rfl | h
    · exact h1
    · exact h2 x h
theorem lf_mem {n : Nat} {f : Nat → Int} {x : Int} : x ∈ lf n f ↔ ∃ i, i < n ∧ x = f i := by
  unfold lf
  rw [List.mem_map]
  constructor
  · rintro ⟨i, h, rfl⟩; exact ⟨i, List.mem_range.mp h, rfl⟩
  · rintro ⟨i, h, rfl⟩; exact ⟨i, List.mem_range.mpr h, rfl⟩
theorem atI_last2 {α : Type} {l : List α} {w u : α} : atI (l ++ [w, u]) (-2) = some w := by
  have hn : ixN (l ++ [w, u]).length (-2) = some l.length := by
    unfold ixN
    rw [List.length_append, if_neg (by omega), if_pos (by simp; omega)]
    congr 1
    simp
    omega
  unfold atI
  rw [hn]
  show (l ++ [w, u])[l.length]? = _
  rw [List.getElem?_append_right (Nat.le_refl _), Nat.sub_self]
  rfl
theorem atI_last1 {α : Type} {l : List α} {w : α} : atI (l ++ [w]) (-1) = some w := atI_last _ _
theorem steep_ok {w : Dv} {ls : List Dv} {G H : Nat → Int} (hN : 0 < N) (hm : N ≤ 1000000) (hw : lstOrSq s w = some (ls ++ [lI (lf N G), lI (lf N H)])) :
    ∃ k, k < N ∧ (∀ n, n < N → H n - G n ≤ H k - G k) ∧ g_steepest [w] s = .ok (.int (k : Int)) s := by
  have e0 : startD 4 [w] = [some w, none, none, none] := rfl
  have h1 : mBin ixA (mVar 0) (mUn negD (mK (.int 1))) [some w, none, none, none] s = .ok (lI (lf N H)) s := by
    refine bin_v (x := w) (y := .int (-1)) rfl (un_v k_ev neg_ev) (ixA_list hw ?_)
    rw [show ls ++ [lI (lf N G), lI (lf N H)] = (ls ++ [lI (lf N G)]) ++ [lI (lf N H)] by rw [List.append_assoc]; rfl]
    exact atI_last1
  have h2 : mBin ixA (mVar 0) (mUn negD (mK (.int 2))) [some w, none, none, none] s = .ok (lI (lf N G)) s :=
    bin_v (x := w) (y := .int (-2)) rfl (un_v k_ev neg_ev) (ixA_list hw atI_last2)
  have e1 : mAsg (mComp cF_steepest_1 [2, 3] ct_steepest_1 ci_steepest_1 ce_steepest_1) (gN 1) [some w, none, none, none] s = .nx [some w, some (lI (lf N fun n => H n - G n)), none, none] s := by
    refine (asg_v (w := lI (lf N fun n => H n - G n)) ?_).trans rfl
    have := comp_zip (elt := ce_steepest_1) (i := 2) (j := 3) (fun x y => x - y) (F := cF_steepest_1) (zip_src h1 h2) (by rw [lf_len]; omega) fun x y => bin_v (x := .int x) (y := .int y) rfl rfl sub_ev
    refine this.trans ?_
    rw [lf_zipWith]
  have hne : lf N (fun n => H n - G n) ≠ [] := fun z => by
    have := congrArg List.length z
    rw [lf_len] at this
    simp at this
    omega
  obtain ⟨k, f1, f2⟩ := firstI_mem 0 (maxO_mem hne)
  have hk : k < N := by have := (List.getElem?_eq_some_iff.mp f2).1; rwa [lf_len] at this
  rw [lf_get hk] at f2
  refine ⟨k, hk, fun n hn => ?_, ?_⟩
  · have h3 : H k - G k = maxO 0 (lf N fun n => H n - G n) := Option.some.inj f2
    have := maxO_le (lf_mem.mpr ⟨n, hn, rfl⟩ : H n - G n ∈ lf N fun n => H n - G n)
    omega
  · unfold g_steepest d_steepest
    rw [den_ev, e0]
    refine fin_nx e1 ?_
    have : mIndex (mVar 1) (mBlt maxLD (mCons (mVar 1) mNil)) [some w, some (lI (lf N fun n => H n - G n)), none, none] s = .ok (.int (k : Int)) s := by
      unfold mIndex
      rw [show mVar 1 [some w, some (lI (lf N fun n => H n - G n)), none, none] s = .ok (lI (lf N fun n => H n - G n)) s from rfl, bind_ok]
      show R.bind (mBlt maxLD (mCons (mVar 1) mNil) [some w, some (lI (lf N fun n => H n - G n)), none, none] s) _ = _
      rw [blt_v (cons_v (w := lI (lf N fun n => H n - G n)) rfl nil_ev) (max_I hne), bind_ok]
      show (if allInt ((lf N fun n => H n - G n).map .int) = true then _ else _) = _
      rw [if_pos (allInt_I _), f1, Nat.zero_add]
    rw [ret_v this]
    exact finC_rt
end
end MP.PG
set_option Elab.async false
set_option linter.all false
set_option maxRecDepth 100000
set_option maxHeartbeats 1000000
namespace MP.PG
open PySem PySem.Spec MP
open PyProof.Rows hiding St
open L2 hiding St r1
/-- so many things in so many places -/
theorem pigeon : ∀ (n m : Nat) (f : Nat → Nat), (∀ x z, x < z → z < m → f x ≠ f z) → (∀ x, x < m → f x < n) → m ≤ n
  | 0, m, f, _, h => by
    cases m with
    | zero => exact Nat.le_refl _
    | succ m => exact absurd (h 0 (by omega)) (Nat.not_lt_zero _)
  | n + 1, m, f, hi, h => by
    by_cases hx : ∃ x, x < m ∧ f x = n
    · obtain ⟨x, hx, e⟩ := hx
      obtain ⟨m, rfl⟩ : ∃ k, m = k + 1 := ⟨m - 1, by omega⟩
      have hne : ∀ z, z < m + 1 → z ≠ x → f z ≠ n := fun z hz hzx ez => by
        by_cases q : z < x
        · exact hi z x q hx (ez.trans e.symm)
        · exact hi x z (by omega) hz (e.trans ez.symm)
      have := pigeon n m (fun z => f (if z < x then z else z + 1)) (fun a c hac hc => by
        show f (if a < x then a else a + 1) ≠ f (if c < x then c else c + 1)
        by_cases q1 : a < x <;> by_cases q2 : c < x
        · rw [if_pos q1, if_pos q2]; exact hi _ _ hac (by omega)
        · rw [if_pos q1, if_neg q2]; exact hi _ _ (by omega) (by omega)
        · omega
        · rw [if_neg q1, if_neg q2]; exact hi _ _ (by omega) (by omega)) (fun a ha => by
        show f (if a < x then a else a + 1) < n
        by_cases q : a < x
        · rw [if_pos q]
          have := h a (by omega)
          have := hne a (by omega) (by omega)
          omega
        · rw [if_neg q]
          have := h (a + 1) (by omega)
          have := hne (a + 1) (by omega) (by omega)
          omega)
      omega
    · have := pigeon n m f hi fun x h2 => by
        have h3 := h x h2
        have : f x ≠ n := fun z => hx ⟨x, h2, z⟩
        omega
      omega
section
variable {s : Sto} {p : Nat → Int} {N b : Nat}
theorem fz_cl {S : Sto} {n k : Nat} : ∀ {ws : List Dv}, cleans n ws = true → mapO (fz (k + 1) S n) ws = some ws
  | [], _ => rfl
  | w :: ws, h => by
    have h' : (clean n w && cleans n ws) = true := h
    rw [Bool.and_eq_true] at h'
    have e : fz (k + 1) S n w = some w := by unfold fz; exact if_pos h'.1
    unfold mapO
    rw [e, fz_cl h'.2]
theorem LY_succ {K : Nat} : LY p N b (K + 1) = LY p N b K ++ [lI (lf N (Hh p N b (K + 1)))] := by
  unfold LY
  rw [List.range_succ, List.map_append]
  rfl
theorem LY_two {K : Nat} : ∃ ls, LY p N b (K + 1) = ls ++ [lI (lf N (Hh p N b K)), lI (lf N (Hh p N b (K + 1)))] := by
  refine ⟨(List.range K).map fun k => lI (lf N (Hh p N b k)), ?_⟩
  unfold LY
  rw [List.range_succ, List.range_succ, List.map_append, List.map_append, List.append_assoc]
  rfl
theorem LY_one {K : Nat} : ∃ ls, LY p N b K = ls ++ [lI (lf N (Hh p N b K))] := by
  refine ⟨(List.range K).map fun k => lI (lf N (Hh p N b k)), ?_⟩
  unfold LY
  rw [List.range_succ, List.map_append]
  rfl
theorem LY_clean (n : Nat) {K : Nat} : cleans n (LY p N b K) = true := by
  unfold LY
  generalize List.range (K + 1) = l
  induction l with
  | nil => rfl
  | cons a l ih =>
    show (cleans n ((lf N (Hh p N b a)).map .int) && cleans n (l.map fun k => lI (lf N (Hh p N b k)))) = true
    rw [cleans_int, ih]
    rfl
theorem Cl_lst {ws : List Dv} (hs : Cl s) (h : ∀ n, cleans n ws = true) : Cl (s ++ [.lst ws]) := fun n => by
  rw [List.all_append, hs n]
  show (true && (cleans n ws && true)) = true
  rw [h n]
  rfl
/-- no height grows in a step behind so many -/
def Stable (p : Nat → Int) (N b K : Nat) : Prop := ∀ n, n < N → Hh p N b (K + 1) n = Hh p N b K n
def Growing (p : Nat → Int) (N b K : Nat) : Prop := ∀ k, k < K → ∃ n, n < N ∧ Hh p N b k n < Hh p N b (k + 1) n
/-- what a climb yields: layers, or a ring on a trail, or one of one sign -/
inductive Cb (p : Nat → Int) (N b : Nat) : Dv → Prop
  | layers {K : Nat} : K ≤ N + N / 4 → Stable p N b K → Growing p N b K → Cb p N b (.tup [.lst (LY p N b K), .non])
  | ring {K st a y : Nat} : st < N → Hh p N b K st < Hh p N b (K + 1) st → y ≤ K + 1 → Ring1 (cur p N b (K + 1) st) a y → Cb p N b (.tup [.non, .tup [.int (cur p N b (K + 1) st y : Int), tI (lf (y - a) fun i => sg p N b (K + 1) st (a + i))]])
  | one {i : Nat} : i < b → 0 < p (i * ((b * N - 1) / (b - 1))) → Cb p N b (.tup [.non, .tup [.int ((i * ((b * N - 1) / (b - 1)) / b : Nat) : Int), tI [(i : Int)]]])
abbrev ce (p : Nat → Int) (N b : Nat) (s : Sto) (look : Nat) (x2 x5 x6 x7 : Option Dv) : Env := [some (lI (lf (b * N) p)), some (.int (b : Int)), x2, some (.ref s.length), some (.int (look : Int)), x5, x6, x7]
theorem last_ev {K look : Nat} {x2 x5 x6 x7 : Option Dv} : mBin ixA (mVar 3) (mUn negD (mK (.int 1))) (ce p N b s look x2 x5 x6 x7) (s ++ [.lst (LY p N b K)]) = .ok (lI (lf N (Hh p N b K))) (s ++ [.lst (LY p N b K)]) := by
  refine bin_v (x := .ref s.length) (y := .int (-1)) rfl (un_v k_ev neg_ev) (ixA_list (ref_list at_s) ?_)
  obtain ⟨ls, e⟩ := LY_one (p := p) (N := N) (b := b) (K := K)
  rw [e]
  exact atI_last1
/-- the part of a turn behind which layers are longer by one -/
noncomputable def lookD : FS := mIfS (mTest (mBin gtD (mBlt lenD (mCons (mVar 3) mNil)) (mVar 4))) (mSeq (mAsg (mCall (g_trail) (mCons (mVar 0) (mCons (mVar 3) (mCons (mCall (g_steepest) (mCons (mVar 3) mNil)) (mCons (mVar 1) mNil))))) (gT 2 (gsC (gN 6) (gsC (gN 7) gs0))))
  (mSeq (mAsg (mCall (g_ring_on) (mCons (mVar 6) (mCons (mVar 7) mNil))) (gN 2))
  (mSeq (mIfS (mTest (mBin isntD (mVar 2) (mK .non))) (mRet (mTup (mCons (mK .non) (mCons (mVar 2) mNil)))) mNext)
  (mAug 4 addI (mBin addD (mK (.int 1)) (mBin divD (mVar 4) (mK (.int 4)))))))) mNext
theorem len_at {ws : List Dv} {us : Sto} : lenD (s ++ [.lst ws] ++ us) [.ref s.length] = some (.int (ws.length : Int)) := by
  show Option.map (fun ws : List Dv => Dv.int ws.length) (match (s ++ [Ob.lst ws] ++ us)[s.length]? with | some (.lst ws) => some ws | _ => none) = _
  rw [List.append_assoc, List.getElem?_append_right (Nat.le_refl _), Nat.sub_self]
  rfl
theorem lst_at {ws : List Dv} {us : Sto} : lstOrSq (s ++ [.lst ws] ++ us) (.ref s.length) = some ws := by
  refine ref_list ?_
  rw [List.append_assoc, List.getElem?_append_right (Nat.le_refl _), Nat.sub_self]
  rfl
theorem look_ok {K look : Nat} {x2 x5 x6 x7 : Option Dv} (hs : Cl s) (hN : 0 < N) (hb : 2 ≤ b) (hb3 : b ≤ 100) (hN2 : N ≤ 1000) (hK : K ≤ 2000) (hl : K + 1 ≤ look) (hg : ∃ n, n < N ∧ Hh p N b K n < Hh p N b (K + 1) n) :
    (∃ look' x2' x6' x7', lookD (ce p N b s look x2 x5 x6 x7) (s ++ [.lst (LY p N b (K + 1))]) = .nx (ce p N b s look' x2' x5 x6' x7') (s ++ [.lst (LY p N b (K + 1))]) ∧ K + 2 ≤ look' ∧ (look' = look ∨ look' ≤ N + N / 4 + 1))
    ∨ ∃ w, Cb p N b w ∧ (∃ u, w = .tup [.non, u]) ∧ (∀ n, clean n w = true) ∧ lookD (ce p N b s look x2 x5 x6 x7) (s ++ [.lst (LY p N b (K + 1))]) = .rt w (s ++ [.lst (LY p N b (K + 1))]) := by
  have hC : Cl (s ++ [.lst (LY p N b (K + 1))]) := Cl_lst hs fun n => LY_clean n
  have ht : mTest (mBin gtD (mBlt lenD (mCons (mVar 3) mNil)) (mVar 4)) (ce p N b s look x2 x5 x6 x7) (s ++ [.lst (LY p N b (K + 1))]) = .ok (decide ((look : Int) < ((K + 2 : Nat) : Int))) (s ++ [.lst (LY p N b (K + 1))]) := by
    refine test_v (bin_v (x := .int ((K + 2 : Nat) : Int)) (y := .int (look : Int)) (blt_v (cons_v (w := .ref s.length) rfl nil_ev) ?_) rfl gt_ii)
    have := len_at (s := s) (ws := LY p N b (K + 1)) (us := [])
    rw [List.append_nil, LY_len] at this
    exact this
  by_cases hlk : look < K + 2
  · rw [decide_eq_true (by omega)] at ht
    obtain ⟨ls, e2⟩ := LY_two (p := p) (N := N) (b := b) (K := K)
    have hls : lstOrSq (s ++ [.lst (LY p N b (K + 1))]) (.ref s.length) = some (LY p N b (K + 1)) := ref_list at_s
    obtain ⟨st, hst, hmax, hsteep⟩ := steep_ok (s := s ++ [.lst (LY p N b (K + 1))]) (w := .ref s.length) hN (by omega) (hls.trans (congrArg some e2))
    obtain ⟨n, hn, hgn⟩ := hg
    have hgr : Hh p N b K st < Hh p N b (K + 1) st := by have := hmax n hn; omega
    have htr := trail_ok (s := s ++ [.lst (LY p N b (K + 1))]) (p := p) (N := N) (b := b) (K := K + 1) (st := st) (w := .ref s.length) hC hN (by omega) hb3 hst (by omega) (fun us => lst_at) (fun us => by rw [len_at, LY_len]) (fun _ => hgr)
    have c1 : mAsg (mCall (g_trail) (mCons (mVar 0) (mCons (mVar 3) (mCons (mCall (g_steepest) (mCons (mVar 3) mNil)) (mCons (mVar 1) mNil))))) (gT 2 (gsC (gN 6) (gsC (gN 7) gs0))) (ce p N b s look x2 x5 x6 x7) (s ++ [.lst (LY p N b (K + 1))]) = .nx (ce p N b s look x2 x5 (some (lI (lf (K + 1 + 1) fun i => (cur p N b (K + 1) st i : Int)))) (some (lI (lf (K + 1) fun i => (sg p N b (K + 1) st i : Int))))) (s ++ [.lst (LY p N b (K + 1))]) := by
      refine asg_gv (w := .tup [lI (lf (K + 1 + 1) fun i => (cur p N b (K + 1) st i : Int)), lI (lf (K + 1) fun i => (sg p N b (K + 1) st i : Int))]) ?_ rfl
      rw [call_ev, cons_v (w := lI (lf (b * N) p)) rfl (cons_v (w := .ref s.length) rfl (cons_v (w := .int (st : Int)) (by rw [call_ev, cons_v (w := .ref s.length) rfl nil_ev, bind_ok]; exact hsteep) (cons_v (w := .int (b : Int)) rfl nil_ev))), bind_ok]
      exact htr
    have c2 : ∀ w, g_ring_on [lI (lf (K + 1 + 1) fun i => (cur p N b (K + 1) st i : Int)), lI (lf (K + 1) fun i => (sg p N b (K + 1) st i : Int))] (s ++ [.lst (LY p N b (K + 1))]) = .ok w (s ++ [.lst (LY p N b (K + 1))]) →
        mAsg (mCall (g_ring_on) (mCons (mVar 6) (mCons (mVar 7) mNil))) (gN 2) (ce p N b s look x2 x5 (some (lI (lf (K + 1 + 1) fun i => (cur p N b (K + 1) st i : Int)))) (some (lI (lf (K + 1) fun i => (sg p N b (K + 1) st i : Int))))) (s ++ [.lst (LY p N b (K + 1))]) = .nx (ce p N b s look (some w) x5 (some (lI (lf (K + 1 + 1) fun i => (cur p N b (K + 1) st i : Int)))) (some (lI (lf (K + 1) fun i => (sg p N b (K + 1) st i : Int))))) (s ++ [.lst (LY p N b (K + 1))]) := fun w hw => by
      refine (asg_v (w := w) ?_).trans rfl
      rw [call_ev, cons_v (w := lI (lf (K + 1 + 1) fun i => (cur p N b (K + 1) st i : Int))) rfl (cons_v (w := lI (lf (K + 1) fun i => (sg p N b (K + 1) st i : Int))) rfl nil_ev), bind_ok]
      exact hw
    rcases ring_ok (s := s ++ [.lst (LY p N b (K + 1))]) (c := cur p N b (K + 1) st) (g := sg p N b (K + 1) st) (K := K + 1) hC (by omega) with ⟨r1, hu⟩ | ⟨a, y, hy, hr, r1⟩
    · have hp := pigeon N (K + 2) (cur p N b (K + 1) st) hu fun x _ => cur_lt hN hst
      refine .inl ⟨look + 1 + look / 4, some .non, some (lI (lf (K + 1 + 1) fun i => (cur p N b (K + 1) st i : Int))), some (lI (lf (K + 1) fun i => (sg p N b (K + 1) st i : Int))), ?_, by omega, .inr (by omega)⟩
      unfold lookD
      refine (ifS_t ht).trans (seq_nx c1 (seq_nx (c2 _ r1) (seq_nx ((ifS_f (test_v (bin_v (x := .non) (y := .non) rfl rfl isnt_nn))).trans rfl) ?_)))
      have := nx_aug (i := 4) (a := (look : Int)) (c := ((1 + look / 4 : Nat) : Int)) (f := mBin addD (mK (.int 1)) (mBin divD (mVar 4) (mK (.int 4)))) (ρ := ce p N b s look (some .non) x5 (some (lI (lf (K + 1 + 1) fun i => (cur p N b (K + 1) st i : Int)))) (some (lI (lf (K + 1) fun i => (sg p N b (K + 1) st i : Int))))) (s := s ++ [.lst (LY p N b (K + 1))]) rfl (by
        refine bin_v (x := .int 1) (y := .int ((look / 4 : Nat) : Int)) rfl (bin_v (x := .int (look : Int)) (y := .int 4) rfl rfl ((div_ii (by omega) (by omega)).trans rfl)) ?_
        rw [add_ii]
        rfl)
      rw [show (look : Int) + ((1 + look / 4 : Nat) : Int) = ((look + 1 + look / 4 : Nat) : Int) by omega] at this
      exact this
    · refine .inr ⟨_, .ring hst hgr hy hr, ⟨_, rfl⟩, fun n => ?_, ?_⟩
      · show (true && ((true && (cleans n ((lf (y - a) fun i => (sg p N b (K + 1) st (a + i) : Int)).map .int) && true)) && true)) = true
        rw [cleans_int]
        rfl
      · unfold lookD
        refine (ifS_t ht).trans (seq_nx c1 (seq_nx (c2 _ r1) (seq_rt ((ifS_t (test_v (bin_v (y := .non) rfl rfl rfl))).trans ?_))))
        exact ret_v (tup_v (cons_v (w := .non) rfl (cons_v rfl nil_ev)) (by simp))
  · rw [decide_eq_false (by omega)] at ht
    exact .inl ⟨look, x2, x6, x7, by unfold lookD; exact (ifS_f ht).trans rfl, by omega, .inl rfl⟩
theorem turnC_ok {K look : Nat} {x2 x5 x6 x7 : Option Dv} (hs : Cl s) (hN : 0 < N) (hb : 2 ≤ b) (hb3 : b ≤ 100) (hN2 : N ≤ 1000) (hK : K ≤ 2000) :
    (Stable p N b K ∧ wb_climb_1 (ce p N b s look x2 x5 x6 x7) (s ++ [.lst (LY p N b K)]) = .rt (.tup [.ref s.length, .non]) (s ++ [.lst (LY p N b K)]))
    ∨ ((∃ n, n < N ∧ Hh p N b K n < Hh p N b (K + 1) n) ∧ wb_climb_1 (ce p N b s look x2 x5 x6 x7) (s ++ [.lst (LY p N b K)]) = lookD (ce p N b s look x2 (some (lI (lf N (Hh p N b (K + 1))))) x6 x7) (s ++ [.lst (LY p N b (K + 1))])) := by
  have hbN : b * N ≤ 1000000 := by
    have := Nat.mul_le_mul hb3 hN2
    omega
  have c1 : mAsg (mCall (g_raised) (mCons (mVar 0) (mCons (mBin ixA (mVar 3) (mUn negD (mK (.int 1)))) (mCons (mVar 1) mNil)))) (gN 5) (ce p N b s look x2 x5 x6 x7) (s ++ [.lst (LY p N b K)]) = .nx (ce p N b s look x2 (some (lI (lf N (Hh p N b (K + 1))))) x6 x7) (s ++ [.lst (LY p N b K)]) := by
    refine (asg_v (w := lI (lf N (Hh p N b (K + 1)))) ?_).trans rfl
    rw [call_ev, cons_v (w := lI (lf (b * N) p)) rfl (cons_v last_ev (cons_v (w := .int (b : Int)) rfl nil_ev)), bind_ok]
    exact raised_ok hN (by omega) hbN
  have ht : mTest (mBin eqD (mVar 5) (mBin ixA (mVar 3) (mUn negD (mK (.int 1))))) (ce p N b s look x2 (some (lI (lf N (Hh p N b (K + 1))))) x6 x7) (s ++ [.lst (LY p N b K)]) = .ok (decide (lf N (Hh p N b (K + 1)) = lf N (Hh p N b K))) (s ++ [.lst (LY p N b K)]) :=
    test_v (bin_v (x := lI (lf N (Hh p N b (K + 1)))) rfl last_ev eq_lI)
  by_cases he : lf N (Hh p N b (K + 1)) = lf N (Hh p N b K)
  · rw [decide_eq_true he] at ht
    refine .inl ⟨fun n hn => ?_, ?_⟩
    · have := congrArg (fun l => l[n]?) he
      rw [lf_get hn, lf_get hn] at this
      exact Option.some.inj this
    · unfold wb_climb_1
      refine seq_nx c1 (seq_rt ((ifS_t ht).trans ?_))
      exact ret_v (tup_v (cons_v (w := .ref s.length) rfl (cons_v (w := .non) rfl nil_ev)) (by simp))
  · rw [decide_eq_false he] at ht
    refine .inr ⟨?_, ?_⟩
    · by_cases hn : ∃ n, n < N ∧ Hh p N b K n < Hh p N b (K + 1) n
      · exact hn
      · refine absurd (lf_ext fun n h => ?_) he
        have h1 := Hh_mono (p := p) (N := N) (b := b) (n := n) K
        have h2 : ¬ Hh p N b K n < Hh p N b (K + 1) n := fun z => hn ⟨n, h, z⟩
        omega
    · have c3 : mExpr (mApp (mVar 3) (mVar 5)) (ce p N b s look x2 (some (lI (lf N (Hh p N b (K + 1))))) x6 x7) (s ++ [.lst (LY p N b K)]) = .nx (ce p N b s look x2 (some (lI (lf N (Hh p N b (K + 1))))) x6 x7) (s ++ [.lst (LY p N b (K + 1))]) := by
        rw [expr_v (app_s (v := lI (lf N (Hh p N b (K + 1)))) (by rw [LY_len]; omega) rfl rfl), LY_succ]
      unfold wb_climb_1
      exact seq_nx c1 (seq_nx ((ifS_f ht).trans rfl) (seq_nx c3 rfl))
theorem climb_wh (hs : Cl s) (hN : 0 < N) (hb : 2 ≤ b) (hb3 : b ≤ 100) (hN2 : N ≤ 1000) : ∀ (m K look F : Nat) (x2 x5 x6 x7 : Option Dv), K + m = N + N / 4 + 2 → K + 1 ≤ look → look ≤ N + N / 4 + 1 → m ≤ F → Growing p N b K →
    ∃ w w' S, whL wt_climb_1 wb_climb_1 F (ce p N b s look x2 x5 x6 x7) (s ++ [.lst (LY p N b K)]) = .rt w S ∧ finC s.length (.rt w S) = .ok w' s ∧ Cb p N b w'
  | 0, K, look, F, x2, x5, x6, x7, hm, hl, hl2, hF, hG => absurd hl (by omega)
  | m + 1, K, look, F, x2, x5, x6, x7, hm, hl, hl2, hF, hG => by
    obtain ⟨F, rfl⟩ : ∃ G, F = G + 1 := ⟨F - 1, by omega⟩
    have e0 : whL wt_climb_1 wb_climb_1 (F + 1) (ce p N b s look x2 x5 x6 x7) (s ++ [.lst (LY p N b K)]) = match wb_climb_1 (ce p N b s look x2 x5 x6 x7) (s ++ [.lst (LY p N b K)]) with
      | .nx ρ2 s2 => whL wt_climb_1 wb_climb_1 F ρ2 s2
      | .ct ρ2 s2 => whL wt_climb_1 wb_climb_1 F ρ2 s2
      | .bk ρ2 s2 => .nx ρ2 s2
      | .rt v s2 => .rt v s2
      | .er x ρ2 s2 => .er x ρ2 s2
      | .no => .no := rfl
    rw [e0]
    rcases turnC_ok (look := look) (x2 := x2) (x5 := x5) (x6 := x6) (x7 := x7) (p := p) hs hN hb hb3 hN2 (show K ≤ 2000 by omega) with ⟨hS, h⟩ | ⟨hg, h⟩
    · rw [h]
      refine ⟨_, _, _, rfl, fin_sn (w' := .tup [.lst (LY p N b K), .non]) hs (by simp) ?_, .layers (by omega) hS hG⟩
      unfold fz
      rw [if_neg (by show ¬ ((decide (s.length < s.length) && _) = true); simp)]
      dsimp only
      unfold mapO
      rw [fz_ref0 rfl (fz_cl (LY_clean _))]
      unfold mapO
      rw [show fz 3 (s ++ [.lst (LY p N b K)]) s.length .non = some .non from rfl]
      rfl
    · rw [h]
      rcases look_ok (look := look) (x2 := x2) (x5 := some (lI (lf N (Hh p N b (K + 1))))) (x6 := x6) (x7 := x7) hs hN hb hb3 hN2 (show K ≤ 2000 by omega) hl hg with ⟨look', x2', x6', x7', h1, h2, h3⟩ | ⟨w, hw, ⟨u, rfl⟩, hc, h1⟩
      · rw [h1]
        refine climb_wh hs hN hb hb3 hN2 m (K + 1) look' F _ _ _ _ (by omega) (by omega) (by omega) (by omega) fun k hk => ?_
        by_cases e : k = K
        · subst e; exact hg
        · exact hG k (by omega)
      · rw [h1]
        exact ⟨_, _, _, rfl, fin_one (hs _) (hc _), hw⟩
theorem climb_ok (hs : Cl s) (hN : 0 < N) (hb : 2 ≤ b) (hb3 : b ≤ 100) (hN2 : N ≤ 1000) : ∃ w, Cb p N b w ∧ g_climb [lI (lf (b * N) p), .int (b : Int)] s = .ok w s := by
  have hbN : b * N ≤ 1000000 := by
    have := Nat.mul_le_mul hb3 hN2
    omega
  have e0 : startD 8 [lI (lf (b * N) p), .int (b : Int)] = [some (lI (lf (b * N) p)), some (.int (b : Int)), none, none, none, none, none, none] := rfl
  have c1 : ∀ w, g_ring_of_one [lI (lf (b * N) p), .int (b : Int)] s = .ok w s → mAsg (mCall (g_ring_of_one) (mCons (mVar 0) (mCons (mVar 1) mNil))) (gN 2) [some (lI (lf (b * N) p)), some (.int (b : Int)), none, none, none, none, none, none] s = .nx [some (lI (lf (b * N) p)), some (.int (b : Int)), some w, none, none, none, none, none] s := fun w hw => by
    refine (asg_v (w := w) ?_).trans rfl
    rw [call_ev, cons_v (w := lI (lf (b * N) p)) rfl (cons_v (w := .int (b : Int)) rfl nil_ev), bind_ok]
    exact hw
  rcases one_ok (s := s) (p := p) hN hb hbN with ⟨r1, _⟩ | ⟨i, hi, hp, r1⟩
  · have c3 : mAsg (mLstM (mCons (mBin mulD (mLst (mCons (mK (.int 0)) mNil)) (mBin divD (mBlt lenD (mCons (mVar 0) mNil)) (mVar 1))) mNil)) (gN 3) [some (lI (lf (b * N) p)), some (.int (b : Int)), some .non, none, none, none, none, none] s = .nx [some (lI (lf (b * N) p)), some (.int (b : Int)), some .non, some (.ref s.length), none, none, none, none] (s ++ [.lst (LY p N b 0)]) := by
      have hd : mBin divD (mBlt lenD (mCons (mVar 0) mNil)) (mVar 1) [some (lI (lf (b * N) p)), some (.int (b : Int)), some .non, none, none, none, none, none] s = .ok (.int (N : Int)) s := by
        refine bin_v (x := .int ((b * N : Nat) : Int)) (y := .int (b : Int)) (blt_v (cons_v (w := lI (lf (b * N) p)) rfl nil_ev) (by rw [len_lst, List.length_map, lf_len])) rfl ?_
        rw [div_ii (by omega) (by omega), Int.natCast_mul, Int.mul_comm, Int.mul_ediv_cancel _ (by omega)]
      have hm := mulL (ρ := [some (lI (lf (b * N) p)), some (.int (b : Int)), some .non, none, none, none, none, none]) (s := s) (f := mLst (mCons (mK (.int 0)) mNil)) (n := 1) (k := N) (φ := fun _ => 0) (by omega) (lst_v (cons_v k_ev nil_ev) (by show 1 ≤ 1000000; decide)) hd (by omega)
      rw [asgN_ev, lstM_ev, cons_v hm nil_ev, bind_ok, if_pos (by show 1 ≤ lim; unfold lim; decide), then_ok]
      have : LY p N b 0 = [lI (lf (N * 1) fun _ => 0)] := by rw [Nat.mul_one]; rfl
      rw [this]
      rfl
    have c4 : mAsg (mK (.int 1)) (gN 4) [some (lI (lf (b * N) p)), some (.int (b : Int)), some .non, some (.ref s.length), none, none, none, none] (s ++ [.lst (LY p N b 0)]) = .nx (ce p N b s 1 (some .non) none none none) (s ++ [.lst (LY p N b 0)]) := rfl
    obtain ⟨w, w', S, h1, h2, h3⟩ := climb_wh (p := p) hs hN hb hb3 hN2 (N + N / 4 + 2) 0 1 100000 (some .non) none none none (by omega) (by omega) (by omega) (by omega) (fun k hk => absurd hk (Nat.not_lt_zero _))
    refine ⟨w', h3, ?_⟩
    unfold g_climb d_climb
    rw [den_ev, e0]
    refine fin_nx (c1 _ r1) (fin_nx ((ifS_f (test_v (bin_v (x := .non) (y := .non) rfl rfl isnt_nn))).trans rfl) (fin_nx c3 (fin_nx c4 ?_)))
    rw [h1]
    exact h2
  · refine ⟨_, .one hi hp, ?_⟩
    unfold g_climb d_climb
    rw [den_ev, e0]
    refine fin_nx (c1 _ r1) (fin_rtS ((ifS_t (test_v (bin_v (y := .non) rfl rfl rfl))).trans (ret_v (tup_v (cons_v (w := .non) rfl (cons_v rfl nil_ev)) (by simp)))) ?_)
    exact finC_rt
end
end MP.PG
set_option Elab.async false
set_option linter.all false
set_option maxRecDepth 100000
set_option maxHeartbeats 1000000
namespace MP.PG
open PySem PySem.Spec MP
open PyProof.Rows hiding St
open L2 hiding St r1
section
variable {s : Sto} {p : Nat → Int} {N w : Nat}
/-- what a flip brings by itself at a window -/
def mb (p : Nat → Int) (f i : Nat) : Int := 16 * (p (i ^^^ f) - p i) - 1
def mx (a b : Int) : Int := if (if 0 < a then a else 0) < b then b else (if 0 < a then a else 0)
/-- the walk that begins with a sign -/
def wl (p : Nat → Int) (N f : Nat) (H : Nat → Int) (i : Nat) : Int := mb p f i + H (i % N)
def hd (p : Nat → Int) (N f : Nat) (H : Nat → Int) (n : Nat) : Int := mx (wl p N f H (2 * n)) (wl p N f H (2 * n + 1))
/-- the heights by so many of the flips at the end -/
def Hb (p : Nat → Int) (N : Nat) (fl : Nat → Nat) (w : Nat) : Nat → Nat → Int
  | 0 => fun _ => 0
  | j + 1 => hd p N (fl (w - 1 - j)) (Hb p N fl w j)
end
end MP.PG
set_option Elab.async false
set_option linter.all false
set_option maxRecDepth 100000
set_option maxHeartbeats 1000000
namespace MP.PG
open PySem PySem.Spec MP
open PyProof.Rows hiding St
open L2 hiding St r1
section
variable {s : Sto} {p : Nat → Int} {N w : Nat} {fl : Nat → Nat}
def digs (b w n : Nat) : List Nat := ((List.range w).map fun i => n / b ^ i % b).reverse
theorem signs_ok {sg : List Dv} {b n w : Nat} {f : Nat → Dv} (hs : Cl s) (hb : 2 ≤ b) (hb2 : b ≤ 1000) (hw : w ≤ 1000) (hl : sg.length = b) (hf : ∀ d, d < b → sg[d]? = some (f d)) (hc : ∀ d m, clean m (f d) = true) :
    g_signs_of [.int (n : Int), .tup sg, .int (w : Int)] s = .ok (.tup ((digs b w n).map f)) s := by
  let A : Nat → Sto := fun i => s ++ [.lst ((List.range i).map fun j => f (n / b ^ j % b))]
  have e0 : startD 6 [.int (n : Int), .tup sg, .int (w : Int)] = [some (.int (n : Int)), some (.tup sg), some (.int (w : Int)), none, none, none] := rfl
  have e1 : mAsg (mLstM mNil) (gN 3) [some (.int (n : Int)), some (.tup sg), some (.int (w : Int)), none, none, none] s = .nx [some (.int (n : Int)), some (.tup sg), some (.int (w : Int)), some (.ref s.length), none, none] (A 0) := by
    rw [asgN_ev, lstM_ev, nil_ev, bind_ok, if_pos (by show 0 ≤ lim; unfold lim; decide), then_ok]
    rfl
  have hF : F_signs_of_1 [some (.int (n : Int)), some (.tup sg), some (.int (w : Int)), some (.ref s.length), none, none] (A 0) = .ok { ws := rng 0 w } (A 0) := by
    have := range1_ok (fa := mCons (mVar 2) mNil) (ρ := [some (.int (n : Int)), some (.tup sg), some (.int (w : Int)), some (.ref s.length), none, none]) (s := A 0) (cons_v (w := .int (w : Int)) rfl nil_ev) (okR_s (by omega) (by omega))
    rw [Int.toNat_natCast] at this
    exact this
  obtain ⟨ρ', s', f1, rfl, z4, z5, rfl⟩ := for_ix (g := t_signs_of_1) (body := b_signs_of_1)
    (fun i ρ s' => s' = A i ∧ ∃ z4 z5, ρ = [some (.int ((n / b ^ i : Nat) : Int)), some (.tup sg), some (.int (w : Int)), some (.ref s.length), z4, z5]) hF ⟨rfl, _, _, by rw [Nat.pow_zero, Nat.div_one]⟩ fun i x ρ s' hx hJ => by
      obtain ⟨rfl, z4, z5, rfl⟩ := hJ
      obtain ⟨hi, rfl⟩ := rng_get hx
      refine ⟨[some (.int ((n / b ^ i : Nat) : Int)), some (.tup sg), some (.int (w : Int)), some (.ref s.length), some (.int (0 + (i : Int))), z5], [some (.int ((n / b ^ (i + 1) : Nat) : Int)), some (.tup sg), some (.int (w : Int)), some (.ref s.length), some (.int (0 + (i : Int))), some (.int ((n / b ^ i % b : Nat) : Int))], A (i + 1), rfl, .inl ?_, rfl, _, _, rfl⟩
      unfold b_signs_of_1
      have c1 : mAsg (mBlt divmodD (mCons (mVar 0) (mCons (mBlt lenD (mCons (mVar 1) mNil)) mNil))) (gT 2 (gsC (gN 0) (gsC (gN 5) gs0))) [some (.int ((n / b ^ i : Nat) : Int)), some (.tup sg), some (.int (w : Int)), some (.ref s.length), some (.int (0 + (i : Int))), z5] (A i) = .nx [some (.int ((n / b ^ (i + 1) : Nat) : Int)), some (.tup sg), some (.int (w : Int)), some (.ref s.length), some (.int (0 + (i : Int))), some (.int ((n / b ^ i % b : Nat) : Int))] (A i) := by
        refine asg_gv (w := .tup [.int ((n / b ^ (i + 1) : Nat) : Int), .int ((n / b ^ i % b : Nat) : Int)]) (blt_v (cons_v (w := .int ((n / b ^ i : Nat) : Int)) rfl (cons_v (w := .int (b : Int)) (blt_v (cons_v (w := .tup sg) rfl nil_ev) (by rw [len_tup, hl])) nil_ev)) ?_) rfl
        show (if 0 < (b : Int) ∧ (b : Int) < 1073741824 then some (Dv.tup [.int (((n / b ^ i : Nat) : Int) / (b : Int)), .int (((n / b ^ i : Nat) : Int) % (b : Int))]) else none) = _
        rw [if_pos ⟨by omega, by omega⟩, Nat.pow_succ, ← Nat.div_div_eq_div_mul]
        rfl
      refine seq_nx c1 ?_
      have hd : n / b ^ i % b < b := Nat.mod_lt _ (by omega)
      rw [expr_v (app_s (v := f (n / b ^ i % b)) (by rw [List.length_map, List.length_range]; omega) rfl (bin_v (x := .tup sg) (y := .int ((n / b ^ i % b : Nat) : Int)) rfl rfl (ix_tup (hf _ hd))))]
      show C.nx _ _ = C.nx _ (s ++ [.lst ((List.range (i + 1)).map fun j => f (n / b ^ j % b))])
      rw [List.range_succ, List.map_append]
      rfl
  rw [rng_len] at f1
  unfold g_signs_of d_signs_of
  rw [den_ev, e0]
  refine fin_nx e1 (fin_nx f1 ?_)
  have hr : mBlt tupleD (mCons (mRev (mVar 3)) mNil) [some (.int ((n / b ^ w : Nat) : Int)), some (.tup sg), some (.int (w : Int)), some (.ref s.length), z4, z5] (A w) = .ok (.tup ((digs b w n).map f)) (A w) := by
    refine blt_v (cons_v (w := .lst ((digs b w n).map f)) ?_ nil_ev) tuple_lst
    unfold mRev
    rw [show mVar 3 [some (.int ((n / b ^ w : Nat) : Int)), some (.tup sg), some (.int (w : Int)), some (.ref s.length), z4, z5] (A w) = .ok (.ref s.length) (A w) from rfl, bind_ok]
    have h1 : revD (A w) (.ref s.length) = some (.lst ((List.range w).map fun j => f (n / b ^ j % b)).reverse) := by
      have := ref_list (at_s (s := s) (x := .lst ((List.range w).map fun j => f (n / b ^ j % b))))
      simp [revD, A, this]
    rw [h1]
    have h2 : ((List.range w).map fun j => f (n / b ^ j % b)).reverse = (digs b w n).map f := by
      unfold digs
      rw [List.map_reverse, List.map_map]
      rfl
    rw [h2]
    rfl
  rw [ret_v hr]
  refine fin_one (hs _) ?_
  show cleans _ _ = true
  generalize digs b w n = l
  induction l with
  | nil => rfl
  | cons a l ih =>
    show (clean s.length (f a) && cleans s.length (l.map f)) = true
    rw [hc, ih]
    rfl
def nxw (p : Nat → Int) (N : Nat) (fl : Nat → Nat) (w r n : Nat) : Nat := if wl p N (fl (w - 1 - r)) (Hb p N fl w r) (2 * n) < Hb p N fl w (r + 1) n then 2 * n + 1 else 2 * n
def fb (p : Nat → Int) (N : Nat) (fl : Nat → Nat) (w : Nat) : Nat → Nat → List Nat
  | 0, _ => []
  | r + 1, n => if Hb p N fl w (r + 1) n = 0 then [] else (nxw p N fl w r n % 2) :: fb p N fl w r (nxw p N fl w r n % N)
/-- all layers, as a list -/
def LL (p : Nat → Int) (N : Nat) (fl : Nat → Nat) (w : Nat) : List Dv := (List.range (w + 1)).map fun k => lI (lf N (Hb p N fl w (w - k)))
abbrev fe (p : Nat → Int) (N : Nat) (fl : Nat → Nat) (w : Nat) (s : Sto) (n : Nat) (x5 x6 x7 x8 : Option Dv) : Env := [some (lI (lf (2 * N) p)), some (lI (lf w fun k => (fl k : Int))), some (.lst (LL p N fl w)), some (.int (n : Int)), some (.ref s.length), x5, x6, x7, x8]
end
end MP.PG
set_option Elab.async false
set_option linter.all false
set_option maxRecDepth 100000
set_option maxHeartbeats 1000000
namespace MP.PG
open PySem PySem.Spec MP
open PyProof.Rows hiding St
open L2 hiding St r1
section
variable {s : Sto} {p : Nat → Int} {N w : Nat} {fl : Nat → Nat}
abbrev tN (l : List Nat) : Dv := .tup (l.map fun b : Nat => .int (b : Int))
/-- what is paid, by a height -/
def pa (h : Int) : Int := -(-h / 16)
/-- the flips from a place on -/
def f2 (k : Nat) : Nat := 2 ^ (k + 1)
/-- the height by a bit more right behind a place -/
def hs1 (p : Nat → Int) (w n : Nat) : Int := mb p 1 (2 * n) + Hb p (2 ^ w) f2 w w (2 * n % 2 ^ w)
end
end MP.PG
set_option Elab.async false
set_option linter.all false
set_option maxRecDepth 100000
set_option maxHeartbeats 1000000
namespace MP.PG
open PySem PySem.Spec MP
open PyProof.Rows hiding St
open L2 hiding St r1
section
variable {p : Nat → Int} {N w : Nat}
/-- what the windows of further bits pay -/
def wsum (p : Nat → Int) (N : Nat) : List Nat → Nat → Int
  | [], _ => 0
  | b :: bs, n => p (2 * n + b) + wsum p N bs ((2 * n + b) % N)
/-- what they pay more with a flip -/
def fd (p : Nat → Int) (N : Nat) : List Nat → Nat → Nat → Int
  | [], _, _ => 0
  | b :: bs, f, n => (p ((2 * n + b) ^^^ f) - p (2 * n + b)) + fd p N bs (2 * f) ((2 * n + b) % N)
def Bits01 (bs : List Nat) : Prop := ∀ b ∈ bs, b < 2
end
end MP.PG
set_option Elab.async false
set_option linter.all false
set_option maxRecDepth 100000
set_option maxHeartbeats 1000000
namespace MP.PG
open PySem PySem.Spec MP
open PyProof.Rows hiding St
open L2 hiding St r1
section
abbrev toI (bs : List Nat) : List Int := bs.map fun b : Nat => (b : Int)
/-- the number of bits, the last one ahead -/
def rnum : List Nat → Nat
  | [] => 0
  | b :: r => 2 * rnum r + b
def num (bs : List Nat) : Nat := rnum bs.reverse
theorem num_snoc {bs : List Nat} {b : Nat} : num (bs ++ [b]) = 2 * num bs + b := by
  unfold num
  rw [List.reverse_append]
  rfl
theorem rnum_lt : ∀ {r : List Nat}, Bits01 r → rnum r < 2 ^ r.length
  | [], _ => by decide
  | b :: r, h => by
    have := rnum_lt (r := r) fun c hc => h c (List.mem_cons_of_mem _ hc)
    have := h b List.mem_cons_self
    rw [List.length_cons, Nat.pow_succ]
    unfold rnum
    omega
theorem rnum_app : ∀ {r t : List Nat}, rnum (r ++ t) = rnum t * 2 ^ r.length + rnum r
  | [], t => by simp [rnum]
  | b :: r, t => by
    show 2 * rnum (r ++ t) + b = _
    rw [rnum_app, List.length_cons, Nat.pow_succ]
    show _ = _ + (2 * rnum r + b)
    rw [← Nat.mul_assoc, Nat.mul_add]
    omega
theorem num_app_mod {xs ys : List Nat} (h : Bits01 ys) : num (xs ++ ys) % 2 ^ ys.length = num ys := by
  unfold num
  rw [List.reverse_append, rnum_app, List.length_reverse, Nat.mul_add_mod_self_right, Nat.mod_eq_of_lt]
  have := rnum_lt (r := ys.reverse) fun c hc => h c (List.mem_reverse.mp hc)
  rwa [List.length_reverse] at this
theorem pop_rnum : ∀ {r : List Nat}, Bits01 r → pop (rnum r) = r.sum
  | [], _ => pop_0
  | b :: r, h => by
    have h0 := h b List.mem_cons_self
    unfold rnum
    rw [pop_eq, show (2 * rnum r + b) % 2 = b by omega, show (2 * rnum r + b) / 2 = rnum r by omega, pop_rnum fun c hc => h c (List.mem_cons_of_mem _ hc), List.sum_cons]
theorem pop_num {bs : List Nat} (h : Bits01 bs) : pop (num bs) = bs.sum := by
  unfold num
  rw [pop_rnum fun c hc => h c (List.mem_reverse.mp hc), List.sum_reverse]
theorem ins_0 : ∀ {z c : Nat}, ins 0 (List.replicate z (0 : Int) ++ List.replicate c 1) = List.replicate (z + 1) 0 ++ List.replicate c 1
  | 0, 0 => rfl
  | 0, c + 1 => by
    show ins 0 (1 :: List.replicate c 1) = _
    unfold ins
    rw [if_pos (by decide)]
    rfl
  | z + 1, c => by
    show ins 0 (0 :: (List.replicate z 0 ++ List.replicate c 1)) = _
    unfold ins
    rw [if_pos (by decide)]
    rfl
theorem ins_1 : ∀ {z c : Nat}, ins 1 (List.replicate z (0 : Int) ++ List.replicate c 1) = List.replicate z 0 ++ List.replicate (c + 1) 1
  | 0, 0 => rfl
  | 0, c + 1 => by
    show ins 1 (1 :: List.replicate c 1) = _
    unfold ins
    rw [if_pos (by decide)]
    rfl
  | z + 1, c => by
    show ins 1 (0 :: (List.replicate z 0 ++ List.replicate c 1)) = _
    unfold ins
    rw [if_neg (by decide), ins_1]
    rfl
theorem srt_bits : ∀ {bs : List Nat}, Bits01 bs → srt (toI bs) = List.replicate (bs.length - bs.sum) 0 ++ List.replicate bs.sum 1 ∧ bs.sum ≤ bs.length
  | [], _ => ⟨rfl, Nat.le_refl _⟩
  | b :: bs, h => by
    obtain ⟨h1, h2⟩ := srt_bits (bs := bs) fun c hc => h c (List.mem_cons_of_mem _ hc)
    have e : srt (toI (b :: bs)) = ins (b : Int) (srt (toI bs)) := rfl
    rw [e, h1, List.length_cons, List.sum_cons]
    rcases (by have := h b List.mem_cons_self; omega : b = 0 ∨ b = 1) with rfl | rfl
    · refine ⟨?_, by omega⟩
      show ins 0 _ = _
      rw [ins_0, show bs.length + 1 - (0 + bs.sum) = bs.length - bs.sum + 1 by omega, Nat.zero_add]
    · refine ⟨?_, by omega⟩
      show ins 1 _ = _
      rw [ins_1, show bs.length + 1 - (1 + bs.sum) = bs.length - bs.sum by omega, Nat.add_comm 1]
theorem dot_01 : ∀ {rs : List Int} {z c : Nat}, rs.length = z + c → dot rs (List.replicate z 0 ++ List.replicate c 1) = (rs.drop z).sum
  | [], z, c, h => by
    have hz : z = 0 := by simp at h; omega
    have hc : c = 0 := by simp at h; omega
    subst hz hc
    rfl
  | r :: rs, 0, c, h => by
    obtain ⟨c, rfl⟩ : ∃ d, c = d + 1 := ⟨c - 1, by simp at h; omega⟩
    have ih := dot_01 (rs := rs) (z := 0) (c := c) (by simp at h; omega)
    show dot (r :: rs) (1 :: List.replicate c 1) = _
    rw [dot_cons]
    have ih' : dot rs (List.replicate c 1) = rs.sum := ih
    rw [ih', List.drop_zero, List.sum_cons]
    omega
  | r :: rs, z + 1, c, h => by
    show dot (r :: rs) (0 :: (List.replicate z 0 ++ List.replicate c 1)) = _
    rw [dot_cons, dot_01 (by simp at h; omega), List.drop_succ_cons]
    omega
theorem idb_drop {rs : List Int} {c : Nat} (h : c ≤ rs.length) : idb rs c = (rs.drop (rs.length - c)).sum := by
  unfold idb
  rw [List.take_reverse, List.sum_reverse]
/-- the index of bits -/
theorem dot_bits {rs : List Int} {bs : List Nat} (h : Bits01 bs) (hl : bs.length = rs.length) : dot rs (srt (toI bs)) = idb rs (pop (num bs)) := by
  obtain ⟨h1, h2⟩ := srt_bits h
  rw [h1, dot_01 (by omega), pop_num h, idb_drop (by omega), hl]
variable {o : Int} {ts : List Term}
theorem seg_toI {rs : List Int} {bs : List Nat} {e : Nat} : seg rs (toI bs) e = toI ((bs.drop (e - rs.length)).take rs.length) := by
  unfold seg
  simp only [toI, List.map_take, List.map_drop]
theorem bits_sub {bs cs : List Nat} (h : Bits01 bs) (hs : ∀ c ∈ cs, c ∈ bs) : Bits01 cs := fun c hc => h c (hs c hc)
theorem ixe_bits {rs : List Int} {bs : List Nat} {e : Nat} (hb : Bits01 bs) (h1 : rs.length ≤ e) (h2 : e ≤ bs.length) : ixe rs (toI bs) e = idb rs (pop (num (bs.take e) % 2 ^ rs.length)) := by
  have hsub : Bits01 ((bs.drop (e - rs.length)).take rs.length) := bits_sub hb fun c hc => List.mem_of_mem_drop (List.mem_of_mem_take hc)
  have hl : ((bs.drop (e - rs.length)).take rs.length).length = rs.length := by rw [List.length_take, List.length_drop]; omega
  have ht : bs.take e = bs.take (e - rs.length) ++ (bs.drop (e - rs.length)).take rs.length := by
    have : e = (e - rs.length) + rs.length := by omega
    conv => lhs; rw [this]
    rw [List.take_add]
  unfold ixe
  rw [seg_toI, dot_bits hsub hl, ht]
  have := num_app_mod (xs := bs.take (e - rs.length)) hsub
  rw [hl] at this
  rw [this]
theorem take_num {bs : List Nat} {e b : Nat} (h : bs[e]? = some b) : num (bs.take (e + 1)) = 2 * num (bs.take e) + b := by
  rw [List.take_succ, h]
  exact num_snoc
/-- what a bit pays -/
theorem ps_bits {bs : List Nat} {e b : Nat} (hk : ∀ t ∈ ts, TermOk t) (hb : Bits01 bs) (h1 : wd ts ≤ e) (h2 : bs[e]? = some b) : ps o ts (toI bs) e = bpF o ts (num (bs.take (e + 1)) % 2 ^ (wd ts + 1)) := by
  have he := (List.getElem?_eq_some_iff.mp h2).1
  have hn := take_num h2
  have hb0 : b < 2 := hb b (List.mem_of_getElem? h2)
  unfold ps bpF
  have e1 : (toI bs).getD e 0 = ((num (bs.take (e + 1)) % 2 ^ (wd ts + 1) % 2 : Nat) : Int) := by
    rw [Nat.mod_mod_of_dvd _ (by rw [Nat.pow_succ]; exact Nat.dvd_mul_left _ _), hn, show (2 * num (bs.take e) + b) % 2 = b by omega, List.getD_eq_getElem?_getD, List.getElem?_map, h2]
    rfl
  rw [e1]
  congr 2
  refine List.map_congr_left fun t ht => ?_
  have hl := wd_ge hk ht
  unfold tpF
  rw [ixe_bits hb (by omega) (by omega), ixe_bits hb (by omega) (by omega)]
  have e2 : num (bs.take (e + 1)) % 2 ^ (wd ts + 1) / 2 % 2 ^ t.rs.length = num (bs.take e) % 2 ^ t.rs.length := by
    rw [Nat.pow_succ, Nat.mul_comm, Nat.mod_mul_right_div_self, hn, show (2 * num (bs.take e) + b) / 2 = num (bs.take e) by omega, Nat.mod_mod_of_dvd _ (Nat.pow_dvd_pow 2 hl)]
  have e3 : num (bs.take (e + 1)) % 2 ^ (wd ts + 1) % 2 ^ t.rs.length = num (bs.take (e + 1)) % 2 ^ t.rs.length := Nat.mod_mod_of_dvd _ (Nat.pow_dvd_pow 2 (by omega))
  rw [e2, e3]
theorem mod_two {a b N : Nat} (hb : b < 2) (hN : 0 < N) : (2 * a + b) % (2 * N) = 2 * (a % N) + b := by
  have h1 : a % N < N := Nat.mod_lt _ hN
  have h2 : 2 * a + b = 2 * (a % N) + b + 2 * N * (a / N) := by
    have := Nat.mod_add_div a N
    have e : 2 * N * (a / N) = 2 * (N * (a / N)) := Nat.mul_assoc _ _ _
    omega
  rw [h2, Nat.add_mul_mod_self_left, Nat.mod_eq_of_lt (by omega)]
theorem mod_next {a b N : Nat} : (2 * (a % N) + b) % N = (2 * a + b) % N := by
  rw [Nat.add_mod, Nat.mul_mod, Nat.mod_mod, ← Nat.mul_mod, ← Nat.add_mod]
theorem ps_sum {bs : List Nat} (hk : ∀ t ∈ ts, TermOk t) (hb : Bits01 bs) : ∀ (m e : Nat), e + m = bs.length → wd ts ≤ e → ((List.range m).map fun i => ps o ts (toI bs) (e + i)).sum = wsum (bpF o ts) (2 ^ wd ts) (bs.drop e) (num (bs.take e) % 2 ^ wd ts)
  | 0, e, he, _ => by
    rw [List.drop_eq_nil_of_le (by omega)]
    rfl
  | m + 1, e, he, hw => by
    have hlt : e < bs.length := by omega
    obtain ⟨b, h2⟩ : ∃ b, bs[e]? = some b := ⟨_, List.getElem?_eq_getElem hlt⟩
    have hb0 : b < 2 := hb b (List.mem_of_getElem? h2)
    have hd : bs.drop e = b :: bs.drop (e + 1) := by
      rw [List.drop_eq_getElem_cons hlt]
      congr 1
      exact Option.some.inj ((List.getElem?_eq_getElem hlt).symm.trans h2)
    have ih := ps_sum hk hb m (e + 1) (by omega) (by omega)
    have hN : 0 < 2 ^ wd ts := Nat.two_pow_pos _
    rw [hd, List.range_succ_eq_map, List.map_cons, List.map_map, List.sum_cons]
    unfold wsum
    rw [mod_next, ← take_num h2, ← ih, Nat.add_zero, ps_bits hk hb hw h2, take_num h2, Nat.pow_succ, Nat.mul_comm (2 ^ wd ts) 2, mod_two hb0 hN]
    congr 2
    refine List.map_congr_left fun i _ => ?_
    show ps o ts (toI bs) (e + (i + 1)) = _
    rw [show e + (i + 1) = e + 1 + i by omega]
/-- the worth of a row of bits -/
theorem worth_bits {place bs : List Nat} (hk : ∀ t ∈ ts, TermOk t) (hp : Bits01 place) (hb : Bits01 bs) (hl : place.length = wd ts) : (pys o ts (toI (place ++ bs))).sum = wsum (bpF o ts) (2 ^ wd ts) bs (num place) := by
  have h01 : Bits01 (place ++ bs) := fun c hc => (List.mem_append.mp hc).elim (hp c) (hb c)
  have := ps_sum (o := o) hk h01 bs.length (wd ts) (by rw [List.length_append]; omega) (Nat.le_refl _)
  rw [← hl, List.drop_left, List.take_left, hl] at this
  have hlt : num place < 2 ^ wd ts := by
    rw [← hl]
    have := rnum_lt (r := place.reverse) fun c hc => hp c (List.mem_reverse.mp hc)
    rwa [List.length_reverse] at this
  rw [Nat.mod_eq_of_lt hlt] at this
  rw [← this]
  unfold pys
  rw [List.length_map, List.length_append, hl, Nat.add_sub_cancel_left]
theorem rnum_digs : ∀ (w n : Nat), rnum ((List.range w).map fun i => n / 2 ^ i % 2) = n % 2 ^ w
  | 0, n => by rw [Nat.pow_zero, Nat.mod_one]; rfl
  | w + 1, n => by
    rw [List.range_succ_eq_map, List.map_cons, List.map_map]
    unfold rnum
    have e : (List.range w).map ((fun i => n / 2 ^ i % 2) ∘ Nat.succ) = (List.range w).map fun i => n / 2 / 2 ^ i % 2 := List.map_congr_left fun i _ => by
      show n / 2 ^ (i + 1) % 2 = _
      rw [Nat.pow_succ, Nat.mul_comm, ← Nat.div_div_eq_div_mul]
    rw [e, rnum_digs w (n / 2), Nat.pow_zero, Nat.div_one, Nat.pow_succ, Nat.mul_comm (2 ^ w) 2, Nat.mod_mul]
    omega
theorem num_digs {w n : Nat} (h : n < 2 ^ w) : num (digs 2 w n) = n := by
  unfold num digs
  rw [List.reverse_reverse, rnum_digs, Nat.mod_eq_of_lt h]
theorem digs_len {b w n : Nat} : (digs b w n).length = w := by unfold digs; rw [List.length_reverse, List.length_map, List.length_range]
theorem digs_bits {w n : Nat} : Bits01 (digs 2 w n) := fun c hc => by
  unfold digs at hc
  obtain ⟨i, _, rfl⟩ := List.mem_map.mp (List.mem_reverse.mp hc)
  exact Nat.mod_lt _ (by decide)
end
end MP.PG
set_option Elab.async false
set_option linter.all false
set_option maxRecDepth 100000
set_option maxHeartbeats 1000000
namespace MP.PG
open PySem PySem.Spec MP
open PyProof.Rows hiding St
open L2 hiding St r1
section
variable {s : Sto}
def brs : Nat → List (List Nat)
  | 0 => [[]]
  | k + 1 => (brs k).flatMap fun r => [r ++ [0], r ++ [1]]
theorem mem_brs : ∀ {k : Nat} {bs : List Nat}, bs ∈ brs k ↔ Bits01 bs ∧ bs.length = k
  | 0, bs => by
    show bs ∈ [[]] ↔ _
    rw [List.mem_singleton]
    constructor
    · rintro rfl; exact ⟨fun c hc => (nomatch hc), rfl⟩
    · rintro ⟨_, h⟩; exact List.length_eq_zero_iff.mp h
  | k + 1, bs => by
    show bs ∈ (brs k).flatMap _ ↔ _
    rw [List.mem_flatMap]
    constructor
    · rintro ⟨r, hr, h⟩
      obtain ⟨h1, h2⟩ := mem_brs.mp hr
      have : ∃ d, d < 2 ∧ bs = r ++ [d] := by
        rcases List.mem_cons.mp h with rfl | h
        · exact ⟨0, by decide, rfl⟩
        · rcases List.mem_cons.mp h with rfl | h
          · exact ⟨1, by decide, rfl⟩
          · cases h
      obtain ⟨d, hd, rfl⟩ := this
      refine ⟨fun c hc => ?_, by rw [List.length_append, h2]; rfl⟩
      rcases List.mem_append.mp hc with hc | hc
      · exact h1 c hc
      · rw [List.mem_singleton.mp hc]; exact hd
    · rintro ⟨h1, h2⟩
      have hne : bs ≠ [] := fun z => by rw [z] at h2; cases h2
      refine ⟨bs.dropLast, mem_brs.mpr ⟨fun c hc => h1 c (List.dropLast_subset _ hc), by rw [List.length_dropLast, h2]; rfl⟩, ?_⟩
      have hl := List.dropLast_concat_getLast hne
      have hb := h1 _ (List.getLast_mem hne)
      generalize bs.getLast hne = d at hl hb
      rw [← hl]
      rcases (by omega : d = 0 ∨ d = 1) with rfl | rfl
      · simp
      · simp
theorem two_len : ∀ l : List (List Nat), (l.flatMap fun r => [r ++ [0], r ++ [1]]).length = 2 * l.length
  | [] => rfl
  | a :: l => by
    have ih := two_len l
    rw [List.flatMap_cons, List.length_append, ih]
    show 2 + 2 * l.length = 2 * (l.length + 1)
    omega
theorem brs_len : ∀ k : Nat, (brs k).length = 2 ^ k
  | 0 => rfl
  | k + 1 => by
    show ((brs k).flatMap _).length = _
    rw [two_len, brs_len k, Nat.pow_succ, Nat.mul_comm]
theorem add_bit {f : FE} {ρ : Env} {r : List Nat} {d : Nat} (h : f ρ s = .ok (tN r) s) (hl : r.length ≤ 1000) : mBin addD f (mTup (mCons (mK (.int (d : Int))) mNil)) ρ s = .ok (tN (r ++ [d])) s := by
  refine bin_v (x := tN r) (y := .tup [.int (d : Int)]) h (tup_v (cons_v k_ev nil_ev) (by show 1 ≤ 1000000; decide)) ((add_tup (by rw [List.length_map]; show r.length + 1 ≤ 1000000; omega)).trans ?_)
  show some (Dv.tup (_ ++ [Dv.int (d : Int)])) = some (Dv.tup ((r ++ [d]).map _))
  rw [List.map_append]
  rfl
theorem bit_rows_ok {k : Nat} (hk : k ≤ 12) : g__law_bit_rows [.int (k : Int)] s = .ok (.lst ((brs k).map tN)) s := by
  have e0 : startD 5 [.int (k : Int)] = [some (.int (k : Int)), none, none, none, none] := rfl
  have e1 : mAsg (mLst (mCons (mTup mNil) mNil)) (gN 1) [some (.int (k : Int)), none, none, none, none] s = .nx [some (.int (k : Int)), some (.lst ((brs 0).map tN)), none, none, none] s := rfl
  have hF : F__law_bit_rows_2 [some (.int (k : Int)), some (.lst ((brs 0).map tN)), none, none, none] s = .ok { ws := rng 0 k } s := by
    have := range1_ok (fa := mCons (mVar 0) mNil) (ρ := [some (.int (k : Int)), some (.lst ((brs 0).map tN)), none, none, none]) (s := s) (cons_v (w := .int (k : Int)) rfl nil_ev) (okR_s (by omega) (by omega))
    rw [Int.toNat_natCast] at this
    exact this
  obtain ⟨ρ', s', f1, rfl, a, b, c, rfl⟩ := for_ix (g := t__law_bit_rows_2) (body := b__law_bit_rows_2)
    (fun i ρ s' => s' = s ∧ ∃ a b c, ρ = [some (.int (k : Int)), some (.lst ((brs i).map tN)), a, b, c]) hF ⟨rfl, _, _, _, rfl⟩ fun i x ρ s' hx hJ => by
      obtain ⟨rfl, a, b, c, rfl⟩ := hJ
      obtain ⟨hi, rfl⟩ := rng_get hx
      have hp : 2 ^ i ≤ 4096 := Nat.le_trans (Nat.pow_le_pow_right (by decide) (by omega : i ≤ 12)) (by decide)
      have hF2 : F__law_bit_rows_1 [some (.int (k : Int)), some (.lst ((brs i).map tN)), some (.int (0 + (i : Int))), some (.lst []), c] s' = .ok { ws := (brs i).map tN } s' := rfl
      obtain ⟨ρ2, s2, f2, rfl, d, rfl⟩ := for_ix (g := t__law_bit_rows_1) (body := b__law_bit_rows_1)
        (fun j ρ s2 => s2 = s' ∧ ∃ d, ρ = [some (.int (k : Int)), some (.lst ((brs i).map tN)), some (.int (0 + (i : Int))), some (.lst ((((brs i).take j).flatMap fun r => [r ++ [0], r ++ [1]]).map tN)), d]) hF2 ⟨rfl, _, rfl⟩ fun j y ρ s2 hy hJ => by
          obtain ⟨rfl, d, rfl⟩ := hJ
          rw [List.getElem?_map] at hy
          cases hq : (brs i)[j]? with
          | none => rw [hq] at hy; cases hy
          | some r =>
            rw [hq] at hy
            cases hy
            have hj := (List.getElem?_eq_some_iff.mp hq).1
            rw [brs_len] at hj
            have hr := (mem_brs.mp (List.mem_of_getElem? hq)).2
            refine ⟨[some (.int (k : Int)), some (.lst ((brs i).map tN)), some (.int (0 + (i : Int))), some (.lst ((((brs i).take j).flatMap fun r => [r ++ [0], r ++ [1]]).map tN)), some (tN r)], _, s2, rfl, .inl (asg_v (w := .lst ((((brs i).take (j + 1)).flatMap fun r => [r ++ [0], r ++ [1]]).map tN)) (bin_v (x := .lst ((((brs i).take j).flatMap fun r => [r ++ [0], r ++ [1]]).map tN)) (y := .lst [tN (r ++ [0]), tN (r ++ [1])]) rfl (lst_v (cons_v (add_bit (d := 0) rfl (by omega)) (cons_v (add_bit (d := 1) rfl (by omega)) nil_ev)) (by show 2 ≤ 1000000; decide)) ((add_lst (by rw [List.length_map, two_len, List.length_take, brs_len]; show 2 * min j (2 ^ i) + 2 ≤ 1000000; omega)).trans ?_))), rfl, _, rfl⟩
            rw [List.take_succ, hq, List.flatMap_append, List.map_append]
            rfl
      rw [List.length_map, brs_len] at f2
      rw [List.take_of_length_le (by rw [brs_len]; exact Nat.le_refl _)] at f2
      refine ⟨[some (.int (k : Int)), some (.lst ((brs i).map tN)), some (.int (0 + (i : Int))), b, c], [some (.int (k : Int)), some (.lst ((brs (i + 1)).map tN)), some (.int (0 + (i : Int))), some (.lst ((brs (i + 1)).map tN)), d], s2, rfl, .inl ?_, rfl, _, _, _, rfl⟩
      unfold b__law_bit_rows_2
      exact seq_nx (ρ1 := [some (.int (k : Int)), some (.lst ((brs i).map tN)), some (.int (0 + (i : Int))), some (.lst []), c]) rfl (seq_nx f2 rfl)
  rw [rng_len] at f1
  unfold g__law_bit_rows d__law_bit_rows
  rw [den_ev, e0]
  refine fin_nx e1 (fin_nx f1 ?_)
  rw [ret_v (w := .lst ((brs k).map tN)) rfl]
  exact finC_rt
end
section
variable {pre os : Sto} {cs : List Int} {l p : Int}
theorem sum_small : ∀ {rs : List Int}, (∀ r ∈ rs, 0 ≤ r ∧ r ≤ 3) → 0 ≤ rs.sum ∧ rs.sum ≤ 3 * rs.length
  | [], _ => ⟨Int.le_refl _, by simp⟩
  | r :: rs, h => by
    have h1 := h r List.mem_cons_self
    have h2 := sum_small (rs := rs) fun x hx => h x (List.mem_cons_of_mem _ hx)
    rw [List.sum_cons, List.length_cons]
    omega
theorem tame_ok {most : Int} (hc : cs ≠ []) (hp : 0 ≤ p) (hp2 : p < 800000) (hm : 1 ≤ most) (hm6 : most ≤ 6) :
    ∃ o ts l' p', g__law_tame_bill [.ref pre.length, .int most] (St pre os cs l p) = .ok (bi o ts) (St pre os cs l' p') ∧ Bill o ts ∧ 0 ≤ p' ∧ p' ≤ p + 20 ∧ ∀ t ∈ ts, (t.rs.length : Int) ≤ most := by
  obtain ⟨k, l2, p2, d2, k0, k6, p20, p21⟩ := (draw_ok (pre := pre) (tl := os) (l := l) hc (show (0 : Int) < most by omega) (by omega) hp (by omega)).ok
  have e0 : startD 5 [.ref pre.length, .int most] = [some (.ref pre.length), some (.int most), none, none, none] := rfl
  have hF : cF__law_tame_bill_1 [some (.ref pre.length), some (.int most), none, none, none] (St pre os cs l p) = .ok { ws := rng 0 (1 + k).toNat } (St pre os cs l2 p2) :=
    range1_ok (cons_v (bin_v (x := .int 1) (y := .int k) rfl (call_v (cons_v (w := .ref pre.length) rfl (cons_v (w := .int most) rfl nil_ev)) d2) add_ii) nil_ev) (okR_s (by omega) (by omega))
  obtain ⟨zs, s', c1, c2, rs, l3, p3, rfl, rfl, r1, r2, r3, r4⟩ := comp_ix (vs := [4]) (g := ct__law_tame_bill_1) (elt := ce__law_tame_bill_1) (fun i acc s => ∃ (rs : List Int) (l3 p3 : Int), acc = rs.map .int ∧ s = St pre os cs l3 p3 ∧ rs.length = i ∧ (∀ r ∈ rs, 0 ≤ r ∧ r ≤ 3) ∧ 0 ≤ p3 ∧ p3 ≤ p + 1 + i)
    hF (by rw [rng_len]; unfold lim; omega) ⟨[], l2, p2, rfl, rfl, rfl, fun _ h => (nomatch h), p20, by omega⟩ fun i x acc s hx hJ => by
      obtain ⟨rs, l3, p3, rfl, rfl, r1, r2, r3, r4⟩ := hJ
      obtain ⟨hi, rfl⟩ := rng_get hx
      obtain ⟨b, l5, p5, d5, b0, b1, p50, p51⟩ := (draw_ok (pre := pre) (tl := os) (l := l3) hc (show (0 : Int) < 4 by decide) (by decide) r3 (by omega)).ok
      refine ⟨[some (.ref pre.length), some (.int most), none, none, some (.int (0 + (i : Int)))], .int b, St pre os cs l5 p5, rfl, ?_, rs ++ [b], l5, p5, by rw [List.map_append]; rfl, rfl, by rw [List.length_append, r1]; rfl, fun r hr => ?_, p50, by omega⟩
      · unfold ce__law_tame_bill_1
        exact call_v (cons_v (w := .ref pre.length) rfl (cons_v k_ev nil_ev)) d5
      · rcases List.mem_append.mp hr with h | h
        · exact r2 r h
        · rw [List.mem_singleton.mp h]; omega
  rw [rng_len] at r1 r4
  have hsum := sum_small r2
  obtain ⟨d, l4, p4, d4, d40, d41, p40, p41⟩ := (draw_ok (pre := pre) (tl := os) (l := l3) hc (show (0 : Int) < 9 by decide) (by decide) r3 (by omega)).ok
  obtain ⟨ow, l5, p5, hw, d5, p50, p51⟩ := law_of_ok (pre := pre) (tl := os) (l := l4) (p := p4) (ws := [.int 0, .int (0 - rs.sum), .int (d - 6)]) hc p40 (by omega) (by intro z; cases z) (by show 3 < 1000; decide)
  obtain ⟨o, rfl, o0, o1⟩ : ∃ i : Int, ow = .int i ∧ -50 ≤ i ∧ i ≤ 50 := by
    rcases List.mem_cons.mp hw with rfl | hw
    · exact ⟨0, rfl, by decide, by decide⟩
    · rcases List.mem_cons.mp hw with rfl | hw
      · exact ⟨0 - rs.sum, rfl, by omega, by omega⟩
      · rcases List.mem_cons.mp hw with rfl | hw
        · exact ⟨d - 6, rfl, by omega, by omega⟩
        · cases hw
  obtain ⟨a, l6, p6, d6, a0, a1, p60, p61⟩ := (draw_ok (pre := pre) (tl := os) (l := l5) hc (show (0 : Int) < 3 by decide) (by decide) p50 (by omega)).ok
  obtain ⟨b, l7, p7, d7, b0, b1, p70, p71⟩ := (draw_ok (pre := pre) (tl := os) (l := l6) hc (show (0 : Int) < 3 by decide) (by decide) p60 (by omega)).ok
  refine ⟨o, [⟨rs, a - 1, b - 1⟩], l7, p7, ?_, ⟨o0, o1, by show 1 ≤ 2; decide, fun t ht => by
    rw [List.mem_singleton.mp ht]
    exact ⟨⟨by show 1 ≤ rs.length; omega, by show rs.length ≤ 6; omega, fun i hi => by have := r2 i hi; omega⟩, by show -50 ≤ a - 1; omega, by show a - 1 ≤ 50; omega, by show -50 ≤ b - 1; omega, by show b - 1 ≤ 50; omega⟩⟩, p70, by omega, fun t ht => by
    rw [List.mem_singleton.mp ht]
    show (rs.length : Int) ≤ most
    omega⟩
  have s1 : mAsg (mBlt tupleD (mCons (mComp cF__law_tame_bill_1 [4] ct__law_tame_bill_1 ci__law_tame_bill_1 ce__law_tame_bill_1) mNil)) (gN 2) [some (.ref pre.length), some (.int most), none, none, none] (St pre os cs l p) = .nx [some (.ref pre.length), some (.int most), some (tI rs), none, none] (St pre os cs l3 p3) :=
    (asg_v (w := tI rs) (blt_v (cons_v (w := .lst (rs.map .int)) c1 nil_ev) tuple_lst)).trans rfl
  have s2 : mAsg (mCall (g__law_of) (mCons (mVar 0) (mCons (mLst (mCons (mK (.int 0)) (mCons (mBin subD (mK (.int 0)) (mBlt sumA (mCons (mVar 2) mNil))) (mCons (mBin subD (mCall (g__law_draw) (mCons (mVar 0) (mCons (mK (.int 9)) mNil))) (mK (.int 6))) mNil)))) mNil))) (gN 3) [some (.ref pre.length), some (.int most), some (tI rs), none, none] (St pre os cs l3 p3) = .nx [some (.ref pre.length), some (.int most), some (tI rs), some (.int o), none] (St pre os cs l5 p5) :=
    (asg_v (w := .int o) (call_v (cons_v (w := .ref pre.length) rfl (cons_v (lst_v (cons_v k_ev (cons_v (w := .int (0 - rs.sum)) (bin_v (x := .int 0) (y := .int rs.sum) rfl (blt_v (cons_v (w := tI rs) rfl nil_ev) sum_TI) sub_ev) (cons_v (w := .int (d - 6)) (bin_v (x := .int d) (y := .int 6) (call_v (cons_v (w := .ref pre.length) rfl (cons_v k_ev nil_ev)) d4) rfl sub_ev) nil_ev))) (by show 3 ≤ 1000000; decide)) nil_ev)) d5)).trans rfl
  have s3 : mTup (mCons (mVar 3) (mCons (mTup (mCons (mTup (mCons (mVar 2) (mCons (mBin subD (mCall (g__law_draw) (mCons (mVar 0) (mCons (mK (.int 3)) mNil))) (mK (.int 1))) (mCons (mBin subD (mCall (g__law_draw) (mCons (mVar 0) (mCons (mK (.int 3)) mNil))) (mK (.int 1))) mNil)))) mNil)) mNil)) [some (.ref pre.length), some (.int most), some (tI rs), some (.int o), none] (St pre os cs l5 p5) = .ok (bi o [⟨rs, a - 1, b - 1⟩]) (St pre os cs l7 p7) :=
    tup_v (cons_v (w := .int o) rfl (cons_v (tup_v (cons_v (tup_v (cons_v (w := tI rs) rfl (cons_v (w := .int (a - 1)) (bin_v (x := .int a) (y := .int 1) (call_v (cons_v (w := .ref pre.length) rfl (cons_v k_ev nil_ev)) d6) rfl sub_ev) (cons_v (w := .int (b - 1)) (bin_v (x := .int b) (y := .int 1) (call_v (cons_v (w := .ref pre.length) rfl (cons_v k_ev nil_ev)) d7) rfl sub_ev) nil_ev))) (by show 3 ≤ 1000000; decide)) nil_ev) (by show 1 ≤ 1000000; decide)) nil_ev)) (by show 2 ≤ 1000000; decide)
  unfold g__law_tame_bill d__law_tame_bill
  rw [den_ev, e0]
  refine fin_nx s1 (fin_nx s2 ?_)
  rw [ret_v s3]
  exact fin_St
theorem repr_bi {o : Int} {ts : List Term} (s : Sto) (h : Bill o ts) : reprA s [bi o ts] = some (.str (bd o ts).shown) := by
  unfold reprA
  rw [repr_tup (pl_bi h) (by decide) (by decide)]
theorem cl_nil : ClP [] [] := fun _ => ⟨rfl, rfl⟩
end
end MP.PG
set_option Elab.async false
set_option linter.all false
set_option maxRecDepth 100000
set_option maxHeartbeats 1000000
namespace MP.PG
open PySem PySem.Spec MP
open PyProof.Rows hiding St
open L2 hiding St r1
section
variable {p : Nat → Int} {N b : Nat}
theorem stable_on (hN : 0 < N) {K : Nat} (h : Stable p N b K) : ∀ (i n : Nat), n < N → Hh p N b (K + i) n = Hh p N b K n
  | 0, n, _ => rfl
  | i + 1, n, hn => by
    have ih := stable_on hN h i
    show rz p N b (Hh p N b (K + i)) n = _
    rw [rz_congr hN ih hn]
    exact h n hn
/-- what signs pay from a number on -/
def sgp (p : Nat → Int) (N b : Nat) : List Nat → Nat → Int
  | [], _ => 0
  | s :: ss, n => p (s + n * b) + sgp p N b ss ((s + n * b) % N)
def sge (N b : Nat) : List Nat → Nat → Nat
  | [], n => n
  | s :: ss, n => sge N b ss ((s + n * b) % N)
/-- a walk is no higher than its height -/
theorem walk_le {k : Nat} : ∀ (ss : List Nat) (n : Nat), (∀ s ∈ ss, s < b) → sgp p N b ss n + Hh p N b k (sge N b ss n) ≤ Hh p N b (k + ss.length) n
  | [], n, _ => by simp [sgp, sge]
  | s :: ss, n, h => by
    have ih := walk_le (k := k) ss ((s + n * b) % N) fun x hx => h x (List.mem_cons_of_mem _ hx)
    have h1 : wk p N b (Hh p N b (k + ss.length)) n s ≤ rz p N b (Hh p N b (k + ss.length)) n := rz_gew (h s List.mem_cons_self)
    show (p (s + n * b) + sgp p N b ss ((s + n * b) % N)) + Hh p N b k (sge N b ss ((s + n * b) % N)) ≤ rz p N b (Hh p N b (k + ss.length)) n
    unfold wk at h1
    omega
/-- a ring that pays: no height is the last one -/
theorem ring_grows {ss : List Nat} {n : Nat} (hN : 0 < N) (hn : n < N) (hs : ∀ s ∈ ss, s < b) (he : sge N b ss n = n) (hp : 0 < sgp p N b ss n) {K : Nat} : ¬ Stable p N b K := fun h => by
  have h1 := walk_le (p := p) (N := N) (b := b) (k := K) ss n hs
  rw [he, stable_on hN h ss.length n hn] at h1
  omega
/-- the signs of a part of a trail -/
theorem trail_part {K st : Nat} (hg : Hh p N b (K - 1) st < Hh p N b K st) : ∀ (m a : Nat), a + m ≤ K →
    (∀ s ∈ (List.range m).map (fun i => sg p N b K st (a + i)), s < b) ∧ sge N b ((List.range m).map fun i => sg p N b K st (a + i)) (cur p N b K st a) = cur p N b K st (a + m) ∧
    sgp p N b ((List.range m).map fun i => sg p N b K st (a + i)) (cur p N b K st a) + Hh p N b (K - (a + m)) (cur p N b K st (a + m)) = Hh p N b (K - a) (cur p N b K st a)
  | 0, a, _ => by
    refine ⟨fun s hs => (nomatch hs), rfl, ?_⟩
    show 0 + _ = _
    rw [Nat.add_zero, Int.zero_add]
  | m + 1, a, h => by
    obtain ⟨ih1, ih2, ih3⟩ := trail_part hg m (a + 1) (by omega)
    have hst := cur_step hg (i := a) (by omega)
    have e : (List.range (m + 1)).map (fun i => sg p N b K st (a + i)) = sg p N b K st a :: (List.range m).map fun i => sg p N b K st (a + 1 + i) := by
      rw [List.range_succ_eq_map, List.map_cons, List.map_map]
      show _ :: _ = _
      congr 1
      refine List.map_congr_left fun i _ => ?_
      show sg p N b K st (a + (i + 1)) = _
      rw [show a + (i + 1) = a + 1 + i by omega]
    have en : (sg p N b K st a + cur p N b K st a * b) % N = cur p N b K st (a + 1) := rfl
    rw [e]
    refine ⟨fun s hs => ?_, ?_, ?_⟩
    · rcases List.mem_cons.mp hs with rfl | hs
      · exact hst.1
      · exact ih1 s hs
    · show sge N b _ ((sg p N b K st a + cur p N b K st a * b) % N) = _
      rw [en, ih2, show a + 1 + m = a + (m + 1) by omega]
    · show (p (sg p N b K st a + cur p N b K st a * b) + sgp p N b _ ((sg p N b K st a + cur p N b K st a * b) % N)) + _ = _
      rw [en, hst.2, show a + (m + 1) = a + 1 + m by omega]
      omega
/-- a ring on a trail leads back, and pays -/
theorem ring_pays {K st a y : Nat} (hN : 0 < N) (hst : st < N) (hg : Hh p N b K st < Hh p N b (K + 1) st) (hy : y ≤ K + 1) (hr : Ring1 (cur p N b (K + 1) st) a y) :
    (∀ s ∈ (List.range (y - a)).map (fun i => sg p N b (K + 1) st (a + i)), s < b) ∧ sge N b ((List.range (y - a)).map fun i => sg p N b (K + 1) st (a + i)) (cur p N b (K + 1) st y) = cur p N b (K + 1) st y ∧
    0 < sgp p N b ((List.range (y - a)).map fun i => sg p N b (K + 1) st (a + i)) (cur p N b (K + 1) st y) := by
  obtain ⟨hay, hc, _⟩ := hr
  obtain ⟨h1, h2, h3⟩ := trail_part (p := p) (N := N) (b := b) (K := K + 1) (st := st) hg (y - a) a (by omega)
  rw [show a + (y - a) = y by omega] at h2 h3
  have hgr := cur_grew (p := p) (N := N) (b := b) (K := K + 1) (st := st) hg (i := a) (by omega)
  have hle := Hh_le (p := p) (N := N) (b := b) (n := cur p N b (K + 1) st y) (i := K + 1 - y) (k := K + 1 - 1 - a) (by omega)
  rw [hc] at h2 h3 hgr
  exact ⟨h1, h2, by omega⟩
theorem sgp_one {s n : Nat} : sgp p N b [s] n = p (s + n * b) := by
  show p (s + n * b) + 0 = _
  omega
/-- a ring of one sign leads back -/
theorem one_back {i : Nat} (hb : 2 ≤ b) (hN : 0 < N) (hi : i < b) (ho : i * ((b * N - 1) / (b - 1)) < b * N) (hpow : (b - 1) * ((b * N - 1) / (b - 1)) = b * N - 1) :
    i + i * ((b * N - 1) / (b - 1)) / b * b = i * ((b * N - 1) / (b - 1)) ∧ (i + i * ((b * N - 1) / (b - 1)) / b * b) % N = i * ((b * N - 1) / (b - 1)) / b := by
  generalize (b * N - 1) / (b - 1) = o at *
  -- o = 1 + b * (what is left)
  have hbo : b * o = b * N - 1 + o := by
    have : (b - 1) * o + o = b * o := by
      rw [← Nat.succ_mul, Nat.succ_eq_add_one, Nat.sub_add_cancel (by omega)]
    omega
  have ho1 : 1 ≤ o := by
    rcases Nat.eq_zero_or_pos o with h | h
    · rw [h, Nat.mul_zero] at hpow
      have : 2 ≤ b * N := Nat.le_trans hb (Nat.le_mul_of_pos_right _ hN)
      omega
    · exact h
  have hNo : N ≤ o := by
    rcases Nat.lt_or_ge o N with h | h
    · have := Nat.mul_le_mul_left b (show o + 1 ≤ N by omega)
      rw [Nat.mul_add, Nat.mul_one] at this
      omega
    · exact h
  have hq : b * (o - N) = o - 1 := by
    rw [Nat.mul_sub]
    omega
  have hio : i * o = b * (i * (o - N)) + i := by
    have h1 : o = b * (o - N) + 1 := by omega
    have h2 : i * o = i * (b * (o - N) + 1) := congrArg (i * ·) h1
    rw [h2, Nat.mul_add, Nat.mul_one, Nat.mul_left_comm]
  have hdiv : i * o / b = i * (o - N) := by
    rw [hio, Nat.mul_add_div (by omega), Nat.div_eq_of_lt hi, Nat.add_zero]
  have e1 : i + i * (o - N) * b = i * o := by rw [hio, Nat.mul_comm b]; omega
  refine ⟨by rw [hdiv, e1], ?_⟩
  rw [hdiv, e1]
  have e2 : i * o = i * (o - N) + N * i := by
    rw [Nat.mul_comm N i, ← Nat.mul_add, Nat.sub_add_cancel hNo]
  have hlt : i * (o - N) < N := by
    rw [hio] at ho
    exact Nat.lt_of_mul_lt_mul_left (a := b) (by omega)
  rw [e2, Nat.add_mul_mod_self_left, Nat.mod_eq_of_lt hlt]
end
end MP.PG
set_option Elab.async false
set_option linter.all false
set_option maxRecDepth 100000
set_option maxHeartbeats 1000000
namespace MP.PG
open PySem PySem.Spec MP
open PyProof.Rows hiding St
open L2 hiding St r1
section
variable {p : Nat → Int} {N b : Nat} {s : Sto}
/-- whether the heights cease to grow -/
def Bd (p : Nat → Int) (N b : Nat) : Prop := ∃ K, Stable p N b K
theorem pow_less (hb : 2 ≤ b) : ∀ m : Nat, ∃ q, b ^ m = (b - 1) * q + 1
  | 0 => ⟨0, by simp⟩
  | m + 1 => by
    obtain ⟨q, h⟩ := pow_less hb m
    refine ⟨b ^ m + q, ?_⟩
    have e : b ^ (m + 1) = (b - 1) * b ^ m + b ^ m := by
      rw [← Nat.succ_mul, Nat.succ_eq_add_one, Nat.sub_add_cancel (by omega), Nat.pow_succ, Nat.mul_comm]
    rw [e, Nat.mul_add]
    omega
theorem ones_eq (hb : 2 ≤ b) {w : Nat} : (b - 1) * ((b * b ^ w - 1) / (b - 1)) = b * b ^ w - 1 := by
  obtain ⟨q, h⟩ := pow_less hb (w + 1)
  have e : b * b ^ w = b ^ (w + 1) := by rw [Nat.pow_succ, Nat.mul_comm]
  rw [e, h, Nat.add_sub_cancel, Nat.mul_div_cancel_left _ (by omega)]
/-- what a climb yields: the layers up to the first stable one, or a ring that pays -/
inductive Ce (p : Nat → Int) (N b : Nat) : Dv → Prop
  | layers {K : Nat} : K ≤ N + N / 4 → Stable p N b K → Growing p N b K → Ce p N b (.tup [.lst (LY p N b K), .non])
  | ring {n : Nat} {ss : List Nat} : n < N → ss ≠ [] → (∀ s ∈ ss, s < b) → sge N b ss n = n → 0 < sgp p N b ss n → Ce p N b (.tup [.non, .tup [.int (n : Int), .tup (ss.map fun x : Nat => .int (x : Int))]])
theorem ce_of {w : Nat} {v : Dv} (hb : 2 ≤ b) (h : Cb p (b ^ w) b v) : Ce p (b ^ w) b v := by
  have hN : 0 < b ^ w := Nat.pow_pos (by omega)
  cases h with
  | layers h1 h2 h3 => exact .layers h1 h2 h3
  | @ring K st a y hst hg hy hr =>
    obtain ⟨h1, h2, h3⟩ := ring_pays hN hst hg hy hr
    have e : tI (lf (y - a) fun i => sg p (b ^ w) b (K + 1) st (a + i)) = .tup (((List.range (y - a)).map fun i => sg p (b ^ w) b (K + 1) st (a + i)).map fun x : Nat => .int (x : Int)) := by
      unfold tI lf
      rw [List.map_map, List.map_map]
      rfl
    rw [e]
    refine .ring (cur_lt hN hst) (fun z => ?_) h1 h2 h3
    have := congrArg List.length z
    rw [List.length_map, List.length_range] at this
    have := hr.1
    simp at *
    omega
  | @one i hi hp =>
    have ho := ones_lt (N := b ^ w) hb (Nat.mul_pos (by omega) hN) hi
    obtain ⟨e1, e2⟩ := one_back hb hN hi ho (ones_eq hb)
    have := Ce.ring (p := p) (N := b ^ w) (b := b) (n := i * ((b * b ^ w - 1) / (b - 1)) / b) (ss := [i]) (by
      rw [← e2]
      exact Nat.mod_lt _ hN) (by simp) (fun s hs => by rw [List.mem_singleton.mp hs]; exact hi) e2 (by rw [sgp_one, e1]; exact hp)
    exact this
theorem ce_bd (hN : 0 < N) {v : Dv} (h : Ce p N b v) : (∃ K, v = .tup [.lst (LY p N b K), .non] ∧ Stable p N b K ∧ Growing p N b K ∧ K ≤ N + N / 4) ∨ (¬ Bd p N b ∧ ∃ u, v = .tup [.non, .tup u]) := by
  cases h with
  | layers h1 h2 h3 => exact .inl ⟨_, rfl, h2, h3, h1⟩
  | ring h1 h2 h3 h4 h5 => exact .inr ⟨fun ⟨K, hK⟩ => ring_grows hN h1 h3 h4 h5 hK, _, rfl⟩
/-- the first stable layer is one alone -/
theorem stable_uniq (hN : 0 < N) {K L : Nat} (h1 : Stable p N b K) (h2 : Growing p N b K) (h3 : Stable p N b L) (h4 : Growing p N b L) : K = L := by
  have key : ∀ {K L : Nat}, Stable p N b K → Growing p N b L → L ≤ K := fun {K L} h h' => by
    rcases Nat.lt_or_ge K L with hlt | hge
    · obtain ⟨n, hn, hg⟩ := h' K hlt
      have := h n hn
      omega
    · exact hge
  have := key h1 h4
  have := key h3 h2
  omega
open Classical in
/-- the first stable layer -/
noncomputable def Kf (p : Nat → Int) (N b : Nat) : Nat := if h : ∃ K, Stable p N b K ∧ Growing p N b K then Classical.choose h else 0
theorem Kf_eq (hN : 0 < N) {K : Nat} (h1 : Stable p N b K) (h2 : Growing p N b K) : K = Kf p N b := by
  have h : ∃ K, Stable p N b K ∧ Growing p N b K := ⟨K, h1, h2⟩
  unfold Kf
  rw [dif_pos h]
  have := Classical.choose_spec h
  exact stable_uniq hN h1 h2 this.1 this.2
theorem pow2 {w : Nat} (h : w ≤ 6) : 2 ^ w ≤ 1000 := Nat.le_trans (Nat.pow_le_pow_right (by decide) h) (by decide)
/-- a climb over places -/
theorem climb2 {o : Int} {ts : List Term} (hs : Cl s) (hB : Bill o ts) : ∃ v, Ce (bpF o ts) (2 ^ wd ts) 2 v ∧ g_climb [lI (lf (2 ^ (wd ts + 1)) (bpF o ts)), .int 2] s = .ok v s := by
  obtain ⟨w1, w6⟩ := wd_rng hB.ok
  obtain ⟨v, h1, h2⟩ := climb_ok (s := s) (p := bpF o ts) (N := 2 ^ wd ts) (b := 2) hs (Nat.two_pow_pos _) (by omega) (by omega) (pow2 w6)
  refine ⟨v, ce_of (by omega) h1, ?_⟩
  rw [show 2 ^ (wd ts + 1) = 2 * 2 ^ wd ts by rw [Nat.pow_succ, Nat.mul_comm]]
  exact h2
/-- the greatest, or None -/
noncomputable def gt_ (o : Int) (ts : List Term) : Dv := open Classical in if Bd (bpF o ts) (2 ^ wd ts) 2 then .int (maxO 0 (lf (2 ^ wd ts) (Hh (bpF o ts) (2 ^ wd ts) 2 (Kf (bpF o ts) (2 ^ wd ts) 2)))) else .non
theorem pays_v {o : Int} {ts : List Term} {ρ : Env} (hs : Cl s) (hB : Bill o ts) (h0 : mVar 0 ρ s = .ok (bi o ts) s) : mCall (g_climb) (mCons (mCall (g_bit_pays) (mCons (mCall (g_need_bill) (mCons (mVar 0) mNil)) mNil)) (mCons (mK (.int 2)) mNil)) ρ s = g_climb [lI (lf (2 ^ (wd ts + 1)) (bpF o ts)), .int 2] s := by
  rw [call_ev, cons_v (w := lI (lf (2 ^ (wd ts + 1)) (bpF o ts))) (by
    rw [call_ev, cons_v (w := bi o ts) (by rw [call_ev, cons_v h0 nil_ev, bind_ok]; exact need_bill_ok hB) nil_ev, bind_ok]
    exact bit_pays_ok hs hB) (cons_v k_ev nil_ev), bind_ok]
theorem greatest_ok {o : Int} {ts : List Term} (hs : Cl s) (hB : Bill o ts) : g_greatest [bi o ts] s = .ok (gt_ o ts) s := by
  have hN : 0 < 2 ^ wd ts := Nat.two_pow_pos _
  obtain ⟨v, hc, hv⟩ := climb2 (s := s) hs hB
  have e0 : startD 3 [bi o ts] = [some (bi o ts), none, none] := rfl
  have hcl := (pays_v (ρ := [some (bi o ts), none, none]) hs hB rfl).trans hv
  unfold g_greatest d_greatest
  rw [den_ev, e0]
  unfold gt_
  rcases ce_bd hN hc with ⟨K, rfl, h1, h2, h3⟩ | ⟨h1, u, rfl⟩
  · have c1 : mAsg (mCall (g_climb) (mCons (mCall (g_bit_pays) (mCons (mCall (g_need_bill) (mCons (mVar 0) mNil)) mNil)) (mCons (mK (.int 2)) mNil))) (gT 2 (gsC (gN 1) (gsC (gN 2) gs0))) [some (bi o ts), none, none] s = .nx [some (bi o ts), some (.lst (LY (bpF o ts) (2 ^ wd ts) 2 K)), some .non] s := asg_gv hcl rfl
    rw [if_pos ⟨K, h1⟩, ← Kf_eq hN h1 h2]
    refine fin_nx c1 (fin_nx ((ifS_f (test_v (bin_v (x := .non) (y := .non) rfl rfl isnt_nn))).trans rfl) ?_)
    obtain ⟨lss, el⟩ := LY_one (p := bpF o ts) (N := 2 ^ wd ts) (b := 2) (K := K)
    have hix : mBin ixA (mVar 1) (mUn negD (mK (.int 1))) [some (bi o ts), some (.lst (LY (bpF o ts) (2 ^ wd ts) 2 K)), some .non] s = .ok (lI (lf (2 ^ wd ts) (Hh (bpF o ts) (2 ^ wd ts) 2 K))) s := by
      refine bin_v (x := .lst (LY (bpF o ts) (2 ^ wd ts) 2 K)) (y := .int (-1)) rfl (un_v k_ev neg_ev) (ixA_list (ws := LY (bpF o ts) (2 ^ wd ts) 2 K) rfl ?_)
      rw [el]
      exact atI_last1
    rw [ret_v (blt_v (cons_v hix nil_ev) (max_I (fun z => by
      have := congrArg List.length z
      rw [lf_len] at this
      simp at this)))]
    exact finC_rt
  · have c1 : mAsg (mCall (g_climb) (mCons (mCall (g_bit_pays) (mCons (mCall (g_need_bill) (mCons (mVar 0) mNil)) mNil)) (mCons (mK (.int 2)) mNil))) (gT 2 (gsC (gN 1) (gsC (gN 2) gs0))) [some (bi o ts), none, none] s = .nx [some (bi o ts), some .non, some (.tup u)] s := asg_gv hcl rfl
    rw [if_neg h1]
    refine fin_nx c1 (fin_rtS ((ifS_t (test_v (bin_v (x := .tup u) (y := .non) rfl rfl rfl))).trans (ret_v k_ev)) finC_rt)
end
end MP.PG
set_option Elab.async false
set_option linter.all false
set_option maxRecDepth 100000
set_option maxHeartbeats 1000000
namespace MP.PG
open PySem PySem.Spec MP
open PyProof.Rows hiding St
open L2 hiding St r1
section
variable {p : Nat → Int} {N b : Nat} {s : Sto} {o : Int} {ts : List Term}
open Classical in
theorem bounded_ok (hs : Cl s) (hB : Bill o ts) : g_is_bounded [bi o ts] s = .ok (.bl (decide (Bd (bpF o ts) (2 ^ wd ts) 2))) s := by
  have hN : 0 < 2 ^ wd ts := Nat.two_pow_pos _
  obtain ⟨v, hc, hv⟩ := climb2 (s := s) hs hB
  have e0 : startD 3 [bi o ts] = [some (bi o ts), none, none] := rfl
  have hcl := (pays_v (ρ := [some (bi o ts), none, none]) hs hB rfl).trans hv
  unfold g_is_bounded d_is_bounded
  rw [den_ev, e0]
  rcases ce_bd hN hc with ⟨K, rfl, h1, h2, h3⟩ | ⟨h1, u, rfl⟩
  · have c1 : mAsg (mCall (g_climb) (mCons (mCall (g_bit_pays) (mCons (mCall (g_need_bill) (mCons (mVar 0) mNil)) mNil)) (mCons (mK (.int 2)) mNil))) (gT 2 (gsC (gN 1) (gsC (gN 2) gs0))) [some (bi o ts), none, none] s = .nx [some (bi o ts), some (.lst (LY (bpF o ts) (2 ^ wd ts) 2 K)), some .non] s := asg_gv hcl rfl
    rw [decide_eq_true (show Bd (bpF o ts) (2 ^ wd ts) 2 from ⟨K, h1⟩)]
    refine fin_nx c1 ?_
    rw [ret_v (bin_v (x := .non) (y := .non) rfl rfl is_nn)]
    exact finC_rt
  · have c1 : mAsg (mCall (g_climb) (mCons (mCall (g_bit_pays) (mCons (mCall (g_need_bill) (mCons (mVar 0) mNil)) mNil)) (mCons (mK (.int 2)) mNil))) (gT 2 (gsC (gN 1) (gsC (gN 2) gs0))) [some (bi o ts), none, none] s = .nx [some (bi o ts), some .non, some (.tup u)] s := asg_gv hcl rfl
    rw [decide_eq_false h1]
    refine fin_nx c1 ?_
    rw [ret_v (w := .bl false) (bin_v (x := .tup u) (y := .non) rfl rfl rfl)]
    exact finC_rt
/-- the greatest of the heights of some numbers -/
def go (H : Nat → Int) (st : List Nat) : Int := maxO 0 (st.map H)
theorem greatest_of_ok {H : Nat → Int} {st : List Nat} (h0 : st ≠ []) (hl : st.length ≤ 1000000) (h : ∀ n ∈ st, n < N) : g_greatest_of [lI (lf N H), .lst (st.map fun x : Nat => .int (x : Int))] s = .ok (.int (go H st)) s := by
  have e0 : startD 3 [lI (lf N H), .lst (st.map fun x : Nat => Dv.int (x : Int))] = [some (lI (lf N H)), some (.lst (st.map fun x : Nat => Dv.int (x : Int))), none] := rfl
  have hc : mComp cF_greatest_of_1 [2] ct_greatest_of_1 ci_greatest_of_1 ce_greatest_of_1 [some (lI (lf N H)), some (.lst (st.map fun x : Nat => Dv.int (x : Int))), none] s = .ok (lI (st.map H)) s := by
    have := comp_mapA (vs := [2]) (g := ct_greatest_of_1) (elt := ce_greatest_of_1) (f := cF_greatest_of_1) (ρ := [some (lI (lf N H)), some (.lst (st.map fun x : Nat => Dv.int (x : Int))), none]) (s := s) (l := st) (e := fun x : Nat => Dv.int (x : Int)) (fun x => .int (H x)) rfl (by unfold lim; omega) fun x hx => ⟨[some (lI (lf N H)), some (.lst (st.map fun x : Nat => Dv.int (x : Int))), some (.int (x : Int))], rfl, by
      refine bin_v (x := lI (lf N H)) (y := .int (x : Int)) rfl rfl (ix_lst ?_)
      rw [List.getElem?_map, lf_get (h x hx)]
      rfl⟩
    refine this.trans ?_
    show R.ok (Dv.lst _) s = R.ok (Dv.lst _) s
    rw [List.map_map]
    rfl
  unfold g_greatest_of d_greatest_of
  rw [den_ev, e0, ret_v (blt_v (cons_v hc nil_ev) (max_I (fun z => h0 (List.map_eq_nil_iff.mp z))))]
  exact finC_rt
end
end MP.PG
set_option Elab.async false
set_option linter.all false
set_option maxRecDepth 100000
set_option maxHeartbeats 1000000
namespace MP.PG
open PySem PySem.Spec MP
open PyProof.Rows hiding St
open L2 hiding St r1
section
variable {p : Nat → Int} {N b : Nat} {s : Sto}
theorem go_mem {H : Nat → Int} {st : List Nat} (h : st ≠ []) : ∃ n ∈ st, go H st = H n := by
  have := maxO_mem (l := st.map H) (fun z => h (List.map_eq_nil_iff.mp z))
  obtain ⟨n, hn, e⟩ := List.mem_map.mp this
  exact ⟨n, hn, e.symm⟩
theorem go_ge {H : Nat → Int} {st : List Nat} {n : Nat} (h : n ∈ st) : H n ≤ go H st := maxO_le (List.mem_map.mpr ⟨n, h, rfl⟩)
theorem go_mono {H G : Nat → Int} {st : List Nat} (h0 : st ≠ []) (h : ∀ n, H n ≤ G n) : go H st ≤ go G st := by
  obtain ⟨n, hn, e⟩ := go_mem (H := H) h0
  rw [e]
  exact Int.le_trans (h n) (go_ge hn)
/-- the fewest steps by which the top is come to -/
def few (p : Nat → Int) (N b : Nat) (st : List Nat) (K : Nat) : Nat := fstS (fun k => decide (go (Hh p N b k) st = go (Hh p N b K) st)) (K + 1)
theorem few_spec {st : List Nat} {K : Nat} (h0 : st ≠ []) : few p N b st K ≤ K ∧ go (Hh p N b (few p N b st K)) st = go (Hh p N b K) st ∧ ∀ k, k < few p N b st K → go (Hh p N b k) st < go (Hh p N b K) st := by
  obtain ⟨h1, h2, h3⟩ := fstS_spec (b := K + 1) (f := fun k => decide (go (Hh p N b k) st = go (Hh p N b K) st)) ⟨K, by omega, decide_eq_true rfl⟩
  refine ⟨by unfold few; omega, of_decide_eq_true h2, fun k hk => ?_⟩
  have h4 := of_decide_eq_false (h3 k hk)
  have h5 : go (Hh p N b k) st ≤ go (Hh p N b K) st := go_mono h0 fun n => Hh_le (by unfold few at hk; omega)
  omega
abbrev we (p : Nat → Int) (N b K : Nat) (st : List Nat) (top : Int) (k : Nat) : Env := [some (lI (lf (b * N) p)), some (.lst (LY p N b K)), some (.lst (st.map fun x : Nat => .int (x : Int))), some (.int (b : Int)), some (.int top), some (.int (k : Int)), none, none, none, none]
theorem few_wh {st : List Nat} {K : Nat} (h0 : st ≠ []) (hl : st.length ≤ 1000000) (hst : ∀ n ∈ st, n < N) : ∀ (m k F : Nat), k + m = few p N b st K → m < F →
    whL wt_best_walk_1 wb_best_walk_1 F (we p N b K st (go (Hh p N b K) st) k) s = .nx (we p N b K st (go (Hh p N b K) st) (few p N b st K)) s := by
  obtain ⟨f1, f2, f3⟩ := few_spec (p := p) (N := N) (b := b) (K := K) h0
  have ht : ∀ k, k ≤ K → wt_best_walk_1 (we p N b K st (go (Hh p N b K) st) k) s = .ok (decide (go (Hh p N b k) st < go (Hh p N b K) st)) s := fun k hk => by
    unfold wt_best_walk_1
    refine test_v (bin_v (x := .int (go (Hh p N b k) st)) (y := .int (go (Hh p N b K) st)) ?_ rfl lt_ii)
    rw [call_ev, cons_v (w := lI (lf N (Hh p N b k))) (bin_v (x := .lst (LY p N b K)) (y := .int (k : Int)) rfl rfl (ixA_list (ws := LY p N b K) rfl (atI_nat (LY_get hk)))) (cons_v (w := .lst (st.map fun x : Nat => .int (x : Int))) rfl nil_ev), bind_ok]
    exact greatest_of_ok h0 hl hst
  intro m
  induction m with
  | zero =>
    intro k F hk hF
    obtain ⟨F, rfl⟩ : ∃ G, F = G + 1 := ⟨F - 1, by omega⟩
    obtain rfl : k = few p N b st K := by omega
    unfold whL
    rw [ht _ f1, decide_eq_false (by omega), then_ok]
    rfl
  | succ m ih =>
    intro k F hk hF
    obtain ⟨F, rfl⟩ : ∃ G, F = G + 1 := ⟨F - 1, by omega⟩
    unfold whL
    rw [ht _ (by omega), decide_eq_true (f3 k (by omega)), then_ok]
    have hb : wb_best_walk_1 (we p N b K st (go (Hh p N b K) st) k) s = .nx (we p N b K st (go (Hh p N b K) st) (k + 1)) s := by
      have := nx_aug (i := 5) (f := mK (.int 1)) (ρ := we p N b K st (go (Hh p N b K) st) k) (s := s) (a := (k : Int)) (c := 1) rfl k_ev
      rw [show (k : Int) + 1 = ((k + 1 : Nat) : Int) by omega] at this
      exact this
    rw [if_pos rfl, hb]
    exact ih (k + 1) F (by omega) (by omega)
theorem LY_take {K F : Nat} (h : F ≤ K) : (LY p N b K).take (F + 1) = LY p N b F := by
  unfold LY
  rw [← List.map_take, List.take_range, show min (F + 1) (K + 1) = F + 1 by omega]
/-- the first one of the best starts -/
def bs1 (p : Nat → Int) (N b : Nat) (st : List Nat) (K : Nat) : Nat := (st.filter fun n => decide (Hh p N b (few p N b st K) n = go (Hh p N b K) st)).headD 0
theorem best_walk_ok {st : List Nat} {K : Nat} (hs : Cl s) (hN : 0 < N) (hb : 0 < b) (hb3 : b ≤ 100) (hK : K ≤ 2000) (h0 : st ≠ []) (hl : st.length ≤ 1000000) (hst : ∀ n ∈ st, n < N) :
    bs1 p N b st K ∈ st ∧ Hh p N b (few p N b st K) (bs1 p N b st K) = go (Hh p N b K) st ∧ (0 < few p N b st K → Hh p N b (few p N b st K - 1) (bs1 p N b st K) < Hh p N b (few p N b st K) (bs1 p N b st K)) ∧
    g_best_walk [lI (lf (b * N) p), .lst (LY p N b K), .lst (st.map fun x : Nat => .int (x : Int)), .int (b : Int)] s = .ok (.tup [.int (bs1 p N b st K : Int), tI (lf (few p N b st K) fun i => sg p N b (few p N b st K) (bs1 p N b st K) i)]) s := by
  obtain ⟨f1, f2, f3⟩ := few_spec (p := p) (N := N) (b := b) (K := K) h0
  generalize hF : few p N b st K = F at f1 f2 f3
  have hne : (st.filter fun n => decide (Hh p N b F n = go (Hh p N b K) st)) ≠ [] := by
    obtain ⟨n, hn, e⟩ := go_mem (H := Hh p N b F) h0
    exact List.ne_nil_of_mem (List.mem_filter.mpr ⟨hn, decide_eq_true (by rw [← e, f2])⟩)
  obtain ⟨x, r, hx⟩ : ∃ x r, (st.filter fun n => decide (Hh p N b F n = go (Hh p N b K) st)) = x :: r := by
    cases q : (st.filter fun n => decide (Hh p N b F n = go (Hh p N b K) st)) with
    | nil => exact absurd q hne
    | cons x r => exact ⟨x, r, rfl⟩
  have hbs : bs1 p N b st K = x := by unfold bs1; rw [hF, hx]; rfl
  obtain ⟨hxm, hxe⟩ := List.mem_filter.mp (by rw [hx]; exact List.mem_cons_self : x ∈ st.filter fun n => decide (Hh p N b F n = go (Hh p N b K) st))
  have hxe := of_decide_eq_true hxe
  have hg : 0 < F → Hh p N b (F - 1) x < Hh p N b F x := fun h => by
    have h1 := f3 (F - 1) (by omega)
    have h2 := go_ge (H := Hh p N b (F - 1)) hxm
    omega
  rw [hbs]
  refine ⟨hxm, hxe, hg, ?_⟩
  let P : Dv := lI (lf (b * N) p)
  let T : Dv := .lst (st.map fun x : Nat => .int (x : Int))
  have e0 : startD 10 [P, .lst (LY p N b K), T, .int (b : Int)] = [some P, some (.lst (LY p N b K)), some T, some (.int (b : Int)), none, none, none, none, none, none] := rfl
  have c1 : mAsg (mCall (g_greatest_of) (mCons (mBin ixA (mVar 1) (mUn negD (mK (.int 1)))) (mCons (mVar 2) mNil))) (gN 4) [some P, some (.lst (LY p N b K)), some T, some (.int (b : Int)), none, none, none, none, none, none] s = .nx [some P, some (.lst (LY p N b K)), some T, some (.int (b : Int)), some (.int (go (Hh p N b K) st)), none, none, none, none, none] s := by
    refine (asg_v (w := .int (go (Hh p N b K) st)) ?_).trans rfl
    obtain ⟨lss, el⟩ := LY_one (p := p) (N := N) (b := b) (K := K)
    rw [call_ev, cons_v (w := lI (lf N (Hh p N b K))) (bin_v (x := .lst (LY p N b K)) (y := .int (-1)) rfl (un_v k_ev neg_ev) (ixA_list (ws := LY p N b K) rfl (by rw [el]; exact atI_last1))) (cons_v (w := T) rfl nil_ev), bind_ok]
    exact greatest_of_ok h0 hl hst
  have c2 : mAsg (mK (.int 0)) (gN 5) [some P, some (.lst (LY p N b K)), some T, some (.int (b : Int)), some (.int (go (Hh p N b K) st)), none, none, none, none, none] s = .nx (we p N b K st (go (Hh p N b K) st) 0) s := rfl
  have c3 := few_wh (s := s) (p := p) (N := N) (b := b) (K := K) h0 hl hst F 0 100000 (by omega) (by omega)
  rw [hF] at c3
  have c4 : mAsg (mComp cF_best_walk_1 [9] ct_best_walk_1 ci_best_walk_1 ce_best_walk_1) (gN 6) (we p N b K st (go (Hh p N b K) st) F) s = .nx [some P, some (.lst (LY p N b K)), some T, some (.int (b : Int)), some (.int (go (Hh p N b K) st)), some (.int (F : Int)), some (.lst ((x :: r).map fun x : Nat => .int (x : Int))), none, none, none] s := by
    refine (asg_v (w := .lst ((x :: r).map fun x : Nat => .int (x : Int))) ?_).trans rfl
    rw [← hx]
    refine comp_filt (vs := [9]) (g := ct_best_walk_1) (tt := ci_best_walk_1) (elt := ce_best_walk_1) (f := cF_best_walk_1) (ρ := we p N b K st (go (Hh p N b K) st) F) (s := s) (l := st) (e := fun x : Nat => Dv.int (x : Int)) (fun x : Nat => Dv.int (x : Int)) (fun n => decide (Hh p N b F n = go (Hh p N b K) st)) rfl (by unfold lim; omega) fun n hn => ⟨[some P, some (.lst (LY p N b K)), some T, some (.int (b : Int)), some (.int (go (Hh p N b K) st)), some (.int (F : Int)), none, none, none, some (.int (n : Int))], rfl, test_v (bin_v (x := .int (Hh p N b F n)) (y := .int (go (Hh p N b K) st)) (bin_v (x := lI (lf N (Hh p N b F))) (y := .int (n : Int)) (bin_v (x := .lst (LY p N b K)) (y := .int (F : Int)) rfl rfl (ixA_list (ws := LY p N b K) rfl (atI_nat (LY_get f1)))) rfl (ix_lst ?_)) rfl eq_ii), fun _ => rfl⟩
    rw [List.getElem?_map, lf_get (hst n hn)]
    rfl
  let E6 : Env := [some P, some (.lst (LY p N b K)), some T, some (.int (b : Int)), some (.int (go (Hh p N b K) st)), some (.int (F : Int)), some (.lst ((x :: r).map fun x : Nat => .int (x : Int))), none, none, none]
  have hx0 : ∀ ρ : Env, ρ[6]? = some (some (.lst ((x :: r).map fun x : Nat => .int (x : Int)))) → mBin ixA (mVar 6) (mK (.int 0)) ρ s = .ok (.int (x : Int)) s := fun ρ hρ =>
    bin_v (x := .lst ((x :: r).map fun x : Nat => .int (x : Int))) (y := .int ((0 : Nat) : Int)) (by unfold mVar; rw [hρ]) rfl (ix_lst rfl)
  have c5 : mAsg (mCall (g_trail) (mCons (mVar 0) (mCons (mSl slA (mVar 1) mNoPart (mPart (mBin addD (mVar 5) (mK (.int 1))))) (mCons (mBin ixA (mVar 6) (mK (.int 0))) (mCons (mVar 3) mNil))))) (gT 2 (gsC (gN 7) (gsC (gN 8) gs0))) E6 s = .nx [some P, some (.lst (LY p N b K)), some T, some (.int (b : Int)), some (.int (go (Hh p N b K) st)), some (.int (F : Int)), some (.lst ((x :: r).map fun x : Nat => .int (x : Int))), some (lI (lf (F + 1) fun i => (cur p N b F x i : Int))), some (lI (lf F fun i => (sg p N b F x i : Int))), none] s := by
    refine asg_gv (w := .tup [lI (lf (F + 1) fun i => (cur p N b F x i : Int)), lI (lf F fun i => (sg p N b F x i : Int))]) ?_ rfl
    have hsl : mSl slA (mVar 1) mNoPart (mPart (mBin addD (mVar 5) (mK (.int 1)))) E6 s = .ok (.lst (LY p N b F)) s := by
      refine sl_v (x := .lst (LY p N b K)) rfl nopart_ev (part_v (i := ((F + 1 : Nat) : Int)) (bin_v (x := .int (F : Int)) (y := .int 1) rfl rfl (by rw [add_ii]; rfl))) ?_
      rw [sl_lst, cut_to, LY_take f1]
    rw [call_ev, cons_v (w := P) rfl (cons_v hsl (cons_v (hx0 E6 rfl) (cons_v (w := .int (b : Int)) rfl nil_ev))), bind_ok]
    exact trail_ok hs hN hb hb3 (hst x hxm) (by omega) (fun us => rfl) (fun us => by rw [len_lst, LY_len]) hg
  unfold g_best_walk d_best_walk
  rw [den_ev, e0]
  refine fin_nx c1 (fin_nx c2 (fin_nx c3 (fin_nx c4 (fin_nx c5 ?_))))
  rw [ret_v (tup_v (cons_v (hx0 _ rfl) (cons_v (w := tI (lf F fun i => (sg p N b F x i : Int))) (blt_v (cons_v (w := lI (lf F fun i => (sg p N b F x i : Int))) rfl nil_ev) tuple_lst) nil_ev)) (by show 2 ≤ 1000000; decide))]
  exact finC_rt
end
end MP.PG
set_option Elab.async false
set_option linter.all false
set_option maxRecDepth 100000
set_option maxHeartbeats 1000000
namespace MP.PG
open PySem PySem.Spec MP
open PyProof.Rows hiding St
open L2 hiding St r1
section
variable {s : Sto} {o : Int} {ts : List Term}
/-- the bits of the best row over layers up to one -/
def brow (o : Int) (ts : List Term) (K : Nat) : List Nat :=
  digs 2 (wd ts) (bs1 (bpF o ts) (2 ^ wd ts) 2 (List.range (2 ^ wd ts)) K) ++ (List.range (few (bpF o ts) (2 ^ wd ts) 2 (List.range (2 ^ wd ts)) K)).map fun i => sg (bpF o ts) (2 ^ wd ts) 2 (few (bpF o ts) (2 ^ wd ts) 2 (List.range (2 ^ wd ts)) K) (bs1 (bpF o ts) (2 ^ wd ts) 2 (List.range (2 ^ wd ts)) K) i
theorem row_of_ok {K : Nat} (hs : Cl s) (hB : Bill o ts) (hK : K ≤ 2000) : g_best_row_of [bi o ts, lI (lf (2 ^ (wd ts + 1)) (bpF o ts)), .lst (LY (bpF o ts) (2 ^ wd ts) 2 K)] s = .ok (tN (brow o ts K)) s := by
  obtain ⟨w1, w6⟩ := wd_rng hB.ok
  have hN : 0 < 2 ^ wd ts := Nat.two_pow_pos _
  have hN2 := pow2 w6
  obtain ⟨b1, b2, b3, b4⟩ := best_walk_ok (s := s) (p := bpF o ts) (N := 2 ^ wd ts) (b := 2) (st := List.range (2 ^ wd ts)) (K := K) hs hN (by decide) (by decide) hK (fun z => by
    have := congrArg List.length z
    rw [List.length_range] at this
    simp at this) (by rw [List.length_range]; omega) fun n hn => List.mem_range.mp hn
  obtain ⟨f1, _, _⟩ := few_spec (p := bpF o ts) (N := 2 ^ wd ts) (b := 2) (st := List.range (2 ^ wd ts)) (K := K) (fun z => by
    have := congrArg List.length z
    rw [List.length_range] at this
    simp at this)
  unfold brow
  generalize bs1 (bpF o ts) (2 ^ wd ts) 2 (List.range (2 ^ wd ts)) K = x at *
  generalize few (bpF o ts) (2 ^ wd ts) 2 (List.range (2 ^ wd ts)) K = F at *
  let P : Dv := lI (lf (2 ^ (wd ts + 1)) (bpF o ts))
  let L : Dv := .lst (LY (bpF o ts) (2 ^ wd ts) 2 K)
  have eP : lI (lf (2 * 2 ^ wd ts) (bpF o ts)) = P := by
    show lI (lf (2 * 2 ^ wd ts) (bpF o ts)) = lI (lf (2 ^ (wd ts + 1)) (bpF o ts))
    rw [Nat.pow_succ, Nat.mul_comm]
  rw [eP] at b4
  have e0 : startD 5 [bi o ts, P, L] = [some (bi o ts), some P, some L, none, none] := rfl
  have hrg : mListRg1 (mBlt lenD (mCons (mBin ixA (mVar 2) (mK (.int 0))) mNil)) [some (bi o ts), some P, some L, none, none] s = .ok (.lst ((List.range (2 ^ wd ts)).map fun x : Nat => .int (x : Int))) s := by
    have hl : mBlt lenD (mCons (mBin ixA (mVar 2) (mK (.int 0))) mNil) [some (bi o ts), some P, some L, none, none] s = .ok (.int ((2 ^ wd ts : Nat) : Int)) s := by
      refine blt_v (cons_v (w := lI (lf (2 ^ wd ts) (Hh (bpF o ts) (2 ^ wd ts) 2 0))) (bin_v (x := L) (y := .int ((0 : Nat) : Int)) rfl rfl (ixA_list (ws := LY (bpF o ts) (2 ^ wd ts) 2 K) rfl (atI_nat (LY_get (Nat.zero_le _))))) nil_ev) ?_
      rw [len_lst, List.length_map, lf_len]
    unfold mListRg1
    rw [hl, bind_ok]
    dsimp only
    rw [if_pos (by unfold rgOkB; exact decide_eq_true (by omega)), Int.sub_zero, Int.toNat_natCast, rng_ev]
    have : (List.range (2 ^ wd ts)).map (fun i : Nat => Dv.int (0 + (i : Int))) = (List.range (2 ^ wd ts)).map fun x : Nat => Dv.int (x : Int) := List.map_congr_left fun i _ => by rw [Int.zero_add]
    rw [this]
  have c1 : mAsg (mCall (g_best_walk) (mCons (mVar 1) (mCons (mVar 2) (mCons (mListRg1 (mBlt lenD (mCons (mBin ixA (mVar 2) (mK (.int 0))) mNil))) (mCons (mK (.int 2)) mNil))))) (gT 2 (gsC (gN 3) (gsC (gN 4) gs0))) [some (bi o ts), some P, some L, none, none] s = .nx [some (bi o ts), some P, some L, some (.int (x : Int)), some (tI (lf F fun i => sg (bpF o ts) (2 ^ wd ts) 2 F x i))] s := by
    refine asg_gv (w := .tup [.int (x : Int), tI (lf F fun i => sg (bpF o ts) (2 ^ wd ts) 2 F x i)]) ?_ rfl
    rw [call_ev, cons_v (w := P) rfl (cons_v (w := L) rfl (cons_v hrg (cons_v (w := .int 2) rfl nil_ev))), bind_ok]
    exact b4
  have c2 : mCall (g_signs_of) (mCons (mVar 3) (mCons (mK (.tup [.int 0, .int 1])) (mCons (mCall (g_width_of) (mCons (mVar 0) mNil)) mNil))) [some (bi o ts), some P, some L, some (.int (x : Int)), some (tI (lf F fun i => sg (bpF o ts) (2 ^ wd ts) 2 F x i))] s = .ok (tN (digs 2 (wd ts) x)) s := by
    rw [call_ev, cons_v (w := .int (x : Int)) rfl (cons_v k_ev (cons_v (w := .int (wd ts : Int)) (by rw [call_ev, cons_v (w := bi o ts) rfl nil_ev, bind_ok]; exact width_of_ok hB.ok hB.two) nil_ev)), bind_ok]
    exact signs_ok (b := 2) (f := fun d => .int (d : Int)) hs (by omega) (by omega) (by omega) rfl (fun d hd => by
      match d, hd with
      | 0, _ => rfl
      | 1, _ => rfl) fun d m => rfl
  unfold g_best_row_of d_best_row_of
  rw [den_ev, e0]
  refine fin_nx c1 ?_
  have hc : mBin addD (mCall (g_signs_of) (mCons (mVar 3) (mCons (mK (.tup [.int 0, .int 1])) (mCons (mCall (g_width_of) (mCons (mVar 0) mNil)) mNil)))) (mVar 4) [some (bi o ts), some P, some L, some (.int (x : Int)), some (tI (lf F fun i => sg (bpF o ts) (2 ^ wd ts) 2 F x i))] s = .ok (tN (digs 2 (wd ts) x ++ (List.range F).map fun i => sg (bpF o ts) (2 ^ wd ts) 2 F x i)) s := by
    refine bin_v (y := tI (lf F fun i => sg (bpF o ts) (2 ^ wd ts) 2 F x i)) c2 rfl ((add_tup (by rw [List.length_map, List.length_map, lf_len]; unfold digs; rw [List.length_reverse, List.length_map, List.length_range]; omega)).trans ?_)
    show some (Dv.tup (_ ++ _)) = some (Dv.tup _)
    rw [List.map_append]
    unfold lf
    rw [List.map_map, List.map_map]
    rfl
  rw [ret_v hc]
  exact finC_rt
end
end MP.PG
set_option Elab.async false
set_option linter.all false
set_option maxRecDepth 100000
set_option maxHeartbeats 1000000
namespace MP.PG
open PySem PySem.Spec MP
open PyProof.Rows hiding St
open L2 hiding St r1
end MP.PG
set_option Elab.async false
set_option linter.all false
set_option maxRecDepth 100000
set_option maxHeartbeats 1000000
namespace MP.PG
open PySem PySem.Spec MP
open PyProof.Rows hiding St
open L2 hiding St r1
section
abbrev SL (L : List (Int × Int)) (f : Int × Int → Int) : Int := (L.map fun q => q.2 * f q).sum
theorem SL_add {L : List (Int × Int)} {f g : Int × Int → Int} : SL L (fun q => f q + g q) = SL L f + SL L g := by
  unfold SL
  rw [← sum_map_add]
  congr 1
  exact List.map_congr_left fun q _ => Int.mul_add _ _ _
theorem SL_mul {L : List (Int × Int)} {c : Int} {f : Int × Int → Int} : SL L (fun q => c * f q) = c * SL L f := by
  unfold SL
  rw [← sum_map_mul]
  congr 1
  exact List.map_congr_left fun q _ => Int.mul_left_comm _ _ _
theorem SL_sum {α : Type} {L : List (Int × Int)} {g : Int × Int → α → Int} : ∀ {ts : List α}, SL L (fun q => (ts.map (g q)).sum) = (ts.map fun t => SL L fun q => g q t).sum
  | [] => by
    show (L.map fun q => q.2 * 0).sum = 0
    simp only [Int.mul_zero]
    exact sum_zero L
  | t :: ts => by
    have : SL L (fun q => g q t + (ts.map (g q)).sum) = _ := SL_add (f := fun q => g q t) (g := fun q => (ts.map (g q)).sum)
    show SL L (fun q => g q t + (ts.map (g q)).sum) = (SL L fun q => g q t) + (ts.map fun t => SL L fun q => g q t).sum
    rw [this, SL_sum]
variable {o : Int} {ts : List Term} {ns : List Int}
/-- the bits of a layer -/
def lay (lev : Int) (ns : List Int) : List Int := ns.map (at1 lev)
theorem lay_len {lev : Int} : (lay lev ns).length = ns.length := List.length_map _
theorem ixe_lay {L : List (Int × Int)} {rs : List Int} {e : Nat} (hL : ∀ n ∈ ns, SL L (fun q => at1 q.1 n) = n) : SL L (fun q => ixe rs (lay q.1 ns) e) = ixe rs ns e := by
  have : SL L (fun q => ixe rs (lay q.1 ns) e) = (L.map fun p => p.2 * dot rs ((srt (seg rs ns e)).map (at1 p.1))).sum := by
    unfold SL ixe
    congr 1
    refine List.map_congr_left fun q _ => ?_
    dsimp only
    have : seg rs (lay q.1 ns) e = (seg rs ns e).map (at1 q.1) := by
      unfold seg lay
      rw [← List.map_drop, ← List.map_take]
    rw [this, srt_at1]
  rw [this]
  refine dot_levels fun n hn => hL n ?_
  exact List.mem_of_mem_drop (List.mem_of_mem_take ((srt_perm (seg rs ns e)).mem_iff.mp hn))
theorem ps_lay {L : List (Int × Int)} {e : Nat} (hL : ∀ n ∈ ns, SL L (fun q => at1 q.1 n) = n) (he : e < ns.length) : SL L (fun q => ps o ts (lay q.1 ns) e) = ps o ts ns e := by
  unfold ps
  have a1 : SL L (fun q => o * (lay q.1 ns).getD e 0) = o * ns.getD e 0 := by
    rw [SL_mul]
    have : SL L (fun q => (lay q.1 ns).getD e 0) = SL L (fun q => at1 q.1 (ns.getD e 0)) := by
      unfold SL
      congr 1
      refine List.map_congr_left fun q _ => ?_
      dsimp only
      rw [List.getD_eq_getElem?_getD, List.getD_eq_getElem?_getD]
      unfold lay
      rw [List.getElem?_map, List.getElem?_eq_getElem he]
      rfl
    rw [this, hL]
    rw [List.getD_eq_getElem?_getD, List.getElem?_eq_getElem he]
    exact List.getElem_mem he
  have a2 : SL L (fun q => (ts.map fun t => t.a * ixe t.rs (lay q.1 ns) e + t.b * ixe t.rs (lay q.1 ns) (e + 1)).sum) = (ts.map fun t => t.a * ixe t.rs ns e + t.b * ixe t.rs ns (e + 1)).sum := by
    rw [SL_sum]
    congr 1
    refine List.map_congr_left fun t _ => ?_
    rw [SL_add (f := fun q => t.a * ixe t.rs (lay q.1 ns) e) (g := fun q => t.b * ixe t.rs (lay q.1 ns) (e + 1)), SL_mul, SL_mul, ixe_lay hL, ixe_lay hL]
  exact (SL_add (f := fun q => o * (lay q.1 ns).getD e 0)).trans (by rw [a1, a2])
theorem pys_lay {L : List (Int × Int)} (hL : ∀ n ∈ ns, SL L (fun q => at1 q.1 n) = n) : SL L (fun q => (pys o ts (lay q.1 ns)).sum) = (pys o ts ns).sum := by
  have : SL L (fun q => (pys o ts (lay q.1 ns)).sum) = SL L (fun q => ((List.range (ns.length - wd ts)).map fun i => ps o ts (lay q.1 ns) (wd ts + i)).sum) := by
    unfold SL pys
    congr 1
    exact List.map_congr_left fun q _ => by dsimp only; rw [lay_len]
  rw [this, SL_sum]
  congr 1
  exact List.map_congr_left fun i hi => ps_lay hL (by have := List.mem_range.mp hi; omega)
/-- all levels up to one, each by itself -/
def ul (M : Nat) : List (Int × Int) := (List.range M).map fun i : Nat => ((i : Int) + 1, 1)
theorem ul_succ {M : Nat} {f : Int × Int → Int} : SL (ul (M + 1)) f = SL (ul M) f + f ((M : Int) + 1, 1) := by
  unfold SL ul
  rw [List.range_succ, List.map_append, List.map_append, List.sum_append]
  show _ + (1 * f ((M : Int) + 1, 1) + 0) = _
  omega
theorem ul_val : ∀ {M : Nat} {n : Int}, 0 ≤ n → SL (ul M) (fun q => at1 q.1 n) = if n ≤ M then n else M
  | 0, n, h => by
    show (0 : Int) = _
    split <;> omega
  | M + 1, n, h => by
    rw [ul_succ, ul_val h]
    unfold at1
    dsimp only
    split <;> split <;> split <;> omega
theorem ul_le {g : Int} (hg : 0 ≤ g) {x y : Nat} (hxy : x ≤ y) {f : Int × Int → Int} : ∀ {M : Nat}, (∀ i : Nat, i < M → f ((i : Int) + 1, 1) ≤ if x ≤ i ∧ i < y then g else 0) → SL (ul M) f ≤ ((min M y - min M x : Nat) : Int) * g
  | 0, _ => by
    show (0 : Int) ≤ _
    simp
  | M + 1, h => by
    have ih := ul_le hg hxy (M := M) fun i hi => h i (by omega)
    have h1 := h M (by omega)
    rw [ul_succ]
    by_cases c : x ≤ M ∧ M < y
    · rw [if_pos c] at h1
      have e : min (M + 1) y - min (M + 1) x = (min M y - min M x) + 1 := by omega
      rw [e, Int.natCast_add, Int.add_mul]
      omega
    · rw [if_neg c] at h1
      have e : min (M + 1) y - min (M + 1) x = min M y - min M x := by omega
      rw [e]
      omega
variable {p : Nat → Int} {N w : Nat}
theorem num_cons {b : Nat} {bs : List Nat} : num (b :: bs) = b * 2 ^ bs.length + num bs := by
  unfold num
  rw [List.reverse_cons, rnum_app, List.length_reverse]
  show (2 * 0 + b) * _ + _ = _
  rw [Nat.mul_zero, Nat.zero_add]
end
end MP.PG
set_option Elab.async false
set_option linter.all false
set_option maxRecDepth 100000
set_option maxHeartbeats 1000000
namespace MP.PG
open PySem PySem.Spec MP
open PyProof.Rows hiding St
open L2 hiding St r1
section
variable {p : Nat → Int} {N b : Nat}
theorem first_rep {f : Nat → Nat} : ∀ m : Nat, (∃ x z, x < z ∧ z < m ∧ f x = f z) → ∃ a y, y < m ∧ Ring1 f a y
  | 0, ⟨x, z, _, h, _⟩ => absurd h (Nat.not_lt_zero _)
  | m + 1, h => by
    by_cases h' : ∃ x z, x < z ∧ z < m ∧ f x = f z
    · obtain ⟨a, y, h1, h2⟩ := first_rep m h'
      exact ⟨a, y, by omega, h2⟩
    · obtain ⟨x, z, h1, h2, h3⟩ := h
      have hz : z = m := by
        rcases Nat.lt_or_ge z m with q | q
        · exact absurd ⟨x, z, h1, q, h3⟩ h'
        · omega
      subst hz
      exact ⟨x, z, by omega, h1, h3, fun x' z' g1 g2 g3 => h' ⟨x', z', g1, g2, g3⟩⟩
/-- heights that cease to grow do so within as many steps as there are numbers -/
theorem stable_small (hN : 0 < N) {K : Nat} (h1 : Stable p N b K) (h2 : Growing p N b K) : K ≤ N := by
  rcases Nat.lt_or_ge N K with h | h
  · exfalso
    obtain ⟨K, rfl⟩ : ∃ k, K = k + 1 := ⟨K - 1, by omega⟩
    obtain ⟨st, hst, hg⟩ := h2 K (by omega)
    have hr : ∃ x z, x < z ∧ z < K + 2 ∧ cur p N b (K + 1) st x = cur p N b (K + 1) st z := by
      rcases Classical.em (∃ x z, x < z ∧ z < K + 2 ∧ cur p N b (K + 1) st x = cur p N b (K + 1) st z) with q | q
      · exact q
      · exfalso
        have := pigeon N (K + 2) (cur p N b (K + 1) st) (fun x z g1 g2 g3 => q ⟨x, z, g1, g2, g3⟩) fun x _ => cur_lt hN hst
        omega
    obtain ⟨a, y, hy, hr⟩ := first_rep _ hr
    obtain ⟨g1, g2, g3⟩ := ring_pays hN hst hg (by omega) hr
    exact ring_grows hN (cur_lt hN hst) g1 g2 g3 h1
  · exact h
/-- the first layer that is stable -/
theorem first_stable : ∀ K : Nat, Stable p N b K → ∃ k, k ≤ K ∧ Stable p N b k ∧ Growing p N b k
  | 0, h => ⟨0, Nat.le_refl _, h, fun k hk => absurd hk (Nat.not_lt_zero _)⟩
  | K + 1, h => by
    by_cases q : ∃ j, j ≤ K ∧ Stable p N b j
    · obtain ⟨j, hj, hs⟩ := q
      obtain ⟨k, h1, h2⟩ := first_stable j hs
      exact ⟨k, by omega, h2⟩
    · refine ⟨K + 1, Nat.le_refl _, h, fun k hk => ?_⟩
      have hn : ¬ Stable p N b k := fun z => q ⟨k, by omega, z⟩
      rcases Classical.em (∃ n, n < N ∧ Hh p N b k n < Hh p N b (k + 1) n) with g | g
      · exact g
      · exfalso
        refine hn fun n hn' => ?_
        have := Hh_mono (p := p) (N := N) (b := b) (n := n) k
        rcases Int.lt_or_le (Hh p N b k n) (Hh p N b (k + 1) n) with z | z
        · exact absurd ⟨n, hn', z⟩ g
        · omega
  termination_by K => K
theorem bd_of (hN : 0 < N) (h : Bd p N b) : ∃ k, k ≤ N ∧ Stable p N b k ∧ Growing p N b k := by
  obtain ⟨K, hK⟩ := h
  obtain ⟨k, _, h2, h3⟩ := first_stable K hK
  exact ⟨k, stable_small hN h2 h3, h2, h3⟩
theorem growing_of {K : Nat} (h : ∀ j, j < K → ¬ Stable p N b j) : Growing p N b K := fun k hk => by
  rcases Classical.em (∃ n, n < N ∧ Hh p N b k n < Hh p N b (k + 1) n) with g | g
  · exact g
  · exfalso
    refine h k hk fun n hn' => ?_
    have := Hh_mono (p := p) (N := N) (b := b) (n := n) k
    rcases Int.lt_or_le (Hh p N b k n) (Hh p N b (k + 1) n) with z | z
    · exact absurd ⟨n, hn', z⟩ g
    · omega
/-- a height is 0 or what one step pays -/
theorem Hh_step {n : Nat} : ∀ {k : Nat}, Hh p N b (k + 1) n = 0 ∨ ∃ s, s < b ∧ Hh p N b (k + 1) n = wk p N b (Hh p N b k) n s
  | 0 => by
    rcases rz_att (p := p) (N := N) (b := b) (H := Hh p N b 0) (n := n) with e | e
    · exact .inl e
    · exact .inr e
  | k + 1 => by
    rcases rz_att (p := p) (N := N) (b := b) (H := Hh p N b (k + 1)) (n := n) with e | e
    · rcases Hh_step (n := n) (k := k) with e2 | ⟨s, hs, e2⟩
      · exact .inl (e.trans e2)
      · refine .inr ⟨s, hs, ?_⟩
        have h1 : wk p N b (Hh p N b (k + 1)) n s ≤ Hh p N b (k + 2) n := rz_gew hs
        have h2 : Hh p N b (k + 2) n = Hh p N b (k + 1) n := e
        have h3 := Hh_mono (p := p) (N := N) (b := b) (n := (s + n * b) % N) k
        show Hh p N b (k + 2) n = _
        unfold wk at *
        omega
    · exact .inr e
theorem Hh_ge {n k s : Nat} (hs : s < b) : wk p N b (Hh p N b k) n s ≤ Hh p N b (k + 1) n := rz_gew hs
/-- the most of 0 and what two steps pay -/
theorem Hh_max {n k : Nat} : maxO 0 [0, wk p N 2 (Hh p N 2 k) n 0, wk p N 2 (Hh p N 2 k) n 1] = Hh p N 2 (k + 1) n := by
  have h0 := Hh_nonneg (p := p) (N := N) (b := 2) (n := n) (k := k + 1)
  have h1 := Hh_ge (p := p) (N := N) (b := 2) (n := n) (k := k) (s := 0) (by decide)
  have h2 := Hh_ge (p := p) (N := N) (b := 2) (n := n) (k := k) (s := 1) (by decide)
  have h3 : Hh p N 2 (k + 1) n = 0 ∨ Hh p N 2 (k + 1) n = wk p N 2 (Hh p N 2 k) n 0 ∨ Hh p N 2 (k + 1) n = wk p N 2 (Hh p N 2 k) n 1 := by
    rcases Hh_step (p := p) (N := N) (b := 2) (n := n) (k := k) with e | ⟨s, hs, e⟩
    · exact .inl e
    · rcases (by omega : s = 0 ∨ s = 1) with rfl | rfl
      · exact .inr (.inl e)
      · exact .inr (.inr e)
  have hm := maxO_mem (l := [0, wk p N 2 (Hh p N 2 k) n 0, wk p N 2 (Hh p N 2 k) n 1]) (by intro z; cases z)
  have g0 := maxO_le (l := [0, wk p N 2 (Hh p N 2 k) n 0, wk p N 2 (Hh p N 2 k) n 1]) (x := 0) List.mem_cons_self
  have g1 := maxO_le (l := [0, wk p N 2 (Hh p N 2 k) n 0, wk p N 2 (Hh p N 2 k) n 1]) (x := wk p N 2 (Hh p N 2 k) n 0) (List.mem_cons_of_mem _ List.mem_cons_self)
  have g2 := maxO_le (l := [0, wk p N 2 (Hh p N 2 k) n 0, wk p N 2 (Hh p N 2 k) n 1]) (x := wk p N 2 (Hh p N 2 k) n 1) (List.mem_cons_of_mem _ (List.mem_cons_of_mem _ List.mem_cons_self))
  generalize maxO 0 [0, wk p N 2 (Hh p N 2 k) n 0, wk p N 2 (Hh p N 2 k) n 1] = m at *
  have hm' : m = 0 ∨ m = wk p N 2 (Hh p N 2 k) n 0 ∨ m = wk p N 2 (Hh p N 2 k) n 1 := by simpa using hm
  omega
theorem range_two : ∀ m : Nat, (List.range m).flatMap (fun n => [2 * n, 2 * n + 1]) = List.range (2 * m)
  | 0 => rfl
  | m + 1 => by
    rw [List.range_succ, List.flatMap_append, range_two m, show 2 * (m + 1) = 2 * m + 1 + 1 by omega, List.range_succ, List.range_succ, List.append_assoc]
    rfl
theorem num_brs : ∀ w : Nat, (brs w).map num = List.range (2 ^ w)
  | 0 => rfl
  | w + 1 => by
    have e : (brs (w + 1)).map num = ((brs w).map num).flatMap fun n => [2 * n, 2 * n + 1] := by
      show ((brs w).flatMap fun r => [r ++ [0], r ++ [1]]).map num = _
      rw [List.map_flatMap, List.flatMap_map]
      congr 1
      funext r
      show [num (r ++ [0]), num (r ++ [1])] = _
      rw [num_snoc, num_snoc]
      rfl
    rw [e, num_brs w, range_two, Nat.pow_succ, Nat.mul_comm]
theorem brs_get {w i : Nat} {r : List Nat} (h : (brs w)[i]? = some r) : num r = i := by
  have e := congrArg (fun l : List Nat => l[i]?) (num_brs w)
  simp only [List.getElem?_map, h, Option.map_some] at e
  have hi : i < 2 ^ w := by
    have := (List.getElem?_eq_some_iff.mp h).1
    rwa [brs_len] at this
  rw [List.getElem?_range hi] at e
  exact Option.some.inj e
theorem brs_num {w : Nat} {r : List Nat} (h : Bits01 r) (hl : r.length = w) : num r < 2 ^ w ∧ (brs w)[num r]? = some r := by
  obtain ⟨i, hi⟩ := List.getElem?_of_mem (mem_brs.mpr ⟨h, hl⟩)
  have e := brs_get hi
  subst e
  have := (List.getElem?_eq_some_iff.mp hi).1
  rw [brs_len] at this
  exact ⟨this, hi⟩
theorem num_lt2 {r : List Nat} (h : Bits01 r) : num r < 2 ^ r.length := (brs_num h rfl).1
theorem num_app : ∀ {xs ys : List Nat}, num (xs ++ ys) = num xs * 2 ^ ys.length + num ys
  | [], ys => by rw [List.nil_append]; show num ys = 0 * _ + _; omega
  | x :: xs, ys => by
    rw [List.cons_append, num_cons, num_cons, num_app, List.length_append, Nat.pow_add, Nat.add_mul, Nat.mul_assoc]
    omega
theorem wsum_sgp : ∀ (bs : List Nat) (n : Nat), wsum p N bs n = sgp p N 2 bs n
  | [], _ => rfl
  | c :: bs, n => by
    show p (2 * n + c) + wsum p N bs ((2 * n + c) % N) = p (c + n * 2) + sgp p N 2 bs ((c + n * 2) % N)
    rw [wsum_sgp bs, show 2 * n + c = c + n * 2 by omega]
/-- the signs of a trail come first -/
theorem trail_min {F st : Nat} (hg : Hh p N 2 (F - 1) st < Hh p N 2 F st) : ∀ (m a : Nat), a + m = F → ∀ ys : List Nat, Bits01 ys → ys.length = m → sgp p N 2 ys (cur p N 2 F st a) = Hh p N 2 m (cur p N 2 F st a) →
    num ((List.range m).map fun i => sg p N 2 F st (a + i)) ≤ num ys
  | 0, a, _, ys, _, hl, _ => by
    rw [List.length_eq_zero_iff.mp hl]
    exact Nat.le_refl _
  | m + 1, a, h, y :: ys, hb, hl, he => by
    have hl' : ys.length = m := by simpa using hl
    have hy := hb y List.mem_cons_self
    have hb' : Bits01 ys := fun c hc => hb c (List.mem_cons_of_mem _ hc)
    have hgr := cur_grew hg (i := a) (by omega)
    rw [show F - a = m + 1 by omega, show F - 1 - a = m by omega] at hgr
    obtain ⟨s1, s2, s3⟩ := sgn_spec hgr
    have hs : sg p N 2 F st a = sgn p N 2 m (cur p N 2 F st a) := by
      unfold sg
      rw [show F - 1 - a = m by omega]
    have hw := walk_le (p := p) (N := N) (b := 2) (k := 0) ys ((y + cur p N 2 F st a * 2) % N) hb'
    have h00 : Hh p N 2 0 (sge N 2 ys ((y + cur p N 2 F st a * 2) % N)) = 0 := rfl
    rw [h00, hl', Nat.zero_add] at hw
    have he' : p (y + cur p N 2 F st a * 2) + sgp p N 2 ys ((y + cur p N 2 F st a * 2) % N) = Hh p N 2 (m + 1) (cur p N 2 F st a) := he
    have hwk := Hh_ge (p := p) (N := N) (b := 2) (n := cur p N 2 F st a) (k := m) hy
    have hwe : wk p N 2 (Hh p N 2 m) (cur p N 2 F st a) y = Hh p N 2 (m + 1) (cur p N 2 F st a) := by
      unfold wk at *
      omega
    have hle : sg p N 2 F st a ≤ y := by
      rcases Nat.lt_or_ge y (sg p N 2 F st a) with q | q
      · exact absurd hwe (s3 y (hs ▸ q))
      · exact q
    have e : (List.range (m + 1)).map (fun i => sg p N 2 F st (a + i)) = sg p N 2 F st a :: (List.range m).map fun i => sg p N 2 F st (a + 1 + i) := by
      rw [List.range_succ_eq_map, List.map_cons, List.map_map]
      show _ :: _ = _
      congr 1
      refine List.map_congr_left fun i _ => ?_
      show sg p N 2 F st (a + (i + 1)) = _
      rw [show a + (i + 1) = a + 1 + i by omega]
    rw [e, num_cons, num_cons, List.length_map, List.length_range, hl']
    rcases Nat.lt_or_ge (sg p N 2 F st a) y with q | q
    · have hlt : num ((List.range m).map fun i => sg p N 2 F st (a + 1 + i)) < 2 ^ m := by
        have := num_lt2 (trail_part hg m (a + 1) (by omega)).1
        rwa [List.length_map, List.length_range] at this
      have := Nat.mul_le_mul_right (2 ^ m) (show sg p N 2 F st a + 1 ≤ y by omega)
      rw [Nat.add_mul, Nat.one_mul] at this
      omega
    · have hye : y = sg p N 2 F st a := by omega
      subst hye
      have hn : (sg p N 2 F st a + cur p N 2 F st a * 2) % N = cur p N 2 F st (a + 1) := rfl
      unfold wk at hwe
      rw [hn] at he' hwe hw
      have ih := trail_min hg m (a + 1) (by omega) ys hb' hl' (by omega)
      omega
end
end MP.PG
set_option Elab.async false
set_option linter.all false
set_option maxRecDepth 100000
set_option maxHeartbeats 1000000
namespace MP.PG
open PySem PySem.Spec MP
open PyProof.Rows hiding St
open L2 hiding St r1
section
variable {s : Sto} {L : List (List Nat)} {f g : List Nat → Dv} {r : List Nat}
/-- a row as a key -/
def kT (r : List Nat) : NestedKey := .tup (r.map fun b : Nat => .num (b : Int))
theorem nks_bits : ∀ r : List Nat, nks (r.map fun b : Nat => Dv.int (b : Int)) = some (r.map fun b : Nat => NestedKey.num (b : Int))
  | [] => rfl
  | a :: r => by
    rw [List.map_cons, List.map_cons]
    unfold nks
    rw [nks_bits r]
    rfl
theorem nk_tN : nk (tN r) = some (kT r) := by
  show (nks (r.map fun b : Nat => Dv.int (b : Int))).map NestedKey.tup = _
  rw [nks_bits]
  rfl
theorem dep_bits : ∀ r : List Nat, NestedKey.depthAll (r.map fun b : Nat => NestedKey.num (b : Int)) = 0
  | [] => rfl
  | a :: r => by
    rw [List.map_cons]
    show max (NestedKey.depth (.num (a : Int))) (NestedKey.depthAll (r.map fun b : Nat => NestedKey.num (b : Int))) = 0
    rw [dep_bits r]
    rfl
theorem nkT_tN : nkT (tN r) = some (kT r) := by
  show (match nk (tN r) with | some k => if k.depth ≤ 8 then some k else none | none => none) = _
  rw [nk_tN]
  have : (kT r).depth = 1 := by
    show NestedKey.depthAll (r.map fun b : Nat => NestedKey.num (b : Int)) + 1 = 1
    rw [dep_bits]
  dsimp only
  rw [if_pos (by omega)]
theorem kT_inj {t : List Nat} (h : kT r = kT t) : r = t := by
  have h' : (r.map fun b : Nat => NestedKey.num (b : Int)) = t.map fun b : Nat => NestedKey.num (b : Int) := NestedKey.tup.inj h
  induction r generalizing t with
  | nil => cases t with
    | nil => rfl
    | cons _ _ => cases h'
  | cons a r ih => cases t with
    | nil => cases h'
    | cons c t =>
      obtain ⟨h1, h2⟩ := List.cons.inj h'
      have h3 : (a : Int) = c := NestedKey.num.inj h1
      rw [show a = c by omega, ih (t := t) (by unfold kT; rw [h2]) h2]
/-- a table of rows -/
def tbl (L : List (List Nat)) (f : List Nat → Dv) : List (Dv × Dv) := L.map fun r => (tN r, f r)
theorem tbl_keys : (tbl L f).map (·.1) = L.map tN := by unfold tbl; rw [List.map_map]; rfl
theorem tbl_vals : (tbl L f).map (·.2) = L.map f := by unfold tbl; rw [List.map_map]; rfl
theorem tbl_zip : (L.map tN).zip (L.map f) = tbl L f := by
  unfold tbl
  induction L with
  | nil => rfl
  | cons a L ih => rw [List.map_cons, List.map_cons, List.zip_cons_cons, ih, List.map_cons]
theorem val_tbl : ∀ {L : List (List Nat)}, r ∈ L → valT (tbl L f) (kT r) = some (f r)
  | [], h => nomatch h
  | a :: L, h => by
    by_cases e : a = r
    · subst e
      simp [valT, tbl, List.find?_cons, nk_tN]
    · have hm : r ∈ L := (List.mem_cons.mp h).resolve_left fun z => e z.symm
      have ih : valT (tbl L f) (kT r) = some (f r) := val_tbl hm
      have hk : ¬ kT a = kT r := fun z => e (kT_inj z)
      rw [← ih]
      simp [valT, tbl, List.find?_cons, nk_tN, hk]
theorem put_tbl {w : Dv} (h : r ∉ L) : putT (tbl L f) (tN r) (kT r) w = tbl L f ++ [(tN r, w)] := by
  unfold putT
  rw [if_neg]
  intro z
  obtain ⟨q, hq, e⟩ := List.any_eq_true.mp z
  obtain ⟨a, ha, rfl⟩ := List.mem_map.mp hq
  have e' := of_decide_eq_true e
  rw [nk_tN] at e'
  exact h (kT_inj (Option.some.inj e') ▸ ha)
theorem put_ev_T {fo fi fv : FE} {ρ : Env} {n : Nat} {y v : Dv} {k : NestedKey} {kws : List (Dv × Dv)} (h2 : fv ρ s = .ok v s) (h0 : fo ρ s = .ok (.ref n) s) (h1 : fi ρ s = .ok y s) (h3 : s[n]? = some (.dtt false kws)) (hk : nkT y = some k) (hl : kws.length < lim) :
    mDPutT fo fi fv ρ s = .nx ρ (s.set n (.dtt false (putT kws y k v))) := by
  unfold mDPutT
  rw [h2, then_ok, h0, then_ok, h1, then_ok, hk]
  dsimp only
  rw [h3]
  dsimp only
  rw [if_pos hl]
theorem dtt_ref {n : Nat} {fr : Bool} {kws : List (Dv × Dv)} (h : s[n]? = some (.dtt fr kws)) : dttOf s (.ref n) = some kws := by
  show (match s[n]? with | some (.dtt _ kws) => some kws | _ => none) = _
  rw [h]
theorem dtt_val : dttOf s (.dtt (L.map tN) (L.map f)) = some (tbl L f) := congrArg some tbl_zip
theorem ixT_ref {n : Nat} {fr : Bool} (h : s[n]? = some (.dtt fr (tbl L f))) (hr : r ∈ L) : ixDT s (.ref n) (tN r) = some (f r) := by
  unfold ixDT
  rw [dtt_ref h, nkT_tN]
  exact val_tbl hr
theorem ixT_dtt (hr : r ∈ L) : ixDT s (.dtt (L.map tN) (L.map f)) (tN r) = some (f r) := by
  unfold ixDT
  rw [dtt_val, nkT_tN]
  exact val_tbl hr
theorem len_dtt : lenT s [.dtt (L.map tN) (L.map f)] = some (.int (L.length : Int)) := by
  show (dttOf s (.dtt (L.map tN) (L.map f))).map (fun kws => Dv.int ((kws.length : Nat) : Int)) = _
  rw [dtt_val]
  show some (Dv.int (((L.map fun r => (tN r, f r)).length : Nat) : Int)) = _
  rw [List.length_map]
theorem eqT_refs {n m : Nat} {x y : Bool} {φ ψ : List Nat → Int} (h1 : s[n]? = some (.dtt x (tbl L fun r => .int (φ r)))) (h2 : s[m]? = some (.dtt y (tbl L fun r => .int (ψ r)))) : eqDT s (.ref n) (.ref m) = some (.bl (decide (L.map φ = L.map ψ))) := by
  unfold eqDT
  rw [dtt_ref h1, dtt_ref h2]
  dsimp only
  have e : ∀ φ : List Nat → Int, (L.map fun r => Dv.int (φ r)) = (L.map φ).map .int := fun φ => by rw [List.map_map]; rfl
  rw [tbl_vals, tbl_vals, e, e, intsOf_map, intsOf_map]
  dsimp only
  rw [if_pos (by rw [tbl_keys, tbl_keys])]
theorem cleans_rows (n : Nat) : ∀ L : List (List Nat), cleans n (L.map tN) = true
  | [] => rfl
  | a :: L => by
    have : ∀ l : List Nat, cleans n (l.map fun b : Nat => Dv.int (b : Int)) = true := fun l => by
      induction l with
      | nil => rfl
      | cons a l ih => show (true && cleans n (l.map fun b : Nat => Dv.int (b : Int))) = true; rw [ih]; rfl
    show (cleans n (a.map fun b : Nat => Dv.int (b : Int)) && cleans n (L.map tN)) = true
    rw [this, cleans_rows n L]
    rfl
theorem cleans_all {α : Type} {e : α → Dv} (n : Nat) : ∀ {L : List α}, (∀ a ∈ L, clean n (e a) = true) → cleans n (L.map e) = true
  | [], _ => rfl
  | a :: L, h => by
    show (clean n (e a) && cleans n (L.map e)) = true
    rw [h a List.mem_cons_self, cleans_all n fun x hx => h x (List.mem_cons_of_mem _ hx)]
    rfl
/-- a dict of the def's own is handed out -/
theorem fin_dtt {us : Sto} {i : Nat} (hs : Cl s) (h : us[i]? = some (.dtt true (tbl L f))) (hf : ∀ n, ∀ r ∈ L, clean n (f r) = true) : finC s.length (.rt (.ref (s.length + i)) (s ++ us)) = .ok (.dtt (L.map tN) (L.map f)) s := by
  refine fin_sn hs (fun z => by rw [z] at h; cases h) ?_
  have hc : clean s.length (.ref (s.length + i)) = false := decide_eq_false (by omega)
  have hg : (s ++ us)[s.length + i]? = some (.dtt true (tbl L f)) := by rw [List.getElem?_append_right (by omega), Nat.add_sub_cancel_left]; exact h
  unfold fz
  rw [if_neg (by rw [hc]; decide)]
  dsimp only
  rw [hg]
  dsimp only
  rw [tbl_keys, tbl_vals, if_pos (cleans_rows _ L), fz_cl (cleans_all _ (hf _))]
  rfl
theorem retF_ev {fo : FE} {ρ : Env} {n : Nat} {kws : List (Dv × Dv)} (h0 : fo ρ s = .ok (.ref n) s) (h : s[n]? = some (.dtt false kws)) : mRetF fo ρ s = .rt (.ref n) (s.set n (.dtt true kws)) := by
  unfold mRetF
  rw [h0, then_ok]
  dsimp only
  rw [h]
end
section
variable {o : Int} {ts : List Term} {pre os : Sto} {cs : List Int} {l p : Int}
/-- the two steps from a place -/
def stp (o : Int) (ts : List Term) (r : List Nat) : Dv := .lst ([0, 1].map fun b : Nat => .tup [.int (b : Int), .int (bpF o ts (2 * num r + b)), tN (r.tail ++ [b])])
abbrev netD (o : Int) (ts : List Term) : Dv := .dtt ((brs (wd ts)).map tN) ((brs (wd ts)).map (stp o ts))
theorem tail_num {r : List Nat} {b w : Nat} (hr : Bits01 r) (hl : r.length = w) (hw : 0 < w) (hb : b < 2) : Bits01 (r.tail ++ [b]) ∧ (r.tail ++ [b]).length = w ∧ num (r.tail ++ [b]) = (2 * num r + b) % 2 ^ w := by
  cases r with
  | nil => simp at hl; omega
  | cons a r =>
    have h1 : Bits01 (r ++ [b]) := fun c hc => by
      rcases List.mem_append.mp hc with hc | hc
      · exact hr c (List.mem_cons_of_mem _ hc)
      · rw [List.mem_singleton.mp hc]; exact hb
    have h2 : (r ++ [b]).length = w := by rw [List.length_append]; simpa using hl
    refine ⟨h1, h2, ?_⟩
    have := num_app_mod (xs := [a]) (ys := r ++ [b]) h1
    rw [h2] at this
    show num (r ++ [b]) = _
    rw [← this, ← num_snoc]
    rfl
theorem paid_one {r : List Nat} {b : Nat} (hk : ∀ t ∈ ts, TermOk t) (hr : Bits01 r) (hl : r.length = wd ts) (hb : b < 2) : pys o ts (toI (r ++ [b])) = [bpF o ts (2 * num r + b)] := by
  have h01 : Bits01 (r ++ [b]) := fun c hc => by
    rcases List.mem_append.mp hc with hc | hc
    · exact hr c hc
    · rw [List.mem_singleton.mp hc]; exact hb
  have hlen : (toI (r ++ [b])).length = wd ts + 1 := by rw [List.length_map, List.length_append, hl]; rfl
  unfold pys
  rw [hlen, Nat.add_sub_cancel_left]
  show [ps o ts (toI (r ++ [b])) (wd ts + 0)] = _
  rw [Nat.add_zero, ps_bits (b := b) hk h01 (Nat.le_refl _) (by rw [List.getElem?_append_right (by omega), hl, Nat.sub_self]; rfl), List.take_of_length_le (by rw [List.length_append, hl]; exact Nat.le_refl _)]
  have hn := num_lt2 h01
  rw [List.length_append, hl] at hn
  have hn' : num (r ++ [b]) < 2 ^ (wd ts + 1) := hn
  rw [Nat.mod_eq_of_lt hn', num_snoc]
theorem row_bits {bs : List Nat} (h : Bits01 bs) (hl : bs.length ≤ 200) : Row (toI bs) := ⟨by rw [List.length_map]; exact hl, fun i hi => by
  obtain ⟨b, hb, rfl⟩ := List.mem_map.mp hi
  have := h b hb
  omega⟩
theorem tN_toI {bs : List Nat} : tN bs = tI (toI bs) := by
  show Dv.tup _ = Dv.tup _
  rw [List.map_map]
  rfl
theorem stp_clean (n : Nat) (r : List Nat) : clean n (stp o ts r) = true := by
  have hb : ∀ r : List Nat, clean n (tN r) = true := fun r => by
    have := cleans_rows n [r]
    have h : (clean n (tN r) && true) = true := this
    rwa [Bool.and_true] at h
  show cleans n _ = true
  refine cleans_all n fun b _ => ?_
  show (true && (true && (clean n (tN (r.tail ++ [b])) && true))) = true
  rw [hb]
  rfl
theorem brs_nodup {w j : Nat} {r : List Nat} (h : (brs w)[j]? = some r) : r ∉ (brs w).take j := fun hm => by
  obtain ⟨i, hi⟩ := List.getElem?_of_mem hm
  have hlt : i < j := by
    have := (List.getElem?_eq_some_iff.mp hi).1
    rw [List.length_take] at this
    omega
  rw [List.getElem?_take_of_lt hlt] at hi
  have h1 := brs_get hi
  have h2 := brs_get h
  omega
theorem net_ok (ho : ClP pre os) (hB : Bill o ts) : g__law_net [bi o ts] (St pre os cs l p) = .ok (netD o ts) (St pre os cs l p) := by
  obtain ⟨w1, w6⟩ := wd_rng hB.ok
  have hp64 : 2 ^ wd ts ≤ 64 := Nat.le_trans (Nat.pow_le_pow_right (by decide) w6) (by decide)
  have e0 : startD 5 [bi o ts] = [some (bi o ts), none, none, none, none] := rfl
  let S := St pre os cs l p
  let nt : Option Dv := some (.ref (r1 pre os))
  let T (j : Nat) : List (Dv × Dv) := tbl ((brs (wd ts)).take j) (stp o ts)
  let Q (j : Nat) : Sto := St pre (os ++ [.dtt false (T j)]) cs l p
  have hS : Cl S := fun n => St_clean ho
  have hQc : ∀ j, ClP pre (os ++ [.dtt false (T j)]) := fun j n => ⟨(ho n).1, by
    rw [List.all_append, (ho n).2]
    show (true && ((cleans n ((T j).map (·.1)) && cleans n ((T j).map (·.2))) && true)) = true
    rw [tbl_keys, tbl_vals, cleans_rows, cleans_all n fun r _ => stp_clean n r]
    rfl⟩
  have c1 : mAsg mDctT0 (gN 1) [some (bi o ts), none, none, none, none] S = .nx [some (bi o ts), nt, none, none, none] (Q 0) := by
    show C.nx [some (bi o ts), some (.ref S.length), none, none, none] (S ++ [.dtt false []]) = _
    show C.nx [some (bi o ts), some (.ref S.length), none, none, none] (S ++ [.dtt false []]) = C.nx _ (St pre (os ++ [.dtt false (T 0)]) cs l p)
    rw [St_app]
    show _ = C.nx [some (bi o ts), some (.ref (r1 pre os)), none, none, none] _
    rw [← r1_len (cs := cs) (l := l) (p := p)]
    rfl
  have hF : F__law_net_1 [some (bi o ts), nt, none, none, none] (Q 0) = .ok { ws := (brs (wd ts)).map tN } (Q 0) := by
    have h1 : mCall (g__law_bit_rows) (mCons (mCall (g__law_wide) (mCons (mVar 0) mNil)) mNil) [some (bi o ts), nt, none, none, none] (Q 0) = .ok (.lst ((brs (wd ts)).map tN)) (Q 0) := by
      rw [call_ev, cons_v (w := .int (wd ts : Int)) (by rw [call_ev, cons_v (w := bi o ts) rfl nil_ev, bind_ok]; exact law_wide_ok hB.ok hB.two) nil_ev, bind_ok]
      exact bit_rows_ok (by omega)
    unfold F__law_net_1 iSeq
    rw [h1, bind_ok]
    rfl
  obtain ⟨ρ', s', f1, rfl, a, b, c, rfl⟩ := for_ix (g := t__law_net_1) (body := b__law_net_1)
    (fun j ρ s' => s' = Q j ∧ ∃ a b c, ρ = [some (bi o ts), nt, a, b, c]) hF ⟨rfl, _, _, _, rfl⟩ fun j x ρ s' hx hJ => by
      obtain ⟨rfl, a, b, c, rfl⟩ := hJ
      rw [List.getElem?_map] at hx
      cases hq : (brs (wd ts))[j]? with
      | none => rw [hq] at hx; cases hx
      | some r =>
        rw [hq] at hx
        cases hx
        obtain ⟨hr1, hr2⟩ := mem_brs.mp (List.mem_of_getElem? hq)
        have hj := (List.getElem?_eq_some_iff.mp hq).1
        rw [brs_len] at hj
        let E : Env := [some (bi o ts), nt, some (tN r), b, c]
        have hc : mComp cF__law_net_1 [4] ct__law_net_1 ci__law_net_1 ce__law_net_1 E (Q j) = .ok (stp o ts r) (Q j) := by
          refine comp_mapA (l := [0, 1]) (e := fun b : Nat => Dv.int (b : Int)) _ rfl (by show 2 ≤ lim; unfold lim; decide) fun d hd => ⟨[some (bi o ts), nt, some (tN r), b, some (.int (d : Int))], rfl, ?_⟩
          have hd2 : d < 2 := by
            rcases List.mem_cons.mp hd with rfl | hd
            · decide
            · rw [List.mem_singleton.mp hd]; decide
          have hadd : ∀ {t : List Nat} {f : FE} {E : Env}, t.length ≤ 100 → f E (Q j) = .ok (tN t) (Q j) → mVar 4 E (Q j) = .ok (.int (d : Int)) (Q j) → mBin addD f (mTup (mCons (mVar 4) mNil)) E (Q j) = .ok (tN (t ++ [d])) (Q j) := fun {t f E} ht hf h4 => by
            refine bin_v (x := tN t) (y := .tup [.int (d : Int)]) hf (tup_v (cons_v h4 nil_ev) (by show 1 ≤ 1000000; decide)) ((add_tup (by rw [List.length_map]; show t.length + 1 ≤ 1000000; omega)).trans ?_)
            show some (Dv.tup (_ ++ [Dv.int (d : Int)])) = some (Dv.tup ((t ++ [d]).map _))
            rw [List.map_append]
            rfl
          have hb01 : Bits01 (r ++ [d]) := fun c hc => by
            rcases List.mem_append.mp hc with hc | hc
            · exact hr1 c hc
            · rw [List.mem_singleton.mp hc]; exact hd2
          have hlen : (r ++ [d]).length = wd ts + 1 := by rw [List.length_append, hr2]; rfl
          have hpd : mCall (g__law_paid) (mCons (mVar 0) (mCons (mBin addD (mVar 2) (mTup (mCons (mVar 4) mNil))) mNil)) [some (bi o ts), nt, some (tN r), b, some (.int (d : Int))] (Q j) = .ok (lI [bpF o ts (2 * num r + d)]) (Q j) := by
            rw [call_ev, cons_v (w := bi o ts) rfl (cons_v (w := tN (r ++ [d])) (hadd (by omega) rfl rfl) nil_ev), bind_ok, tN_toI]
            have := law_paid_ok (o := o) (ts := ts) (cs := cs) (l := l) (p := p) (hQc j) hB (row_bits hb01 (by omega)) (by rw [List.length_map]; omega)
            rw [paid_one hB.ok hr1 hr2 hd2] at this
            exact this
          unfold ce__law_net_1
          refine tup_v (cons_v (w := .int (d : Int)) rfl (cons_v (w := .int (bpF o ts (2 * num r + d))) (bin_v (x := lI [bpF o ts (2 * num r + d)]) (y := .int ((0 : Nat) : Int)) hpd k_ev (ix_lst rfl)) (cons_v (w := tN (r.tail ++ [d])) (hadd (by rw [List.length_tail]; omega) ?_ rfl) nil_ev))) (by show 3 ≤ 1000000; decide)
          refine sl_v (x := tN r) rfl (part_v (i := ((1 : Nat) : Int)) k_ev) nopart_ev ?_
          rw [sl_tup, cut_from, ← List.map_drop, List.drop_one]
        have hput := put_ev_T (fo := mVar 1) (fi := mVar 2) (fv := mVar 3) (ρ := [some (bi o ts), nt, some (tN r), some (stp o ts r), c]) (s := Q j) (n := r1 pre os) (y := tN r) (v := stp o ts r) (k := kT r) (kws := T j) rfl rfl rfl at_end nkT_tN (by
          show (tbl _ _).length < lim
          unfold tbl lim
          rw [List.length_map, List.length_take]
          omega)
        refine ⟨E, [some (bi o ts), nt, some (tN r), some (stp o ts r), c], Q (j + 1), rfl, .inl ?_, rfl, _, _, _, rfl⟩
        unfold b__law_net_1
        refine seq_nx (ρ1 := [some (bi o ts), nt, some (tN r), some (stp o ts r), c]) ((asg_v hc).trans rfl) (hput.trans ?_)
        rw [put_tbl (brs_nodup hq), set_end]
        have e : T j ++ [(tN r, stp o ts r)] = T (j + 1) := by
          show tbl _ _ ++ _ = tbl _ _
          unfold tbl
          rw [List.take_succ, hq, List.map_append]
          rfl
        rw [e]
  rw [List.length_map, brs_len] at f1
  have hT : T (2 ^ wd ts) = tbl (brs (wd ts)) (stp o ts) := by
    show tbl _ _ = _
    rw [List.take_of_length_le (by rw [brs_len]; exact Nat.le_refl _)]
  unfold g__law_net d__law_net
  rw [den_ev, e0]
  refine fin_nx c1 (fin_nx f1 ?_)
  rw [retF_ev (n := r1 pre os) (kws := T (2 ^ wd ts)) rfl at_end, set_end, St_app]
  have := fin_dtt (s := S) (us := [.dtt true (tbl (brs (wd ts)) (stp o ts))]) (i := 0) hS rfl fun n r _ => stp_clean n r
  rw [Nat.add_zero, show S.length = r1 pre os from r1_len] at this
  rw [hT]
  show finC S.length _ = _
  rw [show S.length = r1 pre os from r1_len]
  exact this
end
end MP.PG
set_option Elab.async false
set_option linter.all false
set_option maxRecDepth 100000
set_option maxHeartbeats 2000000
namespace MP.PG
open PySem PySem.Spec MP
open PyProof.Rows hiding St
open L2 hiding St r1
section
variable {s : Sto} {o : Int} {ts : List Term}
/-- heights, as the law's table -/
def hT (o : Int) (ts : List Term) (k : Nat) (r : List Nat) : Dv := .int (Hh (bpF o ts) (2 ^ wd ts) 2 k (num r))
abbrev hb (o : Int) (ts : List Term) (k : Nat) : List (Dv × Dv) := tbl (brs (wd ts)) (hT o ts k)
/-- all tables so far -/
def hbs (o : Int) (ts : List Term) (k : Nat) : Sto := (List.range k).map fun i => .dtt false (hb o ts i)
theorem hbs_get {i k : Nat} (h : i < k) : (hbs o ts k)[i]? = some (.dtt false (hb o ts i)) := by
  unfold hbs
  rw [List.getElem?_map, List.getElem?_range h]
  rfl
theorem hbs_len {k : Nat} : (hbs o ts k).length = k := by unfold hbs; rw [List.length_map, List.length_range]
theorem hbs_succ {k : Nat} : hbs o ts (k + 1) = hbs o ts k ++ [.dtt false (hb o ts k)] := by
  unfold hbs
  rw [List.range_succ, List.map_append]
  rfl
theorem at_us {us : Sto} {i : Nat} {ob : Ob} (h : us[i]? = some ob) : (s ++ us)[s.length + i]? = some ob := by
  rw [List.getElem?_append_right (by omega), Nat.add_sub_cancel_left]
  exact h
theorem set_us {us : Sto} {i : Nat} {ob : Ob} : (s ++ us).set (s.length + i) ob = s ++ us.set i ob := by
  rw [List.set_append_right _ _ (by omega), Nat.add_sub_cancel_left]
theorem at_last {us : Sto} {ob : Ob} : (us ++ [ob])[us.length]? = some ob := by
  rw [List.getElem?_append_right (Nat.le_refl _), Nat.sub_self]
  rfl
theorem set_last {us : Sto} {a c : Ob} : (us ++ [a]).set us.length c = us ++ [c] := by
  rw [List.set_append_right _ _ (Nat.le_refl _), Nat.sub_self]
  rfl
theorem brs_vals {w : Nat} {φ : Nat → Int} : (brs w).map (fun r => φ (num r)) = lf (2 ^ w) φ := by
  unfold lf
  rw [← num_brs w, List.map_map]
  rfl
/-- a table is filled, key by key -/
theorem fill_ok {g : FG} {body : FS} {F : FI} {w : Nat} {φ : List Nat → Dv} {us : Sto} {ρ0 : Env} (J : Env → Prop) (hF : F ρ0 (s ++ us ++ [.dtt false []]) = .ok { ws := (brs w).map tN } (s ++ us ++ [.dtt false []])) (h0 : J ρ0) (hw : w ≤ 8)
    (h : ∀ r ∈ brs w, ∀ (j : Nat) (ρ : Env), J ρ → ∃ ρ1 fo fi fv, g (tN r) ρ (s ++ us ++ [.dtt false (tbl ((brs w).take j) φ)]) = some ρ1 ∧ body = mDPutT fo fi fv ∧ J ρ1 ∧ fo ρ1 (s ++ us ++ [.dtt false (tbl ((brs w).take j) φ)]) = .ok (.ref (s.length + us.length)) (s ++ us ++ [.dtt false (tbl ((brs w).take j) φ)]) ∧
      fi ρ1 (s ++ us ++ [.dtt false (tbl ((brs w).take j) φ)]) = .ok (tN r) (s ++ us ++ [.dtt false (tbl ((brs w).take j) φ)]) ∧ fv ρ1 (s ++ us ++ [.dtt false (tbl ((brs w).take j) φ)]) = .ok (φ r) (s ++ us ++ [.dtt false (tbl ((brs w).take j) φ)])) :
    ∃ ρ', mFor F g body ρ0 (s ++ us ++ [.dtt false []]) = .nx ρ' (s ++ us ++ [.dtt false (tbl (brs w) φ)]) ∧ J ρ' := by
  obtain ⟨ρ', s', f1, rfl, j1⟩ := for_ix (g := g) (body := body) (fun j ρ s' => s' = s ++ us ++ [.dtt false (tbl ((brs w).take j) φ)] ∧ J ρ) hF ⟨rfl, h0⟩ fun j x ρ s' hx hJ => by
    obtain ⟨rfl, hJ⟩ := hJ
    rw [List.getElem?_map] at hx
    cases hq : (brs w)[j]? with
    | none => rw [hq] at hx; cases hx
    | some r =>
      rw [hq] at hx
      cases hx
      have hj := (List.getElem?_eq_some_iff.mp hq).1
      rw [brs_len] at hj
      have hp : 2 ^ w ≤ 256 := Nat.le_trans (Nat.pow_le_pow_right (by decide) hw) (by decide)
      obtain ⟨ρ1, fo, fi, fv, h1, rfl, h2, h3, h4, h5⟩ := h r (List.mem_of_getElem? hq) j ρ hJ
      refine ⟨ρ1, ρ1, _, h1, .inl (put_ev_T h5 h3 h4 (by rw [List.append_assoc]; exact at_us at_last) nkT_tN (by
        unfold tbl lim
        rw [List.length_map, List.length_take]
        omega)), ?_, h2⟩
      rw [put_tbl (brs_nodup hq), List.append_assoc, set_us, set_last, ← List.append_assoc]
      have e : tbl ((brs w).take j) φ ++ [(tN r, φ r)] = tbl ((brs w).take (j + 1)) φ := by
        unfold tbl
        rw [List.take_succ, hq, List.map_append]
        rfl
      rw [e]
  rw [List.length_map, List.take_of_length_le (Nat.le_refl _)] at f1
  exact ⟨ρ', f1, j1⟩
abbrev be (o : Int) (ts : List Term) (s : Sto) (k : Nat) (x2 x3 x4 : Option Dv) : Env := [some (netD o ts), some (.ref (s.length + k)), x2, x3, x4, none, none, none]
/-- one turn -/
theorem best_turn {k : Nat} {x2 x3 x4 : Option Dv} (hB : Bill o ts) :
    (Stable (bpF o ts) (2 ^ wd ts) 2 k → b__law_best_3 (be o ts s k x2 x3 x4) (s ++ hbs o ts (k + 1)) = .rt (.ref (s.length + k)) (s ++ (hbs o ts (k + 2)).set k (.dtt true (hb o ts k)))) ∧
    (¬ Stable (bpF o ts) (2 ^ wd ts) 2 k → ∃ y2 y4, b__law_best_3 (be o ts s k x2 x3 x4) (s ++ hbs o ts (k + 1)) = .nx (be o ts s (k + 1) y2 x3 y4) (s ++ hbs o ts (k + 2))) := by
  obtain ⟨w1, w6⟩ := wd_rng hB.ok
  have hN : 0 < 2 ^ wd ts := Nat.two_pow_pos _
  have hp64 : 2 ^ wd ts ≤ 64 := Nat.le_trans (Nat.pow_le_pow_right (by decide) w6) (by decide)
  let E (x2 : Option Dv) : Env := [some (netD o ts), some (.ref (s.length + k)), x2, x3, some (.ref (s.length + (k + 1))), none, none, none]
  have c1 : mAsg mDctT0 (gN 4) (be o ts s k x2 x3 x4) (s ++ hbs o ts (k + 1)) = .nx (E x2) (s ++ hbs o ts (k + 1) ++ [.dtt false []]) := by
    show C.nx [some (netD o ts), some (.ref (s.length + k)), x2, x3, some (.ref (s ++ hbs o ts (k + 1)).length), none, none, none] _ = _
    rw [List.length_append, hbs_len]
  have c2 : ∃ x, mFor F__law_best_2 t__law_best_2 b__law_best_2 (E x2) (s ++ hbs o ts (k + 1) ++ [.dtt false []]) = .nx (E x) (s ++ hbs o ts (k + 1) ++ [.dtt false (hb o ts (k + 1))]) := by
    obtain ⟨ρ', f1, x, rfl⟩ := fill_ok (s := s) (g := t__law_best_2) (body := b__law_best_2) (F := F__law_best_2) (w := wd ts) (φ := hT o ts (k + 1)) (us := hbs o ts (k + 1)) (ρ0 := E x2) (fun ρ => ∃ x, ρ = E x) rfl ⟨_, rfl⟩ (by omega) fun r hr j ρ hJ => by
      obtain ⟨x, rfl⟩ := hJ
      obtain ⟨hr1, hr2⟩ := mem_brs.mp hr
      refine ⟨E (some (tN r)), _, _, _, rfl, rfl, ⟨_, rfl⟩, by rw [hbs_len]; rfl, rfl, ?_⟩
      generalize hU : (s ++ hbs o ts (k + 1) ++ [.dtt false (tbl ((brs (wd ts)).take j) (hT o ts (k + 1)))] : Sto) = U
      have hk : U[s.length + k]? = some (.dtt false (hb o ts k)) := by
        rw [← hU, List.append_assoc]
        refine at_us ?_
        rw [List.getElem?_append_left (by rw [hbs_len]; omega)]
        exact hbs_get (by omega)
      have hcF : cF__law_best_1 (E (some (tN r))) U = .ok { ws := [0, 1].map fun b : Nat => .tup [.int (b : Int), .int (bpF o ts (2 * num r + b)), tN (r.tail ++ [b])] } U := by
        have h1 : mBin ixDT (mVar 0) (mVar 2) (E (some (tN r))) U = .ok (stp o ts r) U := bin_v (x := netD o ts) (y := tN r) rfl rfl (ixT_dtt hr)
        unfold cF__law_best_1 iSeq
        rw [h1, bind_ok]
        rfl
      have hc : mComp cF__law_best_1 [5, 6, 7] ct__law_best_1 ci__law_best_1 ce__law_best_1 (E (some (tN r))) U = .ok (lI [wk (bpF o ts) (2 ^ wd ts) 2 (Hh (bpF o ts) (2 ^ wd ts) 2 k) (num r) 0, wk (bpF o ts) (2 ^ wd ts) 2 (Hh (bpF o ts) (2 ^ wd ts) 2 k) (num r) 1]) U := by
        refine (comp_mapA (l := [0, 1]) (e := fun b : Nat => Dv.tup [.int (b : Int), .int (bpF o ts (2 * num r + b)), tN (r.tail ++ [b])]) (fun b : Nat => .int (wk (bpF o ts) (2 ^ wd ts) 2 (Hh (bpF o ts) (2 ^ wd ts) 2 k) (num r) b)) hcF (by show 2 ≤ lim; unfold lim; decide) fun d hd => ?_).trans rfl
        have hd2 : d < 2 := by
          rcases List.mem_cons.mp hd with rfl | hd
          · decide
          · rw [List.mem_singleton.mp hd]; decide
        obtain ⟨t1, t2, t3⟩ := tail_num hr1 hr2 w1 hd2
        refine ⟨[some (netD o ts), some (.ref (s.length + k)), some (tN r), x3, some (.ref (s.length + (k + 1))), some (.int (d : Int)), some (.int (bpF o ts (2 * num r + d))), some (tN (r.tail ++ [d]))], rfl, ?_⟩
        unfold ce__law_best_1
        refine bin_v (x := .int (bpF o ts (2 * num r + d))) (y := .int (Hh (bpF o ts) (2 ^ wd ts) 2 k (num (r.tail ++ [d])))) rfl (bin_v (x := .ref (s.length + k)) (y := tN (r.tail ++ [d])) rfl rfl (ixT_ref (f := hT o ts k) hk (mem_brs.mpr ⟨t1, t2⟩))) ?_
        rw [add_ii, t3]
        unfold wk
        rw [show d + num r * 2 = 2 * num r + d by omega]
      have hm : mBlt maxLD (mCons (mBin addD (mLst (mCons (mK (.int 0)) mNil)) (mComp cF__law_best_1 [5, 6, 7] ct__law_best_1 ci__law_best_1 ce__law_best_1)) mNil) (E (some (tN r))) U = .ok (hT o ts (k + 1) r) U := by
        refine blt_v (cons_v (w := lI [0, wk (bpF o ts) (2 ^ wd ts) 2 (Hh (bpF o ts) (2 ^ wd ts) 2 k) (num r) 0, wk (bpF o ts) (2 ^ wd ts) 2 (Hh (bpF o ts) (2 ^ wd ts) 2 k) (num r) 1]) (bin_v (x := .lst [.int 0]) (y := lI [wk (bpF o ts) (2 ^ wd ts) 2 (Hh (bpF o ts) (2 ^ wd ts) 2 k) (num r) 0, wk (bpF o ts) (2 ^ wd ts) 2 (Hh (bpF o ts) (2 ^ wd ts) 2 k) (num r) 1]) (lst_v (cons_v k_ev nil_ev) (by show 1 ≤ 1000000; decide)) hc ((add_lst (by show 1 + 2 ≤ 1000000; decide)).trans rfl)) nil_ev) ?_
        rw [max_I (by intro z; cases z), Hh_max]
        rfl
      exact hm
    exact ⟨x, f1⟩
  obtain ⟨x, c2⟩ := c2
  have eU : s ++ hbs o ts (k + 1) ++ [.dtt false (hb o ts (k + 1))] = s ++ hbs o ts (k + 2) := by rw [hbs_succ (k := k + 1), ← List.append_assoc]
  rw [eU] at c2
  have a1 : (s ++ hbs o ts (k + 2))[s.length + (k + 1)]? = some (.dtt false (hb o ts (k + 1))) := at_us (hbs_get (by omega))
  have a0 : (s ++ hbs o ts (k + 2))[s.length + k]? = some (.dtt false (hb o ts k)) := at_us (hbs_get (by omega))
  have heq := eqT_refs (L := brs (wd ts)) (φ := fun r => Hh (bpF o ts) (2 ^ wd ts) 2 (k + 1) (num r)) (ψ := fun r => Hh (bpF o ts) (2 ^ wd ts) 2 k (num r)) a1 a0
  rw [brs_vals (φ := Hh (bpF o ts) (2 ^ wd ts) 2 (k + 1)), brs_vals (φ := Hh (bpF o ts) (2 ^ wd ts) 2 k)] at heq
  have hst : lf (2 ^ wd ts) (Hh (bpF o ts) (2 ^ wd ts) 2 (k + 1)) = lf (2 ^ wd ts) (Hh (bpF o ts) (2 ^ wd ts) 2 k) ↔ Stable (bpF o ts) (2 ^ wd ts) 2 k := by
    constructor
    · intro h n hn
      have := congrArg (fun l : List Int => l[n]?) h
      simp only [lf_get hn] at this
      exact Option.some.inj this
    · intro h
      exact lf_ext h
  have ht : mTest (mBin eqDT (mVar 4) (mVar 1)) (E x) (s ++ hbs o ts (k + 2)) = .ok (decide (lf (2 ^ wd ts) (Hh (bpF o ts) (2 ^ wd ts) 2 (k + 1)) = lf (2 ^ wd ts) (Hh (bpF o ts) (2 ^ wd ts) 2 k))) (s ++ hbs o ts (k + 2)) := test_v (bin_v (x := .ref (s.length + (k + 1))) (y := .ref (s.length + k)) rfl rfl heq)
  refine ⟨fun h => ?_, fun h => ?_⟩
  · rw [decide_eq_true (hst.mpr h)] at ht
    unfold b__law_best_3
    rw [seq_nx c1 (seq_nx c2 (rfl : _ = _)), seq_ev, ifS_t ht, retF_ev (n := s.length + k) (kws := hb o ts k) rfl a0, set_us]
    rfl
  · rw [decide_eq_false fun z => h (hst.mp z)] at ht
    refine ⟨x, some (.ref (s.length + (k + 1))), ?_⟩
    unfold b__law_best_3
    exact seq_nx c1 (seq_nx c2 (seq_nx ((ifS_f ht).trans rfl) rfl))
/-- all turns -/
theorem best_loop (hB : Bill o ts) : ∀ (xs : List Dv) (i : Nat) (x2 x3 x4 : Option Dv), (∀ j, j < i → ¬ Stable (bpF o ts) (2 ^ wd ts) 2 j) →
    (∃ k us, i ≤ k ∧ k < i + xs.length ∧ Stable (bpF o ts) (2 ^ wd ts) 2 k ∧ (∀ j, j < k → ¬ Stable (bpF o ts) (2 ^ wd ts) 2 j) ∧ forL none t__law_best_3 b__law_best_3 xs (be o ts s i x2 x3 x4) (s ++ hbs o ts (i + 1)) = .rt (.ref (s.length + k)) (s ++ us) ∧ us[k]? = some (.dtt true (hb o ts k))) ∨
    ((∀ j, j < i + xs.length → ¬ Stable (bpF o ts) (2 ^ wd ts) 2 j) ∧ ∃ ρ' us, us ≠ [] ∧ forL none t__law_best_3 b__law_best_3 xs (be o ts s i x2 x3 x4) (s ++ hbs o ts (i + 1)) = .nx ρ' (s ++ us))
  | [], i, x2, x3, x4, h => .inr ⟨h, _, hbs o ts (i + 1), (fun z => by have := congrArg List.length z; rw [hbs_len] at this; simp at this), forL_nil⟩
  | x :: xs, i, x2, x3, x4, h => by
    obtain ⟨t1, t2⟩ := best_turn (s := s) (k := i) (x2 := x2) (x3 := some x) (x4 := x4) hB
    have g1 : t__law_best_3 x (be o ts s i x2 x3 x4) (s ++ hbs o ts (i + 1)) = some (be o ts s i x2 (some x) x4) := rfl
    rcases Classical.em (Stable (bpF o ts) (2 ^ wd ts) 2 i) with q | q
    · refine .inl ⟨i, _, Nat.le_refl _, by rw [List.length_cons]; omega, q, h, forL_rt g1 (t1 q), ?_⟩
      rw [List.getElem?_set_self (by rw [hbs_len]; omega)]
    · obtain ⟨y2, y4, hb⟩ := t2 q
      have hn : ∀ j, j < i + 1 → ¬ Stable (bpF o ts) (2 ^ wd ts) 2 j := fun j hj => by
        rcases Nat.lt_or_ge j i with z | z
        · exact h j z
        · rw [show j = i by omega]; exact q
      rw [forL_nx g1 hb]
      rcases best_loop hB xs (i + 1) y2 (some x) y4 hn with ⟨k, us, k1, k2, k3⟩ | ⟨k1, k2⟩
      · exact .inl ⟨k, us, by omega, by rw [List.length_cons]; omega, k3⟩
      · exact .inr ⟨fun j hj => k1 j (by rw [List.length_cons] at hj; omega), k2⟩
/-- the law's word on heights -/
noncomputable def bestD (o : Int) (ts : List Term) : Dv := open Classical in if Bd (bpF o ts) (2 ^ wd ts) 2 then .dtt ((brs (wd ts)).map tN) ((brs (wd ts)).map (hT o ts (Kf (bpF o ts) (2 ^ wd ts) 2))) else .non
theorem best_ok (hs : Cl s) (hB : Bill o ts) : g__law_best [netD o ts] s = .ok (bestD o ts) s := by
  obtain ⟨w1, w6⟩ := wd_rng hB.ok
  have hN : 0 < 2 ^ wd ts := Nat.two_pow_pos _
  have hp64 : 2 ^ wd ts ≤ 64 := Nat.le_trans (Nat.pow_le_pow_right (by decide) w6) (by decide)
  have e0 : startD 8 [netD o ts] = [some (netD o ts), none, none, none, none, none, none, none] := rfl
  have c1 : mAsg mDctT0 (gN 1) [some (netD o ts), none, none, none, none, none, none, none] s = .nx (be o ts s 0 none none none) (s ++ [.dtt false []]) := rfl
  have c2 : ∃ x, mFor F__law_best_1 t__law_best_1 b__law_best_1 (be o ts s 0 none none none) (s ++ [.dtt false []]) = .nx (be o ts s 0 x none none) (s ++ hbs o ts 1) := by
    obtain ⟨ρ', f1, x, rfl⟩ := fill_ok (s := s) (g := t__law_best_1) (body := b__law_best_1) (F := F__law_best_1) (w := wd ts) (φ := hT o ts 0) (us := []) (ρ0 := be o ts s 0 none none none) (fun ρ => ∃ x, ρ = be o ts s 0 x none none) rfl ⟨_, rfl⟩ (by omega) fun r hr j ρ hJ => by
      obtain ⟨x, rfl⟩ := hJ
      exact ⟨be o ts s 0 (some (tN r)) none none, _, _, _, rfl, rfl, ⟨_, rfl⟩, rfl, rfl, rfl⟩
    rw [List.append_nil] at f1
    exact ⟨x, f1⟩
  obtain ⟨x, c2⟩ := c2
  have hF : F__law_best_3 (be o ts s 0 x none none) (s ++ hbs o ts 1) = .ok { ws := rng 0 (2 ^ wd ts + 1) } (s ++ hbs o ts 1) := by
    have h1 : mBin addD (mBlt lenT (mCons (mVar 0) mNil)) (mK (.int 1)) (be o ts s 0 x none none) (s ++ hbs o ts 1) = .ok (.int ((2 ^ wd ts + 1 : Nat) : Int)) (s ++ hbs o ts 1) :=
      bin_v (x := .int ((brs (wd ts)).length : Int)) (y := .int 1) (blt_v (cons_v (w := netD o ts) rfl nil_ev) len_dtt) k_ev (by rw [add_ii, brs_len]; rfl)
    have := range1_ok (fa := mCons (mBin addD (mBlt lenT (mCons (mVar 0) mNil)) (mK (.int 1))) mNil) (cons_v h1 nil_ev) (okR_s (by omega) (by omega))
    rw [Int.toNat_natCast] at this
    exact this
  have c3 : mFor F__law_best_3 t__law_best_3 b__law_best_3 (be o ts s 0 x none none) (s ++ hbs o ts 1) = forL none t__law_best_3 b__law_best_3 (rng 0 (2 ^ wd ts + 1)) (be o ts s 0 x none none) (s ++ hbs o ts (0 + 1)) := for_src hF
  unfold g__law_best d__law_best
  rw [den_ev, e0]
  refine fin_nx c1 (fin_nx c2 ?_)
  unfold bestD
  rcases best_loop (s := s) hB (rng 0 (2 ^ wd ts + 1)) 0 x none none (fun j hj => absurd hj (Nat.not_lt_zero _)) with ⟨k, us, k1, k2, k3, k4, k5, k6⟩ | ⟨k1, ρ', us, k0, k2⟩
  · rw [if_pos ⟨k, k3⟩, ← Kf_eq hN k3 (growing_of k4)]
    refine fin_rtS (c3.trans k5) ?_
    exact fin_dtt hs k6 fun n r _ => rfl
  · rw [if_neg fun ⟨K, hK⟩ => by
      obtain ⟨j, hj, h2, _⟩ := bd_of hN ⟨K, hK⟩
      exact k1 j (by rw [rng_len]; omega) h2]
    refine fin_nx (c3.trans k2) ?_
    rw [ret_v k_ev]
    refine fin_sn hs k0 ?_
    unfold fz
    exact if_pos rfl
end
end MP.PG
set_option Elab.async false
set_option linter.all false
set_option maxRecDepth 100000
set_option maxHeartbeats 1000000
namespace MP.PG
open PySem PySem.Spec MP
open PyProof.Rows hiding St
open L2 hiding St r1
section
variable {s : Sto} {g : FG} {body : FS}
/-- a walk that ends at the first thing of a kind -/
theorem forL_find {α : Type} {e v : α → Dv} (P : α → Bool) (J : Env → Prop) : ∀ {L : List α} {ρ : Env}, J ρ → (∀ a ∈ L, ∀ ρ, J ρ → ∃ ρ1, g (e a) ρ s = some ρ1 ∧ (P a = true → body ρ1 s = .rt (v a) s) ∧ (P a = false → ∃ ρ2, body ρ1 s = .nx ρ2 s ∧ J ρ2)) →
    (∃ a, L.find? P = some a ∧ forL none g body (L.map e) ρ s = .rt (v a) s) ∨ (L.find? P = none ∧ ∃ ρ', forL none g body (L.map e) ρ s = .nx ρ' s ∧ J ρ')
  | [], ρ, j, _ => .inr ⟨rfl, ρ, forL_nil, j⟩
  | a :: L, ρ, j, h => by
    obtain ⟨ρ1, g1, h1, h2⟩ := h a List.mem_cons_self ρ j
    cases hp : P a with
    | true => exact .inl ⟨a, by rw [List.find?_cons, hp], forL_rt g1 (h1 hp)⟩
    | false =>
      obtain ⟨ρ2, b1, j2⟩ := h2 hp
      rw [List.map_cons, forL_nx g1 b1, List.find?_cons, hp]
      exact forL_find P J j2 fun a ha => h a (List.mem_cons_of_mem _ ha)
theorem find_at {α : Type} {P : α → Bool} : ∀ {L : List α} {i : Nat} {a : α}, L[i]? = some a → P a = true → (∀ j b, j < i → L[j]? = some b → P b = false) → L.find? P = some a
  | [], _, _, h, _, _ => by cases h
  | x :: L, 0, a, h, hp, _ => by
    cases h
    rw [List.find?_cons, hp]
  | x :: L, i + 1, a, h, hp, hn => by
    have hx := hn 0 x (Nat.succ_pos _) rfl
    rw [List.find?_cons, hx]
    exact find_at (i := i) (by simpa using h) hp fun j b hj hb => hn (j + 1) b (by omega) (by simpa using hb)
variable {o : Int} {ts : List Term} {K : Nat}
abbrev PP (o : Int) (ts : List Term) : Nat → Int := bpF o ts
abbrev NN (ts : List Term) : Nat := 2 ^ wd ts
abbrev sts (ts : List Term) : List Nat := List.range (2 ^ wd ts)
/-- what the best rows are worth -/
def top (o : Int) (ts : List Term) (K : Nat) : Int := go (Hh (PP o ts) (NN ts) 2 K) (sts ts)
abbrev fw (o : Int) (ts : List Term) (K : Nat) : Nat := few (PP o ts) (NN ts) 2 (sts ts) K
abbrev st1 (o : Int) (ts : List Term) (K : Nat) : Nat := bs1 (PP o ts) (NN ts) 2 (sts ts) K
abbrev trl (o : Int) (ts : List Term) (K : Nat) : List Nat := (List.range (fw o ts K)).map fun i => sg (PP o ts) (NN ts) 2 (fw o ts K) (st1 o ts K) i
theorem sts_ne : sts ts ≠ [] := fun z => by
  have := congrArg List.length z
  rw [List.length_range] at this
  have := Nat.two_pow_pos (wd ts)
  simp at *
theorem head_min : ∀ {l : List Nat} {x : Nat}, l.Pairwise (· < ·) → x ∈ l → l.headD 0 ≤ x
  | [], _, _, h => nomatch h
  | a :: l, x, hp, h => by
    rcases List.mem_cons.mp h with rfl | h
    · exact Nat.le_refl _
    · exact Nat.le_of_lt ((List.pairwise_cons.mp hp).1 x h)
theorem st1_spec : st1 o ts K < NN ts ∧ Hh (PP o ts) (NN ts) 2 (fw o ts K) (st1 o ts K) = top o ts K ∧ (0 < fw o ts K → Hh (PP o ts) (NN ts) 2 (fw o ts K - 1) (st1 o ts K) < Hh (PP o ts) (NN ts) 2 (fw o ts K) (st1 o ts K)) ∧
    ∀ n, n < NN ts → Hh (PP o ts) (NN ts) 2 (fw o ts K) n = top o ts K → st1 o ts K ≤ n := by
  obtain ⟨f1, f2, f3⟩ := few_spec (p := PP o ts) (N := NN ts) (b := 2) (st := sts ts) (K := K) sts_ne
  have hmin : ∀ n, n < NN ts → Hh (PP o ts) (NN ts) 2 (fw o ts K) n = top o ts K → st1 o ts K ≤ n := fun n hn he => by
    unfold st1 bs1
    exact head_min (List.Pairwise.filter _ List.pairwise_lt_range) (List.mem_filter.mpr ⟨List.mem_range.mpr hn, decide_eq_true he⟩)
  obtain ⟨n, hn, e⟩ := go_mem (H := Hh (PP o ts) (NN ts) 2 (fw o ts K)) (sts_ne (ts := ts))
  have hne : ((sts ts).filter fun n => decide (Hh (PP o ts) (NN ts) 2 (fw o ts K) n = go (Hh (PP o ts) (NN ts) 2 K) (sts ts))) ≠ [] :=
    List.ne_nil_of_mem (List.mem_filter.mpr ⟨hn, decide_eq_true (by rw [← e, f2])⟩)
  have hmem : st1 o ts K ∈ (sts ts).filter fun n => decide (Hh (PP o ts) (NN ts) 2 (fw o ts K) n = go (Hh (PP o ts) (NN ts) 2 K) (sts ts)) := by
    unfold st1 bs1
    cases q : (sts ts).filter fun n => decide (Hh (PP o ts) (NN ts) 2 (few (PP o ts) (NN ts) 2 (sts ts) K) n = go (Hh (PP o ts) (NN ts) 2 K) (sts ts)) with
    | nil => exact absurd q hne
    | cons a l => exact List.mem_cons_self
  obtain ⟨m1, m2⟩ := List.mem_filter.mp hmem
  have m2 := of_decide_eq_true m2
  refine ⟨List.mem_range.mp m1, m2, fun h => ?_, hmin⟩
  have h1 := f3 (fw o ts K - 1) (by show fw o ts K - 1 < fw o ts K; omega)
  have h2 := go_ge (H := Hh (PP o ts) (NN ts) 2 (fw o ts K - 1)) m1
  show _ < _
  rw [m2]
  omega
theorem trl_spec : Bits01 (trl o ts K) ∧ (trl o ts K).length = fw o ts K ∧ sgp (PP o ts) (NN ts) 2 (trl o ts K) (st1 o ts K) = top o ts K := by
  obtain ⟨h1, h2, h3, h4⟩ := st1_spec (o := o) (ts := ts) (K := K)
  refine ⟨?_, by rw [List.length_map, List.length_range], ?_⟩
  · rcases Nat.eq_zero_or_pos (fw o ts K) with z | z
    · unfold trl
      rw [z]
      exact fun c hc => nomatch hc
    · have := (trail_part (h3 z) (fw o ts K) 0 (by omega)).1
      simp only [Nat.zero_add] at this
      exact this
  · rcases Nat.eq_zero_or_pos (fw o ts K) with z | z
    · rw [← h2]
      unfold trl
      rw [z]
      rfl
    · obtain ⟨_, _, t3⟩ := trail_part (h3 z) (fw o ts K) 0 (by omega)
      simp only [Nat.zero_add, Nat.sub_self, Nat.sub_zero] at t3
      have t3' : sgp (PP o ts) (NN ts) 2 (trl o ts K) (st1 o ts K) + 0 = Hh (PP o ts) (NN ts) 2 (fw o ts K) (st1 o ts K) := t3
      rw [h2, Int.add_zero] at t3'
      exact t3'
theorem brow_eq : brow o ts K = digs 2 (wd ts) (st1 o ts K) ++ trl o ts K := rfl
theorem brow_spec : Bits01 (brow o ts K) ∧ (brow o ts K).length = wd ts + fw o ts K := by
  obtain ⟨h1, h2, _⟩ := trl_spec (o := o) (ts := ts) (K := K)
  rw [brow_eq]
  refine ⟨fun c hc => ?_, by rw [List.length_append, digs_len, h2]⟩
  rcases List.mem_append.mp hc with hc | hc
  · exact digs_bits c hc
  · exact h1 c hc
/-- what a row of bits is worth -/
def wo (o : Int) (ts : List Term) (r : List Nat) : Int := (pys o ts (toI r)).sum
theorem wo_eq {r : List Nat} {m : Nat} (hk : ∀ t ∈ ts, TermOk t) (hr : Bits01 r) (hl : r.length = wd ts + m) : wo o ts r = sgp (PP o ts) (NN ts) 2 (r.drop (wd ts)) (num (r.take (wd ts))) ∧ num (r.take (wd ts)) < NN ts ∧ (r.drop (wd ts)).length = m ∧ num r = num (r.take (wd ts)) * 2 ^ m + num (r.drop (wd ts)) := by
  have h1 : Bits01 (r.take (wd ts)) := fun c hc => hr c (List.mem_of_mem_take hc)
  have h2 : Bits01 (r.drop (wd ts)) := fun c hc => hr c (List.mem_of_mem_drop hc)
  have hl1 : (r.take (wd ts)).length = wd ts := by rw [List.length_take]; omega
  have hl2 : (r.drop (wd ts)).length = m := by rw [List.length_drop]; omega
  have hw := worth_bits (o := o) hk h1 h2 hl1
  rw [List.take_append_drop] at hw
  have hn := num_lt2 h1
  rw [hl1] at hn
  have ha := num_app (xs := r.take (wd ts)) (ys := r.drop (wd ts))
  rw [List.take_append_drop, hl2] at ha
  exact ⟨by unfold wo; rw [hw, wsum_sgp], hn, hl2, ha⟩
theorem wo_le {r : List Nat} {m : Nat} (hk : ∀ t ∈ ts, TermOk t) (hr : Bits01 r) (hl : r.length = wd ts + m) : wo o ts r ≤ Hh (PP o ts) (NN ts) 2 m (num (r.take (wd ts))) ∧ wo o ts r ≤ go (Hh (PP o ts) (NN ts) 2 m) (sts ts) := by
  obtain ⟨e1, e2, e3, _⟩ := wo_eq (o := o) hk hr hl
  have h2 : Bits01 (r.drop (wd ts)) := fun c hc => hr c (List.mem_of_mem_drop hc)
  have hw := walk_le (p := PP o ts) (N := NN ts) (b := 2) (k := 0) (r.drop (wd ts)) (num (r.take (wd ts))) h2
  rw [e3, Nat.zero_add] at hw
  have h0 : ∀ n, Hh (PP o ts) (NN ts) 2 0 n = 0 := fun n => rfl
  rw [h0] at hw
  have hg : Hh (PP o ts) (NN ts) 2 m (num (r.take (wd ts))) ≤ go (Hh (PP o ts) (NN ts) 2 m) (sts ts) := go_ge (List.mem_range.mpr e2)
  rw [e1]
  exact ⟨by omega, by omega⟩
theorem wo_brow (hk : ∀ t ∈ ts, TermOk t) : wo o ts (brow o ts K) = top o ts K ∧ num (brow o ts K) = st1 o ts K * 2 ^ fw o ts K + num (trl o ts K) := by
  obtain ⟨b1, b2⟩ := brow_spec (o := o) (ts := ts) (K := K)
  obtain ⟨t1, t2, t3⟩ := trl_spec (o := o) (ts := ts) (K := K)
  obtain ⟨s1, _⟩ := st1_spec (o := o) (ts := ts) (K := K)
  obtain ⟨e1, e2, e3, e4⟩ := wo_eq (o := o) hk b1 b2
  have ht : (brow o ts K).take (wd ts) = digs 2 (wd ts) (st1 o ts K) := by
    rw [brow_eq]
    exact List.take_left' digs_len
  have hd : (brow o ts K).drop (wd ts) = trl o ts K := by
    rw [brow_eq]
    exact List.drop_left' digs_len
  rw [ht, hd, num_digs s1] at e1 e4
  exact ⟨e1.trans t3, e4⟩
/-- shorter rows are worth less -/
theorem short_less {r : List Nat} {m : Nat} (hk : ∀ t ∈ ts, TermOk t) (hr : Bits01 r) (hl : r.length = wd ts + m) (hm : m < fw o ts K) : wo o ts r ≠ top o ts K := by
  obtain ⟨f1, f2, f3⟩ := few_spec (p := PP o ts) (N := NN ts) (b := 2) (st := sts ts) (K := K) sts_ne
  have := f3 m hm
  have := (wo_le (o := o) hk hr hl).2
  unfold top
  omega
/-- of those as long the best row comes first -/
theorem first_brow {r : List Nat} (hk : ∀ t ∈ ts, TermOk t) (hr : Bits01 r) (hl : r.length = wd ts + fw o ts K) (hw : wo o ts r = top o ts K) : num (brow o ts K) ≤ num r := by
  obtain ⟨f1, f2, f3⟩ := few_spec (p := PP o ts) (N := NN ts) (b := 2) (st := sts ts) (K := K) sts_ne
  obtain ⟨s1, s2, s3, s4⟩ := st1_spec (o := o) (ts := ts) (K := K)
  obtain ⟨t1, t2, t3⟩ := trl_spec (o := o) (ts := ts) (K := K)
  obtain ⟨e1, e2, e3, e4⟩ := wo_eq (o := o) hk hr hl
  have hle := (wo_le (o := o) hk hr hl).1
  have hg : Hh (PP o ts) (NN ts) 2 (fw o ts K) (num (r.take (wd ts))) ≤ go (Hh (PP o ts) (NN ts) 2 (fw o ts K)) (sts ts) := go_ge (List.mem_range.mpr e2)
  have htop : go (Hh (PP o ts) (NN ts) 2 (fw o ts K)) (sts ts) = top o ts K := f2
  have heq : Hh (PP o ts) (NN ts) 2 (fw o ts K) (num (r.take (wd ts))) = top o ts K := by omega
  have hs := s4 _ e2 heq
  rw [(wo_brow (K := K) hk).2, e4]
  have hlt := num_lt2 t1
  rw [t2] at hlt
  rcases Nat.lt_or_ge (st1 o ts K) (num (r.take (wd ts))) with q | q
  · have hm := Nat.mul_le_mul_right (2 ^ fw o ts K) (show st1 o ts K + 1 ≤ num (r.take (wd ts)) by omega)
    rw [Nat.add_mul, Nat.one_mul] at hm
    generalize 2 ^ fw o ts K = Z at *
    omega
  · have hn : num (r.take (wd ts)) = st1 o ts K := by omega
    rw [hn] at e1 heq ⊢
    rcases Nat.eq_zero_or_pos (fw o ts K) with z | z
    · have : (trl o ts K).length = 0 := t2.trans z
      rw [List.length_eq_zero_iff.mp this]
      show _ + 0 ≤ _
      omega
    · have := trail_min (s3 z) (fw o ts K) 0 (by omega) (r.drop (wd ts)) (fun c hc => hr c (List.mem_of_mem_drop hc)) e3 (by
        show sgp _ _ 2 _ (st1 o ts K) = Hh _ _ 2 (fw o ts K) (st1 o ts K)
        rw [← e1, hw, s2])
      simp only [Nat.zero_add] at this
      have this : num (trl o ts K) ≤ num (r.drop (wd ts)) := this
      omega
/-- the law's search -/
theorem find_row (hk : ∀ t ∈ ts, TermOk t) : (brs (wd ts + fw o ts K)).find? (fun r => decide (wo o ts r = top o ts K)) = some (brow o ts K) ∧ ∀ m, m < fw o ts K → (brs (wd ts + m)).find? (fun r => decide (wo o ts r = top o ts K)) = none := by
  obtain ⟨b1, b2⟩ := brow_spec (o := o) (ts := ts) (K := K)
  refine ⟨find_at (brs_num b1 b2).2 (decide_eq_true (wo_brow hk).1) fun j c hj hc => decide_eq_false fun hw => ?_, fun m hm => ?_⟩
  · obtain ⟨c1, c2⟩ := mem_brs.mp (List.mem_of_getElem? hc)
    have := first_brow (K := K) hk c1 c2 hw
    have := brs_get hc
    omega
  · refine List.find?_eq_none.mpr fun r hr => ?_
    obtain ⟨r1, r2⟩ := mem_brs.mp hr
    rw [decide_eq_false (short_less hk r1 r2 hm)]
    exact Bool.false_ne_true
theorem fw_le : fw o ts K ≤ K := (few_spec (p := PP o ts) (N := NN ts) (b := 2) (st := sts ts) (K := K) sts_ne).1
theorem top_lf : top o ts K = maxO 0 (lf (2 ^ wd ts) (Hh (bpF o ts) (2 ^ wd ts) 2 K)) := rfl
theorem top_nonneg : 0 ≤ top o ts K := by
  have : Hh (PP o ts) (NN ts) 2 K 0 ≤ go (Hh (PP o ts) (NN ts) 2 K) (sts ts) := go_ge (List.mem_range.mpr (Nat.two_pow_pos _))
  have := Hh_nonneg (p := PP o ts) (N := NN ts) (b := 2) (n := 0) (k := K)
  unfold top
  omega
/-- no row of bits is worth more than the top of stable heights -/
theorem wo_top {r : List Nat} (hk : ∀ t ∈ ts, TermOk t) (hst : Stable (PP o ts) (NN ts) 2 K) (hr : Bits01 r) (hl : wd ts ≤ r.length) : wo o ts r ≤ top o ts K := by
  obtain ⟨e1, e2, _⟩ := wo_eq (o := o) (m := r.length - wd ts) hk hr (by omega)
  have hle := (wo_le (o := o) (m := r.length - wd ts) hk hr (by omega)).1
  have h1 : Hh (PP o ts) (NN ts) 2 (r.length - wd ts) (num (r.take (wd ts))) ≤ Hh (PP o ts) (NN ts) 2 (K + (r.length - wd ts)) (num (r.take (wd ts))) := Hh_le (by omega)
  have h1' : Hh (PP o ts) (NN ts) 2 (K + (r.length - wd ts)) (num (r.take (wd ts))) = Hh (PP o ts) (NN ts) 2 K (num (r.take (wd ts))) := stable_on (Nat.two_pow_pos _) hst _ _ e2
  have hg : Hh (PP o ts) (NN ts) 2 K (num (r.take (wd ts))) ≤ go (Hh (PP o ts) (NN ts) 2 K) (sts ts) := go_ge (List.mem_range.mpr e2)
  unfold top
  omega
/-- the best row, as the program tells it -/
noncomputable def brD (o : Int) (ts : List Term) : Dv := open Classical in if Bd (bpF o ts) (2 ^ wd ts) 2 then tN (brow o ts (Kf (bpF o ts) (2 ^ wd ts) 2)) else .non
theorem best_row_ok (hs : Cl s) (hB : Bill o ts) : g_best_row [bi o ts] s = .ok (brD o ts) s := by
  have hN : 0 < 2 ^ wd ts := Nat.two_pow_pos _
  obtain ⟨w1, w6⟩ := wd_rng hB.ok
  have hN2 := pow2 w6
  obtain ⟨v, hc, hv⟩ := climb2 (s := s) hs hB
  let P : Dv := lI (lf (2 ^ (wd ts + 1)) (bpF o ts))
  have e0 : startD 4 [bi o ts] = [some (bi o ts), none, none, none] := rfl
  have c1 : mAsg (mCall (g_bit_pays) (mCons (mCall (g_need_bill) (mCons (mVar 0) mNil)) mNil)) (gN 1) [some (bi o ts), none, none, none] s = .nx [some (bi o ts), some P, none, none] s := by
    refine (asg_v (w := P) ?_).trans rfl
    rw [call_ev, cons_v (w := bi o ts) (by rw [call_ev, cons_v (w := bi o ts) rfl nil_ev, bind_ok]; exact need_bill_ok hB) nil_ev, bind_ok]
    exact bit_pays_ok hs hB
  have hcl : mCall (g_climb) (mCons (mVar 1) (mCons (mK (.int 2)) mNil)) [some (bi o ts), some P, none, none] s = .ok v s := by
    rw [call_ev, cons_v (w := P) rfl (cons_v k_ev nil_ev), bind_ok]
    exact hv
  unfold g_best_row d_best_row
  rw [den_ev, e0]
  unfold brD
  rcases ce_bd hN hc with ⟨K, rfl, h1, h2, h3⟩ | ⟨h1, u, rfl⟩
  · have c2 : mAsg (mCall (g_climb) (mCons (mVar 1) (mCons (mK (.int 2)) mNil))) (gT 2 (gsC (gN 2) (gsC (gN 3) gs0))) [some (bi o ts), some P, none, none] s = .nx [some (bi o ts), some P, some (.lst (LY (bpF o ts) (2 ^ wd ts) 2 K)), some .non] s := asg_gv hcl rfl
    rw [if_pos ⟨K, h1⟩, ← Kf_eq hN h1 h2]
    refine fin_nx c1 (fin_nx c2 (fin_nx ((ifS_f (test_v (bin_v (x := .non) (y := .non) rfl rfl isnt_nn))).trans rfl) ?_))
    have hr : mCall (g_best_row_of) (mCons (mVar 0) (mCons (mVar 1) (mCons (mVar 2) mNil))) [some (bi o ts), some P, some (.lst (LY (bpF o ts) (2 ^ wd ts) 2 K)), some .non] s = .ok (tN (brow o ts K)) s := by
      rw [call_ev, cons_v (w := bi o ts) rfl (cons_v (w := P) rfl (cons_v (w := .lst (LY (bpF o ts) (2 ^ wd ts) 2 K)) rfl nil_ev)), bind_ok]
      exact row_of_ok hs hB (by omega)
    rw [ret_v hr]
    exact finC_rt
  · have c2 : mAsg (mCall (g_climb) (mCons (mVar 1) (mCons (mK (.int 2)) mNil))) (gT 2 (gsC (gN 2) (gsC (gN 3) gs0))) [some (bi o ts), some P, none, none] s = .nx [some (bi o ts), some P, some .non, some (.tup u)] s := asg_gv hcl rfl
    rw [if_neg h1]
    refine fin_nx c1 (fin_nx c2 (fin_rtS ((ifS_t (test_v (bin_v (x := .tup u) (y := .non) rfl rfl rfl))).trans (ret_v k_ev)) finC_rt))
end
end MP.PG
set_option Elab.async false
set_option linter.all false
set_option maxRecDepth 100000
set_option maxHeartbeats 1000000
namespace MP.PG
open PySem PySem.Spec MP
open PyProof.Rows hiding St
open L2 hiding St r1
section
variable {s : Sto} {o : Int} {ts : List Term} {ns os : List Int}
def lyN (lev : Int) (ns : List Int) : List Nat := ns.map fun n => if lev ≤ n then 1 else 0
theorem lyN_bits {lev : Int} : Bits01 (lyN lev ns) := fun c hc => by
  obtain ⟨n, _, rfl⟩ := List.mem_map.mp hc
  split <;> decide
theorem lay_toI {lev : Int} : lay lev ns = toI (lyN lev ns) := by
  unfold lay lyN toI
  rw [List.map_map]
  refine List.map_congr_left fun n _ => ?_
  show at1 lev n = (((if lev ≤ n then 1 else 0 : Nat)) : Int)
  unfold at1
  split <;> rfl
theorem lyN_len {lev : Int} : (lyN lev ns).length = ns.length := List.length_map _
end
end MP.PG
set_option Elab.async false
set_option linter.all false
set_option maxRecDepth 100000
set_option maxHeartbeats 1000000
namespace MP.PG
open PySem PySem.Spec MP
open PyProof.Rows hiding St
open L2 hiding St r1
section
variable {s : Sto} {o : Int} {ts : List Term} {K : Nat}
theorem rows_le {ns : List Int} {M : Nat} (hk : ∀ t ∈ ts, TermOk t) (hst : Stable (PP o ts) (NN ts) 2 K) (hn : ∀ n ∈ ns, 0 ≤ n ∧ n ≤ M) (hl : wd ts ≤ ns.length) : (pys o ts ns).sum ≤ (M : Int) * top o ts K := by
  have hL : ∀ n ∈ ns, SL (ul M) (fun q => at1 q.1 n) = n := fun n h => by
    have := hn n h
    rw [ul_val this.1, if_pos this.2]
  rw [← pys_lay hL]
  have := ul_le (g := top o ts K) top_nonneg (x := 0) (y := M) (Nat.zero_le _) (M := M) (f := fun q => (pys o ts (lay q.1 ns)).sum) fun i hi => by
    rw [if_pos ⟨Nat.zero_le _, hi⟩]
    dsimp only
    rw [lay_toI]
    exact wo_top hk hst lyN_bits (by rw [lyN_len]; exact hl)
  rw [Nat.min_self, Nat.min_zero, Nat.sub_zero] at this
  exact this
theorem rA_ne {f g : FE} {ρ : Env} {s1 : Sto} {w : Dv} (h1 : f ρ s = .ok w s1) (h2 : g ρ s1 = .ok w s1) (r : ∃ t, reprA s1 [w] = some (.str t)) : mTest (mBin neD (mBlt reprA (mCons f mNil)) (mBlt reprA (mCons g mNil))) ρ s = .ok false s1 := by
  obtain ⟨t, ht⟩ := r
  exact test_v (bin_v (x := .str t) (y := .str t) (blt_v (cons_v h1 nil_ev) ht) (blt_v (cons_v h2 nil_ev) ht) (ne_of_eq eq_refl_ss))
theorem pl_tN {l : List Nat} (hl : l.length ≤ 100) (hb : Bits01 l) : Pl 101 1 (tN l) (.tuple ((toI l).map .int)) := by
  rw [tN_toI]
  refine (pl_tI (ns := toI l) fun i hi => ?_).mono (by rw [List.length_map]; omega) (Nat.le_refl _)
  obtain ⟨b, hb', rfl⟩ := List.mem_map.mp hi
  have := hb b hb'
  exact smN (by omega)
/-- a row of bits is worth no more than its length tells -/
theorem wo_abs {r : List Nat} (hB : Bill o ts) (hr : Bits01 r) (hl : r.length ≤ 100) : (wo o ts r).natAbs ≤ 3000000000000 := by
  have := sum_abs (pys_abs hB (row_bits hr (by omega)))
  rw [pys_len, List.length_map] at this
  unfold wo
  have h2 : (r.length - wd ts) * 30000000000 ≤ 100 * 30000000000 := Nat.mul_le_mul_right _ (by omega)
  omega
theorem top_abs (hB : Bill o ts) (hK : K ≤ 64) : (top o ts K).natAbs ≤ 3000000000000 := by
  obtain ⟨w1, w6⟩ := wd_rng hB.ok
  obtain ⟨b1, b2⟩ := brow_spec (o := o) (ts := ts) (K := K)
  have := fw_le (o := o) (ts := ts) (K := K)
  rw [← (wo_brow (K := K) hB.ok).1]
  exact wo_abs hB b1 (by omega)
theorem Kf_le (hB : Bill o ts) (h : Bd (bpF o ts) (2 ^ wd ts) 2) : Stable (PP o ts) (NN ts) 2 (Kf (bpF o ts) (2 ^ wd ts) 2) ∧ Kf (bpF o ts) (2 ^ wd ts) 2 ≤ 2 ^ wd ts := by
  obtain ⟨k, h1, h2, h3⟩ := bd_of (Nat.two_pow_pos _) h
  rw [← Kf_eq (Nat.two_pow_pos _) h2 h3]
  exact ⟨h2, h1⟩
theorem wd_le {m : Int} (hk : ∀ t ∈ ts, TermOk t) (h : ∀ t ∈ ts, (t.rs.length : Int) ≤ m) (hm : 1 ≤ m) : (wd ts : Int) ≤ m := by
  rw [← wd_int hk]
  have key : ∀ {l : List Int}, (∀ n ∈ l, n ≤ m) → maxO 1 l ≤ m := fun {l} hl => by
    cases l with
    | nil => exact hm
    | cons a l =>
      have e : maxO 1 (a :: l) = maxO 0 (a :: l) := rfl
      rw [e]
      exact hl _ (maxO_mem (by intro z; cases z))
  refine key fun n hn => ?_
  obtain ⟨t, ht, rfl⟩ := List.mem_map.mp hn
  exact h t ht
end
end MP.PG
set_option Elab.async false
set_option linter.all false
set_option maxRecDepth 100000
set_option maxHeartbeats 4000000
namespace MP.K08
open PySem PySem.Spec PyProof.Rows L2 MP MP.PG
def topS (i : Nat) : Stmt := PySem.Challenge.pw_bestoflast_k08_whole_bounds.main.body.getD i (.Pass ⟨0, 0, 0, 0⟩)
structure Ns (Γ : Ct) (mg : Str → Option Value) : Prop where
  n_divmod : mg "divmod" = none
  n_enumerate : mg "enumerate" = none
  n_int : mg "int" = none
  n_isinstance : mg "isinstance" = none
  n_len : mg "len" = none
  n_list : mg "list" = none
  n_max : mg "max" = none
  n_min : mg "min" = none
  n_range : mg "range" = none
  n_repr : mg "repr" = none
  n_reversed : mg "reversed" = none
  n_sorted : mg "sorted" = none
  n_sum : mg "sum" = none
  n_tuple : mg "tuple" = none
  n_zip : mg "zip" = none
  c_BITS : ∃ u, mg "BITS" = some u ∧ KRV Γ.K (.tup [.int 0, .int 1]) u
  c_GREATEST_FACTOR : ∃ t, mg "GREATEST_FACTOR" = some (.int 50 t)
  c_GREATEST_RESULT : ∃ t, mg "GREATEST_RESULT" = some (.int 1000000 t)
  c_GREATEST_WEIGHT : ∃ t, mg "GREATEST_WEIGHT" = some (.int 20 t)
  c_MOST_RESULTS : ∃ t, mg "MOST_RESULTS" = some (.int 200 t)
  c_MOST_TERMS : ∃ t, mg "MOST_TERMS" = some (.int 2 t)
  c_MOST_WEIGHTS : ∃ t, mg "MOST_WEIGHTS" = some (.int 6 t)
  c_OF_BITS : ∃ t, mg "OF_BITS" = some (.int 2 t)
abbrev s_is_int : Stmt := topS 6
theorem sc_is_int : FnScope ["thing"] ["thing"] (defScope s_is_int) := ⟨rfl, rfl, rfl, by decide +kernel, rfl, by decide +kernel, by decide +kernel⟩
abbrev s_is_int_within : Stmt := topS 7
theorem sc_is_int_within : FnScope ["thing", "least", "most"] ["thing", "least", "most"] (defScope s_is_int_within) := ⟨rfl, rfl, rfl, by decide +kernel, rfl, by decide +kernel, by decide +kernel⟩
abbrev s_is_tuple : Stmt := topS 8
theorem sc_is_tuple : FnScope ["thing", "least", "most"] ["thing", "least", "most"] (defScope s_is_tuple) := ⟨rfl, rfl, rfl, by decide +kernel, rfl, by decide +kernel, by decide +kernel⟩
abbrev s_first_outside : Stmt := topS 9
theorem sc_first_outside : FnScope ["things", "least", "most", "number", "thing"] ["things", "least", "most"] (defScope s_first_outside) := ⟨rfl, rfl, rfl, by decide +kernel, rfl, by decide +kernel, by decide +kernel⟩
abbrev s_need_rule : Stmt := topS 15
theorem sc_need_rule : FnScope ["thing", "number"] ["thing"] (defScope s_need_rule) := ⟨rfl, rfl, rfl, by decide +kernel, rfl, by decide +kernel, by decide +kernel⟩
abbrev s_is_rule : Stmt := topS 16
theorem sc_is_rule : FnScope ["thing"] ["thing"] (defScope s_is_rule) := ⟨rfl, rfl, rfl, by decide +kernel, rfl, by decide +kernel, by decide +kernel⟩
abbrev s_need_row : Stmt := topS 17
theorem sc_need_row : FnScope ["thing", "number"] ["thing"] (defScope s_need_row) := ⟨rfl, rfl, rfl, by decide +kernel, rfl, by decide +kernel, by decide +kernel⟩
abbrev s_need_row_of : Stmt := topS 18
theorem sc_need_row_of : FnScope ["thing", "least"] ["thing", "least"] (defScope s_need_row_of) := ⟨rfl, rfl, rfl, by decide +kernel, rfl, by decide +kernel, by decide +kernel⟩
abbrev s_index_of : Stmt := topS 19
theorem sc_index_of : FnScope ["rule", "results", "last", "weight", "result"] ["rule", "results"] (defScope s_index_of) := ⟨rfl, rfl, rfl, by decide +kernel, rfl, by decide +kernel, by decide +kernel⟩
abbrev s_indexes_by_ones : Stmt := topS 20
theorem sc_indexes_by_ones : FnScope ["rule", "told", "weight"] ["rule"] (defScope s_indexes_by_ones) := ⟨rfl, rfl, rfl, by decide +kernel, rfl, by decide +kernel, by decide +kernel⟩
abbrev s_is_factor : Stmt := topS 24
theorem sc_is_factor : FnScope ["thing"] ["thing"] (defScope s_is_factor) := ⟨rfl, rfl, rfl, by decide +kernel, rfl, by decide +kernel, by decide +kernel⟩
abbrev s_is_term : Stmt := topS 25
theorem sc_is_term : FnScope ["thing", "rule", "ahead", "behind"] ["thing"] (defScope s_is_term) := ⟨rfl, rfl, rfl, by decide +kernel, rfl, by decide +kernel, by decide +kernel⟩
abbrev s_need_bill : Stmt := topS 26
theorem sc_need_bill : FnScope ["thing", "own", "terms", "number", "term"] ["thing"] (defScope s_need_bill) := ⟨rfl, rfl, rfl, by decide +kernel, rfl, by decide +kernel, by decide +kernel⟩
abbrev s_width_of : Stmt := topS 27
theorem sc_width_of : FnScope ["bill", "term"] ["bill"] (defScope s_width_of) := ⟨rfl, rfl, rfl, by decide +kernel, rfl, by decide +kernel, by decide +kernel⟩
abbrev s_last_pay : Stmt := topS 28
theorem sc_last_pay : FnScope ["bill", "results", "own", "terms", "before", "parts", "rule", "ahead", "behind"] ["bill", "results"] (defScope s_last_pay) := ⟨rfl, rfl, rfl, by decide +kernel, rfl, by decide +kernel, by decide +kernel⟩
abbrev s_pays_of : Stmt := topS 29
theorem sc_pays_of : FnScope ["bill", "results", "wide", "at"] ["bill", "results"] (defScope s_pays_of) := ⟨rfl, rfl, rfl, by decide +kernel, rfl, by decide +kernel, by decide +kernel⟩
abbrev s_pays : Stmt := topS 30
theorem sc_pays : FnScope ["bill", "row"] ["bill", "row"] (defScope s_pays) := ⟨rfl, rfl, rfl, by decide +kernel, rfl, by decide +kernel, by decide +kernel⟩
abbrev s_worth : Stmt := topS 31
theorem sc_worth : FnScope ["bill", "row"] ["bill", "row"] (defScope s_worth) := ⟨rfl, rfl, rfl, by decide +kernel, rfl, by decide +kernel, by decide +kernel⟩
abbrev s_signs_of : Stmt := topS 35
theorem sc_signs_of : FnScope ["number", "signs", "wide", "told", "_", "figure"] ["number", "signs", "wide"] (defScope s_signs_of) := ⟨rfl, rfl, rfl, by decide +kernel, rfl, by decide +kernel, by decide +kernel⟩
abbrev s_ones_of : Stmt := topS 36
theorem sc_ones_of : FnScope ["wide", "ones", "_", "many"] ["wide"] (defScope s_ones_of) := ⟨rfl, rfl, rfl, by decide +kernel, rfl, by decide +kernel, by decide +kernel⟩
abbrev s_term_pays : Stmt := topS 37
theorem sc_term_pays : FnScope ["term", "wide", "rule", "ahead", "behind", "told", "indexes", "fronts", "pays", "ones", "index", "_", "front", "back"] ["term", "wide"] (defScope s_term_pays) := ⟨rfl, rfl, rfl, by decide +kernel, rfl, by decide +kernel, by decide +kernel⟩
abbrev s_bit_pays : Stmt := topS 38
theorem sc_bit_pays : FnScope ["bill", "own", "terms", "wide", "pays", "term", "paid", "more"] ["bill"] (defScope s_bit_pays) := ⟨rfl, rfl, rfl, by decide +kernel, rfl, by decide +kernel, by decide +kernel⟩
abbrev s_raised : Stmt := topS 40
theorem sc_raised : FnScope ["pays", "heights", "base", "higher", "walks", "sign", "pay", "behind", "one", "two"] ["pays", "heights", "base"] (defScope s_raised) := ⟨rfl, rfl, rfl, by decide +kernel, rfl, by decide +kernel, by decide +kernel⟩
abbrev s_trail : Stmt := topS 41
theorem sc_trail : FnScope ["pays", "layers", "start", "base", "number", "numbers", "signs", "level", "lower", "window"] ["pays", "layers", "start", "base"] (defScope s_trail) := ⟨rfl, rfl, rfl, by decide +kernel, rfl, by decide +kernel, by decide +kernel⟩
abbrev s_ring_on : Stmt := topS 42
theorem sc_ring_on : FnScope ["numbers", "signs", "seen", "at", "number"] ["numbers", "signs"] (defScope s_ring_on) := ⟨rfl, rfl, rfl, by decide +kernel, rfl, by decide +kernel, by decide +kernel⟩
abbrev s_ring_of_one : Stmt := topS 43
theorem sc_ring_of_one : FnScope ["pays", "base", "ones", "sign"] ["pays", "base"] (defScope s_ring_of_one) := ⟨rfl, rfl, rfl, by decide +kernel, rfl, by decide +kernel, by decide +kernel⟩
abbrev s_steepest : Stmt := topS 44
theorem sc_steepest : FnScope ["layers", "grown", "height", "lower"] ["layers"] (defScope s_steepest) := ⟨rfl, rfl, rfl, by decide +kernel, rfl, by decide +kernel, by decide +kernel⟩
abbrev s_climb : Stmt := topS 45
theorem sc_climb : FnScope ["pays", "base", "ring", "layers", "look", "heights", "numbers", "signs"] ["pays", "base"] (defScope s_climb) := ⟨rfl, rfl, rfl, by decide +kernel, rfl, by decide +kernel, by decide +kernel⟩
abbrev s_greatest_of : Stmt := topS 46
theorem sc_greatest_of : FnScope ["heights", "starts", "start"] ["heights", "starts"] (defScope s_greatest_of) := ⟨rfl, rfl, rfl, by decide +kernel, rfl, by decide +kernel, by decide +kernel⟩
abbrev s_best_walk : Stmt := topS 47
theorem sc_best_walk : FnScope ["pays", "layers", "starts", "base", "top", "fewest", "best_starts", "_", "signs", "start"] ["pays", "layers", "starts", "base"] (defScope s_best_walk) := ⟨rfl, rfl, rfl, by decide +kernel, rfl, by decide +kernel, by decide +kernel⟩
abbrev s_is_bounded : Stmt := topS 49
theorem sc_is_bounded : FnScope ["bill", "_", "ring"] ["bill"] (defScope s_is_bounded) := ⟨rfl, rfl, rfl, by decide +kernel, rfl, by decide +kernel, by decide +kernel⟩
abbrev s_greatest : Stmt := topS 50
theorem sc_greatest : FnScope ["bill", "layers", "ring"] ["bill"] (defScope s_greatest) := ⟨rfl, rfl, rfl, by decide +kernel, rfl, by decide +kernel, by decide +kernel⟩
abbrev s_best_row_of : Stmt := topS 51
theorem sc_best_row_of : FnScope ["bill", "pays", "layers", "start", "bits"] ["bill", "pays", "layers"] (defScope s_best_row_of) := ⟨rfl, rfl, rfl, by decide +kernel, rfl, by decide +kernel, by decide +kernel⟩
abbrev s_best_row : Stmt := topS 52
theorem sc_best_row : FnScope ["bill", "pays", "layers", "ring"] ["bill"] (defScope s_best_row) := ⟨rfl, rfl, rfl, by decide +kernel, rfl, by decide +kernel, by decide +kernel⟩
abbrev s__law_begun : Stmt := topS 54
theorem sc__law_begun : FnScope ["script", "great", "cell"] ["script"] (defScope s__law_begun) := ⟨rfl, rfl, rfl, by decide +kernel, rfl, by decide +kernel, by decide +kernel⟩
abbrev s__law_draw : Stmt := topS 55
theorem sc__law_draw : FnScope ["m", "many", "found", "spot", "cell", "mixed"] ["m", "many"] (defScope s__law_draw) := ⟨rfl, rfl, rfl, by decide +kernel, rfl, by decide +kernel, by decide +kernel⟩
abbrev s__law_of : Stmt := topS 56
theorem sc__law_of : FnScope ["m", "some"] ["m", "some"] (defScope s__law_of) := ⟨rfl, rfl, rfl, by decide +kernel, rfl, by decide +kernel, by decide +kernel⟩
abbrev s__law_weights : Stmt := topS 57
theorem sc__law_weights : FnScope ["m", "most", "wide", "some", "k"] ["m", "most"] (defScope s__law_weights) := ⟨rfl, rfl, rfl, by decide +kernel, rfl, by decide +kernel, by decide +kernel⟩
abbrev s__law_drawn_bill : Stmt := topS 58
theorem sc__law_drawn_bill : FnScope ["m", "most", "own", "terms", "k"] ["m", "most"] (defScope s__law_drawn_bill) := ⟨rfl, rfl, rfl, by decide +kernel, rfl, by decide +kernel, by decide +kernel⟩
abbrev s__law_tame_bill : Stmt := topS 59
theorem sc__law_tame_bill : FnScope ["m", "most", "some", "own", "k"] ["m", "most"] (defScope s__law_tame_bill) := ⟨rfl, rfl, rfl, by decide +kernel, rfl, by decide +kernel, by decide +kernel⟩
abbrev s__law_drawn_row : Stmt := topS 60
theorem sc__law_drawn_row : FnScope ["m", "least", "more", "high", "k"] ["m", "least", "more", "high"] (defScope s__law_drawn_row) := ⟨rfl, rfl, rfl, by decide +kernel, rfl, by decide +kernel, by decide +kernel⟩
abbrev s__law_index : Stmt := topS 61
theorem sc__law_index : FnScope ["rule_so", "some", "found", "left", "k"] ["rule_so", "some"] (defScope s__law_index) := ⟨rfl, rfl, rfl, by decide +kernel, rfl, by decide +kernel, by decide +kernel⟩
abbrev s__law_wide : Stmt := topS 62
theorem sc__law_wide : FnScope ["bill_so", "term"] ["bill_so"] (defScope s__law_wide) := ⟨rfl, rfl, rfl, by decide +kernel, rfl, by decide +kernel, by decide +kernel⟩
abbrev s__law_paid : Stmt := topS 63
theorem sc__law_paid : FnScope ["bill_so", "row_so", "found", "spot", "whole", "rule_so", "before", "after", "size"] ["bill_so", "row_so"] (defScope s__law_paid) := ⟨rfl, rfl, rfl, by decide +kernel, rfl, by decide +kernel, by decide +kernel⟩
abbrev s__law_bit_rows : Stmt := topS 64
theorem sc__law_bit_rows : FnScope ["many", "found", "k", "longer", "row"] ["many"] (defScope s__law_bit_rows) := ⟨rfl, rfl, rfl, by decide +kernel, rfl, by decide +kernel, by decide +kernel⟩
abbrev s__law_net : Stmt := topS 65
theorem sc__law_net : FnScope ["bill_so", "net", "place", "steps", "bit"] ["bill_so"] (defScope s__law_net) := ⟨rfl, rfl, rfl, by decide +kernel, rfl, by decide +kernel, by decide +kernel⟩
abbrev s__law_best : Stmt := topS 66
theorem sc__law_best : FnScope ["net", "best", "place", "lap", "later", "mark", "pay", "there"] ["net"] (defScope s__law_best) := ⟨rfl, rfl, rfl, by decide +kernel, rfl, by decide +kernel, by decide +kernel⟩
abbrev s__law_first_row : Stmt := topS 67
theorem sc__law_first_row : FnScope ["bill_so", "goal", "size", "more", "row"] ["bill_so", "goal"] (defScope s__law_first_row) := ⟨rfl, rfl, rfl, by decide +kernel, rfl, by decide +kernel, by decide +kernel⟩
noncomputable def F__law_first_row_1 : FI := (iSeq (mCall (g__law_bit_rows) (mCons (mBin addD (mVar 2) (mVar 3)) mNil)))
noncomputable def t__law_first_row_1 : FG := (gN 4)
noncomputable def b__law_first_row_1 : FS := (mIfS (mTest (mBin eqD (mBlt sumA (mCons (mCall (g__law_paid) (mCons (mVar 0) (mCons (mVar 4) mNil))) mNil)) (mVar 1))) (mRet (mVar 4)) mNext)
noncomputable def F__law_first_row_2 : FI := (iRange1 (mCons (mBin addD (mBin powD (mK (.int 2)) (mK (.int 3))) (mK (.int 1))) mNil))
noncomputable def t__law_first_row_2 : FG := (gN 3)
noncomputable def b__law_first_row_2 : FS := (mFor F__law_first_row_1 t__law_first_row_1 b__law_first_row_1)
noncomputable def d__law_first_row : FS := (mSeq (mAsg (mCall (g__law_wide) (mCons (mVar 0) mNil)) (gN 2))
  (mSeq (mFor F__law_first_row_2 t__law_first_row_2 b__law_first_row_2)
  (mRet (mK .non))))
noncomputable def g__law_first_row : Fn := denOf 5 d__law_first_row
abbrev s__law_right : Stmt := topS 68
theorem sc__law_right : FnScope ["m", "bill_so", "best", "due", "heard", "row", "again", "most", "row_so"] ["m", "bill_so"] (defScope s__law_right) := ⟨rfl, rfl, rfl, by decide +kernel, rfl, by decide +kernel, by decide +kernel⟩
noncomputable def F__law_right_1 : FI := (iRange1 (mCons (mK (.int 3)) mNil))
noncomputable def t__law_right_1 : FG := (gN 6)
noncomputable def b__law_right_1 : FS := (mSeq (mAsg (mCall (g__law_of) (mCons (mVar 0) (mCons (mLst (mCons (mK (.int 1)) (mCons (mK (.int 3)) (mCons (mBin powD (mK (.int 10)) (mK (.int 6))) mNil)))) mNil))) (gN 7))
  (mSeq (mAsg (mCall (g__law_drawn_row) (mCons (mVar 0) (mCons (mK (.int 3)) (mCons (mK (.int 20)) (mCons (mVar 7) mNil))))) (gN 8))
  (mIfS (mAnd (mTest (mBin isntD (mVar 3) (mK .non))) (mTest (mBin gtD (mCall (g_worth) (mCons (mVar 1) (mCons (mVar 8) mNil))) (mBin mulD (mVar 7) (mVar 3))))) (mRet (mK (.bl false))) mNext)))
noncomputable def d__law_right : FS := (mSeq (mAsg (mCall (g__law_best) (mCons (mCall (g__law_net) (mCons (mVar 1) mNil)) mNil)) (gN 2))
  (mSeq (mAsg (mIf (mTest (mBin isntD (mVar 2) (mK .non))) (mBlt maxLD (mCons (mListVals (mVar 2)) mNil)) (mK .non)) (gN 3))
  (mSeq (mAsg (mLst (mCons (mCall (g_greatest) (mCons (mVar 1) mNil)) (mCons (mCall (g_is_bounded) (mCons (mVar 1) mNil)) (mCons (mCall (g_greatest) (mCons (mVar 1) mNil)) mNil)))) (gN 4))
  (mSeq (mIfS (mTest (mBin neD (mBlt reprA (mCons (mVar 4) mNil)) (mBlt reprA (mCons (mLst (mCons (mVar 3) (mCons (mBin isntD (mVar 3) (mK .non)) (mCons (mVar 3) mNil)))) mNil)))) (mRet (mK (.bl false))) mNext)
  (mSeq (mAsg (mIf (mTest (mBin isntD (mVar 2) (mK .non))) (mCall (g__law_first_row) (mCons (mVar 1) (mCons (mVar 3) mNil))) (mK .non)) (gN 5))
  (mSeq (mIfS (mTest (mBin neD (mBlt reprA (mCons (mLst (mCons (mCall (g_best_row) (mCons (mVar 1) mNil)) (mCons (mCall (g_best_row) (mCons (mVar 1) mNil)) mNil))) mNil)) (mBlt reprA (mCons (mLst (mCons (mVar 5) (mCons (mVar 5) mNil))) mNil)))) (mRet (mK (.bl false))) mNext)
  (mSeq (mFor F__law_right_1 t__law_right_1 b__law_right_1)
  (mRet (mK (.bl true))))))))))
noncomputable def g__law_right : Fn := denOf 9 d__law_right
abbrev s_law : Stmt := topS 69
theorem sc_law : FnScope ["script", "m", "lap", "bill_so", "kept", "heard", "wide"] ["script"] (defScope s_law) := ⟨rfl, rfl, rfl, by decide +kernel, rfl, by decide +kernel, by decide +kernel⟩
noncomputable def F_law_1 : FI := (iRange1 (mCons (mBin addD (mK (.int 4)) (mBlt min2D (mCons (mBlt lenD (mCons (mVar 0) mNil)) (mCons (mK (.int 6)) mNil)))) mNil))
noncomputable def t_law_1 : FG := (gN 2)
noncomputable def b_law_1 : FS := (mSeq (mAsg (mIf (mTest (mBin gtD (mCall (g__law_draw) (mCons (mVar 1) (mCons (mK (.int 3)) mNil))) (mK (.int 0)))) (mCall (g__law_tame_bill) (mCons (mVar 1) (mCons (mK (.int 3)) mNil))) (mCall (g__law_drawn_bill) (mCons (mVar 1) (mCons (mK (.int 3)) mNil)))) (gN 3))
  (mSeq (mAsg (mBlt reprA (mCons (mVar 3) mNil)) (gN 4))
  (mIfS (mOr (mNot (mTest (mCall (g__law_right) (mCons (mVar 1) (mCons (mVar 3) mNil))))) (mTest (mBin neD (mBlt reprA (mCons (mVar 3) mNil)) (mVar 4)))) (mRet (mK (.bl false))) mNext)))
noncomputable def d_law : FS := (mSeq (mAsg (mCall (g__law_begun) (mCons (mVar 0) mNil)) (gN 1))
  (mSeq (mFor F_law_1 t_law_1 b_law_1)
  (mSeq (mAsg (mLstM (mCons (mCall (g_greatest) (mCons (mTup (mCons (mK (.int 2)) (mCons (mTup (mCons (mTup (mCons (mTup (mCons (mK (.int 1)) (mCons (mK (.int 1)) (mCons (mK (.int 0)) mNil)))) (mCons (mUn negD (mK (.int 1))) (mCons (mK (.int 0)) mNil)))) mNil)) mNil))) mNil)) (mCons (mCall (g_greatest) (mCons (mTup (mCons (mUn negD (mK (.int 2))) (mCons (mTup (mCons (mTup (mCons (mTup (mCons (mK (.int 1)) (mCons (mK (.int 1)) (mCons (mK (.int 0)) mNil)))) (mCons (mK (.int 1)) (mCons (mK (.int 0)) mNil)))) mNil)) mNil))) mNil)) mNil))) (gN 5))
  (mSeq (mExpr (mApp (mVar 5) (mCall (g_best_row) (mCons (mTup (mCons (mK (.int 0)) (mCons (mTup (mCons (mTup (mCons (mTup (mCons (mK (.int 1)) (mCons (mK (.int 0)) mNil))) (mCons (mUn negD (mK (.int 1))) (mCons (mK (.int 1)) mNil)))) mNil)) mNil))) mNil))))
  (mSeq (mAsg (mTup (mCons (mK (.int 0)) (mCons (mTup (mCons (mTup (mCons (mTup (mCons (mK (.int 0)) (mCons (mK (.int 0)) (mCons (mK (.int 1)) (mCons (mK (.int 0)) mNil))))) (mCons (mUn negD (mK (.int 1))) (mCons (mK (.int 1)) mNil)))) mNil)) mNil))) (gN 6))
  (mSeq (mIfS (mTest (mBin neD (mLst (mCons (mCall (g_greatest) (mCons (mVar 6) mNil)) (mCons (mCall (g_best_row) (mCons (mVar 6) mNil)) (mCons (mCall (g__law_first_row) (mCons (mVar 6) (mCons (mK (.int 1)) mNil))) mNil)))) (mLst (mCons (mK (.int 1)) (mCons (mTup (mCons (mK (.int 0)) (mCons (mK (.int 0)) (mCons (mK (.int 0)) (mCons (mK (.int 1)) (mCons (mK (.int 1)) mNil)))))) (mCons (mTup (mCons (mK (.int 0)) (mCons (mK (.int 0)) (mCons (mK (.int 0)) (mCons (mK (.int 1)) (mCons (mK (.int 1)) mNil)))))) mNil)))))) (mRet (mK (.bl false))) mNext)
  (mSeq (mAsg (mBin addD (mVar 5) (mLst (mCons (mCall (g_greatest) (mCons (mTup (mCons (mK (.int 0)) (mCons (mTup (mCons (mTup (mCons (mTup (mCons (mK (.int 1)) (mCons (mK (.int 0)) mNil))) (mCons (mUn negD (mK (.int 1))) (mCons (mK (.int 1)) mNil)))) mNil)) mNil))) mNil)) (mCons (mCall (g_greatest) (mCons (mTup (mCons (mUn negD (mK (.int 1))) (mCons (mTup mNil) mNil))) mNil)) (mCons (mCall (g_best_row) (mCons (mTup (mCons (mUn negD (mK (.int 1))) (mCons (mTup mNil) mNil))) mNil)) (mCons (mCall (g_is_bounded) (mCons (mTup (mCons (mK (.int 1)) (mCons (mTup mNil) mNil))) mNil)) mNil)))))) (gN 5))
  (mRet (mAndV (mBin eqD (mVar 5) (mLst (mCons (mK .non) (mCons (mK (.int 3)) (mCons (mTup (mCons (mK (.int 0)) (mCons (mK (.int 1)) (mCons (mK (.int 1)) mNil)))) (mCons (mK (.int 1)) (mCons (mK (.int 0)) (mCons (mTup (mCons (mK (.int 0)) mNil)) (mCons (mK (.bl false)) mNil))))))))) (mCall (g_is_bounded) (mCons (mTup (mCons (mK (.int 0)) (mCons (mTup (mCons (mTup (mCons (mTup (mCons (mK (.int 1)) (mCons (mK (.int 0)) mNil))) (mCons (mUn negD (mK (.int 1))) (mCons (mK (.int 1)) mNil)))) mNil)) mNil))) mNil)))))))))))
noncomputable def g_law : Fn := denOf 7 d_law
section
variable {P : Program} {w : World} {mg : Str → Option Value} {base : Heap} {Γ : Ct} {f : Addr} {fd : FuncData}
theorem ok_is_int (n : Ns Γ mg) (F : Fun Γ.K "is_int" "is_int" s_is_int f fd) : FnG P w mg base Γ 1 f fd ["thing"] g_is_int :=
  have S := sc_is_int
  ok_fn (N := ["thing"]) (c := d_is_int) F S fun cdv A outer s H E W hr hg tk => (mb_one (ms_ret (me_and (me_callB call_isi (sIsi rfl) (by rfl) n.n_isinstance (by decide +kernel) (ma_cons (me_var (pv 0)) (ma_cons (me_ty (by rfl) n.n_int (by decide +kernel)) ma_nil))) (me_and (me_cmp op_notC sIsntC (nomark _) (me_var (pv 0)) me_bl) (me_one (me_cmp op_notC sIsntC (nomark _) (me_var (pv 0)) me_bl))))))
theorem ok_is_int_within (n : Ns Γ mg) (F : Fun Γ.K "is_int_within" "is_int_within" s_is_int_within f fd) (c_is_int : Cal P w mg base Γ 1 "is_int" ["thing"] g_is_int) : FnG P w mg base Γ 2 f fd ["thing", "least", "most"] g_is_int_within :=
  have S := sc_is_int_within
  ok_fn (N := ["thing", "least", "most"]) (c := d_is_int_within) F S fun cdv A outer s H E W hr hg tk => (mb_one (ms_ret (me_and (me_cal c_is_int rfl (hr.mono (by decide)) hg tk (by rfl) (ma_cons (me_var (pv 0)) ma_nil) 1 (len_cons len_nil) rfl rfl) (me_one (me_chain op_le op_le sCmp sCmp (by rfl) (me_var (pv 1)) (me_var (pv 0)) (me_var (pv 2)))))))
theorem ok_is_tuple (n : Ns Γ mg) (F : Fun Γ.K "is_tuple" "is_tuple" s_is_tuple f fd) : FnG P w mg base Γ 1 f fd ["thing", "least", "most"] g_is_tuple :=
  have S := sc_is_tuple
  ok_fn (N := ["thing", "least", "most"]) (c := d_is_tuple) F S fun cdv A outer s H E W hr hg tk => (mb_one (ms_ret (me_and (me_callB call_isi (sIsi rfl) (by rfl) n.n_isinstance (by decide +kernel) (ma_cons (me_var (pv 0)) (ma_cons (me_ty (by rfl) n.n_tuple (by decide +kernel)) ma_nil))) (me_one (me_chain op_le op_le sCmp sCmp (by rfl) (me_var (pv 1)) (me_callB call_len (sLen rfl) (by rfl) n.n_len (by decide +kernel) (ma_cons (me_var (pv 0)) ma_nil)) (me_var (pv 2)))))))
theorem ok_first_outside (n : Ns Γ mg) (F : Fun Γ.K "first_outside" "first_outside" s_first_outside f fd) : FnG P w mg base Γ 1 f fd ["things", "least", "most"] g_first_outside :=
  have S := sc_first_outside
  ok_fn (N := ["things", "least", "most", "number", "thing"]) (c := d_first_outside) F S fun cdv A outer s H E W hr hg tk => (mb_cons (ms_for (passes_of rfl) rfl (mi_enum rfl (by rfl) n.n_enumerate (ma_cons (me_var (pv 0)) ma_nil)) (mg_tup' rfl rfl (mgs_cons' (mg_name (pg_name (i := 3) S.nd rfl (.inl rfl))) (mgs_cons' (mg_name (pg_name (i := 4) S.nd rfl (.inl rfl))) mgs_nil))) (mb_one (ms_if (mt_w (mw_or (mt_not (mt_val (me_callB call_isi (sIsi rfl) (by rfl) n.n_isinstance (by decide +kernel) (ma_cons (me_var (pv 4)) (ma_cons (me_ty (by rfl) n.n_int (by decide +kernel)) ma_nil))))) (mw_or (mt_cmp op_isC sIsC (nomark _) (me_var (pv 4)) me_bl) (mw_or (mt_cmp op_isC sIsC (nomark _) (me_var (pv 4)) me_bl) (mw_or1 (mt_not (mt_chain op_le op_le sCmp sCmp (by rfl) (me_var (pv 1)) (me_var (pv 4)) (me_var (pv 2))))))))) (mb_one (ms_ret (me_var (pv 3)))) mb_nil)))
  (mb_one (ms_ret me_non)))
theorem ok_need_rule (n : Ns Γ mg) (F : Fun Γ.K "need_rule" "need_rule" s_need_rule f fd) (c_is_tuple : Cal P w mg base Γ 1 "is_tuple" ["thing", "least", "most"] g_is_tuple) (c_first_outside : Cal P w mg base Γ 1 "first_outside" ["things", "least", "most"] g_first_outside) : FnG P w mg base Γ 2 f fd ["thing"] g_need_rule :=
  have S := sc_need_rule
  ok_fn (N := ["thing", "number"]) (c := d_need_rule) F S fun cdv A outer s H E W hr hg tk => (mb_cons (ms_if (mt_not (mt_val (me_cal c_is_tuple rfl (hr.mono (by decide)) hg tk (by rfl) (ma_cons (me_var (pv 0)) (ma_cons me_int (ma_cons (me_globJ (by rfl) n.c_MOST_WEIGHTS) ma_nil))) 3 (len_cons (len_cons (len_cons len_nil))) rfl rfl))) (mb_one ms_stuck) mb_nil)
  (mb_cons (ms_set (i := 1) S.nd rfl (.inl rfl) (me_cal c_first_outside rfl (hr.mono (by decide)) hg tk (by rfl) (ma_cons (me_var (pv 0)) (ma_cons (me_un un_neg sNeg (me_globJ (by rfl) n.c_GREATEST_WEIGHT)) (ma_cons (me_globJ (by rfl) n.c_GREATEST_WEIGHT) ma_nil))) 3 (len_cons (len_cons (len_cons len_nil))) rfl rfl))
  (mb_cons (ms_if (mt_cmp op_notC sIsntC (nomark _) (me_var (pv 1)) me_non) (mb_one ms_stuck) mb_nil)
  (mb_one (ms_ret (me_var (pv 0)))))))
theorem ok_is_rule (n : Ns Γ mg) (F : Fun Γ.K "is_rule" "is_rule" s_is_rule f fd) (c_need_rule : Cal P w mg base Γ 2 "need_rule" ["thing"] g_need_rule) : FnG P w mg base Γ 3 f fd ["thing"] g_is_rule :=
  have S := sc_is_rule
  ok_fn (N := ["thing"]) (c := d_is_rule) F S fun cdv A outer s H E W hr hg tk => (mb_cons (ms_tryN (mb_one (ms_expr (me_cal c_need_rule rfl (hr.mono (by decide)) hg tk0 (by rfl) (ma_cons (me_var (pv 0)) ma_nil) 1 (len_cons len_nil) rfl rfl))))
  (mb_one (ms_ret me_bl)))
theorem ok_need_row (n : Ns Γ mg) (F : Fun Γ.K "need_row" "need_row" s_need_row f fd) (c_is_tuple : Cal P w mg base Γ 1 "is_tuple" ["thing", "least", "most"] g_is_tuple) (c_first_outside : Cal P w mg base Γ 1 "first_outside" ["things", "least", "most"] g_first_outside) : FnG P w mg base Γ 2 f fd ["thing"] g_need_row :=
  have S := sc_need_row
  ok_fn (N := ["thing", "number"]) (c := d_need_row) F S fun cdv A outer s H E W hr hg tk => (mb_cons (ms_if (mt_not (mt_val (me_cal c_is_tuple rfl (hr.mono (by decide)) hg tk (by rfl) (ma_cons (me_var (pv 0)) (ma_cons me_int (ma_cons (me_globJ (by rfl) n.c_MOST_RESULTS) ma_nil))) 3 (len_cons (len_cons (len_cons len_nil))) rfl rfl))) (mb_one ms_stuck) mb_nil)
  (mb_cons (ms_set (i := 1) S.nd rfl (.inl rfl) (me_cal c_first_outside rfl (hr.mono (by decide)) hg tk (by rfl) (ma_cons (me_var (pv 0)) (ma_cons me_int (ma_cons (me_globJ (by rfl) n.c_GREATEST_RESULT) ma_nil))) 3 (len_cons (len_cons (len_cons len_nil))) rfl rfl))
  (mb_cons (ms_if (mt_cmp op_notC sIsntC (nomark _) (me_var (pv 1)) me_non) (mb_one ms_stuck) mb_nil)
  (mb_one (ms_ret (me_var (pv 0)))))))
theorem ok_need_row_of (n : Ns Γ mg) (F : Fun Γ.K "need_row_of" "need_row_of" s_need_row_of f fd) (c_need_row : Cal P w mg base Γ 2 "need_row" ["thing"] g_need_row) : FnG P w mg base Γ 3 f fd ["thing", "least"] g_need_row_of :=
  have S := sc_need_row_of
  ok_fn (N := ["thing", "least"]) (c := d_need_row_of) F S fun cdv A outer s H E W hr hg tk => (mb_cons (ms_expr (me_cal c_need_row rfl (hr.mono (by decide)) hg tk (by rfl) (ma_cons (me_var (pv 0)) ma_nil) 1 (len_cons len_nil) rfl rfl))
  (mb_cons (ms_if (mt_cmp op_lt sCmp (nomark _) (me_callB call_len (sLen rfl) (by rfl) n.n_len (by decide +kernel) (ma_cons (me_var (pv 0)) ma_nil)) (me_var (pv 1))) (mb_one ms_stuck) mb_nil)
  (mb_one (ms_ret (me_var (pv 0))))))
theorem ok_index_of (n : Ns Γ mg) (F : Fun Γ.K "index_of" "index_of" s_index_of f fd) : FnG P w mg base Γ 1 f fd ["rule", "results"] g_index_of :=
  have S := sc_index_of
  ok_fn (N := ["rule", "results", "last", "weight", "result"]) (c := d_index_of) F S fun cdv A outer s H E W hr hg tk => (mb_cons (ms_set (i := 2) S.nd rfl (.inl rfl) (me_callB cr_sortedA (sSortedA rfl) (by rfl) n.n_sorted (by decide +kernel) (ma_cons (me_sl rfl (me_var (pv 1)) (mo_some (me_un un_neg sNeg (me_callB call_len (sLen rfl) (by rfl) n.n_len (by decide +kernel) (ma_cons (me_var (pv 0)) ma_nil)))) mo_none) ma_nil)))
  (mb_one (ms_ret (me_callB (cr_sumA rfl) (sSumA rfl) (by rfl) n.n_sum (by decide +kernel) (ma_cons (me_comp (own := [("weight", 3), ("result", 4)]) (g := (gTup Γ.K 2 (gCons (gName 3) (gCons (gName 4) gNil)))) rfl S.nd (mi_zip rfl (by rfl) n.n_zip (ma_cons (me_var (pv 0)) (ma_cons (me_var (pv 2)) ma_nil))) (blkOk_by (own := [("weight", 3), ("result", 4)]) (N := ["rule", "results", "last", "weight", "result"]) (sc := defScope s_index_of) (by decide +kernel)) (fun _ _ _ _ _ => pg_tup rfl (pgs_cons (pg_name (i := 3) S.nd rfl (.inl rfl)) (pgs_cons (pg_name (i := 4) S.nd rfl (.inl rfl)) pgs_nil))) (gw_tup rfl (gws_cons (gw_name (by decide)) (gws_cons (gw_name (by decide)) gws_nil))) (fun _ _ _ _ _ => mts_nil) (fun _ _ _ _ _ => (me_op opMul sMul (me_var (pv 3)) (me_var (pv 4))))) ma_nil)))))
theorem ok_indexes_by_ones (n : Ns Γ mg) (F : Fun Γ.K "indexes_by_ones" "indexes_by_ones" s_indexes_by_ones f fd) : FnG P w mg base Γ 1 f fd ["rule"] g_indexes_by_ones :=
  have S := sc_indexes_by_ones
  ok_fn (N := ["rule", "told", "weight"]) (c := d_indexes_by_ones) F S fun cdv A outer s H E W hr hg tk => (mb_cons (ms_set (i := 1) S.nd rfl (.inl rfl) (me_lstM (ma_cons me_int ma_nil)))
  (mb_cons (ms_for (passes_of rfl) rfl (mi_seq rfl (me_rev rfl (me_var (pv 0)))) (mg_name (pg_name (i := 2) S.nd rfl (.inl rfl))) (mb_one (ms_expr (me_app (pe_bm PySem.F.plainAttrs_list PySem.F.slot_list_append PySem.F.type_list_append mt_append (me_var (pv 1)) (pa_cons (me_op opAdd sAdd (me_ix rfl (hu_of hr) (me_var (pv 1)) (me_un un_neg sNeg me_int) (fun _ _ => rfl) (fun _ _ => rfl)) (me_var (pv 2))) pa_nil))))))
  (mb_one (ms_ret (me_var (pv 1))))))
theorem ok_is_factor (n : Ns Γ mg) (F : Fun Γ.K "is_factor" "is_factor" s_is_factor f fd) (c_is_int_within : Cal P w mg base Γ 2 "is_int_within" ["thing", "least", "most"] g_is_int_within) : FnG P w mg base Γ 3 f fd ["thing"] g_is_factor :=
  have S := sc_is_factor
  ok_fn (N := ["thing"]) (c := d_is_factor) F S fun cdv A outer s H E W hr hg tk => (mb_one (ms_ret (me_cal c_is_int_within rfl (hr.mono (by decide)) hg tk (by rfl) (ma_cons (me_var (pv 0)) (ma_cons (me_un un_neg sNeg (me_globJ (by rfl) n.c_GREATEST_FACTOR)) (ma_cons (me_globJ (by rfl) n.c_GREATEST_FACTOR) ma_nil))) 3 (len_cons (len_cons (len_cons len_nil))) rfl rfl)))
theorem ok_is_term (n : Ns Γ mg) (F : Fun Γ.K "is_term" "is_term" s_is_term f fd) (c_is_tuple : Cal P w mg base Γ 1 "is_tuple" ["thing", "least", "most"] g_is_tuple) (c_is_rule : Cal P w mg base Γ 3 "is_rule" ["thing"] g_is_rule) (c_is_factor : Cal P w mg base Γ 3 "is_factor" ["thing"] g_is_factor) : FnG P w mg base Γ 4 f fd ["thing"] g_is_term :=
  have S := sc_is_term
  ok_fn (N := ["thing", "rule", "ahead", "behind"]) (c := d_is_term) F S fun cdv A outer s H E W hr hg tk => (mb_cons (ms_if (mt_not (mt_val (me_cal c_is_tuple rfl (hr.mono (by decide)) hg tk (by rfl) (ma_cons (me_var (pv 0)) (ma_cons me_int (ma_cons me_int ma_nil))) 3 (len_cons (len_cons (len_cons len_nil))) rfl rfl))) (mb_one (ms_ret me_bl)) mb_nil)
  (mb_cons (ms_setT (me_var (pv 0)) (mg_tup' rfl rfl (mgs_cons' (mg_name (pg_name (i := 1) S.nd rfl (.inl rfl))) (mgs_cons' (mg_name (pg_name (i := 2) S.nd rfl (.inl rfl))) (mgs_cons' (mg_name (pg_name (i := 3) S.nd rfl (.inl rfl))) mgs_nil)))))
  (mb_one (ms_ret (me_and (me_cal c_is_rule rfl (hr.mono (by decide)) hg tk (by rfl) (ma_cons (me_var (pv 1)) ma_nil) 1 (len_cons len_nil) rfl rfl) (me_and (me_cal c_is_factor rfl (hr.mono (by decide)) hg tk (by rfl) (ma_cons (me_var (pv 2)) ma_nil) 1 (len_cons len_nil) rfl rfl) (me_one (me_cal c_is_factor rfl (hr.mono (by decide)) hg tk (by rfl) (ma_cons (me_var (pv 3)) ma_nil) 1 (len_cons len_nil) rfl rfl))))))))
theorem ok_need_bill (n : Ns Γ mg) (F : Fun Γ.K "need_bill" "need_bill" s_need_bill f fd) (c_is_tuple : Cal P w mg base Γ 1 "is_tuple" ["thing", "least", "most"] g_is_tuple) (c_is_factor : Cal P w mg base Γ 3 "is_factor" ["thing"] g_is_factor) (c_is_term : Cal P w mg base Γ 4 "is_term" ["thing"] g_is_term) : FnG P w mg base Γ 5 f fd ["thing"] g_need_bill :=
  have S := sc_need_bill
  ok_fn (N := ["thing", "own", "terms", "number", "term"]) (c := d_need_bill) F S fun cdv A outer s H E W hr hg tk => (mb_cons (ms_if (mt_not (mt_val (me_cal c_is_tuple rfl (hr.mono (by decide)) hg tk (by rfl) (ma_cons (me_var (pv 0)) (ma_cons me_int (ma_cons me_int ma_nil))) 3 (len_cons (len_cons (len_cons len_nil))) rfl rfl))) (mb_one ms_stuck) mb_nil)
  (mb_cons (ms_setT (me_var (pv 0)) (mg_tup' rfl rfl (mgs_cons' (mg_name (pg_name (i := 1) S.nd rfl (.inl rfl))) (mgs_cons' (mg_name (pg_name (i := 2) S.nd rfl (.inl rfl))) mgs_nil))))
  (mb_cons (ms_if (mt_not (mt_val (me_cal c_is_factor rfl (hr.mono (by decide)) hg tk (by rfl) (ma_cons (me_var (pv 1)) ma_nil) 1 (len_cons len_nil) rfl rfl))) (mb_one ms_stuck) mb_nil)
  (mb_cons (ms_if (mt_not (mt_val (me_cal c_is_tuple rfl (hr.mono (by decide)) hg tk (by rfl) (ma_cons (me_var (pv 2)) (ma_cons me_int (ma_cons (me_globJ (by rfl) n.c_MOST_TERMS) ma_nil))) 3 (len_cons (len_cons (len_cons len_nil))) rfl rfl))) (mb_one ms_stuck) mb_nil)
  (mb_cons (ms_for (passes_of rfl) rfl (mi_enum rfl (by rfl) n.n_enumerate (ma_cons (me_var (pv 2)) ma_nil)) (mg_tup' rfl rfl (mgs_cons' (mg_name (pg_name (i := 3) S.nd rfl (.inl rfl))) (mgs_cons' (mg_name (pg_name (i := 4) S.nd rfl (.inl rfl))) mgs_nil))) (mb_one (ms_if (mt_not (mt_val (me_cal c_is_term rfl (hr.mono (by decide)) hg tk (by rfl) (ma_cons (me_var (pv 4)) ma_nil) 1 (len_cons len_nil) rfl rfl))) (mb_one ms_stuck) mb_nil)))
  (mb_one (ms_ret (me_var (pv 0)))))))))
theorem ok_width_of (n : Ns Γ mg) (F : Fun Γ.K "width_of" "width_of" s_width_of f fd) : FnG P w mg base Γ 1 f fd ["bill"] g_width_of :=
  have S := sc_width_of
  ok_fn (N := ["bill", "term"]) (c := d_width_of) F S fun cdv A outer s H E W hr hg tk => (mb_one (ms_ret (me_maxDef rfl rfl hr.units (by rfl) n.n_max (me_comp (own := [("term", 1)]) (g := (gName 1)) rfl S.nd (mi_seq rfl (me_ix rfl (hu_of hr) (me_var (pv 0)) me_int (fun _ _ => rfl) (fun _ _ => rfl))) (blkOk_by (own := [("term", 1)]) (N := ["bill", "term"]) (sc := defScope s_width_of) (by decide +kernel)) (fun _ _ _ _ _ => pg_name (i := 1) S.nd rfl (.inl rfl)) (gw_name (by decide)) (fun _ _ _ _ _ => mts_nil) (fun _ _ _ _ _ => (me_callB call_len (sLen rfl) (by rfl) n.n_len (by decide +kernel) (ma_cons (me_ix rfl (hu_of hr) (me_var (pv 1)) me_int (fun _ _ => rfl) (fun _ _ => rfl)) ma_nil)))) me_int)))
theorem ok_last_pay (n : Ns Γ mg) (F : Fun Γ.K "last_pay" "last_pay" s_last_pay f fd) (c_index_of : Cal P w mg base Γ 1 "index_of" ["rule", "results"] g_index_of) : FnG P w mg base Γ 2 f fd ["bill", "results"] g_last_pay :=
  have S := sc_last_pay
  ok_fn (N := ["bill", "results", "own", "terms", "before", "parts", "rule", "ahead", "behind"]) (c := d_last_pay) F S fun cdv A outer s H E W hr hg tk => (mb_cons (ms_setT (me_var (pv 0)) (mg_tup' rfl rfl (mgs_cons' (mg_name (pg_name (i := 2) S.nd rfl (.inl rfl))) (mgs_cons' (mg_name (pg_name (i := 3) S.nd rfl (.inl rfl))) mgs_nil))))
  (mb_cons (ms_set (i := 4) S.nd rfl (.inr rfl) (me_sl rfl (me_var (pv 1)) mo_none (mo_some (me_un un_neg sNeg me_int))))
  (mb_cons (ms_setComp (i := 5) (own := [("rule", 6), ("ahead", 7), ("behind", 8)]) (g := (gTup Γ.K 3 (gCons (gName 6) (gCons (gName 7) (gCons (gName 8) gNil))))) rfl S.nd rfl rfl (sw_true rfl rfl rfl (by decide +kernel)) (mi_seq rfl (me_var (pv 3))) (blkOk_by (own := [("rule", 6), ("ahead", 7), ("behind", 8)]) (N := ["bill", "results", "own", "terms", "before", "parts", "rule", "ahead", "behind"]) (sc := defScope s_last_pay) (by decide +kernel)) (fun _ _ _ _ _ => pg_tup rfl (pgs_cons (pg_name (i := 6) S.nd rfl (.inl rfl)) (pgs_cons (pg_name (i := 7) S.nd rfl (.inl rfl)) (pgs_cons (pg_name (i := 8) S.nd rfl (.inl rfl)) pgs_nil)))) (gw_tup rfl (gws_cons (gw_name (by decide)) (gws_cons (gw_name (by decide)) (gws_cons (gw_name (by decide)) gws_nil)))) (fun _ _ _ _ _ => mts_nil) (fun _ _ _ _ _ => (me_op opAdd sAdd (me_op opMul sMul (me_var (pv 7)) (me_cal c_index_of rfl (hr.mono (by decide)) hg tk0 (by rfl) (ma_cons (me_var (pv 6)) (ma_cons (me_var (pv 4)) ma_nil)) 2 (len_cons (len_cons len_nil)) rfl rfl)) (me_op opMul sMul (me_var (pv 8)) (me_cal c_index_of rfl (hr.mono (by decide)) hg tk0 (by rfl) (ma_cons (me_var (pv 6)) (ma_cons (me_var (pv 1)) ma_nil)) 2 (len_cons (len_cons len_nil)) rfl rfl)))))
  (mb_one (ms_ret (me_op opAdd sAdd (me_op opMul sMul (me_var (pv 2)) (me_ix rfl (hu_of hr) (me_var (pv 1)) (me_un un_neg sNeg me_int) (fun _ _ => rfl) (fun _ _ => rfl))) (me_callB (cr_sumA rfl) (sSumA rfl) (by rfl) n.n_sum (by decide +kernel) (ma_cons (me_var (pv 5)) ma_nil))))))))
theorem ok_pays_of (n : Ns Γ mg) (F : Fun Γ.K "pays_of" "pays_of" s_pays_of f fd) (c_width_of : Cal P w mg base Γ 1 "width_of" ["bill"] g_width_of) (c_last_pay : Cal P w mg base Γ 2 "last_pay" ["bill", "results"] g_last_pay) : FnG P w mg base Γ 3 f fd ["bill", "results"] g_pays_of :=
  have S := sc_pays_of
  ok_fn (N := ["bill", "results", "wide", "at"]) (c := d_pays_of) F S fun cdv A outer s H E W hr hg tk => (mb_cons (ms_set (i := 2) S.nd rfl (.inr rfl) (me_cal c_width_of rfl (hr.mono (by decide)) hg tk (by rfl) (ma_cons (me_var (pv 0)) ma_nil) 1 (len_cons len_nil) rfl rfl))
  (mb_one (ms_ret (me_callTy call_tuple_of (sTuple rfl) (by rfl) n.n_tuple (by decide +kernel) (ma_cons (me_comp (own := [("at", 3)]) (g := (gName 3)) rfl S.nd (mi_range2 (by rfl) n.n_range (ma_cons (me_var (pv 2)) (ma_cons (me_callB call_len (sLen rfl) (by rfl) n.n_len (by decide +kernel) (ma_cons (me_var (pv 1)) ma_nil)) ma_nil))) (blkOk_by (own := [("at", 3)]) (N := ["bill", "results", "wide", "at"]) (sc := defScope s_pays_of) (by decide +kernel)) (fun _ _ _ _ _ => pg_name (i := 3) S.nd rfl (.inl rfl)) (gw_name (by decide)) (fun _ _ _ _ _ => mts_nil) (fun _ _ _ _ _ => (me_cal c_last_pay rfl (hr.mono (by decide)) hg tk0 (by rfl) (ma_cons (me_var (pv 0)) (ma_cons (me_sl rfl (me_var (pv 1)) (mo_some (me_op op_sub sSub (me_var (pv 3)) (me_var (pv 2)))) (mo_some (me_op opAdd sAdd (me_var (pv 3)) me_int))) ma_nil)) 2 (len_cons (len_cons len_nil)) rfl rfl))) ma_nil)))))
theorem ok_pays (n : Ns Γ mg) (F : Fun Γ.K "pays" "pays" s_pays f fd) (c_need_bill : Cal P w mg base Γ 5 "need_bill" ["thing"] g_need_bill) (c_need_row_of : Cal P w mg base Γ 3 "need_row_of" ["thing", "least"] g_need_row_of) (c_width_of : Cal P w mg base Γ 1 "width_of" ["bill"] g_width_of) (c_pays_of : Cal P w mg base Γ 3 "pays_of" ["bill", "results"] g_pays_of) : FnG P w mg base Γ 6 f fd ["bill", "row"] g_pays :=
  have S := sc_pays
  ok_fn (N := ["bill", "row"]) (c := d_pays) F S fun cdv A outer s H E W hr hg tk => (mb_cons (ms_expr (me_cal c_need_bill rfl (hr.mono (by decide)) hg tk (by rfl) (ma_cons (me_var (pv 0)) ma_nil) 1 (len_cons len_nil) rfl rfl))
  (mb_cons (ms_expr (me_cal c_need_row_of rfl (hr.mono (by decide)) hg tk (by rfl) (ma_cons (me_var (pv 1)) (ma_cons (me_cal c_width_of rfl (hr.mono (by decide)) hg tk (by rfl) (ma_cons (me_var (pv 0)) ma_nil) 1 (len_cons len_nil) rfl rfl) ma_nil)) 2 (len_cons (len_cons len_nil)) rfl rfl))
  (mb_one (ms_ret (me_cal c_pays_of rfl (hr.mono (by decide)) hg tk (by rfl) (ma_cons (me_var (pv 0)) (ma_cons (me_var (pv 1)) ma_nil)) 2 (len_cons (len_cons len_nil)) rfl rfl)))))
theorem ok_worth (n : Ns Γ mg) (F : Fun Γ.K "worth" "worth" s_worth f fd) (c_pays : Cal P w mg base Γ 6 "pays" ["bill", "row"] g_pays) : FnG P w mg base Γ 7 f fd ["bill", "row"] g_worth :=
  have S := sc_worth
  ok_fn (N := ["bill", "row"]) (c := d_worth) F S fun cdv A outer s H E W hr hg tk => (mb_one (ms_ret (me_callB (cr_sumA rfl) (sSumA rfl) (by rfl) n.n_sum (by decide +kernel) (ma_cons (me_cal c_pays rfl (hr.mono (by decide)) hg tk (by rfl) (ma_cons (me_var (pv 0)) (ma_cons (me_var (pv 1)) ma_nil)) 2 (len_cons (len_cons len_nil)) rfl rfl) ma_nil))))
theorem ok_signs_of (n : Ns Γ mg) (F : Fun Γ.K "signs_of" "signs_of" s_signs_of f fd) : FnG P w mg base Γ 1 f fd ["number", "signs", "wide"] g_signs_of :=
  have S := sc_signs_of
  ok_fn (N := ["number", "signs", "wide", "told", "_", "figure"]) (c := d_signs_of) F S fun cdv A outer s H E W hr hg tk => (mb_cons (ms_set (i := 3) S.nd rfl (.inl rfl) (me_lstM ma_nil))
  (mb_cons (ms_for (passes_of rfl) rfl (mi_range1 (by rfl) n.n_range (ma_cons (me_var (pv 2)) ma_nil)) (mg_name (pg_name (i := 4) S.nd rfl (.inl rfl))) (mb_cons (ms_setT (me_callB call_divmod sDivmod (by rfl) n.n_divmod (by decide +kernel) (ma_cons (me_var (pv 0)) (ma_cons (me_callB call_len (sLen rfl) (by rfl) n.n_len (by decide +kernel) (ma_cons (me_var (pv 1)) ma_nil)) ma_nil))) (mg_tup' rfl rfl (mgs_cons' (mg_name (pg_name (i := 0) S.nd rfl (.inl rfl))) (mgs_cons' (mg_name (pg_name (i := 5) S.nd rfl (.inl rfl))) mgs_nil))))
  (mb_one (ms_expr (me_app (pe_bm PySem.F.plainAttrs_list PySem.F.slot_list_append PySem.F.type_list_append mt_append (me_var (pv 3)) (pa_cons (me_ix rfl (hu_of hr) (me_var (pv 1)) (me_var (pv 5)) (fun _ _ => rfl) (fun _ _ => rfl)) pa_nil)))))))
  (mb_one (ms_ret (me_callTy call_tuple_of (sTuple rfl) (by rfl) n.n_tuple (by decide +kernel) (ma_cons (me_rev rfl (me_var (pv 3))) ma_nil))))))
theorem ok_ones_of (n : Ns Γ mg) (F : Fun Γ.K "ones_of" "ones_of" s_ones_of f fd) : FnG P w mg base Γ 1 f fd ["wide"] g_ones_of :=
  have S := sc_ones_of
  ok_fn (N := ["wide", "ones", "_", "many"]) (c := d_ones_of) F S fun cdv A outer s H E W hr hg tk => (mb_cons (ms_set (i := 1) S.nd rfl (.inl rfl) (me_lst (ma_cons me_int ma_nil)))
  (mb_cons (ms_for (passes_of rfl) rfl (mi_range1 (by rfl) n.n_range (ma_cons (me_var (pv 0)) ma_nil)) (mg_name (pg_name (i := 2) S.nd rfl (.inl rfl))) (mb_one (ms_set (i := 1) S.nd rfl (.inl rfl) (me_op opAdd sAdd (me_var (pv 1)) (me_comp (own := [("many", 3)]) (g := (gName 3)) rfl S.nd (mi_seq rfl (me_var (pv 1))) (blkOk_by (own := [("many", 3)]) (N := ["wide", "ones", "_", "many"]) (sc := defScope s_ones_of) (by decide +kernel)) (fun _ _ _ _ _ => pg_name (i := 3) S.nd rfl (.inl rfl)) (gw_name (by decide)) (fun _ _ _ _ _ => mts_nil) (fun _ _ _ _ _ => (me_op opAdd sAdd (me_var (pv 3)) me_int)))))))
  (mb_one (ms_ret (me_var (pv 1))))))
theorem ok_term_pays (n : Ns Γ mg) (F : Fun Γ.K "term_pays" "term_pays" s_term_pays f fd) (c_indexes_by_ones : Cal P w mg base Γ 1 "indexes_by_ones" ["rule"] g_indexes_by_ones) (c_ones_of : Cal P w mg base Γ 1 "ones_of" ["wide"] g_ones_of) : FnG P w mg base Γ 2 f fd ["term", "wide"] g_term_pays :=
  have S := sc_term_pays
  ok_fn (N := ["term", "wide", "rule", "ahead", "behind", "told", "indexes", "fronts", "pays", "ones", "index", "_", "front", "back"]) (c := d_term_pays) F S fun cdv A outer s H E W hr hg tk => (mb_cons (ms_setT (me_var (pv 0)) (mg_tup' rfl rfl (mgs_cons' (mg_name (pg_name (i := 2) S.nd rfl (.inl rfl))) (mgs_cons' (mg_name (pg_name (i := 3) S.nd rfl (.inr rfl))) (mgs_cons' (mg_name (pg_name (i := 4) S.nd rfl (.inr rfl))) mgs_nil)))))
  (mb_cons (ms_set (i := 5) S.nd rfl (.inr rfl) (me_cal c_indexes_by_ones rfl (hr.mono (by decide)) hg tk (by rfl) (ma_cons (me_var (pv 2)) ma_nil) 1 (len_cons len_nil) rfl rfl))
  (mb_cons (ms_setComp (i := 6) (own := [("ones", 9)]) (g := (gName 9)) rfl S.nd rfl rfl (sw_true rfl rfl rfl (by decide +kernel)) (mi_seq rfl (me_cal c_ones_of rfl (hr.mono (by decide)) hg tk (by rfl) (ma_cons (me_callB call_len (sLen rfl) (by rfl) n.n_len (by decide +kernel) (ma_cons (me_var (pv 2)) ma_nil)) ma_nil) 1 (len_cons len_nil) rfl rfl)) (blkOk_by (own := [("ones", 9)]) (N := ["term", "wide", "rule", "ahead", "behind", "told", "indexes", "fronts", "pays", "ones", "index", "_", "front", "back"]) (sc := defScope s_term_pays) (by decide +kernel)) (fun _ _ _ _ _ => pg_name (i := 9) S.nd rfl (.inl rfl)) (gw_name (by decide)) (fun _ _ _ _ _ => mts_nil) (fun _ _ _ _ _ => (me_ix rfl (hu_of hr) (me_var (pv 5)) (me_var (pv 9)) (fun _ _ => rfl) (fun _ _ => rfl))))
  (mb_cons (ms_setComp2 (i := 7) (own := [("index", 10), ("_", 11)]) (vs1 := [11]) (g := (gName 10)) (g1 := (gName 11)) rfl S.nd rfl rfl (sw_true rfl rfl rfl (by decide +kernel)) (mi_seq rfl (me_var (pv 6))) (blkOk_by (own := [("index", 10), ("_", 11)]) (N := ["term", "wide", "rule", "ahead", "behind", "told", "indexes", "fronts", "pays", "ones", "index", "_", "front", "back"]) (sc := defScope s_term_pays) (by decide +kernel)) (by decide) (fun _ _ _ _ _ => pg_name (i := 10) S.nd rfl (.inl rfl)) (gw_name (by decide)) (fun _ _ _ _ _ => mts_nil) (fun _ _ _ _ _ => (mi_seq rfl (me_globT rfl (by rfl) n.c_BITS))) (fun _ _ _ _ _ => pg_name (i := 11) S.nd rfl (.inl rfl)) (gw_name (by decide)) (fun _ _ _ _ _ => mts_nil) (fun _ _ _ _ _ => (me_var (pv 10))))
  (mb_cons (ms_setComp (i := 8) (own := [("front", 12), ("back", 13)]) (g := (gTup Γ.K 2 (gCons (gName 12) (gCons (gName 13) gNil)))) rfl S.nd rfl rfl (sw_true rfl rfl rfl (by decide +kernel)) (mi_zip rfl (by rfl) n.n_zip (ma_cons (me_var (pv 7)) (ma_cons (me_op opMul sMul (me_var (pv 6)) (me_globJ (by rfl) n.c_OF_BITS)) ma_nil))) (blkOk_by (own := [("front", 12), ("back", 13)]) (N := ["term", "wide", "rule", "ahead", "behind", "told", "indexes", "fronts", "pays", "ones", "index", "_", "front", "back"]) (sc := defScope s_term_pays) (by decide +kernel)) (fun _ _ _ _ _ => pg_tup rfl (pgs_cons (pg_name (i := 12) S.nd rfl (.inl rfl)) (pgs_cons (pg_name (i := 13) S.nd rfl (.inl rfl)) pgs_nil))) (gw_tup rfl (gws_cons (gw_name (by decide)) (gws_cons (gw_name (by decide)) gws_nil))) (fun _ _ _ _ _ => mts_nil) (fun _ _ _ _ _ => (me_op opAdd sAdd (me_op opMul sMul (me_var (pv 3)) (me_var (pv 12))) (me_op opMul sMul (me_var (pv 4)) (me_var (pv 13))))))
  (mb_one (ms_ret (me_op opMul sMul (me_var (pv 8)) (me_op op_shl sShl me_int (me_op op_sub sSub (me_var (pv 1)) (me_callB call_len (sLen rfl) (by rfl) n.n_len (by decide +kernel) (ma_cons (me_var (pv 2)) ma_nil))))))))))))
theorem ok_bit_pays (n : Ns Γ mg) (F : Fun Γ.K "bit_pays" "bit_pays" s_bit_pays f fd) (c_width_of : Cal P w mg base Γ 1 "width_of" ["bill"] g_width_of) (c_term_pays : Cal P w mg base Γ 2 "term_pays" ["term", "wide"] g_term_pays) : FnG P w mg base Γ 3 f fd ["bill"] g_bit_pays :=
  have S := sc_bit_pays
  ok_fn (N := ["bill", "own", "terms", "wide", "pays", "term", "paid", "more"]) (c := d_bit_pays) F S fun cdv A outer s H E W hr hg tk => (mb_cons (ms_setT (me_var (pv 0)) (mg_tup' rfl rfl (mgs_cons' (mg_name (pg_name (i := 1) S.nd rfl (.inl rfl))) (mgs_cons' (mg_name (pg_name (i := 2) S.nd rfl (.inl rfl))) mgs_nil))))
  (mb_cons (ms_set (i := 3) S.nd rfl (.inl rfl) (me_cal c_width_of rfl (hr.mono (by decide)) hg tk (by rfl) (ma_cons (me_var (pv 0)) ma_nil) 1 (len_cons len_nil) rfl rfl))
  (mb_cons (ms_set (i := 4) S.nd rfl (.inl rfl) (me_op opMul sMul (me_lst (ma_cons me_int (ma_cons (me_var (pv 1)) ma_nil))) (me_op op_shl sShl me_int (me_var (pv 3)))))
  (mb_cons (ms_for (passes_of rfl) rfl (mi_seq rfl (me_var (pv 2))) (mg_name (pg_name (i := 5) S.nd rfl (.inl rfl))) (mb_one (ms_setComp (i := 4) (own := [("paid", 6), ("more", 7)]) (g := (gTup Γ.K 2 (gCons (gName 6) (gCons (gName 7) gNil)))) rfl S.nd rfl rfl (sw_true rfl rfl rfl (by decide +kernel)) (mi_zip rfl (by rfl) n.n_zip (ma_cons (me_var (pv 4)) (ma_cons (me_cal c_term_pays rfl (hr.mono (by decide)) hg tk (by rfl) (ma_cons (me_var (pv 5)) (ma_cons (me_var (pv 3)) ma_nil)) 2 (len_cons (len_cons len_nil)) rfl rfl) ma_nil))) (blkOk_by (own := [("paid", 6), ("more", 7)]) (N := ["bill", "own", "terms", "wide", "pays", "term", "paid", "more"]) (sc := defScope s_bit_pays) (by decide +kernel)) (fun _ _ _ _ _ => pg_tup rfl (pgs_cons (pg_name (i := 6) S.nd rfl (.inl rfl)) (pgs_cons (pg_name (i := 7) S.nd rfl (.inl rfl)) pgs_nil))) (gw_tup rfl (gws_cons (gw_name (by decide)) (gws_cons (gw_name (by decide)) gws_nil))) (fun _ _ _ _ _ => mts_nil) (fun _ _ _ _ _ => (me_op opAdd sAdd (me_var (pv 6)) (me_var (pv 7)))))))
  (mb_one (ms_ret (me_var (pv 4))))))))
theorem ok_raised (n : Ns Γ mg) (F : Fun Γ.K "raised" "raised" s_raised f fd) : FnG P w mg base Γ 1 f fd ["pays", "heights", "base"] g_raised :=
  have S := sc_raised
  ok_fn (N := ["pays", "heights", "base", "higher", "walks", "sign", "pay", "behind", "one", "two"]) (c := d_raised) F S fun cdv A outer s H E W hr hg tk => (mb_cons (ms_set (i := 3) S.nd rfl (.inl rfl) (me_var (pv 1)))
  (mb_cons (ms_setComp (i := 4) (own := [("pay", 6), ("behind", 7)]) (g := (gTup Γ.K 2 (gCons (gName 6) (gCons (gName 7) gNil)))) rfl S.nd rfl rfl (sw_true rfl rfl rfl (by decide +kernel)) (mi_zip rfl (by rfl) n.n_zip (ma_cons (me_var (pv 0)) (ma_cons (me_op opMul sMul (me_var (pv 1)) (me_var (pv 2))) ma_nil))) (blkOk_by (own := [("pay", 6), ("behind", 7)]) (N := ["pays", "heights", "base", "higher", "walks", "sign", "pay", "behind", "one", "two"]) (sc := defScope s_raised) (by decide +kernel)) (fun _ _ _ _ _ => pg_tup rfl (pgs_cons (pg_name (i := 6) S.nd rfl (.inl rfl)) (pgs_cons (pg_name (i := 7) S.nd rfl (.inl rfl)) pgs_nil))) (gw_tup rfl (gws_cons (gw_name (by decide)) (gws_cons (gw_name (by decide)) gws_nil))) (fun _ _ _ _ _ => mts_nil) (fun _ _ _ _ _ => (me_op opAdd sAdd (me_var (pv 6)) (me_var (pv 7)))))
  (mb_cons (ms_for (passes_of rfl) rfl (mi_range1 (by rfl) n.n_range (ma_cons (me_var (pv 2)) ma_nil)) (mg_name (pg_name (i := 5) S.nd rfl (.inl rfl))) (mb_one (ms_setComp (i := 3) (own := [("one", 8), ("two", 9)]) (g := (gTup Γ.K 2 (gCons (gName 8) (gCons (gName 9) gNil)))) rfl S.nd rfl rfl (sw_true rfl rfl rfl (by decide +kernel)) (mi_zip rfl (by rfl) n.n_zip (ma_cons (me_var (pv 3)) (ma_cons (me_step rfl (me_var (pv 4)) (me_var (pv 5)) (me_var (pv 2))) ma_nil))) (blkOk_by (own := [("one", 8), ("two", 9)]) (N := ["pays", "heights", "base", "higher", "walks", "sign", "pay", "behind", "one", "two"]) (sc := defScope s_raised) (by decide +kernel)) (fun _ _ _ _ _ => pg_tup rfl (pgs_cons (pg_name (i := 8) S.nd rfl (.inl rfl)) (pgs_cons (pg_name (i := 9) S.nd rfl (.inl rfl)) pgs_nil))) (gw_tup rfl (gws_cons (gw_name (by decide)) (gws_cons (gw_name (by decide)) gws_nil))) (fun _ _ _ _ _ => mts_nil) (fun _ _ _ _ _ => (me_if (mt_cmp op_gt sCmp (nomark _) (me_var (pv 8)) (me_var (pv 9))) (me_var (pv 8)) (me_var (pv 9)))))))
  (mb_one (ms_ret (me_var (pv 3)))))))
theorem ok_trail (n : Ns Γ mg) (F : Fun Γ.K "trail" "trail" s_trail f fd) : FnG P w mg base Γ 1 f fd ["pays", "layers", "start", "base"] g_trail :=
  have S := sc_trail
  ok_fn (N := ["pays", "layers", "start", "base", "number", "numbers", "signs", "level", "lower", "window"]) (c := d_trail) F S fun cdv A outer s H E W hr hg tk => (mb_cons (ms_set (i := 4) S.nd rfl (.inl rfl) (me_var (pv 2)))
  (mb_cons (ms_set (i := 5) S.nd rfl (.inl rfl) (me_lstM (ma_cons (me_var (pv 4)) ma_nil)))
  (mb_cons (ms_set (i := 6) S.nd rfl (.inl rfl) (me_lstM ma_nil))
  (mb_cons (ms_for (passes_of rfl) rfl (mi_revR2 (by rfl) n.n_reversed (by rfl) n.n_range me_int (me_callB call_len (sLen rfl) (by rfl) n.n_len (by decide +kernel) (ma_cons (me_var (pv 1)) ma_nil))) (mg_name (pg_name (i := 7) S.nd rfl (.inl rfl))) (mb_cons (ms_set (i := 8) S.nd rfl (.inl rfl) (me_ix rfl (hu_of hr) (me_var (pv 1)) (me_op op_sub sSub (me_var (pv 7)) me_int) (fun _ _ => rfl) (fun _ _ => rfl)))
  (mb_cons (ms_set (i := 9) S.nd rfl (.inl rfl) (me_op opMul sMul (me_var (pv 3)) (me_var (pv 4))))
  (mb_cons (ms_while 100000 (passes_of rfl) (mt_cmp (opNe hr.units) sNe (nomark _) (me_op opAdd sAdd (me_ix rfl (hu_of hr) (me_var (pv 0)) (me_var (pv 9)) (fun _ _ => rfl) (fun _ _ => rfl)) (me_ix rfl (hu_of hr) (me_var (pv 8)) (me_op op_mod sMod (me_var (pv 9)) (me_callB call_len (sLen rfl) (by rfl) n.n_len (by decide +kernel) (ma_cons (me_var (pv 8)) ma_nil))) (fun _ _ => rfl) (fun _ _ => rfl))) (me_ix rfl (hu_of hr) (me_ix rfl (hu_of hr) (me_var (pv 1)) (me_var (pv 7)) (fun _ _ => rfl) (fun _ _ => rfl)) (me_var (pv 4)) (fun _ _ => rfl) (fun _ _ => rfl))) (mb_one (ms_aug (i := 9) S.nd rfl (.inl rfl) me_int iop_add sAddI)))
  (mb_cons (ms_set (i := 4) S.nd rfl (.inl rfl) (me_op op_mod sMod (me_var (pv 9)) (me_callB call_len (sLen rfl) (by rfl) n.n_len (by decide +kernel) (ma_cons (me_var (pv 8)) ma_nil))))
  (mb_cons (ms_expr (me_app (pe_bm PySem.F.plainAttrs_list PySem.F.slot_list_append PySem.F.type_list_append mt_append (me_var (pv 5)) (pa_cons (me_var (pv 4)) pa_nil))))
  (mb_one (ms_expr (me_app (pe_bm PySem.F.plainAttrs_list PySem.F.slot_list_append PySem.F.type_list_append mt_append (me_var (pv 6)) (pa_cons (me_op op_mod sMod (me_var (pv 9)) (me_var (pv 3))) pa_nil)))))))))))
  (mb_one (ms_ret (me_tup (ma_cons (me_var (pv 5)) (ma_cons (me_var (pv 6)) ma_nil)))))))))
theorem ok_ring_on (n : Ns Γ mg) (F : Fun Γ.K "ring_on" "ring_on" s_ring_on f fd) : FnG P w mg base Γ 1 f fd ["numbers", "signs"] g_ring_on :=
  have S := sc_ring_on
  ok_fn (N := ["numbers", "signs", "seen", "at", "number"]) (c := d_ring_on) F S fun cdv A outer s H E W hr hg tk => (mb_cons (ms_set (i := 2) S.nd rfl (.inl rfl) me_dctM0)
  (mb_cons (ms_for (passes_of rfl) rfl (mi_enum rfl (by rfl) n.n_enumerate (ma_cons (me_var (pv 0)) ma_nil)) (mg_tup' rfl rfl (mgs_cons' (mg_name (pg_name (i := 3) S.nd rfl (.inl rfl))) (mgs_cons' (mg_name (pg_name (i := 4) S.nd rfl (.inl rfl))) mgs_nil))) (mb_cons (ms_if (mt_cmp (op_inDct hr.units) sInDct (by rfl) (me_var (pv 4)) (me_var (pv 2))) (mb_one (ms_ret (me_tup (ma_cons (me_var (pv 4)) (ma_cons (me_callTy call_tuple_of (sTuple rfl) (by rfl) n.n_tuple (by decide +kernel) (ma_cons (me_sl rfl (me_var (pv 1)) (mo_some (me_ix rfl (hu_of hr) (me_var (pv 2)) (me_var (pv 4)) (fun _ _ => rfl) (fun _ _ => rfl))) (mo_some (me_var (pv 3)))) ma_nil)) ma_nil))))) mb_nil)
  (mb_one (ms_dput (hu_of hr) (me_var (pv 2)) (me_var (pv 4)) (me_var (pv 3)) (by rfl)))))
  (mb_one (ms_ret me_non))))
theorem ok_ring_of_one (n : Ns Γ mg) (F : Fun Γ.K "ring_of_one" "ring_of_one" s_ring_of_one f fd) : FnG P w mg base Γ 1 f fd ["pays", "base"] g_ring_of_one :=
  have S := sc_ring_of_one
  ok_fn (N := ["pays", "base", "ones", "sign"]) (c := d_ring_of_one) F S fun cdv A outer s H E W hr hg tk => (mb_cons (ms_set (i := 2) S.nd rfl (.inl rfl) (me_op op_fdiv sDiv (me_op op_sub sSub (me_callB call_len (sLen rfl) (by rfl) n.n_len (by decide +kernel) (ma_cons (me_var (pv 0)) ma_nil)) me_int) (me_op op_sub sSub (me_var (pv 1)) me_int)))
  (mb_cons (ms_for (passes_of rfl) rfl (mi_range1 (by rfl) n.n_range (ma_cons (me_var (pv 1)) ma_nil)) (mg_name (pg_name (i := 3) S.nd rfl (.inl rfl))) (mb_one (ms_if (mt_cmp op_gt sCmp (nomark _) (me_ix rfl (hu_of hr) (me_var (pv 0)) (me_op opMul sMul (me_var (pv 3)) (me_var (pv 2))) (fun _ _ => rfl) (fun _ _ => rfl)) me_int) (mb_one (ms_ret (me_tup (ma_cons (me_op op_fdiv sDiv (me_op opMul sMul (me_var (pv 3)) (me_var (pv 2))) (me_var (pv 1))) (ma_cons (me_tup (ma_cons (me_var (pv 3)) ma_nil)) ma_nil))))) mb_nil)))
  (mb_one (ms_ret me_non))))
theorem ok_steepest (n : Ns Γ mg) (F : Fun Γ.K "steepest" "steepest" s_steepest f fd) : FnG P w mg base Γ 1 f fd ["layers"] g_steepest :=
  have S := sc_steepest
  ok_fn (N := ["layers", "grown", "height", "lower"]) (c := d_steepest) F S fun cdv A outer s H E W hr hg tk => (mb_cons (ms_setComp (i := 1) (own := [("height", 2), ("lower", 3)]) (g := (gTup Γ.K 2 (gCons (gName 2) (gCons (gName 3) gNil)))) rfl S.nd rfl rfl (sw_true rfl rfl rfl (by decide +kernel)) (mi_zip rfl (by rfl) n.n_zip (ma_cons (me_ix rfl (hu_of hr) (me_var (pv 0)) (me_un un_neg sNeg me_int) (fun _ _ => rfl) (fun _ _ => rfl)) (ma_cons (me_ix rfl (hu_of hr) (me_var (pv 0)) (me_un un_neg sNeg me_int) (fun _ _ => rfl) (fun _ _ => rfl)) ma_nil))) (blkOk_by (own := [("height", 2), ("lower", 3)]) (N := ["layers", "grown", "height", "lower"]) (sc := defScope s_steepest) (by decide +kernel)) (fun _ _ _ _ _ => pg_tup rfl (pgs_cons (pg_name (i := 2) S.nd rfl (.inl rfl)) (pgs_cons (pg_name (i := 3) S.nd rfl (.inl rfl)) pgs_nil))) (gw_tup rfl (gws_cons (gw_name (by decide)) (gws_cons (gw_name (by decide)) gws_nil))) (fun _ _ _ _ _ => mts_nil) (fun _ _ _ _ _ => (me_op op_sub sSub (me_var (pv 2)) (me_var (pv 3)))))
  (mb_one (ms_ret (me_index rfl (pe_bm PySem.F.plainAttrs_list PySem.F.slot_list_index PySem.F.type_list_index mt_index (me_var (pv 1)) (pa_cons (me_callB (cr_max rfl) (sMaxL rfl) (by rfl) n.n_max (by decide +kernel) (ma_cons (me_var (pv 1)) ma_nil)) pa_nil))))))
theorem ok_climb (n : Ns Γ mg) (F : Fun Γ.K "climb" "climb" s_climb f fd) (c_ring_of_one : Cal P w mg base Γ 1 "ring_of_one" ["pays", "base"] g_ring_of_one) (c_raised : Cal P w mg base Γ 1 "raised" ["pays", "heights", "base"] g_raised) (c_trail : Cal P w mg base Γ 1 "trail" ["pays", "layers", "start", "base"] g_trail) (c_steepest : Cal P w mg base Γ 1 "steepest" ["layers"] g_steepest) (c_ring_on : Cal P w mg base Γ 1 "ring_on" ["numbers", "signs"] g_ring_on) : FnG P w mg base Γ 2 f fd ["pays", "base"] g_climb :=
  have S := sc_climb
  ok_fn (N := ["pays", "base", "ring", "layers", "look", "heights", "numbers", "signs"]) (c := d_climb) F S fun cdv A outer s H E W hr hg tk => (mb_cons (ms_set (i := 2) S.nd rfl (.inl rfl) (me_cal c_ring_of_one rfl (hr.mono (by decide)) hg tk (by rfl) (ma_cons (me_var (pv 0)) (ma_cons (me_var (pv 1)) ma_nil)) 2 (len_cons (len_cons len_nil)) rfl rfl))
  (mb_cons (ms_if (mt_cmp op_notC sIsntC (nomark _) (me_var (pv 2)) me_non) (mb_one (ms_ret (me_tup (ma_cons me_non (ma_cons (me_var (pv 2)) ma_nil))))) mb_nil)
  (mb_cons (ms_set (i := 3) S.nd rfl (.inl rfl) (me_lstM (ma_cons (me_op opMul sMul (me_lst (ma_cons me_int ma_nil)) (me_op op_fdiv sDiv (me_callB call_len (sLen rfl) (by rfl) n.n_len (by decide +kernel) (ma_cons (me_var (pv 0)) ma_nil)) (me_var (pv 1)))) ma_nil)))
  (mb_cons (ms_set (i := 4) S.nd rfl (.inl rfl) me_int)
  (mb_one (ms_while 100000 (passes_of rfl) (mt_val me_bl) (mb_cons (ms_set (i := 5) S.nd rfl (.inl rfl) (me_cal c_raised rfl (hr.mono (by decide)) hg tk (by rfl) (ma_cons (me_var (pv 0)) (ma_cons (me_ix rfl (hu_of hr) (me_var (pv 3)) (me_un un_neg sNeg me_int) (fun _ _ => rfl) (fun _ _ => rfl)) (ma_cons (me_var (pv 1)) ma_nil))) 3 (len_cons (len_cons (len_cons len_nil))) rfl rfl))
  (mb_cons (ms_if (mt_cmp (opEq hr.units) sEq (nomark _) (me_var (pv 5)) (me_ix rfl (hu_of hr) (me_var (pv 3)) (me_un un_neg sNeg me_int) (fun _ _ => rfl) (fun _ _ => rfl))) (mb_one (ms_ret (me_tup (ma_cons (me_var (pv 3)) (ma_cons me_non ma_nil))))) mb_nil)
  (mb_cons (ms_expr (me_app (pe_bm PySem.F.plainAttrs_list PySem.F.slot_list_append PySem.F.type_list_append mt_append (me_var (pv 3)) (pa_cons (me_var (pv 5)) pa_nil))))
  (mb_one (ms_if (mt_cmp op_gt sCmp (nomark _) (me_callB call_len (sLen rfl) (by rfl) n.n_len (by decide +kernel) (ma_cons (me_var (pv 3)) ma_nil)) (me_var (pv 4))) (mb_cons (ms_setT (me_cal c_trail rfl (hr.mono (by decide)) hg tk (by rfl) (ma_cons (me_var (pv 0)) (ma_cons (me_var (pv 3)) (ma_cons (me_cal c_steepest rfl (hr.mono (by decide)) hg tk (by rfl) (ma_cons (me_var (pv 3)) ma_nil) 1 (len_cons len_nil) rfl rfl) (ma_cons (me_var (pv 1)) ma_nil)))) 4 (len_cons (len_cons (len_cons (len_cons len_nil)))) rfl rfl) (mg_tup' rfl rfl (mgs_cons' (mg_name (pg_name (i := 6) S.nd rfl (.inl rfl))) (mgs_cons' (mg_name (pg_name (i := 7) S.nd rfl (.inl rfl))) mgs_nil))))
  (mb_cons (ms_set (i := 2) S.nd rfl (.inl rfl) (me_cal c_ring_on rfl (hr.mono (by decide)) hg tk (by rfl) (ma_cons (me_var (pv 6)) (ma_cons (me_var (pv 7)) ma_nil)) 2 (len_cons (len_cons len_nil)) rfl rfl))
  (mb_cons (ms_if (mt_cmp op_notC sIsntC (nomark _) (me_var (pv 2)) me_non) (mb_one (ms_ret (me_tup (ma_cons me_non (ma_cons (me_var (pv 2)) ma_nil))))) mb_nil)
  (mb_one (ms_aug (i := 4) S.nd rfl (.inl rfl) (me_op opAdd sAdd me_int (me_op op_fdiv sDiv (me_var (pv 4)) me_int)) iop_add sAddI))))) mb_nil)))))))))))
theorem ok_greatest_of (n : Ns Γ mg) (F : Fun Γ.K "greatest_of" "greatest_of" s_greatest_of f fd) : FnG P w mg base Γ 1 f fd ["heights", "starts"] g_greatest_of :=
  have S := sc_greatest_of
  ok_fn (N := ["heights", "starts", "start"]) (c := d_greatest_of) F S fun cdv A outer s H E W hr hg tk => (mb_one (ms_ret (me_callB (cr_max rfl) (sMaxL rfl) (by rfl) n.n_max (by decide +kernel) (ma_cons (me_comp (own := [("start", 2)]) (g := (gName 2)) rfl S.nd (mi_seq rfl (me_var (pv 1))) (blkOk_by (own := [("start", 2)]) (N := ["heights", "starts", "start"]) (sc := defScope s_greatest_of) (by decide +kernel)) (fun _ _ _ _ _ => pg_name (i := 2) S.nd rfl (.inl rfl)) (gw_name (by decide)) (fun _ _ _ _ _ => mts_nil) (fun _ _ _ _ _ => (me_ix rfl (hu_of hr) (me_var (pv 0)) (me_var (pv 2)) (fun _ _ => rfl) (fun _ _ => rfl)))) ma_nil))))
theorem ok_best_walk (n : Ns Γ mg) (F : Fun Γ.K "best_walk" "best_walk" s_best_walk f fd) (c_greatest_of : Cal P w mg base Γ 1 "greatest_of" ["heights", "starts"] g_greatest_of) (c_trail : Cal P w mg base Γ 1 "trail" ["pays", "layers", "start", "base"] g_trail) : FnG P w mg base Γ 2 f fd ["pays", "layers", "starts", "base"] g_best_walk :=
  have S := sc_best_walk
  ok_fn (N := ["pays", "layers", "starts", "base", "top", "fewest", "best_starts", "_", "signs", "start"]) (c := d_best_walk) F S fun cdv A outer s H E W hr hg tk => (mb_cons (ms_set (i := 4) S.nd rfl (.inr rfl) (me_cal c_greatest_of rfl (hr.mono (by decide)) hg tk (by rfl) (ma_cons (me_ix rfl (hu_of hr) (me_var (pv 1)) (me_un un_neg sNeg me_int) (fun _ _ => rfl) (fun _ _ => rfl)) (ma_cons (me_var (pv 2)) ma_nil)) 2 (len_cons (len_cons len_nil)) rfl rfl))
  (mb_cons (ms_set (i := 5) S.nd rfl (.inr rfl) me_int)
  (mb_cons (ms_while 100000 (passes_of rfl) (mt_cmp op_lt sCmp (nomark _) (me_cal c_greatest_of rfl (hr.mono (by decide)) hg tk (by rfl) (ma_cons (me_ix rfl (hu_of hr) (me_var (pv 1)) (me_var (pv 5)) (fun _ _ => rfl) (fun _ _ => rfl)) (ma_cons (me_var (pv 2)) ma_nil)) 2 (len_cons (len_cons len_nil)) rfl rfl) (me_var (pv 4))) (mb_one (ms_aug (i := 5) S.nd rfl (.inr rfl) me_int iop_add sAddI)))
  (mb_cons (ms_setComp (i := 6) (own := [("start", 9)]) (g := (gName 9)) rfl S.nd rfl rfl (sw_true rfl rfl rfl (by decide +kernel)) (mi_seq rfl (me_var (pv 2))) (blkOk_by (own := [("start", 9)]) (N := ["pays", "layers", "starts", "base", "top", "fewest", "best_starts", "_", "signs", "start"]) (sc := defScope s_best_walk) (by decide +kernel)) (fun _ _ _ _ _ => pg_name (i := 9) S.nd rfl (.inl rfl)) (gw_name (by decide)) (fun _ _ _ _ _ => mts_one (mt_cmp (opEq hr.units) sEq (nomark _) (me_ix rfl (hu_of hr) (me_ix rfl (hu_of hr) (me_var (pv 1)) (me_var (pv 5)) (fun _ _ => rfl) (fun _ _ => rfl)) (me_var (pv 9)) (fun _ _ => rfl) (fun _ _ => rfl)) (me_var (pv 4)))) (fun _ _ _ _ _ => (me_var (pv 9))))
  (mb_cons (ms_setT (me_cal c_trail rfl (hr.mono (by decide)) hg tk (by rfl) (ma_cons (me_var (pv 0)) (ma_cons (me_sl rfl (me_var (pv 1)) mo_none (mo_some (me_op opAdd sAdd (me_var (pv 5)) me_int))) (ma_cons (me_ix rfl (hu_of hr) (me_var (pv 6)) me_int (fun _ _ => rfl) (fun _ _ => rfl)) (ma_cons (me_var (pv 3)) ma_nil)))) 4 (len_cons (len_cons (len_cons (len_cons len_nil)))) rfl rfl) (mg_tup' rfl rfl (mgs_cons' (mg_name (pg_name (i := 7) S.nd rfl (.inl rfl))) (mgs_cons' (mg_name (pg_name (i := 8) S.nd rfl (.inl rfl))) mgs_nil))))
  (mb_one (ms_ret (me_tup (ma_cons (me_ix rfl (hu_of hr) (me_var (pv 6)) me_int (fun _ _ => rfl) (fun _ _ => rfl)) (ma_cons (me_callTy call_tuple_of (sTuple rfl) (by rfl) n.n_tuple (by decide +kernel) (ma_cons (me_var (pv 8)) ma_nil)) ma_nil))))))))))
theorem ok_is_bounded (n : Ns Γ mg) (F : Fun Γ.K "is_bounded" "is_bounded" s_is_bounded f fd) (c_climb : Cal P w mg base Γ 2 "climb" ["pays", "base"] g_climb) (c_bit_pays : Cal P w mg base Γ 3 "bit_pays" ["bill"] g_bit_pays) (c_need_bill : Cal P w mg base Γ 5 "need_bill" ["thing"] g_need_bill) : FnG P w mg base Γ 6 f fd ["bill"] g_is_bounded :=
  have S := sc_is_bounded
  ok_fn (N := ["bill", "_", "ring"]) (c := d_is_bounded) F S fun cdv A outer s H E W hr hg tk => (mb_cons (ms_setT (me_cal c_climb rfl (hr.mono (by decide)) hg tk (by rfl) (ma_cons (me_cal c_bit_pays rfl (hr.mono (by decide)) hg tk (by rfl) (ma_cons (me_cal c_need_bill rfl (hr.mono (by decide)) hg tk (by rfl) (ma_cons (me_var (pv 0)) ma_nil) 1 (len_cons len_nil) rfl rfl) ma_nil) 1 (len_cons len_nil) rfl rfl) (ma_cons (me_globJ (by rfl) n.c_OF_BITS) ma_nil)) 2 (len_cons (len_cons len_nil)) rfl rfl) (mg_tup' rfl rfl (mgs_cons' (mg_name (pg_name (i := 1) S.nd rfl (.inl rfl))) (mgs_cons' (mg_name (pg_name (i := 2) S.nd rfl (.inl rfl))) mgs_nil))))
  (mb_one (ms_ret (me_cmp op_isC sIsC (nomark _) (me_var (pv 2)) me_non))))
theorem ok_greatest (n : Ns Γ mg) (F : Fun Γ.K "greatest" "greatest" s_greatest f fd) (c_climb : Cal P w mg base Γ 2 "climb" ["pays", "base"] g_climb) (c_bit_pays : Cal P w mg base Γ 3 "bit_pays" ["bill"] g_bit_pays) (c_need_bill : Cal P w mg base Γ 5 "need_bill" ["thing"] g_need_bill) : FnG P w mg base Γ 6 f fd ["bill"] g_greatest :=
  have S := sc_greatest
  ok_fn (N := ["bill", "layers", "ring"]) (c := d_greatest) F S fun cdv A outer s H E W hr hg tk => (mb_cons (ms_setT (me_cal c_climb rfl (hr.mono (by decide)) hg tk (by rfl) (ma_cons (me_cal c_bit_pays rfl (hr.mono (by decide)) hg tk (by rfl) (ma_cons (me_cal c_need_bill rfl (hr.mono (by decide)) hg tk (by rfl) (ma_cons (me_var (pv 0)) ma_nil) 1 (len_cons len_nil) rfl rfl) ma_nil) 1 (len_cons len_nil) rfl rfl) (ma_cons (me_globJ (by rfl) n.c_OF_BITS) ma_nil)) 2 (len_cons (len_cons len_nil)) rfl rfl) (mg_tup' rfl rfl (mgs_cons' (mg_name (pg_name (i := 1) S.nd rfl (.inl rfl))) (mgs_cons' (mg_name (pg_name (i := 2) S.nd rfl (.inl rfl))) mgs_nil))))
  (mb_cons (ms_if (mt_cmp op_notC sIsntC (nomark _) (me_var (pv 2)) me_non) (mb_one (ms_ret me_non)) mb_nil)
  (mb_one (ms_ret (me_callB (cr_max rfl) (sMaxL rfl) (by rfl) n.n_max (by decide +kernel) (ma_cons (me_ix rfl (hu_of hr) (me_var (pv 1)) (me_un un_neg sNeg me_int) (fun _ _ => rfl) (fun _ _ => rfl)) ma_nil))))))
theorem ok_best_row_of (n : Ns Γ mg) (F : Fun Γ.K "best_row_of" "best_row_of" s_best_row_of f fd) (c_best_walk : Cal P w mg base Γ 2 "best_walk" ["pays", "layers", "starts", "base"] g_best_walk) (c_signs_of : Cal P w mg base Γ 1 "signs_of" ["number", "signs", "wide"] g_signs_of) (c_width_of : Cal P w mg base Γ 1 "width_of" ["bill"] g_width_of) : FnG P w mg base Γ 3 f fd ["bill", "pays", "layers"] g_best_row_of :=
  have S := sc_best_row_of
  ok_fn (N := ["bill", "pays", "layers", "start", "bits"]) (c := d_best_row_of) F S fun cdv A outer s H E W hr hg tk => (mb_cons (ms_setT (me_cal c_best_walk rfl (hr.mono (by decide)) hg tk (by rfl) (ma_cons (me_var (pv 1)) (ma_cons (me_var (pv 2)) (ma_cons (me_listRg1 rfl (by rfl) n.n_list (by rfl) n.n_range (me_callB call_len (sLen rfl) (by rfl) n.n_len (by decide +kernel) (ma_cons (me_ix rfl (hu_of hr) (me_var (pv 2)) me_int (fun _ _ => rfl) (fun _ _ => rfl)) ma_nil))) (ma_cons (me_globJ (by rfl) n.c_OF_BITS) ma_nil)))) 4 (len_cons (len_cons (len_cons (len_cons len_nil)))) rfl rfl) (mg_tup' rfl rfl (mgs_cons' (mg_name (pg_name (i := 3) S.nd rfl (.inl rfl))) (mgs_cons' (mg_name (pg_name (i := 4) S.nd rfl (.inl rfl))) mgs_nil))))
  (mb_one (ms_ret (me_op opAdd sAdd (me_cal c_signs_of rfl (hr.mono (by decide)) hg tk (by rfl) (ma_cons (me_var (pv 3)) (ma_cons (me_globT rfl (by rfl) n.c_BITS) (ma_cons (me_cal c_width_of rfl (hr.mono (by decide)) hg tk (by rfl) (ma_cons (me_var (pv 0)) ma_nil) 1 (len_cons len_nil) rfl rfl) ma_nil))) 3 (len_cons (len_cons (len_cons len_nil))) rfl rfl) (me_var (pv 4))))))
theorem ok_best_row (n : Ns Γ mg) (F : Fun Γ.K "best_row" "best_row" s_best_row f fd) (c_bit_pays : Cal P w mg base Γ 3 "bit_pays" ["bill"] g_bit_pays) (c_need_bill : Cal P w mg base Γ 5 "need_bill" ["thing"] g_need_bill) (c_climb : Cal P w mg base Γ 2 "climb" ["pays", "base"] g_climb) (c_best_row_of : Cal P w mg base Γ 3 "best_row_of" ["bill", "pays", "layers"] g_best_row_of) : FnG P w mg base Γ 6 f fd ["bill"] g_best_row :=
  have S := sc_best_row
  ok_fn (N := ["bill", "pays", "layers", "ring"]) (c := d_best_row) F S fun cdv A outer s H E W hr hg tk => (mb_cons (ms_set (i := 1) S.nd rfl (.inl rfl) (me_cal c_bit_pays rfl (hr.mono (by decide)) hg tk (by rfl) (ma_cons (me_cal c_need_bill rfl (hr.mono (by decide)) hg tk (by rfl) (ma_cons (me_var (pv 0)) ma_nil) 1 (len_cons len_nil) rfl rfl) ma_nil) 1 (len_cons len_nil) rfl rfl))
  (mb_cons (ms_setT (me_cal c_climb rfl (hr.mono (by decide)) hg tk (by rfl) (ma_cons (me_var (pv 1)) (ma_cons (me_globJ (by rfl) n.c_OF_BITS) ma_nil)) 2 (len_cons (len_cons len_nil)) rfl rfl) (mg_tup' rfl rfl (mgs_cons' (mg_name (pg_name (i := 2) S.nd rfl (.inl rfl))) (mgs_cons' (mg_name (pg_name (i := 3) S.nd rfl (.inl rfl))) mgs_nil))))
  (mb_cons (ms_if (mt_cmp op_notC sIsntC (nomark _) (me_var (pv 3)) me_non) (mb_one (ms_ret me_non)) mb_nil)
  (mb_one (ms_ret (me_cal c_best_row_of rfl (hr.mono (by decide)) hg tk (by rfl) (ma_cons (me_var (pv 0)) (ma_cons (me_var (pv 1)) (ma_cons (me_var (pv 2)) ma_nil))) 3 (len_cons (len_cons (len_cons len_nil))) rfl rfl))))))
theorem ok__law_begun (n : Ns Γ mg) (F : Fun Γ.K "_law_begun" "_law_begun" s__law_begun f fd) : FnG P w mg base Γ 1 f fd ["script"] g__law_begun :=
  have S := sc__law_begun
  ok_fn (N := ["script", "great", "cell"]) (c := d__law_begun) F S fun cdv A outer s H E W hr hg tk => (mb_cons (ms_setComp (i := 1) (own := [("cell", 2)]) (g := (gName 2)) rfl S.nd rfl rfl (sw_true rfl rfl rfl (by decide +kernel)) (mi_seq rfl (me_var (pv 0))) (blkOk_by (own := [("cell", 2)]) (N := ["script", "great", "cell"]) (sc := defScope s__law_begun) (by decide +kernel)) (fun _ _ _ _ _ => pg_name (i := 2) S.nd rfl (.inl rfl)) (gw_name (by decide)) (fun _ _ _ _ _ => mts_one (mt_cmp op_ge sCmp (nomark _) (me_var (pv 2)) (me_op op_pow sPow me_int me_int))) (fun _ _ _ _ _ => (me_var (pv 2))))
  (mb_one (ms_ret (me_dctM (ps := [((mK (.str "cells")), (mBin addD (mBlt listD (mCons (mVar 0) mNil)) (mLst (mCons (mBlt lenD (mCons (mVar 0) mNil)) mNil)))), ((mK (.str "left")), (mIf (mTest (mBin neD (mVar 1) (mLst mNil))) (mBin ixA (mVar 1) (mK (.int 0))) (mK (.int 0)))), ((mK (.str "spot")), (mK (.int 0)))]) (pps_cons me_str (me_op opAdd sAdd (me_callTy call_list_of (sList rfl) (by rfl) n.n_list (by decide +kernel) (ma_cons (me_var (pv 0)) ma_nil)) (me_lst (ma_cons (me_callB call_len (sLen rfl) (by rfl) n.n_len (by decide +kernel) (ma_cons (me_var (pv 0)) ma_nil)) ma_nil))) (pps_cons me_str (me_if (mt_cmp (opNe hr.units) sNe (nomark _) (me_var (pv 1)) (me_lst ma_nil)) (me_ix rfl (hu_of hr) (me_var (pv 1)) me_int (fun _ _ => rfl) (fun _ _ => rfl)) me_int) (pps_cons me_str me_int pps_nil))) rfl rfl (by decide) (by decide)))))
theorem ok__law_draw (n : Ns Γ mg) (F : Fun Γ.K "_law_draw" "_law_draw" s__law_draw f fd) : FnG P w mg base Γ 1 f fd ["m", "many"] g__law_draw :=
  have S := sc__law_draw
  ok_fn (N := ["m", "many", "found", "spot", "cell", "mixed"]) (c := d__law_draw) F S fun cdv A outer s H E W hr hg tk => (mb_cons (ms_if (mt_cmp op_gt sCmp (nomark _) (me_ix rfl (hu_of hr) (me_var (pv 0)) me_str (fun _ _ => rfl) (fun _ _ => rfl)) me_int) (mb_cons (ms_set (i := 2) S.nd rfl (.inl rfl) (me_op op_mod sMod (me_callTy call_int1 sInt (by rfl) n.n_int (by decide +kernel) (ma_cons (me_ix rfl (hu_of hr) (me_var (pv 0)) me_str (fun _ _ => rfl) (fun _ _ => rfl)) ma_nil)) (me_var (pv 1))))
  (mb_cons (ms_dput (hu_of hr) (me_var (pv 0)) me_str (me_op op_fdiv sDiv (me_ix rfl (hu_of hr) (me_var (pv 0)) me_str (fun _ _ => rfl) (fun _ _ => rfl)) (me_var (pv 1))) (by rfl))
  (mb_one (ms_ret (me_var (pv 2)))))) mb_nil)
  (mb_cons (ms_set (i := 3) S.nd rfl (.inl rfl) (me_op opAdd sAdd (me_ix rfl (hu_of hr) (me_var (pv 0)) me_str (fun _ _ => rfl) (fun _ _ => rfl)) me_int))
  (mb_cons (ms_dput (hu_of hr) (me_var (pv 0)) me_str (me_var (pv 3)) (by rfl))
  (mb_cons (ms_set (i := 4) S.nd rfl (.inl rfl) (me_ix rfl (hu_of hr) (me_ix rfl (hu_of hr) (me_var (pv 0)) me_str (fun _ _ => rfl) (fun _ _ => rfl)) (me_op op_mod sMod (me_callTy call_int1 sInt (by rfl) n.n_int (by decide +kernel) (ma_cons (me_var (pv 3)) ma_nil)) (me_callB call_len (sLen rfl) (by rfl) n.n_len (by decide +kernel) (ma_cons (me_ix rfl (hu_of hr) (me_var (pv 0)) me_str (fun _ _ => rfl) (fun _ _ => rfl)) ma_nil))) (fun _ _ => rfl) (fun _ _ => rfl)))
  (mb_cons (ms_set (i := 5) S.nd rfl (.inl rfl) (me_op opMul sMul (me_callTy call_int1 sInt (by rfl) n.n_int (by decide +kernel) (ma_cons (me_op opAdd sAdd (me_op opAdd sAdd (me_op op_mod sMod (me_callTy call_int1 sInt (by rfl) n.n_int (by decide +kernel) (ma_cons (me_var (pv 4)) ma_nil)) me_int) (me_op opMul sMul me_int (me_var (pv 3)))) (me_op opMul sMul (me_op opMul sMul me_int (me_var (pv 3))) (me_var (pv 3)))) ma_nil)) me_int))
  (mb_cons (ms_set (i := 5) S.nd rfl (.inl rfl) (me_op opMul sMul (me_callTy call_int1 sInt (by rfl) n.n_int (by decide +kernel) (ma_cons (me_op opAdd sAdd (me_op op_mod sMod (me_callTy call_int1 sInt (by rfl) n.n_int (by decide +kernel) (ma_cons (me_var (pv 5)) ma_nil)) me_int) (me_op opMul sMul me_int (me_var (pv 3)))) ma_nil)) me_int))
  (mb_one (ms_ret (me_op op_mod sMod (me_callTy call_int1 sInt (by rfl) n.n_int (by decide +kernel) (ma_cons (me_op op_fdiv sDiv (me_op op_mod sMod (me_callTy call_int1 sInt (by rfl) n.n_int (by decide +kernel) (ma_cons (me_var (pv 5)) ma_nil)) me_int) me_int) ma_nil)) (me_var (pv 1)))))))))))
theorem ok__law_of (n : Ns Γ mg) (F : Fun Γ.K "_law_of" "_law_of" s__law_of f fd) (c__law_draw : Cal P w mg base Γ 1 "_law_draw" ["m", "many"] g__law_draw) : FnG P w mg base Γ 2 f fd ["m", "some"] g__law_of :=
  have S := sc__law_of
  ok_fn (N := ["m", "some"]) (c := d__law_of) F S fun cdv A outer s H E W hr hg tk => (mb_one (ms_ret (me_ix rfl (hu_of hr) (me_var (pv 1)) (me_cal c__law_draw rfl (hr.mono (by decide)) hg tk (by rfl) (ma_cons (me_var (pv 0)) (ma_cons (me_callB call_len (sLen rfl) (by rfl) n.n_len (by decide +kernel) (ma_cons (me_var (pv 1)) ma_nil)) ma_nil)) 2 (len_cons (len_cons len_nil)) rfl rfl) (fun _ _ => rfl) (fun _ _ => rfl))))
theorem ok__law_weights (n : Ns Γ mg) (F : Fun Γ.K "_law_weights" "_law_weights" s__law_weights f fd) (c__law_draw : Cal P w mg base Γ 1 "_law_draw" ["m", "many"] g__law_draw) : FnG P w mg base Γ 2 f fd ["m", "most"] g__law_weights :=
  have S := sc__law_weights
  ok_fn (N := ["m", "most", "wide", "some", "k"]) (c := d__law_weights) F S fun cdv A outer s H E W hr hg tk => (mb_cons (ms_set (i := 2) S.nd rfl (.inr rfl) (me_cal c__law_draw rfl (hr.mono (by decide)) hg tk (by rfl) (ma_cons (me_var (pv 0)) (ma_cons me_int ma_nil)) 2 (len_cons (len_cons len_nil)) rfl rfl))
  (mb_cons (ms_setComp (i := 3) (own := [("k", 4)]) (g := (gName 4)) rfl S.nd rfl rfl (sw_true rfl rfl rfl (by decide +kernel)) (mi_range1 (by rfl) n.n_range (ma_cons (me_op opAdd sAdd me_int (me_cal c__law_draw rfl (hr.mono (by decide)) hg tk (by rfl) (ma_cons (me_var (pv 0)) (ma_cons (me_var (pv 1)) ma_nil)) 2 (len_cons (len_cons len_nil)) rfl rfl)) ma_nil)) (blkOk_by (own := [("k", 4)]) (N := ["m", "most", "wide", "some", "k"]) (sc := defScope s__law_weights) (by decide +kernel)) (fun _ _ _ _ _ => pg_name (i := 4) S.nd rfl (.inl rfl)) (gw_name (by decide)) (fun _ _ _ _ _ => mts_nil) (fun _ _ _ _ _ => (me_if (mt_cmp (opEq hr.units) sEq (nomark _) (me_var (pv 2)) me_int) (me_op op_sub sSub (me_cal c__law_draw rfl (hr.mono (by decide)) hg tk0 (by rfl) (ma_cons (me_var (pv 0)) (ma_cons me_int ma_nil)) 2 (len_cons (len_cons len_nil)) rfl rfl) me_int) (me_cal c__law_draw rfl (hr.mono (by decide)) hg tk0 (by rfl) (ma_cons (me_var (pv 0)) (ma_cons me_int ma_nil)) 2 (len_cons (len_cons len_nil)) rfl rfl))))
  (mb_one (ms_ret (me_callTy call_tuple_of (sTuple rfl) (by rfl) n.n_tuple (by decide +kernel) (ma_cons (me_var (pv 3)) ma_nil))))))
theorem ok__law_drawn_bill (n : Ns Γ mg) (F : Fun Γ.K "_law_drawn_bill" "_law_drawn_bill" s__law_drawn_bill f fd) (c__law_of : Cal P w mg base Γ 2 "_law_of" ["m", "some"] g__law_of) (c__law_draw : Cal P w mg base Γ 1 "_law_draw" ["m", "many"] g__law_draw) (c__law_weights : Cal P w mg base Γ 2 "_law_weights" ["m", "most"] g__law_weights) : FnG P w mg base Γ 3 f fd ["m", "most"] g__law_drawn_bill :=
  have S := sc__law_drawn_bill
  ok_fn (N := ["m", "most", "own", "terms", "k"]) (c := d__law_drawn_bill) F S fun cdv A outer s H E W hr hg tk => (mb_cons (ms_par rfl S.nd rfl rfl (by decide) rfl rfl (ma_cons (me_cal c__law_of rfl (hr.mono (by decide)) hg tk (by rfl) (ma_cons (me_var (pv 0)) (ma_cons (me_lst (ma_cons me_int (ma_cons me_int (ma_cons me_int (ma_cons (me_un un_neg sNeg me_int) (ma_cons (me_op op_sub sSub (me_cal c__law_draw rfl (hr.mono (by decide)) hg tk (by rfl) (ma_cons (me_var (pv 0)) (ma_cons me_int ma_nil)) 2 (len_cons (len_cons len_nil)) rfl rfl) me_int) ma_nil)))))) ma_nil)) 2 (len_cons (len_cons len_nil)) rfl rfl) (ma_cons (me_lstM ma_nil) ma_nil)) (by rfl))
  (mb_cons (ms_for (passes_of rfl) rfl (mi_range1 (by rfl) n.n_range (ma_cons (me_cal c__law_draw rfl (hr.mono (by decide)) hg tk (by rfl) (ma_cons (me_var (pv 0)) (ma_cons me_int ma_nil)) 2 (len_cons (len_cons len_nil)) rfl rfl) ma_nil)) (mg_name (pg_name (i := 4) S.nd rfl (.inl rfl))) (mb_one (ms_expr (me_app (pe_bm PySem.F.plainAttrs_list PySem.F.slot_list_append PySem.F.type_list_append mt_append (me_var (pv 3)) (pa_cons (me_tup (ma_cons (me_cal c__law_weights rfl (hr.mono (by decide)) hg tk (by rfl) (ma_cons (me_var (pv 0)) (ma_cons (me_var (pv 1)) ma_nil)) 2 (len_cons (len_cons len_nil)) rfl rfl) (ma_cons (me_op op_sub sSub (me_cal c__law_draw rfl (hr.mono (by decide)) hg tk (by rfl) (ma_cons (me_var (pv 0)) (ma_cons me_int ma_nil)) 2 (len_cons (len_cons len_nil)) rfl rfl) me_int) (ma_cons (me_op op_sub sSub (me_cal c__law_draw rfl (hr.mono (by decide)) hg tk (by rfl) (ma_cons (me_var (pv 0)) (ma_cons me_int ma_nil)) 2 (len_cons (len_cons len_nil)) rfl rfl) me_int) ma_nil)))) pa_nil))))))
  (mb_one (ms_ret (me_tup (ma_cons (me_var (pv 2)) (ma_cons (me_callTy call_tuple_of (sTuple rfl) (by rfl) n.n_tuple (by decide +kernel) (ma_cons (me_var (pv 3)) ma_nil)) ma_nil)))))))
theorem ok__law_tame_bill (n : Ns Γ mg) (F : Fun Γ.K "_law_tame_bill" "_law_tame_bill" s__law_tame_bill f fd) (c__law_draw : Cal P w mg base Γ 1 "_law_draw" ["m", "many"] g__law_draw) (c__law_of : Cal P w mg base Γ 2 "_law_of" ["m", "some"] g__law_of) : FnG P w mg base Γ 3 f fd ["m", "most"] g__law_tame_bill :=
  have S := sc__law_tame_bill
  ok_fn (N := ["m", "most", "some", "own", "k"]) (c := d__law_tame_bill) F S fun cdv A outer s H E W hr hg tk => (mb_cons (ms_set (i := 2) S.nd rfl (.inl rfl) (me_callTy call_tuple_of (sTuple rfl) (by rfl) n.n_tuple (by decide +kernel) (ma_cons (me_comp (own := [("k", 4)]) (g := (gName 4)) rfl S.nd (mi_range1 (by rfl) n.n_range (ma_cons (me_op opAdd sAdd me_int (me_cal c__law_draw rfl (hr.mono (by decide)) hg tk (by rfl) (ma_cons (me_var (pv 0)) (ma_cons (me_var (pv 1)) ma_nil)) 2 (len_cons (len_cons len_nil)) rfl rfl)) ma_nil)) (blkOk_by (own := [("k", 4)]) (N := ["m", "most", "some", "own", "k"]) (sc := defScope s__law_tame_bill) (by decide +kernel)) (fun _ _ _ _ _ => pg_name (i := 4) S.nd rfl (.inl rfl)) (gw_name (by decide)) (fun _ _ _ _ _ => mts_nil) (fun _ _ _ _ _ => (me_cal c__law_draw rfl (hr.mono (by decide)) hg tk0 (by rfl) (ma_cons (me_var (pv 0)) (ma_cons me_int ma_nil)) 2 (len_cons (len_cons len_nil)) rfl rfl))) ma_nil)))
  (mb_cons (ms_set (i := 3) S.nd rfl (.inl rfl) (me_cal c__law_of rfl (hr.mono (by decide)) hg tk (by rfl) (ma_cons (me_var (pv 0)) (ma_cons (me_lst (ma_cons me_int (ma_cons (me_op op_sub sSub me_int (me_callB (cr_sumA rfl) (sSumA rfl) (by rfl) n.n_sum (by decide +kernel) (ma_cons (me_var (pv 2)) ma_nil))) (ma_cons (me_op op_sub sSub (me_cal c__law_draw rfl (hr.mono (by decide)) hg tk (by rfl) (ma_cons (me_var (pv 0)) (ma_cons me_int ma_nil)) 2 (len_cons (len_cons len_nil)) rfl rfl) me_int) ma_nil)))) ma_nil)) 2 (len_cons (len_cons len_nil)) rfl rfl))
  (mb_one (ms_ret (me_tup (ma_cons (me_var (pv 3)) (ma_cons (me_tup (ma_cons (me_tup (ma_cons (me_var (pv 2)) (ma_cons (me_op op_sub sSub (me_cal c__law_draw rfl (hr.mono (by decide)) hg tk (by rfl) (ma_cons (me_var (pv 0)) (ma_cons me_int ma_nil)) 2 (len_cons (len_cons len_nil)) rfl rfl) me_int) (ma_cons (me_op op_sub sSub (me_cal c__law_draw rfl (hr.mono (by decide)) hg tk (by rfl) (ma_cons (me_var (pv 0)) (ma_cons me_int ma_nil)) 2 (len_cons (len_cons len_nil)) rfl rfl) me_int) ma_nil)))) ma_nil)) ma_nil)))))))
theorem ok__law_drawn_row (n : Ns Γ mg) (F : Fun Γ.K "_law_drawn_row" "_law_drawn_row" s__law_drawn_row f fd) (c__law_draw : Cal P w mg base Γ 1 "_law_draw" ["m", "many"] g__law_draw) : FnG P w mg base Γ 2 f fd ["m", "least", "more", "high"] g__law_drawn_row :=
  have S := sc__law_drawn_row
  ok_fn (N := ["m", "least", "more", "high", "k"]) (c := d__law_drawn_row) F S fun cdv A outer s H E W hr hg tk => (mb_one (ms_ret (me_callTy call_tuple_of (sTuple rfl) (by rfl) n.n_tuple (by decide +kernel) (ma_cons (me_comp (own := [("k", 4)]) (g := (gName 4)) rfl S.nd (mi_range1 (by rfl) n.n_range (ma_cons (me_op opAdd sAdd (me_var (pv 1)) (me_cal c__law_draw rfl (hr.mono (by decide)) hg tk (by rfl) (ma_cons (me_var (pv 0)) (ma_cons (me_op opAdd sAdd (me_var (pv 2)) me_int) ma_nil)) 2 (len_cons (len_cons len_nil)) rfl rfl)) ma_nil)) (blkOk_by (own := [("k", 4)]) (N := ["m", "least", "more", "high", "k"]) (sc := defScope s__law_drawn_row) (by decide +kernel)) (fun _ _ _ _ _ => pg_name (i := 4) S.nd rfl (.inl rfl)) (gw_name (by decide)) (fun _ _ _ _ _ => mts_nil) (fun _ _ _ _ _ => (me_cal c__law_draw rfl (hr.mono (by decide)) hg tk0 (by rfl) (ma_cons (me_var (pv 0)) (ma_cons (me_op opAdd sAdd (me_var (pv 3)) me_int) ma_nil)) 2 (len_cons (len_cons len_nil)) rfl rfl))) ma_nil))))
theorem ok__law_index (n : Ns Γ mg) (F : Fun Γ.K "_law_index" "_law_index" s__law_index f fd) : FnG P w mg base Γ 1 f fd ["rule_so", "some"] g__law_index :=
  have S := sc__law_index
  ok_fn (N := ["rule_so", "some", "found", "left", "k"]) (c := d__law_index) F S fun cdv A outer s H E W hr hg tk => (mb_cons (ms_par rfl S.nd rfl rfl (by decide) rfl rfl (ma_cons me_int (ma_cons (me_callB cr_sortedA (sSortedA rfl) (by rfl) n.n_sorted (by decide +kernel) (ma_cons (me_var (pv 1)) ma_nil)) ma_nil)) (by rfl))
  (mb_cons (ms_for (passes_of rfl) rfl (mi_range1 (by rfl) n.n_range (ma_cons (me_callB call_len (sLen rfl) (by rfl) n.n_len (by decide +kernel) (ma_cons (me_var (pv 0)) ma_nil)) ma_nil)) (mg_name (pg_name (i := 4) S.nd rfl (.inl rfl))) (mb_one (ms_set (i := 2) S.nd rfl (.inl rfl) (me_op opAdd sAdd (me_var (pv 2)) (me_op opMul sMul (me_ix rfl (hu_of hr) (me_var (pv 0)) (me_var (pv 4)) (fun _ _ => rfl) (fun _ _ => rfl)) (me_ix rfl (hu_of hr) (me_var (pv 3)) (me_var (pv 4)) (fun _ _ => rfl) (fun _ _ => rfl)))))))
  (mb_one (ms_ret (me_var (pv 2))))))
theorem ok__law_wide (n : Ns Γ mg) (F : Fun Γ.K "_law_wide" "_law_wide" s__law_wide f fd) : FnG P w mg base Γ 1 f fd ["bill_so"] g__law_wide :=
  have S := sc__law_wide
  ok_fn (N := ["bill_so", "term"]) (c := d__law_wide) F S fun cdv A outer s H E W hr hg tk => (mb_one (ms_ret (me_callB (cr_max rfl) (sMaxL rfl) (by rfl) n.n_max (by decide +kernel) (ma_cons (me_op opAdd sAdd (me_lst (ma_cons me_int ma_nil)) (me_comp (own := [("term", 1)]) (g := (gName 1)) rfl S.nd (mi_seq rfl (me_ix rfl (hu_of hr) (me_var (pv 0)) me_int (fun _ _ => rfl) (fun _ _ => rfl))) (blkOk_by (own := [("term", 1)]) (N := ["bill_so", "term"]) (sc := defScope s__law_wide) (by decide +kernel)) (fun _ _ _ _ _ => pg_name (i := 1) S.nd rfl (.inl rfl)) (gw_name (by decide)) (fun _ _ _ _ _ => mts_nil) (fun _ _ _ _ _ => (me_callB call_len (sLen rfl) (by rfl) n.n_len (by decide +kernel) (ma_cons (me_ix rfl (hu_of hr) (me_var (pv 1)) me_int (fun _ _ => rfl) (fun _ _ => rfl)) ma_nil))))) ma_nil))))
theorem ok__law_paid (n : Ns Γ mg) (F : Fun Γ.K "_law_paid" "_law_paid" s__law_paid f fd) (c__law_wide : Cal P w mg base Γ 1 "_law_wide" ["bill_so"] g__law_wide) (c__law_index : Cal P w mg base Γ 1 "_law_index" ["rule_so", "some"] g__law_index) : FnG P w mg base Γ 2 f fd ["bill_so", "row_so"] g__law_paid :=
  have S := sc__law_paid
  ok_fn (N := ["bill_so", "row_so", "found", "spot", "whole", "rule_so", "before", "after", "size"]) (c := d__law_paid) F S fun cdv A outer s H E W hr hg tk => (mb_cons (ms_set (i := 2) S.nd rfl (.inl rfl) (me_lstM ma_nil))
  (mb_cons (ms_for (passes_of rfl) rfl (mi_range2 (by rfl) n.n_range (ma_cons (me_cal c__law_wide rfl (hr.mono (by decide)) hg tk (by rfl) (ma_cons (me_var (pv 0)) ma_nil) 1 (len_cons len_nil) rfl rfl) (ma_cons (me_callB call_len (sLen rfl) (by rfl) n.n_len (by decide +kernel) (ma_cons (me_var (pv 1)) ma_nil)) ma_nil))) (mg_name (pg_name (i := 3) S.nd rfl (.inl rfl))) (mb_cons (ms_set (i := 4) S.nd rfl (.inl rfl) (me_op opMul sMul (me_ix rfl (hu_of hr) (me_var (pv 0)) me_int (fun _ _ => rfl) (fun _ _ => rfl)) (me_ix rfl (hu_of hr) (me_var (pv 1)) (me_var (pv 3)) (fun _ _ => rfl) (fun _ _ => rfl))))
  (mb_cons (ms_for (passes_of rfl) rfl (mi_seq rfl (me_ix rfl (hu_of hr) (me_var (pv 0)) me_int (fun _ _ => rfl) (fun _ _ => rfl))) (mg_tup' rfl rfl (mgs_cons' (mg_name (pg_name (i := 5) S.nd rfl (.inl rfl))) (mgs_cons' (mg_name (pg_name (i := 6) S.nd rfl (.inl rfl))) (mgs_cons' (mg_name (pg_name (i := 7) S.nd rfl (.inl rfl))) mgs_nil)))) (mb_cons (ms_set (i := 8) S.nd rfl (.inl rfl) (me_callB call_len (sLen rfl) (by rfl) n.n_len (by decide +kernel) (ma_cons (me_var (pv 5)) ma_nil)))
  (mb_cons (ms_set (i := 4) S.nd rfl (.inl rfl) (me_op opAdd sAdd (me_var (pv 4)) (me_op opMul sMul (me_var (pv 6)) (me_cal c__law_index rfl (hr.mono (by decide)) hg tk (by rfl) (ma_cons (me_var (pv 5)) (ma_cons (me_sl rfl (me_var (pv 1)) (mo_some (me_op op_sub sSub (me_var (pv 3)) (me_var (pv 8)))) (mo_some (me_var (pv 3)))) ma_nil)) 2 (len_cons (len_cons len_nil)) rfl rfl))))
  (mb_one (ms_set (i := 4) S.nd rfl (.inl rfl) (me_op opAdd sAdd (me_var (pv 4)) (me_op opMul sMul (me_var (pv 7)) (me_cal c__law_index rfl (hr.mono (by decide)) hg tk (by rfl) (ma_cons (me_var (pv 5)) (ma_cons (me_sl rfl (me_var (pv 1)) (mo_some (me_op op_sub sSub (me_op opAdd sAdd (me_var (pv 3)) me_int) (me_var (pv 8)))) (mo_some (me_op opAdd sAdd (me_var (pv 3)) me_int))) ma_nil)) 2 (len_cons (len_cons len_nil)) rfl rfl))))))))
  (mb_one (ms_expr (me_app (pe_bm PySem.F.plainAttrs_list PySem.F.slot_list_append PySem.F.type_list_append mt_append (me_var (pv 2)) (pa_cons (me_var (pv 4)) pa_nil))))))))
  (mb_one (ms_ret (me_var (pv 2))))))
theorem ok__law_bit_rows (n : Ns Γ mg) (F : Fun Γ.K "_law_bit_rows" "_law_bit_rows" s__law_bit_rows f fd) : FnG P w mg base Γ 1 f fd ["many"] g__law_bit_rows :=
  have S := sc__law_bit_rows
  ok_fn (N := ["many", "found", "k", "longer", "row"]) (c := d__law_bit_rows) F S fun cdv A outer s H E W hr hg tk => (mb_cons (ms_set (i := 1) S.nd rfl (.inl rfl) (me_lst (ma_cons (me_tup ma_nil) ma_nil)))
  (mb_cons (ms_for (passes_of rfl) rfl (mi_range1 (by rfl) n.n_range (ma_cons (me_var (pv 0)) ma_nil)) (mg_name (pg_name (i := 2) S.nd rfl (.inl rfl))) (mb_cons (ms_set (i := 3) S.nd rfl (.inl rfl) (me_lst ma_nil))
  (mb_cons (ms_for (passes_of rfl) rfl (mi_seq rfl (me_var (pv 1))) (mg_name (pg_name (i := 4) S.nd rfl (.inl rfl))) (mb_one (ms_set (i := 3) S.nd rfl (.inl rfl) (me_op opAdd sAdd (me_var (pv 3)) (me_lst (ma_cons (me_op opAdd sAdd (me_var (pv 4)) (me_tup (ma_cons me_int ma_nil))) (ma_cons (me_op opAdd sAdd (me_var (pv 4)) (me_tup (ma_cons me_int ma_nil))) ma_nil)))))))
  (mb_one (ms_set (i := 1) S.nd rfl (.inl rfl) (me_var (pv 3)))))))
  (mb_one (ms_ret (me_var (pv 1))))))
theorem ok__law_net (n : Ns Γ mg) (F : Fun Γ.K "_law_net" "_law_net" s__law_net f fd) (c__law_bit_rows : Cal P w mg base Γ 1 "_law_bit_rows" ["many"] g__law_bit_rows) (c__law_wide : Cal P w mg base Γ 1 "_law_wide" ["bill_so"] g__law_wide) (c__law_paid : Cal P w mg base Γ 2 "_law_paid" ["bill_so", "row_so"] g__law_paid) : FnG P w mg base Γ 3 f fd ["bill_so"] g__law_net :=
  have S := sc__law_net
  ok_fn (N := ["bill_so", "net", "place", "steps", "bit"]) (c := d__law_net) F S fun cdv A outer s H E W hr hg tk => (mb_cons (ms_set (i := 1) S.nd rfl (.inl rfl) me_dctT0)
  (mb_cons (ms_for (passes_of rfl) rfl (mi_seq rfl (me_cal c__law_bit_rows rfl (hr.mono (by decide)) hg tk (by rfl) (ma_cons (me_cal c__law_wide rfl (hr.mono (by decide)) hg tk (by rfl) (ma_cons (me_var (pv 0)) ma_nil) 1 (len_cons len_nil) rfl rfl) ma_nil) 1 (len_cons len_nil) rfl rfl)) (mg_name (pg_name (i := 2) S.nd rfl (.inr rfl))) (mb_cons (ms_setComp (i := 3) (own := [("bit", 4)]) (g := (gName 4)) rfl S.nd rfl rfl (sw_true rfl rfl rfl (by decide +kernel)) (mi_seq rfl (me_tup (ma_cons me_int (ma_cons me_int ma_nil)))) (blkOk_by (own := [("bit", 4)]) (N := ["bill_so", "net", "place", "steps", "bit"]) (sc := defScope s__law_net) (by decide +kernel)) (fun _ _ _ _ _ => pg_name (i := 4) S.nd rfl (.inl rfl)) (gw_name (by decide)) (fun _ _ _ _ _ => mts_nil) (fun _ _ _ _ _ => (me_tup (ma_cons (me_var (pv 4)) (ma_cons (me_ix rfl (hu_of hr) (me_cal c__law_paid rfl (hr.mono (by decide)) hg tk0 (by rfl) (ma_cons (me_var (pv 0)) (ma_cons (me_op opAdd sAdd (me_var (pv 2)) (me_tup (ma_cons (me_var (pv 4)) ma_nil))) ma_nil)) 2 (len_cons (len_cons len_nil)) rfl rfl) me_int (fun _ _ => rfl) (fun _ _ => rfl)) (ma_cons (me_op opAdd sAdd (me_sl rfl (me_var (pv 2)) (mo_some me_int) mo_none) (me_tup (ma_cons (me_var (pv 4)) ma_nil))) ma_nil))))))
  (mb_one (ms_putT rfl hr.units (me_var (pv 1)) (me_var (pv 2)) (me_var (pv 3)) (by rfl)))))
  (mb_one (ms_retF (me_var (pv 1))))))
theorem ok__law_best (n : Ns Γ mg) (F : Fun Γ.K "_law_best" "_law_best" s__law_best f fd) : FnG P w mg base Γ 1 f fd ["net"] g__law_best :=
  have S := sc__law_best
  ok_fn (N := ["net", "best", "place", "lap", "later", "mark", "pay", "there"]) (c := d__law_best) F S fun cdv A outer s H E W hr hg tk => (mb_cons (ms_set (i := 1) S.nd rfl (.inr rfl) me_dctT0)
  (mb_cons (ms_for (passes_of rfl) rfl (mi_n (me_var (pv 0))) (mg_name (pg_name (i := 2) S.nd rfl (.inl rfl))) (mb_one (ms_putT rfl hr.units (me_var (pv 1)) (me_var (pv 2)) me_int (by rfl))))
  (mb_cons (ms_for (passes_of rfl) rfl (mi_range1 (by rfl) n.n_range (ma_cons (me_op opAdd sAdd (me_callB call_lenT sLenT (by rfl) n.n_len (by decide +kernel) (ma_cons (me_var (pv 0)) ma_nil)) me_int) ma_nil)) (mg_name (pg_name (i := 3) S.nd rfl (.inl rfl))) (mb_cons (ms_set (i := 4) S.nd rfl (.inl rfl) me_dctT0)
  (mb_cons (ms_for (passes_of rfl) rfl (mi_n (me_var (pv 0))) (mg_name (pg_name (i := 2) S.nd rfl (.inl rfl))) (mb_one (ms_putT rfl hr.units (me_var (pv 4)) (me_var (pv 2)) (me_callB (cr_max rfl) (sMaxL rfl) (by rfl) n.n_max (by decide +kernel) (ma_cons (me_op opAdd sAdd (me_lst (ma_cons me_int ma_nil)) (me_comp (own := [("mark", 5), ("pay", 6), ("there", 7)]) (g := (gTup Γ.K 3 (gCons (gName 5) (gCons (gName 6) (gCons (gName 7) gNil))))) rfl S.nd (mi_seq rfl (me_ixDT rfl hr.units (me_var (pv 0)) (me_var (pv 2)) (fun _ _ => rfl))) (blkOk_by (own := [("mark", 5), ("pay", 6), ("there", 7)]) (N := ["net", "best", "place", "lap", "later", "mark", "pay", "there"]) (sc := defScope s__law_best) (by decide +kernel)) (fun _ _ _ _ _ => pg_tup rfl (pgs_cons (pg_name (i := 5) S.nd rfl (.inl rfl)) (pgs_cons (pg_name (i := 6) S.nd rfl (.inl rfl)) (pgs_cons (pg_name (i := 7) S.nd rfl (.inl rfl)) pgs_nil)))) (gw_tup rfl (gws_cons (gw_name (by decide)) (gws_cons (gw_name (by decide)) (gws_cons (gw_name (by decide)) gws_nil)))) (fun _ _ _ _ _ => mts_nil) (fun _ _ _ _ _ => (me_op opAdd sAdd (me_var (pv 6)) (me_ixDT rfl hr.units (me_var (pv 1)) (me_var (pv 7)) (fun _ _ => rfl)))))) ma_nil)) (by rfl))))
  (mb_cons (ms_if (mt_cmp (op_eqT rfl hr.units) sEqT (nomark _) (me_var (pv 4)) (me_var (pv 1))) (mb_one (ms_retF (me_var (pv 1)))) mb_nil)
  (mb_one (ms_set (i := 1) S.nd rfl (.inr rfl) (me_var (pv 4))))))))
  (mb_one (ms_ret me_non)))))
theorem ok__law_first_row (n : Ns Γ mg) (F : Fun Γ.K "_law_first_row" "_law_first_row" s__law_first_row f fd) (c__law_wide : Cal P w mg base Γ 1 "_law_wide" ["bill_so"] g__law_wide) (c__law_bit_rows : Cal P w mg base Γ 1 "_law_bit_rows" ["many"] g__law_bit_rows) (c__law_paid : Cal P w mg base Γ 2 "_law_paid" ["bill_so", "row_so"] g__law_paid) : FnG P w mg base Γ 3 f fd ["bill_so", "goal"] g__law_first_row :=
  have S := sc__law_first_row
  ok_fn (N := ["bill_so", "goal", "size", "more", "row"]) (c := d__law_first_row) F S fun cdv A outer s H E W hr hg tk => (mb_cons (ms_set (i := 2) S.nd rfl (.inl rfl) (me_cal c__law_wide rfl (hr.mono (by decide)) hg tk (by rfl) (ma_cons (me_var (pv 0)) ma_nil) 1 (len_cons len_nil) rfl rfl))
  (mb_cons (ms_for (passes_of rfl) rfl (mi_range1 (by rfl) n.n_range (ma_cons (me_op opAdd sAdd (me_op op_pow sPow me_int me_int) me_int) ma_nil)) (mg_name (pg_name (i := 3) S.nd rfl (.inl rfl))) (mb_one (ms_for (passes_of rfl) rfl (mi_seq rfl (me_cal c__law_bit_rows rfl (hr.mono (by decide)) hg tk (by rfl) (ma_cons (me_op opAdd sAdd (me_var (pv 2)) (me_var (pv 3))) ma_nil) 1 (len_cons len_nil) rfl rfl)) (mg_name (pg_name (i := 4) S.nd rfl (.inl rfl))) (mb_one (ms_if (mt_cmp (opEq hr.units) sEq (nomark _) (me_callB (cr_sumA rfl) (sSumA rfl) (by rfl) n.n_sum (by decide +kernel) (ma_cons (me_cal c__law_paid rfl (hr.mono (by decide)) hg tk (by rfl) (ma_cons (me_var (pv 0)) (ma_cons (me_var (pv 4)) ma_nil)) 2 (len_cons (len_cons len_nil)) rfl rfl) ma_nil)) (me_var (pv 1))) (mb_one (ms_ret (me_var (pv 4)))) mb_nil)))))
  (mb_one (ms_ret me_non))))
theorem ok__law_right (n : Ns Γ mg) (F : Fun Γ.K "_law_right" "_law_right" s__law_right f fd) (c__law_best : Cal P w mg base Γ 1 "_law_best" ["net"] g__law_best) (c__law_net : Cal P w mg base Γ 3 "_law_net" ["bill_so"] g__law_net) (c_greatest : Cal P w mg base Γ 6 "greatest" ["bill"] g_greatest) (c_is_bounded : Cal P w mg base Γ 6 "is_bounded" ["bill"] g_is_bounded) (c__law_first_row : Cal P w mg base Γ 3 "_law_first_row" ["bill_so", "goal"] g__law_first_row) (c_best_row : Cal P w mg base Γ 6 "best_row" ["bill"] g_best_row) (c__law_of : Cal P w mg base Γ 2 "_law_of" ["m", "some"] g__law_of) (c__law_drawn_row : Cal P w mg base Γ 2 "_law_drawn_row" ["m", "least", "more", "high"] g__law_drawn_row) (c_worth : Cal P w mg base Γ 7 "worth" ["bill", "row"] g_worth) : FnG P w mg base Γ 8 f fd ["m", "bill_so"] g__law_right :=
  have S := sc__law_right
  ok_fn (N := ["m", "bill_so", "best", "due", "heard", "row", "again", "most", "row_so"]) (c := d__law_right) F S fun cdv A outer s H E W hr hg tk => (mb_cons (ms_set (i := 2) S.nd rfl (.inl rfl) (me_cal c__law_best rfl (hr.mono (by decide)) hg tk (by rfl) (ma_cons (me_cal c__law_net rfl (hr.mono (by decide)) hg tk (by rfl) (ma_cons (me_var (pv 1)) ma_nil) 1 (len_cons len_nil) rfl rfl) ma_nil) 1 (len_cons len_nil) rfl rfl))
  (mb_cons (ms_set (i := 3) S.nd rfl (.inl rfl) (me_if (mt_cmp op_notC sIsntC (nomark _) (me_var (pv 2)) me_non) (me_callB (cr_max rfl) (sMaxL rfl) (by rfl) n.n_max (by decide +kernel) (ma_cons (me_listVals rfl (by rfl) n.n_list (me_var (pv 2))) ma_nil)) me_non))
  (mb_cons (ms_set (i := 4) S.nd rfl (.inl rfl) (me_lst (ma_cons (me_cal c_greatest rfl (hr.mono (by decide)) hg tk (by rfl) (ma_cons (me_var (pv 1)) ma_nil) 1 (len_cons len_nil) rfl rfl) (ma_cons (me_cal c_is_bounded rfl (hr.mono (by decide)) hg tk (by rfl) (ma_cons (me_var (pv 1)) ma_nil) 1 (len_cons len_nil) rfl rfl) (ma_cons (me_cal c_greatest rfl (hr.mono (by decide)) hg tk (by rfl) (ma_cons (me_var (pv 1)) ma_nil) 1 (len_cons len_nil) rfl rfl) ma_nil)))))
  (mb_cons (ms_if (mt_cmp (opNe hr.units) sNe (nomark _) (me_callB (cr_reprA hg hr.units) (sReprA rfl) (by rfl) n.n_repr (by decide +kernel) (ma_cons (me_var (pv 4)) ma_nil)) (me_callB (cr_reprA hg hr.units) (sReprA rfl) (by rfl) n.n_repr (by decide +kernel) (ma_cons (me_lst (ma_cons (me_var (pv 3)) (ma_cons (me_cmp op_notC sIsntC (nomark _) (me_var (pv 3)) me_non) (ma_cons (me_var (pv 3)) ma_nil)))) ma_nil))) (mb_one (ms_ret me_bl)) mb_nil)
  (mb_cons (ms_set (i := 5) S.nd rfl (.inl rfl) (me_if (mt_cmp op_notC sIsntC (nomark _) (me_var (pv 2)) me_non) (me_cal c__law_first_row rfl (hr.mono (by decide)) hg tk (by rfl) (ma_cons (me_var (pv 1)) (ma_cons (me_var (pv 3)) ma_nil)) 2 (len_cons (len_cons len_nil)) rfl rfl) me_non))
  (mb_cons (ms_if (mt_cmp (opNe hr.units) sNe (nomark _) (me_callB (cr_reprA hg hr.units) (sReprA rfl) (by rfl) n.n_repr (by decide +kernel) (ma_cons (me_lst (ma_cons (me_cal c_best_row rfl (hr.mono (by decide)) hg tk (by rfl) (ma_cons (me_var (pv 1)) ma_nil) 1 (len_cons len_nil) rfl rfl) (ma_cons (me_cal c_best_row rfl (hr.mono (by decide)) hg tk (by rfl) (ma_cons (me_var (pv 1)) ma_nil) 1 (len_cons len_nil) rfl rfl) ma_nil))) ma_nil)) (me_callB (cr_reprA hg hr.units) (sReprA rfl) (by rfl) n.n_repr (by decide +kernel) (ma_cons (me_lst (ma_cons (me_var (pv 5)) (ma_cons (me_var (pv 5)) ma_nil))) ma_nil))) (mb_one (ms_ret me_bl)) mb_nil)
  (mb_cons (ms_for (passes_of rfl) rfl (mi_range1 (by rfl) n.n_range (ma_cons me_int ma_nil)) (mg_name (pg_name (i := 6) S.nd rfl (.inl rfl))) (mb_cons (ms_set (i := 7) S.nd rfl (.inl rfl) (me_cal c__law_of rfl (hr.mono (by decide)) hg tk (by rfl) (ma_cons (me_var (pv 0)) (ma_cons (me_lst (ma_cons me_int (ma_cons me_int (ma_cons (me_op op_pow sPow me_int me_int) ma_nil)))) ma_nil)) 2 (len_cons (len_cons len_nil)) rfl rfl))
  (mb_cons (ms_set (i := 8) S.nd rfl (.inl rfl) (me_cal c__law_drawn_row rfl (hr.mono (by decide)) hg tk (by rfl) (ma_cons (me_var (pv 0)) (ma_cons me_int (ma_cons me_int (ma_cons (me_var (pv 7)) ma_nil)))) 4 (len_cons (len_cons (len_cons (len_cons len_nil)))) rfl rfl))
  (mb_one (ms_if (mt_w (mw_and (mt_cmp op_notC sIsntC (nomark _) (me_var (pv 3)) me_non) (mw_and1 (mt_cmp op_gt sCmp (nomark _) (me_cal c_worth rfl (hr.mono (by decide)) hg tk (by rfl) (ma_cons (me_var (pv 1)) (ma_cons (me_var (pv 8)) ma_nil)) 2 (len_cons (len_cons len_nil)) rfl rfl) (me_op opMul sMul (me_var (pv 7)) (me_var (pv 3))))))) (mb_one (ms_ret me_bl)) mb_nil)))))
  (mb_one (ms_ret me_bl)))))))))
theorem ok_law (n : Ns Γ mg) (F : Fun Γ.K "law" "law" s_law f fd) (c__law_begun : Cal P w mg base Γ 1 "_law_begun" ["script"] g__law_begun) (c__law_draw : Cal P w mg base Γ 1 "_law_draw" ["m", "many"] g__law_draw) (c__law_tame_bill : Cal P w mg base Γ 3 "_law_tame_bill" ["m", "most"] g__law_tame_bill) (c__law_drawn_bill : Cal P w mg base Γ 3 "_law_drawn_bill" ["m", "most"] g__law_drawn_bill) (c__law_right : Cal P w mg base Γ 8 "_law_right" ["m", "bill_so"] g__law_right) (c_greatest : Cal P w mg base Γ 6 "greatest" ["bill"] g_greatest) (c_best_row : Cal P w mg base Γ 6 "best_row" ["bill"] g_best_row) (c__law_first_row : Cal P w mg base Γ 3 "_law_first_row" ["bill_so", "goal"] g__law_first_row) (c_is_bounded : Cal P w mg base Γ 6 "is_bounded" ["bill"] g_is_bounded) : FnG P w mg base Γ 9 f fd ["script"] g_law :=
  have S := sc_law
  ok_fn (N := ["script", "m", "lap", "bill_so", "kept", "heard", "wide"]) (c := d_law) F S fun cdv A outer s H E W hr hg tk => (mb_cons (ms_set (i := 1) S.nd rfl (.inl rfl) (me_cal c__law_begun rfl (hr.mono (by decide)) hg tk (by rfl) (ma_cons (me_var (pv 0)) ma_nil) 1 (len_cons len_nil) rfl rfl))
  (mb_cons (ms_for (passes_of rfl) rfl (mi_range1 (by rfl) n.n_range (ma_cons (me_op opAdd sAdd me_int (me_callB (call_min2 rfl) sMin2 (by rfl) n.n_min (by decide +kernel) (ma_cons (me_callB call_len (sLen rfl) (by rfl) n.n_len (by decide +kernel) (ma_cons (me_var (pv 0)) ma_nil)) (ma_cons me_int ma_nil)))) ma_nil)) (mg_name (pg_name (i := 2) S.nd rfl (.inl rfl))) (mb_cons (ms_set (i := 3) S.nd rfl (.inl rfl) (me_if (mt_cmp op_gt sCmp (nomark _) (me_cal c__law_draw rfl (hr.mono (by decide)) hg tk (by rfl) (ma_cons (me_var (pv 1)) (ma_cons me_int ma_nil)) 2 (len_cons (len_cons len_nil)) rfl rfl) me_int) (me_cal c__law_tame_bill rfl (hr.mono (by decide)) hg tk (by rfl) (ma_cons (me_var (pv 1)) (ma_cons me_int ma_nil)) 2 (len_cons (len_cons len_nil)) rfl rfl) (me_cal c__law_drawn_bill rfl (hr.mono (by decide)) hg tk (by rfl) (ma_cons (me_var (pv 1)) (ma_cons me_int ma_nil)) 2 (len_cons (len_cons len_nil)) rfl rfl)))
  (mb_cons (ms_set (i := 4) S.nd rfl (.inl rfl) (me_callB (cr_reprA hg hr.units) (sReprA rfl) (by rfl) n.n_repr (by decide +kernel) (ma_cons (me_var (pv 3)) ma_nil)))
  (mb_one (ms_if (mt_w (mw_or (mt_not (mt_val (me_cal c__law_right rfl (hr.mono (by decide)) hg tk (by rfl) (ma_cons (me_var (pv 1)) (ma_cons (me_var (pv 3)) ma_nil)) 2 (len_cons (len_cons len_nil)) rfl rfl))) (mw_or1 (mt_cmp (opNe hr.units) sNe (nomark _) (me_callB (cr_reprA hg hr.units) (sReprA rfl) (by rfl) n.n_repr (by decide +kernel) (ma_cons (me_var (pv 3)) ma_nil)) (me_var (pv 4)))))) (mb_one (ms_ret me_bl)) mb_nil)))))
  (mb_cons (ms_set (i := 5) S.nd rfl (.inl rfl) (me_lstM (ma_cons (me_cal c_greatest rfl (hr.mono (by decide)) hg tk (by rfl) (ma_cons (me_tup (ma_cons me_int (ma_cons (me_tup (ma_cons (me_tup (ma_cons (me_tup (ma_cons me_int (ma_cons me_int (ma_cons me_int ma_nil)))) (ma_cons (me_un un_neg sNeg me_int) (ma_cons me_int ma_nil)))) ma_nil)) ma_nil))) ma_nil) 1 (len_cons len_nil) rfl rfl) (ma_cons (me_cal c_greatest rfl (hr.mono (by decide)) hg tk (by rfl) (ma_cons (me_tup (ma_cons (me_un un_neg sNeg me_int) (ma_cons (me_tup (ma_cons (me_tup (ma_cons (me_tup (ma_cons me_int (ma_cons me_int (ma_cons me_int ma_nil)))) (ma_cons me_int (ma_cons me_int ma_nil)))) ma_nil)) ma_nil))) ma_nil) 1 (len_cons len_nil) rfl rfl) ma_nil))))
  (mb_cons (ms_expr (me_app (pe_bm PySem.F.plainAttrs_list PySem.F.slot_list_append PySem.F.type_list_append mt_append (me_var (pv 5)) (pa_cons (me_cal c_best_row rfl (hr.mono (by decide)) hg tk (by rfl) (ma_cons (me_tup (ma_cons me_int (ma_cons (me_tup (ma_cons (me_tup (ma_cons (me_tup (ma_cons me_int (ma_cons me_int ma_nil))) (ma_cons (me_un un_neg sNeg me_int) (ma_cons me_int ma_nil)))) ma_nil)) ma_nil))) ma_nil) 1 (len_cons len_nil) rfl rfl) pa_nil))))
  (mb_cons (ms_set (i := 6) S.nd rfl (.inl rfl) (me_tup (ma_cons me_int (ma_cons (me_tup (ma_cons (me_tup (ma_cons (me_tup (ma_cons me_int (ma_cons me_int (ma_cons me_int (ma_cons me_int ma_nil))))) (ma_cons (me_un un_neg sNeg me_int) (ma_cons me_int ma_nil)))) ma_nil)) ma_nil))))
  (mb_cons (ms_if (mt_cmp (opNe hr.units) sNe (nomark _) (me_lst (ma_cons (me_cal c_greatest rfl (hr.mono (by decide)) hg tk (by rfl) (ma_cons (me_var (pv 6)) ma_nil) 1 (len_cons len_nil) rfl rfl) (ma_cons (me_cal c_best_row rfl (hr.mono (by decide)) hg tk (by rfl) (ma_cons (me_var (pv 6)) ma_nil) 1 (len_cons len_nil) rfl rfl) (ma_cons (me_cal c__law_first_row rfl (hr.mono (by decide)) hg tk (by rfl) (ma_cons (me_var (pv 6)) (ma_cons me_int ma_nil)) 2 (len_cons (len_cons len_nil)) rfl rfl) ma_nil)))) (me_lst (ma_cons me_int (ma_cons (me_tup (ma_cons me_int (ma_cons me_int (ma_cons me_int (ma_cons me_int (ma_cons me_int ma_nil)))))) (ma_cons (me_tup (ma_cons me_int (ma_cons me_int (ma_cons me_int (ma_cons me_int (ma_cons me_int ma_nil)))))) ma_nil))))) (mb_one (ms_ret me_bl)) mb_nil)
  (mb_cons (ms_set (i := 5) S.nd rfl (.inl rfl) (me_op opAdd sAdd (me_var (pv 5)) (me_lst (ma_cons (me_cal c_greatest rfl (hr.mono (by decide)) hg tk (by rfl) (ma_cons (me_tup (ma_cons me_int (ma_cons (me_tup (ma_cons (me_tup (ma_cons (me_tup (ma_cons me_int (ma_cons me_int ma_nil))) (ma_cons (me_un un_neg sNeg me_int) (ma_cons me_int ma_nil)))) ma_nil)) ma_nil))) ma_nil) 1 (len_cons len_nil) rfl rfl) (ma_cons (me_cal c_greatest rfl (hr.mono (by decide)) hg tk (by rfl) (ma_cons (me_tup (ma_cons (me_un un_neg sNeg me_int) (ma_cons (me_tup ma_nil) ma_nil))) ma_nil) 1 (len_cons len_nil) rfl rfl) (ma_cons (me_cal c_best_row rfl (hr.mono (by decide)) hg tk (by rfl) (ma_cons (me_tup (ma_cons (me_un un_neg sNeg me_int) (ma_cons (me_tup ma_nil) ma_nil))) ma_nil) 1 (len_cons len_nil) rfl rfl) (ma_cons (me_cal c_is_bounded rfl (hr.mono (by decide)) hg tk (by rfl) (ma_cons (me_tup (ma_cons me_int (ma_cons (me_tup ma_nil) ma_nil))) ma_nil) 1 (len_cons len_nil) rfl rfl) ma_nil)))))))
  (mb_one (ms_ret (me_and (me_cmp (opEq hr.units) sEq (nomark _) (me_var (pv 5)) (me_lst (ma_cons me_non (ma_cons me_int (ma_cons (me_tup (ma_cons me_int (ma_cons me_int (ma_cons me_int ma_nil)))) (ma_cons me_int (ma_cons me_int (ma_cons (me_tup (ma_cons me_int ma_nil)) (ma_cons me_bl ma_nil))))))))) (me_one (me_cal c_is_bounded rfl (hr.mono (by decide)) hg tk (by rfl) (ma_cons (me_tup (ma_cons me_int (ma_cons (me_tup (ma_cons (me_tup (ma_cons (me_tup (ma_cons me_int (ma_cons me_int ma_nil))) (ma_cons (me_un un_neg sNeg me_int) (ma_cons me_int ma_nil)))) ma_nil)) ma_nil))) ma_nil) 1 (len_cons len_nil) rfl rfl))))))))))))
end
theorem all_mk {l : PySem.W.OpenLaw} {w : World} {K : PySem.W.Frag} {h : Heap} {mg : Str → Option Value} {fa : Addr} (X : K.In h) (G : h.Ns mainGlobals mg) (hfa : mg "law" = some (.ref fa))
    {f0 : Addr} {od0 an0 : Option Addr} {sl0 : Array (Option Value)} {oc0 kV0 dc0 pm0 cd0 ct0 : Value}
    {f1 : Addr} {od1 an1 : Option Addr} {sl1 : Array (Option Value)} {oc1 kV1 dc1 pm1 cd1 ct1 : Value}
    {f2 : Addr} {od2 an2 : Option Addr} {sl2 : Array (Option Value)} {oc2 kV2 dc2 pm2 cd2 ct2 : Value}
    {f3 : Addr} {od3 an3 : Option Addr} {sl3 : Array (Option Value)} {oc3 kV3 dc3 pm3 cd3 ct3 : Value}
    {f4 : Addr} {od4 an4 : Option Addr} {sl4 : Array (Option Value)} {oc4 kV4 dc4 pm4 cd4 ct4 : Value}
    {f5 : Addr} {od5 an5 : Option Addr} {sl5 : Array (Option Value)} {oc5 kV5 dc5 pm5 cd5 ct5 : Value}
    {f6 : Addr} {od6 an6 : Option Addr} {sl6 : Array (Option Value)} {oc6 kV6 dc6 pm6 cd6 ct6 : Value}
    {f7 : Addr} {od7 an7 : Option Addr} {sl7 : Array (Option Value)} {oc7 kV7 dc7 pm7 cd7 ct7 : Value}
    {f8 : Addr} {od8 an8 : Option Addr} {sl8 : Array (Option Value)} {oc8 kV8 dc8 pm8 cd8 ct8 : Value}
    {f9 : Addr} {od9 an9 : Option Addr} {sl9 : Array (Option Value)} {oc9 kV9 dc9 pm9 cd9 ct9 : Value}
    {f10 : Addr} {od10 an10 : Option Addr} {sl10 : Array (Option Value)} {oc10 kV10 dc10 pm10 cd10 ct10 : Value}
    {f11 : Addr} {od11 an11 : Option Addr} {sl11 : Array (Option Value)} {oc11 kV11 dc11 pm11 cd11 ct11 : Value}
    {f12 : Addr} {od12 an12 : Option Addr} {sl12 : Array (Option Value)} {oc12 kV12 dc12 pm12 cd12 ct12 : Value}
    {f13 : Addr} {od13 an13 : Option Addr} {sl13 : Array (Option Value)} {oc13 kV13 dc13 pm13 cd13 ct13 : Value}
    {f14 : Addr} {od14 an14 : Option Addr} {sl14 : Array (Option Value)} {oc14 kV14 dc14 pm14 cd14 ct14 : Value}
    {f15 : Addr} {od15 an15 : Option Addr} {sl15 : Array (Option Value)} {oc15 kV15 dc15 pm15 cd15 ct15 : Value}
    {f16 : Addr} {od16 an16 : Option Addr} {sl16 : Array (Option Value)} {oc16 kV16 dc16 pm16 cd16 ct16 : Value}
    {f17 : Addr} {od17 an17 : Option Addr} {sl17 : Array (Option Value)} {oc17 kV17 dc17 pm17 cd17 ct17 : Value}
    {f18 : Addr} {od18 an18 : Option Addr} {sl18 : Array (Option Value)} {oc18 kV18 dc18 pm18 cd18 ct18 : Value}
    {f19 : Addr} {od19 an19 : Option Addr} {sl19 : Array (Option Value)} {oc19 kV19 dc19 pm19 cd19 ct19 : Value}
    {f20 : Addr} {od20 an20 : Option Addr} {sl20 : Array (Option Value)} {oc20 kV20 dc20 pm20 cd20 ct20 : Value}
    {f21 : Addr} {od21 an21 : Option Addr} {sl21 : Array (Option Value)} {oc21 kV21 dc21 pm21 cd21 ct21 : Value}
    {f22 : Addr} {od22 an22 : Option Addr} {sl22 : Array (Option Value)} {oc22 kV22 dc22 pm22 cd22 ct22 : Value}
    {f23 : Addr} {od23 an23 : Option Addr} {sl23 : Array (Option Value)} {oc23 kV23 dc23 pm23 cd23 ct23 : Value}
    {f24 : Addr} {od24 an24 : Option Addr} {sl24 : Array (Option Value)} {oc24 kV24 dc24 pm24 cd24 ct24 : Value}
    {f25 : Addr} {od25 an25 : Option Addr} {sl25 : Array (Option Value)} {oc25 kV25 dc25 pm25 cd25 ct25 : Value}
    {f26 : Addr} {od26 an26 : Option Addr} {sl26 : Array (Option Value)} {oc26 kV26 dc26 pm26 cd26 ct26 : Value}
    {f27 : Addr} {od27 an27 : Option Addr} {sl27 : Array (Option Value)} {oc27 kV27 dc27 pm27 cd27 ct27 : Value}
    {f28 : Addr} {od28 an28 : Option Addr} {sl28 : Array (Option Value)} {oc28 kV28 dc28 pm28 cd28 ct28 : Value}
    {f29 : Addr} {od29 an29 : Option Addr} {sl29 : Array (Option Value)} {oc29 kV29 dc29 pm29 cd29 ct29 : Value}
    {f30 : Addr} {od30 an30 : Option Addr} {sl30 : Array (Option Value)} {oc30 kV30 dc30 pm30 cd30 ct30 : Value}
    {f31 : Addr} {od31 an31 : Option Addr} {sl31 : Array (Option Value)} {oc31 kV31 dc31 pm31 cd31 ct31 : Value}
    {f32 : Addr} {od32 an32 : Option Addr} {sl32 : Array (Option Value)} {oc32 kV32 dc32 pm32 cd32 ct32 : Value}
    {f33 : Addr} {od33 an33 : Option Addr} {sl33 : Array (Option Value)} {oc33 kV33 dc33 pm33 cd33 ct33 : Value}
    {f34 : Addr} {od34 an34 : Option Addr} {sl34 : Array (Option Value)} {oc34 kV34 dc34 pm34 cd34 ct34 : Value}
    {f35 : Addr} {od35 an35 : Option Addr} {sl35 : Array (Option Value)} {oc35 kV35 dc35 pm35 cd35 ct35 : Value}
    {f36 : Addr} {od36 an36 : Option Addr} {sl36 : Array (Option Value)} {oc36 kV36 dc36 pm36 cd36 ct36 : Value}
    {f37 : Addr} {od37 an37 : Option Addr} {sl37 : Array (Option Value)} {oc37 kV37 dc37 pm37 cd37 ct37 : Value}
    {f38 : Addr} {od38 an38 : Option Addr} {sl38 : Array (Option Value)} {oc38 kV38 dc38 pm38 cd38 ct38 : Value}
    {f39 : Addr} {od39 an39 : Option Addr} {sl39 : Array (Option Value)} {oc39 kV39 dc39 pm39 cd39 ct39 : Value}
    {f40 : Addr} {od40 an40 : Option Addr} {sl40 : Array (Option Value)} {oc40 kV40 dc40 pm40 cd40 ct40 : Value}
    {f41 : Addr} {od41 an41 : Option Addr} {sl41 : Array (Option Value)} {oc41 kV41 dc41 pm41 cd41 ct41 : Value}
    {f42 : Addr} {od42 an42 : Option Addr} {sl42 : Array (Option Value)} {oc42 kV42 dc42 pm42 cd42 ct42 : Value}
    {f43 : Addr} {od43 an43 : Option Addr} {sl43 : Array (Option Value)} {oc43 kV43 dc43 pm43 cd43 ct43 : Value}
    {f44 : Addr} {od44 an44 : Option Addr} {sl44 : Array (Option Value)} {oc44 kV44 dc44 pm44 cd44 ct44 : Value}
    {f45 : Addr} {od45 an45 : Option Addr} {sl45 : Array (Option Value)} {oc45 kV45 dc45 pm45 cd45 ct45 : Value}
    {f46 : Addr} {od46 an46 : Option Addr} {sl46 : Array (Option Value)} {oc46 kV46 dc46 pm46 cd46 ct46 : Value}
    {f47 : Addr} {od47 an47 : Option Addr} {sl47 : Array (Option Value)} {oc47 kV47 dc47 pm47 cd47 ct47 : Value}
    {f48 : Addr} {od48 an48 : Option Addr} {sl48 : Array (Option Value)} {oc48 kV48 dc48 pm48 cd48 ct48 : Value}
    {f49 : Addr} {od49 an49 : Option Addr} {sl49 : Array (Option Value)} {oc49 kV49 dc49 pm49 cd49 ct49 : Value}
    {u0 : Value}
    {t1 : Tok}
    {t2 : Tok}
    {t3 : Tok}
    {t4 : Tok}
    {t5 : Tok}
    {t6 : Tok}
    {t7 : Tok}
    (a0 : PySem.W.nsIn K mainGlobals "is_int" = some (some (.ref f0)))
    (l0 : K.lookup f0 = some ⟨oc0, od0, .func (PySem.W.fnOf "is_int" "is_int" (defArgs s_is_int) (defBody s_is_int) (defScope s_is_int) .none kV0 dc0 pm0 an0 cd0 ct0), sl0⟩)
    (c0 : PySem.W.codeIn K cd0 "is_int" = true)
    (k0 : PySem.W.keepIn K (.ref f0) = true)
    (a1 : PySem.W.nsIn K mainGlobals "is_int_within" = some (some (.ref f1)))
    (l1 : K.lookup f1 = some ⟨oc1, od1, .func (PySem.W.fnOf "is_int_within" "is_int_within" (defArgs s_is_int_within) (defBody s_is_int_within) (defScope s_is_int_within) .none kV1 dc1 pm1 an1 cd1 ct1), sl1⟩)
    (c1 : PySem.W.codeIn K cd1 "is_int_within" = true)
    (k1 : PySem.W.keepIn K (.ref f1) = true)
    (a2 : PySem.W.nsIn K mainGlobals "is_tuple" = some (some (.ref f2)))
    (l2 : K.lookup f2 = some ⟨oc2, od2, .func (PySem.W.fnOf "is_tuple" "is_tuple" (defArgs s_is_tuple) (defBody s_is_tuple) (defScope s_is_tuple) .none kV2 dc2 pm2 an2 cd2 ct2), sl2⟩)
    (c2 : PySem.W.codeIn K cd2 "is_tuple" = true)
    (k2 : PySem.W.keepIn K (.ref f2) = true)
    (a3 : PySem.W.nsIn K mainGlobals "first_outside" = some (some (.ref f3)))
    (l3 : K.lookup f3 = some ⟨oc3, od3, .func (PySem.W.fnOf "first_outside" "first_outside" (defArgs s_first_outside) (defBody s_first_outside) (defScope s_first_outside) .none kV3 dc3 pm3 an3 cd3 ct3), sl3⟩)
    (c3 : PySem.W.codeIn K cd3 "first_outside" = true)
    (k3 : PySem.W.keepIn K (.ref f3) = true)
    (a4 : PySem.W.nsIn K mainGlobals "need_rule" = some (some (.ref f4)))
    (l4 : K.lookup f4 = some ⟨oc4, od4, .func (PySem.W.fnOf "need_rule" "need_rule" (defArgs s_need_rule) (defBody s_need_rule) (defScope s_need_rule) .none kV4 dc4 pm4 an4 cd4 ct4), sl4⟩)
    (c4 : PySem.W.codeIn K cd4 "need_rule" = true)
    (k4 : PySem.W.keepIn K (.ref f4) = true)
    (a5 : PySem.W.nsIn K mainGlobals "is_rule" = some (some (.ref f5)))
    (l5 : K.lookup f5 = some ⟨oc5, od5, .func (PySem.W.fnOf "is_rule" "is_rule" (defArgs s_is_rule) (defBody s_is_rule) (defScope s_is_rule) .none kV5 dc5 pm5 an5 cd5 ct5), sl5⟩)
    (c5 : PySem.W.codeIn K cd5 "is_rule" = true)
    (k5 : PySem.W.keepIn K (.ref f5) = true)
    (a6 : PySem.W.nsIn K mainGlobals "need_row" = some (some (.ref f6)))
    (l6 : K.lookup f6 = some ⟨oc6, od6, .func (PySem.W.fnOf "need_row" "need_row" (defArgs s_need_row) (defBody s_need_row) (defScope s_need_row) .none kV6 dc6 pm6 an6 cd6 ct6), sl6⟩)
    (c6 : PySem.W.codeIn K cd6 "need_row" = true)
    (k6 : PySem.W.keepIn K (.ref f6) = true)
    (a7 : PySem.W.nsIn K mainGlobals "need_row_of" = some (some (.ref f7)))
    (l7 : K.lookup f7 = some ⟨oc7, od7, .func (PySem.W.fnOf "need_row_of" "need_row_of" (defArgs s_need_row_of) (defBody s_need_row_of) (defScope s_need_row_of) .none kV7 dc7 pm7 an7 cd7 ct7), sl7⟩)
    (c7 : PySem.W.codeIn K cd7 "need_row_of" = true)
    (k7 : PySem.W.keepIn K (.ref f7) = true)
    (a8 : PySem.W.nsIn K mainGlobals "index_of" = some (some (.ref f8)))
    (l8 : K.lookup f8 = some ⟨oc8, od8, .func (PySem.W.fnOf "index_of" "index_of" (defArgs s_index_of) (defBody s_index_of) (defScope s_index_of) .none kV8 dc8 pm8 an8 cd8 ct8), sl8⟩)
    (c8 : PySem.W.codeIn K cd8 "index_of" = true)
    (k8 : PySem.W.keepIn K (.ref f8) = true)
    (a9 : PySem.W.nsIn K mainGlobals "indexes_by_ones" = some (some (.ref f9)))
    (l9 : K.lookup f9 = some ⟨oc9, od9, .func (PySem.W.fnOf "indexes_by_ones" "indexes_by_ones" (defArgs s_indexes_by_ones) (defBody s_indexes_by_ones) (defScope s_indexes_by_ones) .none kV9 dc9 pm9 an9 cd9 ct9), sl9⟩)
    (c9 : PySem.W.codeIn K cd9 "indexes_by_ones" = true)
    (k9 : PySem.W.keepIn K (.ref f9) = true)
    (a10 : PySem.W.nsIn K mainGlobals "is_factor" = some (some (.ref f10)))
    (l10 : K.lookup f10 = some ⟨oc10, od10, .func (PySem.W.fnOf "is_factor" "is_factor" (defArgs s_is_factor) (defBody s_is_factor) (defScope s_is_factor) .none kV10 dc10 pm10 an10 cd10 ct10), sl10⟩)
    (c10 : PySem.W.codeIn K cd10 "is_factor" = true)
    (k10 : PySem.W.keepIn K (.ref f10) = true)
    (a11 : PySem.W.nsIn K mainGlobals "is_term" = some (some (.ref f11)))
    (l11 : K.lookup f11 = some ⟨oc11, od11, .func (PySem.W.fnOf "is_term" "is_term" (defArgs s_is_term) (defBody s_is_term) (defScope s_is_term) .none kV11 dc11 pm11 an11 cd11 ct11), sl11⟩)
    (c11 : PySem.W.codeIn K cd11 "is_term" = true)
    (k11 : PySem.W.keepIn K (.ref f11) = true)
    (a12 : PySem.W.nsIn K mainGlobals "need_bill" = some (some (.ref f12)))
    (l12 : K.lookup f12 = some ⟨oc12, od12, .func (PySem.W.fnOf "need_bill" "need_bill" (defArgs s_need_bill) (defBody s_need_bill) (defScope s_need_bill) .none kV12 dc12 pm12 an12 cd12 ct12), sl12⟩)
    (c12 : PySem.W.codeIn K cd12 "need_bill" = true)
    (k12 : PySem.W.keepIn K (.ref f12) = true)
    (a13 : PySem.W.nsIn K mainGlobals "width_of" = some (some (.ref f13)))
    (l13 : K.lookup f13 = some ⟨oc13, od13, .func (PySem.W.fnOf "width_of" "width_of" (defArgs s_width_of) (defBody s_width_of) (defScope s_width_of) .none kV13 dc13 pm13 an13 cd13 ct13), sl13⟩)
    (c13 : PySem.W.codeIn K cd13 "width_of" = true)
    (k13 : PySem.W.keepIn K (.ref f13) = true)
    (a14 : PySem.W.nsIn K mainGlobals "last_pay" = some (some (.ref f14)))
    (l14 : K.lookup f14 = some ⟨oc14, od14, .func (PySem.W.fnOf "last_pay" "last_pay" (defArgs s_last_pay) (defBody s_last_pay) (defScope s_last_pay) .none kV14 dc14 pm14 an14 cd14 ct14), sl14⟩)
    (c14 : PySem.W.codeIn K cd14 "last_pay" = true)
    (k14 : PySem.W.keepIn K (.ref f14) = true)
    (a15 : PySem.W.nsIn K mainGlobals "pays_of" = some (some (.ref f15)))
    (l15 : K.lookup f15 = some ⟨oc15, od15, .func (PySem.W.fnOf "pays_of" "pays_of" (defArgs s_pays_of) (defBody s_pays_of) (defScope s_pays_of) .none kV15 dc15 pm15 an15 cd15 ct15), sl15⟩)
    (c15 : PySem.W.codeIn K cd15 "pays_of" = true)
    (k15 : PySem.W.keepIn K (.ref f15) = true)
    (a16 : PySem.W.nsIn K mainGlobals "pays" = some (some (.ref f16)))
    (l16 : K.lookup f16 = some ⟨oc16, od16, .func (PySem.W.fnOf "pays" "pays" (defArgs s_pays) (defBody s_pays) (defScope s_pays) .none kV16 dc16 pm16 an16 cd16 ct16), sl16⟩)
    (c16 : PySem.W.codeIn K cd16 "pays" = true)
    (k16 : PySem.W.keepIn K (.ref f16) = true)
    (a17 : PySem.W.nsIn K mainGlobals "worth" = some (some (.ref f17)))
    (l17 : K.lookup f17 = some ⟨oc17, od17, .func (PySem.W.fnOf "worth" "worth" (defArgs s_worth) (defBody s_worth) (defScope s_worth) .none kV17 dc17 pm17 an17 cd17 ct17), sl17⟩)
    (c17 : PySem.W.codeIn K cd17 "worth" = true)
    (k17 : PySem.W.keepIn K (.ref f17) = true)
    (a18 : PySem.W.nsIn K mainGlobals "signs_of" = some (some (.ref f18)))
    (l18 : K.lookup f18 = some ⟨oc18, od18, .func (PySem.W.fnOf "signs_of" "signs_of" (defArgs s_signs_of) (defBody s_signs_of) (defScope s_signs_of) .none kV18 dc18 pm18 an18 cd18 ct18), sl18⟩)
    (c18 : PySem.W.codeIn K cd18 "signs_of" = true)
    (k18 : PySem.W.keepIn K (.ref f18) = true)
    (a19 : PySem.W.nsIn K mainGlobals "ones_of" = some (some (.ref f19)))
    (l19 : K.lookup f19 = some ⟨oc19, od19, .func (PySem.W.fnOf "ones_of" "ones_of" (defArgs s_ones_of) (defBody s_ones_of) (defScope s_ones_of) .none kV19 dc19 pm19 an19 cd19 ct19), sl19⟩)
    (c19 : PySem.W.codeIn K cd19 "ones_of" = true)
    (k19 : PySem.W.keepIn K (.ref f19) = true)
    (a20 : PySem.W.nsIn K mainGlobals "term_pays" = some (some (.ref f20)))
    (l20 : K.lookup f20 = some ⟨oc20, od20, .func (PySem.W.fnOf "term_pays" "term_pays" (defArgs s_term_pays) (defBody s_term_pays) (defScope s_term_pays) .none kV20 dc20 pm20 an20 cd20 ct20), sl20⟩)
    (c20 : PySem.W.codeIn K cd20 "term_pays" = true)
    (k20 : PySem.W.keepIn K (.ref f20) = true)
    (a21 : PySem.W.nsIn K mainGlobals "bit_pays" = some (some (.ref f21)))
    (l21 : K.lookup f21 = some ⟨oc21, od21, .func (PySem.W.fnOf "bit_pays" "bit_pays" (defArgs s_bit_pays) (defBody s_bit_pays) (defScope s_bit_pays) .none kV21 dc21 pm21 an21 cd21 ct21), sl21⟩)
    (c21 : PySem.W.codeIn K cd21 "bit_pays" = true)
    (k21 : PySem.W.keepIn K (.ref f21) = true)
    (a22 : PySem.W.nsIn K mainGlobals "raised" = some (some (.ref f22)))
    (l22 : K.lookup f22 = some ⟨oc22, od22, .func (PySem.W.fnOf "raised" "raised" (defArgs s_raised) (defBody s_raised) (defScope s_raised) .none kV22 dc22 pm22 an22 cd22 ct22), sl22⟩)
    (c22 : PySem.W.codeIn K cd22 "raised" = true)
    (k22 : PySem.W.keepIn K (.ref f22) = true)
    (a23 : PySem.W.nsIn K mainGlobals "trail" = some (some (.ref f23)))
    (l23 : K.lookup f23 = some ⟨oc23, od23, .func (PySem.W.fnOf "trail" "trail" (defArgs s_trail) (defBody s_trail) (defScope s_trail) .none kV23 dc23 pm23 an23 cd23 ct23), sl23⟩)
    (c23 : PySem.W.codeIn K cd23 "trail" = true)
    (k23 : PySem.W.keepIn K (.ref f23) = true)
    (a24 : PySem.W.nsIn K mainGlobals "ring_on" = some (some (.ref f24)))
    (l24 : K.lookup f24 = some ⟨oc24, od24, .func (PySem.W.fnOf "ring_on" "ring_on" (defArgs s_ring_on) (defBody s_ring_on) (defScope s_ring_on) .none kV24 dc24 pm24 an24 cd24 ct24), sl24⟩)
    (c24 : PySem.W.codeIn K cd24 "ring_on" = true)
    (k24 : PySem.W.keepIn K (.ref f24) = true)
    (a25 : PySem.W.nsIn K mainGlobals "ring_of_one" = some (some (.ref f25)))
    (l25 : K.lookup f25 = some ⟨oc25, od25, .func (PySem.W.fnOf "ring_of_one" "ring_of_one" (defArgs s_ring_of_one) (defBody s_ring_of_one) (defScope s_ring_of_one) .none kV25 dc25 pm25 an25 cd25 ct25), sl25⟩)
    (c25 : PySem.W.codeIn K cd25 "ring_of_one" = true)
    (k25 : PySem.W.keepIn K (.ref f25) = true)
    (a26 : PySem.W.nsIn K mainGlobals "steepest" = some (some (.ref f26)))
    (l26 : K.lookup f26 = some ⟨oc26, od26, .func (PySem.W.fnOf "steepest" "steepest" (defArgs s_steepest) (defBody s_steepest) (defScope s_steepest) .none kV26 dc26 pm26 an26 cd26 ct26), sl26⟩)
    (c26 : PySem.W.codeIn K cd26 "steepest" = true)
    (k26 : PySem.W.keepIn K (.ref f26) = true)
    (a27 : PySem.W.nsIn K mainGlobals "climb" = some (some (.ref f27)))
    (l27 : K.lookup f27 = some ⟨oc27, od27, .func (PySem.W.fnOf "climb" "climb" (defArgs s_climb) (defBody s_climb) (defScope s_climb) .none kV27 dc27 pm27 an27 cd27 ct27), sl27⟩)
    (c27 : PySem.W.codeIn K cd27 "climb" = true)
    (k27 : PySem.W.keepIn K (.ref f27) = true)
    (a28 : PySem.W.nsIn K mainGlobals "greatest_of" = some (some (.ref f28)))
    (l28 : K.lookup f28 = some ⟨oc28, od28, .func (PySem.W.fnOf "greatest_of" "greatest_of" (defArgs s_greatest_of) (defBody s_greatest_of) (defScope s_greatest_of) .none kV28 dc28 pm28 an28 cd28 ct28), sl28⟩)
    (c28 : PySem.W.codeIn K cd28 "greatest_of" = true)
    (k28 : PySem.W.keepIn K (.ref f28) = true)
    (a29 : PySem.W.nsIn K mainGlobals "best_walk" = some (some (.ref f29)))
    (l29 : K.lookup f29 = some ⟨oc29, od29, .func (PySem.W.fnOf "best_walk" "best_walk" (defArgs s_best_walk) (defBody s_best_walk) (defScope s_best_walk) .none kV29 dc29 pm29 an29 cd29 ct29), sl29⟩)
    (c29 : PySem.W.codeIn K cd29 "best_walk" = true)
    (k29 : PySem.W.keepIn K (.ref f29) = true)
    (a30 : PySem.W.nsIn K mainGlobals "is_bounded" = some (some (.ref f30)))
    (l30 : K.lookup f30 = some ⟨oc30, od30, .func (PySem.W.fnOf "is_bounded" "is_bounded" (defArgs s_is_bounded) (defBody s_is_bounded) (defScope s_is_bounded) .none kV30 dc30 pm30 an30 cd30 ct30), sl30⟩)
    (c30 : PySem.W.codeIn K cd30 "is_bounded" = true)
    (k30 : PySem.W.keepIn K (.ref f30) = true)
    (a31 : PySem.W.nsIn K mainGlobals "greatest" = some (some (.ref f31)))
    (l31 : K.lookup f31 = some ⟨oc31, od31, .func (PySem.W.fnOf "greatest" "greatest" (defArgs s_greatest) (defBody s_greatest) (defScope s_greatest) .none kV31 dc31 pm31 an31 cd31 ct31), sl31⟩)
    (c31 : PySem.W.codeIn K cd31 "greatest" = true)
    (k31 : PySem.W.keepIn K (.ref f31) = true)
    (a32 : PySem.W.nsIn K mainGlobals "best_row_of" = some (some (.ref f32)))
    (l32 : K.lookup f32 = some ⟨oc32, od32, .func (PySem.W.fnOf "best_row_of" "best_row_of" (defArgs s_best_row_of) (defBody s_best_row_of) (defScope s_best_row_of) .none kV32 dc32 pm32 an32 cd32 ct32), sl32⟩)
    (c32 : PySem.W.codeIn K cd32 "best_row_of" = true)
    (k32 : PySem.W.keepIn K (.ref f32) = true)
    (a33 : PySem.W.nsIn K mainGlobals "best_row" = some (some (.ref f33)))
    (l33 : K.lookup f33 = some ⟨oc33, od33, .func (PySem.W.fnOf "best_row" "best_row" (defArgs s_best_row) (defBody s_best_row) (defScope s_best_row) .none kV33 dc33 pm33 an33 cd33 ct33), sl33⟩)
    (c33 : PySem.W.codeIn K cd33 "best_row" = true)
    (k33 : PySem.W.keepIn K (.ref f33) = true)
    (a34 : PySem.W.nsIn K mainGlobals "_law_begun" = some (some (.ref f34)))
    (l34 : K.lookup f34 = some ⟨oc34, od34, .func (PySem.W.fnOf "_law_begun" "_law_begun" (defArgs s__law_begun) (defBody s__law_begun) (defScope s__law_begun) .none kV34 dc34 pm34 an34 cd34 ct34), sl34⟩)
    (c34 : PySem.W.codeIn K cd34 "_law_begun" = true)
    (k34 : PySem.W.keepIn K (.ref f34) = true)
    (a35 : PySem.W.nsIn K mainGlobals "_law_draw" = some (some (.ref f35)))
    (l35 : K.lookup f35 = some ⟨oc35, od35, .func (PySem.W.fnOf "_law_draw" "_law_draw" (defArgs s__law_draw) (defBody s__law_draw) (defScope s__law_draw) .none kV35 dc35 pm35 an35 cd35 ct35), sl35⟩)
    (c35 : PySem.W.codeIn K cd35 "_law_draw" = true)
    (k35 : PySem.W.keepIn K (.ref f35) = true)
    (a36 : PySem.W.nsIn K mainGlobals "_law_of" = some (some (.ref f36)))
    (l36 : K.lookup f36 = some ⟨oc36, od36, .func (PySem.W.fnOf "_law_of" "_law_of" (defArgs s__law_of) (defBody s__law_of) (defScope s__law_of) .none kV36 dc36 pm36 an36 cd36 ct36), sl36⟩)
    (c36 : PySem.W.codeIn K cd36 "_law_of" = true)
    (k36 : PySem.W.keepIn K (.ref f36) = true)
    (a37 : PySem.W.nsIn K mainGlobals "_law_weights" = some (some (.ref f37)))
    (l37 : K.lookup f37 = some ⟨oc37, od37, .func (PySem.W.fnOf "_law_weights" "_law_weights" (defArgs s__law_weights) (defBody s__law_weights) (defScope s__law_weights) .none kV37 dc37 pm37 an37 cd37 ct37), sl37⟩)
    (c37 : PySem.W.codeIn K cd37 "_law_weights" = true)
    (k37 : PySem.W.keepIn K (.ref f37) = true)
    (a38 : PySem.W.nsIn K mainGlobals "_law_drawn_bill" = some (some (.ref f38)))
    (l38 : K.lookup f38 = some ⟨oc38, od38, .func (PySem.W.fnOf "_law_drawn_bill" "_law_drawn_bill" (defArgs s__law_drawn_bill) (defBody s__law_drawn_bill) (defScope s__law_drawn_bill) .none kV38 dc38 pm38 an38 cd38 ct38), sl38⟩)
    (c38 : PySem.W.codeIn K cd38 "_law_drawn_bill" = true)
    (k38 : PySem.W.keepIn K (.ref f38) = true)
    (a39 : PySem.W.nsIn K mainGlobals "_law_tame_bill" = some (some (.ref f39)))
    (l39 : K.lookup f39 = some ⟨oc39, od39, .func (PySem.W.fnOf "_law_tame_bill" "_law_tame_bill" (defArgs s__law_tame_bill) (defBody s__law_tame_bill) (defScope s__law_tame_bill) .none kV39 dc39 pm39 an39 cd39 ct39), sl39⟩)
    (c39 : PySem.W.codeIn K cd39 "_law_tame_bill" = true)
    (k39 : PySem.W.keepIn K (.ref f39) = true)
    (a40 : PySem.W.nsIn K mainGlobals "_law_drawn_row" = some (some (.ref f40)))
    (l40 : K.lookup f40 = some ⟨oc40, od40, .func (PySem.W.fnOf "_law_drawn_row" "_law_drawn_row" (defArgs s__law_drawn_row) (defBody s__law_drawn_row) (defScope s__law_drawn_row) .none kV40 dc40 pm40 an40 cd40 ct40), sl40⟩)
    (c40 : PySem.W.codeIn K cd40 "_law_drawn_row" = true)
    (k40 : PySem.W.keepIn K (.ref f40) = true)
    (a41 : PySem.W.nsIn K mainGlobals "_law_index" = some (some (.ref f41)))
    (l41 : K.lookup f41 = some ⟨oc41, od41, .func (PySem.W.fnOf "_law_index" "_law_index" (defArgs s__law_index) (defBody s__law_index) (defScope s__law_index) .none kV41 dc41 pm41 an41 cd41 ct41), sl41⟩)
    (c41 : PySem.W.codeIn K cd41 "_law_index" = true)
    (k41 : PySem.W.keepIn K (.ref f41) = true)
    (a42 : PySem.W.nsIn K mainGlobals "_law_wide" = some (some (.ref f42)))
    (l42 : K.lookup f42 = some ⟨oc42, od42, .func (PySem.W.fnOf "_law_wide" "_law_wide" (defArgs s__law_wide) (defBody s__law_wide) (defScope s__law_wide) .none kV42 dc42 pm42 an42 cd42 ct42), sl42⟩)
    (c42 : PySem.W.codeIn K cd42 "_law_wide" = true)
    (k42 : PySem.W.keepIn K (.ref f42) = true)
    (a43 : PySem.W.nsIn K mainGlobals "_law_paid" = some (some (.ref f43)))
    (l43 : K.lookup f43 = some ⟨oc43, od43, .func (PySem.W.fnOf "_law_paid" "_law_paid" (defArgs s__law_paid) (defBody s__law_paid) (defScope s__law_paid) .none kV43 dc43 pm43 an43 cd43 ct43), sl43⟩)
    (c43 : PySem.W.codeIn K cd43 "_law_paid" = true)
    (k43 : PySem.W.keepIn K (.ref f43) = true)
    (a44 : PySem.W.nsIn K mainGlobals "_law_bit_rows" = some (some (.ref f44)))
    (l44 : K.lookup f44 = some ⟨oc44, od44, .func (PySem.W.fnOf "_law_bit_rows" "_law_bit_rows" (defArgs s__law_bit_rows) (defBody s__law_bit_rows) (defScope s__law_bit_rows) .none kV44 dc44 pm44 an44 cd44 ct44), sl44⟩)
    (c44 : PySem.W.codeIn K cd44 "_law_bit_rows" = true)
    (k44 : PySem.W.keepIn K (.ref f44) = true)
    (a45 : PySem.W.nsIn K mainGlobals "_law_net" = some (some (.ref f45)))
    (l45 : K.lookup f45 = some ⟨oc45, od45, .func (PySem.W.fnOf "_law_net" "_law_net" (defArgs s__law_net) (defBody s__law_net) (defScope s__law_net) .none kV45 dc45 pm45 an45 cd45 ct45), sl45⟩)
    (c45 : PySem.W.codeIn K cd45 "_law_net" = true)
    (k45 : PySem.W.keepIn K (.ref f45) = true)
    (a46 : PySem.W.nsIn K mainGlobals "_law_best" = some (some (.ref f46)))
    (l46 : K.lookup f46 = some ⟨oc46, od46, .func (PySem.W.fnOf "_law_best" "_law_best" (defArgs s__law_best) (defBody s__law_best) (defScope s__law_best) .none kV46 dc46 pm46 an46 cd46 ct46), sl46⟩)
    (c46 : PySem.W.codeIn K cd46 "_law_best" = true)
    (k46 : PySem.W.keepIn K (.ref f46) = true)
    (a47 : PySem.W.nsIn K mainGlobals "_law_first_row" = some (some (.ref f47)))
    (l47 : K.lookup f47 = some ⟨oc47, od47, .func (PySem.W.fnOf "_law_first_row" "_law_first_row" (defArgs s__law_first_row) (defBody s__law_first_row) (defScope s__law_first_row) .none kV47 dc47 pm47 an47 cd47 ct47), sl47⟩)
    (c47 : PySem.W.codeIn K cd47 "_law_first_row" = true)
    (k47 : PySem.W.keepIn K (.ref f47) = true)
    (a48 : PySem.W.nsIn K mainGlobals "_law_right" = some (some (.ref f48)))
    (l48 : K.lookup f48 = some ⟨oc48, od48, .func (PySem.W.fnOf "_law_right" "_law_right" (defArgs s__law_right) (defBody s__law_right) (defScope s__law_right) .none kV48 dc48 pm48 an48 cd48 ct48), sl48⟩)
    (c48 : PySem.W.codeIn K cd48 "_law_right" = true)
    (k48 : PySem.W.keepIn K (.ref f48) = true)
    (a49 : PySem.W.nsIn K mainGlobals "law" = some (some (.ref f49)))
    (l49 : K.lookup f49 = some ⟨oc49, od49, .func (PySem.W.fnOf "law" "law" (defArgs s_law) (defBody s_law) (defScope s_law) .none kV49 dc49 pm49 an49 cd49 ct49), sl49⟩)
    (c49 : PySem.W.codeIn K cd49 "law" = true)
    (k49 : PySem.W.keepIn K (.ref f49) = true)
    (z0 : PySem.W.nsIn K mainGlobals "divmod" = some none)
    (z1 : PySem.W.nsIn K mainGlobals "enumerate" = some none)
    (z2 : PySem.W.nsIn K mainGlobals "int" = some none)
    (z3 : PySem.W.nsIn K mainGlobals "isinstance" = some none)
    (z4 : PySem.W.nsIn K mainGlobals "len" = some none)
    (z5 : PySem.W.nsIn K mainGlobals "list" = some none)
    (z6 : PySem.W.nsIn K mainGlobals "max" = some none)
    (z7 : PySem.W.nsIn K mainGlobals "min" = some none)
    (z8 : PySem.W.nsIn K mainGlobals "range" = some none)
    (z9 : PySem.W.nsIn K mainGlobals "repr" = some none)
    (z10 : PySem.W.nsIn K mainGlobals "reversed" = some none)
    (z11 : PySem.W.nsIn K mainGlobals "sorted" = some none)
    (z12 : PySem.W.nsIn K mainGlobals "sum" = some none)
    (z13 : PySem.W.nsIn K mainGlobals "tuple" = some none)
    (z14 : PySem.W.nsIn K mainGlobals "zip" = some none)
    (v0 : PySem.W.nsIn K mainGlobals "BITS" = some (some u0))
    (w0 : krvB K (.tup [.int 0, .int 1]) u0 = true)
    (v1 : PySem.W.nsIn K mainGlobals "GREATEST_FACTOR" = some (some (.int 50 t1)))
    (v2 : PySem.W.nsIn K mainGlobals "GREATEST_RESULT" = some (some (.int 1000000 t2)))
    (v3 : PySem.W.nsIn K mainGlobals "GREATEST_WEIGHT" = some (some (.int 20 t3)))
    (v4 : PySem.W.nsIn K mainGlobals "MOST_RESULTS" = some (some (.int 200 t4)))
    (v5 : PySem.W.nsIn K mainGlobals "MOST_TERMS" = some (some (.int 2 t5)))
    (v6 : PySem.W.nsIn K mainGlobals "MOST_WEIGHTS" = some (some (.int 6 t6)))
    (v7 : PySem.W.nsIn K mainGlobals "OF_BITS" = some (some (.int 2 t7)))
    (hden : ∀ ns : List Int, ns.length ≤ 63 → ∃ s', g_law [.sq (ns.map .int)] [] = .ok (.bl true) s')
    : ∃ (Γ : Ct) (fd : FuncData) (den : Fn) (tabs : List Tb), Γ.K = K ∧ (∀ (i : Nat) (t : Tb), tabs[i]? = some t → Γ.tb i = t.T) ∧ (Ts tabs).Nodup ∧ (∀ t ∈ tabs, ∃ y ∈ ([] : List Str), PySem.W.tabIn Γ.K y = some (t.c, t.T) ∧ Γ.K.lookup t.T = none) ∧ tabs.map (·.q) = [] ∧ (∀ (s : Shared) (u : Value), BindsTo s fd ⟨[u], []⟩ [("script", u)]) ∧
      (∀ base : Heap, Γ.K.In base → base.Ns mainGlobals mg → (∀ t ∈ tabs, LamX.TabB base mg t.c t.T) → FnG l.prog w mg base Γ 9 fa fd ["script"] den) ∧
      ∀ ns : List Int, ns.length ≤ 63 → ∃ s', den [.sq (ns.map .int)] (tabsOf 0 (([] : List Str).map fun q => ⟨0, 0, q⟩)) = .ok (.bl true) s' := by
  have e := hfa.symm.trans (PySem.W.mg_of X G a49)
  cases e
  let Γ : Ct := ⟨K, fun n => ([0, 0, 0, 0, 0, 0, 0, 0, 0, 0, 0, 0] : List Addr).getD n 0, fun n => ([] : List Addr).getD n 0⟩
  have n : Ns Γ mg := {
    n_divmod := PySem.W.mg_none_of X G z0
    n_enumerate := PySem.W.mg_none_of X G z1
    n_int := PySem.W.mg_none_of X G z2
    n_isinstance := PySem.W.mg_none_of X G z3
    n_len := PySem.W.mg_none_of X G z4
    n_list := PySem.W.mg_none_of X G z5
    n_max := PySem.W.mg_none_of X G z6
    n_min := PySem.W.mg_none_of X G z7
    n_range := PySem.W.mg_none_of X G z8
    n_repr := PySem.W.mg_none_of X G z9
    n_reversed := PySem.W.mg_none_of X G z10
    n_sorted := PySem.W.mg_none_of X G z11
    n_sum := PySem.W.mg_none_of X G z12
    n_tuple := PySem.W.mg_none_of X G z13
    n_zip := PySem.W.mg_none_of X G z14
    c_BITS := ⟨_, PySem.W.mg_of X G v0, krvB_ok _ w0⟩
    c_GREATEST_FACTOR := ⟨_, PySem.W.mg_of X G v1⟩
    c_GREATEST_RESULT := ⟨_, PySem.W.mg_of X G v2⟩
    c_GREATEST_WEIGHT := ⟨_, PySem.W.mg_of X G v3⟩
    c_MOST_RESULTS := ⟨_, PySem.W.mg_of X G v4⟩
    c_MOST_TERMS := ⟨_, PySem.W.mg_of X G v5⟩
    c_MOST_WEIGHTS := ⟨_, PySem.W.mg_of X G v6⟩
    c_OF_BITS := ⟨_, PySem.W.mg_of X G v7⟩
    }
  let tabs : List Tb := []
  refine ⟨Γ, PySem.W.fnOf "law" "law" (defArgs s_law) (defBody s_law) (defScope s_law) .none kV49 dc49 pm49 an49 cd49 ct49, g_law, tabs, rfl, fun i t h => ?_, ?_, fun t h => ?_, rfl, fun s v => .of_eq rfl, fun base _ _ TB => ?_, hden⟩
  · match i, h with
    | n, h => cases h
  · simp [Ts, tabs]
  · simp only [tabs, List.mem_cons, List.mem_nil_iff, or_false] at h
  have F0 := fun_mk (st := s_is_int) l0 c0 k0
  have C0 : Cal l.prog w mg base Γ 1 "is_int" ["thing"] g_is_int := ⟨_, _, ok_is_int n F0, PySem.W.mg_of X G a0, k0, F0.binds fun _ _ _ _ _ _ us hl => match us, hl with | [_], _ => rfl⟩
  have F1 := fun_mk (st := s_is_int_within) l1 c1 k1
  have C1 : Cal l.prog w mg base Γ 2 "is_int_within" ["thing", "least", "most"] g_is_int_within := ⟨_, _, ok_is_int_within n F1 C0, PySem.W.mg_of X G a1, k1, F1.binds fun _ _ _ _ _ _ us hl => match us, hl with | [_, _, _], _ => rfl⟩
  have F2 := fun_mk (st := s_is_tuple) l2 c2 k2
  have C2 : Cal l.prog w mg base Γ 1 "is_tuple" ["thing", "least", "most"] g_is_tuple := ⟨_, _, ok_is_tuple n F2, PySem.W.mg_of X G a2, k2, F2.binds fun _ _ _ _ _ _ us hl => match us, hl with | [_, _, _], _ => rfl⟩
  have F3 := fun_mk (st := s_first_outside) l3 c3 k3
  have C3 : Cal l.prog w mg base Γ 1 "first_outside" ["things", "least", "most"] g_first_outside := ⟨_, _, ok_first_outside n F3, PySem.W.mg_of X G a3, k3, F3.binds fun _ _ _ _ _ _ us hl => match us, hl with | [_, _, _], _ => rfl⟩
  have F4 := fun_mk (st := s_need_rule) l4 c4 k4
  have C4 : Cal l.prog w mg base Γ 2 "need_rule" ["thing"] g_need_rule := ⟨_, _, ok_need_rule n F4 C2 C3, PySem.W.mg_of X G a4, k4, F4.binds fun _ _ _ _ _ _ us hl => match us, hl with | [_], _ => rfl⟩
  have F5 := fun_mk (st := s_is_rule) l5 c5 k5
  have C5 : Cal l.prog w mg base Γ 3 "is_rule" ["thing"] g_is_rule := ⟨_, _, ok_is_rule n F5 C4, PySem.W.mg_of X G a5, k5, F5.binds fun _ _ _ _ _ _ us hl => match us, hl with | [_], _ => rfl⟩
  have F6 := fun_mk (st := s_need_row) l6 c6 k6
  have C6 : Cal l.prog w mg base Γ 2 "need_row" ["thing"] g_need_row := ⟨_, _, ok_need_row n F6 C2 C3, PySem.W.mg_of X G a6, k6, F6.binds fun _ _ _ _ _ _ us hl => match us, hl with | [_], _ => rfl⟩
  have F7 := fun_mk (st := s_need_row_of) l7 c7 k7
  have C7 : Cal l.prog w mg base Γ 3 "need_row_of" ["thing", "least"] g_need_row_of := ⟨_, _, ok_need_row_of n F7 C6, PySem.W.mg_of X G a7, k7, F7.binds fun _ _ _ _ _ _ us hl => match us, hl with | [_, _], _ => rfl⟩
  have F8 := fun_mk (st := s_index_of) l8 c8 k8
  have C8 : Cal l.prog w mg base Γ 1 "index_of" ["rule", "results"] g_index_of := ⟨_, _, ok_index_of n F8, PySem.W.mg_of X G a8, k8, F8.binds fun _ _ _ _ _ _ us hl => match us, hl with | [_, _], _ => rfl⟩
  have F9 := fun_mk (st := s_indexes_by_ones) l9 c9 k9
  have C9 : Cal l.prog w mg base Γ 1 "indexes_by_ones" ["rule"] g_indexes_by_ones := ⟨_, _, ok_indexes_by_ones n F9, PySem.W.mg_of X G a9, k9, F9.binds fun _ _ _ _ _ _ us hl => match us, hl with | [_], _ => rfl⟩
  have F10 := fun_mk (st := s_is_factor) l10 c10 k10
  have C10 : Cal l.prog w mg base Γ 3 "is_factor" ["thing"] g_is_factor := ⟨_, _, ok_is_factor n F10 C1, PySem.W.mg_of X G a10, k10, F10.binds fun _ _ _ _ _ _ us hl => match us, hl with | [_], _ => rfl⟩
  have F11 := fun_mk (st := s_is_term) l11 c11 k11
  have C11 : Cal l.prog w mg base Γ 4 "is_term" ["thing"] g_is_term := ⟨_, _, ok_is_term n F11 C2 C5 C10, PySem.W.mg_of X G a11, k11, F11.binds fun _ _ _ _ _ _ us hl => match us, hl with | [_], _ => rfl⟩
  have F12 := fun_mk (st := s_need_bill) l12 c12 k12
  have C12 : Cal l.prog w mg base Γ 5 "need_bill" ["thing"] g_need_bill := ⟨_, _, ok_need_bill n F12 C2 C10 C11, PySem.W.mg_of X G a12, k12, F12.binds fun _ _ _ _ _ _ us hl => match us, hl with | [_], _ => rfl⟩
  have F13 := fun_mk (st := s_width_of) l13 c13 k13
  have C13 : Cal l.prog w mg base Γ 1 "width_of" ["bill"] g_width_of := ⟨_, _, ok_width_of n F13, PySem.W.mg_of X G a13, k13, F13.binds fun _ _ _ _ _ _ us hl => match us, hl with | [_], _ => rfl⟩
  have F14 := fun_mk (st := s_last_pay) l14 c14 k14
  have C14 : Cal l.prog w mg base Γ 2 "last_pay" ["bill", "results"] g_last_pay := ⟨_, _, ok_last_pay n F14 C8, PySem.W.mg_of X G a14, k14, F14.binds fun _ _ _ _ _ _ us hl => match us, hl with | [_, _], _ => rfl⟩
  have F15 := fun_mk (st := s_pays_of) l15 c15 k15
  have C15 : Cal l.prog w mg base Γ 3 "pays_of" ["bill", "results"] g_pays_of := ⟨_, _, ok_pays_of n F15 C13 C14, PySem.W.mg_of X G a15, k15, F15.binds fun _ _ _ _ _ _ us hl => match us, hl with | [_, _], _ => rfl⟩
  have F16 := fun_mk (st := s_pays) l16 c16 k16
  have C16 : Cal l.prog w mg base Γ 6 "pays" ["bill", "row"] g_pays := ⟨_, _, ok_pays n F16 C12 C7 C13 C15, PySem.W.mg_of X G a16, k16, F16.binds fun _ _ _ _ _ _ us hl => match us, hl with | [_, _], _ => rfl⟩
  have F17 := fun_mk (st := s_worth) l17 c17 k17
  have C17 : Cal l.prog w mg base Γ 7 "worth" ["bill", "row"] g_worth := ⟨_, _, ok_worth n F17 C16, PySem.W.mg_of X G a17, k17, F17.binds fun _ _ _ _ _ _ us hl => match us, hl with | [_, _], _ => rfl⟩
  have F18 := fun_mk (st := s_signs_of) l18 c18 k18
  have C18 : Cal l.prog w mg base Γ 1 "signs_of" ["number", "signs", "wide"] g_signs_of := ⟨_, _, ok_signs_of n F18, PySem.W.mg_of X G a18, k18, F18.binds fun _ _ _ _ _ _ us hl => match us, hl with | [_, _, _], _ => rfl⟩
  have F19 := fun_mk (st := s_ones_of) l19 c19 k19
  have C19 : Cal l.prog w mg base Γ 1 "ones_of" ["wide"] g_ones_of := ⟨_, _, ok_ones_of n F19, PySem.W.mg_of X G a19, k19, F19.binds fun _ _ _ _ _ _ us hl => match us, hl with | [_], _ => rfl⟩
  have F20 := fun_mk (st := s_term_pays) l20 c20 k20
  have C20 : Cal l.prog w mg base Γ 2 "term_pays" ["term", "wide"] g_term_pays := ⟨_, _, ok_term_pays n F20 C9 C19, PySem.W.mg_of X G a20, k20, F20.binds fun _ _ _ _ _ _ us hl => match us, hl with | [_, _], _ => rfl⟩
  have F21 := fun_mk (st := s_bit_pays) l21 c21 k21
  have C21 : Cal l.prog w mg base Γ 3 "bit_pays" ["bill"] g_bit_pays := ⟨_, _, ok_bit_pays n F21 C13 C20, PySem.W.mg_of X G a21, k21, F21.binds fun _ _ _ _ _ _ us hl => match us, hl with | [_], _ => rfl⟩
  have F22 := fun_mk (st := s_raised) l22 c22 k22
  have C22 : Cal l.prog w mg base Γ 1 "raised" ["pays", "heights", "base"] g_raised := ⟨_, _, ok_raised n F22, PySem.W.mg_of X G a22, k22, F22.binds fun _ _ _ _ _ _ us hl => match us, hl with | [_, _, _], _ => rfl⟩
  have F23 := fun_mk (st := s_trail) l23 c23 k23
  have C23 : Cal l.prog w mg base Γ 1 "trail" ["pays", "layers", "start", "base"] g_trail := ⟨_, _, ok_trail n F23, PySem.W.mg_of X G a23, k23, F23.binds fun _ _ _ _ _ _ us hl => match us, hl with | [_, _, _, _], _ => rfl⟩
  have F24 := fun_mk (st := s_ring_on) l24 c24 k24
  have C24 : Cal l.prog w mg base Γ 1 "ring_on" ["numbers", "signs"] g_ring_on := ⟨_, _, ok_ring_on n F24, PySem.W.mg_of X G a24, k24, F24.binds fun _ _ _ _ _ _ us hl => match us, hl with | [_, _], _ => rfl⟩
  have F25 := fun_mk (st := s_ring_of_one) l25 c25 k25
  have C25 : Cal l.prog w mg base Γ 1 "ring_of_one" ["pays", "base"] g_ring_of_one := ⟨_, _, ok_ring_of_one n F25, PySem.W.mg_of X G a25, k25, F25.binds fun _ _ _ _ _ _ us hl => match us, hl with | [_, _], _ => rfl⟩
  have F26 := fun_mk (st := s_steepest) l26 c26 k26
  have C26 : Cal l.prog w mg base Γ 1 "steepest" ["layers"] g_steepest := ⟨_, _, ok_steepest n F26, PySem.W.mg_of X G a26, k26, F26.binds fun _ _ _ _ _ _ us hl => match us, hl with | [_], _ => rfl⟩
  have F27 := fun_mk (st := s_climb) l27 c27 k27
  have C27 : Cal l.prog w mg base Γ 2 "climb" ["pays", "base"] g_climb := ⟨_, _, ok_climb n F27 C25 C22 C23 C26 C24, PySem.W.mg_of X G a27, k27, F27.binds fun _ _ _ _ _ _ us hl => match us, hl with | [_, _], _ => rfl⟩
  have F28 := fun_mk (st := s_greatest_of) l28 c28 k28
  have C28 : Cal l.prog w mg base Γ 1 "greatest_of" ["heights", "starts"] g_greatest_of := ⟨_, _, ok_greatest_of n F28, PySem.W.mg_of X G a28, k28, F28.binds fun _ _ _ _ _ _ us hl => match us, hl with | [_, _], _ => rfl⟩
  have F29 := fun_mk (st := s_best_walk) l29 c29 k29
  have C29 : Cal l.prog w mg base Γ 2 "best_walk" ["pays", "layers", "starts", "base"] g_best_walk := ⟨_, _, ok_best_walk n F29 C28 C23, PySem.W.mg_of X G a29, k29, F29.binds fun _ _ _ _ _ _ us hl => match us, hl with | [_, _, _, _], _ => rfl⟩
  have F30 := fun_mk (st := s_is_bounded) l30 c30 k30
  have C30 : Cal l.prog w mg base Γ 6 "is_bounded" ["bill"] g_is_bounded := ⟨_, _, ok_is_bounded n F30 C27 C21 C12, PySem.W.mg_of X G a30, k30, F30.binds fun _ _ _ _ _ _ us hl => match us, hl with | [_], _ => rfl⟩
  have F31 := fun_mk (st := s_greatest) l31 c31 k31
  have C31 : Cal l.prog w mg base Γ 6 "greatest" ["bill"] g_greatest := ⟨_, _, ok_greatest n F31 C27 C21 C12, PySem.W.mg_of X G a31, k31, F31.binds fun _ _ _ _ _ _ us hl => match us, hl with | [_], _ => rfl⟩
  have F32 := fun_mk (st := s_best_row_of) l32 c32 k32
  have C32 : Cal l.prog w mg base Γ 3 "best_row_of" ["bill", "pays", "layers"] g_best_row_of := ⟨_, _, ok_best_row_of n F32 C29 C18 C13, PySem.W.mg_of X G a32, k32, F32.binds fun _ _ _ _ _ _ us hl => match us, hl with | [_, _, _], _ => rfl⟩
  have F33 := fun_mk (st := s_best_row) l33 c33 k33
  have C33 : Cal l.prog w mg base Γ 6 "best_row" ["bill"] g_best_row := ⟨_, _, ok_best_row n F33 C21 C12 C27 C32, PySem.W.mg_of X G a33, k33, F33.binds fun _ _ _ _ _ _ us hl => match us, hl with | [_], _ => rfl⟩
  have F34 := fun_mk (st := s__law_begun) l34 c34 k34
  have C34 : Cal l.prog w mg base Γ 1 "_law_begun" ["script"] g__law_begun := ⟨_, _, ok__law_begun n F34, PySem.W.mg_of X G a34, k34, F34.binds fun _ _ _ _ _ _ us hl => match us, hl with | [_], _ => rfl⟩
  have F35 := fun_mk (st := s__law_draw) l35 c35 k35
  have C35 : Cal l.prog w mg base Γ 1 "_law_draw" ["m", "many"] g__law_draw := ⟨_, _, ok__law_draw n F35, PySem.W.mg_of X G a35, k35, F35.binds fun _ _ _ _ _ _ us hl => match us, hl with | [_, _], _ => rfl⟩
  have F36 := fun_mk (st := s__law_of) l36 c36 k36
  have C36 : Cal l.prog w mg base Γ 2 "_law_of" ["m", "some"] g__law_of := ⟨_, _, ok__law_of n F36 C35, PySem.W.mg_of X G a36, k36, F36.binds fun _ _ _ _ _ _ us hl => match us, hl with | [_, _], _ => rfl⟩
  have F37 := fun_mk (st := s__law_weights) l37 c37 k37
  have C37 : Cal l.prog w mg base Γ 2 "_law_weights" ["m", "most"] g__law_weights := ⟨_, _, ok__law_weights n F37 C35, PySem.W.mg_of X G a37, k37, F37.binds fun _ _ _ _ _ _ us hl => match us, hl with | [_, _], _ => rfl⟩
  have F38 := fun_mk (st := s__law_drawn_bill) l38 c38 k38
  have C38 : Cal l.prog w mg base Γ 3 "_law_drawn_bill" ["m", "most"] g__law_drawn_bill := ⟨_, _, ok__law_drawn_bill n F38 C36 C35 C37, PySem.W.mg_of X G a38, k38, F38.binds fun _ _ _ _ _ _ us hl => match us, hl with | [_, _], _ => rfl⟩
  have F39 := fun_mk (st := s__law_tame_bill) l39 c39 k39
  have C39 : Cal l.prog w mg base Γ 3 "_law_tame_bill" ["m", "most"] g__law_tame_bill := ⟨_, _, ok__law_tame_bill n F39 C35 C36, PySem.W.mg_of X G a39, k39, F39.binds fun _ _ _ _ _ _ us hl => match us, hl with | [_, _], _ => rfl⟩
  have F40 := fun_mk (st := s__law_drawn_row) l40 c40 k40
  have C40 : Cal l.prog w mg base Γ 2 "_law_drawn_row" ["m", "least", "more", "high"] g__law_drawn_row := ⟨_, _, ok__law_drawn_row n F40 C35, PySem.W.mg_of X G a40, k40, F40.binds fun _ _ _ _ _ _ us hl => match us, hl with | [_, _, _, _], _ => rfl⟩
  have F41 := fun_mk (st := s__law_index) l41 c41 k41
  have C41 : Cal l.prog w mg base Γ 1 "_law_index" ["rule_so", "some"] g__law_index := ⟨_, _, ok__law_index n F41, PySem.W.mg_of X G a41, k41, F41.binds fun _ _ _ _ _ _ us hl => match us, hl with | [_, _], _ => rfl⟩
  have F42 := fun_mk (st := s__law_wide) l42 c42 k42
  have C42 : Cal l.prog w mg base Γ 1 "_law_wide" ["bill_so"] g__law_wide := ⟨_, _, ok__law_wide n F42, PySem.W.mg_of X G a42, k42, F42.binds fun _ _ _ _ _ _ us hl => match us, hl with | [_], _ => rfl⟩
  have F43 := fun_mk (st := s__law_paid) l43 c43 k43
  have C43 : Cal l.prog w mg base Γ 2 "_law_paid" ["bill_so", "row_so"] g__law_paid := ⟨_, _, ok__law_paid n F43 C42 C41, PySem.W.mg_of X G a43, k43, F43.binds fun _ _ _ _ _ _ us hl => match us, hl with | [_, _], _ => rfl⟩
  have F44 := fun_mk (st := s__law_bit_rows) l44 c44 k44
  have C44 : Cal l.prog w mg base Γ 1 "_law_bit_rows" ["many"] g__law_bit_rows := ⟨_, _, ok__law_bit_rows n F44, PySem.W.mg_of X G a44, k44, F44.binds fun _ _ _ _ _ _ us hl => match us, hl with | [_], _ => rfl⟩
  have F45 := fun_mk (st := s__law_net) l45 c45 k45
  have C45 : Cal l.prog w mg base Γ 3 "_law_net" ["bill_so"] g__law_net := ⟨_, _, ok__law_net n F45 C44 C42 C43, PySem.W.mg_of X G a45, k45, F45.binds fun _ _ _ _ _ _ us hl => match us, hl with | [_], _ => rfl⟩
  have F46 := fun_mk (st := s__law_best) l46 c46 k46
  have C46 : Cal l.prog w mg base Γ 1 "_law_best" ["net"] g__law_best := ⟨_, _, ok__law_best n F46, PySem.W.mg_of X G a46, k46, F46.binds fun _ _ _ _ _ _ us hl => match us, hl with | [_], _ => rfl⟩
  have F47 := fun_mk (st := s__law_first_row) l47 c47 k47
  have C47 : Cal l.prog w mg base Γ 3 "_law_first_row" ["bill_so", "goal"] g__law_first_row := ⟨_, _, ok__law_first_row n F47 C42 C44 C43, PySem.W.mg_of X G a47, k47, F47.binds fun _ _ _ _ _ _ us hl => match us, hl with | [_, _], _ => rfl⟩
  have F48 := fun_mk (st := s__law_right) l48 c48 k48
  have C48 : Cal l.prog w mg base Γ 8 "_law_right" ["m", "bill_so"] g__law_right := ⟨_, _, ok__law_right n F48 C46 C45 C31 C30 C47 C33 C36 C40 C17, PySem.W.mg_of X G a48, k48, F48.binds fun _ _ _ _ _ _ us hl => match us, hl with | [_, _], _ => rfl⟩
  have F49 := fun_mk (st := s_law) l49 c49 k49
  exact ok_law n F49 C34 C35 C39 C38 C48 C31 C33 C47 C30
end MP.K08
set_option Elab.async false
set_option linter.all false
set_option maxRecDepth 100000
set_option maxHeartbeats 2000000
namespace MP.K08
open PySem PySem.Spec MP MP.PG
open PyProof.Rows hiding St
open L2 hiding St r1
section
variable {o : Int} {ts : List Term} {pre os : Sto} {cs : List Int} {l p : Int} {K : Nat}
theorem first_row_ok (ho : ClP pre os) (hB : Bill o ts) (hw : wd ts ≤ 4) (hF : fw o ts K ≤ 8) : g__law_first_row [bi o ts, .int (top o ts K)] (St pre os cs l p) = .ok (tN (brow o ts K)) (St pre os cs l p) := by
  let S := St pre os cs l p
  let Q : List Nat → Bool := fun r => decide (wo o ts r = top o ts K)
  obtain ⟨f1, f2⟩ := find_row (o := o) (K := K) hB.ok
  let E (x3 x4 : Option Dv) : Env := [some (bi o ts), some (.int (top o ts K)), some (.int (wd ts : Int)), x3, x4]
  have e0 : startD 5 [bi o ts, .int (top o ts K)] = [some (bi o ts), some (.int (top o ts K)), none, none, none] := rfl
  have c1 : mAsg (mCall (g__law_wide) (mCons (mVar 0) mNil)) (gN 2) [some (bi o ts), some (.int (top o ts K)), none, none, none] S = .nx (E none none) S := by
    refine (asg_v (w := .int (wd ts : Int)) ?_).trans rfl
    rw [call_ev, cons_v (w := bi o ts) rfl nil_ev, bind_ok]
    exact law_wide_ok hB.ok hB.two
  have hF2 : F__law_first_row_2 (E none none) S = .ok { ws := (List.range 9).map fun i : Nat => .int (0 + (i : Int)) } S := by
    have h1 : mBin addD (mBin powD (mK (.int 2)) (mK (.int 3))) (mK (.int 1)) (E none none) S = .ok (.int 9) S := bin_v (x := .int 8) (y := .int 1) (bin_v (x := .int 2) (y := .int 3) k_ev k_ev (pow_ii (by decide))) k_ev rfl
    exact range1_ok (fa := mCons (mBin addD (mBin powD (mK (.int 2)) (mK (.int 3))) (mK (.int 1))) mNil) (cons_v h1 nil_ev) (okR_s (by decide) (by decide))
  have hloop := forL_find (s := S) (g := t__law_first_row_2) (body := b__law_first_row_2) (α := Nat) (e := fun i : Nat => .int (0 + (i : Int))) (v := fun m => tN (((brs (wd ts + m)).find? Q).getD [])) (fun m => ((brs (wd ts + m)).find? Q).isSome) (fun ρ => ∃ x3 x4, ρ = E x3 x4) (L := List.range 9) (ρ := E none none) ⟨_, _, rfl⟩ fun m hm ρ hJ => by
    obtain ⟨x3, x4, rfl⟩ := hJ
    have hm9 := List.mem_range.mp hm
    have hF1 : F__law_first_row_1 (E (some (.int (0 + (m : Int)))) x4) S = .ok { ws := (brs (wd ts + m)).map tN } S := by
      have h1 : mCall (g__law_bit_rows) (mCons (mBin addD (mVar 2) (mVar 3)) mNil) (E (some (.int (0 + (m : Int)))) x4) S = .ok (.lst ((brs (wd ts + m)).map tN)) S := by
        rw [call_ev, cons_v (w := .int ((wd ts + m : Nat) : Int)) (bin_v (x := .int (wd ts : Int)) (y := .int (0 + (m : Int))) rfl rfl (by rw [add_ii]; congr 2; omega)) nil_ev, bind_ok]
        exact bit_rows_ok (by omega)
      unfold F__law_first_row_1 iSeq
      rw [h1, bind_ok]
      rfl
    have hin := forL_find (s := S) (g := t__law_first_row_1) (body := b__law_first_row_1) (α := List Nat) (e := tN) (v := tN) Q (fun ρ => ∃ x4, ρ = E (some (.int (0 + (m : Int)))) x4) (L := brs (wd ts + m)) (ρ := E (some (.int (0 + (m : Int)))) x4) ⟨_, rfl⟩ fun r hr ρ hJ => by
      obtain ⟨x4, rfl⟩ := hJ
      obtain ⟨r1', r2'⟩ := mem_brs.mp hr
      have ht : mTest (mBin eqD (mBlt sumA (mCons (mCall (g__law_paid) (mCons (mVar 0) (mCons (mVar 4) mNil))) mNil)) (mVar 1)) (E (some (.int (0 + (m : Int)))) (some (tN r))) S = .ok (Q r) S := by
        refine test_v (bin_v (x := .int (wo o ts r)) (y := .int (top o ts K)) (blt_v (cons_v (w := lI (pys o ts (toI r))) ?_ nil_ev) sum_LI) rfl eq_ii)
        rw [call_ev, cons_v (w := bi o ts) rfl (cons_v (w := tN r) rfl nil_ev), bind_ok, tN_toI]
        exact law_paid_ok ho hB (row_bits r1' (by omega)) (by rw [List.length_map]; omega)
      refine ⟨E (some (.int (0 + (m : Int)))) (some (tN r)), rfl, fun hq => ?_, fun hq => ⟨E (some (.int (0 + (m : Int)))) (some (tN r)), ?_, _, rfl⟩⟩
      · rw [hq] at ht
        unfold b__law_first_row_1
        rw [ifS_t ht]
        exact ret_v rfl
      · rw [hq] at ht
        unfold b__law_first_row_1
        rw [ifS_f ht]
        rfl
    refine ⟨E (some (.int (0 + (m : Int)))) x4, rfl, fun hp => ?_, fun hp => ?_⟩
    · rcases hin with ⟨r, h1, h2⟩ | ⟨h1, _⟩
      · unfold b__law_first_row_2
        rw [for_src hF1, h2, h1]
        rfl
      · rw [h1] at hp; cases hp
    · rcases hin with ⟨r, h1, h2⟩ | ⟨h1, ρ', h2, x4', rfl⟩
      · rw [h1] at hp; cases hp
      · refine ⟨E (some (.int (0 + (m : Int)))) x4', ?_, _, _, rfl⟩
        unfold b__law_first_row_2
        rw [for_src hF1, h2]
  have hfd : (List.range 9).find? (fun m => ((brs (wd ts + m)).find? Q).isSome) = some (fw o ts K) := by
    refine find_at (i := fw o ts K) (List.getElem?_range (by omega)) (by rw [f1]; rfl) fun j b hj hb => ?_
    have : b = j := by
      rw [List.getElem?_range (by omega)] at hb
      exact (Option.some.inj hb).symm
    subst this
    rw [f2 b hj]
    rfl
  rcases hloop with ⟨m, h1, h2⟩ | ⟨h1, _⟩
  · rw [hfd] at h1
    cases h1
    unfold g__law_first_row d__law_first_row
    rw [den_ev, e0]
    refine fin_nx c1 (fin_rtS ((for_src hF2).trans h2) ?_)
    rw [f1]
    exact fin_St
  · rw [hfd] at h1; cases h1
abbrev qe (o : Int) (ts : List Term) (pre : Sto) (x2 x3 x4 x5 x6 x7 x8 : Option Dv) : Env := [some (.ref pre.length), some (bi o ts), x2, x3, x4, x5, x6, x7, x8]
/-- the due value -/
def DueOk (o : Int) (ts : List Term) (D : Dv) : Prop := D = .non ∨ ∃ K, D = .int (top o ts K) ∧ Stable (PP o ts) (NN ts) 2 K ∧ K ≤ 64
theorem turn_ok {x2 x4 x5 x6 x7 x8 : Option Dv} {D : Dv} (hB : Bill o ts) (hw : wd ts ≤ 3) (hD : DueOk o ts D) (hc : cs ≠ []) (hp : 0 ≤ p) (hp2 : p < 800000) :
    ∃ y7 y8 l' p', b__law_right_1 (qe o ts pre x2 (some D) x4 x5 x6 x7 x8) (St pre os cs l p) = .nx (qe o ts pre x2 (some D) x4 x5 x6 y7 y8) (St pre os cs l' p') ∧ 0 ≤ p' ∧ p' ≤ p + 30 := by
  obtain ⟨hv, l1, p1, hm, o1, p10, p11⟩ := law_of_ok (pre := pre) (tl := os) (l := l) (p := p) (ws := [.int 1, .int 3, .int 1000000]) hc hp (by omega) (by intro z; cases z) (by show 3 < 1000; decide)
  obtain ⟨M, rfl, hM⟩ : ∃ i : Nat, hv = .int (i : Int) ∧ i ≤ 1000000 := by
    rcases List.mem_cons.mp hm with rfl | hm
    · exact ⟨1, rfl, by decide⟩
    · rcases List.mem_cons.mp hm with rfl | hm
      · exact ⟨3, rfl, by decide⟩
      · rcases List.mem_cons.mp hm with rfl | hm
        · exact ⟨1000000, rfl, by decide⟩
        · cases hm
  obtain ⟨ns, l2, p2, d2, n1, n2, n3, p20, p21⟩ := drawn_row_ok (pre := pre) (tl := os) (l := l1) (p := p1) (least := 3) (more := 20) (high := (M : Int)) hc p10 (by omega) (by decide) (by decide) (by decide) (by omega) (by omega)
  have hrow : Row ns := ⟨by omega, fun i hi => by have := n3 i hi; omega⟩
  have c1 : mAsg (mCall (g__law_of) (mCons (mVar 0) (mCons (mLst (mCons (mK (.int 1)) (mCons (mK (.int 3)) (mCons (mBin powD (mK (.int 10)) (mK (.int 6))) mNil)))) mNil))) (gN 7) (qe o ts pre x2 (some D) x4 x5 x6 x7 x8) (St pre os cs l p) = .nx (qe o ts pre x2 (some D) x4 x5 x6 (some (.int (M : Int))) x8) (St pre os cs l1 p1) := by
    refine (asg_v (w := .int (M : Int)) (s1 := St pre os cs l1 p1) ?_).trans rfl
    rw [call_ev, cons_v (w := .ref pre.length) rfl (cons_v (lst_v (cons_v k_ev (cons_v k_ev (cons_v (w := .int 1000000) (bin_v (x := .int 10) (y := .int 6) k_ev k_ev (pow_ii (by decide))) nil_ev))) (by show 3 ≤ 1000000; decide)) nil_ev), bind_ok]
    exact o1
  have c2 : mAsg (mCall (g__law_drawn_row) (mCons (mVar 0) (mCons (mK (.int 3)) (mCons (mK (.int 20)) (mCons (mVar 7) mNil))))) (gN 8) (qe o ts pre x2 (some D) x4 x5 x6 (some (.int (M : Int))) x8) (St pre os cs l1 p1) = .nx (qe o ts pre x2 (some D) x4 x5 x6 (some (.int (M : Int))) (some (tI ns))) (St pre os cs l2 p2) := by
    refine (asg_v (w := tI ns) (s1 := St pre os cs l2 p2) ?_).trans rfl
    rw [call_ev, cons_v (w := .ref pre.length) rfl (cons_v k_ev (cons_v k_ev (cons_v (w := .int (M : Int)) rfl nil_ev))), bind_ok]
    exact d2
  have c3 : mIfS (mAnd (mTest (mBin isntD (mVar 3) (mK .non))) (mTest (mBin gtD (mCall (g_worth) (mCons (mVar 1) (mCons (mVar 8) mNil))) (mBin mulD (mVar 7) (mVar 3))))) (mRet (mK (.bl false))) mNext (qe o ts pre x2 (some D) x4 x5 x6 (some (.int (M : Int))) (some (tI ns))) (St pre os cs l2 p2) = .nx (qe o ts pre x2 (some D) x4 x5 x6 (some (.int (M : Int))) (some (tI ns))) (St pre os cs l2 p2) := by
    rcases hD with rfl | ⟨K, rfl, hst, hK⟩
    · exact (ifS_f (and_f (test_v (bin_v (x := .non) (y := .non) rfl k_ev isnt_nn)))).trans rfl
    · have ht := top_abs (o := o) (ts := ts) (K := K) hB hK
      have hle := rows_le (K := K) (M := M) hB.ok hst (fun n hn => n3 n hn) (by omega : wd ts ≤ ns.length)
      refine (ifS_f (and_t (s1 := St pre os cs l2 p2) (test_v (bin_v (x := .int (top o ts K)) (y := .non) rfl k_ev rfl)) (test_v (bin_v (x := .int (pys o ts ns).sum) (y := .int ((M : Int) * top o ts K)) ?_ (bin_v (x := .int (M : Int)) (y := .int (top o ts K)) rfl rfl (mul_ii (cm_l ⟨by omega, by omega⟩))) ?_)))).trans rfl
      · rw [call_ev, cons_v (w := bi o ts) rfl (cons_v (w := tI ns) rfl nil_ev), bind_ok]
        exact worth_ok hB hrow (by omega)
      · rw [gt_ii, decide_eq_false (by omega)]
  refine ⟨some (.int (M : Int)), some (tI ns), l2, p2, ?_, p20, by omega⟩
  unfold b__law_right_1
  exact seq_nx c1 (seq_nx c2 c3)
open Classical in
theorem right_ok (ho : ClP pre os) (hB : Bill o ts) (hw : wd ts ≤ 3) (hc : cs ≠ []) (hp : 0 ≤ p) (hp2 : p < 700000) :
    ∃ l' p', g__law_right [.ref pre.length, bi o ts] (St pre os cs l p) = .ok (.bl true) (St pre os cs l' p') ∧ 0 ≤ p' ∧ p' ≤ p + 90 := by
  have hS : Cl (St pre os cs l p) := fun n => St_clean ho
  let S := St pre os cs l p
  have hp8 : 2 ^ wd ts ≤ 8 := Nat.le_trans (Nat.pow_le_pow_right (by decide) hw) (by decide)
  have e0 : startD 9 [.ref pre.length, bi o ts] = qe o ts pre none none none none none none none := rfl
  let G : Dv := gt_ o ts
  let RR : Dv := brD o ts
  let B : Bool := decide (Bd (bpF o ts) (2 ^ wd ts) 2)
  have hcase : DueOk o ts G ∧ (∀ s : Sto, isntD s G .non = some (.bl B)) ∧ (∃ t, reprA S [.lst [G, .bl B, G]] = some (.str t)) ∧ (∃ t, reprA S [.lst [RR, RR]] = some (.str t)) ∧
      (∀ ρ : Env, ρ[2]? = some (some (bestD o ts)) → mIf (mTest (mBin isntD (mVar 2) (mK .non))) (mBlt maxLD (mCons (mListVals (mVar 2)) mNil)) (mK .non) ρ S = .ok G S) ∧
      (∀ ρ : Env, ρ[2]? = some (some (bestD o ts)) → ρ[1]? = some (some (bi o ts)) → ρ[3]? = some (some G) → mIf (mTest (mBin isntD (mVar 2) (mK .non))) (mCall (g__law_first_row) (mCons (mVar 1) (mCons (mVar 3) mNil))) (mK .non) ρ S = .ok RR S) := by
    rcases Classical.em (Bd (bpF o ts) (2 ^ wd ts) 2) with hbd | hbd
    · obtain ⟨k1, k2⟩ := Kf_le hB hbd
      generalize hK : Kf (bpF o ts) (2 ^ wd ts) 2 = K at k1 k2
      have eG : G = .int (top o ts K) := by
        show gt_ o ts = _
        unfold gt_
        rw [if_pos hbd, hK]
        rfl
      have eR : RR = tN (brow o ts K) := by
        show brD o ts = _
        unfold brD
        rw [if_pos hbd, hK]
      have eB : B = true := decide_eq_true hbd
      have eD : bestD o ts = .dtt ((brs (wd ts)).map tN) ((brs (wd ts)).map (hT o ts K)) := by
        unfold bestD
        rw [if_pos hbd, hK]
      have hF := fw_le (o := o) (ts := ts) (K := K)
      have ht := top_abs (o := o) (ts := ts) (K := K) hB (by omega)
      obtain ⟨b1, b2⟩ := brow_spec (o := o) (ts := ts) (K := K)
      rw [eG, eR, eB, eD]
      refine ⟨.inr ⟨K, rfl, k1, by omega⟩, fun s => rfl, ?_, ?_, fun ρ h2 => ?_, fun ρ h2 h1 h3 => ?_⟩
      · exact (sh_lst (pl_lst (pls_cons (pl_small (by omega)) (pls_cons pl_bl (pls_cons (pl_small (by omega)) pls_nil)))) (by decide) (by decide)) S
      · have hr := pl_tN (l := brow o ts K) (by omega) b1
        exact (sh_lst (pl_lst (pls_cons hr (pls_cons hr pls_nil))) (by decide) (by decide)) S
      · have v2 : mVar 2 ρ S = .ok (.dtt ((brs (wd ts)).map tN) ((brs (wd ts)).map (hT o ts K))) S := by unfold mVar; rw [h2]
        refine if_vt (test_v (bin_v v2 k_ev rfl)) (blt_v (cons_v (w := lI (lf (2 ^ wd ts) (Hh (bpF o ts) (2 ^ wd ts) 2 K))) ?_ nil_ev) ?_)
        · unfold mListVals
          rw [v2, bind_ok]
          have e : (brs (wd ts)).map (hT o ts K) = ((brs (wd ts)).map fun r => Hh (bpF o ts) (2 ^ wd ts) 2 K (num r)).map .int := by rw [List.map_map]; rfl
          show R.ok (Dv.lst ((brs (wd ts)).map (hT o ts K))) S = _
          rw [e, brs_vals]
        · rw [max_I (fun z => by
            have := congrArg List.length z
            rw [lf_len] at this
            have := Nat.two_pow_pos (wd ts)
            simp at *), top_lf]
      · have v2 : mVar 2 ρ S = .ok (.dtt ((brs (wd ts)).map tN) ((brs (wd ts)).map (hT o ts K))) S := by unfold mVar; rw [h2]
        refine if_vt (test_v (bin_v v2 k_ev rfl)) ?_
        rw [call_ev, cons_v (w := bi o ts) (by unfold mVar; rw [h1]) (cons_v (w := .int (top o ts K)) (by unfold mVar; rw [h3]) nil_ev), bind_ok]
        exact first_row_ok ho hB (by omega) (by omega)
    · have eG : G = .non := by
        show gt_ o ts = _
        unfold gt_
        rw [if_neg hbd]
      have eR : RR = .non := by
        show brD o ts = _
        unfold brD
        rw [if_neg hbd]
      have eB : B = false := decide_eq_false hbd
      have eD : bestD o ts = .non := by
        unfold bestD
        rw [if_neg hbd]
      rw [eG, eR, eB, eD]
      refine ⟨.inl rfl, fun s => rfl, ?_, ?_, fun ρ h2 => ?_, fun ρ h2 h1 h3 => ?_⟩
      · exact (sh_lst (pl_lst (pls_cons pl_non (pls_cons pl_bl (pls_cons pl_non pls_nil)))) (by decide) (by decide)) S
      · exact (sh_lst (pl_lst (pls_cons pl_non (pls_cons pl_non pls_nil))) (by decide) (by decide)) S
      · exact if_vf (test_v (bin_v (x := .non) (y := .non) (by unfold mVar; rw [h2]) k_ev isnt_nn)) k_ev
      · exact if_vf (test_v (bin_v (x := .non) (y := .non) (by unfold mVar; rw [h2]) k_ev isnt_nn)) k_ev
  obtain ⟨hD, hB1, hr1, hr2, hdue, hrow⟩ := hcase
  have c1 : mAsg (mCall (g__law_best) (mCons (mCall (g__law_net) (mCons (mVar 1) mNil)) mNil)) (gN 2) (qe o ts pre none none none none none none none) S = .nx (qe o ts pre (some (bestD o ts)) none none none none none none) S := by
    refine (asg_v (w := bestD o ts) ?_).trans rfl
    rw [call_ev, cons_v (w := netD o ts) (by rw [call_ev, cons_v (w := bi o ts) rfl nil_ev, bind_ok]; exact net_ok ho hB) nil_ev, bind_ok]
    exact best_ok hS hB
  have c2 : mAsg (mIf (mTest (mBin isntD (mVar 2) (mK .non))) (mBlt maxLD (mCons (mListVals (mVar 2)) mNil)) (mK .non)) (gN 3) (qe o ts pre (some (bestD o ts)) none none none none none none) S = .nx (qe o ts pre (some (bestD o ts)) (some G) none none none none none) S := (asg_v (hdue _ rfl)).trans rfl
  have hgt : ∀ ρ : Env, ρ[1]? = some (some (bi o ts)) → mCall (g_greatest) (mCons (mVar 1) mNil) ρ S = .ok G S := fun ρ h => by
    rw [call_ev, cons_v (w := bi o ts) (by unfold mVar; rw [h]) nil_ev, bind_ok]
    exact greatest_ok hS hB
  have hbo : ∀ ρ : Env, ρ[1]? = some (some (bi o ts)) → mCall (g_is_bounded) (mCons (mVar 1) mNil) ρ S = .ok (.bl B) S := fun ρ h => by
    rw [call_ev, cons_v (w := bi o ts) (by unfold mVar; rw [h]) nil_ev, bind_ok]
    exact bounded_ok hS hB
  have hbr : ∀ ρ : Env, ρ[1]? = some (some (bi o ts)) → mCall (g_best_row) (mCons (mVar 1) mNil) ρ S = .ok RR S := fun ρ h => by
    rw [call_ev, cons_v (w := bi o ts) (by unfold mVar; rw [h]) nil_ev, bind_ok]
    exact best_row_ok hS hB
  have c3 : mAsg (mLst (mCons (mCall (g_greatest) (mCons (mVar 1) mNil)) (mCons (mCall (g_is_bounded) (mCons (mVar 1) mNil)) (mCons (mCall (g_greatest) (mCons (mVar 1) mNil)) mNil)))) (gN 4) (qe o ts pre (some (bestD o ts)) (some G) none none none none none) S = .nx (qe o ts pre (some (bestD o ts)) (some G) (some (.lst [G, .bl B, G])) none none none none) S :=
    (asg_v (lst_v (cons_v (hgt _ rfl) (cons_v (hbo _ rfl) (cons_v (hgt _ rfl) nil_ev))) (by show 3 ≤ 1000000; decide))).trans rfl
  have c4 : mIfS (mTest (mBin neD (mBlt reprA (mCons (mVar 4) mNil)) (mBlt reprA (mCons (mLst (mCons (mVar 3) (mCons (mBin isntD (mVar 3) (mK .non)) (mCons (mVar 3) mNil)))) mNil)))) (mRet (mK (.bl false))) mNext (qe o ts pre (some (bestD o ts)) (some G) (some (.lst [G, .bl B, G])) none none none none) S = .nx (qe o ts pre (some (bestD o ts)) (some G) (some (.lst [G, .bl B, G])) none none none none) S :=
    (ifS_f (rA_ne (w := .lst [G, .bl B, G]) rfl (lst_v (cons_v (w := G) rfl (cons_v (w := .bl B) (bin_v (x := G) (y := .non) rfl k_ev (hB1 _)) (cons_v (w := G) rfl nil_ev))) (by show 3 ≤ 1000000; decide)) hr1)).trans rfl
  have c5 : mAsg (mIf (mTest (mBin isntD (mVar 2) (mK .non))) (mCall (g__law_first_row) (mCons (mVar 1) (mCons (mVar 3) mNil))) (mK .non)) (gN 5) (qe o ts pre (some (bestD o ts)) (some G) (some (.lst [G, .bl B, G])) none none none none) S = .nx (qe o ts pre (some (bestD o ts)) (some G) (some (.lst [G, .bl B, G])) (some RR) none none none) S := (asg_v (hrow _ rfl rfl rfl)).trans rfl
  have c6 : mIfS (mTest (mBin neD (mBlt reprA (mCons (mLst (mCons (mCall (g_best_row) (mCons (mVar 1) mNil)) (mCons (mCall (g_best_row) (mCons (mVar 1) mNil)) mNil))) mNil)) (mBlt reprA (mCons (mLst (mCons (mVar 5) (mCons (mVar 5) mNil))) mNil)))) (mRet (mK (.bl false))) mNext (qe o ts pre (some (bestD o ts)) (some G) (some (.lst [G, .bl B, G])) (some RR) none none none) S = .nx (qe o ts pre (some (bestD o ts)) (some G) (some (.lst [G, .bl B, G])) (some RR) none none none) S :=
    (ifS_f (rA_ne (w := .lst [RR, RR]) (lst_v (cons_v (hbr _ rfl) (cons_v (hbr _ rfl) nil_ev)) (by show 2 ≤ 1000000; decide)) (lst_v (cons_v (w := RR) rfl (cons_v (w := RR) rfl nil_ev)) (by show 2 ≤ 1000000; decide)) hr2)).trans rfl
  have hFl : F__law_right_1 (qe o ts pre (some (bestD o ts)) (some G) (some (.lst [G, .bl B, G])) (some RR) none none none) S = .ok { ws := rng 0 3 } S := range1_ok (fa := mCons (mK (.int 3)) mNil) (cons_v k_ev nil_ev) (okR_s (by decide) (by decide))
  obtain ⟨ρ', s', f1, l', p', rfl, x6, x7, x8, rfl, q0, q1⟩ := for_ix (g := t__law_right_1) (body := b__law_right_1)
    (fun i ρ s' => ∃ l' p', s' = St pre os cs l' p' ∧ ∃ x6 x7 x8, ρ = qe o ts pre (some (bestD o ts)) (some G) (some (.lst [G, .bl B, G])) (some RR) x6 x7 x8 ∧ 0 ≤ p' ∧ p' ≤ p + 30 * (i : Int)) hFl ⟨l, p, rfl, _, _, _, rfl, hp, by omega⟩ fun i x ρ s' hx hJ => by
      obtain ⟨l', p', rfl, x6, x7, x8, rfl, q0, q1⟩ := hJ
      obtain ⟨hi, rfl⟩ := rng_get hx
      obtain ⟨y7, y8, l2, p2, f, r0, r1⟩ := turn_ok (pre := pre) (os := os) (l := l') (p := p') (x2 := some (bestD o ts)) (x4 := some (.lst [G, .bl B, G])) (x5 := some RR) (x6 := some (.int (0 + (i : Int)))) (x7 := x7) (x8 := x8) hB hw hD hc q0 (by omega)
      exact ⟨_, _, _, rfl, .inl f, l2, p2, rfl, _, _, _, rfl, r0, by omega⟩
  rw [rng_len] at q1
  refine ⟨l', p', ?_, q0, by omega⟩
  unfold g__law_right d__law_right
  rw [den_ev, e0]
  refine fin_nx c1 (fin_nx c2 (fin_nx c3 (fin_nx c4 (fin_nx c5 (fin_nx c6 (fin_nx f1 ?_))))))
  rw [ret_v k_ev]
  exact fin_St
end
end MP.K08
set_option Elab.async false
set_option linter.all false
set_option maxRecDepth 100000
set_option maxHeartbeats 2000000
namespace MP.PG
open PySem PySem.Spec MP
open PyProof.Rows hiding St
open L2 hiding St r1
def popF : Nat → Nat → Nat
  | 0, _ => 0
  | f + 1, n => n % 2 + popF f (n / 2)
theorem popF_eq : ∀ (f n : Nat), n ≤ f → popF f n = pop n
  | 0, n, h => by
    obtain rfl : n = 0 := by omega
    exact pop_0.symm
  | f + 1, n, h => by
    rw [pop_eq n]
    show n % 2 + popF f (n / 2) = _
    by_cases h0 : n = 0
    · subst h0
      have : ∀ f, popF f 0 = 0 := fun f => by
        induction f with
        | zero => rfl
        | succ f ih => show 0 % 2 + popF f (0 / 2) = 0; rw [Nat.zero_div, ih]
      rw [Nat.zero_div, this, pop_0]
    · rw [popF_eq f (n / 2) (by omega)]
def tpC (t : Term) (w : Nat) : Int := t.a * idb t.rs (popF (w / 2 % 2 ^ t.rs.length) (w / 2 % 2 ^ t.rs.length)) + t.b * idb t.rs (popF (w % 2 ^ t.rs.length) (w % 2 ^ t.rs.length))
def bpC (o : Int) (ts : List Term) (w : Nat) : Int := o * ((w % 2 : Nat) : Int) + (ts.map fun t => tpC t w).sum
theorem bpC_eq {o : Int} {ts : List Term} : bpF o ts = bpC o ts := by
  funext w
  unfold bpF bpC
  congr 2
  refine List.map_congr_left fun t _ => ?_
  unfold tpF tpC
  rw [popF_eq _ _ (Nat.le_refl _), popF_eq _ _ (Nat.le_refl _)]
def hC (o : Int) (ts : List Term) (k : Nat) : List Int := lf (2 ^ wd ts) (Hh (bpC o ts) (2 ^ wd ts) 2 k)
def browC (o : Int) (ts : List Term) (K : Nat) : List Nat :=
  digs 2 (wd ts) (bs1 (bpC o ts) (2 ^ wd ts) 2 (List.range (2 ^ wd ts)) K) ++ (List.range (few (bpC o ts) (2 ^ wd ts) 2 (List.range (2 ^ wd ts)) K)).map fun i => sg (bpC o ts) (2 ^ wd ts) 2 (few (bpC o ts) (2 ^ wd ts) 2 (List.range (2 ^ wd ts)) K) (bs1 (bpC o ts) (2 ^ wd ts) 2 (List.range (2 ^ wd ts)) K) i
def chk (o : Int) (ts : List Term) (K : Nat) (v : Int) (r : List Nat) : Bool := decide (hC o ts (K + 1) = hC o ts K) && (List.range K).all (fun k => !decide (hC o ts (k + 1) = hC o ts k)) && decide (maxO 0 (hC o ts K) = v) && decide (browC o ts K = r)
theorem chk_ok {o : Int} {ts : List Term} {K : Nat} {v : Int} {r : List Nat} (h : chk o ts K v r = true) : Bd (bpF o ts) (2 ^ wd ts) 2 ∧ Kf (bpF o ts) (2 ^ wd ts) 2 = K ∧ top o ts K = v ∧ brow o ts K = r := by
  unfold chk at h
  rw [Bool.and_eq_true, Bool.and_eq_true, Bool.and_eq_true] at h
  obtain ⟨⟨⟨h1, h2⟩, h3⟩, h4⟩ := h
  have e : bpC o ts = bpF o ts := bpC_eq.symm
  unfold hC at h1 h2 h3
  unfold browC at h4
  rw [e] at h1 h3 h4
  have h1 := of_decide_eq_true h1
  have st : ∀ k, lf (2 ^ wd ts) (Hh (bpF o ts) (2 ^ wd ts) 2 (k + 1)) = lf (2 ^ wd ts) (Hh (bpF o ts) (2 ^ wd ts) 2 k) ↔ Stable (bpF o ts) (2 ^ wd ts) 2 k := fun k => by
    constructor
    · intro h n hn
      have := congrArg (fun l : List Int => l[n]?) h
      simp only [lf_get hn] at this
      exact Option.some.inj this
    · intro h
      exact lf_ext h
  have hs := (st K).mp h1
  have hg : Growing (bpF o ts) (2 ^ wd ts) 2 K := growing_of fun j hj hst => by
    have := List.all_eq_true.mp h2 j (List.mem_range.mpr hj)
    rw [e, decide_eq_true ((st j).mpr hst)] at this
    cases this
  exact ⟨⟨K, hs⟩, (Kf_eq (Nat.two_pow_pos _) hs hg).symm, of_decide_eq_true h3, of_decide_eq_true h4⟩
def chR (o : Int) (ts : List Term) (n : Nat) (ss : List Nat) : Bool := decide (n < 2 ^ wd ts) && ss.all (fun s => decide (s < 2)) && decide (sge (2 ^ wd ts) 2 ss n = n) && decide (0 < sgp (bpC o ts) (2 ^ wd ts) 2 ss n)
theorem chR_ok {o : Int} {ts : List Term} {n : Nat} {ss : List Nat} (h : chR o ts n ss = true) : ¬ Bd (bpF o ts) (2 ^ wd ts) 2 := fun ⟨K, hK⟩ => by
  unfold chR at h
  rw [Bool.and_eq_true, Bool.and_eq_true, Bool.and_eq_true, ← bpC_eq] at h
  obtain ⟨⟨⟨h1, h2⟩, h3⟩, h4⟩ := h
  exact ring_grows (Nat.two_pow_pos _) (of_decide_eq_true h1) (fun s hs => of_decide_eq_true (List.all_eq_true.mp h2 s hs)) (of_decide_eq_true h3) (of_decide_eq_true h4) hK
end MP.PG
set_option Elab.async false
set_option linter.all false
set_option maxRecDepth 100000
set_option maxHeartbeats 4000000
namespace MP.K08
open PySem PySem.Spec MP MP.PG
open PyProof.Rows hiding St
open L2 hiding St r1
section
variable {pre os : Sto} {cs : List Int} {l p : Int} {s : Sto}
theorem lap_ok {sc k x3 x4 : Option Dv} (hc : cs ≠ []) (hp : 0 ≤ p) (hp2 : p < 600000) : ∃ l' p' y3 y4, b_law_1 [sc, some (.ref 0), k, x3, x4, none, none] (St [] [] cs l p) = .nx [sc, some (.ref 0), k, y3, y4, none, none] (St [] [] cs l' p') ∧ 0 ≤ p' ∧ p' ≤ p + 200 := by
  obtain ⟨d, l1, p1, d1, d10, d11, p10, p11⟩ := (draw_ok (pre := []) (tl := []) (l := l) hc (show (0 : Int) < 3 by decide) (by decide) hp (by omega)).ok
  let E (x3 x4 : Option Dv) : Env := [sc, some (.ref 0), k, x3, x4, none, none]
  have key : ∃ o ts l2 p2, mIf (mTest (mBin gtD (mCall (g__law_draw) (mCons (mVar 1) (mCons (mK (.int 3)) mNil))) (mK (.int 0)))) (mCall (g__law_tame_bill) (mCons (mVar 1) (mCons (mK (.int 3)) mNil))) (mCall (g__law_drawn_bill) (mCons (mVar 1) (mCons (mK (.int 3)) mNil))) (E x3 x4) (St [] [] cs l p) = .ok (bi o ts) (St [] [] cs l2 p2) ∧ Bill o ts ∧ 0 ≤ p2 ∧ p2 ≤ p + 40 ∧ wd ts ≤ 3 := by
    have ht : mTest (mBin gtD (mCall (g__law_draw) (mCons (mVar 1) (mCons (mK (.int 3)) mNil))) (mK (.int 0))) (E x3 x4) (St [] [] cs l p) = .ok (decide (0 < d)) (St [] [] cs l1 p1) :=
      test_v (bin_v (x := .int d) (y := .int 0) (call_v (cons_v (w := .ref 0) rfl (cons_v k_ev nil_ev)) d1) rfl gt_ii)
    by_cases h0 : 0 < d
    · rw [decide_eq_true h0] at ht
      obtain ⟨o, ts, l2, p2, t2, hB, q0, q1, q2⟩ := tame_ok (pre := []) (os := []) (l := l1) (most := 3) hc p10 (by omega) (by decide) (by decide)
      have := wd_le hB.ok q2 (by decide)
      exact ⟨o, ts, l2, p2, if_vt ht (call_v (cons_v (w := .ref 0) rfl (cons_v k_ev nil_ev)) t2), hB, q0, by omega, by omega⟩
    · rw [decide_eq_false h0] at ht
      obtain ⟨o, ts, l2, p2, t2, hB, q0, q1, q2⟩ := drawn_bill_ok (pre := []) (os := []) cl_nil (l := l1) (most := 3) hc p10 (by omega) (by decide) (by decide)
      have := wd_le hB.ok q2 (by decide)
      exact ⟨o, ts, l2, p2, if_vf ht (call_v (cons_v (w := .ref 0) rfl (cons_v k_ev nil_ev)) t2), hB, q0, by omega, by omega⟩
  obtain ⟨o, ts, l2, p2, hb, hB, q0, q1, hw⟩ := key
  obtain ⟨l3, p3, hr, r0, r1⟩ := right_ok (pre := []) (os := []) (l := l2) cl_nil hB hw hc q0 (by omega)
  have ht := repr_bi (St [] [] cs l2 p2) hB
  have ht' := repr_bi (St [] [] cs l3 p3) hB
  generalize (bd o ts).shown = t at ht ht'
  refine ⟨l3, p3, some (bi o ts), some (.str t), ?_, r0, by omega⟩
  have c1 : mAsg (mIf (mTest (mBin gtD (mCall (g__law_draw) (mCons (mVar 1) (mCons (mK (.int 3)) mNil))) (mK (.int 0)))) (mCall (g__law_tame_bill) (mCons (mVar 1) (mCons (mK (.int 3)) mNil))) (mCall (g__law_drawn_bill) (mCons (mVar 1) (mCons (mK (.int 3)) mNil)))) (gN 3) (E x3 x4) (St [] [] cs l p) = .nx (E (some (bi o ts)) x4) (St [] [] cs l2 p2) := (asg_v hb).trans rfl
  have c2 : mAsg (mBlt reprA (mCons (mVar 3) mNil)) (gN 4) (E (some (bi o ts)) x4) (St [] [] cs l2 p2) = .nx (E (some (bi o ts)) (some (.str t))) (St [] [] cs l2 p2) := (asg_v (w := .str t) (blt_v (cons_v (w := bi o ts) rfl nil_ev) ht)).trans rfl
  have c3 : mIfS (mOr (mNot (mTest (mCall (g__law_right) (mCons (mVar 1) (mCons (mVar 3) mNil))))) (mTest (mBin neD (mBlt reprA (mCons (mVar 3) mNil)) (mVar 4)))) (mRet (mK (.bl false))) mNext (E (some (bi o ts)) (some (.str t))) (St [] [] cs l2 p2) = .nx (E (some (bi o ts)) (some (.str t))) (St [] [] cs l3 p3) :=
    (ifS_f (or_f (not_vt (test_v (call_v (cons_v (w := .ref 0) rfl (cons_v (w := bi o ts) rfl nil_ev)) hr))) (test_v (bin_v (x := .str t) (y := .str t) (blt_v (cons_v (w := bi o ts) rfl nil_ev) ht') rfl (ne_of_eq eq_refl_ss))))).trans rfl
  unfold b_law_1
  exact seq_nx c1 (seq_nx c2 c3)
theorem n1v {i : Int} {ρ : Env} : mUn negD (mK (.int i)) ρ s = .ok (.int (-i)) s := un_v k_ev neg_ev
theorem b0_ev {fo : FE} {o : Int} {ρ : Env} (h : fo ρ s = .ok (.int o) s) : mTup (mCons fo (mCons (mTup mNil) mNil)) ρ s = .ok (bi o []) s :=
  tup_v (cons_v h (cons_v (tup_v nil_ev (by show 0 ≤ 1000000; decide)) nil_ev)) (by show 2 ≤ 1000000; decide)
theorem b1_ev {fo fr fa fb : FE} {o a b : Int} {rs : List Int} {ρ : Env} (h : fo ρ s = .ok (.int o) s) (hr : fr ρ s = .ok (tI rs) s) (ha : fa ρ s = .ok (.int a) s) (hb : fb ρ s = .ok (.int b) s) : mTup (mCons fo (mCons (mTup (mCons (mTup (mCons fr (mCons fa (mCons fb mNil)))) mNil)) mNil)) ρ s = .ok (bi o [⟨rs, a, b⟩]) s :=
  tup_v (cons_v h (cons_v (tup_v (cons_v (tup_v (cons_v hr (cons_v ha (cons_v hb nil_ev))) (by show 3 ≤ 1000000; decide)) nil_ev) (by show 1 ≤ 1000000; decide)) nil_ev)) (by show 2 ≤ 1000000; decide)
theorem B0_ok {o : Int} (h : -50 ≤ o) (h2 : o ≤ 50) : Bill o [] := ⟨h, h2, by decide, fun t ht => nomatch ht⟩
theorem B1_ok {o a b : Int} {rs : List Int} (h : -50 ≤ o) (h2 : o ≤ 50) (hr : Rule rs) (ha : -50 ≤ a ∧ a ≤ 50) (hb : -50 ≤ b ∧ b ≤ 50) : Bill o [⟨rs, a, b⟩] := ⟨h, h2, by show 1 ≤ 2; decide, fun t ht => by
  rw [List.mem_singleton.mp ht]
  exact ⟨hr, ha.1, ha.2, hb.1, hb.2⟩⟩
variable {fb : FE} {o : Int} {ts : List Term} {ρ : Env}
theorem gr_v {K : Nat} {v : Int} {r : List Nat} (hs : Cl s) (hB : Bill o ts) (hb : fb ρ s = .ok (bi o ts) s) (h : chk o ts K v r = true) : mCall (g_greatest) (mCons fb mNil) ρ s = .ok (.int v) s := by
  obtain ⟨h1, h2, h3, h4⟩ := chk_ok h
  rw [call_ev, cons_v hb nil_ev, bind_ok, greatest_ok hs hB]
  unfold gt_
  rw [if_pos h1, h2, ← h3]
  rfl
theorem gr_n {n : Nat} {ss : List Nat} (hs : Cl s) (hB : Bill o ts) (hb : fb ρ s = .ok (bi o ts) s) (h : chR o ts n ss = true) : mCall (g_greatest) (mCons fb mNil) ρ s = .ok .non s := by
  rw [call_ev, cons_v hb nil_ev, bind_ok, greatest_ok hs hB]
  unfold gt_
  rw [if_neg (chR_ok h)]
theorem br_v {K : Nat} {v : Int} {r : List Nat} (hs : Cl s) (hB : Bill o ts) (hb : fb ρ s = .ok (bi o ts) s) (h : chk o ts K v r = true) : mCall (g_best_row) (mCons fb mNil) ρ s = .ok (tN r) s := by
  obtain ⟨h1, h2, h3, h4⟩ := chk_ok h
  rw [call_ev, cons_v hb nil_ev, bind_ok, best_row_ok hs hB]
  unfold brD
  rw [if_pos h1, h2, h4]
open Classical in
theorem bo_t {K : Nat} {v : Int} {r : List Nat} (hs : Cl s) (hB : Bill o ts) (hb : fb ρ s = .ok (bi o ts) s) (h : chk o ts K v r = true) : mCall (g_is_bounded) (mCons fb mNil) ρ s = .ok (.bl true) s := by
  obtain ⟨h1, _⟩ := chk_ok h
  rw [call_ev, cons_v hb nil_ev, bind_ok, bounded_ok hs hB, decide_eq_true h1]
open Classical in
theorem bo_f {n : Nat} {ss : List Nat} (hs : Cl s) (hB : Bill o ts) (hb : fb ρ s = .ok (bi o ts) s) (h : chR o ts n ss = true) : mCall (g_is_bounded) (mCons fb mNil) ρ s = .ok (.bl false) s := by
  rw [call_ev, cons_v hb nil_ev, bind_ok, bounded_ok hs hB, decide_eq_false (chR_ok h)]
theorem v1 : chR 2 [⟨[1, 1, 0], -1, 0⟩] 1 [0, 0, 1] = true := by decide +kernel
theorem v2 : chk (-2) [⟨[1, 1, 0], 1, 0⟩] 2 3 [1, 1, 1, 0, 0] = true := by decide +kernel
theorem v3 : chk 0 [⟨[1, 0], -1, 1⟩] 2 1 [0, 1, 1] = true := by decide +kernel
theorem v4 : chk 0 [⟨[0, 0, 1, 0], -1, 1⟩] 2 1 [0, 0, 0, 1, 1] = true := by decide +kernel
theorem v5 : chk (-1) [] 0 0 [0] = true := by decide +kernel
theorem v6 : chR 1 [] 1 [1] = true := by decide +kernel
theorem R110 : Rule [1, 1, 0] := ⟨by decide, by decide, by decide⟩
theorem R10 : Rule [1, 0] := ⟨by decide, by decide, by decide⟩
theorem R0010 : Rule [0, 0, 1, 0] := ⟨by decide, by decide, by decide⟩
def Sh5 (cs : List Int) (l p : Int) (L : List Dv) : Sto := St [] ([] ++ [.lst L]) cs l p
theorem sh5_clP {L : List Dv} (h : ∀ n, cleans n L = true) : ClP [] ([] ++ [.lst L]) := fun n => ⟨rfl, by
  rw [List.all_append]
  show (true && (cleans n L && true)) = true
  rw [h n]
  rfl⟩
theorem sh5_cl {L : List Dv} (h : ∀ n, cleans n L = true) : Cl (Sh5 cs l p L) := fun n => by
  unfold Sh5
  exact St_clean (sh5_clP h)
theorem app5 {L : List Dv} {g : FE} {ρ : Env} {v : Dv} (hl : L.length ≤ 100) (h5 : mVar 5 ρ (Sh5 cs l p L) = .ok (.ref 1) (Sh5 cs l p L)) (hg : g ρ (Sh5 cs l p L) = .ok v (Sh5 cs l p L)) : mExpr (mApp (mVar 5) g) ρ (Sh5 cs l p L) = .nx ρ (Sh5 cs l p (L ++ [v])) := by
  rw [expr_v (app_v (n := r1 [] []) (us := L) (ws := L) (y := v) h5 at_end hg at_end (by unfold lim; omega))]
  show C.nx _ ((St [] ([] ++ [.lst L]) cs l p).set (r1 [] []) _) = _
  rw [set_end]
  rfl
theorem t3_ev {a b c : Int} {ρ : Env} : mTup (mCons (mK (.int a)) (mCons (mK (.int b)) (mCons (mK (.int c)) mNil))) ρ s = .ok (.tup [.int a, .int b, .int c]) s := tup_v (cons_v k_ev (cons_v k_ev (cons_v k_ev nil_ev))) (by show 3 ≤ 1000000; decide)
theorem t2_ev {a b : Int} {ρ : Env} : mTup (mCons (mK (.int a)) (mCons (mK (.int b)) mNil)) ρ s = .ok (.tup [.int a, .int b]) s := tup_v (cons_v k_ev (cons_v k_ev nil_ev)) (by show 2 ≤ 1000000; decide)
theorem fact (ns : List Int) (hn : ns.length ≤ 63) : ∃ s', g_law [.sq (ns.map .int)] [] = .ok (.bl true) s' := by
  obtain ⟨l, hb⟩ := begun_ok (pre := []) hn
  have hc : ns ++ [(ns.length : Int)] ≠ [] := by intro z; exact absurd (congrArg List.length z) (by simp)
  obtain ⟨cs, ecs⟩ : ∃ cs, cs = ns ++ [(ns.length : Int)] := ⟨_, rfl⟩
  rw [← ecs] at hb hc
  let Sc : Option Dv := some (.sq (ns.map .int))
  have e0 : startD 7 [.sq (ns.map .int)] = [Sc, none, none, none, none, none, none] := rfl
  have e1 : mAsg (mCall (g__law_begun) (mCons (mVar 0) mNil)) (gN 1) [Sc, none, none, none, none, none, none] [] = .nx [Sc, some (.ref 0), none, none, none, none, none] (St [] [] cs l 0) :=
    (asg_v (call_v (cons_v (w := .sq (ns.map .int)) rfl nil_ev) hb)).trans rfl
  obtain ⟨j, hj, j0, j1⟩ : ∃ j : Int, min2D (St [] [] cs l 0) [.int (ns.length : Int), .int 6] = some (.int j) ∧ 0 ≤ j ∧ j ≤ 6 := by
    refine ⟨if (6 : Int) < ns.length then 6 else ns.length, rfl, ?_, ?_⟩ <;> split <;> omega
  have hF : F_law_1 [Sc, some (.ref 0), none, none, none, none, none] (St [] [] cs l 0) = .ok { ws := rng 0 (4 + j).toNat } (St [] [] cs l 0) :=
    range1_ok (cons_v (bin_v k_ev (blt_v (cons_v (blt_v (cons_v (w := .sq (ns.map .int)) rfl nil_ev) (len_sq.trans (by rw [List.length_map]))) (cons_v k_ev nil_ev)) hj) add_ii) nil_ev) (okR_s (by omega) (by omega))
  obtain ⟨ρ', s', f1, l', p', y2, y3, y4, rfl, g0, g1, rfl⟩ := for_ix (g := t_law_1) (body := b_law_1)
    (fun i ρ s' => ∃ l p y2 y3 y4, s' = St [] [] cs l p ∧ 0 ≤ p ∧ p ≤ 200 * (i : Int) ∧ ρ = [Sc, some (.ref 0), y2, y3, y4, none, none]) hF ⟨l, 0, _, _, _, rfl, by omega, by omega, rfl⟩ fun i x ρ s' hx hJ => by
      obtain ⟨l', p', y2, y3, y4, rfl, g0, g1, rfl⟩ := hJ
      obtain ⟨hi, rfl⟩ := rng_get hx
      obtain ⟨l2, p2, z3, z4, hb, q0, q1⟩ := lap_ok (l := l') (sc := Sc) (x3 := y3) (x4 := y4) (k := some (.int (0 + (i : Int)))) hc g0 (by omega)
      exact ⟨_, _, _, rfl, .inl hb, l2, p2, _, _, _, rfl, q0, by omega, rfl⟩
  let E0 : Env := [Sc, some (.ref 0), y2, y3, y4, none, none]
  let E5 : Env := [Sc, some (.ref 0), y2, y3, y4, some (.ref 1), none]
  let Wd : Dv := bi 0 [⟨[0, 0, 1, 0], -1, 1⟩]
  let E6 : Env := [Sc, some (.ref 0), y2, y3, y4, some (.ref 1), some Wd]
  have hS : Cl (St [] [] cs l' p') := fun n => St_clean cl_nil
  have hB1 : Bill 2 [⟨[1, 1, 0], -1, 0⟩] := B1_ok (by decide) (by decide) R110 (by decide) (by decide)
  have hB2 : Bill (-2) [⟨[1, 1, 0], 1, 0⟩] := B1_ok (by decide) (by decide) R110 (by decide) (by decide)
  have hB3 : Bill 0 [⟨[1, 0], -1, 1⟩] := B1_ok (by decide) (by decide) R10 (by decide) (by decide)
  have hB4 : Bill 0 [⟨[0, 0, 1, 0], -1, 1⟩] := B1_ok (by decide) (by decide) R0010 (by decide) (by decide)
  have s1 : mAsg (mLstM (mCons (mCall (g_greatest) (mCons (mTup (mCons (mK (.int 2)) (mCons (mTup (mCons (mTup (mCons (mTup (mCons (mK (.int 1)) (mCons (mK (.int 1)) (mCons (mK (.int 0)) mNil)))) (mCons (mUn negD (mK (.int 1))) (mCons (mK (.int 0)) mNil)))) mNil)) mNil))) mNil)) (mCons (mCall (g_greatest) (mCons (mTup (mCons (mUn negD (mK (.int 2))) (mCons (mTup (mCons (mTup (mCons (mTup (mCons (mK (.int 1)) (mCons (mK (.int 1)) (mCons (mK (.int 0)) mNil)))) (mCons (mK (.int 1)) (mCons (mK (.int 0)) mNil)))) mNil)) mNil))) mNil)) mNil))) (gN 5) E0 (St [] [] cs l' p') = .nx E5 (Sh5 cs l' p' [.non, .int 3]) := by
    have h := lstM_s (pre := []) (os := []) (cs := cs) (l := l') (p := p') (l' := l') (p' := p') (ρ := E0) (cons_v (gr_n hS hB1 (b1_ev k_ev t3_ev n1v k_ev) v1) (cons_v (gr_v hS hB2 (b1_ev n1v t3_ev k_ev k_ev) v2) nil_ev)) (by show 2 ≤ 1000000; decide)
    rw [asgN_ev, h, then_ok]
    rfl
  have k1 : ∀ n, cleans n [.non, .int 3] = true := fun n => rfl
  have hS1 := sh5_cl (cs := cs) (l := l') (p := p') k1
  have s2 := app5 (cs := cs) (l := l') (p := p') (ρ := E5) (by show 2 ≤ 100; decide) rfl (br_v hS1 hB3 (b1_ev (fo := mK (.int 0)) (fr := mTup (mCons (mK (.int 1)) (mCons (mK (.int 0)) mNil))) (fa := mUn negD (mK (.int 1))) (fb := mK (.int 1)) (rs := [1, 0]) k_ev t2_ev n1v k_ev) v3)
  have k2 : ∀ n, cleans n ([.non, .int 3] ++ [tN [0, 1, 1]]) = true := fun n => rfl
  have hS2 := sh5_cl (cs := cs) (l := l') (p := p') k2
  let S2 := Sh5 cs l' p' ([.non, .int 3] ++ [tN [0, 1, 1]])
  have s3 : mAsg (mTup (mCons (mK (.int 0)) (mCons (mTup (mCons (mTup (mCons (mTup (mCons (mK (.int 0)) (mCons (mK (.int 0)) (mCons (mK (.int 1)) (mCons (mK (.int 0)) mNil))))) (mCons (mUn negD (mK (.int 1))) (mCons (mK (.int 1)) mNil)))) mNil)) mNil))) (gN 6) E5 S2 = .nx E6 S2 :=
    (asg_v (w := Wd) (b1_ev (rs := [0, 0, 1, 0]) k_ev (tup_v (cons_v k_ev (cons_v k_ev (cons_v k_ev (cons_v k_ev nil_ev)))) (by show 4 ≤ 1000000; decide)) n1v k_ev)).trans rfl
  have h6 : mVar 6 E6 S2 = .ok Wd S2 := rfl
  have hfr : mCall (g__law_first_row) (mCons (mVar 6) (mCons (mK (.int 1)) mNil)) E6 S2 = .ok (tN [0, 0, 0, 1, 1]) S2 := by
    obtain ⟨c1, c2, c3, c4⟩ := chk_ok v4
    have := first_row_ok (K := 2) (cs := cs) (l := l') (p := p') (sh5_clP k2) hB4 (by decide) (Nat.le_trans fw_le (by decide))
    rw [c3, c4] at this
    rw [call_ev, cons_v h6 (cons_v k_ev nil_ev), bind_ok]
    exact this
  have s4 : mIfS (mTest (mBin neD (mLst (mCons (mCall (g_greatest) (mCons (mVar 6) mNil)) (mCons (mCall (g_best_row) (mCons (mVar 6) mNil)) (mCons (mCall (g__law_first_row) (mCons (mVar 6) (mCons (mK (.int 1)) mNil))) mNil)))) (mLst (mCons (mK (.int 1)) (mCons (mTup (mCons (mK (.int 0)) (mCons (mK (.int 0)) (mCons (mK (.int 0)) (mCons (mK (.int 1)) (mCons (mK (.int 1)) mNil)))))) (mCons (mTup (mCons (mK (.int 0)) (mCons (mK (.int 0)) (mCons (mK (.int 0)) (mCons (mK (.int 1)) (mCons (mK (.int 1)) mNil)))))) mNil)))))) (mRet (mK (.bl false))) mNext E6 S2 = .nx E6 S2 := by
    have t5 : mTup (mCons (mK (.int 0)) (mCons (mK (.int 0)) (mCons (mK (.int 0)) (mCons (mK (.int 1)) (mCons (mK (.int 1)) mNil))))) E6 S2 = .ok (tN [0, 0, 0, 1, 1]) S2 := tup_v (cons_v k_ev (cons_v k_ev (cons_v k_ev (cons_v k_ev (cons_v k_ev nil_ev))))) (by show 5 ≤ 1000000; decide)
    exact (ifS_f (test_v (bin_v (x := .lst [.int 1, tN [0, 0, 0, 1, 1], tN [0, 0, 0, 1, 1]]) (y := .lst [.int 1, tN [0, 0, 0, 1, 1], tN [0, 0, 0, 1, 1]]) (lst_v (cons_v (gr_v hS2 hB4 h6 v4) (cons_v (br_v hS2 hB4 h6 v4) (cons_v hfr nil_ev))) (by show 3 ≤ 1000000; decide)) (lst_v (cons_v k_ev (cons_v t5 (cons_v t5 nil_ev))) (by show 3 ≤ 1000000; decide)) rfl))).trans rfl
  let Hd : Dv := .lst [.non, .int 3, tN [0, 1, 1], .int 1, .int 0, tN [0], .bl false]
  let E7 : Env := [Sc, some (.ref 0), y2, y3, y4, some Hd, some Wd]
  have hb3 : ∀ ρ : Env, mTup (mCons (mK (.int 0)) (mCons (mTup (mCons (mTup (mCons (mTup (mCons (mK (.int 1)) (mCons (mK (.int 0)) mNil))) (mCons (mUn negD (mK (.int 1))) (mCons (mK (.int 1)) mNil)))) mNil)) mNil)) ρ S2 = .ok (bi 0 [⟨[1, 0], -1, 1⟩]) S2 := fun ρ => b1_ev (rs := [1, 0]) k_ev t2_ev n1v k_ev
  have s5 : mAsg (mBin addD (mVar 5) (mLst (mCons (mCall (g_greatest) (mCons (mTup (mCons (mK (.int 0)) (mCons (mTup (mCons (mTup (mCons (mTup (mCons (mK (.int 1)) (mCons (mK (.int 0)) mNil))) (mCons (mUn negD (mK (.int 1))) (mCons (mK (.int 1)) mNil)))) mNil)) mNil))) mNil)) (mCons (mCall (g_greatest) (mCons (mTup (mCons (mUn negD (mK (.int 1))) (mCons (mTup mNil) mNil))) mNil)) (mCons (mCall (g_best_row) (mCons (mTup (mCons (mUn negD (mK (.int 1))) (mCons (mTup mNil) mNil))) mNil)) (mCons (mCall (g_is_bounded) (mCons (mTup (mCons (mK (.int 1)) (mCons (mTup mNil) mNil))) mNil)) mNil)))))) (gN 5) E6 S2 = .nx E7 S2 :=
    (asg_v (w := Hd) (bin_v (x := .ref 1) (y := .lst [.int 1, .int 0, tN [0], .bl false]) rfl (lst_v (cons_v (gr_v hS2 hB3 (hb3 _) v3) (cons_v (gr_v hS2 (B0_ok (by decide) (by decide)) (b0_ev n1v) v5) (cons_v (br_v hS2 (B0_ok (by decide) (by decide)) (b0_ev n1v) v5) (cons_v (bo_f hS2 (B0_ok (by decide) (by decide)) (b0_ev k_ev) v6) nil_ev)))) (by show 4 ≤ 1000000; decide)) rfl)).trans rfl
  have t3 : ∀ ρ : Env, mTup (mCons (mK (.int 0)) (mCons (mK (.int 1)) (mCons (mK (.int 1)) mNil))) ρ S2 = .ok (tN [0, 1, 1]) S2 := fun ρ => t3_ev
  have t1 : ∀ ρ : Env, mTup (mCons (mK (.int 0)) mNil) ρ S2 = .ok (tN [0]) S2 := fun ρ => tup_v (cons_v k_ev nil_ev) (by show 1 ≤ 1000000; decide)
  have s6 : mRet (mAndV (mBin eqD (mVar 5) (mLst (mCons (mK .non) (mCons (mK (.int 3)) (mCons (mTup (mCons (mK (.int 0)) (mCons (mK (.int 1)) (mCons (mK (.int 1)) mNil)))) (mCons (mK (.int 1)) (mCons (mK (.int 0)) (mCons (mTup (mCons (mK (.int 0)) mNil)) (mCons (mK (.bl false)) mNil))))))))) (mCall (g_is_bounded) (mCons (mTup (mCons (mK (.int 0)) (mCons (mTup (mCons (mTup (mCons (mTup (mCons (mK (.int 1)) (mCons (mK (.int 0)) mNil))) (mCons (mUn negD (mK (.int 1))) (mCons (mK (.int 1)) mNil)))) mNil)) mNil))) mNil))) E7 S2 = .rt (.bl true) S2 := by
    have h1 : mBin eqD (mVar 5) (mLst (mCons (mK .non) (mCons (mK (.int 3)) (mCons (mTup (mCons (mK (.int 0)) (mCons (mK (.int 1)) (mCons (mK (.int 1)) mNil)))) (mCons (mK (.int 1)) (mCons (mK (.int 0)) (mCons (mTup (mCons (mK (.int 0)) mNil)) (mCons (mK (.bl false)) mNil)))))))) E7 S2 = .ok (.bl true) S2 :=
      bin_v (x := Hd) (y := Hd) rfl (lst_v (cons_v k_ev (cons_v k_ev (cons_v (t3 _) (cons_v k_ev (cons_v k_ev (cons_v (t1 _) (cons_v k_ev nil_ev))))))) (by show 7 ≤ 1000000; decide)) rfl
    refine ret_v ?_
    unfold mAndV
    rw [h1, bind_ok]
    exact bo_t hS2 hB3 (hb3 _) v3
  refine ⟨[], ?_⟩
  unfold g_law d_law
  rw [den_ev, e0, seq_nx e1 (seq_nx f1 (seq_nx s1 (seq_nx s2 (seq_nx s3 (seq_nx s4 (seq_nx s5 s6))))))]
  rfl
end
end MP.K08
set_option Elab.async false
set_option linter.all false
set_option maxRecDepth 100000
open PySem PySem.W PyProof.Rows
set_option maxHeartbeats 0 in
theorem PySem.Challenge.cw_bestoflast_k08_whole_bounds_holds : PySem.Challenge.rw_bestoflast_k08_whole_bounds.Holds := by
  w_on; o_law; k_head; (case hw => w_witness2)
  k_fill
  refine MP.walk_GTs (l := PySem.Challenge.rw_bestoflast_k08_whole_bounds) (n := 63) (k := 9) (x := "script") (ys := []) (qs := []) rfl (by decide) rfl ⟨rfl, by decide, by decide⟩ (fun w h Y => PySem.W.kIn_of Y) ?Y ?F
  case Y =>
    intro y hy
    exact absurd hy (by simp)
  case F =>
    intro w mg fa h KX G hmg
    refine' MP.K08.all_mk KX G hmg ?a0 ?l0 ?c0 ?k0 ?a1 ?l1 ?c1 ?k1 ?a2 ?l2 ?c2 ?k2 ?a3 ?l3 ?c3 ?k3 ?a4 ?l4 ?c4 ?k4 ?a5 ?l5 ?c5 ?k5 ?a6 ?l6 ?c6 ?k6 ?a7 ?l7 ?c7 ?k7 ?a8 ?l8 ?c8 ?k8 ?a9 ?l9 ?c9 ?k9 ?a10 ?l10 ?c10 ?k10 ?a11 ?l11 ?c11 ?k11 ?a12 ?l12 ?c12 ?k12 ?a13 ?l13 ?c13 ?k13 ?a14 ?l14 ?c14 ?k14 ?a15 ?l15 ?c15 ?k15 ?a16 ?l16 ?c16 ?k16 ?a17 ?l17 ?c17 ?k17 ?a18 ?l18 ?c18 ?k18 ?a19 ?l19 ?c19 ?k19 ?a20 ?l20 ?c20 ?k20 ?a21 ?l21 ?c21 ?k21 ?a22 ?l22 ?c22 ?k22 ?a23 ?l23 ?c23 ?k23 ?a24 ?l24 ?c24 ?k24 ?a25 ?l25 ?c25 ?k25 ?a26 ?l26 ?c26 ?k26 ?a27 ?l27 ?c27 ?k27 ?a28 ?l28 ?c28 ?k28 ?a29 ?l29 ?c29 ?k29 ?a30 ?l30 ?c30 ?k30 ?a31 ?l31 ?c31 ?k31 ?a32 ?l32 ?c32 ?k32 ?a33 ?l33 ?c33 ?k33 ?a34 ?l34 ?c34 ?k34 ?a35 ?l35 ?c35 ?k35 ?a36 ?l36 ?c36 ?k36 ?a37 ?l37 ?c37 ?k37 ?a38 ?l38 ?c38 ?k38 ?a39 ?l39 ?c39 ?k39 ?a40 ?l40 ?c40 ?k40 ?a41 ?l41 ?c41 ?k41 ?a42 ?l42 ?c42 ?k42 ?a43 ?l43 ?c43 ?k43 ?a44 ?l44 ?c44 ?k44 ?a45 ?l45 ?c45 ?k45 ?a46 ?l46 ?c46 ?k46 ?a47 ?l47 ?c47 ?k47 ?a48 ?l48 ?c48 ?k48 ?a49 ?l49 ?c49 ?k49 ?z0 ?z1 ?z2 ?z3 ?z4 ?z5 ?z6 ?z7 ?z8 ?z9 ?z10 ?z11 ?z12 ?z13 ?z14 ?v0 ?w0 ?v1 ?v2 ?v3 ?v4 ?v5 ?v6 ?v7  MP.K08.fact
    (case a0 => k_is)
    (case l0 => k_is)
    (case c0 => k_is)
    (case k0 => k_is)
    (case a1 => k_is)
    (case l1 => k_is)
    (case c1 => k_is)
    (case k1 => k_is)
    (case a2 => k_is)
    (case l2 => k_is)
    (case c2 => k_is)
    (case k2 => k_is)
    (case a3 => k_is)
    (case l3 => k_is)
    (case c3 => k_is)
    (case k3 => k_is)
    (case a4 => k_is)
    (case l4 => k_is)
    (case c4 => k_is)
    (case k4 => k_is)
    (case a5 => k_is)
    (case l5 => k_is)
    (case c5 => k_is)
    (case k5 => k_is)
    (case a6 => k_is)
    (case l6 => k_is)
    (case c6 => k_is)
    (case k6 => k_is)
    (case a7 => k_is)
    (case l7 => k_is)
    (case c7 => k_is)
    (case k7 => k_is)
    (case a8 => k_is)
    (case l8 => k_is)
    (case c8 => k_is)
    (case k8 => k_is)
    (case a9 => k_is)
    (case l9 => k_is)
    (case c9 => k_is)
    (case k9 => k_is)
    (case a10 => k_is)
    (case l10 => k_is)
    (case c10 => k_is)
    (case k10 => k_is)
    (case a11 => k_is)
    (case l11 => k_is)
    (case c11 => k_is)
    (case k11 => k_is)
    (case a12 => k_is)
    (case l12 => k_is)
    (case c12 => k_is)
    (case k12 => k_is)
    (case a13 => k_is)
    (case l13 => k_is)
    (case c13 => k_is)
    (case k13 => k_is)
    (case a14 => k_is)
    (case l14 => k_is)
    (case c14 => k_is)
    (case k14 => k_is)
    (case a15 => k_is)
    (case l15 => k_is)
    (case c15 => k_is)
    (case k15 => k_is)
    (case a16 => k_is)
    (case l16 => k_is)
    (case c16 => k_is)
    (case k16 => k_is)
    (case a17 => k_is)
    (case l17 => k_is)
    (case c17 => k_is)
    (case k17 => k_is)
    (case a18 => k_is)
    (case l18 => k_is)
    (case c18 => k_is)
    (case k18 => k_is)
    (case a19 => k_is)
    (case l19 => k_is)
    (case c19 => k_is)
    (case k19 => k_is)
    (case a20 => k_is)
    (case l20 => k_is)
    (case c20 => k_is)
    (case k20 => k_is)
    (case a21 => k_is)
    (case l21 => k_is)
    (case c21 => k_is)
    (case k21 => k_is)
    (case a22 => k_is)
    (case l22 => k_is)
    (case c22 => k_is)
    (case k22 => k_is)
    (case a23 => k_is)
    (case l23 => k_is)
    (case c23 => k_is)
    (case k23 => k_is)
    (case a24 => k_is)
    (case l24 => k_is)
    (case c24 => k_is)
    (case k24 => k_is)
    (case a25 => k_is)
    (case l25 => k_is)
    (case c25 => k_is)
    (case k25 => k_is)
    (case a26 => k_is)
    (case l26 => k_is)
    (case c26 => k_is)
    (case k26 => k_is)
    (case a27 => k_is)
    (case l27 => k_is)
    (case c27 => k_is)
    (case k27 => k_is)
    (case a28 => k_is)
    (case l28 => k_is)
    (case c28 => k_is)
    (case k28 => k_is)
    (case a29 => k_is)
    (case l29 => k_is)
    (case c29 => k_is)
    (case k29 => k_is)
    (case a30 => k_is)
    (case l30 => k_is)
    (case c30 => k_is)
    (case k30 => k_is)
    (case a31 => k_is)
    (case l31 => k_is)
    (case c31 => k_is)
    (case k31 => k_is)
    (case a32 => k_is)
    (case l32 => k_is)
    (case c32 => k_is)
    (case k32 => k_is)
    (case a33 => k_is)
    (case l33 => k_is)
    (case c33 => k_is)
    (case k33 => k_is)
    (case a34 => k_is)
    (case l34 => k_is)
    (case c34 => k_is)
    (case k34 => k_is)
    (case a35 => k_is)
    (case l35 => k_is)
    (case c35 => k_is)
    (case k35 => k_is)
    (case a36 => k_is)
    (case l36 => k_is)
    (case c36 => k_is)
    (case k36 => k_is)
    (case a37 => k_is)
    (case l37 => k_is)
    (case c37 => k_is)
    (case k37 => k_is)
    (case a38 => k_is)
    (case l38 => k_is)
    (case c38 => k_is)
    (case k38 => k_is)
    (case a39 => k_is)
    (case l39 => k_is)
    (case c39 => k_is)
    (case k39 => k_is)
    (case a40 => k_is)
    (case l40 => k_is)
    (case c40 => k_is)
    (case k40 => k_is)
    (case a41 => k_is)
    (case l41 => k_is)
    (case c41 => k_is)
    (case k41 => k_is)
    (case a42 => k_is)
    (case l42 => k_is)
    (case c42 => k_is)
    (case k42 => k_is)
    (case a43 => k_is)
    (case l43 => k_is)
    (case c43 => k_is)
    (case k43 => k_is)
    (case a44 => k_is)
    (case l44 => k_is)
    (case c44 => k_is)
    (case k44 => k_is)
    (case a45 => k_is)
    (case l45 => k_is)
    (case c45 => k_is)
    (case k45 => k_is)
    (case a46 => k_is)
    (case l46 => k_is)
    (case c46 => k_is)
    (case k46 => k_is)
    (case a47 => k_is)
    (case l47 => k_is)
    (case c47 => k_is)
    (case k47 => k_is)
    (case a48 => k_is)
    (case l48 => k_is)
    (case c48 => k_is)
    (case k48 => k_is)
    (case a49 => k_is)
    (case l49 => k_is)
    (case c49 => k_is)
    (case k49 => k_is)
    (case z0 => k_is)
    (case z1 => k_is)
    (case z2 => k_is)
    (case z3 => k_is)
    (case z4 => k_is)
    (case z5 => k_is)
    (case z6 => k_is)
    (case z7 => k_is)
    (case z8 => k_is)
    (case z9 => k_is)
    (case z10 => k_is)
    (case z11 => k_is)
    (case z12 => k_is)
    (case z13 => k_is)
    (case z14 => k_is)
    (case v0 => k_is)
    (case w0 => first | rfl | kernel_rfl)
    (case v1 => k_is)
    (case v2 => k_is)
    (case v3 => k_is)
    (case v4 => k_is)
    (case v5 => k_is)
    (case v6 => k_is)
    (case v7 => k_is)
