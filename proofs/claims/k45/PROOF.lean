import PyProof.Rows.All
import Wide.All
import OpenK.AllK
import Wide.FinOn
import HandS.ForMost
import HandS.ForExc
import HandS.WideBits
import HandS.Wide
import HandS.TupAny
import HandS.IsInst
import HandS.SortInts
import HandS.CallSlots
import HandS.MakeKw
import HandS.Flow
import HandS.ExcInit
import HandS.ExcValue
import HandS.Lambda
import KE.KDictKeyed
import HandS.TupMul
import KE.GoesNew
import KE.GoesMore
import KE.GoesEnum
import HandS.SetFor
import HandS.Strs
import HandS.Style
import KE.DataMinMax
import HandS.SortKw
import HandS.Zip
import KE.KDictZip
import HandS.ExcIs
import HandS.ExcField
import KE.KExcIs
import HandS.TryMany
import KE.KDflt
import HandS.EndTab
import HandS.TryOnly
import PyProof.EqAt
import PyProof.NeKinds
import HandS.StrMore
import HandS.FStr
import HandS.RaiseMore
import KE.GoesEnumKw
import HandS.Text
import PyProof.StrLaws
import PyProof.StrLawsRepr
import PyProof.StrBlock2
import KE.KExcInit
import HandS.Property
import HandS.Star
import HandS.MakeKwOnly
import OpenK.KOps
import OpenK.KMeth
import HandS.Conv
import HandS.RevRange
import HandS.Dict
import HandS.Flt
import HandS.Deep
import KE.KDictCopyH
import KE.KEqDict
import KE.KDictPairs
import HandS.TupSets
import HandS.Gcd
import KE.SortData
import HandS.Finally
import HandS.HotCalls
import KE.KWithOwn
import KE.KIsAll
import PyProof.InstEq
import HandS.ReplaceLit
import HandS.ReplaceDef
import KE.KTabLook
import HandS.Defaults
import HandS.RaiseOp
import HandS.ExcBuiltin
import HandS.BoundDict
import HandS.Comp
import PyProof.Rows.SetFrom
import HandS.HeadWalk
import HandS.HeadEnd
import PySem.Challenge.RW_bestoflast_k45_whole_indexes_to_come
set_option Elab.async false
set_option linter.all false
set_option maxRecDepth 100000
set_option maxHeartbeats 4000000
namespace MP
open PySem PySem.Spec PyProof.Rows L2
inductive Dv where
  | non | bl (b : Bool) | int (i : Int) | str (x : Str) | ty (n : String) | cl (c : Nat) | ref (n : Nat)
  | tup (ws : List Dv) | lst (ws : List Dv) | sq (ws : List Dv) | dct (ks : List Key) (ws : List Dv) | dtt (kd ws : List Dv) | exc (c : Nat) (f : Str) (w : Dv) | exn (c : Nat) | clo (a c : Addr) (q : Str) (ws : List Dv) (vs : List V)
  deriving Inhabited
inductive Ob where
  | lst (ws : List Dv) | dct (kws : List (Key × Dv)) | dtt (fr : Bool) (kws : List (Dv × Dv)) | obj (c : Nat) (fs : List (Str × Dv)) | tab (n : Nat) (q : Str)
  deriving Inhabited
abbrev Sto := List Ob
abbrev Env := List (Option Dv)
mutual
/-- an int, a tuple of ints and such tuples: as a key of a dict -/
def nk : Dv → Option PySem.NestedKey
  | .int i => some (.num i)
  | .tup ws => (nks ws).map .tup
  | _ => none
def nks : List Dv → Option (List PySem.NestedKey)
  | [] => some []
  | w :: ws => match nk w, nks ws with
    | some k, some ks => some (k :: ks)
    | _, _ => none
end
/-- what a dict's object tells: its keys, each with what stands for it, and its values -/
def DTf (a : Addr) (kvs : List (PySem.NestedKey × V × V)) : Heap → Prop := fun h => (a == sysModules) = false ∧ kvs.length ≤ sizeLine ∧ (∀ p ∈ kvs, p.1.depth ≤ 8) ∧
  ∃ xs : List (PySem.NestedKey × Addr × Value), Paired (fun (p : PySem.NestedKey × V × V) (q : PySem.NestedKey × Addr × Value) => p.1 = q.1 ∧ p.2.1 = .ref q.2.1 ∧ RelV p.2.2 q.2.2) kvs xs ∧
    ∃ (o : Obj) (es : Array DictEntry) (ep : Nat), h.get? a = some o ∧ o.ExactDict ∧ o.data = .dict es ep ∧ (∀ (P : Program) (w : World), es.toList = xs.map (entryOfKey (nestedKind P w))) ∧ (xs.map (·.1)).Nodup
abbrev DTO (a : Addr) (kvs : List (PySem.NestedKey × V × V)) : HO := .ext (DTf a kvs)
/-- such a dict stands at a, to be written or not any more -/
def HD (H : Hp) (a : Addr) (fr : Bool) (kvs : List (PySem.NestedKey × V × V)) : Prop := if fr = true then ∃ od, H a = some (.frz od (DTO a kvs)) else H a = some (DTO a kvs)
theorem HD.eq {H H' : Hp} {a : Addr} {fr : Bool} {kvs : List (PySem.NestedKey × V × V)} (h : HD H a fr kvs) (e : H' a = H a) : HD H' a fr kvs := by
  unfold HD at *
  rw [e]
  exact h
theorem HD.some {H : Hp} {a : Addr} {fr : Bool} {kvs : List (PySem.NestedKey × V × V)} (h : HD H a fr kvs) : H a ≠ none := by
  unfold HD at h
  split at h
  · obtain ⟨od, h⟩ := h
    rw [h]
    intro z; cases z
  · rw [h]
    intro z; cases z
/-- keys and values, told by data -/
def KVs (kd ws : List Dv) (kvs : List (PySem.NestedKey × V × V)) : Prop := kd.map nk = kvs.map (fun p => Option.some p.1) ∧ ws.length = kvs.length
structure Ex where
  c : Nat
  f : Str
  w : Dv
inductive R (α : Type) where
  | ok (a : α) (s : Sto) | er (x : Ex) (s : Sto) | no
def R.bind {α β : Type} (r : R α) (k : α → Sto → R β) : R β := match r with
  | .ok a s => k a s | .er x s => .er x s | .no => .no
inductive C where
  | nx (ρ : Env) (s : Sto) | rt (w : Dv) (s : Sto) | bk (ρ : Env) (s : Sto) | ct (ρ : Env) (s : Sto) | er (x : Ex) (ρ : Env) (s : Sto) | no
abbrev FE := Env → Sto → R Dv
abbrev FT := Env → Sto → R Bool
abbrev FA := Env → Sto → R (List Dv)
abbrev FS := Env → Sto → C
abbrev Fn := List Dv → Sto → R Dv
def lim : Nat := 16000000
abbrev Mu := Nat → Option Addr
/-- what is fixed: the written part, the classes of exceptions, the tables of code objects -/
structure Ct where
  K : PySem.W.Frag
  cls : Nat → Addr
  tb : Nat → Addr
abbrev Zs := Addr → Prop
def Fz (μ : Mu) (Z : Zs) (a : Addr) : Prop := (∀ n, μ n ≠ some a) ∧ ¬ Z a
def KL (K : PySem.W.Frag) (a : Addr) (xs : List V) : Prop := ∃ (o : Obj) (its : Array Value) (n : Nat), K.lookup a = some o ∧ o.cls = .type "list" ∧ o.dict = none ∧ o.data = .seq its n ∧ its.size ≤ sizeLine ∧ Vals xs its.toList
def KT (K : PySem.W.Frag) (a : Addr) (xs : List V) : Prop := ∃ (o : Obj) (its : Array Value) (n : Nat), K.lookup a = some o ∧ o.cls = .type "tuple" ∧ o.data = .seq its n ∧ its.size ≤ sizeLine ∧ Vals xs its.toList
def AtL (K : PySem.W.Frag) (H : Hp) (μ : Mu) (Z : Zs) (a : Addr) (xs : List V) : Prop := (Rd H a (.lst xs) ∧ Fz μ Z a) ∨ KL K a xs
def AtT (K : PySem.W.Frag) (H : Hp) (μ : Mu) (Z : Zs) (a : Addr) (xs : List V) : Prop := (Rd H a (.tup xs) ∧ Fz μ Z a) ∨ KT K a xs
theorem AtL.sq {K : PySem.W.Frag} {H : Hp} {μ : Mu} {Z : Zs} {a : Addr} {xs : List V} (h : AtL K H μ Z a xs) : SqL K H a xs := h.elim (fun z => .inl z.1) .inr
theorem AtT.sq {K : PySem.W.Frag} {H : Hp} {μ : Mu} {Z : Zs} {a : Addr} {xs : List V} (h : AtT K H μ Z a xs) : SqT K H a xs := h.elim (fun z => .inl z.1) .inr
structure Evo (H : Hp) (μ : Mu) (H' : Hp) (μ' : Mu) : Prop where
  keep : ∀ a o, H a = some o → (∀ n, μ n ≠ some a) → H' a = some o
  mu : ∀ n a, μ n = some a → μ' n = some a
  new : ∀ n a, μ' n = some a → μ n = some a ∨ H a = none
  stay : ∀ n a, μ n = some a → H a ≠ none → H' a ≠ none
section
variable {H H1 H' : Hp} {μ μ1 μ' : Mu} {Z : Zs} {a : Addr} {o : HO} {xs : List V} {K : PySem.W.Frag}
theorem Evo.refl : Evo H μ H μ := ⟨fun _ _ h _ => h, fun _ _ h => h, fun _ _ h => .inl h, fun _ _ _ h => h⟩
theorem Evo.alive (e : Evo H μ H' μ') (h : H a ≠ none) : H' a ≠ none := by
  by_cases hm : ∃ n, μ n = some a
  · obtain ⟨n, hn⟩ := hm
    exact e.stay n a hn h
  · cases q : H a with
    | none => exact absurd q h
    | some o => rw [e.keep a o q (fun n hn => hm ⟨n, hn⟩)]; intro z; cases z
theorem Evo.fz (e : Evo H μ H' μ') (h : H a ≠ none) (f : Fz μ Z a) : Fz μ' Z a := ⟨fun n hn => by
  rcases e.new n a hn with q | q
  · exact f.1 n q
  · exact h q, f.2⟩
theorem Evo.trans (e : Evo H μ H1 μ1) (f : Evo H1 μ1 H' μ') : Evo H μ H' μ' where
  keep := fun a o h hn => by
    have h1 := e.keep a o h hn
    exact f.keep a o h1 fun n q => by
      rcases e.new n a q with z | z
      · exact hn n z
      · rw [h] at z; cases z
  mu := fun n a h => f.mu n a (e.mu n a h)
  new := fun n a h => by
    rcases f.new n a h with q | q
    · exact e.new n a q
    · right
      cases z : H a with
      | none => rfl
      | some o => exact absurd q (e.alive (by rw [z]; intro y; cases y))
  stay := fun n a h q => f.alive (e.alive q)
theorem Rd.alive (h : Rd H a o) : H a ≠ none := by
  rcases h with h | ⟨_, h⟩ <;> (rw [h]; intro z; cases z)
theorem Rd.evo (e : Evo H μ H' μ') (h : Rd H a o) (f : Fz μ Z a) : Rd H' a o := by
  rcases h with h | ⟨u, h⟩
  · exact .inl (e.keep _ _ h f.1)
  · exact .inr ⟨u, e.keep _ _ h f.1⟩
theorem AtL.mono (e : Evo H μ H' μ') (h : AtL K H μ Z a xs) : AtL K H' μ' Z a xs := h.elim (fun ⟨r, f⟩ => .inl ⟨Rd.evo e r f, e.fz (Rd.alive r) f⟩) .inr
theorem AtT.mono (e : Evo H μ H' μ') (h : AtT K H μ Z a xs) : AtT K H' μ' Z a xs := h.elim (fun ⟨r, f⟩ => .inl ⟨Rd.evo e r f, e.fz (Rd.alive r) f⟩) .inr
/-- a new object -/
theorem Evo.laid {p : Addr} (hp : H p = none) : Evo H μ (upd H p o) μ where
  keep := fun a o h _ => by rw [upd_ne (ne_of_none h hp)]; exact h
  mu := fun _ _ h => h
  new := fun _ _ h => .inl h
  stay := fun n a _ h => by
    by_cases e : a = p
    · subst e; exact absurd hp h
    · rw [upd_ne e]; exact h
end
/-- an exception of the class at C, held as a value; its dict is at dx -/
def ExK (a C dx : Addr) : HO := .ext fun h => ∃ (oe : Obj) (vs : Array Value), h.get? a = some oe ∧ Zc (.ref C) (some dx) oe ∧ oe.data = .fields vs
mutual
def RV (Γ : Ct) (H : Hp) (μ : Mu) (Z : Zs) : Dv → V → Prop
  | .non, v => v = .non
  | .bl b, v => v = .bl b
  | .int i, v => v = .int i
  | .str x, v => v = .str x
  | .ty n, v => v = .ty n
  | .cl c, v => v = .ref (Γ.cls c)
  | .ref n, v => ∃ a, v = .ref a ∧ μ n = some a
  | .tup ws, v => ∃ a xs, v = .ref a ∧ AtT Γ.K H μ Z a xs ∧ RVs Γ H μ Z ws xs
  | .lst ws, v => ∃ a xs, v = .ref a ∧ H a = some (.lst xs) ∧ Fz μ Z a ∧ RVs Γ H μ Z ws xs
  | .sq ws, v => ∃ a xs, v = .ref a ∧ AtL Γ.K H μ Z a xs ∧ RVs Γ H μ Z ws xs
  | .dct ks ws, v => ∃ a kvs, v = .ref a ∧ H a = some (.dK kvs) ∧ Fz μ Z a ∧ kvs.map (·.1) = ks ∧ RVs Γ H μ Z ws (kvs.map (·.2))
  | .dtt kd ws, v => ∃ a kvs, v = .ref a ∧ HD H a true kvs ∧ Fz μ Z a ∧ KVs kd ws kvs ∧ RVs Γ H μ Z kd (kvs.map (·.2.1)) ∧ RVs Γ H μ Z ws (kvs.map (·.2.2))
  | .exc c f w, v => ∃ a dx x, v = .ref a ∧ H a = some (ExK a (Γ.cls c) dx) ∧ Fz μ Z a ∧ H dx = some (.xd [(f, x)]) ∧ Fz μ Z dx ∧ RV Γ H μ Z w x
  | .exn c, v => ∃ a, v = .ref a ∧ H a = some (ExO (.ref (Γ.cls c)) a) ∧ Fz μ Z a
  | .clo a c q ws vs, v => v = .ref a ∧ H c = some (LamX.CodeO c q) ∧ Fz μ Z c ∧ RVs Γ H μ Z ws vs
def RVs (Γ : Ct) (H : Hp) (μ : Mu) (Z : Zs) : List Dv → List V → Prop
  | [], vs => vs = []
  | w :: ws, vs => ∃ x xs, vs = x :: xs ∧ RV Γ H μ Z w x ∧ RVs Γ H μ Z ws xs
end
section
variable {Γ : Ct} {H H1 H' : Hp} {μ μ1 μ' : Mu} {Z Z' : Zs}
mutual
theorem RV.mono (e : Evo H μ H' μ') : ∀ (w : Dv) {v : V}, RV Γ H μ Z w v → RV Γ H' μ' Z w v
  | .non, _, h => h
  | .bl _, _, h => h
  | .int _, _, h => h
  | .str _, _, h => h
  | .ty _, _, h => h
  | .cl _, _, h => h
  | .ref n, _, h => by
    obtain ⟨a, h1, h2⟩ := h
    exact ⟨a, h1, e.mu n a h2⟩
  | .tup ws, _, h => by
    obtain ⟨a, xs, h1, h2, h3⟩ := h
    exact ⟨a, xs, h1, h2.mono e, RVs.mono e ws h3⟩
  | .lst ws, _, h => by
    obtain ⟨a, xs, h1, h2, h3, h4⟩ := h
    exact ⟨a, xs, h1, e.keep _ _ h2 h3.1, e.fz (by rw [h2]; intro z; cases z) h3, RVs.mono e ws h4⟩
  | .sq ws, _, h => by
    obtain ⟨a, xs, h1, h2, h3⟩ := h
    exact ⟨a, xs, h1, h2.mono e, RVs.mono e ws h3⟩
  | .dct ks ws, _, h => by
    obtain ⟨a, kvs, h1, h2, h3, h4, h5⟩ := h
    exact ⟨a, kvs, h1, e.keep _ _ h2 h3.1, e.fz (by rw [h2]; intro z; cases z) h3, h4, RVs.mono e ws h5⟩
  | .dtt kd ws, _, h => by
    obtain ⟨a, kvs, h1, h2, h3, h4, h5, h6⟩ := h
    exact ⟨a, kvs, h1, let ⟨od, z⟩ := h2; ⟨od, e.keep _ _ z h3.1⟩, e.fz h2.some h3, h4, RVs.mono e kd h5, RVs.mono e ws h6⟩
  | .exc c f w, _, h => by
    obtain ⟨a, dx, x, h1, h2, h3, h4, h5, h6⟩ := h
    exact ⟨a, dx, x, h1, e.keep _ _ h2 h3.1, e.fz (by rw [h2]; intro z; cases z) h3, e.keep _ _ h4 h5.1, e.fz (by rw [h4]; intro z; cases z) h5, RV.mono e w h6⟩
  | .exn c, _, h => by
    obtain ⟨a, h1, h2, h3⟩ := h
    exact ⟨a, h1, e.keep _ _ h2 h3.1, e.fz (by rw [h2]; intro z; cases z) h3⟩
  | .clo a c q ws vs, _, h => by
    obtain ⟨h1, h2, h3, h4⟩ := h
    exact ⟨h1, e.keep _ _ h2 h3.1, e.fz (by rw [h2]; intro z; cases z) h3, RVs.mono e ws h4⟩
theorem RVs.mono (e : Evo H μ H' μ') : ∀ (ws : List Dv) {vs : List V}, RVs Γ H μ Z ws vs → RVs Γ H' μ' Z ws vs
  | [], _, h => h
  | w :: ws, _, h => by
    obtain ⟨x, xs, h1, h2, h3⟩ := h
    exact ⟨x, xs, h1, RV.mono e w h2, RVs.mono e ws h3⟩
end
/-- what is hidden may change -/
structure EvoZ (Z : Zs) (H : Hp) (μ : Mu) (H' : Hp) (μ' : Mu) : Prop where
  keep : ∀ a o, H a = some o → (∀ n, μ n ≠ some a) → ¬ Z a → H' a = some o
  mu : ∀ n a, μ n = some a → μ' n = some a
  new : ∀ n a, μ' n = some a → μ n = some a ∨ H a = none
  live : ∀ a, H a ≠ none → H' a ≠ none
theorem Evo.z {H H' : Hp} {μ μ' : Mu} {Z : Zs} (e : Evo H μ H' μ') : EvoZ Z H μ H' μ' := ⟨fun a o h hn _ => e.keep a o h hn, e.mu, e.new, fun _ h => e.alive h⟩
theorem EvoZ.more {H H' : Hp} {μ μ' : Mu} {Z Z' : Zs} (h : ∀ a, Z a → Z' a) (e : EvoZ Z H μ H' μ') : EvoZ Z' H μ H' μ' := ⟨fun a o q hn z => e.keep a o q hn fun y => z (h a y), e.mu, e.new, e.live⟩
theorem EvoZ.trans {H H1 H' : Hp} {μ μ1 μ' : Mu} {Z : Zs} (e : EvoZ Z H μ H1 μ1) (f : EvoZ Z H1 μ1 H' μ') : EvoZ Z H μ H' μ' where
  keep := fun a o h hn z => by
    have h1 := e.keep a o h hn z
    exact f.keep a o h1 (fun n q => by
      rcases e.new n a q with y | y
      · exact hn n y
      · rw [h] at y; cases y) z
  mu := fun n a h => f.mu n a (e.mu n a h)
  new := fun n a h => by
    rcases f.new n a h with q | q
    · exact e.new n a q
    · right
      cases z : H a with
      | none => rfl
      | some o => exact absurd q (e.live a (by rw [z]; intro y; cases y))
  live := fun a h => f.live a (e.live a h)
theorem EvoZ.fz {H H' : Hp} {μ μ' : Mu} {Z : Zs} {a : Addr} (e : EvoZ Z H μ H' μ') (h : H a ≠ none) (f : Fz μ Z a) : Fz μ' Z a := ⟨fun n hn => by
  rcases e.new n a hn with q | q
  · exact f.1 n q
  · exact h q, f.2⟩
theorem Rd.evoZ {H H' : Hp} {μ μ' : Mu} {Z : Zs} {a : Addr} {o : HO} (e : EvoZ Z H μ H' μ') (h : Rd H a o) (f : Fz μ Z a) : Rd H' a o := by
  rcases h with h | ⟨u, h⟩
  · exact .inl (e.keep _ _ h f.1 f.2)
  · exact .inr ⟨u, e.keep _ _ h f.1 f.2⟩
theorem AtL.monoZ {K : PySem.W.Frag} {H H' : Hp} {μ μ' : Mu} {Z : Zs} {a : Addr} {xs : List V} (e : EvoZ Z H μ H' μ') (h : AtL K H μ Z a xs) : AtL K H' μ' Z a xs := h.elim (fun ⟨r, f⟩ => .inl ⟨Rd.evoZ e r f, e.fz (Rd.alive r) f⟩) .inr
theorem AtT.monoZ {K : PySem.W.Frag} {H H' : Hp} {μ μ' : Mu} {Z : Zs} {a : Addr} {xs : List V} (e : EvoZ Z H μ H' μ') (h : AtT K H μ Z a xs) : AtT K H' μ' Z a xs := h.elim (fun ⟨r, f⟩ => .inl ⟨Rd.evoZ e r f, e.fz (Rd.alive r) f⟩) .inr
/-- base, then only D changed -/
theorem Evo.thenZ {H0 H1 H' : Hp} {μ0 μ1 μ' : Mu} {D : Addr} (e : Evo H0 μ0 H1 μ1) (hD : H0 D = none) (f : EvoZ (fun a => a = D) H1 μ1 H' μ') : Evo H0 μ0 H' μ' where
  keep := fun a o h hn => by
    have h1 := e.keep a o h hn
    exact f.keep a o h1 (fun n q => by
      rcases e.new n a q with y | y
      · exact hn n y
      · rw [h] at y; cases y) (fun z => by rw [z, hD] at h; cases h)
  mu := fun n a h => f.mu n a (e.mu n a h)
  new := fun n a h => by
    rcases f.new n a h with q | q
    · exact e.new n a q
    · right
      cases z : H0 a with
      | none => rfl
      | some o => exact absurd q (e.alive (by rw [z]; intro y; cases y))
  stay := fun n a h q => f.live a (e.alive q)
theorem EvoZ.upd {H H' : Hp} {μ μ' : Mu} {D : Addr} {o : HO} (e : EvoZ (fun a => a = D) H μ H' μ') : EvoZ (fun a => a = D) H μ (upd H' D o) μ' where
  keep := fun a u h hn z => by rw [upd_ne z]; exact e.keep a u h hn z
  mu := e.mu
  new := e.new
  live := fun a h => by
    by_cases z : a = D
    · rw [z, upd_same]; intro y; cases y
    · rw [upd_ne z]; exact e.live a h
mutual
theorem RV.monoZ (e : EvoZ Z H μ H' μ') : ∀ (w : Dv) {v : V}, RV Γ H μ Z w v → RV Γ H' μ' Z w v
  | .non, _, h => h
  | .bl _, _, h => h
  | .int _, _, h => h
  | .str _, _, h => h
  | .ty _, _, h => h
  | .cl _, _, h => h
  | .ref n, _, h => by
    obtain ⟨a, h1, h2⟩ := h
    exact ⟨a, h1, e.mu n a h2⟩
  | .tup ws, _, h => by
    obtain ⟨a, xs, h1, h2, h3⟩ := h
    exact ⟨a, xs, h1, h2.monoZ e, RVs.monoZ e ws h3⟩
  | .lst ws, _, h => by
    obtain ⟨a, xs, h1, h2, h3, h4⟩ := h
    exact ⟨a, xs, h1, e.keep _ _ h2 h3.1 h3.2, e.fz (by rw [h2]; intro z; cases z) h3, RVs.monoZ e ws h4⟩
  | .sq ws, _, h => by
    obtain ⟨a, xs, h1, h2, h3⟩ := h
    exact ⟨a, xs, h1, h2.monoZ e, RVs.monoZ e ws h3⟩
  | .dct ks ws, _, h => by
    obtain ⟨a, kvs, h1, h2, h3, h4, h5⟩ := h
    exact ⟨a, kvs, h1, e.keep _ _ h2 h3.1 h3.2, e.fz (by rw [h2]; intro z; cases z) h3, h4, RVs.monoZ e ws h5⟩
  | .dtt kd ws, _, h => by
    obtain ⟨a, kvs, h1, h2, h3, h4, h5, h6⟩ := h
    exact ⟨a, kvs, h1, let ⟨od, z⟩ := h2; ⟨od, e.keep _ _ z h3.1 h3.2⟩, e.fz h2.some h3, h4, RVs.monoZ e kd h5, RVs.monoZ e ws h6⟩
  | .exc c f w, _, h => by
    obtain ⟨a, dx, x, h1, h2, h3, h4, h5, h6⟩ := h
    exact ⟨a, dx, x, h1, e.keep _ _ h2 h3.1 h3.2, e.fz (by rw [h2]; intro z; cases z) h3, e.keep _ _ h4 h5.1 h5.2, e.fz (by rw [h4]; intro z; cases z) h5, RV.monoZ e w h6⟩
  | .exn c, _, h => by
    obtain ⟨a, h1, h2, h3⟩ := h
    exact ⟨a, h1, e.keep _ _ h2 h3.1 h3.2, e.fz (by rw [h2]; intro z; cases z) h3⟩
  | .clo a c q ws vs, _, h => by
    obtain ⟨h1, h2, h3, h4⟩ := h
    exact ⟨h1, e.keep _ _ h2 h3.1 h3.2, e.fz (by rw [h2]; intro z; cases z) h3, RVs.monoZ e ws h4⟩
theorem RVs.monoZ (e : EvoZ Z H μ H' μ') : ∀ (ws : List Dv) {vs : List V}, RVs Γ H μ Z ws vs → RVs Γ H' μ' Z ws vs
  | [], _, h => h
  | w :: ws, _, h => by
    obtain ⟨x, xs, h1, h2, h3⟩ := h
    exact ⟨x, xs, h1, RV.monoZ e w h2, RVs.monoZ e ws h3⟩
end
theorem Fz.weak {a : Addr} (h : ∀ a, Z a → Z' a) (f : Fz μ Z' a) : Fz μ Z a := ⟨f.1, fun z => f.2 (h a z)⟩
mutual
theorem RV.weak (h : ∀ a, Z a → Z' a) : ∀ (w : Dv) {v : V}, RV Γ H μ Z' w v → RV Γ H μ Z w v
  | .non, _, q => q
  | .bl _, _, q => q
  | .int _, _, q => q
  | .str _, _, q => q
  | .ty _, _, q => q
  | .cl _, _, q => q
  | .ref n, _, q => q
  | .tup ws, _, q => by
    obtain ⟨a, xs, h1, h2, h3⟩ := q
    exact ⟨a, xs, h1, h2.elim (fun z => .inl ⟨z.1, z.2.weak h⟩) .inr, RVs.weak h ws h3⟩
  | .lst ws, _, q => by
    obtain ⟨a, xs, h1, h2, h3, h4⟩ := q
    exact ⟨a, xs, h1, h2, h3.weak h, RVs.weak h ws h4⟩
  | .sq ws, _, q => by
    obtain ⟨a, xs, h1, h2, h3⟩ := q
    exact ⟨a, xs, h1, h2.elim (fun z => .inl ⟨z.1, z.2.weak h⟩) .inr, RVs.weak h ws h3⟩
  | .dct ks ws, _, q => by
    obtain ⟨a, kvs, h1, h2, h3, h4, h5⟩ := q
    exact ⟨a, kvs, h1, h2, h3.weak h, h4, RVs.weak h ws h5⟩
  | .dtt kd ws, _, q => by
    obtain ⟨a, kvs, h1, h2, h3, h4, h5, h6⟩ := q
    exact ⟨a, kvs, h1, h2, h3.weak h, h4, RVs.weak h kd h5, RVs.weak h ws h6⟩
  | .exc c f w, _, q => by
    obtain ⟨a, dx, x, h1, h2, h3, h4, h5, h6⟩ := q
    exact ⟨a, dx, x, h1, h2, h3.weak h, h4, h5.weak h, RV.weak h w h6⟩
  | .exn c, _, q => by
    obtain ⟨a, h1, h2, h3⟩ := q
    exact ⟨a, h1, h2, h3.weak h⟩
  | .clo a c _ ws vs, _, q => by
    obtain ⟨h1, h2, h3, h4⟩ := q
    exact ⟨h1, h2, h3.weak h, RVs.weak h ws h4⟩
theorem RVs.weak (h : ∀ a, Z a → Z' a) : ∀ (ws : List Dv) {vs : List V}, RVs Γ H μ Z' ws vs → RVs Γ H μ Z ws vs
  | [], _, q => q
  | w :: ws, _, q => by
    obtain ⟨x, xs, h1, h2, h3⟩ := q
    exact ⟨x, xs, h1, RV.weak h w h2, RVs.weak h ws h3⟩
end
/-- under a reserved address all may change -/
theorem Fz.evoZ {p a : Addr} (f : Fz μ (fun b => b = p ∨ Z b) a) : a ≠ p := fun e => f.2 (.inl e)
mutual
theorem RV.updZ {p : Addr} {o : HO} : ∀ (w : Dv) {v : V}, RV Γ H μ (fun b => b = p ∨ Z b) w v → RV Γ (upd H p o) μ (fun b => b = p ∨ Z b) w v
  | .non, _, q => q
  | .bl _, _, q => q
  | .int _, _, q => q
  | .str _, _, q => q
  | .ty _, _, q => q
  | .cl _, _, q => q
  | .ref n, _, q => q
  | .tup ws, _, q => by
    obtain ⟨a, xs, h1, h2, h3⟩ := q
    refine ⟨a, xs, h1, ?_, RVs.updZ ws h3⟩
    rcases h2 with ⟨h2, f⟩ | h2
    · refine .inl ⟨?_, f⟩
      unfold Rd
      rw [upd_ne f.evoZ]
      exact h2
    · exact .inr h2
  | .lst ws, _, q => by
    obtain ⟨a, xs, h1, h2, h3, h4⟩ := q
    exact ⟨a, xs, h1, by rw [upd_ne h3.evoZ]; exact h2, h3, RVs.updZ ws h4⟩
  | .sq ws, _, q => by
    obtain ⟨a, xs, h1, h2, h3⟩ := q
    refine ⟨a, xs, h1, ?_, RVs.updZ ws h3⟩
    rcases h2 with ⟨h2, f⟩ | h2
    · refine .inl ⟨?_, f⟩
      unfold Rd
      rw [upd_ne f.evoZ]
      exact h2
    · exact .inr h2
  | .dct ks ws, _, q => by
    obtain ⟨a, kvs, h1, h2, h3, h4, h5⟩ := q
    exact ⟨a, kvs, h1, by rw [upd_ne h3.evoZ]; exact h2, h3, h4, RVs.updZ ws h5⟩
  | .dtt kd ws, _, q => by
    obtain ⟨a, kvs, h1, h2, h3, h4, h5, h6⟩ := q
    exact ⟨a, kvs, h1, h2.eq (upd_ne h3.evoZ), h3, h4, RVs.updZ kd h5, RVs.updZ ws h6⟩
  | .exc c f w, _, q => by
    obtain ⟨a, dx, x, h1, h2, h3, h4, h5, h6⟩ := q
    exact ⟨a, dx, x, h1, by rw [upd_ne h3.evoZ]; exact h2, h3, by rw [upd_ne h5.evoZ]; exact h4, h5, RV.updZ w h6⟩
  | .exn c, _, q => by
    obtain ⟨a, h1, h2, h3⟩ := q
    exact ⟨a, h1, by rw [upd_ne h3.evoZ]; exact h2, h3⟩
  | .clo a c _ ws vs, _, q => by
    obtain ⟨h1, h2, h3, h4⟩ := q
    exact ⟨h1, by rw [upd_ne h3.evoZ]; exact h2, h3, RVs.updZ ws h4⟩
theorem RVs.updZ {p : Addr} {o : HO} : ∀ (ws : List Dv) {vs : List V}, RVs Γ H μ (fun b => b = p ∨ Z b) ws vs → RVs Γ (upd H p o) μ (fun b => b = p ∨ Z b) ws vs
  | [], _, q => q
  | w :: ws, _, q => by
    obtain ⟨x, xs, h1, h2, h3⟩ := q
    exact ⟨x, xs, h1, RV.updZ w h2, RVs.updZ ws h3⟩
end
theorem RVs.nil : RVs Γ H μ Z [] [] := rfl
theorem RVs.cons {w : Dv} {ws : List Dv} {x : V} {xs : List V} (h : RV Γ H μ Z w x) (t : RVs Γ H μ Z ws xs) : RVs Γ H μ Z (w :: ws) (x :: xs) := ⟨x, xs, rfl, h, t⟩
theorem RVs.len : ∀ {ws : List Dv} {xs : List V}, RVs Γ H μ Z ws xs → xs.length = ws.length
  | [], _, h => by rw [show _ = [] from h]; rfl
  | w :: ws, _, h => by
    obtain ⟨x, xs, rfl, _, h3⟩ := h
    rw [List.length_cons, List.length_cons, RVs.len h3]
theorem RVs.get : ∀ {ws : List Dv} {xs : List V} {i : Nat} {w : Dv}, RVs Γ H μ Z ws xs → ws[i]? = some w → ∃ x, xs[i]? = some x ∧ RV Γ H μ Z w x
  | [], _, _, _, _, e => by cases e
  | a :: ws, _, 0, w, h, e => by
    obtain ⟨x, xs, rfl, h2, _⟩ := h
    cases e
    exact ⟨x, rfl, h2⟩
  | a :: ws, _, i + 1, w, h, e => by
    obtain ⟨x, xs, rfl, _, h3⟩ := h
    obtain ⟨y, e1, e2⟩ := RVs.get (i := i) (w := w) h3 (by simpa using e)
    exact ⟨y, by simpa using e1, e2⟩
theorem RVs.append : ∀ {ws us : List Dv} {xs ys : List V}, RVs Γ H μ Z ws xs → RVs Γ H μ Z us ys → RVs Γ H μ Z (ws ++ us) (xs ++ ys)
  | [], _, _, _, h, q => by rw [show _ = [] from h]; exact q
  | a :: ws, _, _, _, h, q => by
    obtain ⟨x, xs, rfl, h2, h3⟩ := h
    exact RVs.cons h2 (RVs.append h3 q)
theorem RVs.drop : ∀ {ws : List Dv} {xs : List V} (n : Nat), RVs Γ H μ Z ws xs → RVs Γ H μ Z (ws.drop n) (xs.drop n)
  | _, _, 0, h => h
  | [], _, _ + 1, h => by rw [show _ = [] from h]; exact rfl
  | _ :: ws, _, n + 1, h => by
    obtain ⟨x, xs, rfl, _, h3⟩ := h
    exact RVs.drop n h3
theorem RVs.take : ∀ {ws : List Dv} {xs : List V} (n : Nat), RVs Γ H μ Z ws xs → RVs Γ H μ Z (ws.take n) (xs.take n)
  | _, _, 0, _ => rfl
  | [], _, _ + 1, h => by rw [show _ = [] from h]; exact rfl
  | _ :: ws, _, n + 1, h => by
    obtain ⟨x, xs, rfl, h2, h3⟩ := h
    exact RVs.cons h2 (RVs.take n h3)
theorem RVs.ints : ∀ {ns : List Int} {xs : List V}, RVs Γ H μ Z (ns.map .int) xs → xs = ns.map .int
  | [], _, h => h
  | n :: ns, _, h => by
    obtain ⟨x, xs, rfl, h2, h3⟩ := h
    rw [show x = V.int n from h2, RVs.ints h3]
    rfl
theorem RVs.of_ints : ∀ (ns : List Int), RVs Γ H μ Z (ns.map .int) (ns.map .int)
  | [] => rfl
  | n :: ns => RVs.cons rfl (RVs.of_ints ns)
theorem RVs.rep {ws : List Dv} {xs : List V} (h : RVs Γ H μ Z ws xs) : ∀ k : Nat, RVs Γ H μ Z (List.replicate k ws).flatten (List.replicate k xs).flatten
  | 0 => rfl
  | k + 1 => by
    rw [List.replicate_succ, List.replicate_succ, List.flatten_cons, List.flatten_cons]
    exact RVs.append h (RVs.rep h k)
end
def RO (Γ : Ct) (H : Hp) (μ : Mu) (Z : Zs) (a : Addr) : Ob → Prop
  | .lst ws => ∃ xs, H a = some (.lst xs) ∧ RVs Γ H μ Z ws xs
  | .dct kws => ∃ kvs, H a = some (.dK kvs) ∧ kvs.map (·.1) = kws.map (·.1) ∧ RVs Γ H μ Z (kws.map (·.2)) (kvs.map (·.2))
  | .dtt fr kws => ∃ kvs, HD H a fr kvs ∧ KVs (kws.map (·.1)) (kws.map (·.2)) kvs ∧ RVs Γ H μ Z (kws.map (·.1)) (kvs.map (·.2.1)) ∧ RVs Γ H μ Z (kws.map (·.2)) (kvs.map (·.2.2))
  | .obj c fs => ∃ dx kvs, H a = some (.ins (Γ.cls c) dx kvs) ∧ kvs.map (·.1) = fs.map (·.1) ∧ RVs Γ H μ Z (fs.map (·.2)) (kvs.map (·.2))
  | .tab n q => a = Γ.tb n ∧ ∃ ps : Array Value, H a = some (.tbl ps) ∧ TriplesOk ps.toList ∧ ∀ (pos : Pos) (cv : Value), codeAmong pos ps.toList = some cv → ∃ c, cv = .ref c ∧ H c = some (LamX.CodeO c q) ∧ Fz μ Z c
theorem tab_imp {H H' : Hp} {μ μ' : Mu} {Z Z' : Zs} {a : Addr} {q : Str} (hH : H' a = H a) (k : ∀ c, H c = some (LamX.CodeO c q) → Fz μ Z c → H' c = some (LamX.CodeO c q) ∧ Fz μ' Z' c)
    (h : ∃ ps : Array Value, H a = some (.tbl ps) ∧ TriplesOk ps.toList ∧ ∀ (pos : Pos) (cv : Value), codeAmong pos ps.toList = some cv → ∃ c, cv = .ref c ∧ H c = some (LamX.CodeO c q) ∧ Fz μ Z c) :
    ∃ ps : Array Value, H' a = some (.tbl ps) ∧ TriplesOk ps.toList ∧ ∀ (pos : Pos) (cv : Value), codeAmong pos ps.toList = some cv → ∃ c, cv = .ref c ∧ H' c = some (LamX.CodeO c q) ∧ Fz μ' Z' c := by
  obtain ⟨ps, h1, h2, h3⟩ := h
  refine ⟨ps, hH.trans h1, h2, fun pos cv e => ?_⟩
  obtain ⟨c, e1, e2, e3⟩ := h3 pos cv e
  exact ⟨c, e1, k c e2 e3⟩
structure Rep (Γ : Ct) (H : Hp) (μ : Mu) (Z : Zs) (s : Sto) : Prop where
  «at» : ∀ (n : Nat) (o : Ob), s[n]? = some o → ∃ a, μ n = some a ∧ ¬ Z a ∧ RO Γ H μ Z a o
  inj : ∀ n m a, μ n = some a → μ m = some a → n = m
  dom : ∀ n a, μ n = some a → n < s.length
  za : ∀ a, Z a → H a ≠ none
def RE (Γ : Ct) (H : Hp) (μ : Mu) (Z : Zs) (ρ : Env) (σ : L2.St) : Prop := ρ.length = σ.length ∧ ∀ (i : Nat) (w : Dv), ρ[i]? = some (some w) → ∃ v, σ[i]? = some (some v) ∧ RV Γ H μ Z w v
/-- an exception on its way: its class, its dict -/
def RX (Γ : Ct) (H : Hp) (μ : Mu) (Z : Zs) (x : Ex) (cls : Value) (d : Option Addr) : Prop := (x.c = 99 ∧ cls = .type "KeyError") ∨ (x.c ≠ 99 ∧ cls = .ref (Γ.cls x.c) ∧ ∃ dd v, d = some dd ∧ H dd = some (.xd [(x.f, v)]) ∧ Fz μ Z dd ∧ RV Γ H μ Z x.w v)
section
variable {Γ : Ct} {H H1 H' : Hp} {μ μ1 μ' : Mu} {Z Z' : Zs} {ρ : Env} {σ : L2.St} {s : Sto} {p : Addr} {o : HO}
theorem RE.mono (e : Evo H μ H' μ') (h : RE Γ H μ Z ρ σ) : RE Γ H' μ' Z ρ σ := ⟨h.1, fun i w q => by
  obtain ⟨v, h1, h2⟩ := h.2 i w q
  exact ⟨v, h1, h2.mono e⟩⟩
theorem RE.set {w : Dv} {v : V} (i : Nat) (h : RE Γ H μ Z ρ σ) (r : RV Γ H μ Z w v) : RE Γ H μ Z (ρ.set i (some w)) (σ.set i (some v)) := by
  refine ⟨by rw [List.length_set, List.length_set]; exact h.1, fun j u q => ?_⟩
  by_cases e : i = j
  · subst e
    have hl : i < ρ.length := by
      have := (List.getElem?_eq_some_iff.mp q).1
      simpa using this
    rw [List.getElem?_set_self hl] at q
    cases q
    exact ⟨v, List.getElem?_set_self (by rw [← h.1]; exact hl), r⟩
  · rw [List.getElem?_set_ne e] at q
    rw [List.getElem?_set_ne e]
    exact h.2 j u q
theorem RE.del (i : Nat) (h : RE Γ H μ Z ρ σ) : RE Γ H μ Z (ρ.set i none) (σ.set i none) := by
  refine ⟨by rw [List.length_set, List.length_set]; exact h.1, fun j u q => ?_⟩
  by_cases e : i = j
  · subst e
    have hl : i < ρ.length := by
      have := (List.getElem?_eq_some_iff.mp q).1
      simpa using this
    rw [List.getElem?_set_self hl] at q
    cases q
  · rw [List.getElem?_set_ne e] at q
    rw [List.getElem?_set_ne e]
    exact h.2 j u q
theorem RE.weak (h : ∀ a, Z a → Z' a) (r : RE Γ H μ Z' ρ σ) : RE Γ H μ Z ρ σ := ⟨r.1, fun i w q => by
  obtain ⟨v, h1, h2⟩ := r.2 i w q
  exact ⟨v, h1, h2.weak h⟩⟩
theorem RX.mono {x : Ex} {cls : Value} {d : Option Addr} (e : Evo H μ H' μ') (h : RX Γ H μ Z x cls d) : RX Γ H' μ' Z x cls d := by
  rcases h with h | ⟨h0, h1, dd, v, h2, h3, h4, h5⟩
  · exact .inl h
  · exact .inr ⟨h0, h1, dd, v, h2, e.keep _ _ h3 h4.1, e.fz (by rw [h3]; intro z; cases z) h4, h5.mono e⟩
/-- the store's objects stay where the heap grows beside them -/
theorem Rep.keep (R : Rep Γ H μ Z s) (e : Evo H μ H' μ) (h : ∀ n a, μ n = some a → H' a = H a) : Rep Γ H' μ Z s := ⟨fun n o q => by
  obtain ⟨a, h1, h2, h3⟩ := R.at n o q
  refine ⟨a, h1, h2, ?_⟩
  cases o with
  | lst ws =>
    obtain ⟨xs, h4, h5⟩ := h3
    exact ⟨xs, (h n a h1).trans h4, h5.mono e⟩
  | dct kws =>
    obtain ⟨kvs, h4, h5, h6⟩ := h3
    exact ⟨kvs, (h n a h1).trans h4, h5, h6.mono e⟩
  | dtt fr kws =>
    obtain ⟨kvs, h4, h5, h6, h7⟩ := h3
    exact ⟨kvs, h4.eq (h n a h1), h5, h6.mono e, h7.mono e⟩
  | obj c fs =>
    obtain ⟨dx, kvs, h4, h5, h6⟩ := h3
    exact ⟨dx, kvs, (h n a h1).trans h4, h5, h6.mono e⟩
  | tab m q => exact ⟨h3.1, tab_imp (h n a h1) (fun c e1 e2 => ⟨e.keep _ _ e1 e2.1, e.fz (by rw [e1]; intro z; cases z) e2⟩) h3.2⟩, R.inj, R.dom, fun a q => e.alive (R.za a q)⟩
theorem RO.alive {a : Addr} {o : Ob} (h : RO Γ H μ Z a o) : H a ≠ none := by
  cases o with
  | lst ws => obtain ⟨_, h, _⟩ := h; rw [h]; intro z; cases z
  | dct kws => obtain ⟨_, h, _⟩ := h; rw [h]; intro z; cases z
  | dtt fr kws => obtain ⟨_, h, _⟩ := h; exact h.some
  | obj c fs => obtain ⟨_, _, h, _⟩ := h; rw [h]; intro z; cases z
  | tab m q => obtain ⟨_, _, h, _⟩ := h; rw [h]; intro z; cases z
theorem Rep.alive (R : Rep Γ H μ Z s) {n : Nat} {a : Addr} (h : μ n = some a) : H a ≠ none := by
  have hl := R.dom n a h
  obtain ⟨b, h1, _, h3⟩ := R.at n _ (List.getElem?_eq_getElem hl)
  rw [h] at h1
  cases h1
  exact h3.alive
theorem Rep.notZ (R : Rep Γ H μ Z s) {n : Nat} {a : Addr} (h : μ n = some a) : ¬ Z a := by
  have hl := R.dom n a h
  obtain ⟨b, h1, h2, h3⟩ := R.at n _ (List.getElem?_eq_getElem hl)
  rw [h] at h1
  cases h1
  exact h2
theorem Rep.laid (R : Rep Γ H μ Z s) (hp : H p = none) : Rep Γ (upd H p o) μ Z s := R.keep (Evo.laid hp) fun n a h => upd_ne fun e => R.alive h (e ▸ hp)
theorem Rep.fz (R : Rep Γ H μ Z s) (hp : H p = none) : Fz μ Z p := ⟨fun n h => R.alive h hp, fun z => R.za p z hp⟩
end
end MP
set_option Elab.async false
set_option linter.all false
set_option maxRecDepth 100000
set_option maxHeartbeats 4000000
namespace MP
open PySem PySem.Spec PyProof.Rows L2
section
variable (Γ : Ct) (W : WX) (H : Hp) (μ : Mu) (Z : Zs) (σ : L2.St)
def PostE (Q : VK) : R Dv → Prop
  | .ok w s' => ∀ v H' μ', Evo H μ H' μ' → Rep Γ H' μ' Z s' → RV Γ H' μ' Z w v → Q v H'
  | .er x s' => ∀ cls d H' μ', Evo H μ H' μ' → Rep Γ H' μ' Z s' → RX Γ H' μ' Z x cls d → W cls d σ H'
  | .no => False
def PostT (Q : Bool → Hp → Prop) : R Bool → Prop
  | .ok b s' => ∀ H' μ', Evo H μ H' μ' → Rep Γ H' μ' Z s' → Q b H'
  | .er x s' => ∀ cls d H' μ', Evo H μ H' μ' → Rep Γ H' μ' Z s' → RX Γ H' μ' Z x cls d → W cls d σ H'
  | .no => False
def PostA (Q : List V → Hp → Prop) : R (List Dv) → Prop
  | .ok ws s' => ∀ vs H' μ', Evo H μ H' μ' → Rep Γ H' μ' Z s' → RVs Γ H' μ' Z ws vs → Q vs H'
  | .er x s' => ∀ cls d H' μ', Evo H μ H' μ' → Rep Γ H' μ' Z s' → RX Γ H' μ' Z x cls d → W cls d σ H'
  | .no => False
def PostS (D : Ends) : C → Prop
  | .nx ρ' s' => ∀ σ' H' μ', Evo H μ H' μ' → Rep Γ H' μ' Z s' → RE Γ H' μ' Z ρ' σ' → D.nx σ' H'
  | .bk ρ' s' => ∀ σ' H' μ', Evo H μ H' μ' → Rep Γ H' μ' Z s' → RE Γ H' μ' Z ρ' σ' → D.bk σ' H'
  | .ct ρ' s' => ∀ σ' H' μ', Evo H μ H' μ' → Rep Γ H' μ' Z s' → RE Γ H' μ' Z ρ' σ' → D.ct σ' H'
  | .rt w s' => ∀ v H' μ', Evo H μ H' μ' → Rep Γ H' μ' Z s' → RV Γ H' μ' Z w v → D.rt v H'
  | .er x ρ' s' => ∀ cls d σ' H' μ', Evo H μ H' μ' → Rep Γ H' μ' Z s' → RE Γ H' μ' Z ρ' σ' → RX Γ H' μ' Z x cls d → W cls d σ' H'
  | .no => False
end
def rdE (Γ : Ct) (W : WX) (f : FE) : TE := fun σ H Q => ∃ μ Z ρ s, RE Γ H μ Z ρ σ ∧ Rep Γ H μ Z s ∧ PostE Γ W H μ Z σ Q (f ρ s)
def rdT (Γ : Ct) (W : WX) (f : FT) : TT := fun σ H Q => ∃ μ Z ρ s, RE Γ H μ Z ρ σ ∧ Rep Γ H μ Z s ∧ PostT Γ W H μ Z σ Q (f ρ s)
def rdA (Γ : Ct) (W : WX) (f : FA) : TA := fun σ H Q => ∃ μ Z ρ s, RE Γ H μ Z ρ σ ∧ Rep Γ H μ Z s ∧ PostA Γ W H μ Z σ Q (f ρ s)
def rdS (Γ : Ct) (W : WX) (f : FS) : TS := fun D σ H => ∃ μ Z ρ s, RE Γ H μ Z ρ σ ∧ Rep Γ H μ Z s ∧ PostS Γ W H μ Z D (f ρ s)
def ME (X : Cx) (Γ : Ct) (W : WX) (e : Expr) (f : FE) : Prop := PE X e (rdE Γ W f)
def MT (X : Cx) (Γ : Ct) (W : WX) (e : Expr) (f : FT) : Prop := PT X e (rdT Γ W f)
def MW (X : Cx) (Γ : Ct) (W : WX) (e : Expr) (f : FT) : Prop := PW X e (rdT Γ W f)
def MA (X : Cx) (Γ : Ct) (W : WX) (es : List Expr) (f : FA) : Prop := PA X es (rdA Γ W f)
def MS (X : Cx) (Γ : Ct) (W : WX) (st : Stmt) (f : FS) : Prop := PS X st (rdS Γ W f)
def MB (X : Cx) (Γ : Ct) (W : WX) (st : List Stmt) (f : FS) : Prop := PSs X st (rdS Γ W f)
theorem PE.imp {X : Cx} {e : Expr} {t t' : TE} (h : PE X e t) (k : ∀ σ H Q, t' σ H Q → t σ H Q) : PE X e t' := ⟨fun pins s σ H Q I q => h.run pins s σ H Q I (k σ H Q q)⟩
theorem PT.imp {X : Cx} {e : Expr} {t t' : TT} (h : PT X e t) (k : ∀ σ H Q, t' σ H Q → t σ H Q) : PT X e t' := ⟨fun pins s σ H Q I q => h.run pins s σ H Q I (k σ H Q q)⟩
theorem PW.imp {X : Cx} {e : Expr} {t t' : TT} (h : PW X e t) (k : ∀ σ H Q, t' σ H Q → t σ H Q) : PW X e t' := ⟨fun wh pins s σ H Q I q => h.run wh pins s σ H Q I (k σ H Q q)⟩
theorem PA.imp {X : Cx} {e : List Expr} {t t' : TA} (h : PA X e t) (k : ∀ σ H Q, t' σ H Q → t σ H Q) : PA X e t' := ⟨fun pos pins s σ H Q I q => h.run pos pins s σ H Q I (k σ H Q q)⟩
theorem PS.imp {X : Cx} {e : Stmt} {t t' : TS} (h : PS X e t) (k : ∀ D σ H, t' D σ H → t D σ H) : PS X e t' := ⟨fun pins s σ H D I q => h.run pins s σ H D I (k D σ H q)⟩
theorem PSs.imp {X : Cx} {e : List Stmt} {t t' : TS} (h : PSs X e t) (k : ∀ D σ H, t' D σ H → t D σ H) : PSs X e t' := ⟨fun pins s σ H D I q => h.run pins s σ H D I (k D σ H q)⟩
theorem PE.or {X : Cx} {e : Expr} {t t' : TE} (h : PE X e t) (h' : PE X e t') : PE X e (fun σ H Q => t σ H Q ∨ t' σ H Q) := ⟨fun pins s σ H Q I q => q.elim (h.run pins s σ H Q I) (h'.run pins s σ H Q I)⟩
theorem OpR.or2 {X : Cx} {f : Value → Value → Sem Value} {r r' : R2} (h : OpR X f r) (h' : OpR X f r') : OpR X f (fun x y H Q => r x y H Q ∨ r' x y H Q) := fun pins s σ H x y v u Q I rx ry q => q.elim (h pins s σ H x y v u Q I rx ry) (h' pins s σ H x y v u Q I rx ry)
theorem CallR.or2 {X : Cx} {f : Value} {r r' : List V → Hp → VK → Prop} (h : CallR X f r) (h' : CallR X f r') : CallR X f (fun x H Q => r x H Q ∨ r' x H Q) := fun pins s σ H x v Q I rx q => q.elim (h pins s σ H x v Q I rx) (h' pins s σ H x v Q I rx)
def R.thenC {α : Type} (r : R α) (ρ : Env) (k : α → Sto → C) : C := match r with
  | .ok a s => k a s | .er x s => .er x ρ s | .no => .no
def R.of {α : Type} (o : Option α) (s : Sto) : R α := match o with
  | some a => .ok a s | none => .no
section
variable {Γ : Ct} {W : WX} {H H1 : Hp} {μ μ1 : Mu} {Z : Zs} {σ : L2.St} {ρ : Env} {s : Sto}
theorem PostE.evo {Q : VK} {r : R Dv} (e : Evo H μ H1 μ1) (h : PostE Γ W H μ Z σ Q r) : PostE Γ W H1 μ1 Z σ Q r := by
  cases r with
  | ok w s' => exact fun v H' μ' e' => h v H' μ' (e.trans e')
  | er x s' => exact fun c d H' μ' e' => h c d H' μ' (e.trans e')
  | no => exact h
theorem PostT.evo {Q : Bool → Hp → Prop} {r : R Bool} (e : Evo H μ H1 μ1) (h : PostT Γ W H μ Z σ Q r) : PostT Γ W H1 μ1 Z σ Q r := by
  cases r with
  | ok w s' => exact fun H' μ' e' => h H' μ' (e.trans e')
  | er x s' => exact fun c d H' μ' e' => h c d H' μ' (e.trans e')
  | no => exact h
theorem PostA.evo {Q : List V → Hp → Prop} {r : R (List Dv)} (e : Evo H μ H1 μ1) (h : PostA Γ W H μ Z σ Q r) : PostA Γ W H1 μ1 Z σ Q r := by
  cases r with
  | ok w s' => exact fun v H' μ' e' => h v H' μ' (e.trans e')
  | er x s' => exact fun c d H' μ' e' => h c d H' μ' (e.trans e')
  | no => exact h
theorem PostS.evo {D : Ends} {r : C} (e : Evo H μ H1 μ1) (h : PostS Γ W H μ Z D r) : PostS Γ W H1 μ1 Z D r := by
  cases r with
  | nx ρ' s' => exact fun v H' μ' e' => h v H' μ' (e.trans e')
  | bk ρ' s' => exact fun v H' μ' e' => h v H' μ' (e.trans e')
  | ct ρ' s' => exact fun v H' μ' e' => h v H' μ' (e.trans e')
  | rt w s' => exact fun v H' μ' e' => h v H' μ' (e.trans e')
  | er x ρ' s' => exact fun c d σ' H' μ' e' => h c d σ' H' μ' (e.trans e')
  | no => exact h
theorem eE {f : FE} {k : Dv → Sto → R Dv} {Q Q' : VK} (hE : RE Γ H μ Z ρ σ) (hR : Rep Γ H μ Z s) (h : PostE Γ W H μ Z σ Q ((f ρ s).bind k))
    (hk : ∀ x s1 v H1 μ1, Evo H μ H1 μ1 → RE Γ H1 μ1 Z ρ σ → Rep Γ H1 μ1 Z s1 → RV Γ H1 μ1 Z x v → PostE Γ W H1 μ1 Z σ Q (k x s1) → Q' v H1) : rdE Γ W f σ H Q' := by
  refine ⟨μ, Z, ρ, s, hE, hR, ?_⟩
  cases e : f ρ s with
  | ok x s1 =>
    rw [e] at h
    exact fun v H1 μ1 ev R1 r1 => hk x s1 v H1 μ1 ev (hE.mono ev) R1 r1 (PostE.evo ev h)
  | er x s1 => rw [e] at h; exact h
  | no => rw [e] at h; exact h.elim
theorem eT {f : FE} {k : Dv → Sto → R Bool} {Q : Bool → Hp → Prop} {Q' : VK} (hE : RE Γ H μ Z ρ σ) (hR : Rep Γ H μ Z s) (h : PostT Γ W H μ Z σ Q ((f ρ s).bind k))
    (hk : ∀ x s1 v H1 μ1, Evo H μ H1 μ1 → RE Γ H1 μ1 Z ρ σ → Rep Γ H1 μ1 Z s1 → RV Γ H1 μ1 Z x v → PostT Γ W H1 μ1 Z σ Q (k x s1) → Q' v H1) : rdE Γ W f σ H Q' := by
  refine ⟨μ, Z, ρ, s, hE, hR, ?_⟩
  cases e : f ρ s with
  | ok x s1 =>
    rw [e] at h
    exact fun v H1 μ1 ev R1 r1 => hk x s1 v H1 μ1 ev (hE.mono ev) R1 r1 (PostT.evo ev h)
  | er x s1 => rw [e] at h; exact h
  | no => rw [e] at h; exact h.elim
theorem eA {f : FE} {k : Dv → Sto → R (List Dv)} {Q : List V → Hp → Prop} {Q' : VK} (hE : RE Γ H μ Z ρ σ) (hR : Rep Γ H μ Z s) (h : PostA Γ W H μ Z σ Q ((f ρ s).bind k))
    (hk : ∀ x s1 v H1 μ1, Evo H μ H1 μ1 → RE Γ H1 μ1 Z ρ σ → Rep Γ H1 μ1 Z s1 → RV Γ H1 μ1 Z x v → PostA Γ W H1 μ1 Z σ Q (k x s1) → Q' v H1) : rdE Γ W f σ H Q' := by
  refine ⟨μ, Z, ρ, s, hE, hR, ?_⟩
  cases e : f ρ s with
  | ok x s1 =>
    rw [e] at h
    exact fun v H1 μ1 ev R1 r1 => hk x s1 v H1 μ1 ev (hE.mono ev) R1 r1 (PostA.evo ev h)
  | er x s1 => rw [e] at h; exact h
  | no => rw [e] at h; exact h.elim
theorem eS {f : FE} {k : Dv → Sto → C} {D : Ends} {Q' : VK} (hE : RE Γ H μ Z ρ σ) (hR : Rep Γ H μ Z s) (h : PostS Γ W H μ Z D ((f ρ s).thenC ρ k))
    (hk : ∀ x s1 v H1 μ1, Evo H μ H1 μ1 → RE Γ H1 μ1 Z ρ σ → Rep Γ H1 μ1 Z s1 → RV Γ H1 μ1 Z x v → PostS Γ W H1 μ1 Z D (k x s1) → Q' v H1) : rdE Γ W f σ H Q' := by
  refine ⟨μ, Z, ρ, s, hE, hR, ?_⟩
  cases e : f ρ s with
  | ok x s1 =>
    rw [e] at h
    exact fun v H1 μ1 ev R1 r1 => hk x s1 v H1 μ1 ev (hE.mono ev) R1 r1 (PostS.evo ev h)
  | er x s1 => rw [e] at h; exact fun c d H' μ' ev R' rx => h c d σ H' μ' ev R' (hE.mono ev) rx
  | no => rw [e] at h; exact h.elim
theorem tE {f : FT} {k : Bool → Sto → R Dv} {Q : VK} {Q' : Bool → Hp → Prop} (hE : RE Γ H μ Z ρ σ) (hR : Rep Γ H μ Z s) (h : PostE Γ W H μ Z σ Q ((f ρ s).bind k))
    (hk : ∀ b s1 H1 μ1, Evo H μ H1 μ1 → RE Γ H1 μ1 Z ρ σ → Rep Γ H1 μ1 Z s1 → PostE Γ W H1 μ1 Z σ Q (k b s1) → Q' b H1) : rdT Γ W f σ H Q' := by
  refine ⟨μ, Z, ρ, s, hE, hR, ?_⟩
  cases e : f ρ s with
  | ok x s1 =>
    rw [e] at h
    exact fun H1 μ1 ev R1 => hk x s1 H1 μ1 ev (hE.mono ev) R1 (PostE.evo ev h)
  | er x s1 => rw [e] at h; exact h
  | no => rw [e] at h; exact h.elim
theorem tT {f : FT} {k : Bool → Sto → R Bool} {Q Q' : Bool → Hp → Prop} (hE : RE Γ H μ Z ρ σ) (hR : Rep Γ H μ Z s) (h : PostT Γ W H μ Z σ Q ((f ρ s).bind k))
    (hk : ∀ b s1 H1 μ1, Evo H μ H1 μ1 → RE Γ H1 μ1 Z ρ σ → Rep Γ H1 μ1 Z s1 → PostT Γ W H1 μ1 Z σ Q (k b s1) → Q' b H1) : rdT Γ W f σ H Q' := by
  refine ⟨μ, Z, ρ, s, hE, hR, ?_⟩
  cases e : f ρ s with
  | ok x s1 =>
    rw [e] at h
    exact fun H1 μ1 ev R1 => hk x s1 H1 μ1 ev (hE.mono ev) R1 (PostT.evo ev h)
  | er x s1 => rw [e] at h; exact h
  | no => rw [e] at h; exact h.elim
theorem tS {f : FT} {k : Bool → Sto → C} {D : Ends} {Q' : Bool → Hp → Prop} (hE : RE Γ H μ Z ρ σ) (hR : Rep Γ H μ Z s) (h : PostS Γ W H μ Z D ((f ρ s).thenC ρ k))
    (hk : ∀ b s1 H1 μ1, Evo H μ H1 μ1 → RE Γ H1 μ1 Z ρ σ → Rep Γ H1 μ1 Z s1 → PostS Γ W H1 μ1 Z D (k b s1) → Q' b H1) : rdT Γ W f σ H Q' := by
  refine ⟨μ, Z, ρ, s, hE, hR, ?_⟩
  cases e : f ρ s with
  | ok x s1 =>
    rw [e] at h
    exact fun H1 μ1 ev R1 => hk x s1 H1 μ1 ev (hE.mono ev) R1 (PostS.evo ev h)
  | er x s1 => rw [e] at h; exact fun c d H' μ' ev R' rx => h c d σ H' μ' ev R' (hE.mono ev) rx
  | no => rw [e] at h; exact h.elim
theorem aE {f : FA} {k : List Dv → Sto → R Dv} {Q : VK} {Q' : List V → Hp → Prop} (hE : RE Γ H μ Z ρ σ) (hR : Rep Γ H μ Z s) (h : PostE Γ W H μ Z σ Q ((f ρ s).bind k))
    (hk : ∀ ws s1 vs H1 μ1, Evo H μ H1 μ1 → RE Γ H1 μ1 Z ρ σ → Rep Γ H1 μ1 Z s1 → RVs Γ H1 μ1 Z ws vs → PostE Γ W H1 μ1 Z σ Q (k ws s1) → Q' vs H1) : rdA Γ W f σ H Q' := by
  refine ⟨μ, Z, ρ, s, hE, hR, ?_⟩
  cases e : f ρ s with
  | ok x s1 =>
    rw [e] at h
    exact fun v H1 μ1 ev R1 r1 => hk x s1 v H1 μ1 ev (hE.mono ev) R1 r1 (PostE.evo ev h)
  | er x s1 => rw [e] at h; exact h
  | no => rw [e] at h; exact h.elim
theorem aA {f : FA} {k : List Dv → Sto → R (List Dv)} {Q : List V → Hp → Prop} {Q' : List V → Hp → Prop} (hE : RE Γ H μ Z ρ σ) (hR : Rep Γ H μ Z s) (h : PostA Γ W H μ Z σ Q ((f ρ s).bind k))
    (hk : ∀ ws s1 vs H1 μ1, Evo H μ H1 μ1 → RE Γ H1 μ1 Z ρ σ → Rep Γ H1 μ1 Z s1 → RVs Γ H1 μ1 Z ws vs → PostA Γ W H1 μ1 Z σ Q (k ws s1) → Q' vs H1) : rdA Γ W f σ H Q' := by
  refine ⟨μ, Z, ρ, s, hE, hR, ?_⟩
  cases e : f ρ s with
  | ok x s1 =>
    rw [e] at h
    exact fun v H1 μ1 ev R1 r1 => hk x s1 v H1 μ1 ev (hE.mono ev) R1 r1 (PostA.evo ev h)
  | er x s1 => rw [e] at h; exact h
  | no => rw [e] at h; exact h.elim
theorem aS {f : FA} {k : List Dv → Sto → C} {D : Ends} {Q' : List V → Hp → Prop} (hE : RE Γ H μ Z ρ σ) (hR : Rep Γ H μ Z s) (h : PostS Γ W H μ Z D ((f ρ s).thenC ρ k))
    (hk : ∀ ws s1 vs H1 μ1, Evo H μ H1 μ1 → RE Γ H1 μ1 Z ρ σ → Rep Γ H1 μ1 Z s1 → RVs Γ H1 μ1 Z ws vs → PostS Γ W H1 μ1 Z D (k ws s1) → Q' vs H1) : rdA Γ W f σ H Q' := by
  refine ⟨μ, Z, ρ, s, hE, hR, ?_⟩
  cases e : f ρ s with
  | ok x s1 =>
    rw [e] at h
    exact fun v H1 μ1 ev R1 r1 => hk x s1 v H1 μ1 ev (hE.mono ev) R1 r1 (PostS.evo ev h)
  | er x s1 => rw [e] at h; exact fun c d H' μ' ev R' rx => h c d σ H' μ' ev R' (hE.mono ev) rx
  | no => rw [e] at h; exact h.elim
theorem okE {w : Dv} {Q : VK} {v : V} (hR : Rep Γ H μ Z s) (r : RV Γ H μ Z w v) (h : PostE Γ W H μ Z σ Q (.ok w s)) : Q v H := h v H μ .refl hR r
theorem okT {b : Bool} {Q : Bool → Hp → Prop} (hR : Rep Γ H μ Z s) (h : PostT Γ W H μ Z σ Q (.ok b s)) : Q b H := h H μ .refl hR
/-- a value at a new address -/
theorem newE {w : Dv} {Q : VK} {p : Addr} {o : HO} (hR : Rep Γ H μ Z s) (hp : H p = none) (r : RV Γ (upd H p o) μ Z w (.ref p)) (h : PostE Γ W H μ Z σ Q (.ok w s)) : Q (.ref p) (upd H p o) := h _ _ μ (Evo.laid hp) (hR.laid hp) r
end
section
variable {X : Cx} {Γ : Ct} {W : WX}
def mVar (i : Nat) : FE := fun ρ s => match ρ[i]? with
  | some (some w) => .ok w s
  | _ => .no
def mK (w : Dv) : FE := fun _ s => .ok w s
theorem me_var {i : Nat} {e : Expr} (h : PE X e (tVar i)) : ME X Γ W e (mVar i) := PE.imp h fun σ H Q ⟨μ, Z, ρ, s, hE, hR, q⟩ => by
  unfold mVar at q
  split at q
  · rename_i w e
    obtain ⟨v, h1, h2⟩ := hE.2 i w e
    exact ⟨v, h1, okE hR h2 q⟩
  · exact q.elim
theorem me_int {i : Int} {j pos} : ME X Γ W (.Constant (.int i) j pos) (mK (.int i)) := PE.imp pe_int fun σ H Q ⟨μ, Z, ρ, s, hE, hR, q⟩ => okE (w := .int i) hR rfl q
theorem me_bl {i : Bool} {j pos} : ME X Γ W (.Constant (.bool i) j pos) (mK (.bl i)) := PE.imp pe_bl fun σ H Q ⟨μ, Z, ρ, s, hE, hR, q⟩ => okE (w := .bl i) hR rfl q
theorem me_str {i : Str} {j pos} : ME X Γ W (.Constant (.str i) j pos) (mK (.str i)) := PE.imp pe_str fun σ H Q ⟨μ, Z, ρ, s, hE, hR, q⟩ => okE (w := .str i) hR rfl q
theorem me_non {j pos} : ME X Γ W (.Constant .none j pos) (mK .non) := PE.imp pe_non fun σ H Q ⟨μ, Z, ρ, s, hE, hR, q⟩ => okE (w := .non) hR rfl q
/-- a module's constant: an int, a class -/
theorem me_globI {x : Str} {i : Int} {t : Tok} {pos : Pos} (hg : Gl X x) (hm : X.mg x = some (.int i t)) (hd : (x == ("__debug__" : Str)) = false := by decide) : ME X Γ W (.Name x pos) (mK (.int i)) :=
  PE.imp (pe_glob (v := .int i) hg hm ⟨t, rfl⟩ hd) fun σ H Q ⟨μ, Z, ρ, s, hE, hR, q⟩ => okE (w := .int i) hR rfl q
theorem me_ty {x : Str} {n : String} {pos : Pos} (hg : Gl X x) (hm : X.mg x = none) (hv : bootBuiltins x = some (.type n)) (hn : x ≠ "__name__" := by decide) (hd : (x == ("__debug__" : Str)) = false := by decide) : ME X Γ W (.Name x pos) (mK (.ty n)) :=
  PE.imp (pe_bltn (v := .ty n) hg hm hv rfl hn hd) fun σ H Q ⟨μ, Z, ρ, s, hE, hR, q⟩ => okE (w := .ty n) hR rfl q
abbrev O2 := Sto → Dv → Dv → Option Dv
abbrev O1 := Sto → Dv → Option Dv
def mBin (op : O2) (f g : FE) : FE := fun ρ s => (f ρ s).bind fun x s1 => (g ρ s1).bind fun y s2 => R.of (op s2 x y) s2
def mUn (op : O1) (f : FE) : FE := fun ρ s => (f ρ s).bind fun x s1 => R.of (op s1 x) s1
/-- what an operator gives: its rule r is met -/
def Op2 (Γ : Ct) (r : R2) (op : O2) : Prop := ∀ (H : Hp) (μ : Mu) (Z : Zs) (s : Sto) (x y w : Dv) (u v : V) (Q : VK), Rep Γ H μ Z s → RV Γ H μ Z x u → RV Γ H μ Z y v → op s x y = some w →
  (∀ v' H', Evo H μ H' μ → Rep Γ H' μ Z s → RV Γ H' μ Z w v' → Q v' H') → r u v H Q
def Op1 (Γ : Ct) (r : V → Hp → VK → Prop) (op : O1) : Prop := ∀ (H : Hp) (μ : Mu) (Z : Zs) (s : Sto) (x w : Dv) (u : V) (Q : VK), Rep Γ H μ Z s → RV Γ H μ Z x u → op s x = some w →
  (∀ v' H', Evo H μ H' μ → Rep Γ H' μ Z s → RV Γ H' μ Z w v' → Q v' H') → r u H Q
theorem ofE {H : Hp} {μ : Mu} {Z : Zs} {σ : L2.St} {s : Sto} {o : Option Dv} {Q : VK} (h : PostE Γ W H μ Z σ Q (R.of o s)) : ∃ w, o = some w ∧ ∀ v' H', Evo H μ H' μ → Rep Γ H' μ Z s → RV Γ H' μ Z w v' → Q v' H' := by
  cases o with
  | none => exact h.elim
  | some w => exact ⟨w, rfl, fun v' H' e R r => h v' H' μ e R r⟩
variable {a b c : Expr} {f g h' : FE} {pos : Pos}
theorem me_op {op : Operator} {r : R2} {o : O2} (ho : OpR X (binaryOp op) r) (hs : Op2 Γ r o) (ha : ME X Γ W a f) (hb : ME X Γ W b g) : ME X Γ W (.BinOp a op b pos) (mBin o f g) :=
  PE.imp (pe_op ho ha hb) fun σ H Q ⟨μ, Z, ρ, s, hE, hR, q⟩ => eE hE hR q fun x s1 u H1 μ1 e1 hE1 R1 r1 q1 => eE hE1 R1 q1 fun y s2 v H2 μ2 e2 hE2 R2 r2 q2 => by
    obtain ⟨w, hw, k⟩ := ofE q2
    exact hs H2 μ2 Z s2 x y w u v Q R2 (r1.mono e2) r2 hw k
theorem me_cmp {op : CmpOp} {r : R2} {o : O2} (ho : OpR X (compareOp op) r) (hs : Op2 Γ r o) (hm : behindInMarks op b = false) (ha : ME X Γ W a f) (hb : ME X Γ W b g) : ME X Γ W (.Compare a [op] [b] pos) (mBin o f g) :=
  PE.imp (pe_cmpR ho ha hb hm) fun σ H Q ⟨μ, Z, ρ, s, hE, hR, q⟩ => eE hE hR q fun x s1 u H1 μ1 e1 hE1 R1 r1 q1 => eE hE1 R1 q1 fun y s2 v H2 μ2 e2 hE2 R2 r2 q2 => by
    obtain ⟨w, hw, k⟩ := ofE q2
    exact hs H2 μ2 Z s2 x y w u v Q R2 (r1.mono e2) r2 hw k
theorem me_un {op : UnaryOp} {r : V → Hp → VK → Prop} {o : O1} (ho : UnR X (unaryOp op) r) (hs : Op1 Γ r o) (ha : ME X Γ W a f) : ME X Γ W (.UnaryOp op a pos) (mUn o f) :=
  PE.imp (pe_un ho ha) fun σ H Q ⟨μ, Z, ρ, s, hE, hR, q⟩ => eE hE hR q fun x s1 u H1 μ1 e1 hE1 R1 r1 q1 => by
    obtain ⟨w, hw, k⟩ := ofE q1
    exact hs H1 μ1 Z s1 x w u Q R1 r1 hw k
/-- a < b < c -/
def mChain (o o' : O2) (f g h : FE) : FE := fun ρ s => (f ρ s).bind fun x s1 => (g ρ s1).bind fun y s2 => match o s2 x y with
  | some (.bl true) => (h ρ s2).bind fun z s3 => R.of (o' s3 y z) s3
  | some (.bl false) => .ok (.bl false) s2
  | _ => .no
theorem me_chain {op op' : CmpOp} {r r' : R2} {o o' : O2} (ho : OpR X (compareOp op) r) (ho' : OpR X (compareOp op') r') (hs : Op2 Γ r o) (hs' : Op2 Γ r' o') (hm : lastMarks [op, op'] [b, c] = false)
    (ha : ME X Γ W a f) (hb : ME X Γ W b g) (hc : ME X Γ W c h') : ME X Γ W (.Compare a [op, op'] [b, c] pos) (mChain o o' f g h') :=
  PE.imp (pe_chain ho ho' ha hb hc hm) fun σ H Q ⟨μ, Z, ρ, s, hE, hR, q⟩ => eE hE hR q fun x s1 u H1 μ1 e1 hE1 R1 r1 q1 => eE hE1 R1 q1 fun y s2 v H2 μ2 e2 hE2 R2 r2 q2 => by
    cases hw : o s2 x y with
    | none => rw [hw] at q2; exact q2.elim
    | some w =>
      rw [hw] at q2
      refine hs H2 μ2 Z s2 x y w u v _ R2 (r1.mono e2) r2 hw fun z H3 e3 R3 r3 => ?_
      cases w with
      | bl k =>
        refine ⟨k, r3, ?_⟩
        cases k with
        | true =>
          rw [if_pos rfl]
          exact eE (hE2.mono e3) R3 (PostE.evo e3 q2) fun z' s3 v3 H4 μ4 e4 hE4 R4 r4 q4 => by
            obtain ⟨w', hw', k'⟩ := ofE q4
            exact hs' H4 μ4 Z s3 y z' w' v v3 Q R4 ((r2.mono e3).mono e4) r4 hw' k'
        | false =>
          rw [if_neg Bool.false_ne_true]
          exact okE R3 (w := .bl false) rfl (PostE.evo e3 q2)
      | _ => exact q2.elim
def mTest (f : FE) : FT := fun ρ s => (f ρ s).bind fun x s1 => match x with
  | .bl b => .ok b s1
  | _ => .no
theorem mt_of {e : Expr} (h : ∀ (t : TE), PE X e t → PT X e (tTest t)) (ha : ME X Γ W e f) : MT X Γ W e (mTest f) :=
  PT.imp (h _ ha) fun σ H Q ⟨μ, Z, ρ, s, hE, hR, q⟩ => eT hE hR q fun x s1 u H1 μ1 e1 hE1 R1 r1 q1 => by
    cases x with
    | bl b => exact ⟨b, r1, okT R1 q1⟩
    | _ => exact q1.elim
theorem mt_val {e : Expr} (ha : ME X Γ W e f) (he : ∀ whole, isTrue e X.env whole = (do let v ← whole; standAt e.pos; holding [v] (truthy v)) := by intro _; rfl) : MT X Γ W e (mTest f) :=
  mt_of (fun t h => pt_val h he) ha
theorem mt_cmp {op : CmpOp} {r : R2} {o : O2} (ho : OpR X (compareOp op) r) (hs : Op2 Γ r o) (hm : behindInMarks op b = false) (ha : ME X Γ W a f) (hb : ME X Γ W b g) : MT X Γ W (.Compare a [op] [b] pos) (mTest (mBin o f g)) :=
  PT.imp (pt_cmpR ho ha hb hm) fun σ H Q ⟨μ, Z, ρ, s, hE, hR, q⟩ => by
    have q' : PostT Γ W H μ Z σ Q ((f ρ s).bind fun x s1 => (g ρ s1).bind fun y s2 => (R.of (o s2 x y) s2).bind fun x s1 => match x with
      | .bl b => .ok b s1
      | _ => .no) := by
      unfold mTest mBin at q
      revert q
      cases f ρ s with
      | ok x s1 =>
        dsimp only [R.bind]
        cases g ρ s1 <;> exact id
      | er x s1 => exact id
      | no => exact id
    exact eT hE hR q' fun x s1 u H1 μ1 e1 hE1 R1 r1 q1 => eT hE1 R1 q1 fun y s2 v H2 μ2 e2 hE2 R2 r2 q2 => by
      cases hw : o s2 x y with
      | none => rw [hw] at q2; exact q2.elim
      | some w =>
        rw [hw] at q2
        refine hs H2 μ2 Z s2 x y w u v _ R2 (r1.mono e2) r2 hw fun z H3 e3 R3 r3 => ?_
        cases w with
        | bl k => exact ⟨k, r3, okT R3 (PostT.evo e3 q2)⟩
        | _ => exact q2.elim
def mAnd (t u : FT) : FT := fun ρ s => (t ρ s).bind fun c s1 => if c = true then u ρ s1 else .ok false s1
def mOr (t u : FT) : FT := fun ρ s => (t ρ s).bind fun c s1 => if c = true then .ok true s1 else u ρ s1
def mNot (t : FT) : FT := fun ρ s => (t ρ s).bind fun c s1 => .ok (!c) s1
variable {t u : FT} {rest : List Expr}
theorem mw_or1 (ha : MT X Γ W a t) : MW X Γ W (.BoolOp .Or [a] pos) t := pw_or1 ha
theorem ifT {H : Hp} {μ : Mu} {Z : Zs} {σ : L2.St} {ρ : Env} {s : Sto} {Q : Bool → Hp → Prop} {v : FT} (hE : RE Γ H μ Z ρ σ) (hR : Rep Γ H μ Z s) (q : PostT Γ W H μ Z σ Q (v ρ s)) : rdT Γ W v σ H Q := ⟨μ, Z, ρ, s, hE, hR, q⟩
theorem ifE {H : Hp} {μ : Mu} {Z : Zs} {σ : L2.St} {ρ : Env} {s : Sto} {Q : VK} {v : FE} (hE : RE Γ H μ Z ρ σ) (hR : Rep Γ H μ Z s) (q : PostE Γ W H μ Z σ Q (v ρ s)) : rdE Γ W v σ H Q := ⟨μ, Z, ρ, s, hE, hR, q⟩
theorem mw_or (ha : MT X Γ W a t) (hb : MW X Γ W (.BoolOp .Or (b :: rest) pos) u) : MW X Γ W (.BoolOp .Or (a :: b :: rest) pos) (mOr t u) :=
  PW.imp (pw_or ha hb) fun σ H Q ⟨μ, Z, ρ, s, hE, hR, q⟩ => tT hE hR q fun c s1 H1 μ1 e1 hE1 R1 q1 => by
    cases c with
    | true => rw [if_pos rfl] at q1 ⊢; exact okT R1 q1
    | false => rw [if_neg Bool.false_ne_true] at q1 ⊢; exact ifT hE1 R1 q1
theorem mt_w {e : Expr} (h : MW X Γ W e t) : MT X Γ W e t := PW.pt h
theorem mt_not (ha : MT X Γ W a t) : MT X Γ W (.UnaryOp .Not a pos) (mNot t) :=
  PT.imp (pt_not ha) fun σ H Q ⟨μ, Z, ρ, s, hE, hR, q⟩ => tT hE hR q fun c s1 H1 μ1 e1 hE1 R1 q1 => okT R1 q1
/-- and, or, not as values: bools -/
def mAndV (f g : FE) : FE := fun ρ s => (f ρ s).bind fun x s1 => match x with
  | .bl true => g ρ s1
  | .bl false => .ok (.bl false) s1
  | _ => .no
def mOrV (f g : FE) : FE := fun ρ s => (f ρ s).bind fun x s1 => match x with
  | .bl false => g ρ s1
  | .bl true => .ok (.bl true) s1
  | _ => .no
def mNotV (f : FE) : FE := fun ρ s => (f ρ s).bind fun x s1 => match x with
  | .bl c => .ok (.bl (!c)) s1
  | _ => .no
theorem me_one {op} (h : ME X Γ W a f) : ME X Γ W (.BoolOp op [a] pos) f := pe_one h
theorem me_and (ha : ME X Γ W a f) (hb : ME X Γ W (.BoolOp .And (b :: rest) pos) g) : ME X Γ W (.BoolOp .And (a :: b :: rest) pos) (mAndV f g) :=
  PE.imp (pe_and ha hb) fun σ H Q ⟨μ, Z, ρ, s, hE, hR, q⟩ => eE hE hR q fun x s1 u H1 μ1 e1 hE1 R1 r1 q1 => by
    cases x with
    | bl c =>
      refine ⟨c, r1, ?_⟩
      cases c with
      | true => rw [if_pos rfl]; exact ifE hE1 R1 q1
      | false => rw [if_neg Bool.false_ne_true]; exact okE (w := .bl false) R1 rfl q1
    | _ => exact q1.elim
def mIf (t : FT) (f g : FE) : FE := fun ρ s => (t ρ s).bind fun c s1 => if c = true then f ρ s1 else g ρ s1
theorem me_if {c : Expr} (hc : MT X Γ W c t) (ha : ME X Γ W a f) (hb : ME X Γ W b g) : ME X Γ W (.IfExp c a b pos) (mIf t f g) :=
  PE.imp (pe_ifExp hc ha hb) fun σ H Q ⟨μ, Z, ρ, s, hE, hR, q⟩ => tE hE hR q fun c s1 H1 μ1 e1 hE1 R1 q1 => by
    cases c with
    | true => rw [if_pos rfl] at q1 ⊢; exact ifE hE1 R1 q1
    | false => rw [if_neg Bool.false_ne_true] at q1 ⊢; exact ifE hE1 R1 q1
def mNil : FA := fun _ s => .ok [] s
def mCons (f : FE) (g : FA) : FA := fun ρ s => (f ρ s).bind fun x s1 => (g ρ s1).bind fun xs s2 => .ok (x :: xs) s2
theorem ma_nil : MA X Γ W [] mNil := PA.imp pa_nil fun σ H Q ⟨μ, Z, ρ, s, hE, hR, q⟩ => q _ H μ .refl hR rfl
theorem ma_cons {e : Expr} {es : List Expr} {g : FA} (ha : ME X Γ W e f) (hr : MA X Γ W es g) (hs : starEach (e :: es) X.env = (false, eval e X.env) :: starEach es X.env := by rfl) : MA X Γ W (e :: es) (mCons f g) :=
  PA.imp (pa_cons ha hr hs) fun σ H Q ⟨μ, Z, ρ, s, hE, hR, q⟩ => eA hE hR q fun x s1 u H1 μ1 e1 hE1 R1 r1 q1 => aA hE1 R1 q1 fun ws s2 vs H2 μ2 e2 hE2 R2 r2 q2 =>
    q2 _ H2 μ2 .refl R2 (RVs.cons (r1.mono e2) r2)
def mTup (g : FA) : FE := fun ρ s => (g ρ s).bind fun ws s1 => if ws.length ≤ lim then .ok (.tup ws) s1 else .no
def mLst (g : FA) : FE := fun ρ s => (g ρ s).bind fun ws s1 => if ws.length ≤ lim then .ok (.lst ws) s1 else .no
/-- a list that will be changed: an object of the store -/
def mLstM (g : FA) : FE := fun ρ s => (g ρ s).bind fun ws s1 => if ws.length ≤ lim then .ok (.ref s1.length) (s1 ++ [.lst ws]) else .no
theorem lim_ok {n : Nat} (h : n ≤ lim) : n ≤ sizeLine := Nat.le_trans h (by rw [sizeLine_eq]; decide)
theorem lim_lt {n : Nat} (h : n ≤ lim) : n < sizeLine := Nat.lt_of_le_of_lt h (by rw [sizeLine_eq]; decide)
section
variable {H : Hp} {μ : Mu} {Z : Zs} {s : Sto} {p : Addr} {ws : List Dv} {vs : List V}
theorem new_tup (hR : Rep Γ H μ Z s) (hp : H p = none) (r : RVs Γ H μ Z ws vs) : RV Γ (upd H p (.tup vs)) μ Z (.tup ws) (.ref p) :=
  ⟨p, vs, rfl, .inl ⟨.inl upd_same, hR.fz hp⟩, r.mono (Evo.laid hp)⟩
theorem new_lst (hR : Rep Γ H μ Z s) (hp : H p = none) (r : RVs Γ H μ Z ws vs) : RV Γ (upd H p (.lst vs)) μ Z (.lst ws) (.ref p) :=
  ⟨p, vs, rfl, upd_same, hR.fz hp, r.mono (Evo.laid hp)⟩
/-- a new object of the store -/
def ext (μ : Mu) (n : Nat) (p : Addr) : Mu := fun m => if m = n then some p else μ m
theorem Evo.ext {o : HO} (hp : H p = none) (hn : μ n = none) : Evo H μ (upd H p o) (ext μ n p) where
  keep := fun a o h _ => by rw [upd_ne (ne_of_none h hp)]; exact h
  mu := fun m a h => by
    unfold MP.ext
    rw [if_neg fun e => by rw [e, hn] at h; cases h]
    exact h
  new := fun m a h => by
    unfold MP.ext at h
    split at h
    · cases h; exact .inr hp
    · exact .inl h
  stay := fun m a h q => by
    by_cases e : a = p
    · subst e; exact absurd hp q
    · rw [upd_ne e]; exact q
theorem Rep.mu_new (hR : Rep Γ H μ Z s) : μ s.length = none := by
  cases e : μ s.length with
  | none => rfl
  | some a => exact absurd (hR.dom _ _ e) (Nat.lt_irrefl _)
theorem RO.mono' {a : Addr} {o : Ob} {H' : Hp} {μ' : Mu} (e : Evo H μ H' μ') (q : H' a = H a) (h : RO Γ H μ Z a o) : RO Γ H' μ' Z a o := by
  cases o with
  | lst ws =>
    obtain ⟨xs, h4, h5⟩ := h
    exact ⟨xs, q.trans h4, h5.mono e⟩
  | dct kws =>
    obtain ⟨kvs, h4, h5, h6⟩ := h
    exact ⟨kvs, q.trans h4, h5, h6.mono e⟩
  | dtt fr kws =>
    obtain ⟨kvs, h4, h5, h6, h7⟩ := h
    exact ⟨kvs, h4.eq q, h5, h6.mono e, h7.mono e⟩
  | obj c fs =>
    obtain ⟨dx, kvs, h4, h5, h6⟩ := h
    exact ⟨dx, kvs, q.trans h4, h5, h6.mono e⟩
  | tab m y => exact ⟨h.1, tab_imp q (fun c e1 e2 => ⟨e.keep _ _ e1 e2.1, e.fz (by rw [e1]; intro z; cases z) e2⟩) h.2⟩
theorem Rep.push (hR : Rep Γ H μ Z s) (hp : H p = none) {o : HO} {ob : Ob} (ho : RO Γ (upd H p o) (MP.ext μ s.length p) Z p ob) : Rep Γ (upd H p o) (MP.ext μ s.length p) Z (s ++ [ob]) := by
  have ev : Evo H μ (upd H p o) (MP.ext μ s.length p) := Evo.ext hp hR.mu_new
  refine ⟨fun n o' q => ?_, fun n m a h1 h2 => ?_, fun n a h => ?_, fun a q => ev.alive (hR.za a q)⟩
  · by_cases hn : n = s.length
    · subst hn
      rw [List.getElem?_append_right (Nat.le_refl _)] at q
      simp at q
      subst q
      exact ⟨p, by unfold MP.ext; rw [if_pos rfl], fun z => hR.za p z hp, ho⟩
    · have hl : n < s.length := by
        have := (List.getElem?_eq_some_iff.mp q).1
        rw [List.length_append, List.length_singleton] at this
        omega
      rw [List.getElem?_append_left hl] at q
      obtain ⟨a, h1, h2, h3⟩ := hR.at n o' q
      exact ⟨a, ev.mu _ _ h1, h2, h3.mono' ev (upd_ne fun e => hR.alive h1 (e ▸ hp))⟩
  · unfold MP.ext at h1 h2
    split at h1 <;> split at h2
    · rename_i e1 e2; rw [e1, e2]
    · cases h1; exact absurd hp (hR.alive h2)
    · cases h2; exact absurd hp (hR.alive h1)
    · exact hR.inj _ _ _ h1 h2
  · unfold MP.ext at h
    rw [List.length_append, List.length_singleton]
    split at h
    · omega
    · have := hR.dom _ _ h
      omega
end
theorem me_tup {es : List Expr} {g : FA} {x1} (h : MA X Γ W es g) : ME X Γ W (.Tuple es x1 pos) (mTup g) :=
  PE.imp (pe_tup h) fun σ H Q ⟨μ, Z, ρ, s, hE, hR, q⟩ => aE hE hR q fun ws s1 vs H1 μ1 e1 hE1 R1 r1 q1 => by
    split at q1
    · rename_i hl
      exact ⟨by rw [r1.len]; exact lim_ok hl, fun p hp => newE R1 hp (new_tup R1 hp r1) q1⟩
    · exact q1.elim
theorem me_lst {es : List Expr} {g : FA} (h : MA X Γ W es g) : ME X Γ W (.List es pos) (mLst g) :=
  PE.imp (pe_lst h) fun σ H Q ⟨μ, Z, ρ, s, hE, hR, q⟩ => aE hE hR q fun ws s1 vs H1 μ1 e1 hE1 R1 r1 q1 => by
    split at q1
    · rename_i hl
      exact ⟨by rw [r1.len]; exact lim_ok hl, fun p hp => newE R1 hp (new_lst R1 hp r1) q1⟩
    · exact q1.elim
theorem me_lstM {es : List Expr} {g : FA} (h : MA X Γ W es g) : ME X Γ W (.List es pos) (mLstM g) :=
  PE.imp (pe_lst h) fun σ H Q ⟨μ, Z, ρ, s, hE, hR, q⟩ => aE hE hR q fun ws s1 vs H1 μ1 e1 hE1 R1 r1 q1 => by
    split at q1
    · rename_i hl
      refine ⟨by rw [r1.len]; exact lim_ok hl, fun p hp => ?_⟩
      have ev : Evo H1 μ1 (upd H1 p (.lst vs)) (ext μ1 s1.length p) := Evo.ext hp R1.mu_new
      exact q1 _ _ _ ev (R1.push hp ⟨vs, upd_same, r1.mono ev⟩) ⟨p, rfl, by unfold ext; rw [if_pos rfl]⟩
    · exact q1.elim
end
end MP
set_option Elab.async false
set_option linter.all false
set_option maxRecDepth 100000
set_option maxHeartbeats 4000000
namespace MP
open PySem PySem.Spec PyProof.Rows L2
theorem tuple_mul1 (l : Addr) (items : Array Value) (n : Nat) (dd : Option Addr) (sl : Array (Option Value)) (x : Int) (u : Tok) (c0 : (decide (x < -(2 ^ 63)) || decide (x ≥ 2 ^ 63)) = false) (c1 : (items.isEmpty || x == 1) = true) :
    Meets (Builtin.«tuple.__mul__» ⟨[.ref l, .int x u], []⟩) (fun _ R s => s.heap.get? l = some { cls := .type "tuple", dict := dd, data := .seq items n, slots := sl } ∧
      R (.ok (.ret (Value.ref l))) s) :=
  .of_wp fun prog w A R s h => by
    obtain ⟨hp, g, d, tk, os⟩ := s
    obtain ⟨hl, h⟩ := h
    have f1 := AutoSeq1.idx_int
    wp_walk using wpAny_loadPart' hl
    repeat (first
      | (refine wpAny_ite_false (decide_eq_false (by rw [c0]; exact Bool.false_ne_true)) ?_; wp_walk using wpAny_loadPart' hl)
      | (refine wpAny_ite_true (decide_eq_true c1) ?_; wp_walk using wpAny_loadPart' hl))
    exact ⟨_, rfl, h⟩
theorem tuple_mul0 (l : Addr) (items : Array Value) (n : Nat) (dd : Option Addr) (sl : Array (Option Value)) (x : Int) (u : Tok) (c0 : (decide (x < -(2 ^ 63)) || decide (x ≥ 2 ^ 63)) = false) (c1 : (items.isEmpty || x == 1) = false) (c2 : (decide (x ≤ 0) || items.isEmpty) = true) :
    Meets (Builtin.«tuple.__mul__» ⟨[.ref l, .int x u], []⟩) (fun _ R s => s.heap.get? l = some { cls := .type "tuple", dict := dd, data := .seq items n, slots := sl } ∧
      R (.ok (.ret (Value.ref s.heap.objs.size))) { s with heap := s.heap.push { cls := Value.type "tuple", data := Data.seq #[] } }) :=
  .of_wp fun prog w A R s h => by
    obtain ⟨hp, g, d, tk, os⟩ := s
    obtain ⟨hl, h⟩ := h
    have f1 := AutoSeq1.idx_int
    wp_walk using wpAny_loadPart' hl
    repeat (first
      | (refine wpAny_ite_false (decide_eq_false (by rw [c0]; exact Bool.false_ne_true)) ?_; wp_walk using wpAny_loadPart' hl)
      | (refine wpAny_ite_false (decide_eq_false (by rw [c1]; exact Bool.false_ne_true)) ?_; wp_walk using wpAny_loadPart' hl)
      | (refine wpAny_ite_true (decide_eq_true c2) ?_; wp_walk using wpAny_loadPart' hl))
    exact ⟨_, rfl, h⟩
theorem tuple_mulN (l : Addr) (items : Array Value) (n : Nat) (dd : Option Addr) (sl : Array (Option Value)) (x : Int) (u : Tok) (c0 : (decide (x < -(2 ^ 63)) || decide (x ≥ 2 ^ 63)) = false) (c1 : (items.isEmpty || x == 1) = false) (c2 : (decide (x ≤ 0) || items.isEmpty) = false)
    (c3 : ¬ ((items.size : Nat) : Int) * x > (2 ^ 63 - 1) / 8) (c4 : Builtin.Tuple.tupleTooMany (((items.size : Nat) : Int) * x) = false) (hsz : (List.foldl (fun x1 x2 => x1 ++ x2) #[] (List.replicate x.toNat items)).size ≤ sizeLine) :
    Meets (Builtin.«tuple.__mul__» ⟨[.ref l, .int x u], []⟩) (fun _ R s => s.heap.get? l = some { cls := .type "tuple", dict := dd, data := .seq items n, slots := sl } ∧
      R (.ok (.ret (Value.ref s.heap.objs.size))) { s with heap := s.heap.push { cls := Value.type "tuple", data := Data.seq (List.foldl (fun x1 x2 => x1 ++ x2) #[] (List.replicate x.toNat items)) }, toks := s.toks }) := L2.tuple_mulW l items n dd sl x u c0 c1 c2 c3 c4 hsz
def rRepA (K : PySem.W.Frag) : R2 := fun x y H Q => ∃ l k xs, x = .ref l ∧ y = .int k ∧ SqT K H l xs ∧ -(2 ^ 63) ≤ k ∧ k < 2 ^ 63 ∧ xs.length * k.toNat ≤ 16000000 ∧
  (xs = [] ∨ k = 1 → Q (.ref l) H) ∧ (¬ (xs = [] ∨ k = 1) → ∀ p, H p = none → Q (.ref p) (upd H p (.tup (List.replicate k.toNat xs).flatten)))
section
variable {X : Cx}
theorem op_repA : OpR X (binaryOp .Mult) (rRepA X.K) := by
  intro pins s σ H x y v u Q I rx ry h
  obtain ⟨l, k, xs, rfl, rfl, hT, h1, h2, hz, qs, qn⟩ := h
  cases rx
  obtain ⟨t, rfl⟩ := ry
  obtain ⟨its, r, ⟨⟨cls, dd, data, sl⟩, ho, hc, n, hd⟩, hs⟩ := I.tuple hT
  simp only at hc hd
  subst hc hd
  have hle : its.length = xs.length := r.length.symm
  have hsz0 : its.toArray.size = xs.length := by rw [List.size_toArray, hle]
  have he : (its.toArray.isEmpty = true) ↔ xs = [] := by
    rw [← List.length_eq_zero_iff (l := xs), ← hle]
    clear hT r ho hs hle hsz0 qs qn hz
    cases its with
    | nil => exact ⟨fun _ => rfl, fun _ => rfl⟩
    | cons a b => exact ⟨fun z => (Bool.false_ne_true z).elim, fun z => (Nat.succ_ne_zero _ z).elim⟩
  have c0 : (decide (k < -(2 ^ 63)) || decide (k ≥ 2 ^ 63)) = false := by
    clear he qs qn
    rw [decide_eq_false (Int.not_lt.mpr h1), decide_eq_false (Int.not_le.mpr h2)] <;> rfl
  by_cases hsame : xs = [] ∨ k = 1
  · have c1 : (its.toArray.isEmpty || k == 1) = true := by
      rw [Bool.or_eq_true]
      rcases hsame with z | z
      · exact .inl (he.mpr z)
      · exact .inr (beq_iff_eq.mpr z)
    refine wpAny_binaryOp_repeat_ref (T := "tuple") (U := "int") (by decide) ⟨_, ho, rfl⟩ (fun s' => typeIs_int s' k t) noFill_tuple_mul F.fills_int_mul F.slot_int_rmul repeat_tuple F.slot_int_index.lookup
      (call_meets F.slot_int_rmul (typeIs_int s k t) F.entry_int_rmul (F.args_int_rmul_2 _ _) (int_rmul_tuple k t l its.toArray n dd sl)
        ⟨ho, rfl, ⟨_, ho, rfl⟩, call_meets F.slot_tuple_mul ⟨_, ho, rfl⟩ F.entry_tuple_mul (F.args_tuple_mul_2 _ _) (tuple_mul1 l its.toArray n dd sl k t c0 c1) ⟨ho, ?_⟩⟩)
    exact ⟨.ref l, H, I, rfl, qs hsame⟩
  · have hx : xs ≠ [] := fun z => hsame (.inl z)
    have hk : k ≠ 1 := fun z => hsame (.inr z)
    have hi : its.toArray.isEmpty = false := by
      cases e : its.toArray.isEmpty with
      | false => rfl
      | true => exact absurd (he.mp e) hx
    have c1 : (its.toArray.isEmpty || k == 1) = false := by
      rw [hi, Bool.false_or]
      exact beq_eq_false_iff_ne.mpr hk
    by_cases hk0 : k ≤ 0
    · have c2 : (decide (k ≤ 0) || its.toArray.isEmpty) = true := by rw [decide_eq_true hk0, Bool.true_or]
      have q := qn hsame
      have hk' : k.toNat = 0 := by omega
      rw [hk'] at q
      refine wpAny_binaryOp_repeat_ref (T := "tuple") (U := "int") (by decide) ⟨_, ho, rfl⟩ (fun s' => typeIs_int s' k t) noFill_tuple_mul F.fills_int_mul F.slot_int_rmul repeat_tuple F.slot_int_index.lookup
        (call_meets F.slot_int_rmul (typeIs_int s k t) F.entry_int_rmul (F.args_int_rmul_2 _ _) (int_rmul_tuple k t l its.toArray n dd sl)
          ⟨ho, rfl, ⟨_, ho, rfl⟩, call_meets F.slot_tuple_mul ⟨_, ho, rfl⟩ F.entry_tuple_mul (F.args_tuple_mul_2 _ _) (tuple_mul0 l its.toArray n dd sl k t c0 c1 c2) ⟨ho, ?_⟩⟩)
      refine ⟨.ref s.heap.objs.size, _, I.laid (t' := s.toks) (o := .tup []) (fun b ob q => Heap.get?_push_of_some _ q) (Nat.le_refl _) ?_, rfl, q _ (I.hok.fresh (Nat.le_refl _))⟩
      exact ⟨Nat.zero_le _, [], .nil, IsTup.new _ _⟩
    · have c2 : (decide (k ≤ 0) || its.toArray.isEmpty) = false := by
        rw [hi, Bool.or_false]
        exact decide_eq_false hk0
      have hkk : (k.toNat : Int) = k := Int.toNat_of_nonneg (by omega)
      have hm : ((its.toArray.size : Nat) : Int) * k ≤ 16000000 := by
        have z1 : ((xs.length * k.toNat : Nat) : Int) ≤ ((16000000 : Nat) : Int) := Int.ofNat_le.mpr hz
        rw [Int.natCast_mul, hkk] at z1
        rw [hsz0]
        exact z1
      have c4 : Builtin.Tuple.tupleTooMany (((its.toArray.size : Nat) : Int) * k) = false := by
        unfold Builtin.Tuple.tupleTooMany
        rw [sizeLine_eq]
        exact decide_eq_false (by omega)
      have flen : (List.replicate k.toNat its).flatten.length ≤ sizeLine := by
        rw [PyProof.Rows.lm_len_rep_flat, hle, sizeLine_eq, Nat.mul_comm]
        omega
      refine wpAny_binaryOp_repeat_ref (T := "tuple") (U := "int") (by decide) ⟨_, ho, rfl⟩ (fun s' => typeIs_int s' k t) noFill_tuple_mul F.fills_int_mul F.slot_int_rmul repeat_tuple F.slot_int_index.lookup
        (call_meets F.slot_int_rmul (typeIs_int s k t) F.entry_int_rmul (F.args_int_rmul_2 _ _) (int_rmul_tuple k t l its.toArray n dd sl)
          ⟨ho, rfl, ⟨_, ho, rfl⟩, call_meets F.slot_tuple_mul ⟨_, ho, rfl⟩ F.entry_tuple_mul (F.args_tuple_mul_2 _ _) (tuple_mulN l its.toArray n dd sl k t c0 c1 c2 (by omega) c4 (by rw [size_rep, List.size_toArray]; exact flen)) ⟨ho, ?_⟩⟩)
      rw [size_rep]
      refine ⟨.ref s.heap.objs.size, _, I.laid (t' := s.toks) (o := .tup (List.replicate k.toNat xs).flatten) (fun b ob q => Heap.get?_push_of_some _ q) (Nat.le_refl _) ?_, rfl, qn hsame _ (I.hok.fresh (Nat.le_refl _))⟩
      exact ⟨by rw [PyProof.Rows.lm_len_rep_flat, sizeLine_eq, Nat.mul_comm]; omega, _, r.rep k.toNat, IsTup.new _ _⟩
end
def lstOf (s : Sto) : Dv → Option (List Dv)
  | .lst ws => some ws
  | .ref n => match s[n]? with
    | some (.lst ws) => some ws
    | _ => none
  | _ => none
/-- a sequence that is read -/
def seqOf (s : Sto) : Dv → Option (List Dv)
  | .tup ws => some ws
  | .sq ws => some ws
  | w => lstOf s w
def tupOf : Dv → Option (List Dv)
  | .tup ws => some ws
  | _ => none
def flat : Dv → Option V
  | .non => some .non | .bl b => some (.bl b) | .int i => some (.int i) | .str x => some (.str x)
  | _ => none
mutual
def toD0 : Dv → Option PyData
  | .non => some .none | .bl b => some (.bool b) | .int i => some (.int i) | .str x => some (.str x)
  | .tup ws => (toDs ws).map .tuple
  | .lst ws => (toDs ws).map .list
  | .sq ws => (toDs ws).map .list
  | _ => none
def toDs : List Dv → Option (List PyData)
  | [] => some []
  | w :: ws => match toD0 w, toDs ws with
    | some d, some ds => some (d :: ds)
    | _, _ => none
end
def toD (s : Sto) : Dv → Option PyData
  | .ref n => match s[n]? with
    | some (.lst ws) => (toDs ws).map .list
    | _ => none
  | w => toD0 w
section
variable {Γ : Ct} {H : Hp} {μ : Mu} {Z : Zs} {s : Sto}
theorem lstOf_ok {w : Dv} {v : V} {ws : List Dv} (hR : Rep Γ H μ Z s) (r : RV Γ H μ Z w v) (e : lstOf s w = some ws) : ∃ a xs, v = .ref a ∧ H a = some (.lst xs) ∧ RVs Γ H μ Z ws xs := by
  cases w with
  | lst us =>
    cases e
    obtain ⟨a, xs, h1, h2, _, h4⟩ := r
    exact ⟨a, xs, h1, h2, h4⟩
  | ref n =>
    simp only [lstOf] at e
    split at e
    · rename_i us q
      cases e
      obtain ⟨a, h1, h2⟩ := r
      obtain ⟨b, h3, _, xs, h4, h5⟩ := hR.at n _ q
      rw [h2] at h3
      cases h3
      exact ⟨a, xs, h1, h4, h5⟩
    · cases e
  | _ => cases e
theorem seqOf_ok {w : Dv} {v : V} {ws : List Dv} (hR : Rep Γ H μ Z s) (r : RV Γ H μ Z w v) (e : seqOf s w = some ws) : ∃ a xs, v = .ref a ∧ (SqL Γ.K H a xs ∨ SqT Γ.K H a xs) ∧ RVs Γ H μ Z ws xs := by
  cases w with
  | tup us =>
    cases e
    obtain ⟨a, xs, h1, h2, h3⟩ := r
    exact ⟨a, xs, h1, .inr h2.sq, h3⟩
  | sq us =>
    cases e
    obtain ⟨a, xs, h1, h2, h3⟩ := r
    exact ⟨a, xs, h1, .inl h2.sq, h3⟩
  | lst us =>
    obtain ⟨a, xs, h1, h2, h3⟩ := lstOf_ok hR r (show lstOf s (.lst us) = some ws from e)
    exact ⟨a, xs, h1, .inl (SqL.of h2), h3⟩
  | ref n =>
    obtain ⟨a, xs, h1, h2, h3⟩ := lstOf_ok hR r (show lstOf s (.ref n) = some ws from e)
    exact ⟨a, xs, h1, .inl (SqL.of h2), h3⟩
  | _ => cases e
theorem flat_ok {w : Dv} {v u : V} (r : RV Γ H μ Z w v) (e : flat w = some u) : v = u := by
  cases w <;> first
    | (cases e; exact r)
    | cases e
mutual
theorem toD0_ok : ∀ (w : Dv) {v : V} {d : PyData}, RV Γ H μ Z w v → toD0 w = some d → Dp Γ.K H v d
  | .non, _, _, r, e => by cases e; rw [show _ = _ from r]; exact .non
  | .bl b, _, _, r, e => by cases e; rw [show _ = _ from r]; exact .bl b
  | .int b, _, _, r, e => by cases e; rw [show _ = _ from r]; exact .int b
  | .str b, _, _, r, e => by cases e; rw [show _ = _ from r]; exact .str b
  | .tup ws, _, d, r, e => by
    obtain ⟨a, xs, rfl, h2, h3⟩ := r
    simp only [toD0] at e
    cases q : toDs ws with
    | none => rw [q] at e; cases e
    | some ds => rw [q] at e; cases e; exact .tup h2.sq (toDs_ok ws h3 q)
  | .sq ws, _, d, r, e => by
    obtain ⟨a, xs, rfl, h2, h3⟩ := r
    simp only [toD0] at e
    cases q : toDs ws with
    | none => rw [q] at e; cases e
    | some ds => rw [q] at e; cases e; exact .lst h2.sq (toDs_ok ws h3 q)
  | .lst ws, _, d, r, e => by
    obtain ⟨a, xs, rfl, h2, _, h3⟩ := r
    simp only [toD0] at e
    cases q : toDs ws with
    | none => rw [q] at e; cases e
    | some ds => rw [q] at e; cases e; exact .lst (SqL.of h2) (toDs_ok ws h3 q)
  | .ty _, _, _, _, e => by cases e
  | .cl _, _, _, _, e => by cases e
  | .ref _, _, _, _, e => by cases e
  | .dct _ _, _, _, _, e => by cases e
  | .dtt _ _, _, _, _, e => by cases e
  | .exc _ _ _, _, _, _, e => by cases e
  | .exn _, _, _, _, e => by cases e
  | .clo _ _ _ _ _, _, _, _, e => by cases e
theorem toDs_ok : ∀ (ws : List Dv) {vs : List V} {ds : List PyData}, RVs Γ H μ Z ws vs → toDs ws = some ds → DpAll Γ.K H vs ds
  | [], _, _, r, e => by cases e; rw [show _ = _ from r]; exact .nil
  | w :: ws, _, _, r, e => by
    obtain ⟨x, xs, rfl, h2, h3⟩ := r
    simp only [toDs] at e
    split at e
    · rename_i d ds q1 q2
      cases e
      exact .cons (toD0_ok w h2 q1) (toDs_ok ws h3 q2)
    · cases e
end
theorem toD_ok {w : Dv} {v : V} {d : PyData} (hR : Rep Γ H μ Z s) (r : RV Γ H μ Z w v) (e : toD s w = some d) : Dp Γ.K H v d := by
  cases w with
  | ref n =>
    simp only [toD] at e
    split at e
    · rename_i us q
      obtain ⟨a, h1, h2⟩ := r
      obtain ⟨b, h3, _, xs, h4, h5⟩ := hR.at n _ q
      rw [h2] at h3
      cases h3
      subst h1
      cases q2 : toDs us with
      | none => rw [q2] at e; cases e
      | some ds => rw [q2] at e; cases e; exact .lst (SqL.of h4) (toDs_ok us h5 q2)
    · cases e
  | _ => exact toD0_ok _ r e
end
def cm (i j : Int) : Bool := decide ((-(2 ^ 64) < i ∧ i < 2 ^ 64) ∨ (-(2 ^ 64) < j ∧ j < 2 ^ 64))
theorem cm_ok {i j : Int} (h : cm i j = true) : CMul i j := (of_decide_eq_true h : (-(2 ^ 64) < i ∧ i < 2 ^ 64) ∨ (-(2 ^ 64) < j ∧ j < 2 ^ 64))
def addD : O2 := fun s x y => match x, y with
  | .int i, .int j => some (.int (i + j))
  | .str a, .str b => if a.length + b.length ≤ lim then some (.str (a ++ b)) else none
  | .tup a, .tup b => if a.length + b.length ≤ lim then some (.tup (a ++ b)) else none
  | x, y => match lstOf s x, lstOf s y with
    | some a, some b => if a.length + b.length ≤ lim then some (.lst (a ++ b)) else none
    | _, _ => none
def subD : O2 := fun _ x y => match x, y with
  | .int i, .int j => some (.int (i - j))
  | _, _ => none
def mulD : O2 := fun s x y => match x, y with
  | .int i, .int j => if cm i j = true then some (.int (i * j)) else none
  | .tup a, .int k => if -(2 ^ 63) ≤ k ∧ k < 2 ^ 63 ∧ a.length * k.toNat ≤ lim then some (.tup (List.replicate k.toNat a).flatten) else none
  | x, .int k => match lstOf s x with
    | some a => if -(2 ^ 63) ≤ k ∧ k < 2 ^ 63 ∧ a.length * k.toNat ≤ lim then some (.lst (List.replicate k.toNat a).flatten) else none
    | none => none
  | _, _ => none
def modD : O2 := fun _ x y => match x, y with
  | .int i, .int j => if 0 < j then some (.int (i % j)) else none
  | _, _ => none
def divD : O2 := fun _ x y => match x, y with
  | .int i, .int j => if 0 < j ∧ j < 1073741824 then some (.int (i / j)) else none
  | _, _ => none
def powD : O2 := fun _ x y => match x, y with
  | .int i, .int j => if 0 ≤ j ∧ j ≤ 1000000 ∧ i.natAbs < 2 ^ 64 then some (.int (i ^ j.toNat)) else none
  | _, _ => none
def negD : O1 := fun _ x => match x with
  | .int i => some (.int (-i))
  | _ => none
def cmpD (p : Int → Int → Bool) : O2 := fun _ x y => match x, y with
  | .int i, .int j => some (.bl (p i j))
  | _, _ => none
abbrev ltD : O2 := cmpD fun i j => decide (i < j)
abbrev leD : O2 := cmpD fun i j => decide (i ≤ j)
abbrev gtD : O2 := cmpD fun i j => decide (j < i)
abbrev geD : O2 := cmpD fun i j => decide (j ≤ i)
def eqB (s : Sto) (x y : Dv) : Option Bool := match flat x, flat y with
  | some a, some b => if scal a b = true then some (decide (a = b)) else none
  | _, _ => match toD s x, toD s y with
    | some d, some e => if SeqAt.shaped d = true ∧ SeqAt.shaped e = true then some (PyData.eqv d e) else none
    | _, _ => none
def eqD : O2 := fun s x y => (eqB s x y).map .bl
def neD : O2 := fun s x y => (eqB s x y).map fun b => .bl (!b)
def isN : Dv → Option Bool
  | .non => some true
  | .bl _ => some false | .int _ => some false | .str _ => some false | .tup _ => some false | .lst _ => some false | .sq _ => some false | .dct _ _ => some false | .dtt _ _ => some false | .exc _ _ _ => some false | .exn _ => some false | .ref _ => some false | .ty _ => some false | .cl _ => some false | .clo _ _ _ _ _ => some false
def isBl (c : Bool) : Dv → Bool
  | .bl b => b == c
  | _ => false
def isD : O2 := fun _ x y => match y with
  | .non => (isN x).map .bl
  | .bl c => some (.bl (isBl c x))
  | _ => none
def isntD : O2 := fun _ x y => match y with
  | .non => (isN x).map fun b => .bl (!b)
  | .bl c => some (.bl (!isBl c x))
  | _ => none
section
variable {Γ : Ct} {X : Cx}
abbrev rAdd (K : PySem.W.Frag) : R2 := fun x y H Q => ((rI0 fun i j => .int (i + j)) x y H Q ∨ (∃ i j, x = .str i ∧ y = .str j ∧ i.length + j.length ≤ sizeLine ∧ Q (.str (i ++ j)) H)) ∨ (rCatA K x y H Q ∨ rCat x y H Q)
theorem opAdd : OpR X (binaryOp .Add) (rAdd X.K) := OpR.or2 (OpR.or2 op_add op_add_str) (OpR.or2 op_catA op_cat)
theorem sAdd : Op2 Γ (rAdd Γ.K) addD := fun H μ Z s x y w u v Q hR r1 r2 e k => by
  unfold addD at e
  split at e
  · cases e
    exact .inl (.inl ⟨_, _, r1, r2, k _ H .refl hR rfl⟩)
  · rename_i a b
    split at e
    · rename_i hl
      cases e
      exact .inl (.inr ⟨_, _, r1, r2, lim_ok hl, k _ H .refl hR rfl⟩)
    · cases e
  · rename_i a b
    split at e
    · rename_i hl
      cases e
      obtain ⟨p, xs, h1, h2, h3⟩ := id r1
      obtain ⟨p', ys, g1, g2, g3⟩ := id r2
      refine .inr (.inl ⟨p, p', xs, ys, h1, g1, h2.sq, g2.sq, by rw [h3.len, g3.len]; exact lim_ok hl, fun z => ?_, fun z z' => ?_, fun z z' q hq => ?_⟩)
      · have hn : a = [] := by
          have := h3.len
          rw [z] at this
          exact List.eq_nil_of_length_eq_zero this.symm
        rw [hn, List.nil_append] at k
        exact k _ H .refl hR (g1 ▸ r2)
      · have hn : b = [] := by
          have := g3.len
          rw [z'] at this
          exact List.eq_nil_of_length_eq_zero this.symm
        rw [hn, List.append_nil] at k
        exact k _ H .refl hR (h1 ▸ r1)
      · exact k _ _ (Evo.laid hq) (hR.laid hq) (new_tup hR hq (h3.append g3))
    · cases e
  · split at e
    · rename_i a b q1 q2
      split at e
      · rename_i hl
        cases e
        obtain ⟨p, xs, h1, h2, h3⟩ := lstOf_ok hR r1 q1
        obtain ⟨p', ys, g1, g2, g3⟩ := lstOf_ok hR r2 q2
        exact .inr (.inr ⟨p, p', xs, ys, h1, g1, h2, g2, by rw [h3.len, g3.len]; exact lim_ok hl, fun q hq => k _ _ (Evo.laid hq) (hR.laid hq) (new_lst hR hq (h3.append g3))⟩)
      · cases e
    · cases e
theorem sSub : Op2 Γ (rI0 fun i j => .int (i - j)) subD := fun H μ Z s x y w u v Q hR r1 r2 e k => by
  unfold subD at e
  split at e
  · cases e
    exact ⟨_, _, r1, r2, k _ H .refl hR rfl⟩
  · cases e
abbrev rMul (K : PySem.W.Frag) : R2 := fun x y H Q => (rI CMul fun i j => .int (i * j)) x y H Q ∨ (rRepA K x y H Q ∨ rRep x y H Q)
theorem opMul : OpR X (binaryOp .Mult) (rMul X.K) := OpR.or2 op_mul (OpR.or2 op_repA op_rep)
theorem flat_one {α : Type} (l : List α) : (List.replicate 1 l).flatten = l := by simp
theorem flat_nil {α : Type} (n : Nat) : (List.replicate n ([] : List α)).flatten = [] := by
  induction n with
  | zero => rfl
  | succ n ih => rw [List.replicate_succ, List.flatten_cons, ih]; rfl
theorem sMul : Op2 Γ (rMul Γ.K) mulD := fun H μ Z s x y w u v Q hR r1 r2 e k => by
  unfold mulD at e
  split at e
  · split at e
    · rename_i hc
      cases e
      exact .inl ⟨_, _, r1, r2, cm_ok hc, k _ H .refl hR rfl⟩
    · cases e
  · rename_i a n
    split at e
    · rename_i hl
      cases e
      obtain ⟨p, xs, h1, h2, h3⟩ := id r1
      refine .inr (.inl ⟨p, n, xs, h1, r2, h2.sq, hl.1, hl.2.1, by rw [h3.len]; exact hl.2.2, fun z => ?_, fun z q hq => ?_⟩)
      · have hn : (List.replicate n.toNat a).flatten = a := by
          rcases z with z | z
          · have h0 : a = [] := by
              have := h3.len
              rw [z] at this
              exact List.eq_nil_of_length_eq_zero this.symm
            rw [h0, flat_nil]
          · rw [z]
            exact flat_one a
        rw [hn] at k
        exact k _ H .refl hR (h1 ▸ r1)
      · exact k _ _ (Evo.laid hq) (hR.laid hq) (new_tup hR hq (h3.rep _))
    · cases e
  · rename_i n _ _
    split at e
    · rename_i a q1
      split at e
      · rename_i hl
        cases e
        obtain ⟨p, xs, h1, h2, h3⟩ := lstOf_ok hR r1 q1
        exact .inr (.inr ⟨p, n, xs, h1, r2, h2, hl.1, hl.2.1, by rw [h3.len]; exact lim_ok hl.2.2, fun q hq => k _ _ (Evo.laid hq) (hR.laid hq) (new_lst hR hq (h3.rep _))⟩)
      · cases e
    · cases e
  · cases e
theorem sMod : Op2 Γ (rI (fun _ j => 0 < j) fun i j => .int (i % j)) modD := fun H μ Z s x y w u v Q hR r1 r2 e k => by
  unfold modD at e
  split at e
  · split at e
    · rename_i hc
      cases e
      exact ⟨_, _, r1, r2, hc, k _ H .refl hR rfl⟩
    · cases e
  · cases e
theorem sDiv : Op2 Γ (rI CDiv fun i j => .int (i / j)) divD := fun H μ Z s x y w u v Q hR r1 r2 e k => by
  unfold divD at e
  split at e
  · split at e
    · rename_i hc
      cases e
      exact ⟨_, _, r1, r2, hc, k _ H .refl hR rfl⟩
    · cases e
  · cases e
theorem sPow : Op2 Γ (rI CPow fun i j => .int (i ^ j.toNat)) powD := fun H μ Z s x y w u v Q hR r1 r2 e k => by
  unfold powD at e
  split at e
  · split at e
    · rename_i hc
      cases e
      exact ⟨_, _, r1, r2, hc, k _ H .refl hR rfl⟩
    · cases e
  · cases e
theorem sNeg : Op1 Γ (rU fun i => .int (-i)) negD := fun H μ Z s x w u Q hR r1 e k => by
  unfold negD at e
  split at e
  · cases e
    exact ⟨_, r1, k _ H .refl hR rfl⟩
  · cases e
theorem sCmp {p : Int → Int → Bool} : Op2 Γ (rI0 fun i j => .bl (p i j)) (cmpD p) := fun H μ Z s x y w u v Q hR r1 r2 e k => by
  unfold cmpD at e
  split at e
  · cases e
    exact ⟨_, _, r1, r2, k _ H .refl hR rfl⟩
  · cases e
abbrev rEqM (K : PySem.W.Frag) : R2 := fun x y H Q => rEq x y H Q ∨ rEqD K x y H Q
abbrev rNeM (K : PySem.W.Frag) : R2 := fun x y H Q => rNe x y H Q ∨ rNeD K x y H Q
theorem opEq (hu : X.A.units + 64 < cLine) : OpR X (compareOp .Eq) (rEqM X.K) := OpR.or2 op_eq (op_eqD hu)
theorem opNe (hu : X.A.units + 64 < cLine) : OpR X (compareOp .NotEq) (rNeM X.K) := OpR.or2 op_ne (op_neD hu)
theorem sEq : Op2 Γ (rEqM Γ.K) eqD := fun H μ Z s x y w u v Q hR r1 r2 e k => by
  unfold eqD eqB at e
  split at e
  · rename_i a b q1 q2
    split at e
    · rename_i hs
      cases e
      rw [flat_ok r1 q1, flat_ok r2 q2]
      exact .inl ⟨hs, k _ H .refl hR rfl⟩
    · cases e
  · split at e
    · rename_i d d' q1 q2
      split at e
      · rename_i hs
        cases e
        exact .inr ⟨d, d', toD_ok hR r1 q1, toD_ok hR r2 q2, hs.1, hs.2, k _ H .refl hR rfl⟩
      · cases e
    · cases e
theorem sNe : Op2 Γ (rNeM Γ.K) neD := fun H μ Z s x y w u v Q hR r1 r2 e k => by
  unfold neD eqB at e
  split at e
  · rename_i a b q1 q2
    split at e
    · rename_i hs
      cases e
      rw [flat_ok r1 q1, flat_ok r2 q2]
      exact .inl ⟨hs, k _ H .refl hR rfl⟩
    · cases e
  · split at e
    · rename_i d d' q1 q2
      split at e
      · rename_i hs
        cases e
        exact .inr ⟨d, d', toD_ok hR r1 q1, toD_ok hR r2 q2, hs.1, hs.2, k _ H .refl hR rfl⟩
      · cases e
    · cases e
theorem isN_ok {H : Hp} {μ : Mu} {Z : Zs} {w : Dv} {v : V} {b : Bool} (r : RV Γ H μ Z w v) (e : isN w = some b) : decide (v = V.non) = b := by
  cases w with
  | non => cases e; rw [show v = _ from r]; rfl
  | bl _ => cases e; rw [show v = _ from r]; rfl
  | int _ => cases e; rw [show v = _ from r]; rfl
  | str _ => cases e; rw [show v = _ from r]; rfl
  | ty _ => cases e; rw [show v = _ from r]; rfl
  | cl _ => cases e; rw [show v = _ from r]; rfl
  | ref n => cases e; obtain ⟨_, h, _⟩ := r; rw [h]; rfl
  | tup _ => cases e; obtain ⟨_, _, h, _⟩ := r; rw [h]; rfl
  | lst _ => cases e; obtain ⟨_, _, h, _⟩ := r; rw [h]; rfl
  | sq _ => cases e; obtain ⟨_, _, h, _⟩ := r; rw [h]; rfl
  | dct _ _ => cases e; obtain ⟨_, _, h, _⟩ := r; rw [h]; rfl
  | dtt _ _ => cases e; obtain ⟨_, _, h, _⟩ := r; rw [h]; rfl
  | exc _ _ _ => cases e; obtain ⟨_, _, _, h, _⟩ := r; rw [h]; rfl
  | exn _ => cases e; obtain ⟨_, h, _⟩ := r; rw [h]; rfl
  | clo _ _ _ _ _ => cases e; rw [show v = _ from r.1]; rfl
theorem isBl_ok {H : Hp} {μ : Mu} {Z : Zs} {w : Dv} {v : V} {c : Bool} (r : RV Γ H μ Z w v) : decide (v = V.bl c) = isBl c w := by
  cases w with
  | non => rw [show v = _ from r]; rfl
  | bl b => rw [show v = _ from r]; cases b <;> cases c <;> rfl
  | int _ => rw [show v = _ from r]; rfl
  | str _ => rw [show v = _ from r]; rfl
  | ty _ => rw [show v = _ from r]; rfl
  | cl _ => rw [show v = _ from r]; rfl
  | ref n => obtain ⟨_, h, _⟩ := r; rw [h]; rfl
  | tup _ => obtain ⟨_, _, h, _⟩ := r; rw [h]; rfl
  | lst _ => obtain ⟨_, _, h, _⟩ := r; rw [h]; rfl
  | sq _ => obtain ⟨_, _, h, _⟩ := r; rw [h]; rfl
  | dct _ _ => obtain ⟨_, _, h, _⟩ := r; rw [h]; rfl
  | dtt _ _ => obtain ⟨_, _, h, _⟩ := r; rw [h]; rfl
  | exc _ _ _ => obtain ⟨_, _, _, h, _⟩ := r; rw [h]; rfl
  | exn _ => obtain ⟨_, h, _⟩ := r; rw [h]; rfl
  | clo _ _ _ _ _ => rw [show v = _ from r.1]; rfl
/-- x is c, c one of None, True, False -/
def rIsC (n : Bool) : R2 := fun x y H Q => (y = .non ∨ ∃ b, y = .bl b) ∧ Q (.bl (decide (x = y) != n)) H
theorem rel_bl {x : V} {v : Value} (r : RelV x v) (b : Bool) : plainIs v (.bool b) = true ∧ (v == Value.bool b) = decide (x = V.bl b) := by
  cases x with
  | bl c => cases r; cases b <;> cases c <;> exact ⟨rfl, rfl⟩
  | ref a => cases r; exact ⟨rfl, rfl⟩
  | non => cases r; exact ⟨rfl, rfl⟩
  | int i => obtain ⟨t, rfl⟩ := r; exact ⟨rfl, rfl⟩
  | str x => obtain ⟨t, rfl⟩ := r; exact ⟨rfl, rfl⟩
  | byt x => obtain ⟨t, rfl⟩ := r; exact ⟨rfl, rfl⟩
  | flt x => obtain ⟨t, rfl⟩ := r; exact ⟨rfl, rfl⟩
  | ty n => cases r; exact ⟨rfl, rfl⟩
theorem op_isC : OpR X (compareOp .Is) (rIsC false) := by
  intro pins s σ H x y v u Q I rx ry h
  obtain ⟨hy | ⟨b, hy⟩, q⟩ := h
  · subst hy
    exact op_isN pins s σ H x .non v u Q I rx ry ⟨rfl, by simpa using q⟩
  · subst hy
    cases ry
    obtain ⟨h1, h2⟩ := rel_bl rx b
    exact wpAny_is_plain h1 (fin_bl I q (by rw [h2]; simp))
theorem op_notC : OpR X (compareOp .IsNot) (rIsC true) := by
  intro pins s σ H x y v u Q I rx ry h
  obtain ⟨hy | ⟨b, hy⟩, q⟩ := h
  · subst hy
    exact op_notN pins s σ H x .non v u Q I rx ry ⟨rfl, by simpa using q⟩
  · subst hy
    cases ry
    obtain ⟨h1, h2⟩ := rel_bl rx b
    exact wpAny_isNot_plain h1 (fin_bl I q (by rw [h2]; simp))
theorem sIsC : Op2 Γ (rIsC false) isD := fun H μ Z s x y w u v Q hR r1 r2 e k => by
  unfold isD at e
  split at e
  · cases q : isN x with
    | none => rw [q] at e; cases e
    | some b =>
      rw [q] at e
      cases e
      refine ⟨.inl r2, k _ H .refl hR ?_⟩
      rw [show v = _ from r2, isN_ok r1 q]
      simp [RV]
  · rename_i c
    cases e
    refine ⟨.inr ⟨c, r2⟩, k _ H .refl hR ?_⟩
    rw [show v = _ from r2, isBl_ok r1]
    simp [RV]
  · cases e
theorem sIsntC : Op2 Γ (rIsC true) isntD := fun H μ Z s x y w u v Q hR r1 r2 e k => by
  unfold isntD at e
  split at e
  · cases q : isN x with
    | none => rw [q] at e; cases e
    | some b =>
      rw [q] at e
      cases e
      refine ⟨.inl r2, k _ H .refl hR ?_⟩
      rw [show v = _ from r2, isN_ok r1 q]
      simp [RV]
  · rename_i c
    cases e
    refine ⟨.inr ⟨c, r2⟩, k _ H .refl hR ?_⟩
    rw [show v = _ from r2, isBl_ok r1]
    simp [RV]
  · cases e
end
end MP
set_option Elab.async false
set_option linter.all false
set_option maxRecDepth 100000
set_option maxHeartbeats 4000000
namespace MP
open PySem PySem.Spec PyProof.Rows L2
section
variable {X : Cx} {Γ : Ct} {W : WX} {st : Stmt} {rest : List Stmt} {e : Expr} {f : FE} {c c' : FS} {t : FT} {pos : Pos}
def mNext : FS := fun ρ s => .nx ρ s
def mSeq (c c' : FS) : FS := fun ρ s => match c ρ s with
  | .nx ρ' s' => c' ρ' s'
  | r => r
theorem mb_nil : MB X Γ W [] mNext := PSs.imp pss_nil fun D σ H ⟨μ, Z, ρ, s, hE, hR, q⟩ => q σ H μ .refl hR hE
theorem goS {H : Hp} {μ : Mu} {Z : Zs} {σ : L2.St} {ρ : Env} {s : Sto} {D : Ends} (hE : RE Γ H μ Z ρ σ) (hR : Rep Γ H μ Z s) (q : PostS Γ W H μ Z D (c ρ s)) : rdS Γ W c D σ H := ⟨μ, Z, ρ, s, hE, hR, q⟩
/-- a statement, then what goes on -/
theorem sS {H : Hp} {μ : Mu} {Z : Zs} {σ : L2.St} {ρ : Env} {s : Sto} {D : Ends} {nx : L2.St → Hp → Prop} (hE : RE Γ H μ Z ρ σ) (hR : Rep Γ H μ Z s) (h : PostS Γ W H μ Z D (mSeq c c' ρ s))
    (hk : ∀ ρ1 s1 σ1 H1 μ1, Evo H μ H1 μ1 → RE Γ H1 μ1 Z ρ1 σ1 → Rep Γ H1 μ1 Z s1 → PostS Γ W H1 μ1 Z D (c' ρ1 s1) → nx σ1 H1) : rdS Γ W c { D with nx := nx } σ H := by
  refine ⟨μ, Z, ρ, s, hE, hR, ?_⟩
  unfold mSeq at h
  cases q : c ρ s with
  | nx ρ1 s1 =>
    rw [q] at h
    exact fun σ1 H1 μ1 ev R1 E1 => hk ρ1 s1 σ1 H1 μ1 ev E1 R1 (PostS.evo ev h)
  | bk ρ1 s1 => rw [q] at h; exact h
  | ct ρ1 s1 => rw [q] at h; exact h
  | rt w s1 => rw [q] at h; exact h
  | er x ρ1 s1 => rw [q] at h; exact h
  | no => rw [q] at h; exact h
theorem mb_cons (h1 : MS X Γ W st c) (h2 : MB X Γ W rest c') : MB X Γ W (st :: rest) (mSeq c c') :=
  PSs.imp (pss_cons h1 h2) fun D σ H ⟨μ, Z, ρ, s, hE, hR, q⟩ => sS hE hR q fun ρ1 s1 σ1 H1 μ1 _ E1 R1 q1 => goS E1 R1 q1
theorem mb_one (h1 : MS X Γ W st c) : MB X Γ W [st] c := pss_one h1
def mExpr (f : FE) : FS := fun ρ s => (f ρ s).thenC ρ fun _ s1 => .nx ρ s1
theorem ms_expr (he : ME X Γ W e f) (hs : swapsWith e none pos.line X.env = pure false := by rfl) : MS X Γ W (.Expr e pos) (mExpr f) :=
  PS.imp (ps_expr he hs) fun D σ H ⟨μ, Z, ρ, s, hE, hR, q⟩ => eS hE hR q fun x s1 v H1 μ1 _ E1 R1 _ q1 => q1 σ H1 μ1 .refl R1 E1
def mRet (f : FE) : FS := fun ρ s => (f ρ s).thenC ρ fun w s1 => .rt w s1
theorem ms_ret (he : ME X Γ W e f) : MS X Γ W (.Return (some e) pos) (mRet f) :=
  PS.imp (ps_ret he) fun D σ H ⟨μ, Z, ρ, s, hE, hR, q⟩ => eS hE hR q fun x s1 v H1 μ1 _ E1 R1 r1 q1 => q1 v H1 μ1 .refl R1 r1
def mIfS (t : FT) (c c' : FS) : FS := fun ρ s => (t ρ s).thenC ρ fun b s1 => if b = true then c ρ s1 else c' ρ s1
theorem ms_if {cond : Expr} {a b : List Stmt} (hc : MT X Γ W cond t) (ha : MB X Γ W a c) (hb : MB X Γ W b c') : MS X Γ W (.If cond a b pos) (mIfS t c c') :=
  PS.imp (ps_if hc ha hb) fun D σ H ⟨μ, Z, ρ, s, hE, hR, q⟩ => tS hE hR q fun b s1 H1 μ1 _ E1 R1 q1 => by
    cases b with
    | true => rw [if_pos rfl] at q1 ⊢; exact goS E1 R1 q1
    | false => rw [if_neg Bool.false_ne_true] at q1 ⊢; exact goS E1 R1 q1
abbrev FG := Dv → Env → Sto → Option Env
/-- a target: what it does to the names -/
def GOk (Γ : Ct) (g : TG) (fg : FG) : Prop := ∀ (H : Hp) (μ : Mu) (Z : Zs) (ρ ρ' : Env) (s : Sto) (σ : L2.St) (w : Dv) (v : V) (Q : L2.St → Hp → Prop), RE Γ H μ Z ρ σ → Rep Γ H μ Z s → RV Γ H μ Z w v → fg w ρ s = some ρ' →
  (∀ σ', RE Γ H μ Z ρ' σ' → Q σ' H) → g v σ H Q
def GsOk (Γ : Ct) (g : TGs) (fg : List Dv → Env → Sto → Option Env) : Prop := ∀ (H : Hp) (μ : Mu) (Z : Zs) (ρ ρ' : Env) (s : Sto) (σ : L2.St) (ws : List Dv) (vs : List V) (Q : L2.St → Hp → Prop), RE Γ H μ Z ρ σ → Rep Γ H μ Z s → RVs Γ H μ Z ws vs → fg ws ρ s = some ρ' →
  (∀ σ', RE Γ H μ Z ρ' σ' → Q σ' H) → g vs σ H Q
def MG (X : Cx) (Γ : Ct) (tg : Expr) (g : TG) (fg : FG) : Prop := PG X tg g ∧ GOk Γ g fg
def MGs (X : Cx) (Γ : Ct) (tg : List Expr) (g : TGs) (fg : List Dv → Env → Sto → Option Env) : Prop := PGs X tg g ∧ GsOk Γ g fg
def gN (i : Nat) : FG := fun w ρ _ => some (ρ.set i (some w))
theorem mg_name {tg : Expr} {i : Nat} (h : PG X tg (gName i)) : MG X Γ tg (gName i) (gN i) := ⟨h, fun H μ Z ρ ρ' s σ w v Q hE hR r e k => by
  cases e
  exact k _ (hE.set i r)⟩
def gs0 : List Dv → Env → Sto → Option Env := fun ws ρ _ => match ws with
  | [] => some ρ
  | _ => none
def gsC (g : FG) (gs : List Dv → Env → Sto → Option Env) : List Dv → Env → Sto → Option Env := fun ws ρ s => match ws with
  | w :: r => (g w ρ s).bind fun ρ1 => gs r ρ1 s
  | [] => none
theorem mgs_nil : MGs X Γ [] gNil gs0 := ⟨pgs_nil, fun H μ Z ρ ρ' s σ ws vs Q hE hR r e k => by
  cases ws with
  | nil => cases e; exact ⟨r, k σ hE⟩
  | cons _ _ => cases e⟩
theorem mgs_cons {tg : Expr} {tgs : List Expr} {g : TG} {gs : TGs} {fg : FG} {fgs : List Dv → Env → Sto → Option Env} (h1 : MG X Γ tg g fg) (h2 : MGs X Γ tgs gs fgs) (h : PGs X (tg :: tgs) (gCons g gs)) : MGs X Γ (tg :: tgs) (gCons g gs) (gsC fg fgs) := ⟨h, fun H μ Z ρ ρ' s σ ws vs Q hE hR r e k => by
  cases ws with
  | nil => cases e
  | cons w ws =>
    obtain ⟨x, xs, rfl, r1, r2⟩ := r
    simp only [gsC] at e
    cases q : fg w ρ s with
    | none => rw [q] at e; cases e
    | some ρ1 =>
      rw [q] at e
      exact ⟨x, xs, rfl, h1.2 H μ Z ρ ρ1 s σ w x _ hE hR r1 q fun σ1 E1 => h2.2 H μ Z ρ1 ρ' s σ1 ws xs Q E1 hR r2 e k⟩⟩
def gT (n : Nat) (gs : List Dv → Env → Sto → Option Env) : FG := fun w ρ s => match tupOf w with
  | some ws => if ws.length = n then gs ws ρ s else none
  | none => none
theorem mg_tup {tg : Expr} {K : PySem.W.Frag} {n : Nat} {gs : TGs} {fgs : List Dv → Env → Sto → Option Env} (hK : K = Γ.K) (h : PG X tg (gTup K n gs)) (h2 : GsOk Γ gs fgs) : MG X Γ tg (gTup K n gs) (gT n fgs) := ⟨h, fun H μ Z ρ ρ' s σ w v Q hE hR r e k => by
  subst hK
  unfold gT at e
  split at e
  · rename_i ws q
    split at e
    · rename_i hl
      cases w with
      | tup us =>
        cases q
        obtain ⟨a, xs, h1, h3, h4⟩ := r
        exact ⟨a, xs, h1, h3.sq, by rw [h4.len]; exact hl, h2 H μ Z ρ ρ' s σ _ xs Q hE hR h4 e k⟩
      | _ => cases q
    · cases e
  · cases e⟩
/-- g = e -/
def mAsg (f : FE) (g : FG) : FS := fun ρ s => (f ρ s).thenC ρ fun w s1 => match g w ρ s1 with
  | some ρ' => .nx ρ' s1
  | none => .no
theorem asg_ok {g : TG} {fg : FG} {D : Ends} {σ : L2.St} {H : Hp} (hg : GOk Γ g fg) (h : rdS Γ W (mAsg f fg) D σ H) : tAsg (rdE Γ W f) g D σ H := by
  obtain ⟨μ, Z, ρ, s, hE, hR, q⟩ := h
  exact eS hE hR q fun w s1 v H1 μ1 _ E1 R1 r1 q1 => by
    split at q1
    · rename_i ρ' e
      exact hg H1 μ1 Z ρ ρ' s1 σ w v _ E1 R1 r1 e fun σ' E' => q1 σ' H1 μ1 .refl R1 E'
    · exact q1.elim
theorem ms_asg {g : TG} {fg : FG} (h : PS X st (tAsg (rdE Γ W f) g)) (hg : GOk Γ g fg) : MS X Γ W st (mAsg f fg) := PS.imp h fun D σ H => asg_ok hg
/-- the walk J yields these items -/
def Walks (Γ : Ct) (Z : Zs) (H : Hp) (μ : Mu) (ow : Option (Nat × List Dv)) (J : It) (ws : List Dv) : Prop := ∀ (H' : Hp) (μ' : Mu) (Z' : Zs) (s' : Sto), EvoZ Z H μ H' μ' → Rep Γ H' μ' Z' s' → (∀ a, Z a → Z' a) → (∀ a, Z' a → Z a ∨ H a = none) → (∀ n us, ow = some (n, us) → s'[n]? = some (.lst us)) →
  J.stop ws.length H' ∧ ∀ i w, ws[i]? = some w → J.go i H' ∧ ∀ x H'', J.yld i H' x H'' → Evo H' μ' H'' μ' ∧ Rep Γ H'' μ' Z' s' ∧ RV Γ H'' μ' Z' w x
structure Src where
  ws : List Dv
  ow : Option (Nat × List Dv) := none
abbrev FI := Env → Sto → R Src
def PostI (Γ : Ct) (W : WX) (H : Hp) (μ : Mu) (Z : Zs) (σ : L2.St) (Q : It → Hp → Prop) : R Src → Prop
  | .ok r s' => ∀ J H' μ', Evo H μ H' μ' → Rep Γ H' μ' Z s' → Walks Γ Z H' μ' r.ow J r.ws → Q J H'
  | .er x s' => ∀ cls d H' μ', Evo H μ H' μ' → Rep Γ H' μ' Z s' → RX Γ H' μ' Z x cls d → W cls d σ H'
  | .no => False
def rdI (Γ : Ct) (W : WX) (f : FI) : TI := fun σ H Q => ∃ μ Z ρ s, RE Γ H μ Z ρ σ ∧ Rep Γ H μ Z s ∧ PostI Γ W H μ Z σ Q (f ρ s)
def MI (X : Cx) (Γ : Ct) (W : WX) (tg iter : Expr) (f : FI) : Prop := PI X tg iter (rdI Γ W f)
theorem PI.imp {tg iter : Expr} {t t' : TI} (h : PI X tg iter t) (k : ∀ σ H Q, t' σ H Q → t σ H Q) : PI X tg iter t' := ⟨fun pins s σ H Q I q => h.run pins s σ H Q I (k σ H Q q)⟩
theorem PI.or {tg iter : Expr} {t t' : TI} (h : PI X tg iter t) (h' : PI X tg iter t') : PI X tg iter (fun σ H Q => t σ H Q ∨ t' σ H Q) := ⟨fun pins s σ H Q I q => q.elim (h.run pins s σ H Q I) (h'.run pins s σ H Q I)⟩
def srcOf (s : Sto) : Dv → Option Src
  | .tup ws => some { ws := ws }
  | .lst ws => some { ws := ws }
  | .sq ws => some { ws := ws }
  | .ref n => match s[n]? with
    | some (.lst ws) => some { ws := ws, ow := some (n, ws) }
    | _ => none
  | _ => none
def iSeq (f : FE) : FI := fun ρ s => (f ρ s).bind fun w s1 => R.of (srcOf s1 w) s1
mutual
theorem RV.strong {H : Hp} {μ : Mu} {Z Z' : Zs} (h : ∀ a, Z' a → Z a ∨ H a = none) : ∀ (w : Dv) {v : V}, RV Γ H μ Z w v → RV Γ H μ Z' w v
  | .non, _, q => q
  | .bl _, _, q => q
  | .int _, _, q => q
  | .str _, _, q => q
  | .ty _, _, q => q
  | .cl _, _, q => q
  | .ref n, _, q => q
  | .tup ws, _, q => by
    obtain ⟨a, xs, h1, h2, h3⟩ := q
    refine ⟨a, xs, h1, ?_, RVs.strong h ws h3⟩
    rcases h2 with ⟨h2, f⟩ | h2
    · exact .inl ⟨h2, f.1, fun z => (h a z).elim f.2 (Rd.alive h2)⟩
    · exact .inr h2
  | .sq ws, _, q => by
    obtain ⟨a, xs, h1, h2, h3⟩ := q
    refine ⟨a, xs, h1, ?_, RVs.strong h ws h3⟩
    rcases h2 with ⟨h2, f⟩ | h2
    · exact .inl ⟨h2, f.1, fun z => (h a z).elim f.2 (Rd.alive h2)⟩
    · exact .inr h2
  | .lst ws, _, q => by
    obtain ⟨a, xs, h1, h2, h3, h4⟩ := q
    exact ⟨a, xs, h1, h2, ⟨h3.1, fun z => (h a z).elim h3.2 (by rw [h2]; intro y; cases y)⟩, RVs.strong h ws h4⟩
  | .dct ks ws, _, q => by
    obtain ⟨a, kvs, h1, h2, h3, h4, h5⟩ := q
    exact ⟨a, kvs, h1, h2, ⟨h3.1, fun z => (h a z).elim h3.2 (by rw [h2]; intro y; cases y)⟩, h4, RVs.strong h ws h5⟩
  | .dtt kd ws, _, q => by
    obtain ⟨a, kvs, h1, h2, h3, h4, h5, h6⟩ := q
    exact ⟨a, kvs, h1, h2, ⟨h3.1, fun z => (h a z).elim h3.2 h2.some⟩, h4, RVs.strong h kd h5, RVs.strong h ws h6⟩
  | .exc c f w, _, q => by
    obtain ⟨a, dx, x, h1, h2, h3, h4, h5, h6⟩ := q
    exact ⟨a, dx, x, h1, h2, ⟨h3.1, fun z => (h a z).elim h3.2 (by rw [h2]; intro y; cases y)⟩, h4, ⟨h5.1, fun z => (h dx z).elim h5.2 (by rw [h4]; intro y; cases y)⟩, RV.strong h w h6⟩
  | .exn c, _, q => by
    obtain ⟨a, h1, h2, h3⟩ := q
    exact ⟨a, h1, h2, ⟨h3.1, fun z => (h a z).elim h3.2 (by rw [h2]; intro y; cases y)⟩⟩
  | .clo a c _ ws vs, _, q => by
    obtain ⟨h1, h2, h3, h4⟩ := q
    exact ⟨h1, h2, ⟨h3.1, fun z => (h c z).elim h3.2 (by rw [h2]; intro y; cases y)⟩, RVs.strong h ws h4⟩
theorem RVs.strong {H : Hp} {μ : Mu} {Z Z' : Zs} (h : ∀ a, Z' a → Z a ∨ H a = none) : ∀ (ws : List Dv) {vs : List V}, RVs Γ H μ Z ws vs → RVs Γ H μ Z' ws vs
  | [], _, q => q
  | w :: ws, _, q => by
    obtain ⟨x, xs, h1, h2, h3⟩ := q
    exact ⟨x, xs, h1, RV.strong h w h2, RVs.strong h ws h3⟩
end
/-- a list, a tuple: walked -/
theorem walk_l {H : Hp} {μ : Mu} {Z : Zs} {a : Addr} {xs : List V} {ws : List Dv} (h : ∀ H' μ', EvoZ Z H μ H' μ' → SqL Γ.K H' a xs) (r : RVs Γ H μ Z ws xs) : Walks Γ Z H μ none (Itl Γ.K a) ws := fun H' μ' Z' s' ev hR hy hz _ => by
  have q := h H' μ' ev
  refine ⟨⟨xs, q, by rw [r.len]; exact Nat.le_refl _⟩, fun i w e => ?_⟩
  obtain ⟨x, e1, e2⟩ := r.get e
  refine ⟨⟨xs, x, q, e1⟩, fun y H'' hq => ?_⟩
  obtain ⟨rfl, hq⟩ := hq
  have e3 := hq xs q
  rw [e1] at e3
  cases e3
  exact ⟨.refl, hR, (RV.strong hz w e2).monoZ (ev.more hy)⟩
theorem walk_t {H : Hp} {μ : Mu} {Z : Zs} {a : Addr} {xs : List V} {ws : List Dv} (h : ∀ H' μ', EvoZ Z H μ H' μ' → SqT Γ.K H' a xs) (r : RVs Γ H μ Z ws xs) : Walks Γ Z H μ none (Itt Γ.K a) ws := fun H' μ' Z' s' ev hR hy hz _ => by
  have q := h H' μ' ev
  refine ⟨⟨xs, q, by rw [r.len]; exact Nat.le_refl _⟩, fun i w e => ?_⟩
  obtain ⟨x, e1, e2⟩ := r.get e
  refine ⟨⟨xs, x, q, e1⟩, fun y H'' hq => ?_⟩
  obtain ⟨rfl, hq⟩ := hq
  have e3 := hq xs q
  rw [e1] at e3
  cases e3
  exact ⟨.refl, hR, (RV.strong hz w e2).monoZ (ev.more hy)⟩
/-- a list of the store: walked while it stands -/
theorem walk_m {H : Hp} {μ : Mu} {Z : Zs} {a : Addr} {n : Nat} {xs : List V} {ws : List Dv} (hn : μ n = some a) (hH : H a = some (.lst xs)) (r : RVs Γ H μ Z ws xs) : Walks Γ Z H μ (some (n, ws)) (Itl Γ.K a) ws := fun H' μ' Z' s' ev hR hy hz ho => by
  obtain ⟨b, h1, _, ys, h3, h4⟩ := hR.at n _ (ho n ws rfl)
  rw [ev.mu n a hn] at h1
  cases h1
  have q : SqL Γ.K H' a ys := SqL.of h3
  refine ⟨⟨ys, q, by rw [h4.len]; exact Nat.le_refl _⟩, fun i w e => ?_⟩
  obtain ⟨x, e1, e2⟩ := h4.get e
  refine ⟨⟨ys, x, q, e1⟩, fun y H'' hq => ?_⟩
  obtain ⟨rfl, hq⟩ := hq
  have e3 := hq ys q
  rw [e1] at e3
  cases e3
  exact ⟨.refl, hR, e2⟩
theorem iA {H : Hp} {μ : Mu} {Z : Zs} {σ : L2.St} {ρ : Env} {s : Sto} {f : FA} {k : List Dv → Sto → R Src} {Q : It → Hp → Prop} {Q' : List V → Hp → Prop} (hE : RE Γ H μ Z ρ σ) (hR : Rep Γ H μ Z s) (h : PostI Γ W H μ Z σ Q ((f ρ s).bind k))
    (hk : ∀ x s1 v H1 μ1, Evo H μ H1 μ1 → RE Γ H1 μ1 Z ρ σ → Rep Γ H1 μ1 Z s1 → RVs Γ H1 μ1 Z x v → PostI Γ W H1 μ1 Z σ Q (k x s1) → Q' v H1) : rdA Γ W f σ H Q' := by
  refine ⟨μ, Z, ρ, s, hE, hR, ?_⟩
  cases e : f ρ s with
  | ok x s1 =>
    rw [e] at h
    refine fun v H1 μ1 ev R1 r1 => hk x s1 v H1 μ1 ev (hE.mono ev) R1 r1 ?_
    have h' : PostI Γ W H μ Z σ Q (k x s1) := h
    cases q : k x s1 with
    | ok r s' => rw [q] at h'; exact fun J H' μ' e' => h' J H' μ' (ev.trans e')
    | er y s' => rw [q] at h'; exact fun c d H' μ' e' => h' c d H' μ' (ev.trans e')
    | no => rw [q] at h'; exact h'.elim
  | er x s1 => rw [e] at h; exact h
  | no => rw [e] at h; exact h.elim
theorem mi_seq {tg l : Expr} {f : FE} (hK : Γ.K = X.K) (hl : ME X Γ W l f) : MI X Γ W tg l (iSeq f) :=
  PI.imp (PI.or (pi_list hl) (pi_tup hl)) fun σ H Q ⟨μ, Z, ρ, s, hE, hR, q⟩ => by
    rw [← hK]
    unfold iSeq at q
    cases e : f ρ s with
    | no => rw [e] at q; exact q.elim
    | er x s1 => rw [e] at q; exact .inl ⟨μ, Z, ρ, s, hE, hR, by rw [e]; exact q⟩
    | ok x s1 =>
      rw [e] at q
      have q' : PostI Γ W H μ Z σ Q (R.of (srcOf s1 x) s1) := q
      cases x with
      | tup ws =>
        refine .inr ⟨μ, Z, ρ, s, hE, hR, ?_⟩
        rw [e]
        rintro v H1 μ1 e1 R1 ⟨a, xs, h1, h2, h3⟩
        exact ⟨a, h1, ⟨xs, h2.sq⟩, q' _ _ _ e1 R1 (walk_t (fun H' μ' ev => (h2.monoZ ev).sq) h3)⟩
      | sq ws =>
        refine .inl ⟨μ, Z, ρ, s, hE, hR, ?_⟩
        rw [e]
        rintro v H1 μ1 e1 R1 ⟨a, xs, h1, h2, h3⟩
        exact ⟨a, h1, ⟨xs, h2.sq⟩, q' _ _ _ e1 R1 (walk_l (fun H' μ' ev => (h2.monoZ ev).sq) h3)⟩
      | lst ws =>
        refine .inl ⟨μ, Z, ρ, s, hE, hR, ?_⟩
        rw [e]
        rintro v H1 μ1 e1 R1 ⟨a, xs, h1, h2, h3, h4⟩
        exact ⟨a, h1, ⟨xs, SqL.of h2⟩, q' _ _ _ e1 R1 (walk_l (fun H' μ' ev => SqL.of (ev.keep _ _ h2 h3.1 h3.2)) h4)⟩
      | ref n =>
        simp only [srcOf] at q'
        split at q'
        · rename_i us e2
          refine .inl ⟨μ, Z, ρ, s, hE, hR, ?_⟩
          rw [e]
          rintro v H1 μ1 e1 R1 ⟨a, h1, h2⟩
          obtain ⟨b, g1, _, xs, g3, g4⟩ := R1.at n _ e2
          rw [h2] at g1
          cases g1
          exact ⟨a, h1, ⟨xs, SqL.of g3⟩, q' _ _ _ e1 R1 (walk_m h2 g3 g4)⟩
        · exact q'.elim
      | _ => exact q'.elim
/-- range(n), range(a, b) -/
def rng (lo : Int) (n : Nat) : List Dv := (List.range n).map fun (i : Nat) => .int (lo + i)
theorem rng_get {lo : Int} {n i : Nat} {w : Dv} (h : (rng lo n)[i]? = some w) : i < n ∧ w = .int (lo + i) := by
  unfold rng at h
  rw [List.getElem?_map] at h
  cases e : (List.range n)[i]? with
  | none => rw [e] at h; cases h
  | some j =>
    rw [e] at h
    cases h
    obtain ⟨h1, h2⟩ := List.getElem?_eq_some_iff.mp e
    rw [List.length_range] at h1
    rw [List.getElem_range] at h2
    exact ⟨h1, by rw [h2]⟩
theorem rng_len (lo : Int) (n : Nat) : (rng lo n).length = n := by unfold rng; rw [List.length_map, List.length_range]
theorem walk_r {H : Hp} {μ : Mu} {Z : Zs} {lo : Int} {n : Nat} : Walks Γ Z H μ none (Itr lo n) (rng lo n) := fun H' μ' Z' s' ev hR hy hz _ => by
  refine ⟨by rw [rng_len]; exact Nat.le_refl n, fun i w e => ?_⟩
  obtain ⟨h1, rfl⟩ := rng_get e
  refine ⟨h1, fun x H'' hq => ?_⟩
  obtain ⟨rfl, rfl⟩ := hq
  exact ⟨.refl, hR, rfl⟩
def okR (i : Int) : Bool := decide (-(2 ^ 62) ≤ i ∧ i < 2 ^ 62)
def iRange1 (fa : FA) : FI := fun ρ s => (fa ρ s).bind fun ws s1 => match ws with
  | [.int j] => if okR j = true then .ok { ws := rng 0 j.toNat } s1 else .no
  | _ => .no
theorem mi_range1 {tg a : Expr} {fa : FA} {p pos : Pos} (hg : Gl X "range") (hm : X.mg "range" = none) (ha : MA X Γ W [a] fa) (hs : starEach [a] X.env = [(false, eval a X.env)] := by rfl) : MI X Γ W tg (.Call (.Name "range" p) [a] [] pos) (iRange1 fa) :=
  PI.imp (pi_range1 hg hm ha hs) fun σ H Q ⟨μ, Z, ρ, s, hE, hR, q⟩ => iA hE hR q fun ws s1 vs H1 μ1 e1 E1 R1 r1 q1 => by
    split at q1
    · rename_i j
      split at q1
      · rename_i hj
        have hj' : -(2 ^ 62) ≤ j ∧ j < 2 ^ 62 := of_decide_eq_true hj
        obtain ⟨x, xs, rfl, g1, g2⟩ := r1
        rw [show x = .int j from g1, show xs = [] from g2]
        exact ⟨j, rfl, hj'.1, hj'.2, q1 _ _ _ .refl R1 walk_r⟩
      · exact q1.elim
    · exact q1.elim
/-- whether the list that is walked stands as it did -/
def still (s : Sto) (r : Option (Nat × List Dv)) : Prop := ∀ n us, r = some (n, us) → s[n]? = some (.lst us)
open Classical in
noncomputable def stB (s : Sto) (r : Option (Nat × List Dv)) : Bool := decide (still s r)
noncomputable def forL (ow : Option (Nat × List Dv)) (g : FG) (body : FS) : List Dv → FS
  | [], ρ, s => if ow.isNone = true ∨ stB s ow = true then .nx ρ s else .no
  | w :: ws, ρ, s => if ow.isNone = true ∨ stB s ow = true then match g w ρ s with
    | none => .no
    | some ρ1 => match body ρ1 s with
      | .nx ρ2 s2 => forL ow g body ws ρ2 s2
      | .ct ρ2 s2 => forL ow g body ws ρ2 s2
      | .bk ρ2 s2 => .nx ρ2 s2
      | .rt v s2 => .rt v s2
      | .er x ρ2 s2 => .er x ρ2 s2
      | .no => .no
    else .no
noncomputable def mFor (f : FI) (g : FG) (body : FS) : FS := fun ρ s => (f ρ s).thenC ρ fun r s1 => forL r.ow g body r.ws ρ s1
open Classical in
theorem st_of {s : Sto} {ow : Option (Nat × List Dv)} (h : ow.isNone = true ∨ stB s ow = true) : still s ow := by
  rcases h with h | h
  · intro n us e
    rw [e] at h
    cases h
  · unfold stB at h
    exact of_decide_eq_true h
theorem iS {H : Hp} {μ : Mu} {Z : Zs} {σ : L2.St} {ρ : Env} {s : Sto} {f : FI} {k : Src → Sto → C} {D : Ends} {Q' : It → Hp → Prop} (hE : RE Γ H μ Z ρ σ) (hR : Rep Γ H μ Z s) (h : PostS Γ W H μ Z D ((f ρ s).thenC ρ k))
    (hk : ∀ r s1 J H1 μ1, Evo H μ H1 μ1 → RE Γ H1 μ1 Z ρ σ → Rep Γ H1 μ1 Z s1 → Walks Γ Z H1 μ1 r.ow J r.ws → PostS Γ W H1 μ1 Z D (k r s1) → Q' J H1) : rdI Γ W f σ H Q' := by
  refine ⟨μ, Z, ρ, s, hE, hR, ?_⟩
  cases e : f ρ s with
  | ok r s1 => rw [e] at h; exact fun J H1 μ1 ev R1 w => hk r s1 J H1 μ1 ev (hE.mono ev) R1 w (PostS.evo ev h)
  | er x s1 => rw [e] at h; exact fun c d H' μ' ev R' rx => h c d σ H' μ' ev R' (hE.mono ev) rx
  | no => rw [e] at h; exact h.elim
theorem for_ok {H : Hp} {μ : Mu} {Z : Zs} {σ : L2.St} {ρ : Env} {s : Sto} {D : Ends} {g : TG} {fg : FG} {body : FS} {ow : Option (Nat × List Dv)} {ws : List Dv} {J : It} (hg : GOk Γ g fg) (hE : RE Γ H μ Z ρ σ) (hR : Rep Γ H μ Z s) (hw : Walks Γ Z H μ ow J ws)
    (q : PostS Γ W H μ Z D (forL ow fg body ws ρ s)) :
    ∃ Wn : Nat → Nat → L2.St → Hp → Prop, (∃ m, Wn 0 m σ H) ∧ ∀ i m σ H, Wn i m σ H → (J.stop i H ∧ D.nx σ H) ∨ (J.go i H ∧ ∃ N : L2.St → Hp → Prop, (∀ σ' H', N σ' H' → ∃ m', m' < m ∧ Wn (i + 1) m' σ' H') ∧
      ∀ x H', J.yld i H x H' → g x σ H' fun σ2 H2 => rdS Γ W body { D with nx := N, ct := N, bk := D.nx } σ2 H2) := by
  let P : Nat → L2.St → Hp → Prop := fun i σ1 H1 => ∃ μ1 ρ1 s1, Evo H μ H1 μ1 ∧ RE Γ H1 μ1 Z ρ1 σ1 ∧ Rep Γ H1 μ1 Z s1 ∧ PostS Γ W H1 μ1 Z D (forL ow fg body (ws.drop i) ρ1 s1)
  refine ⟨fun i m σ1 H1 => m = ws.length - i ∧ i ≤ ws.length ∧ P i σ1 H1, ⟨ws.length, by omega, Nat.zero_le _, μ, ρ, s, .refl, hE, hR, q⟩, ?_⟩
  rintro i m σ1 H1 ⟨rfl, hi, μ1, ρ1, s1, ev, E1, R1, q1⟩
  by_cases hl : i < ws.length
  · have hd : ws.drop i = ws[i] :: ws.drop (i + 1) := List.drop_eq_getElem_cons hl
    rw [hd] at q1
    simp only [forL] at q1
    split at q1
    · rename_i hst
      obtain ⟨_, hgo⟩ := hw H1 μ1 Z s1 ev.z R1 (fun _ z => z) (fun a z => .inl z) (st_of hst)
      obtain ⟨h1, h2⟩ := hgo i ws[i] (List.getElem?_eq_getElem hl)
      refine .inr ⟨h1, P (i + 1), fun σ' H' p => ⟨_, by omega, rfl, hl, p⟩, fun x H' hy => ?_⟩
      obtain ⟨e2, R2, r2⟩ := h2 x H' hy
      cases eg : fg ws[i] ρ1 s1 with
      | none => rw [eg] at q1; exact q1.elim
      | some ρ2 =>
        rw [eg] at q1
        dsimp only at q1
        refine hg H' μ1 Z ρ1 ρ2 s1 σ1 ws[i] x _ (E1.mono e2) R2 r2 eg fun σ2 E2 => ⟨μ1, Z, ρ2, s1, E2, R2, ?_⟩
        cases eb : body ρ2 s1 with
        | nx ρ3 s3 => rw [eb] at q1; exact fun σ3 H3 μ3 e3 R3 E3 => ⟨μ3, ρ3, s3, (ev.trans e2).trans e3, E3, R3, PostS.evo (e2.trans e3) q1⟩
        | ct ρ3 s3 => rw [eb] at q1; exact fun σ3 H3 μ3 e3 R3 E3 => ⟨μ3, ρ3, s3, (ev.trans e2).trans e3, E3, R3, PostS.evo (e2.trans e3) q1⟩
        | bk ρ3 s3 => rw [eb] at q1; exact fun σ3 H3 μ3 e3 R3 E3 => q1 σ3 H3 μ3 (e2.trans e3) R3 E3
        | rt v s3 => rw [eb] at q1; exact fun v3 H3 μ3 e3 R3 r3 => q1 v3 H3 μ3 (e2.trans e3) R3 r3
        | er x3 ρ3 s3 => rw [eb] at q1; exact fun c d σ3 H3 μ3 e3 R3 E3 r3 => q1 c d σ3 H3 μ3 (e2.trans e3) R3 E3 r3
        | no => rw [eb] at q1; exact q1.elim
    · exact q1.elim
  · have he : i = ws.length := by omega
    subst he
    rw [List.drop_length] at q1
    simp only [forL] at q1
    split at q1
    · rename_i hst
      obtain ⟨hs, _⟩ := hw H1 μ1 Z s1 ev.z R1 (fun _ z => z) (fun a z => .inl z) (st_of hst)
      exact .inl ⟨hs, q1 σ1 H1 μ1 .refl R1 E1⟩
    · exact q1.elim
theorem ms_for {tg iter : Expr} {bd : List Stmt} {f : FI} {g : TG} {fg : FG} {body : FS} (hp : PassesOwn (model X.prog X.w) X.A X.env X.xe) (hc : X.calm = true) (hi : MI X Γ W tg iter f) (hg : MG X Γ tg g fg) (hb : MB X Γ W bd body)
    (hs : ∀ x, foldedSetIterable iter X.env x = pure x := by intro _; rfl) : MS X Γ W (.For tg iter bd [] pos) (mFor f fg body) :=
  PS.imp (ps_for hp hc hi hg.1 hb hs) fun D σ H ⟨μ, Z, ρ, s, hE, hR, q⟩ => iS hE hR q fun r s1 J H1 μ1 e1 E1 R1 w1 q1 => for_ok hg.2 E1 R1 w1 q1
end
end MP
set_option Elab.async false
set_option linter.all false
set_option maxRecDepth 100000
set_option maxHeartbeats 4000000
namespace MP
open PySem PySem.Spec PyProof.Rows L2
/-- nothing is raised here -/
abbrev W0 : WX := fun _ _ _ _ => False
section
variable {X : Cx} {Γ : Ct} {W : WX} {H H1 H' : Hp} {μ μ1 μ' : Mu} {Z Z' : Zs} {ρ : Env} {σ : L2.St} {s : Sto} {p : Addr} {o : HO}
abbrev hid (p : Addr) (Z : Zs) : Zs := fun b => b = p ∨ Z b
theorem RO.strong {a : Addr} {ob : Ob} (h : ∀ a, Z' a → Z a ∨ H a = none) (r : RO Γ H μ Z a ob) : RO Γ H μ Z' a ob := by
  cases ob with
  | lst ws =>
    obtain ⟨xs, h4, h5⟩ := r
    exact ⟨xs, h4, RVs.strong h ws h5⟩
  | dct kws =>
    obtain ⟨kvs, h4, h5, h6⟩ := r
    exact ⟨kvs, h4, h5, RVs.strong h _ h6⟩
  | dtt fr kws =>
    obtain ⟨kvs, h4, h5, h6, h7⟩ := r
    exact ⟨kvs, h4, h5, RVs.strong h _ h6, RVs.strong h _ h7⟩
  | obj c fs =>
    obtain ⟨dx, kvs, h4, h5, h6⟩ := r
    exact ⟨dx, kvs, h4, h5, RVs.strong h _ h6⟩
  | tab m q => exact ⟨r.1, tab_imp rfl (fun c e1 e2 => ⟨e1, e2.1, fun z => (h c z).elim e2.2 (by rw [e1]; intro y; cases y)⟩) r.2⟩
theorem RO.weak {a : Addr} {ob : Ob} (h : ∀ a, Z a → Z' a) (r : RO Γ H μ Z' a ob) : RO Γ H μ Z a ob := by
  cases ob with
  | lst ws =>
    obtain ⟨xs, h4, h5⟩ := r
    exact ⟨xs, h4, RVs.weak h ws h5⟩
  | dct kws =>
    obtain ⟨kvs, h4, h5, h6⟩ := r
    exact ⟨kvs, h4, h5, RVs.weak h _ h6⟩
  | dtt fr kws =>
    obtain ⟨kvs, h4, h5, h6, h7⟩ := r
    exact ⟨kvs, h4, h5, RVs.weak h _ h6, RVs.weak h _ h7⟩
  | obj c fs =>
    obtain ⟨dx, kvs, h4, h5, h6⟩ := r
    exact ⟨dx, kvs, h4, h5, RVs.weak h _ h6⟩
  | tab m q => exact ⟨r.1, tab_imp rfl (fun c e1 e2 => ⟨e1, e2.weak h⟩) r.2⟩
theorem Rep.weak (h : ∀ a, Z a → Z' a) (hR : Rep Γ H μ Z' s) : Rep Γ H μ Z s := ⟨fun n ob q => by
  obtain ⟨a, h1, h2, h3⟩ := hR.at n ob q
  exact ⟨a, h1, fun z => h2 (h a z), h3.weak h⟩, hR.inj, hR.dom, fun a z => hR.za a (h a z)⟩
/-- a fresh object, hidden -/
theorem Rep.hide (hR : Rep Γ H μ Z s) (hp : H p = none) : Rep Γ (upd H p o) μ (hid p Z) s := by
  have hz : ∀ a, hid p Z a → Z a ∨ H a = none := fun a z => z.elim (fun e => .inr (e ▸ hp)) .inl
  have ev : Evo H μ (upd H p o) μ := Evo.laid hp
  refine ⟨fun n ob q => ?_, hR.inj, hR.dom, fun a z => ?_⟩
  · obtain ⟨a, h1, h2, h3⟩ := hR.at n ob q
    have hne : a ≠ p := fun e => hR.alive h1 (e ▸ hp)
    exact ⟨a, h1, fun z => z.elim hne h2, (h3.strong hz).mono' ev (upd_ne hne)⟩
  · by_cases e : a = p
    · rw [e, upd_same]; intro y; cases y
    · rw [upd_ne e]
      exact hR.za a (z.resolve_left e)
theorem RE.hide (hE : RE Γ H μ Z ρ σ) (hp : H p = none) : RE Γ (upd H p o) μ (hid p Z) ρ σ := ⟨hE.1, fun i w q => by
  obtain ⟨v, h1, h2⟩ := hE.2 i w q
  exact ⟨v, h1, (RV.strong (fun a z => z.elim (fun e => .inr (e ▸ hp)) .inl) w h2).mono (Evo.laid hp)⟩⟩
theorem Evo.hid (e : Evo H μ H1 μ1) (hp : H p = none) : Evo H μ (upd H1 p o) μ1 where
  keep := fun a ob h hn => by rw [upd_ne (ne_of_none h hp)]; exact e.keep a ob h hn
  mu := e.mu
  new := e.new
  stay := fun n a h q => by
    rw [upd_ne (fun z : a = p => q (by rw [z]; exact hp))]
    exact e.stay n a h q
theorem RO.updZ {a : Addr} {ob : Ob} (hne : a ≠ p) (r : RO Γ H μ (MP.hid p Z) a ob) : RO Γ (upd H p o) μ (MP.hid p Z) a ob := by
  cases ob with
  | lst ws =>
    obtain ⟨xs, h4, h5⟩ := r
    exact ⟨xs, by rw [upd_ne hne]; exact h4, RVs.updZ ws h5⟩
  | dct kws =>
    obtain ⟨kvs, h4, h5, h6⟩ := r
    exact ⟨kvs, by rw [upd_ne hne]; exact h4, h5, RVs.updZ _ h6⟩
  | dtt fr kws =>
    obtain ⟨kvs, h4, h5, h6, h7⟩ := r
    exact ⟨kvs, h4.eq (upd_ne hne), h5, RVs.updZ _ h6, RVs.updZ _ h7⟩
  | obj c fs =>
    obtain ⟨dx, kvs, h4, h5, h6⟩ := r
    exact ⟨dx, kvs, by rw [upd_ne hne]; exact h4, h5, RVs.updZ _ h6⟩
  | tab m q => exact ⟨r.1, tab_imp (upd_ne hne) (fun c e1 e2 => ⟨by rw [upd_ne e2.evoZ]; exact e1, e2⟩) r.2⟩
theorem Rep.updZ (hR : Rep Γ H μ (MP.hid p Z) s) : Rep Γ (upd H p o) μ (MP.hid p Z) s := ⟨fun n ob q => by
  obtain ⟨a, h1, h2, h3⟩ := hR.at n ob q
  exact ⟨a, h1, h2, h3.updZ fun e => h2 (.inl e)⟩, hR.inj, hR.dom, fun a z => by
    by_cases e : a = p
    · rw [e, upd_same]; intro y; cases y
    · rw [upd_ne e]; exact hR.za a z⟩
theorem RE.wipe (hE : RE Γ H μ Z ρ σ) : ∀ vs : List Nat, RE Γ H μ Z (vs.foldr (fun v r => r.set v none) ρ) (L2.wipe σ vs)
  | [] => hE
  | v :: vs => (RE.wipe hE vs).del v
end
def wipeD (ρ : Env) (vs : List Nat) : Env := vs.foldr (fun v r => r.set v none) ρ
noncomputable def compL (ow : Option (Nat × List Dv)) (vs : List Nat) (g : FG) (tt : FT) (elt : FE) (ρ : Env) : List Dv → Sto → Option (List Dv × Sto)
  | [], s => if ow.isNone = true ∨ stB s ow = true then some ([], s) else none
  | w :: ws, s => if ow.isNone = true ∨ stB s ow = true then match g w (wipeD ρ vs) s with
    | none => none
    | some ρ1 => match tt ρ1 s with
      | .ok true s2 => match elt ρ1 s2 with
        | .ok y s3 => (compL ow vs g tt elt ρ ws s3).map fun r => (y :: r.1, r.2)
        | _ => none
      | .ok false s2 => compL ow vs g tt elt ρ ws s2
      | _ => none
    else none
noncomputable def mComp (f : FI) (vs : List Nat) (g : FG) (tt : FT) (elt : FE) : FE := fun ρ s => (f ρ s).bind fun r s1 => match compL r.ow vs g tt elt ρ r.ws s1 with
  | some (ws, s2) => if ws.length ≤ lim then .ok (.lst ws) s2 else .no
  | none => .no
def mYes : FT := fun _ s => .ok true s
/-- a target within the block's own names -/
def GWk (Γ : Ct) (g : TG) (fg : FG) (vs : List Nat) : Prop := ∀ (H : Hp) (μ : Mu) (Z : Zs) (ρ ρ' : Env) (s : Sto) (σ : L2.St) (w : Dv) (v : V) (Q : L2.St → Hp → Prop), RE Γ H μ Z ρ σ → Rep Γ H μ Z s → RV Γ H μ Z w v → fg w ρ s = some ρ' →
  (∀ σ', RE Γ H μ Z ρ' σ' → L2.wipe σ' vs = L2.wipe σ vs → Q σ' H) → g v σ H Q
def GsWk (Γ : Ct) (g : TGs) (fg : List Dv → Env → Sto → Option Env) (vs : List Nat) : Prop := ∀ (H : Hp) (μ : Mu) (Z : Zs) (ρ ρ' : Env) (s : Sto) (σ : L2.St) (ws : List Dv) (xs : List V) (Q : L2.St → Hp → Prop), RE Γ H μ Z ρ σ → Rep Γ H μ Z s → RVs Γ H μ Z ws xs → fg ws ρ s = some ρ' →
  (∀ σ', RE Γ H μ Z ρ' σ' → L2.wipe σ' vs = L2.wipe σ vs → Q σ' H) → g xs σ H Q
theorem wipe_set (σ : L2.St) (i : Nat) (v : Option V) : ∀ vs : List Nat, i ∈ vs → L2.wipe (σ.set i v) vs = L2.wipe σ vs
  | [], h => nomatch h
  | j :: vs, h => by
    show (L2.wipe (σ.set i v) vs).set j none = (L2.wipe σ vs).set j none
    by_cases hm : i ∈ vs
    · rw [wipe_set σ i v vs hm]
    · have e : i = j := (List.mem_cons.mp h).resolve_right hm
      subst e
      have comm : ∀ (us : List Nat), i ∉ us → L2.wipe (σ.set i v) us = (L2.wipe σ us).set i v := fun us => by
        induction us with
        | nil => intro _; rfl
        | cons k us ih =>
          intro hk
          show (L2.wipe (σ.set i v) us).set k none = ((L2.wipe σ us).set k none).set i v
          rw [ih fun z => hk (List.mem_cons_of_mem _ z)]
          exact List.set_comm _ _ fun z => hk (by rw [z]; exact List.mem_cons_self)
      rw [comm vs hm, List.set_set]
theorem wipe_wipe (σ : L2.St) (vs : List Nat) : L2.wipe (L2.wipe σ vs) vs = L2.wipe σ vs := by
  have key : ∀ (us : List Nat), (∀ i ∈ us, i ∈ vs) → L2.wipe (L2.wipe σ us) vs = L2.wipe σ vs := fun us => by
    induction us with
    | nil => intro _; rfl
    | cons j us ih =>
      intro h
      show L2.wipe ((L2.wipe σ us).set j none) vs = _
      rw [wipe_set _ j none vs (h j List.mem_cons_self)]
      exact ih fun i hi => h i (List.mem_cons_of_mem _ hi)
  exact key vs fun _ h => h
section
variable {X : Cx} {Γ : Ct} {W : WX}
theorem gw_name {i : Nat} {vs : List Nat} (h : i ∈ vs) : GWk Γ (gName i) (gN i) vs := fun H μ Z ρ ρ' s σ w v Q hE hR r e k => by
  cases e
  exact k _ (hE.set i r) (wipe_set σ i (some v) vs h)
theorem gws_nil {vs : List Nat} : GsWk Γ gNil gs0 vs := fun H μ Z ρ ρ' s σ ws xs Q hE hR r e k => by
  cases ws with
  | nil => cases e; exact ⟨r, k σ hE rfl⟩
  | cons _ _ => cases e
theorem gws_cons {g : TG} {gs : TGs} {fg : FG} {fgs : List Dv → Env → Sto → Option Env} {vs : List Nat} (h1 : GWk Γ g fg vs) (h2 : GsWk Γ gs fgs vs) : GsWk Γ (gCons g gs) (gsC fg fgs) vs := fun H μ Z ρ ρ' s σ ws xs Q hE hR r e k => by
  cases ws with
  | nil => cases e
  | cons w ws =>
    obtain ⟨x, xs, rfl, r1, r2⟩ := r
    simp only [gsC] at e
    cases q : fg w ρ s with
    | none => rw [q] at e; cases e
    | some ρ1 =>
      rw [q] at e
      exact ⟨x, xs, rfl, h1 H μ Z ρ ρ1 s σ w x _ hE hR r1 q fun σ1 E1 hw => h2 H μ Z ρ1 ρ' s σ1 ws xs Q E1 hR r2 e fun σ' E' hw' => k σ' E' (hw'.trans hw)⟩
theorem gw_tup {K : PySem.W.Frag} {n : Nat} {gs : TGs} {fgs : List Dv → Env → Sto → Option Env} {vs : List Nat} (hK : K = Γ.K) (h2 : GsWk Γ gs fgs vs) : GWk Γ (gTup K n gs) (gT n fgs) vs := fun H μ Z ρ ρ' s σ w v Q hE hR r e k => by
  subst hK
  unfold gT at e
  split at e
  · rename_i ws q
    split at e
    · rename_i hl
      cases w with
      | tup us =>
        cases q
        obtain ⟨a, xs, h1, h3, h4⟩ := r
        exact ⟨a, xs, h1, h3.sq, by rw [h4.len]; exact hl, h2 H μ Z ρ ρ' s σ _ xs Q hE hR h4 e k⟩
      | _ => cases q
    · cases e
  · cases e
theorem iE {H : Hp} {μ : Mu} {Z : Zs} {σ : L2.St} {ρ : Env} {s : Sto} {f : FI} {k : Src → Sto → R Dv} {Q : VK} {Q' : It → Hp → Prop} (hE : RE Γ H μ Z ρ σ) (hR : Rep Γ H μ Z s) (h : PostE Γ W H μ Z σ Q ((f ρ s).bind k))
    (hk : ∀ r s1 J H1 μ1, Evo H μ H1 μ1 → RE Γ H1 μ1 Z ρ σ → Rep Γ H1 μ1 Z s1 → Walks Γ Z H1 μ1 r.ow J r.ws → PostE Γ W H1 μ1 Z σ Q (k r s1) → Q' J H1) : rdI Γ W f σ H Q' := by
  refine ⟨μ, Z, ρ, s, hE, hR, ?_⟩
  cases e : f ρ s with
  | ok r s1 => rw [e] at h; exact fun J H1 μ1 ev R1 w => hk r s1 J H1 μ1 ev (hE.mono ev) R1 w (PostE.evo ev h)
  | er x s1 => rw [e] at h; exact h
  | no => rw [e] at h; exact h.elim
/-- the walk of a comprehension -/
theorem comp_ok {H1 : Hp} {μ1 : Mu} {Z : Zs} {σ : L2.St} {ρ : Env} {s1 s2 : Sto} {g : TG} {fg : FG} {tt : FT} {elt : FE} {vs : List Nat} {ow : Option (Nat × List Dv)} {ws tot : List Dv} {J : It} {Qd : Hp → Prop} {D : Addr} (hg : GWk Γ g fg vs) (hE : RE Γ H1 μ1 Z ρ σ) (hR : Rep Γ H1 μ1 Z s1) (hw : Walks Γ Z H1 μ1 ow J ws) (hD : H1 D = none)
    (q : compL ow vs fg tt elt ρ ws s1 = some (tot, s2)) (hl : tot.length ≤ lim)
    (fin : ∀ H μ acc, Evo H1 μ1 H μ → Rep Γ H μ (hid D Z) s2 → H D = some (.lst acc) → RVs Γ H μ (hid D Z) tot acc → Qd H) :
    ∃ Wn : Nat → Nat → Hp → Prop, (∃ m, Wn 0 m (upd H1 D (.lst []))) ∧ ∀ i m H, Wn i m H → (J.stop i H ∧ Qd H) ∨ (J.go i H ∧ ∃ Nx : Hp → Prop, (∀ H', Nx H' → ∃ m', m' < m ∧ Wn (i + 1) m' H') ∧
      ∀ x H', J.yld i H x H' → g x (L2.wipe σ vs) H' fun σ2 H2 => L2.wipe σ2 vs = L2.wipe σ vs ∧ rdT Γ W0 tt σ2 H2 fun b H3 =>
        if b = true then rdE Γ W0 elt σ2 H3 fun y H4 => ∃ acc, H4 D = some (.lst acc) ∧ acc.length < sizeLine ∧ Nx (upd H4 D (.lst (acc ++ [y]))) else Nx H3) := by
  let P : Nat → Hp → Prop := fun i H => ∃ μ s wa acc r, Evo H1 μ1 H μ ∧ Rep Γ H μ (hid D Z) s ∧ H D = some (.lst acc) ∧ RVs Γ H μ (hid D Z) wa acc ∧ compL ow vs fg tt elt ρ (ws.drop i) s = some (r, s2) ∧ wa ++ r = tot
  refine ⟨fun i m H => m = ws.length - i ∧ i ≤ ws.length ∧ P i H, ⟨ws.length, by omega, Nat.zero_le _, μ1, s1, [], [], tot, Evo.laid hD, hR.hide hD, upd_same, rfl, q, rfl⟩, ?_⟩
  rintro i m H ⟨rfl, hi, μ, s, wa, acc, r, ev, R, hH, ra, qr, ht⟩
  have hz : ∀ a, hid D Z a → Z a ∨ H1 a = none := fun a z => z.elim (fun e => .inr (e ▸ hD)) .inl
  have E : RE Γ H μ (hid D Z) ρ σ := ⟨hE.1, fun j w e => by
    obtain ⟨v, g1, g2⟩ := hE.2 j w e
    exact ⟨v, g1, (RV.strong hz w g2).mono ev⟩⟩
  by_cases hlt : i < ws.length
  · have hd : ws.drop i = ws[i] :: ws.drop (i + 1) := List.drop_eq_getElem_cons hlt
    rw [hd] at qr
    simp only [compL] at qr
    split at qr
    · rename_i hst
      obtain ⟨_, hgo⟩ := hw H μ (hid D Z) s ev.z R (fun a z => .inr z) hz (st_of hst)
      obtain ⟨h1, h2⟩ := hgo i ws[i] (List.getElem?_eq_getElem hlt)
      refine .inr ⟨h1, P (i + 1), fun H' p => ⟨_, by omega, rfl, hlt, p⟩, fun x H' hy => ?_⟩
      obtain ⟨e2, R2, r2⟩ := h2 x H' hy
      cases eg : fg ws[i] (wipeD ρ vs) s with
      | none => rw [eg] at qr; cases qr
      | some ρ2 =>
        rw [eg] at qr
        dsimp only at qr
        refine hg H' μ (hid D Z) (wipeD ρ vs) ρ2 s (L2.wipe σ vs) ws[i] x _ ((E.mono e2).wipe vs) R2 r2 eg fun σ2 E2 hwp => ⟨hwp.trans (wipe_wipe σ vs), μ, hid D Z, ρ2, s, E2, R2, ?_⟩
        cases et : tt ρ2 s with
        | no => rw [et] at qr; cases qr
        | er x3 s3 => rw [et] at qr; cases qr
        | ok b s3 =>
          rw [et] at qr
          intro H3 μ3 e3 R3
          have hH3 : H3 D = some (.lst acc) := e3.keep _ _ (e2.keep _ _ hH fun n hn => R.notZ hn (.inl rfl)) fun n hn => R2.notZ hn (.inl rfl)
          have ra3 : RVs Γ H3 μ3 (hid D Z) wa acc := (ra.mono e2).mono e3
          cases b with
          | false =>
            rw [if_neg Bool.false_ne_true]
            exact ⟨μ3, s3, wa, acc, r, (ev.trans e2).trans e3, R3, hH3, ra3, qr, ht⟩
          | true =>
            rw [if_pos rfl]
            dsimp only at qr
            refine ⟨μ3, hid D Z, ρ2, s3, E2.mono e3, R3, ?_⟩
            cases ee : elt ρ2 s3 with
            | no => rw [ee] at qr; cases qr
            | er x4 s4 => rw [ee] at qr; cases qr
            | ok y s4 =>
              rw [ee] at qr
              dsimp only at qr
              intro v H4 μ4 e4 R4 r4
              cases ec : compL ow vs fg tt elt ρ (ws.drop (i + 1)) s4 with
              | none => rw [ec] at qr; cases qr
              | some rr =>
                rw [ec] at qr
                obtain ⟨r', s''⟩ := rr
                cases qr
                have hH4 : H4 D = some (.lst acc) := e4.keep _ _ hH3 fun n hn => R3.notZ hn (.inl rfl)
                have hlen : acc.length < sizeLine := by
                  have := ra.len
                  rw [← ht, List.length_append] at hl
                  exact lim_lt (by omega)
                refine ⟨acc, hH4, hlen, μ4, s4, wa ++ [y], acc ++ [v], r', (((ev.trans e2).trans e3).trans e4).hid hD, R4.updZ, upd_same, RVs.append (RVs.updZ wa (ra3.mono e4)) (RVs.cons (RV.updZ y r4) rfl), ec, ?_⟩
                rw [← ht]
                simp
    · cases qr
  · have he : i = ws.length := by omega
    subst he
    rw [List.drop_length] at qr
    simp only [compL] at qr
    split at qr
    · rename_i hst
      cases qr
      obtain ⟨hs, _⟩ := hw H μ (hid D Z) _ ev.z R (fun a z => .inr z) hz (st_of hst)
      rw [List.append_nil] at ht
      subst ht
      exact .inl ⟨hs, fin H μ acc ev R hH ra⟩
    · cases qr
theorem PTs.imp {ifs : List Expr} {t t' : TT} (h : PTs X ifs t) (k : ∀ σ H Q, t' σ H Q → t σ H Q) : PTs X ifs t' := ⟨fun pins s σ H Q I q => h.run pins s σ H Q I (k σ H Q q)⟩
def MTs (X : Cx) (Γ : Ct) (ifs : List Expr) (t : FT) : Prop := PTs X ifs (rdT Γ W0 t)
theorem mts_nil : MTs X Γ [] mYes := PTs.imp pts_nil fun σ H Q ⟨μ, Z, ρ, s, hE, hR, q⟩ => q H μ .refl hR
theorem mts_one {c : Expr} {t : FT} (h : MT X Γ W0 c t) : MTs X Γ [c] t := pts_one h
theorem fin_lst {H1 H : Hp} {μ1 μ : Mu} {Z : Zs} {σ : L2.St} {s1 s2 : Sto} {tot : List Dv} {acc : List V} {D : Addr} {Q : VK} (hR1 : Rep Γ H1 μ1 Z s1) (hD : H1 D = none) (ev : Evo H1 μ1 H μ) (R : Rep Γ H μ (hid D Z) s2) (hH : H D = some (.lst acc)) (ra : RVs Γ H μ (hid D Z) tot acc)
    (q : PostE Γ W H1 μ1 Z σ Q (.ok (.lst tot) s2)) : Q (.ref D) H :=
  q _ H μ ev (R.weak fun a z => .inr z) ⟨D, acc, rfl, hH, ⟨fun n hn => R.notZ hn (.inl rfl), fun z => hR1.za D z hD⟩, RVs.weak (fun a z => .inr z) tot ra⟩
theorem me_comp {elt tg iter : Expr} {ifs : List Expr} {scope : Scope} {own : List (Str × Nat)} {pos : Pos} {f : FI} {g : TG} {fg : FG} {tt : FT} {fe : FE} (hc : X.calm = true) (hN : X.N.Nodup) (hi : MI X Γ W tg iter f) (ok : BlkOk X.N X.env.scope scope own)
    (hg : ∀ (s : Shared) (H : Hp) (C : Addr) (cl : List (Str × Addr)) (fp : List Addr), PG (X.blk s H scope (compEnvC scope cl C X.env) fp) tg g) (hw : GWk Γ g fg (own.map (·.2)))
    (ht : ∀ (s : Shared) (H : Hp) (C : Addr) (cl : List (Str × Addr)) (fp : List Addr), MTs (X.blk s H scope (compEnvC scope cl C X.env) fp) Γ ifs tt)
    (he : ∀ (s : Shared) (H : Hp) (C : Addr) (cl : List (Str × Addr)) (fp : List Addr), ME (X.blk s H scope (compEnvC scope cl C X.env) fp) Γ W0 elt fe) (hs : ∀ x, foldedSetIterable iter X.env x = pure x := by intro _; rfl) :
    ME X Γ W (.ListComp elt [⟨tg, iter, ifs, 0⟩] scope pos) (mComp f (own.map (·.2)) fg tt fe) :=
  PE.imp (pe_lc hc hN hi ok hg ht he hs) fun σ H Q ⟨μ, Z, ρ, s, hE, hR, q⟩ => iE hE hR q fun r s1 J H1 μ1 e1 E1 R1 w1 q1 D hD => by
    cases e : compL r.ow (own.map (·.2)) fg tt fe ρ r.ws s1 with
    | none => rw [e] at q1; exact q1.elim
    | some p =>
      obtain ⟨tot, s2⟩ := p
      rw [e] at q1
      dsimp only at q1
      split at q1
      · rename_i hl
        exact comp_ok hw E1 R1 w1 hD e hl fun H2 μ2 acc ev R2 hH ra => fin_lst R1 hD ev R2 hH ra q1
      · exact q1.elim
theorem asg_post {H : Hp} {μ : Mu} {Z : Zs} {σ : L2.St} {ρ : Env} {s : Sto} {f : FE} {i : Nat} {D : Ends} (hE : RE Γ H μ Z ρ σ) (q : PostS Γ W H μ Z D (mAsg f (gN i) ρ s)) : PostE Γ W H μ Z σ (fun x H1 => D.nx (σ.set i (some x)) H1) (f ρ s) := by
  unfold mAsg at q
  cases e : f ρ s with
  | ok w s1 => rw [e] at q; exact fun v H1 μ1 ev R1 r1 => q _ H1 μ1 ev R1 ((hE.mono ev).set i r1)
  | er x s1 => rw [e] at q; exact fun c d H1 μ1 ev R1 r1 => q c d σ H1 μ1 ev R1 (hE.mono ev) r1
  | no => rw [e] at q; exact q
/-- name = [..] on one line -/
theorem ms_setComp {i : Nat} {y : Str} {py : Pos} {elt tg iter : Expr} {ifs : List Expr} {scope : Scope} {own : List (Str × Nat)} {pos spos : Pos} {f : FI} {g : TG} {fg : FG} {tt : FT} {fe : FE} (hc : X.calm = true) (hN : X.N.Nodup) (hy : X.N[i]? = some y) (hyl : X.env.scope.names.lookup y = some .local)
    (hsw : swapsWith (.ListComp elt [⟨tg, iter, ifs, 0⟩] scope pos) (some (.Name y py)) spos.line X.env = pure true) (hi : MI X Γ W tg iter f) (ok : BlkOk X.N X.env.scope scope own)
    (hg : ∀ (s : Shared) (H : Hp) (C : Addr) (cl : List (Str × Addr)) (fp : List Addr), PG (X.blk s H scope (compEnvC scope cl C X.env) fp) tg g) (hw : GWk Γ g fg (own.map (·.2)))
    (ht : ∀ (s : Shared) (H : Hp) (C : Addr) (cl : List (Str × Addr)) (fp : List Addr), MTs (X.blk s H scope (compEnvC scope cl C X.env) fp) Γ ifs tt)
    (he : ∀ (s : Shared) (H : Hp) (C : Addr) (cl : List (Str × Addr)) (fp : List Addr), ME (X.blk s H scope (compEnvC scope cl C X.env) fp) Γ W0 elt fe) (hs : ∀ x, foldedSetIterable iter X.env x = pure x := by intro _; rfl) :
    MS X Γ W (.Assign [.Name y py] (.ListComp elt [⟨tg, iter, ifs, 0⟩] scope pos) spos) (mAsg (mComp f (own.map (·.2)) fg tt fe) (gN i)) :=
  PS.imp (ps_setLc hc hN hy hyl hsw hi ok hg ht he hs) fun D σ H h => by
    obtain ⟨μ, Z, ρ, s, hE, hR, q⟩ := h
    replace q := asg_post hE q
    exact iE hE hR q fun r s1 J H1 μ1 e1 E1 R1 w1 q1 D hD => by
      cases e : compL r.ow (own.map (·.2)) fg tt fe ρ r.ws s1 with
      | none => rw [e] at q1; exact q1.elim
      | some p =>
        obtain ⟨tot, s2⟩ := p
        rw [e] at q1
        dsimp only at q1
        split at q1
        · rename_i hl
          exact comp_ok hw E1 R1 w1 hD e hl fun H2 μ2 acc ev R2 hH ra => fin_lst R1 hD ev R2 hH ra q1
        · exact q1.elim
end
section
variable {X : Cx} {Γ : Ct} {W : WX}
noncomputable def compL2 (ow : Option (Nat × List Dv)) (vs : List Nat) (g : FG) (tt : FT) (f1 : FI) (vs1 : List Nat) (g1 : FG) (tt1 : FT) (elt : FE) (ρ : Env) : List Dv → Sto → Option (List Dv × Sto)
  | [], s => if ow.isNone = true ∨ stB s ow = true then some ([], s) else none
  | w :: ws, s => if ow.isNone = true ∨ stB s ow = true then match g w (wipeD ρ vs) s with
    | none => none
    | some ρ1 => match tt ρ1 s with
      | .ok true s2 => match f1 ρ1 s2 with
        | .ok r s3 => match compL r.ow vs1 g1 tt1 elt ρ1 r.ws s3 with
          | some (ys, s4) => (compL2 ow vs g tt f1 vs1 g1 tt1 elt ρ ws s4).map fun r => (ys ++ r.1, r.2)
          | none => none
        | _ => none
      | .ok false s2 => compL2 ow vs g tt f1 vs1 g1 tt1 elt ρ ws s2
      | _ => none
    else none
noncomputable def mComp2 (f : FI) (vs : List Nat) (g : FG) (tt : FT) (f1 : FI) (vs1 : List Nat) (g1 : FG) (tt1 : FT) (elt : FE) : FE := fun ρ s => (f ρ s).bind fun r s1 => match compL2 r.ow vs g tt f1 vs1 g1 tt1 elt ρ r.ws s1 with
  | some (ws, s2) => if ws.length ≤ lim then .ok (.lst ws) s2 else .no
  | none => .no
theorem compin_ok {H1 : Hp} {μ1 : Mu} {Z : Zs} {σ : L2.St} {ρ : Env} {s1 s2 : Sto} {g : TG} {fg : FG} {tt : FT} {elt : FE} {vs : List Nat} {ow : Option (Nat × List Dv)} {ws r0 wa0 : List Dv} {acc0 : List V} {J : It} {Nx : Hp → Prop} {D : Addr} (hg : GWk Γ g fg vs) (hE : RE Γ H1 μ1 (hid D Z) ρ σ) (hR : Rep Γ H1 μ1 (hid D Z) s1) (hw : Walks Γ (hid D Z) H1 μ1 ow J ws)
    (hH : H1 D = some (.lst acc0)) (ra0 : RVs Γ H1 μ1 (hid D Z) wa0 acc0) (q : compL ow vs fg tt elt ρ ws s1 = some (r0, s2)) (hl : (wa0 ++ r0).length ≤ lim)
    (fin : ∀ H μ acc, EvoZ (fun a => a = D) H1 μ1 H μ → Rep Γ H μ (hid D Z) s2 → H D = some (.lst acc) → RVs Γ H μ (hid D Z) (wa0 ++ r0) acc → Nx H) :
    ∃ Wn : Nat → Nat → Hp → Prop, (∃ m, Wn 0 m H1) ∧ ∀ i m H, Wn i m H → (J.stop i H ∧ Nx H) ∨ (J.go i H ∧ ∃ Nx1 : Hp → Prop, (∀ H', Nx1 H' → ∃ m', m' < m ∧ Wn (i + 1) m' H') ∧
      ∀ x H', J.yld i H x H' → g x (L2.wipe σ vs) H' fun σ2 H2 => L2.wipe σ2 vs = L2.wipe σ vs ∧ rdT Γ W0 tt σ2 H2 fun b H3 =>
        if b = true then rdE Γ W0 elt σ2 H3 fun y H4 => ∃ acc, H4 D = some (.lst acc) ∧ acc.length < sizeLine ∧ Nx1 (upd H4 D (.lst (acc ++ [y]))) else Nx1 H3) := by
  have hdz : ∀ a, a = D → hid D Z a := fun a e => .inl e
  let P : Nat → Hp → Prop := fun i H => ∃ μ s wa acc r, EvoZ (fun a => a = D) H1 μ1 H μ ∧ Rep Γ H μ (hid D Z) s ∧ H D = some (.lst acc) ∧ RVs Γ H μ (hid D Z) wa acc ∧ compL ow vs fg tt elt ρ (ws.drop i) s = some (r, s2) ∧ wa ++ r = wa0 ++ r0
  refine ⟨fun i m H => m = ws.length - i ∧ i ≤ ws.length ∧ P i H, ⟨ws.length, by omega, Nat.zero_le _, μ1, s1, wa0, acc0, r0, Evo.refl.z, hR, hH, ra0, q, rfl⟩, ?_⟩
  rintro i m H ⟨rfl, hi, μ, s, wa, acc, r, ev, R, hH, ra, qr, ht⟩
  have evz := ev.more hdz
  have E : RE Γ H μ (hid D Z) ρ σ := ⟨hE.1, fun j w e => by
    obtain ⟨v, g1, g2⟩ := hE.2 j w e
    exact ⟨v, g1, g2.monoZ evz⟩⟩
  by_cases hlt : i < ws.length
  · have hd : ws.drop i = ws[i] :: ws.drop (i + 1) := List.drop_eq_getElem_cons hlt
    rw [hd] at qr
    simp only [compL] at qr
    split at qr
    · rename_i hst
      obtain ⟨_, hgo⟩ := hw H μ (hid D Z) s evz R (fun _ z => z) (fun _ z => .inl z) (st_of hst)
      obtain ⟨h1, h2⟩ := hgo i ws[i] (List.getElem?_eq_getElem hlt)
      refine .inr ⟨h1, P (i + 1), fun H' p => ⟨_, by omega, rfl, hlt, p⟩, fun x H' hy => ?_⟩
      obtain ⟨e2, R2, r2⟩ := h2 x H' hy
      cases eg : fg ws[i] (wipeD ρ vs) s with
      | none => rw [eg] at qr; cases qr
      | some ρ2 =>
        rw [eg] at qr
        dsimp only at qr
        refine hg H' μ (hid D Z) (wipeD ρ vs) ρ2 s (L2.wipe σ vs) ws[i] x _ ((E.mono e2).wipe vs) R2 r2 eg fun σ2 E2 hwp => ⟨hwp.trans (wipe_wipe σ vs), μ, hid D Z, ρ2, s, E2, R2, ?_⟩
        cases et : tt ρ2 s with
        | no => rw [et] at qr; cases qr
        | er x3 s3 => rw [et] at qr; cases qr
        | ok b s3 =>
          rw [et] at qr
          intro H3 μ3 e3 R3
          have hH3 : H3 D = some (.lst acc) := e3.keep _ _ (e2.keep _ _ hH fun n hn => R.notZ hn (.inl rfl)) fun n hn => R2.notZ hn (.inl rfl)
          have ra3 : RVs Γ H3 μ3 (hid D Z) wa acc := (ra.mono e2).mono e3
          have ev3 : EvoZ (fun a => a = D) H1 μ1 H3 μ3 := (ev.trans e2.z).trans e3.z
          cases b with
          | false =>
            rw [if_neg Bool.false_ne_true]
            exact ⟨μ3, s3, wa, acc, r, ev3, R3, hH3, ra3, qr, ht⟩
          | true =>
            rw [if_pos rfl]
            dsimp only at qr
            refine ⟨μ3, hid D Z, ρ2, s3, E2.mono e3, R3, ?_⟩
            cases ee : elt ρ2 s3 with
            | no => rw [ee] at qr; cases qr
            | er x4 s4 => rw [ee] at qr; cases qr
            | ok y s4 =>
              rw [ee] at qr
              dsimp only at qr
              intro v H4 μ4 e4 R4 r4
              cases ec : compL ow vs fg tt elt ρ (ws.drop (i + 1)) s4 with
              | none => rw [ec] at qr; cases qr
              | some rr =>
                rw [ec] at qr
                obtain ⟨r', s''⟩ := rr
                cases qr
                have hH4 : H4 D = some (.lst acc) := e4.keep _ _ hH3 fun n hn => R3.notZ hn (.inl rfl)
                have hlen : acc.length < sizeLine := by
                  have := ra.len
                  rw [← ht, List.length_append] at hl
                  exact lim_lt (by simp at hl; omega)
                refine ⟨acc, hH4, hlen, μ4, s4, wa ++ [y], acc ++ [v], r', (ev3.trans e4.z).upd, R4.updZ, upd_same, RVs.append (RVs.updZ wa (ra3.mono e4)) (RVs.cons (RV.updZ y r4) rfl), ec, ?_⟩
                rw [← ht]
                simp
    · cases qr
  · have he : i = ws.length := by omega
    subst he
    rw [List.drop_length] at qr
    simp only [compL] at qr
    split at qr
    · rename_i hst
      cases qr
      obtain ⟨hs, _⟩ := hw H μ (hid D Z) _ evz R (fun _ z => z) (fun _ z => .inl z) (st_of hst)
      rw [List.append_nil] at ht
      subst ht
      exact .inl ⟨hs, fin H μ acc ev R hH ra⟩
    · cases qr
theorem comp2_ok {H1 : Hp} {μ1 : Mu} {Z : Zs} {σ : L2.St} {ρ : Env} {s1 s2 : Sto} {g g1 : TG} {fg fg1 : FG} {tt tt1 : FT} {f1 : FI} {elt : FE} {vs vs1 : List Nat} {ow : Option (Nat × List Dv)} {ws tot : List Dv} {J : It} {Qd : Hp → Prop} {D : Addr} (hg : GWk Γ g fg vs) (hg1 : GWk Γ g1 fg1 vs1) (hE : RE Γ H1 μ1 Z ρ σ) (hR : Rep Γ H1 μ1 Z s1) (hw : Walks Γ Z H1 μ1 ow J ws) (hD : H1 D = none)
    (q : compL2 ow vs fg tt f1 vs1 fg1 tt1 elt ρ ws s1 = some (tot, s2)) (hl : tot.length ≤ lim)
    (fin : ∀ H μ acc, Evo H1 μ1 H μ → Rep Γ H μ (hid D Z) s2 → H D = some (.lst acc) → RVs Γ H μ (hid D Z) tot acc → Qd H) :
    ∃ Wn : Nat → Nat → Hp → Prop, (∃ m, Wn 0 m (upd H1 D (.lst []))) ∧ ∀ i m H, Wn i m H → (J.stop i H ∧ Qd H) ∨ (J.go i H ∧ ∃ Nx : Hp → Prop, (∀ H', Nx H' → ∃ m', m' < m ∧ Wn (i + 1) m' H') ∧
      ∀ x H', J.yld i H x H' → g x (L2.wipe σ vs) H' fun σ2 H2 => L2.wipe σ2 vs = L2.wipe σ vs ∧ rdT Γ W0 tt σ2 H2 fun b H3 =>
        if b = true then rdI Γ W0 f1 σ2 H3 fun J1 H4 => ∃ W1 : Nat → Nat → Hp → Prop, (∃ m, W1 0 m H4) ∧ ∀ j k H, W1 j k H →
          (J1.stop j H ∧ Nx H) ∨ (J1.go j H ∧ ∃ Nx1 : Hp → Prop, (∀ H', Nx1 H' → ∃ k', k' < k ∧ W1 (j + 1) k' H') ∧ ∀ x H', J1.yld j H x H' → g1 x (L2.wipe σ2 vs1) H' fun σ3 H5 => L2.wipe σ3 vs1 = L2.wipe σ2 vs1 ∧ rdT Γ W0 tt1 σ3 H5 fun b H6 =>
            if b = true then rdE Γ W0 elt σ3 H6 fun y H7 => ∃ acc, H7 D = some (.lst acc) ∧ acc.length < sizeLine ∧ Nx1 (upd H7 D (.lst (acc ++ [y]))) else Nx1 H6)
        else Nx H3) := by
  let P : Nat → Hp → Prop := fun i H => ∃ μ s wa acc r, Evo H1 μ1 H μ ∧ Rep Γ H μ (hid D Z) s ∧ H D = some (.lst acc) ∧ RVs Γ H μ (hid D Z) wa acc ∧ compL2 ow vs fg tt f1 vs1 fg1 tt1 elt ρ (ws.drop i) s = some (r, s2) ∧ wa ++ r = tot
  refine ⟨fun i m H => m = ws.length - i ∧ i ≤ ws.length ∧ P i H, ⟨ws.length, by omega, Nat.zero_le _, μ1, s1, [], [], tot, Evo.laid hD, hR.hide hD, upd_same, rfl, q, rfl⟩, ?_⟩
  rintro i m H ⟨rfl, hi, μ, s, wa, acc, r, ev, R, hH, ra, qr, ht⟩
  have hz : ∀ a, hid D Z a → Z a ∨ H1 a = none := fun a z => z.elim (fun e => .inr (e ▸ hD)) .inl
  have E : RE Γ H μ (hid D Z) ρ σ := ⟨hE.1, fun j w e => by
    obtain ⟨v, g1, g2⟩ := hE.2 j w e
    exact ⟨v, g1, (RV.strong hz w g2).mono ev⟩⟩
  by_cases hlt : i < ws.length
  · have hd : ws.drop i = ws[i] :: ws.drop (i + 1) := List.drop_eq_getElem_cons hlt
    rw [hd] at qr
    simp only [compL2] at qr
    split at qr
    · rename_i hst
      obtain ⟨_, hgo⟩ := hw H μ (hid D Z) s ev.z R (fun a z => .inr z) hz (st_of hst)
      obtain ⟨h1, h2⟩ := hgo i ws[i] (List.getElem?_eq_getElem hlt)
      refine .inr ⟨h1, P (i + 1), fun H' p => ⟨_, by omega, rfl, hlt, p⟩, fun x H' hy => ?_⟩
      obtain ⟨e2, R2, r2⟩ := h2 x H' hy
      cases eg : fg ws[i] (wipeD ρ vs) s with
      | none => rw [eg] at qr; cases qr
      | some ρ2 =>
        rw [eg] at qr
        dsimp only at qr
        refine hg H' μ (hid D Z) (wipeD ρ vs) ρ2 s (L2.wipe σ vs) ws[i] x _ ((E.mono e2).wipe vs) R2 r2 eg fun σ2 E2 hwp => ⟨hwp.trans (wipe_wipe σ vs), μ, hid D Z, ρ2, s, E2, R2, ?_⟩
        cases et : tt ρ2 s with
        | no => rw [et] at qr; cases qr
        | er x3 s3 => rw [et] at qr; cases qr
        | ok b s3 =>
          rw [et] at qr
          intro H3 μ3 e3 R3
          have hH3 : H3 D = some (.lst acc) := e3.keep _ _ (e2.keep _ _ hH fun n hn => R.notZ hn (.inl rfl)) fun n hn => R2.notZ hn (.inl rfl)
          have ra3 : RVs Γ H3 μ3 (hid D Z) wa acc := (ra.mono e2).mono e3
          cases b with
          | false =>
            rw [if_neg Bool.false_ne_true]
            exact ⟨μ3, s3, wa, acc, r, (ev.trans e2).trans e3, R3, hH3, ra3, qr, ht⟩
          | true =>
            rw [if_pos rfl]
            dsimp only at qr
            refine ⟨μ3, hid D Z, ρ2, s3, E2.mono e3, R3, ?_⟩
            cases ef : f1 ρ2 s3 with
            | no => rw [ef] at qr; cases qr
            | er x4 s4 => rw [ef] at qr; cases qr
            | ok src s4 =>
              rw [ef] at qr
              dsimp only at qr
              intro J1 H4 μ4 e4 R4 w4
              cases ec : compL src.ow vs1 fg1 tt1 elt ρ2 src.ws s4 with
              | none => rw [ec] at qr; cases qr
              | some rr =>
                rw [ec] at qr
                obtain ⟨ys, s5⟩ := rr
                dsimp only at qr
                cases ed : compL2 ow vs fg tt f1 vs1 fg1 tt1 elt ρ (ws.drop (i + 1)) s5 with
                | none => rw [ed] at qr; cases qr
                | some rr =>
                  rw [ed] at qr
                  obtain ⟨r', s''⟩ := rr
                  cases qr
                  have hH4 : H4 D = some (.lst acc) := e4.keep _ _ hH3 fun n hn => R3.notZ hn (.inl rfl)
                  have hlen : (wa ++ ys).length ≤ lim := by
                    rw [← ht] at hl
                    simp at hl ⊢
                    omega
                  exact compin_ok hg1 ((E2.mono e3).mono e4) R4 w4 hH4 (ra3.mono e4) ec hlen fun H5 μ5 acc5 e5 R5 hH5 ra5 => ⟨μ5, s5, wa ++ ys, acc5, r', (((ev.trans e2).trans e3).trans e4).thenZ hD e5, R5, hH5, ra5, ed, by rw [← ht, List.append_assoc]⟩
    · cases qr
  · have he : i = ws.length := by omega
    subst he
    rw [List.drop_length] at qr
    simp only [compL2] at qr
    split at qr
    · rename_i hst
      cases qr
      obtain ⟨hs, _⟩ := hw H μ (hid D Z) _ ev.z R (fun a z => .inr z) hz (st_of hst)
      rw [List.append_nil] at ht
      subst ht
      exact .inl ⟨hs, fin H μ acc ev R hH ra⟩
    · cases qr
theorem ms_setComp2 {i : Nat} {y : Str} {py : Pos} {elt tg iter tg1 iter1 : Expr} {ifs ifs1 : List Expr} {scope : Scope} {own : List (Str × Nat)} {vs1 : List Nat} {pos spos : Pos} {f f1 : FI} {g g1 : TG} {fg fg1 : FG} {tt tt1 : FT} {fe : FE} (hc : X.calm = true) (hN : X.N.Nodup) (hy : X.N[i]? = some y) (hyl : X.env.scope.names.lookup y = some .local)
    (hsw : swapsWith (.ListComp elt [⟨tg, iter, ifs, 0⟩, ⟨tg1, iter1, ifs1, 0⟩] scope pos) (some (.Name y py)) spos.line X.env = pure true) (hi : MI X Γ W tg iter f) (ok : BlkOk X.N X.env.scope scope own) (hv : ∀ i ∈ vs1, i ∈ own.map (·.2))
    (hg : ∀ (s : Shared) (H : Hp) (C : Addr) (cl : List (Str × Addr)) (fp : List Addr), PG (X.blk s H scope (compEnvC scope cl C X.env) fp) tg g) (hw : GWk Γ g fg (own.map (·.2)))
    (ht : ∀ (s : Shared) (H : Hp) (C : Addr) (cl : List (Str × Addr)) (fp : List Addr), MTs (X.blk s H scope (compEnvC scope cl C X.env) fp) Γ ifs tt)
    (hi1 : ∀ (s : Shared) (H : Hp) (C : Addr) (cl : List (Str × Addr)) (fp : List Addr), MI (X.blk s H scope (compEnvC scope cl C X.env) fp) Γ W0 tg1 iter1 f1)
    (hg1 : ∀ (s : Shared) (H : Hp) (C : Addr) (cl : List (Str × Addr)) (fp : List Addr), PG (X.blk s H scope (compEnvC scope cl C X.env) fp) tg1 g1) (hw1 : GWk Γ g1 fg1 vs1)
    (ht1 : ∀ (s : Shared) (H : Hp) (C : Addr) (cl : List (Str × Addr)) (fp : List Addr), MTs (X.blk s H scope (compEnvC scope cl C X.env) fp) Γ ifs1 tt1)
    (he : ∀ (s : Shared) (H : Hp) (C : Addr) (cl : List (Str × Addr)) (fp : List Addr), ME (X.blk s H scope (compEnvC scope cl C X.env) fp) Γ W0 elt fe) (hs : ∀ x, foldedSetIterable iter X.env x = pure x := by intro _; rfl) (hs1 : ∀ env x, foldedSetIterable iter1 env x = pure x := by intro _ _; rfl) :
    MS X Γ W (.Assign [.Name y py] (.ListComp elt [⟨tg, iter, ifs, 0⟩, ⟨tg1, iter1, ifs1, 0⟩] scope pos) spos) (mAsg (mComp2 f (own.map (·.2)) fg tt f1 vs1 fg1 tt1 fe) (gN i)) :=
  PS.imp (ps_setLc2 hc hN hy hyl hsw hi ok hv hg ht hi1 hg1 ht1 he hs hs1) fun D σ H h => by
    obtain ⟨μ, Z, ρ, s, hE, hR, q⟩ := h
    replace q := asg_post hE q
    exact iE hE hR q fun r s1 J H1 μ1 e1 E1 R1 w1 q1 D hD => by
      cases e : compL2 r.ow (own.map (·.2)) fg tt f1 vs1 fg1 tt1 fe ρ r.ws s1 with
      | none => rw [e] at q1; exact q1.elim
      | some p =>
        obtain ⟨tot, s2⟩ := p
        rw [e] at q1
        dsimp only at q1
        split at q1
        · rename_i hl
          exact comp2_ok hw hw1 E1 R1 w1 hD e hl fun H2 μ2 acc ev R2 hH ra => fin_lst R1 hD ev R2 hH ra q1
        · exact q1.elim
end
mutual
def clean (n : Nat) : Dv → Bool
  | .ref k => decide (k < n)
  | .tup ws => cleans n ws
  | .lst ws => cleans n ws
  | .sq ws => cleans n ws
  | .dct _ ws => cleans n ws
  | .dtt kd ws => cleans n kd && cleans n ws
  | .exc _ _ w => clean n w
  | .clo _ _ _ ws _ => cleans n ws
  | _ => true
def cleans (n : Nat) : List Dv → Bool
  | [] => true
  | w :: ws => clean n w && cleans n ws
end
def Ob.clean (n : Nat) : Ob → Bool
  | .lst ws => cleans n ws
  | .dct kws => cleans n (kws.map (·.2))
  | .dtt _ kws => cleans n (kws.map (·.1)) && cleans n (kws.map (·.2))
  | .obj _ fs => cleans n (fs.map (·.2))
  | .tab _ _ => true
def mapO {α β : Type} (f : α → Option β) : List α → Option (List β)
  | [] => some []
  | a :: r => match f a, mapO f r with
    | some b, some bs => some (b :: bs)
    | _, _ => none
/-- lists of the callee's own are handed out as they stand -/
def fz : Nat → Sto → Nat → Dv → Option Dv
  | 0, _, n, w => if clean n w = true then some w else none
  | f + 1, s, n, w => if clean n w = true then some w else match w with
    | .tup ws => (mapO (fz f s n) ws).map .tup
    | .lst ws => (mapO (fz f s n) ws).map .lst
    | .ref k => match s[k]? with
      | some (.lst ws) => (mapO (fz f s n) ws).map .lst
      | some (.dtt true kws) => if cleans n (kws.map (·.1)) = true then (mapO (fz f s n) (kws.map (·.2))).map (.dtt (kws.map (·.1))) else none
      | _ => none
    | _ => none
/-- a def's end: what it made and nobody holds is forgotten -/
def finW (n : Nat) (w : Dv) (s : Sto) : R Dv :=
  if s.length ≤ n then .ok w s else if (s.take n).all (Ob.clean n) = true then match fz 4 s n w with
    | some w' => .ok w' (s.take n)
    | none => .ok w s
  else .ok w s
def finX (n : Nat) (x : Ex) (s : Sto) : R Dv :=
  if s.length ≤ n then .er x s else if (s.take n).all (Ob.clean n) = true then match fz 4 s n x.w with
    | some w' => .er { x with w := w' } (s.take n)
    | none => .er x s
  else .er x s
def finC (n : Nat) : C → R Dv
  | .nx _ s => finW n .non s
  | .rt w s => finW n w s
  | .er x _ s => finX n x s
  | _ => .no
def res (n : Nat) (μ : Mu) : Mu := fun m => if m < n then μ m else none
section
variable {Γ : Ct} {H : Hp} {μ : Mu} {Z : Zs} {s : Sto} {n : Nat}
theorem res_some {m : Nat} {a : Addr} (h : res n μ m = some a) : m < n ∧ μ m = some a := by
  unfold res at h
  split at h
  · exact ⟨by assumption, h⟩
  · cases h
theorem res_lt {m : Nat} {a : Addr} (h : m < n) (q : μ m = some a) : res n μ m = some a := by
  unfold res
  rw [if_pos h, q]
theorem Fz.res {a : Addr} (f : Fz μ Z a) : Fz (res n μ) Z a := ⟨fun m h => f.1 m (res_some h).2, f.2⟩
mutual
theorem RV.res : ∀ (w : Dv) {v : V}, clean n w = true → RV Γ H μ Z w v → RV Γ H (MP.res n μ) Z w v
  | .non, _, _, q => q
  | .bl _, _, _, q => q
  | .int _, _, _, q => q
  | .str _, _, _, q => q
  | .ty _, _, _, q => q
  | .cl _, _, _, q => q
  | .ref k, _, c, q => by
    obtain ⟨a, h1, h2⟩ := q
    exact ⟨a, h1, res_lt (of_decide_eq_true c) h2⟩
  | .tup ws, _, c, q => by
    obtain ⟨a, xs, h1, h2, h3⟩ := q
    exact ⟨a, xs, h1, h2.elim (fun z => .inl ⟨z.1, z.2.res⟩) .inr, RVs.res ws c h3⟩
  | .sq ws, _, c, q => by
    obtain ⟨a, xs, h1, h2, h3⟩ := q
    exact ⟨a, xs, h1, h2.elim (fun z => .inl ⟨z.1, z.2.res⟩) .inr, RVs.res ws c h3⟩
  | .lst ws, _, c, q => by
    obtain ⟨a, xs, h1, h2, h3, h4⟩ := q
    exact ⟨a, xs, h1, h2, h3.res, RVs.res ws c h4⟩
  | .dct ks ws, _, c, q => by
    obtain ⟨a, kvs, h1, h2, h3, h4, h5⟩ := q
    exact ⟨a, kvs, h1, h2, h3.res, h4, RVs.res ws c h5⟩
  | .dtt kd ws, _, c, q => by
    obtain ⟨a, kvs, h1, h2, h3, h4, h5, h6⟩ := q
    have c' : cleans n kd = true ∧ cleans n ws = true := Bool.and_eq_true_iff.mp c
    exact ⟨a, kvs, h1, h2, h3.res, h4, RVs.res kd c'.1 h5, RVs.res ws c'.2 h6⟩
  | .exc cc f w, _, c, q => by
    obtain ⟨a, dx, x, h1, h2, h3, h4, h5, h6⟩ := q
    exact ⟨a, dx, x, h1, h2, h3.res, h4, h5.res, RV.res w c h6⟩
  | .exn cc, _, c, q => by
    obtain ⟨a, h1, h2, h3⟩ := q
    exact ⟨a, h1, h2, h3.res⟩
  | .clo a b _ ws vs, _, c, q => by
    obtain ⟨h1, h2, h3, h4⟩ := q
    exact ⟨h1, h2, h3.res, RVs.res ws c h4⟩
theorem RVs.res : ∀ (ws : List Dv) {vs : List V}, cleans n ws = true → RVs Γ H μ Z ws vs → RVs Γ H (MP.res n μ) Z ws vs
  | [], _, _, q => q
  | w :: ws, _, c, q => by
    obtain ⟨x, xs, h1, h2, h3⟩ := q
    have c' : clean n w = true ∧ cleans n ws = true := Bool.and_eq_true_iff.mp c
    exact ⟨x, xs, h1, RV.res w c'.1 h2, RVs.res ws c'.2 h3⟩
end
theorem mapO_ok {f : Dv → Option Dv} (hf : ∀ w w' v, f w = some w' → RV Γ H μ Z w v → RV Γ H (res n μ) Z w' v) : ∀ (ws ws' : List Dv) (vs : List V), mapO f ws = some ws' → RVs Γ H μ Z ws vs → RVs Γ H (res n μ) Z ws' vs
  | [], _, _, e, q => by cases e; exact q
  | w :: ws, _, _, e, q => by
    obtain ⟨x, xs, rfl, h2, h3⟩ := q
    simp only [mapO] at e
    split at e
    · rename_i b bs e1 e2
      cases e
      exact RVs.cons (hf _ _ _ e1 h2) (mapO_ok hf ws bs xs e2 h3)
    · cases e
theorem fz_ok (hR : Rep Γ H μ Z s) : ∀ (f : Nat) (w w' : Dv) (v : V), fz f s n w = some w' → RV Γ H μ Z w v → RV Γ H (res n μ) Z w' v := fun f => by
  induction f with
  | zero =>
    intro w w' v e q
    simp only [fz] at e
    split at e
    · cases e; exact q.res w (by assumption)
    · cases e
  | succ f ih =>
    intro w w' v e q
    simp only [fz] at e
    split at e
    · cases e; exact q.res w (by assumption)
    · rename_i hc
      split at e
      · rename_i ws
        cases em : mapO (fz f s n) ws with
        | none => rw [em] at e; cases e
        | some us =>
          rw [em] at e
          cases e
          obtain ⟨a, xs, h1, h2, h3⟩ := q
          exact ⟨a, xs, h1, h2.elim (fun z => .inl ⟨z.1, z.2.res⟩) .inr, mapO_ok (fun w w' v => ih w w' v) _ _ _ em h3⟩
      · rename_i ws
        cases em : mapO (fz f s n) ws with
        | none => rw [em] at e; cases e
        | some us =>
          rw [em] at e
          cases e
          obtain ⟨a, xs, h1, h2, h3, h4⟩ := q
          exact ⟨a, xs, h1, h2, h3.res, mapO_ok (fun w w' v => ih w w' v) _ _ _ em h4⟩
      · rename_i k
        split at e
        · rename_i ws es
          cases em : mapO (fz f s n) ws with
          | none => rw [em] at e; cases e
          | some us =>
            rw [em] at e
            cases e
            obtain ⟨a, h1, h2⟩ := q
            obtain ⟨b, g1, g2, xs, g3, g4⟩ := hR.at k _ es
            rw [h2] at g1
            cases g1
            refine ⟨a, xs, h1, g3, ⟨fun m hm => ?_, g2⟩, mapO_ok (fun w w' v => ih w w' v) _ _ _ em g4⟩
            obtain ⟨m1, m2⟩ := res_some hm
            have := hR.inj _ _ _ m2 h2
            subst this
            exact hc (decide_eq_true m1)
        · rename_i kws es
          split at e
          · rename_i hck
            cases em : mapO (fz f s n) (kws.map (·.2)) with
            | none => rw [em] at e; cases e
            | some us =>
              rw [em] at e
              cases e
              obtain ⟨a, h1, h2⟩ := q
              obtain ⟨b, g1, g2, kvs, g3, g4, g5, g6⟩ := hR.at k _ es
              rw [h2] at g1
              cases g1
              have r6 := mapO_ok (fun w w' v => ih w w' v) _ _ _ em g6
              refine ⟨a, kvs, h1, g3, ⟨fun m hm => ?_, g2⟩, ⟨g4.1, ?_⟩, RVs.res _ hck g5, r6⟩
              · obtain ⟨m1, m2⟩ := res_some hm
                have := hR.inj _ _ _ m2 h2
                subst this
                exact hc (decide_eq_true m1)
              · have l6 := r6.len
                rw [List.length_map] at l6
                exact l6.symm
          · cases e
        · cases e
      · cases e
theorem RO.res {a : Addr} {ob : Ob} (c : ob.clean n = true) (h : RO Γ H μ Z a ob) : RO Γ H (MP.res n μ) Z a ob := by
  cases ob with
  | lst ws =>
    obtain ⟨xs, h1, h2⟩ := h
    exact ⟨xs, h1, h2.res ws c⟩
  | dct kws =>
    obtain ⟨kvs, h1, h2, h3⟩ := h
    exact ⟨kvs, h1, h2, h3.res _ c⟩
  | dtt fr kws =>
    obtain ⟨kvs, h1, h2, h3, h4⟩ := h
    have c' : cleans n (kws.map (·.1)) = true ∧ cleans n (kws.map (·.2)) = true := Bool.and_eq_true_iff.mp c
    exact ⟨kvs, h1, h2, h3.res _ c'.1, h4.res _ c'.2⟩
  | obj c fs =>
    obtain ⟨dx, kvs, h1, h2, h3⟩ := h
    exact ⟨dx, kvs, h1, h2, h3.res _ c⟩
  | tab m q => exact ⟨h.1, tab_imp rfl (fun c e1 e2 => ⟨e1, e2.res⟩) h.2⟩
theorem Rep.res (hR : Rep Γ H μ Z s) (hn : n ≤ s.length) (c : (s.take n).all (Ob.clean n) = true) : Rep Γ H (MP.res n μ) Z (s.take n) := ⟨fun m ob q => by
  have hm : m < n := by
    have := (List.getElem?_eq_some_iff.mp q).1
    rw [List.length_take] at this
    omega
  have q' : s[m]? = some ob := by rw [List.getElem?_take_of_lt hm] at q; exact q
  obtain ⟨a, h1, h2, h3⟩ := hR.at m ob q'
  exact ⟨a, res_lt hm h1, h2, h3.res (List.all_eq_true.mp c ob (List.mem_of_getElem? q))⟩,
  fun m k a h1 h2 => hR.inj _ _ _ (res_some h1).2 (res_some h2).2, fun m a h => by rw [List.length_take]; have := (res_some h).1; omega, hR.za⟩
theorem Evo.res {H0 : Hp} {μ0 : Mu} (e : Evo H0 μ0 H μ) (hd : ∀ m a, μ0 m = some a → m < n) : Evo H0 μ0 H (MP.res n μ) :=
  ⟨e.keep, fun m a h => res_lt (hd m a h) (e.mu m a h), fun m a h => e.new m a (res_some h).2, e.stay⟩
end
/-- what a def promises -/
def spM (Γ : Ct) (ps : List Str) (den : Fn) : Sp := fun vs H Q E => vs.length = ps.length ∧ ∃ μ Z s ws, Rep Γ H μ Z s ∧ RVs Γ H μ Z ws vs ∧ PostE Γ (fun c d _ H => E c d H) H μ Z [] Q (den ws s)
structure FnG (P : Program) (w : World) (mg : Str → Option Value) (base : Heap) (Γ : Ct) (k : Nat) (f : Addr) (fd : FuncData) (ps : List Str) (den : Fn) : Prop where
  run : ∀ (A : Around) (outer : List PySem.Env) (s : Shared) (H : Hp) (args : Args) (us : List Value) (vs : List V) (Q : VK) (E : XK), Room k A → A.guards = some [] → Env0 P w Γ.K mg base A outer s H → BindsTo s fd args (ps.zip us) → Vals vs us → spM Γ ps den vs H Q E →
    codeAny (model P w) A (.call (.ref f) args) (CR (L2.CX P w) outer P w H s Q E) s
def startD (n : Nat) (ws : List Dv) : Env := ws.map some ++ List.replicate (n - ws.length) none
def denOf (n : Nat) (body : FS) : Fn := fun ws s => finC s.length (body (startD n ws) s)
theorem re_start {Γ : Ct} {H : Hp} {μ : Mu} {Z : Zs} {N : List Str} {ws : List Dv} {vs : List V} (r : RVs Γ H μ Z ws vs) : RE Γ H μ Z (startD N.length ws) (L2.start N vs) := by
  have hl := r.len
  refine ⟨?_, fun i w q => ?_⟩
  · unfold startD L2.start
    rw [List.length_append, List.length_append, List.length_map, List.length_map, List.length_replicate, List.length_replicate, hl]
  · unfold startD at q
    unfold L2.start
    by_cases hi : i < ws.length
    · rw [List.getElem?_append_left (by rw [List.length_map]; exact hi), List.getElem?_map] at q
      rw [List.getElem?_append_left (by rw [List.length_map, hl]; exact hi), List.getElem?_map]
      cases e : ws[i]? with
      | none => rw [e] at q; cases q
      | some u =>
        rw [e] at q
        cases q
        obtain ⟨x, h1, h2⟩ := r.get e
        exact ⟨x, by rw [h1]; rfl, h2⟩
    · rw [List.getElem?_append_right (by rw [List.length_map]; omega), List.getElem?_replicate] at q
      split at q <;> cases q
end MP
set_option Elab.async false
set_option linter.all false
set_option maxRecDepth 100000
set_option maxHeartbeats 4000000
namespace MP
open PySem PySem.Spec PyProof.Rows L2
/-- the end of a body is the end of its def -/
theorem body_end {Γ : Ct} {H : Hp} {μ : Mu} {Z : Zs} {s : Sto} {Q : VK} {E : XK} {c : C} (hR : Rep Γ H μ Z s) (q : PostE Γ (fun c d _ H => E c d H) H μ Z [] Q (finC s.length c)) :
    PostS Γ (fun c d _ H => E c d H) H μ Z { nx := fun _ H' => Q .non H', rt := Q } c := by
  have key : ∀ (w : Dv) (s' : Sto), PostE Γ (fun c d _ H => E c d H) H μ Z [] Q (finW s.length w s') → ∀ v H' μ', Evo H μ H' μ' → Rep Γ H' μ' Z s' → RV Γ H' μ' Z w v → Q v H' := fun w s' q v H' μ' ev R' r' => by
    unfold finW at q
    split at q
    · exact q v H' μ' ev R' r'
    · rename_i hl
      split at q
      · rename_i hc
        split at q
        · rename_i w' e
          exact q v H' _ (ev.res hR.dom) (R'.res (by omega) hc) (fz_ok R' 4 w w' v e r')
        · exact q v H' μ' ev R' r'
      · exact q v H' μ' ev R' r'
  cases c with
  | nx ρ' s' => exact fun σ' H' μ' ev R' _ => key .non s' q .non H' μ' ev R' rfl
  | rt w s' => exact fun v H' μ' ev R' r' => key w s' q v H' μ' ev R' r'
  | bk ρ' s' => exact q.elim
  | ct ρ' s' => exact q.elim
  | no => exact q.elim
  | er x ρ' s' =>
    intro c d σ' H' μ' ev R' _ rx
    unfold finC finX at q
    dsimp only at q
    split at q
    · exact q c d H' μ' ev R' rx
    · rename_i hl
      split at q
      · rename_i hc
        split at q
        · rename_i w' e
          rcases rx with rx | ⟨h0, h1, dd, v, h2, h3, h4, h5⟩
          · exact q c d H' _ (ev.res hR.dom) (R'.res (by omega) hc) (.inl rx)
          · exact q c d H' _ (ev.res hR.dom) (R'.res (by omega) hc) (.inr ⟨h0, h1, dd, v, h2, h3, h4.res, fz_ok R' 4 _ w' v e h5⟩)
        · exact q c d H' μ' ev R' rx
      · exact q c d H' μ' ev R' rx
abbrev envF (qual : Str) (st : Stmt) (s : Shared) (f : Addr) (cdv : Value) : PySem.Env := envOfC qual (defScope st) s.heap.objs.size f cdv
abbrev cxF (Γ : Ct) (P : Program) (w : World) (mg : Str → Option Value) (base : Heap) (N : List Str) (qual : Str) (st : Stmt) (f : Addr) (cdv : Value) (A : Around) (outer : List PySem.Env) (s : Shared) (H : Hp) (E : XK) : Cx :=
  cxOf (L2.CX P w) P w Γ.K mg base N qual (defScope st) f cdv A outer s H E
/-- A def keeps what its body's reading says -/
theorem ok_fn {P : Program} {w : World} {mg : Str → Option Value} {base : Heap} {Γ : Ct} {x qual : Str} {st : Stmt} {f : Addr} {fd : FuncData} {N ps : List Str} {k : Nat} {c : FS} (F : Fun Γ.K x qual st f fd) (S : FnScope N ps (defScope st))
    (hbody : ∀ (cdv : Value) (A : Around) (outer : List PySem.Env) (s : Shared) (H : Hp) (E : XK) (W : WX), Room k (A.deeper (envF qual st s f cdv)) → (A.deeper (envF qual st s f cdv)).guards = some [] → Takes (cxF Γ P w mg base N qual st f cdv A outer s H E) W →
      MB (cxF Γ P w mg base N qual st f cdv A outer s H E) Γ W (defBody st) c) : FnG P w mg base Γ (k + 1) f fd ps (denOf N.length c) := by
  obtain ⟨oc, od, kV, doc, pm, an, cdv, ct, osl, rfl, lk, hcd⟩ := F.ex
  refine ⟨fun A outer s H args us vs Q E room guards e0 binds rel ⟨hlen, μ, Z, st0, ws, hR, rws, post⟩ => ?_⟩
  have stays : ∀ b o, base.get? b = some o → s.heap.get? b = some o := fun b o e => (e0.bs b o e).1
  have inK : Γ.K.In s.heap := e0.mod.kin.keeps stays
  have kinds : ∀ y ∈ ps.zip us, (defScope st).names.lookup y.1 = some .local ∨ ((defScope st).names.lookup y.1 = some .cell ∧ ((cellsFrom (s.heap.objs.size + 1) (defScope st).names []).lookup y.1).isSome = true) := by
    rintro ⟨n, v⟩ hy
    exact (S.par n (List.of_mem_zip hy).1).imp id fun q => ⟨q, PySem.W.cellsFrom_some _ _ _ (.inl q)⟩
  refine codeAny_call_function room.depth (inK _ _ lk) rfl S.co S.gen rfl (PySem.W.codeRec_of inK hcd) (binds _ _ _ _ ?_)
  refine wpAny_newFunctionEnv_cells S.kind kinds fun env he s1 entered => ?_
  subst he
  refine ⟨(e0.mod.nolimit.keeps stays).keeps entered.toInCall.keep, codeAny_func ?_⟩
  have I := inv_start (CX := L2.CX P w) (E := E) (cd := cdv) S room.hd e0 hlen rel entered
  have tk : Takes (cxF Γ P w mg base N qual st f cdv A outer s H E) (fun cls d _ H' => E cls d H') := takes_of rfl rfl rfl rfl
  have run := (hbody cdv A outer s H E _ (room.deeper _) (by show (A.deeper _).guards = _; rw [← guards]; rfl) tk).run [] s1 (L2.start N vs) H { nx := fun _ H' => Q .non H', rt := Q } I
    ⟨μ, Z, startD N.length ws, st0, re_start rws, hR, body_end hR post⟩
  refine wpAny_mono run (fun fl s' hs => ?_) fun e s' hs => hs
  cases fl with
  | ret u =>
    obtain ⟨v, σ', H', J, rv, q⟩ := hs
    exact ⟨v, H', J.os, J.bare, J.base, J.hok, rv, q⟩
  | next =>
    obtain ⟨σ', H', J, q⟩ := hs
    exact ⟨V.non, H', J.os, J.bare, J.base, J.hok, rfl, q⟩
  | brk => exact hs.elim fun _ z => z.elim fun _ z => z.2.elim
  | cont => exact hs.elim fun _ z => z.elim fun _ z => z.2.elim
section
variable {X : Cx} {Γ : Ct} {W : WX} {k : Nat} {f : Addr} {fd : FuncData} {ps : List Str} {den : Fn} {x : Str} {p pos : Pos} {e : Expr} {es : List Expr} {fa : FA}
def mCall (den : Fn) (fa : FA) : FE := fun ρ s => (fa ρ s).bind den
theorem post_call {H : Hp} {μ : Mu} {Z : Zs} {σ : L2.St} {Q : VK} {r : R Dv} (h : PostE Γ W H μ Z σ Q r) : PostE Γ (fun c d _ H' => WE W σ c d H') H μ Z [] Q r := by
  cases r with
  | ok w s => exact h
  | er x s => exact h
  | no => exact h
theorem run_G {pins : List (Addr × Obj)} {σ : L2.St} {H : Hp} {s : Shared} {Q : VK} {us : List Value} {ds : List Value} {vs dvs : List V} (F : FnG X.prog X.w X.mg X.base Γ k f fd ps den) (hK : Γ.K = X.K) (hr : Room k X.A) (hg : X.A.guards = some []) (hb : Binds X.K fd ps ds) (hd : Vals dvs ds) (tk : Takes X W)
    (I : Inv X pins σ H s) (r : Vals vs us) (h : spM Γ ps den (vs ++ dvs) H Q (WE W σ)) : wpAny (model X.prog X.w) X.A (call (.ref f) us) (EP X pins σ Q) X.xe s := by
  have r2 : Vals (vs ++ dvs) (us ++ ds) := r.append hd
  have hl : (us ++ ds).length = ps.length := r2.length.symm.trans h.1
  refine wpAny_call (codeAny_mono (F.run X.A X.stack s H ⟨us, []⟩ (us ++ ds) (vs ++ dvs) Q (WE W σ) hr hg (by rw [hK]; exact I.env0) (hb s us I.kIn hl) r2 h) fun r' s' hq => ?_)
  cases r' with
  | error e => exact passAt tk σ pins H s e s' I hq
  | ok fl =>
    cases fl with
    | ret u => exact I.after hq
    | next => exact hq.elim
    | brk => exact hq.elim
    | cont => exact hq.elim
/-- f(e, ..), f a def of the text; ds its defaults -/
theorem me_call {ds : List Value} {dvs : List V} {dws : List Dv} (F : FnG X.prog X.w X.mg X.base Γ k f fd ps den) (hK : Γ.K = X.K) (hr : Room k X.A) (hg : X.A.guards = some []) (hgl : Gl X x) (hm : X.mg x = some (.ref f)) (hk : PySem.W.keepIn X.K (.ref f) = true) (hb : Binds X.K fd ps ds) (hd : Vals dvs ds)
    (hdw : ∀ H μ Z, RVs Γ H μ Z dws dvs) (n : Nat) (hn : n + dws.length = ps.length) (hnl : (e :: es).length = n) (tk : Takes X W) (ha : MA X Γ W (e :: es) fa) (hlen : ∀ ρ s ws s', fa ρ s = .ok ws s' → ws.length = n) (hdb : (x == ("__debug__" : Str)) = false := by decide)
    (he : starEach (e :: es) X.env = (false, eval e X.env) :: starEach es X.env := by rfl) (hpl : (backTo pos (starEach es X.env)).any (·.1) = false := by rfl) :
    ME X Γ W (.Call (.Name x p) (e :: es) [] pos) (mCall (fun ws => den (ws ++ dws)) fa) := by
  refine ⟨fun pins s σ H Q I ⟨μ, Z, ρ, s0, hE, hR, q⟩ => ?_⟩
  refine wpAny_Call_Name_kw (ld_glob I hgl hm ?_ hdb)
  have q' : rdA Γ W fa σ H fun vs H1 => spM Γ ps den (vs ++ dvs) H1 Q (WE W σ) := by
    refine ⟨μ, Z, ρ, s0, hE, hR, ?_⟩
    unfold mCall at q
    cases e1 : fa ρ s0 with
    | ok ws s1 =>
      rw [e1] at q
      have q2 : PostE Γ W H μ Z σ Q (den (ws ++ dws) s1) := q
      intro vs H1 μ1 ev R1 r1
      refine ⟨?_, μ1, Z, s1, ws ++ dws, R1, r1.append (hdw H1 μ1 Z), post_call (PostE.evo ev q2)⟩
      rw [List.length_append, r1.len, hlen _ _ _ _ e1, (hdw H1 μ1 Z).len, hn]
    | er x1 s1 => rw [e1] at q; exact q
    | no => rw [e1] at q; exact q
  refine PySem.W.callWith_K (h₀ := X.base) I.ok.mod.kin hk (thn (ha.run pos pins s σ H _ I q') fun us s1 ⟨vs, H1, I1, r, z⟩ => ⟨I1.kIn, ?_⟩) he hpl
  exact run_G F hK hr hg hb hd tk I1 r z
end
end MP
set_option Elab.async false
set_option linter.all false
set_option maxRecDepth 100000
set_option maxHeartbeats 4000000
namespace MP
open PySem PySem.Spec PyProof.Rows L2
abbrev ON := Sto → List Dv → Option Dv
def OpN (Γ : Ct) (r : List V → Hp → VK → Prop) (op : ON) : Prop := ∀ (H : Hp) (μ : Mu) (Z : Zs) (s : Sto) (xs : List Dv) (w : Dv) (vs : List V) (Q : VK), Rep Γ H μ Z s → RVs Γ H μ Z xs vs → op s xs = some w →
  (∀ v' H', Evo H μ H' μ → Rep Γ H' μ Z s → RV Γ H' μ Z w v' → Q v' H') → r vs H Q
def mBlt (op : ON) (fa : FA) : FE := fun ρ s => (fa ρ s).bind fun ws s1 => R.of (op s1 ws) s1
section
variable {X : Cx} {Γ : Ct} {W : WX} {x : Str} {p pos : Pos} {e : Expr} {es : List Expr} {fa : FA} {id T : String} {r r' : List V → Hp → VK → Prop} {op op' : ON}
theorem blt_ok {t : TE} {ta : TA} (ht : t = tCB r (rdA Γ W fa)) (hs : OpN Γ r op) (h : PE X e t) : ME X Γ W e (mBlt op fa) := by
  subst ht
  exact PE.imp h fun σ H Q ⟨μ, Z, ρ, s, hE, hR, q⟩ => aE hE hR q fun ws s1 vs H1 μ1 e1 E1 R1 r1 q1 => by
    obtain ⟨w, hw, k⟩ := ofE q1
    exact hs H1 μ1 Z s1 ws w vs Q R1 r1 hw k
theorem me_callB (hc : CallR X (.builtin id) r) (hs : OpN Γ r op) (hg : Gl X x) (hm : X.mg x = none) (hv : bootBuiltins x = some (.builtin id)) (ha : MA X Γ W (e :: es) fa) (hn : x ≠ "__name__" := by decide) (hdb : (x == ("__debug__" : Str)) = false := by decide)
    (he : starEach (e :: es) X.env = (false, eval e X.env) :: starEach es X.env := by rfl) (hpl : (backTo pos (starEach es X.env)).any (·.1) = false := by rfl) : ME X Γ W (.Call (.Name x p) (e :: es) [] pos) (mBlt op fa) :=
  blt_ok (ta := rdA Γ W fa) rfl hs (pe_callB hc hg hm hv ha hn hdb he hpl)
theorem me_callTy (hc : CallR X (.type T) r) (hs : OpN Γ r op) (hg : Gl X x) (hm : X.mg x = none) (hv : bootBuiltins x = some (.type T)) (ha : MA X Γ W (e :: es) fa) (hn : x ≠ "__name__" := by decide) (hdb : (x == ("__debug__" : Str)) = false := by decide)
    (he : starEach (e :: es) X.env = (false, eval e X.env) :: starEach es X.env := by rfl) (hpl : (backTo pos (starEach es X.env)).any (·.1) = false := by rfl) : ME X Γ W (.Call (.Name x p) (e :: es) [] pos) (mBlt op fa) :=
  blt_ok (ta := rdA Γ W fa) rfl hs (pe_callTy hc hg hm hv ha hn hdb he hpl)
theorem OpN.or (h : OpN Γ r op) (h' : OpN Γ r' op') : OpN Γ (fun x H Q => r x H Q ∨ r' x H Q) (fun s xs => match op s xs with
    | some w => some w
    | none => op' s xs) := fun H μ Z s xs w vs Q hR rx e k => by
  dsimp only at e
  split at e
  · rename_i w' e'
    cases e
    exact .inl (h H μ Z s xs _ vs Q hR rx e' k)
  · exact .inr (h' H μ Z s xs w vs Q hR rx e k)
/-- len -/
def lenD : ON := fun s xs => match xs with
  | [.str x] => if x.length ≤ lim then some (.int x.length) else none
  | [x] => (seqOf s x).map fun ws => .int ws.length
  | _ => none
theorem one {H : Hp} {μ : Mu} {Z : Zs} {x : Dv} {vs : List V} (r : RVs Γ H μ Z [x] vs) : ∃ v, vs = [v] ∧ RV Γ H μ Z x v := by
  obtain ⟨v, xs, rfl, h1, h2⟩ := r
  exact ⟨v, by rw [show xs = [] from h2], h1⟩
theorem two {H : Hp} {μ : Mu} {Z : Zs} {x y : Dv} {vs : List V} (r : RVs Γ H μ Z [x, y] vs) : ∃ v u, vs = [v, u] ∧ RV Γ H μ Z x v ∧ RV Γ H μ Z y u := by
  obtain ⟨v, xs, rfl, h1, u, ys, rfl, h2, h3⟩ := r
  exact ⟨v, u, by rw [show ys = [] from h3], h1, h2⟩
theorem sLen (hK : Γ.K = X.K) : OpN Γ (fun xs H Q => ∃ x n, xs = [x] ∧ LenV X.K x H n ∧ Q (.int n) H) lenD := fun H μ Z s xs w vs Q hR rx e k => by
  rw [← hK]
  unfold lenD at e
  split at e
  · rename_i y
    split at e
    · rename_i hl
      cases e
      obtain ⟨v, rfl, r1⟩ := one rx
      exact ⟨v, _, rfl, by rw [show v = .str y from r1]; exact ⟨lim_ok hl, rfl⟩, k _ H .refl hR rfl⟩
    · cases e
  · rename_i y _
    cases q : seqOf s y with
    | none => rw [q] at e; cases e
    | some ws =>
      rw [q] at e
      cases e
      obtain ⟨v, rfl, r1⟩ := one rx
      obtain ⟨a, ys, rfl, h2, h3⟩ := seqOf_ok hR r1 q
      refine ⟨_, ws.length, rfl, ?_, k _ H .refl hR rfl⟩
      rcases h2 with h2 | h2
      · exact .inl ⟨ys, h2, h3.len.symm⟩
      · exact .inr ⟨ys, h2, h3.len.symm⟩
  · cases e
/-- tuple(xs), list(xs) -/
def tupleD : ON := fun s xs => match xs with
  | [.tup ws] => some (.tup ws)
  | [.sq ws] => some (.tup ws)
  | [x] => (lstOf s x).map .tup
  | _ => none
theorem sTuple (hK : Γ.K = X.K) : OpN Γ (fun xs H Q => ∃ p ys, xs = [.ref p] ∧ ((SqL X.K H p ys ∧ ∀ l, H l = none → Q (.ref l) (upd H l (.tup ys))) ∨ (SqT X.K H p ys ∧ Q (.ref p) H))) tupleD := fun H μ Z s xs w vs Q hR rx e k => by
  rw [← hK]
  unfold tupleD at e
  split at e
  · cases e
    obtain ⟨v, rfl, a, ys, rfl, h2, h3⟩ := one rx
    exact ⟨a, ys, rfl, .inr ⟨h2.sq, k _ H .refl hR ⟨a, ys, rfl, h2, h3⟩⟩⟩
  · cases e
    obtain ⟨v, rfl, a, ys, rfl, h2, h3⟩ := one rx
    exact ⟨a, ys, rfl, .inl ⟨h2.sq, fun l hl => k _ _ (Evo.laid hl) (hR.laid hl) (new_tup hR hl h3)⟩⟩
  · rename_i y _ _
    cases q : lstOf s y with
    | none => rw [q] at e; cases e
    | some ws =>
      rw [q] at e
      cases e
      obtain ⟨v, rfl, r1⟩ := one rx
      obtain ⟨a, ys, rfl, h2, h3⟩ := lstOf_ok hR r1 q
      exact ⟨a, ys, rfl, .inl ⟨SqL.of h2, fun l hl => k _ _ (Evo.laid hl) (hR.laid hl) (new_tup hR hl h3)⟩⟩
  · cases e
/-- ints of a list -/
def intOf : Dv → Option Int
  | .int i => some i
  | _ => none
def intsOf (ws : List Dv) : Option (List Int) := mapO intOf ws
theorem intsOf_ok : ∀ {ws : List Dv} {ns : List Int}, intsOf ws = some ns → ws = ns.map .int
  | [], ns, e => by cases e; rfl
  | w :: ws, ns, e => by
    unfold intsOf at e
    simp only [mapO] at e
    split at e
    · rename_i b bs e1 e2
      cases e
      rw [intsOf_ok (ws := ws) (ns := bs) e2]
      cases w with
      | int i => cases e1; rfl
      | _ => cases e1
    · cases e
theorem intsOf_map : ∀ ns : List Int, intsOf (ns.map .int) = some ns
  | [] => rfl
  | n :: ns => by
    have := intsOf_map ns
    unfold intsOf at this ⊢
    rw [List.map_cons, mapO, this]
    rfl
/-- sorting by insertion -/
def ins (a : Int) : List Int → List Int
  | [] => [a]
  | b :: r => if a ≤ b then a :: b :: r else b :: ins a r
def srt : List Int → List Int
  | [] => []
  | a :: r => ins a (srt r)
theorem ins_perm (a : Int) : ∀ l : List Int, (ins a l).Perm (a :: l)
  | [] => .refl _
  | b :: r => by
    unfold ins
    split
    · exact .refl _
    · exact ((ins_perm a r).cons b).trans (.swap a b r)
theorem srt_perm : ∀ l : List Int, (srt l).Perm l
  | [] => .refl _
  | a :: r => (ins_perm a (srt r)).trans ((srt_perm r).cons a)
theorem ins_sorted (a : Int) : ∀ l : List Int, l.Pairwise (· ≤ ·) → (ins a l).Pairwise (· ≤ ·)
  | [], _ => List.pairwise_singleton _ _
  | b :: r, h => by
    unfold ins
    obtain ⟨h1, h2⟩ := List.pairwise_cons.mp h
    split
    · rename_i hab
      refine List.pairwise_cons.mpr ⟨fun c hc => ?_, h⟩
      rcases List.mem_cons.mp hc with e | e
      · rw [e]; exact hab
      · exact Int.le_trans hab (h1 c e)
    · rename_i hab
      refine List.pairwise_cons.mpr ⟨fun c hc => ?_, ins_sorted a r h2⟩
      rcases List.mem_cons.mp ((ins_perm a r).mem_iff.mp hc) with e | e
      · rw [e]; omega
      · exact h1 c e
theorem srt_sorted : ∀ l : List Int, (srt l).Pairwise (· ≤ ·)
  | [] => .nil
  | a :: r => ins_sorted a _ (srt_sorted r)
theorem sorted_eq : ∀ {l l' : List Int}, l.Perm l' → l.Pairwise (· ≤ ·) → l'.Pairwise (· ≤ ·) → l = l'
  | [], l', p, _, _ => (List.nil_perm.mp p).symm
  | a :: r, [], p, _, _ => (List.cons_ne_nil a r (List.perm_nil.mp p)).elim
  | a :: r, b :: t, p, h, h' => by
    obtain ⟨h1, h2⟩ := List.pairwise_cons.mp h
    obtain ⟨g1, g2⟩ := List.pairwise_cons.mp h'
    have hab : a = b := by
      have ha : a ∈ b :: t := p.mem_iff.mp List.mem_cons_self
      have hb : b ∈ a :: r := p.mem_iff.mpr List.mem_cons_self
      rcases List.mem_cons.mp ha with e | e
      · exact e
      · rcases List.mem_cons.mp hb with e' | e'
        · exact e'.symm
        · exact Int.le_antisymm (h1 b e') (g1 a e)
    subst hab
    rw [sorted_eq (List.perm_cons a |>.mp p) h2 g2]
theorem srt_uniq {l l' : List Int} (p : l'.Perm l) (h : l'.Pairwise (· ≤ ·)) : l' = srt l := sorted_eq (p.trans (srt_perm l).symm) h (srt_sorted l)
def sortedD : ON := fun s xs => match xs with
  | [x] => match lstOf s x with
    | some ws => (intsOf ws).map fun ns => .lst ((srt ns).map .int)
    | none => none
  | _ => none
theorem sSorted (hK : Γ.K = X.K) : OpN Γ (rSortedI X.K) sortedD := fun H μ Z s xs w vs Q hR rx e k => by
  rw [← hK]
  unfold sortedD at e
  split at e
  · rename_i y
    split at e
    · rename_i ws q
      cases q2 : intsOf ws with
      | none => rw [q2] at e; cases e
      | some ns =>
        rw [q2] at e
        cases e
        obtain ⟨v, rfl, r1⟩ := one rx
        obtain ⟨a, ys, rfl, h2, h3⟩ := lstOf_ok hR r1 q
        rw [intsOf_ok q2] at h3
        have h4 := h3.ints
        subst h4
        refine ⟨a, ns, rfl, SqL.of h2, fun ns' p hp hs hn => ?_⟩
        rw [srt_uniq hp hs]
        exact k _ _ (Evo.laid hn) (hR.laid hn) (new_lst hR hn (RVs.of_ints _))
    · cases e
  · cases e
def sumD : ON := fun s xs => match xs with
  | [x] => match lstOf s x with
    | some ws => (intsOf ws).map fun ns => .int ns.sum
    | none => none
  | _ => none
theorem sSum (hK : Γ.K = X.K) : OpN Γ (rSum X.K) sumD := fun H μ Z s xs w vs Q hR rx e k => by
  rw [← hK]
  unfold sumD at e
  split at e
  · rename_i y
    split at e
    · rename_i ws q
      cases q2 : intsOf ws with
      | none => rw [q2] at e; cases e
      | some ns =>
        rw [q2] at e
        cases e
        obtain ⟨v, rfl, r1⟩ := one rx
        obtain ⟨a, ys, rfl, h2, h3⟩ := lstOf_ok hR r1 q
        rw [intsOf_ok q2] at h3
        have h4 := h3.ints
        subst h4
        exact ⟨a, ns, rfl, SqL.of h2, k _ H .refl hR rfl⟩
    · cases e
  · cases e
def min2D : ON := fun _ xs => match xs with
  | [.int i, .int j] => some (.int (if j < i then j else i))
  | _ => none
theorem sMin2 : OpN Γ (fun xs H Q => ∃ i j, xs = [.int i, .int j] ∧ Q (.int (if j < i then j else i)) H) min2D := fun H μ Z s xs w vs Q hR rx e k => by
  unfold min2D at e
  split at e
  · rename_i i j
    cases e
    obtain ⟨v, u, rfl, r1, r2⟩ := two rx
    exact ⟨i, j, by rw [show v = _ from r1, show u = _ from r2], k _ H .refl hR rfl⟩
  · cases e
def intD : ON := fun _ xs => match xs with
  | [.int i] => some (.int i)
  | [.bl b] => some (.int (if b then 1 else 0))
  | _ => none
theorem sInt : OpN Γ (fun xs H Q => (∃ i, xs = [.int i] ∧ Q (.int i) H) ∨ ∃ k, xs = [.bl k] ∧ Q (.int (if k then 1 else 0)) H) intD := fun H μ Z s xs w vs Q hR rx e k => by
  unfold intD at e
  split at e
  · rename_i i
    cases e
    obtain ⟨v, rfl, r1⟩ := one rx
    exact .inl ⟨i, by rw [show v = _ from r1], k _ H .refl hR rfl⟩
  · rename_i b
    cases e
    obtain ⟨v, rfl, r1⟩ := one rx
    exact .inr ⟨b, by rw [show v = _ from r1], k _ H .refl hR rfl⟩
  · cases e
/-- isinstance of a built-in class -/
def tyName : Dv → Option String
  | .non => some "NoneType" | .bl _ => some "bool" | .int _ => some "int" | .str _ => some "str" | .tup _ => some "tuple" | .lst _ => some "list" | .dct _ _ => some "dict"
  | _ => none
def sub (a b : String) : Option Bool := match a, b with
  | "NoneType", "int" => some false | "NoneType", "bool" => some false | "NoneType", "tuple" => some false | "NoneType", "str" => some false | "NoneType", "list" => some false
  | "bool", "int" => some true | "bool", "bool" => some true | "bool", "tuple" => some false | "bool", "str" => some false | "bool", "list" => some false
  | "int", "int" => some true | "int", "bool" => some false | "int", "tuple" => some false | "int", "str" => some false | "int", "list" => some false
  | "str", "int" => some false | "str", "bool" => some false | "str", "tuple" => some false | "str", "str" => some true | "str", "list" => some false
  | "tuple", "int" => some false | "tuple", "bool" => some false | "tuple", "tuple" => some true | "tuple", "str" => some false | "tuple", "list" => some false
  | "list", "int" => some false | "list", "bool" => some false | "list", "tuple" => some false | "list", "str" => some false | "list", "list" => some true
  | "dict", "int" => some false | "dict", "bool" => some false | "dict", "tuple" => some false | "dict", "str" => some false | "dict", "list" => some false
  | _, _ => none
theorem sub_ok {a b : String} {r : Bool} (h : sub a b = some r) : kitB a b = some r := by
  unfold sub at h
  split at h <;> first
    | (cases h; decide +kernel)
    | cases h
def isiD : ON := fun _ xs => match xs with
  | [x, .ty n] => match tyName x with
    | some t => (sub t n).map .bl
    | none => none
  | _ => none
theorem tyName_ok {H : Hp} {μ : Mu} {Z : Zs} {x : Dv} {v : V} {t : String} (r : RV Γ H μ Z x v) (e : tyName x = some t) : TyX Γ.K H v (.type t) := by
  cases x with
  | non => cases e; rw [show v = _ from r]; exact .base .non
  | bl b => cases e; rw [show v = _ from r]; exact .base (.bl b)
  | int b => cases e; rw [show v = _ from r]; exact .base (.int b)
  | str b => cases e; rw [show v = _ from r]; exact .base (.str b)
  | tup ws =>
    cases e
    obtain ⟨a, xs, rfl, h2, h3⟩ := r
    rcases h2 with ⟨h2 | ⟨o, h2⟩, _⟩ | ⟨o, its, n, h2, h4, _⟩
    · exact .base (.tup h2)
    · exact .fTuple h2
    · exact .kTuple h2 h4
  | lst ws =>
    cases e
    obtain ⟨a, xs, rfl, h2, h3⟩ := r
    exact .base (.lst h2)
  | dct ks ws =>
    cases e
    obtain ⟨a, kvs, rfl, h2, h3⟩ := r
    exact .base (.dK h2)
  | _ => cases e
theorem sIsi (hK : Γ.K = X.K) : OpN Γ (rIsi X.K) isiD := fun H μ Z s xs w vs Q hR rx e k => by
  rw [← hK]
  unfold isiD at e
  split at e
  · rename_i y n
    split at e
    · rename_i t q
      cases q2 : sub t n with
      | none => rw [q2] at e; cases e
      | some b =>
        rw [q2] at e
        cases e
        obtain ⟨v, u, rfl, r1, r2⟩ := two rx
        exact ⟨v, u, .type t, .type n, b, rfl, by rw [show u = _ from r2]; exact .ty n, tyName_ok r1 q, kit_ty (sub_ok q2), k _ H .refl hR rfl⟩
    · cases e
  · cases e
def rRepr (K : PySem.W.Frag) : List V → Hp → VK → Prop := fun xs H Q => ∃ (x : V) (a : Addr) (d : PyData), xs = [x] ∧ x = .ref a ∧ Dp K H x d ∧ d.showable = true ∧ d.hasDict = false ∧ d.depth ≤ 60 ∧ d.shown.length ≤ sizeLine ∧ Q (.str d.shown) H
theorem call_repr (hg : X.A.guards = some []) (hu : X.A.units + 64 < cLine) : CallR X (.builtin "repr") (rRepr X.K) := by
  intro pins s σ H xs us Q I r h
  obtain ⟨x, a, d, rfl, rfl, hd, h1, h2, h3, h4, q⟩ := h
  obtain ⟨us', e, _⟩ : ∃ u, us = [u] ∧ RelV (.ref a) u := by
    cases r with
    | cons ru rn => cases rn; exact ⟨_, rfl, ru⟩
  subst e
  have er : us' = Value.ref a := by
    cases r with
    | cons ru rn => exact ru
  subst er
  obtain ⟨as, rd⟩ := hd.reads I d _ _ rfl
  exact repr_of_reads' rd h1 (fun z => by rw [h2] at z; cases z) hg (by omega) (fun _ _ z => z) (fun h' u tk k => ⟨.str d.shown, H, I.kept (t' := tk) k, ⟨u, rfl⟩, q⟩) h4
end
end MP
set_option Elab.async false
set_option linter.all false
set_option maxRecDepth 100000
set_option maxHeartbeats 4000000
namespace MP
open PySem PySem.Spec PyProof.Rows L2
section
variable {X : Cx} {Γ : Ct} {W : WX} {a b e : Expr} {f g : FE} {pos : Pos}
def orO (o o' : O2) : O2 := fun s x y => match o s x y with
  | some w => some w
  | none => o' s x y
theorem bin_or {o o' : O2} (h : ME X Γ W e (mBin o f g)) (h' : ME X Γ W e (mBin o' f g)) : ME X Γ W e (mBin (orO o o') f g) :=
  PE.imp (PE.or h h') fun σ H Q ⟨μ, Z, ρ, s, hE, hR, q⟩ => by
    have key : PostE Γ W H μ Z σ Q (mBin o f g ρ s) ∨ PostE Γ W H μ Z σ Q (mBin o' f g ρ s) := by
      unfold mBin at q ⊢
      revert q
      cases f ρ s with
      | no => exact .inl
      | er x s1 => exact .inl
      | ok x s1 =>
        dsimp only [R.bind]
        cases g ρ s1 with
        | no => exact .inl
        | er y s2 => exact .inl
        | ok y s2 =>
          dsimp only
          intro q
          unfold orO at q
          cases e1 : o s2 x y with
          | some w => rw [e1] at q; exact .inl q
          | none => rw [e1] at q; exact .inr q
    exact key.imp (fun z => ⟨μ, Z, ρ, s, hE, hR, z⟩) fun z => ⟨μ, Z, ρ, s, hE, hR, z⟩
theorem RVs.at {H : Hp} {μ : Mu} {Z : Zs} {ws : List Dv} {xs : List V} {i : Int} {w : Dv} (r : RVs Γ H μ Z ws xs) (e : atI ws i = some w) : ∃ x, atI xs i = some x ∧ RV Γ H μ Z w x := by
  unfold atI at e ⊢
  rw [r.len]
  cases q : ixN ws.length i with
  | none => rw [q] at e; cases e
  | some j =>
    rw [q] at e
    exact r.get e
def lstOrSq (s : Sto) : Dv → Option (List Dv)
  | .sq ws => some ws
  | w => lstOf s w
def ixL : O2 := fun s x y => match y with
  | .int i => (lstOrSq s x).bind fun ws => atI ws i
  | _ => none
def ixT : O2 := fun _ x y => match y with
  | .int i => (tupOf x).bind fun ws => atI ws i
  | _ => none
theorem lstOrSq_ok {H : Hp} {μ : Mu} {Z : Zs} {s : Sto} {w : Dv} {v : V} {ws : List Dv} (hR : Rep Γ H μ Z s) (r : RV Γ H μ Z w v) (e : lstOrSq s w = some ws) : ∃ a xs, v = .ref a ∧ SqL Γ.K H a xs ∧ RVs Γ H μ Z ws xs := by
  unfold lstOrSq at e
  split at e
  · cases e
    obtain ⟨a, xs, h1, h2, h3⟩ := r
    exact ⟨a, xs, h1, h2.sq, h3⟩
  · obtain ⟨a, xs, h1, h2, h3⟩ := lstOf_ok hR r e
    exact ⟨a, xs, h1, SqL.of h2, h3⟩
theorem tupOf_ok {H : Hp} {μ : Mu} {Z : Zs} {w : Dv} {v : V} {ws : List Dv} (r : RV Γ H μ Z w v) (e : tupOf w = some ws) : ∃ a xs, v = .ref a ∧ SqT Γ.K H a xs ∧ RVs Γ H μ Z ws xs := by
  cases w with
  | tup us =>
    cases e
    obtain ⟨a, xs, h1, h2, h3⟩ := r
    exact ⟨a, xs, h1, h2.sq, h3⟩
  | _ => cases e
theorem sIxL : Op2 Γ (rIxL Γ.K) ixL := fun H μ Z s x y w u v Q hR r1 r2 e k => by
  unfold ixL at e
  split at e
  · rename_i i
    cases q : lstOrSq s x with
    | none => rw [q] at e; cases e
    | some ws =>
      rw [q] at e
      obtain ⟨p, xs, h1, h2, h3⟩ := lstOrSq_ok hR r1 q
      obtain ⟨z, g1, g2⟩ := h3.at e
      exact ⟨p, xs, i, z, h1, r2, h2, g1, k _ H .refl hR g2⟩
  · cases e
theorem sIxT : Op2 Γ (rIxT Γ.K) ixT := fun H μ Z s x y w u v Q hR r1 r2 e k => by
  unfold ixT at e
  split at e
  · rename_i i
    cases q : tupOf x with
    | none => rw [q] at e; cases e
    | some ws =>
      rw [q] at e
      obtain ⟨p, xs, h1, h2, h3⟩ := tupOf_ok r1 q
      obtain ⟨z, g1, g2⟩ := h3.at e
      exact ⟨p, xs, i, z, h1, r2, h2, g1, k _ H .refl hR g2⟩
  · cases e
/-- dicts of the store -/
def keyOf : Dv → Option Key
  | .int i => some (.inl i)
  | .str x => some (.inr x)
  | _ => none
def valD (kws : List (Key × Dv)) (k : Key) : Option Dv := (kws.find? fun p => decide (p.1 = k)).map (·.2)
def putD (kws : List (Key × Dv)) (k : Key) (w : Dv) : List (Key × Dv) :=
  if (kws.any fun p => decide (p.1 = k)) = true then kws.map (fun p => if p.1 = k then (p.1, w) else p) else kws ++ [(k, w)]
def dctOf (s : Sto) : Dv → Option (List (Key × Dv))
  | .ref n => match s[n]? with
    | some (.dct kws) => some kws
    | _ => none
  | _ => none
def ixD : O2 := fun s x y => match dctOf s x, keyOf y with
  | some kws, some k => valD kws k
  | _, _ => none
theorem keyOf_ok {H : Hp} {μ : Mu} {Z : Zs} {w : Dv} {v : V} {k : Key} (r : RV Γ H μ Z w v) (e : keyOf w = some k) : v = kV k := by
  cases w with
  | int i => cases e; exact r
  | str x => cases e; exact r
  | _ => cases e
theorem valD_ok {H : Hp} {μ : Mu} {Z : Zs} {k : Key} {w : Dv} : ∀ {kws : List (Key × Dv)} {kvs : List (Key × V)}, kvs.map (·.1) = kws.map (·.1) → RVs Γ H μ Z (kws.map (·.2)) (kvs.map (·.2)) → valD kws k = some w → ∃ v, valV kvs k = some v ∧ RV Γ H μ Z w v
  | [], kvs, _, _, e => by cases e
  | p :: kws, [], h, _, e => by cases h
  | p :: kws, q :: kvs, h, r, e => by
    obtain ⟨h1, h2⟩ := List.cons.inj h
    obtain ⟨x, xs, h3, r1, r2⟩ := r
    obtain ⟨h4, h5⟩ := List.cons.inj h3
    subst h4
    by_cases hk : p.1 = k
    · have e1 : valD (p :: kws) k = some p.2 := by simp [valD, List.find?_cons, hk]
      rw [e1] at e
      cases e
      exact ⟨q.2, valV_pos (show q.1 = k from h1.trans hk), r1⟩
    · have e1 : valD (p :: kws) k = valD kws k := by simp [valD, List.find?_cons, hk]
      rw [e1] at e
      obtain ⟨v, g1, g2⟩ := valD_ok (kvs := kvs) h2 (h5 ▸ r2) e
      exact ⟨v, by rw [valV_neg (show ¬ q.1 = k from fun z => hk (h1.symm.trans z))]; exact g1, g2⟩
theorem putD_ok {H : Hp} {μ : Mu} {Z : Zs} {k : Key} {w : Dv} {v : V} (rw' : RV Γ H μ Z w v) {kws : List (Key × Dv)} {kvs : List (Key × V)} (h : kvs.map (·.1) = kws.map (·.1)) (r : RVs Γ H μ Z (kws.map (·.2)) (kvs.map (·.2))) :
    (putK kvs k v).map (·.1) = (putD kws k w).map (·.1) ∧ RVs Γ H μ Z ((putD kws k w).map (·.2)) ((putK kvs k v).map (·.2)) := by
  have hany : ∀ (kws : List (Key × Dv)) (kvs : List (Key × V)), kvs.map (·.1) = kws.map (·.1) → (kvs.any fun p => decide (p.1 = k)) = (kws.any fun p => decide (p.1 = k)) := fun kws => by
    induction kws with
    | nil => intro kvs h; cases kvs with
      | nil => rfl
      | cons _ _ => cases h
    | cons p kws ih => intro kvs h; cases kvs with
      | nil => cases h
      | cons q kvs =>
        obtain ⟨h1, h2⟩ := List.cons.inj h
        have h1' : q.1 = p.1 := h1
        rw [List.any_cons, List.any_cons, ih kvs h2, h1']
  have hmap : ∀ (kws : List (Key × Dv)) (kvs : List (Key × V)), kvs.map (·.1) = kws.map (·.1) → RVs Γ H μ Z (kws.map (·.2)) (kvs.map (·.2)) →
      (kvs.map (fun p => if p.1 = k then (p.1, v) else p)).map (·.1) = (kws.map (fun p => if p.1 = k then (p.1, w) else p)).map (·.1) ∧ RVs Γ H μ Z ((kws.map (fun p => if p.1 = k then (p.1, w) else p)).map (·.2)) ((kvs.map (fun p => if p.1 = k then (p.1, v) else p)).map (·.2)) := fun kws => by
    induction kws with
    | nil => intro kvs h r; cases kvs with
      | nil => exact ⟨rfl, rfl⟩
      | cons _ _ => cases h
    | cons p kws ih => intro kvs h r; cases kvs with
      | nil => cases h
      | cons q kvs =>
        obtain ⟨h1, h2⟩ := List.cons.inj h
        obtain ⟨x, xs, h3, r1, r2⟩ := r
        obtain ⟨h4, h5⟩ := List.cons.inj h3
        have h1' : q.1 = p.1 := h1
        subst h4
        obtain ⟨i1, i2⟩ := ih kvs h2 (h5 ▸ r2)
        by_cases hk : p.1 = k
        · have e1 : (if q.1 = k then (q.1, v) else q) = (q.1, v) := if_pos (h1'.trans hk)
          have e2 : (if p.1 = k then (p.1, w) else p) = (p.1, w) := if_pos hk
          have m1 : ((q :: kvs).map fun p => if p.1 = k then (p.1, v) else p) = (q.1, v) :: kvs.map fun p => if p.1 = k then (p.1, v) else p := by rw [List.map_cons, e1]
          have m2 : ((p :: kws).map fun p => if p.1 = k then (p.1, w) else p) = (p.1, w) :: kws.map fun p => if p.1 = k then (p.1, w) else p := by rw [List.map_cons, e2]
          rw [m1, m2]
          exact ⟨by rw [List.map_cons, List.map_cons, i1, h1'], RVs.cons rw' i2⟩
        · have e1 : (if q.1 = k then (q.1, v) else q) = q := if_neg fun z => hk (h1'.symm.trans z)
          have e2 : (if p.1 = k then (p.1, w) else p) = p := if_neg hk
          have m1 : ((q :: kvs).map fun p => if p.1 = k then (p.1, v) else p) = q :: kvs.map fun p => if p.1 = k then (p.1, v) else p := by rw [List.map_cons, e1]
          have m2 : ((p :: kws).map fun p => if p.1 = k then (p.1, w) else p) = p :: kws.map fun p => if p.1 = k then (p.1, w) else p := by rw [List.map_cons, e2]
          rw [m1, m2]
          exact ⟨by rw [List.map_cons, List.map_cons, i1, h1'], RVs.cons r1 i2⟩
  unfold putK putD
  rw [hany kws kvs h]
  split
  · exact hmap kws kvs h r
  · rw [List.map_append, List.map_append, List.map_append, List.map_append, h]
    exact ⟨rfl, r.append (RVs.cons rw' rfl)⟩
theorem dctOf_ok {H : Hp} {μ : Mu} {Z : Zs} {s : Sto} {w : Dv} {v : V} {kws : List (Key × Dv)} (hR : Rep Γ H μ Z s) (r : RV Γ H μ Z w v) (e : dctOf s w = some kws) : ∃ a kvs, v = .ref a ∧ H a = some (.dK kvs) ∧ kvs.map (·.1) = kws.map (·.1) ∧ RVs Γ H μ Z (kws.map (·.2)) (kvs.map (·.2)) := by
  cases w with
  | ref n =>
    simp only [dctOf] at e
    split at e
    · rename_i us q
      cases e
      obtain ⟨a, h1, h2⟩ := r
      obtain ⟨b', h3, _, kvs, h4, h5, h6⟩ := hR.at n _ q
      rw [h2] at h3
      cases h3
      exact ⟨a, kvs, h1, h4, h5, h6⟩
    · cases e
  | _ => cases e
theorem sIxD : Op2 Γ (fun x y H Q => ∃ a v, x = .ref a ∧ DGet H a y (some v) ∧ Q v H) ixD := fun H μ Z s x y w u v Q hR r1 r2 e k => by
  unfold ixD at e
  split at e
  · rename_i kws kk q1 q2
    obtain ⟨p, kvs, h1, h2, h3, h4⟩ := dctOf_ok hR r1 q1
    obtain ⟨z, g1, g2⟩ := valD_ok h3 h4 e
    refine ⟨p, z, h1, ?_, k _ H .refl hR g2⟩
    rw [keyOf_ok r2 q2, ← g1]
    exact DGet.k h2
  · cases e
theorem me_ixL (hK : Γ.K = X.K) (ha : ME X Γ W a f) (hb : ME X Γ W b g) (hs : PlainIx b) : ME X Γ W (.Subscript a b pos) (mBin ixL f g) :=
  PE.imp (pe_ix ix_list ha hb hs) fun σ H Q ⟨μ, Z, ρ, s, hE, hR, q⟩ => eE hE hR q fun x s1 u H1 μ1 e1 hE1 R1 r1 q1 => eE hE1 R1 q1 fun y s2 v H2 μ2 e2 hE2 R2 r2 q2 => by
    obtain ⟨w, hw, k⟩ := ofE q2
    rw [← hK]
    exact sIxL H2 μ2 Z s2 x y w u v Q R2 (r1.mono e2) r2 hw k
theorem me_ixT (hK : Γ.K = X.K) (ha : ME X Γ W a f) (hb : ME X Γ W b g) (hs : PlainIx b) : ME X Γ W (.Subscript a b pos) (mBin ixT f g) :=
  PE.imp (pe_ix ix_tup ha hb hs) fun σ H Q ⟨μ, Z, ρ, s, hE, hR, q⟩ => eE hE hR q fun x s1 u H1 μ1 e1 hE1 R1 r1 q1 => eE hE1 R1 q1 fun y s2 v H2 μ2 e2 hE2 R2 r2 q2 => by
    obtain ⟨w, hw, k⟩ := ofE q2
    rw [← hK]
    exact sIxT H2 μ2 Z s2 x y w u v Q R2 (r1.mono e2) r2 hw k
theorem me_ixD (hu : X.A.units + 1 < cLine) (ha : ME X Γ W a f) (hb : ME X Γ W b g) (hs : NoSl b) : ME X Γ W (.Subscript a b pos) (mBin ixD f g) :=
  PE.imp (pe_dget hu ha hb hs) fun σ H Q ⟨μ, Z, ρ, s, hE, hR, q⟩ => eE hE hR q fun x s1 u H1 μ1 e1 hE1 R1 r1 q1 => eE hE1 R1 q1 fun y s2 v H2 μ2 e2 hE2 R2 r2 q2 => by
    obtain ⟨w, hw, k⟩ := ofE q2
    exact sIxD H2 μ2 Z s2 x y w u v Q R2 (r1.mono e2) r2 hw k
/-- a[b]: of a list, a tuple, a dict -/
def ixA : O2 := orO (orO ixL ixT) ixD
theorem me_ix (hK : Γ.K = X.K) (hu : X.A.units + 1 < cLine) (ha : ME X Γ W a f) (hb : ME X Γ W b g) (hs : PlainIx b) (hs' : NoSl b) : ME X Γ W (.Subscript a b pos) (mBin ixA f g) :=
  bin_or (bin_or (me_ixL hK ha hb hs) (me_ixT hK ha hb hs)) (me_ixD hu ha hb hs')
abbrev FO := Env → Sto → R (Option Int)
def PostO (Γ : Ct) (W : WX) (H : Hp) (μ : Mu) (Z : Zs) (σ : L2.St) (Q : Option Int → Hp → Prop) : R (Option Int) → Prop
  | .ok b s' => ∀ H' μ', Evo H μ H' μ' → Rep Γ H' μ' Z s' → Q b H'
  | .er x s' => ∀ cls d H' μ', Evo H μ H' μ' → Rep Γ H' μ' Z s' → RX Γ H' μ' Z x cls d → W cls d σ H'
  | .no => False
def rdO (Γ : Ct) (W : WX) (f : FO) : TO := fun σ H Q => ∃ μ Z ρ s, RE Γ H μ Z ρ σ ∧ Rep Γ H μ Z s ∧ PostO Γ W H μ Z σ Q (f ρ s)
def MO (X : Cx) (Γ : Ct) (W : WX) (e : Option Expr) (f : FO) : Prop := PO X e (rdO Γ W f)
theorem PO.imp {e : Option Expr} {t t' : TO} (h : PO X e t) (k : ∀ σ H Q, t' σ H Q → t σ H Q) : PO X e t' := ⟨fun pins s σ H Q I q => h.run pins s σ H Q I (k σ H Q q)⟩
def mPart (f : FE) : FO := fun ρ s => (f ρ s).bind fun x s1 => match x with
  | .int i => .ok (some i) s1
  | _ => .no
def mNoPart : FO := fun _ s => .ok none s
theorem mo_none : MO X Γ W none mNoPart := PO.imp po_none fun σ H Q ⟨μ, Z, ρ, s, hE, hR, q⟩ => q H μ .refl hR
theorem mo_some (h : ME X Γ W e f) : MO X Γ W (some e) (mPart f) := PO.imp (po_some h) fun σ H Q ⟨μ, Z, ρ, s, hE, hR, q⟩ => by
  refine ⟨μ, Z, ρ, s, hE, hR, ?_⟩
  unfold mPart at q
  cases e1 : f ρ s with
  | no => rw [e1] at q; exact q.elim
  | er x s1 => rw [e1] at q; exact q
  | ok x s1 =>
    rw [e1] at q
    intro v H1 μ1 ev R1 r1
    cases x with
    | int i => exact ⟨i, r1, q H1 μ1 ev R1⟩
    | _ => exact q.elim
abbrev OS := Sto → Dv → Option Int → Option Int → Option Dv
def mSl (op : OS) (f : FE) (lo hi : FO) : FE := fun ρ s => (f ρ s).bind fun x s1 => (lo ρ s1).bind fun l s2 => (hi ρ s2).bind fun u s3 => R.of (op s3 x l u) s3
theorem oE {H : Hp} {μ : Mu} {Z : Zs} {σ : L2.St} {ρ : Env} {s : Sto} {fo : FO} {k : Option Int → Sto → R Dv} {Q : VK} {Q' : Option Int → Hp → Prop} (hE : RE Γ H μ Z ρ σ) (hR : Rep Γ H μ Z s) (h : PostE Γ W H μ Z σ Q ((fo ρ s).bind k))
    (hk : ∀ b s1 H1 μ1, Evo H μ H1 μ1 → RE Γ H1 μ1 Z ρ σ → Rep Γ H1 μ1 Z s1 → PostE Γ W H1 μ1 Z σ Q (k b s1) → Q' b H1) : rdO Γ W fo σ H Q' := by
  refine ⟨μ, Z, ρ, s, hE, hR, ?_⟩
  cases e : fo ρ s with
  | ok x s1 =>
    rw [e] at h
    exact fun H1 μ1 ev R1 => hk x s1 H1 μ1 ev (hE.mono ev) R1 (PostE.evo ev h)
  | er x s1 => rw [e] at h; exact h
  | no => rw [e] at h; exact h.elim
def cutD (ws : List Dv) (lo hi : Option Int) : List Dv := (ws.drop (HT.sIx ws.length 0 lo)).take (HT.sIx ws.length ws.length hi - HT.sIx ws.length 0 lo)
theorem cut_ok {H : Hp} {μ : Mu} {Z : Zs} {ws : List Dv} {xs : List V} (r : RVs Γ H μ Z ws xs) (lo hi : Option Int) : RVs Γ H μ Z (cutD ws lo hi) (cutV xs lo hi) := by
  unfold cutD cutV
  rw [r.len]
  exact (r.drop _).take _
def slL : OS := fun s x lo hi => (lstOrSq s x).map fun ws => .lst (cutD ws lo hi)
def slT : OS := fun _ x lo hi => (tupOf x).map fun ws => .tup (cutD ws lo hi)
variable {lo hi : Option Expr} {flo fhi : FO} {p2 : Pos}
theorem me_slL (hK : Γ.K = X.K) (ha : ME X Γ W e f) (hl : MO X Γ W lo flo) (hh : MO X Γ W hi fhi) : ME X Γ W (.Subscript e (.Slice lo hi none p2) pos) (mSl slL f flo fhi) :=
  PE.imp (pe_slice sl_list ha hl hh) fun σ H Q ⟨μ, Z, ρ, s, hE, hR, q⟩ => eE hE hR q fun x s1 u H1 μ1 e1 hE1 R1 r1 q1 => oE hE1 R1 q1 fun l s2 H2 μ2 e2 hE2 R2 q2 => oE hE2 R2 q2 fun h s3 H3 μ3 e3 hE3 R3 q3 => by
    obtain ⟨w, hw, k⟩ := ofE q3
    unfold slL at hw
    cases q : lstOrSq s3 x with
    | none => rw [q] at hw; cases hw
    | some ws =>
      rw [q] at hw
      cases hw
      obtain ⟨p, xs, h1, h2, h3⟩ := lstOrSq_ok R3 ((r1.mono e2).mono e3) q
      exact ⟨p, xs, h1, hK ▸ h2, fun l' hl' => k _ _ (Evo.laid hl') (R3.laid hl') (new_lst R3 hl' (cut_ok h3 l h))⟩
theorem cut_all {ws : List Dv} {lo hi : Option Int} (h1 : HT.sIx ws.length 0 lo = 0) (h2 : HT.sIx ws.length ws.length hi = ws.length) : cutD ws lo hi = ws := by
  unfold cutD
  rw [h1, h2, List.drop_zero, Nat.sub_zero, List.take_length]
theorem me_slT (hK : Γ.K = X.K) (ha : ME X Γ W e f) (hl : MO X Γ W lo flo) (hh : MO X Γ W hi fhi) : ME X Γ W (.Subscript e (.Slice lo hi none p2) pos) (mSl slT f flo fhi) :=
  PE.imp (pe_slice sl_tupA ha hl hh) fun σ H Q ⟨μ, Z, ρ, s, hE, hR, q⟩ => eE hE hR q fun x s1 u H1 μ1 e1 hE1 R1 r1 q1 => oE hE1 R1 q1 fun l s2 H2 μ2 e2 hE2 R2 q2 => oE hE2 R2 q2 fun h s3 H3 μ3 e3 hE3 R3 q3 => by
    obtain ⟨w, hw, k⟩ := ofE q3
    unfold slT at hw
    have r3 := (r1.mono e2).mono e3
    cases q : tupOf x with
    | none => rw [q] at hw; cases hw
    | some ws =>
      rw [q] at hw
      cases hw
      have hx : x = .tup ws := by cases x <;> cases q <;> rfl
      subst hx
      obtain ⟨p, xs, h1, h2, h3⟩ := id r3
      refine ⟨p, xs, h1, hK ▸ h2.sq, fun ⟨z1, z2⟩ => ?_, fun _ l' hl' => k _ _ (Evo.laid hl') (R3.laid hl') (new_tup R3 hl' (cut_ok h3 l h))⟩
      rw [h3.len] at z1 z2
      refine k _ H3 .refl R3 ?_
      show RV Γ H3 μ3 Z (.tup (cutD ws l h)) _
      rw [cut_all z1 z2, ← h1]
      exact r3
def orS (o o' : OS) : OS := fun s x l u => match o s x l u with
  | some w => some w
  | none => o' s x l u
theorem sl_or {o o' : OS} (h : ME X Γ W e (mSl o f flo fhi)) (h' : ME X Γ W e (mSl o' f flo fhi)) : ME X Γ W e (mSl (orS o o') f flo fhi) :=
  PE.imp (PE.or h h') fun σ H Q ⟨μ, Z, ρ, s, hE, hR, q⟩ => by
    have key : PostE Γ W H μ Z σ Q (mSl o f flo fhi ρ s) ∨ PostE Γ W H μ Z σ Q (mSl o' f flo fhi ρ s) := by
      unfold mSl at q ⊢
      revert q
      cases f ρ s with
      | no => exact .inl
      | er x s1 => exact .inl
      | ok x s1 =>
        dsimp only [R.bind]
        cases flo ρ s1 with
        | no => exact .inl
        | er y s2 => exact .inl
        | ok y s2 =>
          dsimp only
          cases fhi ρ s2 with
          | no => exact .inl
          | er y s3 => exact .inl
          | ok z s3 =>
            dsimp only
            intro q
            unfold orS at q
            cases e1 : o s3 x y z with
            | some w => rw [e1] at q; exact .inl q
            | none => rw [e1] at q; exact .inr q
    exact key.imp (fun z => ⟨μ, Z, ρ, s, hE, hR, z⟩) fun z => ⟨μ, Z, ρ, s, hE, hR, z⟩
def slA : OS := orS slL slT
theorem me_sl (hK : Γ.K = X.K) (ha : ME X Γ W e f) (hl : MO X Γ W lo flo) (hh : MO X Γ W hi fhi) : ME X Γ W (.Subscript e (.Slice lo hi none p2) pos) (mSl slA f flo fhi) := sl_or (me_slL hK ha hl hh) (me_slT hK ha hl hh)
theorem Evo.put {H : Hp} {μ : Mu} {n : Nat} {p : Addr} {o : HO} (hn : μ n = some p) : Evo H μ (upd H p o) μ where
  keep := fun a ob h hm => by rw [upd_ne (fun z : a = p => hm n (by rw [z]; exact hn))]; exact h
  mu := fun _ _ h => h
  new := fun _ _ h => .inl h
  stay := fun m a h q => by
    by_cases z : a = p
    · rw [z, upd_same]; intro y; cases y
    · rw [upd_ne z]; exact q
theorem Rep.put {H : Hp} {μ : Mu} {Z : Zs} {s : Sto} {n : Nat} {p : Addr} {o : HO} {ob : Ob} (hR : Rep Γ H μ Z s) (hn : μ n = some p) (ho : RO Γ (upd H p o) μ Z p ob) : Rep Γ (upd H p o) μ Z (s.set n ob) := by
  have ev : Evo H μ (upd H p o) μ := Evo.put hn
  refine ⟨fun m ob' q => ?_, hR.inj, fun m a h => by rw [List.length_set]; exact hR.dom m a h, fun a z => ev.alive (hR.za a z)⟩
  by_cases hm : n = m
  · subst hm
    have hl : n < s.length := hR.dom n p hn
    rw [List.getElem?_set_self hl] at q
    cases q
    exact ⟨p, hn, hR.notZ hn, ho⟩
  · rw [List.getElem?_set_ne hm] at q
    obtain ⟨a, h1, h2, h3⟩ := hR.at m ob' q
    exact ⟨a, h1, h2, h3.mono' ev (upd_ne (fun z : a = p => hm (hR.inj n m p hn (by rw [← z]; exact h1))))⟩
/-- xs.append(e) -/
def mApp (f g : FE) : FE := fun ρ s => (f ρ s).bind fun x s1 => match x with
  | .ref n => match s1[n]? with
    | some (.lst _) => (g ρ s1).bind fun y s2 => match s2[n]? with
      | some (.lst ws) => if ws.length < lim then .ok .non (s2.set n (.lst (ws ++ [y]))) else .no
      | _ => .no
    | _ => .no
  | _ => .no
theorem me_app (h : PE X e (tBM Γ.K "list" rAppend (rdE Γ W f) (tCons (rdE Γ W g) tNil))) : ME X Γ W e (mApp f g) :=
  PE.imp h fun σ H Q ⟨μ, Z, ρ, s, hE, hR, q⟩ => eE hE hR q fun x s1 u H1 μ1 e1 hE1 R1 r1 q1 => by
    cases x with
    | ref n =>
      dsimp only at q1
      split at q1
      · rename_i us q0
        obtain ⟨p, h1, h2⟩ := r1
        obtain ⟨p', g1, _, xs, g3, g4⟩ := R1.at n _ q0
        rw [h2] at g1
        cases g1
        subst h1
        refine ⟨.inl ⟨rfl, xs, SqL.of g3⟩, ?_⟩
        refine eE hE1 R1 q1 fun y s2 v H2 μ2 e2 hE2 R2 r2 q2 => ?_
        split at q2
        · rename_i ws q3
          split at q2
          · rename_i hl
            obtain ⟨p'', k1, _, ys, k3, k4⟩ := R2.at n _ q3
            rw [e2.mu _ _ h2] at k1
            cases k1
            refine ⟨p, ys, v, rfl, rfl, k3, by rw [k4.len]; exact Nat.lt_of_lt_of_le hl (lim_ok (Nat.le_refl _)), ?_⟩
            have ev : Evo H2 μ2 (upd H2 p (.lst (ys ++ [v]))) μ2 := Evo.put (e2.mu _ _ h2)
            exact q2 .non _ μ2 ev (R2.put (e2.mu _ _ h2) ⟨_, upd_same, (k4.append (RVs.cons r2 RVs.nil)).mono ev⟩) rfl
          · exact q2.elim
        · exact q2.elim
      · exact q1.elim
    | _ => exact q1.elim
/-- d[k] = e -/
def mDPut (fo fi fv : FE) : FS := fun ρ s => (fv ρ s).thenC ρ fun v s1 => (fo ρ s1).thenC ρ fun x s2 => (fi ρ s2).thenC ρ fun y s3 => match x, keyOf y with
  | .ref n, some k => match s3[n]? with
    | some (.dct kws) => if kws.length < lim then .nx ρ (s3.set n (.dct (putD kws k v))) else .no
    | _ => .no
  | _, _ => .no
theorem map_len {α β γ : Type} {l : List (α × β)} {l' : List (α × γ)} (h : l.map (·.1) = l'.map (·.1)) : l.length = l'.length := by
  have := congrArg List.length h
  rw [List.length_map, List.length_map] at this
  exact this
theorem ms_dput {o i value : Expr} {pos' : Pos} {fo fi fv : FE} (hu : X.A.units + 1 < cLine) (ho : ME X Γ W o fo) (hi : ME X Γ W i fi) (hv : ME X Γ W value fv) (hs : swapsWith value (some (.Subscript o i pos')) pos.line X.env = pure false) :
    MS X Γ W (.Assign [.Subscript o i pos'] value pos) (mDPut fo fi fv) :=
  PS.imp (ps_dput hu ho hi hv hs) fun D σ H ⟨μ, Z, ρ, s, hE, hR, q⟩ => eS hE hR q fun v s1 uv H1 μ1 e1 hE1 R1 r1 q1 => eS hE1 R1 q1 fun x s2 ux H2 μ2 e2 hE2 R2 r2 q2 => eS hE2 R2 q2 fun y s3 uy H3 μ3 e3 hE3 R3 r3 q3 => by
    split at q3
    · rename_i n k hk
      split at q3
      · rename_i kws q0
        split at q3
        · rename_i hl
          obtain ⟨p, h1, h2⟩ := r2.mono e3
          obtain ⟨p', g1, _, kvs, g3, g4, g5⟩ := R3.at n _ q0
          rw [h2] at g1
          cases g1
          have rv := (r1.mono e2).mono e3
          obtain ⟨k1, k2⟩ := putD_ok (k := k) rv g4 g5
          have ev : Evo H3 μ3 (upd H3 p (.dK (putK kvs k uv))) μ3 := Evo.put h2
          refine ⟨p, upd H3 p (.dK (putK kvs k uv)), h1, .inl ⟨kvs, k, g3, keyOf_ok r3 hk, by rw [map_len g4]; exact Nat.lt_of_lt_of_le hl (lim_ok (Nat.le_refl _)), rfl⟩, ?_⟩
          exact q3 σ _ μ3 ev (R3.put h2 ⟨_, upd_same, k1, k2.mono ev⟩) (hE3.mono ev)
        · exact q3.elim
      · exact q3.elim
    · exact q3.elim
end
end MP
set_option Elab.async false
set_option linter.all false
set_option maxRecDepth 100000
set_option maxHeartbeats 4000000
namespace MP
open PySem PySem.Spec PyProof.Rows L2
end MP
set_option Elab.async false
set_option linter.all false
set_option maxRecDepth 100000
set_option maxHeartbeats 4000000
namespace MP
open PySem PySem.Spec PyProof.Rows L2
def SqX (K : PySem.W.Frag) (H : Hp) (t : Bool) (a : Addr) (xs : List V) : Prop := if t = true then SqT K H a xs else SqL K H a xs
def ItX (h : Heap) (t : Bool) (it a : Addr) (i : Nat) : Prop := if t = true then h.IsTupleIter it a i else h.IsListIter it a i
def HasX (h : Heap) (t : Bool) (a : Addr) (its : Array Value) : Prop := if t = true then h.IsTuple a its else h.IsList a its
theorem ItX.at {h h' : Heap} {t : Bool} {it a : Addr} {i : Nat} (x : ItX h t it a i) (k : ∀ o, h.get? it = some o → h'.get? it = some o) : ItX h' t it a i := by
  unfold ItX at x ⊢
  cases t with
  | true => rw [if_pos rfl] at x ⊢; exact x.at k
  | false => rw [if_neg Bool.false_ne_true] at x ⊢; exact x.at k
theorem ItX.obj {h : Heap} {t : Bool} {it a : Addr} {i : Nat} (x : ItX h t it a i) : ∃ o, h.get? it = some o ∧ ∀ v, o.data ≠ .cell v := by
  unfold ItX at x
  cases t with
  | true => rw [if_pos rfl] at x; obtain ⟨o, e, _, d⟩ := x; exact ⟨o, e, fun v q => by rw [d] at q; cases q⟩
  | false => rw [if_neg Bool.false_ne_true] at x; obtain ⟨o, e, _, d⟩ := x; exact ⟨o, e, fun v q => by rw [d] at q; cases q⟩
theorem drawsX {prog : Program} {w : World} {A : Around} (hh : A.handled = none) (t : Bool) (it a : Addr) (hne : a ≠ it) (items : Array Value) :
    Draws prog w A it [it, a] items.size (fun i v => items[i]? = some v) (fun i h => ItX h t it a i ∧ HasX h t a items) := by
  unfold ItX HasX
  cases t with
  | true => exact Draws.tuple hh it a hne items
  | false => exact Draws.list hh it a hne items
theorem beginsX (t : Bool) (a : Addr) (items : Array Value) : Begins (.ref a) { cls := .type (if t = true then "tuple_iterator" else "list_iterator"), data := .fields #[.ref a, .int 0 0] } fun h => HasX h t a items := by
  unfold HasX
  cases t with
  | true => exact begins_tuple a items
  | false => exact begins_list a items
theorem SqX.has {X : Cx} {pins : List (Addr × Obj)} {σ : L2.St} {H : Hp} {s : Shared} {t : Bool} {a : Addr} {xs : List V} (I : Inv X pins σ H s) (h : SqX X.K H t a xs) : ∃ its : List Value, Vals xs its ∧ HasX s.heap t a its.toArray ∧ a < s.heap.objs.size := by
  unfold SqX at h
  unfold HasX
  cases t with
  | true =>
    rw [if_pos rfl] at h
    obtain ⟨its, r, p, _⟩ := I.tuple h
    exact ⟨its, r, p, p.lt⟩
  | false =>
    rw [if_neg Bool.false_ne_true] at h
    obtain ⟨its, r, p, _⟩ := I.list h
    exact ⟨its, r, p.isList, p.lt⟩
theorem SqX.inj {X : Cx} {pins : List (Addr × Obj)} {σ : L2.St} {H : Hp} {s : Shared} {t : Bool} {a : Addr} {xs ys : List V} (I : Inv X pins σ H s) (h : SqX X.K H t a xs) (h' : SqX X.K H t a ys) : xs = ys := by
  unfold SqX at h h'
  cases t with
  | true => rw [if_pos rfl] at h h'; exact I.tuple_inj h h'
  | false => rw [if_neg Bool.false_ne_true] at h h'; exact I.list_inj h h'
/-- an iterator of new tuples, by the library's own walk: a turn of ours -/
theorem turn_item {X : Cx} {tg : Expr} {it : Addr} {fp fp' wr : List Addr} {n i : Nat} {Y : Nat → Heap → Value → Heap → Prop} {St tn : Nat → Heap → Prop} {pins : List (Addr × Obj)} {s : Shared} {σ : L2.St} {H : Hp} {E : Value → Shared → Prop} {J : It} (I : Inv X pins σ H s) (hf : ∀ b ∈ fp, FpOk X pins H b) (live : ∀ b ∈ fp, b < s.heap.objs.size)
    (G : GoesN X.prog X.w X.A tg it fp' wr n Y St) (hi : i < n) (hst : St i s.heap) (hw : ∀ b ∈ wr, b ∈ fp) (next : ∀ h', (∀ b o, b ∉ wr → s.heap.get? b = some o → h'.get? b = some o) → St (i + 1) h' → tn (i + 1) h')
    (yl : ∀ v h', Y i s.heap v h' → ∃ T vals us, v = .ref T ∧ s.heap.objs.size ≤ T ∧ h'.IsTuple T us ∧ Vals vals us.toList ∧ vals.length ≤ sizeLine ∧ J.yld i H (.ref T) (upd H T (.tup vals))) :
    wpAny (model X.prog X.w) X.A (pyNext (.ref it)) (fun r s1 => ∃ u, r = some u ∧
      wpAny (model X.prog X.w) X.A (letOwnedTupleGo tg (.ref it) u) (fun _ s2 => ∃ x H', Inv X pins σ H' s2 ∧ RelV x u ∧ J.yld i H x H' ∧ tn (i + 1) s2.heap ∧ ∀ b ∈ fp, H' b = none) E s1) E s := by
  refine G.goes i s (fun u s2 => ∃ x H', Inv X pins σ H' s2 ∧ RelV x u ∧ J.yld i H x H' ∧ tn (i + 1) s2.heap ∧ ∀ b ∈ fp, H' b = none) E hi hst fun v h' tk hY st' hk _ => ?_
  obtain ⟨T, vals, us, rfl, hT, ht, rv, hl, hy⟩ := yl v h' hY
  have new : ObjOk X.prog X.w (upd H T (.tup vals)) h' T (.tup vals) := ⟨hl, us.toList, rv, by rw [Array.toArray_toList]; exact ht⟩
  have J1 : Inv X pins σ (upd H T (.tup vals)) { s with heap := h', toks := tk } := I.turnedNew (ch := fp) (fun b o hb q => hk b o (fun z => hb (hw b z)) q) hf hT new
  refine ⟨.ref T, _, J1, rfl, hy, next h' hk st', fun b hb => ?_⟩
  rw [upd_ne (Nat.ne_of_lt (Nat.lt_of_lt_of_le (live b hb) hT))]
  exact (hf b hb).1
def JZip (K : PySem.W.Frag) (t u : Bool) (a b : Addr) : It :=
  ⟨fun i H => ∃ (xs ys : List V) (x y : V), SqX K H t a xs ∧ SqX K H u b ys ∧ xs[i]? = some x ∧ ys[i]? = some y,
   fun i H v H' => ∃ T x y, v = .ref T ∧ H T = none ∧ H' = upd H T (.tup [x, y]) ∧ (∀ xs, SqX K H t a xs → xs[i]? = some x) ∧ ∀ ys, SqX K H u b ys → ys[i]? = some y,
   fun i H => ∃ xs ys : List V, SqX K H t a xs ∧ SqX K H u b ys ∧ min xs.length ys.length = i⟩
def ZipTn (t u : Bool) (a b : Addr) (N : Nat) (i : Nat) (h : Heap) : Prop := IsZip h (N + 4) (N + 2) (N + 3) .none ∧ IsTupOf2 h (N + 2) (.ref N) (.ref (N + 1)) ∧ (∃ x y, IsTupOf2 h (N + 3) x y) ∧ ItX h t N a i ∧ ItX h u (N + 1) b i
theorem turn_zipX {P : Program} {w : World} {K : PySem.W.Frag} {elts : List Expr} {kk : Nat} {tpos : Pos} {t u : Bool} {a b : Addr} {N : Nat} (la : a < N) (lb : b < N) :
    Turn P w K (.Tuple elts kk tpos) (JZip K t u a b) [N + 4, N + 2, N + 3, N, N + 1] (N + 4) (ZipTn t u a b N) where
  mem := by simp
  obj := fun i h st c hc => by
    obtain ⟨hz, hTI, ⟨x, y, hTO⟩, h1, h2⟩ := st
    have e : c = N + 4 ∨ c = N + 2 ∨ c = N + 3 ∨ c = N ∨ c = N + 1 := by simpa using hc
    rcases e with q | q | q | q | q
    · rw [q]; exact ⟨_, hz, fun v q => nomatch q⟩
    · rw [q]; exact ⟨_, hTI, fun v q => nomatch q⟩
    · rw [q]; exact ⟨_, hTO, fun v q => nomatch q⟩
    · rw [q]; exact h1.obj
    · rw [q]; exact h2.obj
  keep := fun i h h' st k => by
    obtain ⟨hz, hTI, ⟨x, y, hTO⟩, h1, h2⟩ := st
    exact ⟨k _ (by simp) _ hz, k _ (by simp) _ hTI, ⟨x, y, k _ (by simp) _ hTO⟩, h1.at fun o q => k N (by simp) o q, h2.at fun o q => k (N + 1) (by simp) o q⟩
  item := by
    intro X hP hw hK hc i pins s σ H E I hf st hg
    subst hP hw hK
    obtain ⟨xs, ys, x, y, hqx, hqy, hx, hy⟩ := hg
    obtain ⟨its, rv, p, _⟩ := hqx.has I
    obtain ⟨its2, rv2, p2, _⟩ := hqy.has I
    obtain ⟨v1, hv1, r1⟩ := rv.get hx
    obtain ⟨v2, hv2, r2⟩ := rv2.get hy
    have hh : X.A.in1.handled = none := I.ok.hd hc
    have sep := zip_sep2 (N := N) (fp1 := [a]) (fp2 := [b]) (by simpa using la) (by simpa using lb)
    have G := GoesN.zip2 (prog := X.prog) (w := X.w) (A := X.A) (elts := elts) (x1 := kk) (pos := tpos) sep (drawsX hh t N a (Nat.ne_of_lt la) its.toArray) (drawsX hh u (N + 1) b (Nat.ne_of_lt (Nat.lt_succ_of_lt lb)) its2.toArray)
    obtain ⟨hz, hTI, hTO, h1, h2⟩ := id st
    have l1 := (List.getElem?_eq_some_iff.mp hv1).1
    have l2 := (List.getElem?_eq_some_iff.mp hv2).1
    have liveX : ∀ c ∈ [N + 4, N + 2, N + 3, N, N + 1], c < s.heap.objs.size := fun c hc => by
      have hN : N + 4 < s.heap.objs.size := Heap.lt_size hz
      have e : c = N + 4 ∨ c = N + 2 ∨ c = N + 3 ∨ c = N ∨ c = N + 1 := by simpa using hc
      omega
    refine turn_item (tn := ZipTn t u a b N) I hf liveX G (by simp; omega) ⟨hz, hTI, hTO, ⟨h1, p⟩, h2, p2⟩ (fun c hc => by
      have e : c = N + 4 ∨ c = N + 3 ∨ c = N ∨ c = N + 1 := by simpa using hc
      rcases e with q | q | q | q <;> (rw [q]; simp)) (fun h' _ st' => show ZipTn t u a b N (i + 1) h' from ⟨st'.1, st'.2.1, st'.2.2.1, st'.2.2.2.1.1, st'.2.2.2.2.1⟩) fun v h' hY => ?_
    obtain ⟨T, c1, c2, rfl, hT, e1, e2, ht⟩ := hY
    have e1' : its[i]? = some c1 := by simpa using e1
    have e2' : its2[i]? = some c2 := by simpa using e2
    rw [hv1] at e1'
    rw [hv2] at e2'
    cases e1'
    cases e2'
    exact ⟨T, [x, y], #[v1, v2], rfl, hT, ht, .cons r1 (.cons r2 .nil), (show 2 ≤ sizeLine by rw [sizeLine_eq]; decide), T, x, y, rfl, I.hok.fresh hT, rfl, fun l hl => by rw [SqX.inj I hl hqx]; exact hx, fun l hl => by rw [SqX.inj I hl hqy]; exact hy⟩
  done := by
    intro X hP hw hK hc i pins s σ H E I hf st hg
    subst hP hw hK
    obtain ⟨xs, ys, hqx, hqy, hend⟩ := hg
    obtain ⟨its, rv, p, _⟩ := hqx.has I
    obtain ⟨its2, rv2, p2, _⟩ := hqy.has I
    have hh : X.A.in1.handled = none := I.ok.hd hc
    have sep := zip_sep2 (N := N) (fp1 := [a]) (fp2 := [b]) (by simpa using la) (by simpa using lb)
    have G := GoesN.zip2 (prog := X.prog) (w := X.w) (A := X.A) (elts := elts) (x1 := kk) (pos := tpos) sep (drawsX hh t N a (Nat.ne_of_lt la) its.toArray) (drawsX hh u (N + 1) b (Nat.ne_of_lt (Nat.lt_succ_of_lt lb)) its2.toArray)
    obtain ⟨hz, hTI, hTO, h1, h2⟩ := id st
    have l1 := rv.length
    have l2 := rv2.length
    have hn : min its.toArray.size its2.toArray.size = i := by simp; omega
    rw [hn] at G
    exact G.stops s (fun s1 => Inv X pins σ H s1) E ⟨hz, hTI, hTO, ⟨h1, p⟩, h2, p2⟩ fun h' tk hk _ => I.turnedL (ch := [N + 4, N + 2, N + 3, N, N + 1]) (fun c o hb q => hk c o (fun z => hb (by
      have e : c = N + 4 ∨ c = N + 3 ∨ c = N ∨ c = N + 1 := by simpa using z
      rcases e with q | q | q | q <;> (rw [q]; simp))) q) hf
  self := fun A i s Q E st h => wpAny_pyIter_zip st.1 h
def JEnum (K : PySem.W.Frag) (t : Bool) (a : Addr) : It :=
  ⟨fun i H => ∃ (xs : List V) (x : V), SqX K H t a xs ∧ xs[i]? = some x,
   fun i H v H' => ∃ T x, v = .ref T ∧ H T = none ∧ H' = upd H T (.tup [.int (i : Nat), x]) ∧ ∀ xs, SqX K H t a xs → xs[i]? = some x,
   fun i H => ∃ xs : List V, SqX K H t a xs ∧ xs.length = i⟩
def EnumTn (t : Bool) (a : Addr) (N : Nat) (i : Nat) (h : Heap) : Prop := (∃ old, IsEnum h (N + 1) N ((0 : Int) + (i : Int)) old) ∧ ItX h t N a i
theorem turn_enumX {P : Program} {w : World} {K : PySem.W.Frag} {elts : List Expr} {kk : Nat} {tpos : Pos} {t : Bool} {a : Addr} {N : Nat} (la : a < N) :
    Turn P w K (.Tuple elts kk tpos) (JEnum K t a) [N + 1, N] (N + 1) (EnumTn t a N) where
  mem := by simp
  obj := fun i h st c hc => by
    obtain ⟨⟨old, he⟩, h1⟩ := st
    have e : c = N + 1 ∨ c = N := by simpa using hc
    rcases e with q | q
    · rw [q]; exact ⟨_, he, fun v q => nomatch q⟩
    · rw [q]; exact h1.obj
  keep := fun i h h' st k => by
    obtain ⟨⟨old, he⟩, h1⟩ := st
    exact ⟨⟨old, k _ (by simp) _ he⟩, h1.at fun o q => k N (by simp) o q⟩
  item := by
    intro X hP hw hK hc i pins s σ H E I hf st hg
    subst hP hw hK
    obtain ⟨xs, x, hqx, hx⟩ := hg
    obtain ⟨its, rv, p, _⟩ := hqx.has I
    obtain ⟨v1, hv1, r1⟩ := rv.get hx
    have hh : X.A.in1.handled = none := I.ok.hd hc
    have nf : N + 1 ∉ [N, a] := fun m => by
      rcases List.mem_cons.mp m with e | e
      · exact Nat.succ_ne_self N e
      · exact Nat.lt_irrefl a (Nat.lt_trans la ((List.mem_singleton.mp e) ▸ Nat.lt_succ_self N))
    have G := GoesN.enumFrom (prog := X.prog) (w := X.w) (A := X.A) (elts := elts) (x1 := kk) (pos := tpos) 0 (drawsX hh t N a (Nat.ne_of_lt la) its.toArray) (N + 1) (Nat.succ_ne_self N) nf (by simp)
    obtain ⟨⟨old, he⟩, h1⟩ := id st
    have l1 := (List.getElem?_eq_some_iff.mp hv1).1
    have liveX : ∀ c ∈ [N + 1, N], c < s.heap.objs.size := fun c hc => by
      have hN : N + 1 < s.heap.objs.size := Heap.lt_size he
      have e : c = N + 1 ∨ c = N := by simpa using hc
      omega
    refine turn_item (tn := EnumTn t a N) I hf liveX G (by simpa using l1) ⟨⟨old, he⟩, h1, p⟩ (fun c hc => hc) (fun h' _ st' => show EnumTn t a N (i + 1) h' from ⟨st'.1, st'.2.1⟩) fun v h' hY => ?_
    obtain ⟨T, tt, c1, rfl, hT, e1, ht⟩ := hY
    have e1' : its[i]? = some c1 := by simpa using e1
    rw [hv1] at e1'
    cases e1'
    rw [Int.zero_add] at ht
    exact ⟨T, [.int (i : Nat), x], #[.int (i : Nat) tt, v1], rfl, hT, ht, .cons ⟨tt, rfl⟩ (.cons r1 .nil), (show 2 ≤ sizeLine by rw [sizeLine_eq]; decide), T, x, rfl, I.hok.fresh hT, rfl, fun l hl => by rw [SqX.inj I hl hqx]; exact hx⟩
  done := by
    intro X hP hw hK hc i pins s σ H E I hf st hg
    subst hP hw hK
    obtain ⟨xs, hqx, hend⟩ := hg
    obtain ⟨its, rv, p, _⟩ := hqx.has I
    have hh : X.A.in1.handled = none := I.ok.hd hc
    have nf : N + 1 ∉ [N, a] := fun m => by
      rcases List.mem_cons.mp m with e | e
      · exact Nat.succ_ne_self N e
      · exact Nat.lt_irrefl a (Nat.lt_trans la ((List.mem_singleton.mp e) ▸ Nat.lt_succ_self N))
    have G := GoesN.enumFrom (prog := X.prog) (w := X.w) (A := X.A) (elts := elts) (x1 := kk) (pos := tpos) 0 (drawsX hh t N a (Nat.ne_of_lt la) its.toArray) (N + 1) (Nat.succ_ne_self N) nf (by simp)
    obtain ⟨⟨old, he⟩, h1⟩ := id st
    have l1 := rv.length
    have hn : its.toArray.size = i := by simp; omega
    rw [hn] at G
    exact G.stops s (fun s1 => Inv X pins σ H s1) E ⟨⟨old, he⟩, h1, p⟩ fun h' tk hk _ => I.turnedL (ch := [N + 1, N]) (fun c o hb q => hk c o hb q) hf
  self := fun A i s Q E st h => let ⟨⟨_, he⟩, _⟩ := st; wpAny_pyIter_enum he h
section
variable {X : Cx} {Γ : Ct} {W : WX}
def iZipG (K : PySem.W.Frag) (ta : TA) : TI := fun σ H R => ta σ H fun vs H1 => ∃ t u a b xs ys, vs = [.ref a, .ref b] ∧ SqX K H1 t a xs ∧ SqX K H1 u b ys ∧ R (JZip K t u a b) H1
theorem pi_zipG {e e2 : Expr} {ta : TA} {p pos tpos : Pos} {elts : List Expr} {kk : Nat} (hg : Gl X "zip") (hm : X.mg "zip" = none) (ha : PA X [e, e2] ta) (hs : starEach [e, e2] X.env = (false, eval e X.env) :: starEach [e2] X.env := by rfl) (hpl : (backTo pos (starEach [e2] X.env)).any (·.1) = false := by rfl) :
    PI X (.Tuple elts kk tpos) (.Call (.Name "zip" p) [e, e2] [] pos) (iZipG X.K ta) := by
  refine ⟨fun pins s σ H R I h => ?_⟩
  refine Call_ (ld_blt I hg hm boot_zip (callWith_type1 (thn (ha.run pos pins s σ H _ I h) fun us s1 ⟨vs, H1, I1, r1, q1⟩ => ?_) hs hpl))
  obtain ⟨t, u, a, b, xs, ys, rfl, hqx, hqy, q⟩ := q1
  obtain ⟨v, us', rfl, rfl⟩ : ∃ v us', us = v :: us' ∧ v = Value.ref a := by cases r1 with | cons r rr => exact ⟨_, _, rfl, r⟩
  obtain ⟨v', rfl, rfl⟩ : ∃ v', us' = [v'] ∧ v' = Value.ref b := by
    cases r1 with
    | cons r rr => cases rr with
      | cons r' rr' => cases rr'; exact ⟨_, rfl, r'⟩
  obtain ⟨its, rv, p1, la⟩ := hqx.has I1
  obtain ⟨its2, rv2, p2, lb⟩ := hqy.has I1
  refine zip_begins2 (beginsX t a its.toArray) (beginsX u b its2.toArray) p1 p2 fun h' hz hTI hTO h1 h2 _ hk => wpAny_pyIter_zip hz ?_
  have I2 : Inv X pins σ H1 { s1 with heap := h' } := I1.kept (t' := s1.toks) hk
  refine ⟨_, [s1.heap.objs.size + 4, s1.heap.objs.size + 2, s1.heap.objs.size + 3, s1.heap.objs.size, s1.heap.objs.size + 1], _, _, H1, rfl, I2, turn_zipX la lb, ⟨hz, hTI, ⟨_, _, hTO⟩, ?_, ?_⟩, fun c hc => ?_, q⟩
  · unfold ItX
    cases t with
    | true => exact ⟨_, h1, rfl, rfl⟩
    | false => exact ⟨_, h1, rfl, rfl⟩
  · unfold ItX
    cases u with
    | true => exact ⟨_, h2, rfl, rfl⟩
    | false => exact ⟨_, h2, rfl, rfl⟩
  · have e' : c = s1.heap.objs.size + 4 ∨ c = s1.heap.objs.size + 2 ∨ c = s1.heap.objs.size + 3 ∨ c = s1.heap.objs.size ∨ c = s1.heap.objs.size + 1 := by simpa using hc
    have hle : s1.heap.objs.size ≤ c := by rcases e' with z | z | z | z | z <;> (rw [z]; first | exact Nat.le_refl _ | exact Nat.le_add_right _ _)
    exact I1.fpOk hle (I1.hok.fresh hle)
def zipD : List Dv → List Dv → List Dv
  | a :: r, b :: t => .tup [a, b] :: zipD r t
  | _, _ => []
theorem zipD_len : ∀ (l m : List Dv), (zipD l m).length = min l.length m.length
  | [], _ => by simp [zipD]
  | _ :: _, [] => by simp [zipD]
  | a :: r, b :: t => by simp [zipD, zipD_len r t]
theorem zipD_get : ∀ {l m : List Dv} {i : Nat} {w : Dv}, (zipD l m)[i]? = some w → ∃ x y, l[i]? = some x ∧ m[i]? = some y ∧ w = .tup [x, y]
  | [], _, _, _, h => by simp [zipD] at h
  | _ :: _, [], _, _, h => by simp [zipD] at h
  | a :: r, b :: t, 0, w, h => by simp [zipD] at h; exact ⟨a, b, rfl, rfl, h.symm⟩
  | a :: r, b :: t, i + 1, w, h => by
    have h' : (zipD r t)[i]? = some w := by simpa [zipD] using h
    obtain ⟨x, y, h1, h2, h3⟩ := zipD_get h'
    exact ⟨x, y, by simpa using h1, by simpa using h2, h3⟩
/-- a plain sequence, not of the store -/
def plainOf : Dv → Option (Bool × List Dv)
  | .tup ws => some (true, ws)
  | .lst ws => some (false, ws)
  | .sq ws => some (false, ws)
  | _ => none
theorem plain_ok {H : Hp} {μ : Mu} {Z : Zs} {w : Dv} {v : V} {t : Bool} {ws : List Dv} (r : RV Γ H μ Z w v) (e : plainOf w = some (t, ws)) : ∃ a xs, v = .ref a ∧ RVs Γ H μ Z ws xs ∧ ∀ H' μ', EvoZ Z H μ H' μ' → SqX Γ.K H' t a xs := by
  cases w with
  | tup us =>
    cases e
    obtain ⟨a, xs, h1, h2, h3⟩ := r
    exact ⟨a, xs, h1, h3, fun H' μ' ev => (h2.monoZ ev).sq⟩
  | sq us =>
    cases e
    obtain ⟨a, xs, h1, h2, h3⟩ := r
    exact ⟨a, xs, h1, h3, fun H' μ' ev => (h2.monoZ ev).sq⟩
  | lst us =>
    cases e
    obtain ⟨a, xs, h1, h2, h3, h4⟩ := r
    exact ⟨a, xs, h1, h4, fun H' μ' ev => SqL.of (ev.keep _ _ h2 h3.1 h3.2)⟩
  | _ => cases e
def iZip2 (fa : FA) : FI := fun ρ s => (fa ρ s).bind fun ws s1 => match ws with
  | [x, y] => match plainOf x, plainOf y with
    | some (_, a), some (_, b) => .ok { ws := zipD a b } s1
    | _, _ => .no
  | _ => .no
theorem mi_zip {e e2 : Expr} {fa : FA} {p pos tpos : Pos} {elts : List Expr} {kk : Nat} (hK : Γ.K = X.K) (hg : Gl X "zip") (hm : X.mg "zip" = none) (ha : MA X Γ W [e, e2] fa) (hs : starEach [e, e2] X.env = (false, eval e X.env) :: starEach [e2] X.env := by rfl) (hpl : (backTo pos (starEach [e2] X.env)).any (·.1) = false := by rfl) :
    MI X Γ W (.Tuple elts kk tpos) (.Call (.Name "zip" p) [e, e2] [] pos) (iZip2 fa) :=
  PI.imp (pi_zipG hg hm ha hs hpl) fun σ H Q ⟨μ, Z, ρ, s, hE, hR, q⟩ => iA hE hR q fun ws s1 vs H1 μ1 e1 E1 R1 r1 q1 => by
    split at q1
    · rename_i x y
      split at q1
      · rename_i t a u b qx qy
        obtain ⟨v, v', rfl, rx, ry⟩ := two r1
        obtain ⟨pa, xs, rfl, r2, k2⟩ := plain_ok rx qx
        obtain ⟨pb, ys, rfl, r3, k3⟩ := plain_ok ry qy
        rw [← hK]
        refine ⟨t, u, pa, pb, xs, ys, rfl, k2 _ _ Evo.refl.z, k3 _ _ Evo.refl.z, q1 _ _ _ .refl R1 fun H' μ' Z' s' ev hR' hy hz _ => ⟨⟨xs, ys, k2 _ _ ev, k3 _ _ ev, by rw [zipD_len, r2.len, r3.len]⟩, fun i w hi => ?_⟩⟩
        obtain ⟨x', y', g1, g2, rfl⟩ := zipD_get hi
        obtain ⟨ux, h1, h2⟩ := r2.get g1
        obtain ⟨uy, h3, h4⟩ := r3.get g2
        refine ⟨⟨xs, ys, ux, uy, k2 _ _ ev, k3 _ _ ev, h1, h3⟩, fun z H'' hq => ?_⟩
        obtain ⟨T, zx, zy, rfl, hT, rfl, j1, j2⟩ := hq
        have e3 := j1 xs (k2 _ _ ev)
        have e4 := j2 ys (k3 _ _ ev)
        rw [h1] at e3
        rw [h3] at e4
        cases e3
        cases e4
        exact ⟨Evo.laid hT, hR'.laid hT, new_tup hR' hT (RVs.cons ((RV.strong hz _ h2).monoZ (ev.more hy)) (RVs.cons ((RV.strong hz _ h4).monoZ (ev.more hy)) RVs.nil))⟩
      · exact q1.elim
    · exact q1.elim
def iEnumG (K : PySem.W.Frag) (ta : TA) : TI := fun σ H R => ta σ H fun vs H1 => ∃ t a xs, vs = [.ref a] ∧ SqX K H1 t a xs ∧ R (JEnum K t a) H1
def enumD : Nat → List Dv → List Dv
  | _, [] => []
  | n, a :: r => .tup [.int (n : Nat), a] :: enumD (n + 1) r
theorem enumD_len : ∀ (n : Nat) (l : List Dv), (enumD n l).length = l.length
  | _, [] => rfl
  | n, a :: r => by simp [enumD, enumD_len (n + 1) r]
theorem enumD_get : ∀ {l : List Dv} {n i : Nat} {w : Dv}, (enumD n l)[i]? = some w → ∃ x, l[i]? = some x ∧ w = .tup [.int ((n + i : Nat) : Int), x]
  | [], _, _, _, h => by simp [enumD] at h
  | a :: r, n, 0, w, h => by simp [enumD] at h; exact ⟨a, rfl, h.symm⟩
  | a :: r, n, i + 1, w, h => by
    have h' : (enumD (n + 1) r)[i]? = some w := by simpa [enumD] using h
    obtain ⟨x, h1, h2⟩ := enumD_get h'
    exact ⟨x, by simpa using h1, by rw [h2]; simp; omega⟩
def iEnum1 (fa : FA) : FI := fun ρ s => (fa ρ s).bind fun ws s1 => match ws with
  | [x] => match plainOf x with
    | some (_, a) => .ok { ws := enumD 0 a } s1
    | none => .no
  | _ => .no
end
end MP
set_option Elab.async false
set_option linter.all false
set_option maxRecDepth 100000
set_option maxHeartbeats 4000000
namespace MP
open PySem PySem.Spec PyProof.Rows L2
theorem enum_new {v : Value} {o : Obj} {Hh : Heap → Prop} (B : Begins v o Hh) : Meets (Builtin.«enumerate.__new__» ⟨[.type "enumerate", v], []⟩) (fun _ R s => Hh s.heap ∧
    R (.ok (.ret (.ref (s.heap.push o).objs.size))) { s with heap := (s.heap.push o).push { cls := .type "enumerate", data := .fields #[.none, .bool false, .ref s.heap.objs.size, rawInt 0, .none, .none] } }) :=
  .of_wp fun prog w A R s h => by
    obtain ⟨hp, g, d, tk, os⟩ := s
    obtain ⟨h1, h⟩ := h
    have hsub := sub_enumerate
    have it : ∀ {A' : Around} {E Q : Value → Shared → Prop}, Q (.ref hp.objs.size) ⟨hp.push o, g, d, tk, os⟩ → wpAny (model prog w) A' (pyIter v) Q E ⟨hp, g, d, tk, os⟩ := fun q => B.iter prog w _ _ ⟨hp, g, d, tk, os⟩ _ h1 q
    wp_walk using it
    refine wpAny_stack_any fun st => wpAny_pure ?_
    split
    · rename_i c _ _ _ _ _
      cases (c == Value.type "enumerate") <;> (wp_walk using it; exact ⟨_, rfl, h⟩)
    · wp_walk using it
      exact ⟨_, rfl, h⟩
section
variable {prog : Program} {w : World} {A : Around} {E : Value → Shared → Prop} {s : Shared}
theorem enum_call {v : Value} {o : Obj} {Hh : Heap → Prop} {Q : Value → Shared → Prop} (B : Begins v o Hh) (h1 : Hh s.heap)
    (h : ∀ h', IsEnum h' (s.heap.objs.size + 1) s.heap.objs.size 0 .none → h'.get? s.heap.objs.size = some o → (∀ b o, s.heap.get? b = some o → h'.get? b = some o) → Q (.ref (s.heap.objs.size + 1)) { s with heap := h' }) :
    wpAny (model prog w) A (call (.type "enumerate") [v]) Q E s := by
  refine callType_new F.called_enumerate (by decide) (F.typeCall_enumerate_1 _) (F.newCall_enumerate_1 _) (fun obj => F.args_object_init_2 obj _) F.entry_enumerate_new (enum_new B) ⟨h1, ?_⟩
  have sz : (s.heap.push o).objs.size = s.heap.objs.size + 1 := Heap.size_push ..
  show _ ∧ _
  rw [sz]
  have e := Heap.get?_push_size (s.heap.push o) (o := { cls := .type "enumerate", data := .fields #[.none, .bool false, .ref s.heap.objs.size, rawInt 0, .none, .none] }) rfl
  rw [sz] at e
  exact ⟨⟨_, e, rfl⟩, h _ e (Heap.get?_push_of_some _ (Heap.get?_push_size _ B.free)) fun b o x => Heap.get?_push_of_some _ (Heap.get?_push_of_some _ x)⟩
end
section
variable {X : Cx} {Γ : Ct} {W : WX}
theorem pi_enumG {e : Expr} {ta : TA} {p pos tpos : Pos} {elts : List Expr} {kk : Nat} (hg : Gl X "enumerate") (hm : X.mg "enumerate" = none) (ha : PA X [e] ta) (hs : starEach [e] X.env = [(false, eval e X.env)] := by rfl) :
    PI X (.Tuple elts kk tpos) (.Call (.Name "enumerate" p) [e] [] pos) (iEnumG X.K ta) := by
  refine ⟨fun pins s σ H R I h => ?_⟩
  refine Call_ (ld_blt I hg hm boot_enumerate (callWith_type1 (thn (ha.run pos pins s σ H _ I h) fun us s1 ⟨vs, H1, I1, r1, q1⟩ => ?_) hs rfl))
  obtain ⟨t, a, xs, rfl, hqx, q⟩ := q1
  obtain ⟨v, rfl, rfl⟩ : ∃ v, us = [v] ∧ v = Value.ref a := by
    cases r1 with
    | cons r rr => cases rr; exact ⟨_, rfl, r⟩
  obtain ⟨its, rv, p1, la⟩ := hqx.has I1
  refine enum_call (beginsX t a its.toArray) p1 fun h' he h1 hk => wpAny_pyIter_enum he ?_
  have I2 : Inv X pins σ H1 { s1 with heap := h' } := I1.kept (t' := s1.toks) hk
  refine ⟨_, [s1.heap.objs.size + 1, s1.heap.objs.size], _, _, H1, rfl, I2, turn_enumX la, ⟨⟨.none, he⟩, ?_⟩, fun c hc => ?_, q⟩
  · unfold ItX
    cases t with
    | true => exact ⟨_, h1, rfl, rfl⟩
    | false => exact ⟨_, h1, rfl, rfl⟩
  · have e' : c = s1.heap.objs.size + 1 ∨ c = s1.heap.objs.size := by simpa using hc
    have hle : s1.heap.objs.size ≤ c := by rcases e' with z | z <;> (rw [z]; first | exact Nat.le_refl _ | exact Nat.le_add_right _ _)
    exact I1.fpOk hle (I1.hok.fresh hle)
theorem mi_enum {e : Expr} {fa : FA} {p pos tpos : Pos} {elts : List Expr} {kk : Nat} (hK : Γ.K = X.K) (hg : Gl X "enumerate") (hm : X.mg "enumerate" = none) (ha : MA X Γ W [e] fa) (hs : starEach [e] X.env = [(false, eval e X.env)] := by rfl) :
    MI X Γ W (.Tuple elts kk tpos) (.Call (.Name "enumerate" p) [e] [] pos) (iEnum1 fa) :=
  PI.imp (pi_enumG hg hm ha hs) fun σ H Q ⟨μ, Z, ρ, s, hE, hR, q⟩ => iA hE hR q fun ws s1 vs H1 μ1 e1 E1 R1 r1 q1 => by
    split at q1
    · rename_i x
      split at q1
      · rename_i t a qx
        obtain ⟨v, rfl, rx⟩ := one r1
        obtain ⟨pa, xs, rfl, r2, k2⟩ := plain_ok rx qx
        rw [← hK]
        refine ⟨t, pa, xs, rfl, k2 _ _ Evo.refl.z, q1 _ _ _ .refl R1 fun H' μ' Z' s' ev hR' hy hz _ => ⟨⟨xs, k2 _ _ ev, by rw [enumD_len, r2.len]⟩, fun i w hi => ?_⟩⟩
        obtain ⟨x', g1, rfl⟩ := enumD_get hi
        obtain ⟨ux, h1, h2⟩ := r2.get g1
        refine ⟨⟨xs, ux, k2 _ _ ev, h1⟩, fun z H'' hq => ?_⟩
        obtain ⟨T, zx, rfl, hT, rfl, j1⟩ := hq
        have e3 := j1 xs (k2 _ _ ev)
        rw [h1] at e3
        cases e3
        rw [Nat.zero_add]
        exact ⟨Evo.laid hT, hR'.laid hT, new_tup hR' hT (RVs.cons (w := .int (i : Nat)) rfl (RVs.cons ((RV.strong hz _ h2).monoZ (ev.more hy)) RVs.nil))⟩
      · exact q1.elim
    · exact q1.elim
def disp : Dv → Bool
  | .tup _ => true | .lst _ => true | .sq _ => true | .ref _ => true
  | _ => false
def reprD : ON := fun s xs => match xs with
  | [x] => if disp x = true then match toD s x with
      | some d => if d.showable = true ∧ d.hasDict = false ∧ d.depth ≤ 60 ∧ d.shown.length ≤ lim then some (.str d.shown) else none
      | none => none
    else none
  | _ => none
theorem sRepr (hK : Γ.K = X.K) : OpN Γ (rRepr X.K) reprD := fun H μ Z s xs w vs Q hR rx e k => by
  rw [← hK]
  unfold reprD at e
  split at e
  · rename_i x
    split at e
    · rename_i hd
      split at e
      · rename_i d q
        split at e
        · rename_i hc
          cases e
          obtain ⟨v, rfl, r1⟩ := one rx
          have hv : ∃ a, v = .ref a := by
            cases x with
            | tup _ => obtain ⟨a, _, h, _⟩ := r1; exact ⟨a, h⟩
            | lst _ => obtain ⟨a, _, h, _⟩ := r1; exact ⟨a, h⟩
            | sq _ => obtain ⟨a, _, h, _⟩ := r1; exact ⟨a, h⟩
            | ref _ => obtain ⟨a, h, _⟩ := r1; exact ⟨a, h⟩
            | _ => cases hd
          obtain ⟨a, rfl⟩ := hv
          exact ⟨_, a, d, rfl, rfl, toD_ok hR r1 q, hc.1, hc.2.1, hc.2.2.1, lim_ok hc.2.2.2, k _ H .refl hR rfl⟩
        · cases e
      · cases e
    · cases e
  · cases e
/-- without repeats -/
def ucons (a : Int) (r : List Int) : List Int := match r with
  | [] => [a]
  | b :: t => if a = b then b :: t else a :: b :: t
def usrt (ns : List Int) : List Int := (srt ns).foldr ucons []
theorem usrt_spec : ∀ l : List Int, l.Pairwise (· ≤ ·) → (l.foldr ucons []).Pairwise (· < ·) ∧ ∀ k, k ∈ (l.foldr ucons []) ↔ k ∈ l
  | [], _ => ⟨.nil, fun k => Iff.rfl⟩
  | a :: l, h => by
    obtain ⟨h1, h2⟩ := List.pairwise_cons.mp h
    obtain ⟨i1, i2⟩ := usrt_spec l h2
    rw [List.foldr_cons]
    revert i1 i2
    generalize (l.foldr ucons []) = r
    intro i1 i2
    cases r with
    | nil =>
      refine ⟨by unfold ucons; exact List.pairwise_singleton _ _, fun k => ?_⟩
      unfold ucons
      rw [List.mem_singleton, List.mem_cons, ← i2 k]
      simp
    | cons b t =>
      unfold ucons
      dsimp only
      have hb : a ≤ b := h1 b ((i2 b).mp List.mem_cons_self)
      split
      · rename_i e
        subst e
        refine ⟨i1, fun k => ?_⟩
        rw [List.mem_cons (l := l), ← i2 k, List.mem_cons]
        exact ⟨fun z => .inr z, fun z => z.elim .inl id⟩
      · rename_i e
        refine ⟨List.pairwise_cons.mpr ⟨fun c hc => ?_, i1⟩, fun k => ?_⟩
        · rcases List.mem_cons.mp hc with z | z
          · rw [z]; omega
          · have := (List.pairwise_cons.mp i1).1 c z
            omega
        · rw [List.mem_cons, List.mem_cons (l := l), i2 k]
theorem strict_eq : ∀ {l l' : List Int}, l.Pairwise (· < ·) → l'.Pairwise (· < ·) → (∀ k, k ∈ l ↔ k ∈ l') → l = l'
  | [], [], _, _, _ => rfl
  | [], b :: t, _, _, h => absurd ((h b).mpr List.mem_cons_self) (by simp)
  | a :: r, [], _, _, h => absurd ((h a).mp List.mem_cons_self) (by simp)
  | a :: r, b :: t, h, h', hk => by
    obtain ⟨h1, h2⟩ := List.pairwise_cons.mp h
    obtain ⟨g1, g2⟩ := List.pairwise_cons.mp h'
    have hab : a = b := by
      have ha := (hk a).mp List.mem_cons_self
      have hb := (hk b).mpr List.mem_cons_self
      rcases List.mem_cons.mp ha with e | e
      · exact e
      · rcases List.mem_cons.mp hb with e' | e'
        · exact e'.symm
        · have := h1 b e'
          have := g1 a e
          omega
    subst hab
    rw [strict_eq h2 g2 fun k => ?_]
    constructor
    · intro hm
      rcases List.mem_cons.mp ((hk k).mp (List.mem_cons_of_mem _ hm)) with e | e
      · have := h1 k hm; omega
      · exact e
    · intro hm
      rcases List.mem_cons.mp ((hk k).mpr (List.mem_cons_of_mem _ hm)) with e | e
      · have := g1 k hm; omega
      · exact e
def mPairs : List (FE × FE) → Env → Sto → R (List (Dv × Dv))
  | [], _, s => .ok [] s
  | (f, g) :: r, ρ, s => (f ρ s).bind fun x s1 => (g ρ s1).bind fun y s2 => (mPairs r ρ s2).bind fun ps s3 => .ok ((x, y) :: ps) s3
def keysOf : List (Dv × Dv) → Option (List (Key × Dv))
  | [] => some []
  | (x, y) :: r => match keyOf x, keysOf r with
    | some k, some l => some ((k, y) :: l)
    | _, _ => none
def mDctM (ps : List (FE × FE)) : FE := fun ρ s => match mPairs ps ρ s with
  | .ok l s1 => match keysOf l with
    | some kws => if kws.length ≤ 15 then .ok (.ref s1.length) (s1 ++ [.dct (kws.foldl (fun acc kv => putD acc kv.1 kv.2) [])]) else .no
    | none => .no
  | _ => .no
theorem pairs_ok {Z : Zs} {σ : L2.St} {ρ : Env} : ∀ {ps : List (FE × FE)} {H : Hp} {μ : Mu} {s s' : Sto} {l : List (Dv × Dv)} {Q' : List (V × V) → Hp → Prop}, RE Γ H μ Z ρ σ → Rep Γ H μ Z s → mPairs ps ρ s = .ok l s' →
    (∀ vs H1 μ1, Evo H μ H1 μ1 → Rep Γ H1 μ1 Z s' → RVs Γ H1 μ1 Z (l.map (·.1)) (vs.map (·.1)) → RVs Γ H1 μ1 Z (l.map (·.2)) (vs.map (·.2)) → Q' vs H1) →
    tPairs (ps.map fun p => (rdE Γ W p.1, rdE Γ W p.2)) σ H Q'
  | [], H, μ, s, s', l, Q', hE, hR, q, hk => by
    cases q
    exact hk [] H μ .refl hR rfl rfl
  | (f, g) :: r, H, μ, s, s', l, Q', hE, hR, q, hk => by
    simp only [mPairs] at q
    cases e1 : f ρ s with
    | no => rw [e1] at q; cases q
    | er x s1 => rw [e1] at q; cases q
    | ok x s1 =>
      rw [e1] at q
      dsimp only [R.bind] at q
      cases e2 : g ρ s1 with
      | no => rw [e2] at q; cases q
      | er y s2 => rw [e2] at q; cases q
      | ok y s2 =>
        rw [e2] at q
        dsimp only at q
        cases e3 : mPairs r ρ s2 with
        | no => rw [e3] at q; cases q
        | er y s2 => rw [e3] at q; cases q
        | ok l' s3 =>
          rw [e3] at q
          cases q
          refine ⟨μ, Z, ρ, s, hE, hR, ?_⟩
          show PostE Γ W H μ Z σ _ (f ρ s)
          rw [e1]
          intro u H1 μ1 v1 R1 r1
          refine ⟨μ1, Z, ρ, s1, hE.mono v1, R1, ?_⟩
          show PostE Γ W H1 μ1 Z σ _ (g ρ s1)
          rw [e2]
          intro v H2 μ2 v2 R2 r2
          exact pairs_ok ((hE.mono v1).mono v2) R2 e3 fun vs H3 μ3 v3 R3 g1 g2 => hk ((u, v) :: vs) H3 μ3 ((v1.trans v2).trans v3) R3 (RVs.cons ((r1.mono v2).mono v3) g1) (RVs.cons (r2.mono v3) g2)
theorem keysOf_ok {H : Hp} {μ : Mu} {Z : Zs} : ∀ {l : List (Dv × Dv)} {vs : List (V × V)} {kws : List (Key × Dv)}, RVs Γ H μ Z (l.map (·.1)) (vs.map (·.1)) → RVs Γ H μ Z (l.map (·.2)) (vs.map (·.2)) → keysOf l = some kws →
    ∃ kvs : List (Key × V), vs = kvs.map (fun kv => (kV kv.1, kv.2)) ∧ kvs.map (·.1) = kws.map (·.1) ∧ RVs Γ H μ Z (kws.map (·.2)) (kvs.map (·.2))
  | [], vs, _, h1, _, e => by
    cases e
    cases vs with
    | nil => exact ⟨[], rfl, rfl, rfl⟩
    | cons _ _ => cases h1
  | (x, y) :: l, vs, kws, h1, h2, e => by
    cases vs with
    | nil => obtain ⟨_, _, z, _⟩ := h1; cases z
    | cons p vs =>
      obtain ⟨u, us, z1, r1, r2⟩ := h1
      obtain ⟨v, ws, z2, r3, r4⟩ := h2
      obtain ⟨a1, a2⟩ := List.cons.inj z1
      obtain ⟨b1, b2⟩ := List.cons.inj z2
      simp only [keysOf] at e
      split at e
      · rename_i k l' e1 e2
        cases e
        obtain ⟨kvs, c1, c2, c3⟩ := keysOf_ok (a2 ▸ r2) (b2 ▸ r4) e2
        refine ⟨(k, v) :: kvs, ?_, by rw [List.map_cons, List.map_cons, c2], RVs.cons r3 c3⟩
        rw [List.map_cons, ← c1]
        have p1 : p.1 = u := a1
        have p2 : p.2 = v := b1
        show p :: vs = (kV k, v) :: vs
        rw [← keyOf_ok r1 e1, ← p1, ← p2]
      · cases e
theorem merge_ok {H : Hp} {μ : Mu} {Z : Zs} : ∀ {kws acc : List (Key × Dv)} {kvs bcc : List (Key × V)}, kvs.map (·.1) = kws.map (·.1) → RVs Γ H μ Z (kws.map (·.2)) (kvs.map (·.2)) → bcc.map (·.1) = acc.map (·.1) → RVs Γ H μ Z (acc.map (·.2)) (bcc.map (·.2)) →
    (mergeK bcc kvs).map (·.1) = (kws.foldl (fun acc kv => putD acc kv.1 kv.2) acc).map (·.1) ∧ RVs Γ H μ Z ((kws.foldl (fun acc kv => putD acc kv.1 kv.2) acc).map (·.2)) ((mergeK bcc kvs).map (·.2))
  | [], acc, kvs, bcc, h1, _, h3, h4 => by
    cases kvs with
    | nil => exact ⟨h3, h4⟩
    | cons _ _ => cases h1
  | p :: kws, acc, kvs, bcc, h1, h2, h3, h4 => by
    cases kvs with
    | nil => cases h1
    | cons q kvs =>
      obtain ⟨a1, a2⟩ := List.cons.inj h1
      obtain ⟨v, vs, z, r1, r2⟩ := h2
      obtain ⟨b1, b2⟩ := List.cons.inj z
      subst b1
      have a1' : q.1 = p.1 := a1
      obtain ⟨c1, c2⟩ := putD_ok (k := p.1) r1 h3 h4
      have := merge_ok (kws := kws) (acc := putD acc p.1 p.2) (kvs := kvs) (bcc := putK bcc p.1 q.2) a2 (b2 ▸ r2) c1 c2
      show (mergeK (putK bcc q.1 q.2) kvs).map (·.1) = _ ∧ RVs Γ H μ Z _ ((mergeK (putK bcc q.1 q.2) kvs).map (·.2))
      rw [a1']
      exact this
theorem ext_fz {μ : Mu} {Z : Zs} {n : Nat} {p a : Addr} (f : Fz μ (hid p Z) a) : Fz (MP.ext μ n p) Z a := ⟨fun m h => by
  unfold MP.ext at h
  split at h
  · cases h; exact f.2 (.inl rfl)
  · exact f.1 m h, fun z => f.2 (.inr z)⟩
theorem ext_mu {μ : Mu} {n m : Nat} {p a : Addr} (hn : μ n = none) (h : μ m = some a) : MP.ext μ n p m = some a := by
  unfold MP.ext
  rw [if_neg fun z => by rw [z, hn] at h; cases h]
  exact h
mutual
theorem RV.adopt {H : Hp} {μ : Mu} {Z : Zs} {n : Nat} {p : Addr} (hn : μ n = none) : ∀ (w : Dv) {v : V}, RV Γ H μ (hid p Z) w v → RV Γ H (MP.ext μ n p) Z w v
  | .non, _, q => q
  | .bl _, _, q => q
  | .int _, _, q => q
  | .str _, _, q => q
  | .ty _, _, q => q
  | .cl _, _, q => q
  | .ref n, _, q => by
    obtain ⟨a, h1, h2⟩ := q
    exact ⟨a, h1, ext_mu hn h2⟩
  | .tup ws, _, q => by
    obtain ⟨a, xs, h1, h2, h3⟩ := q
    exact ⟨a, xs, h1, h2.elim (fun z => .inl ⟨z.1, ext_fz z.2⟩) .inr, RVs.adopt hn ws h3⟩
  | .sq ws, _, q => by
    obtain ⟨a, xs, h1, h2, h3⟩ := q
    exact ⟨a, xs, h1, h2.elim (fun z => .inl ⟨z.1, ext_fz z.2⟩) .inr, RVs.adopt hn ws h3⟩
  | .lst ws, _, q => by
    obtain ⟨a, xs, h1, h2, h3, h4⟩ := q
    exact ⟨a, xs, h1, h2, ext_fz h3, RVs.adopt hn ws h4⟩
  | .dct ks ws, _, q => by
    obtain ⟨a, kvs, h1, h2, h3, h4, h5⟩ := q
    exact ⟨a, kvs, h1, h2, ext_fz h3, h4, RVs.adopt hn ws h5⟩
  | .dtt kd ws, _, q => by
    obtain ⟨a, kvs, h1, h2, h3, h4, h5, h6⟩ := q
    exact ⟨a, kvs, h1, h2, ext_fz h3, h4, RVs.adopt hn kd h5, RVs.adopt hn ws h6⟩
  | .exc c f w, _, q => by
    obtain ⟨a, dx, x, h1, h2, h3, h4, h5, h6⟩ := q
    exact ⟨a, dx, x, h1, h2, ext_fz h3, h4, ext_fz h5, RV.adopt hn w h6⟩
  | .exn c, _, q => by
    obtain ⟨a, h1, h2, h3⟩ := q
    exact ⟨a, h1, h2, ext_fz h3⟩
  | .clo a c _ ws vs, _, q => by
    obtain ⟨h1, h2, h3, h4⟩ := q
    exact ⟨h1, h2, ext_fz h3, RVs.adopt hn ws h4⟩
theorem RVs.adopt {H : Hp} {μ : Mu} {Z : Zs} {n : Nat} {p : Addr} (hn : μ n = none) : ∀ (ws : List Dv) {vs : List V}, RVs Γ H μ (hid p Z) ws vs → RVs Γ H (MP.ext μ n p) Z ws vs
  | [], _, q => q
  | w :: ws, _, q => by
    obtain ⟨x, xs, h1, h2, h3⟩ := q
    exact ⟨x, xs, h1, RV.adopt hn w h2, RVs.adopt hn ws h3⟩
end
theorem RO.adopt {H : Hp} {μ : Mu} {Z : Zs} {n : Nat} {p a : Addr} {ob : Ob} (hn : μ n = none) (r : RO Γ H μ (hid p Z) a ob) : RO Γ H (MP.ext μ n p) Z a ob := by
  cases ob with
  | lst ws =>
    obtain ⟨xs, h4, h5⟩ := r
    exact ⟨xs, h4, h5.adopt hn⟩
  | dct kws =>
    obtain ⟨kvs, h4, h5, h6⟩ := r
    exact ⟨kvs, h4, h5, h6.adopt hn⟩
  | dtt fr kws =>
    obtain ⟨kvs, h4, h5, h6, h7⟩ := r
    exact ⟨kvs, h4, h5, h6.adopt hn, h7.adopt hn⟩
  | obj c fs =>
    obtain ⟨dx, kvs, h4, h5, h6⟩ := r
    exact ⟨dx, kvs, h4, h5, h6.adopt hn⟩
  | tab m q => exact ⟨r.1, tab_imp rfl (fun c e1 e2 => ⟨e1, ext_fz e2⟩) r.2⟩
/-- what was hidden becomes an object of the store -/
theorem Rep.adoptO {H : Hp} {μ : Mu} {Z : Zs} {s : Sto} {D : Addr} {ob : Ob} (R : Rep Γ H μ (hid D Z) s) (hz : ¬ Z D) (ro : RO Γ H μ (hid D Z) D ob) : Rep Γ H (MP.ext μ s.length D) Z (s ++ [ob]) := by
  have nm := R.mu_new
  have noD : ∀ {m : Nat} {a : Addr}, μ m = some a → a ≠ D := fun h e => R.notZ h (.inl e)
  refine ⟨fun n o' q => ?_, fun n m a h1 h2 => ?_, fun n a h => ?_, fun a z => R.za a (.inr z)⟩
  · by_cases hn : n = s.length
    · subst hn
      rw [List.getElem?_append_right (Nat.le_refl _)] at q
      simp at q
      subst q
      exact ⟨D, by unfold MP.ext; rw [if_pos rfl], hz, ro.adopt nm⟩
    · have hl : n < s.length := by
        have := (List.getElem?_eq_some_iff.mp q).1
        rw [List.length_append, List.length_singleton] at this
        omega
      rw [List.getElem?_append_left hl] at q
      obtain ⟨a, h1, h2, h3⟩ := R.at n o' q
      exact ⟨a, ext_mu nm h1, fun z => h2 (.inr z), h3.adopt nm⟩
  · unfold MP.ext at h1 h2
    split at h1 <;> split at h2
    · rename_i e1 e2; rw [e1, e2]
    · cases h1; exact absurd rfl (noD h2)
    · cases h2; exact absurd rfl (noD h1)
    · exact R.inj _ _ _ h1 h2
  · unfold MP.ext at h
    rw [List.length_append, List.length_singleton]
    split at h
    · omega
    · have := R.dom _ _ h
      omega
theorem Evo.adopt {H H1 : Hp} {μ μ1 : Mu} {n : Nat} {p : Addr} (e : Evo H μ H1 μ1) (hp : H p = none) (hn : μ1 n = none) : Evo H μ H1 (MP.ext μ1 n p) :=
  ⟨e.keep, fun m a h => ext_mu hn (e.mu m a h), fun m a h => by
    unfold MP.ext at h
    split at h
    · cases h; exact .inr hp
    · exact e.new m a h, e.stay⟩
theorem me_dctM {pos : Pos} {keys : List (Option Expr)} {values : List Expr} {ps : List (FE × FE)} (h : PPs X pos keys values (ps.map fun p => (rdE Γ W p.1, rdE Γ W p.2))) (hall : keys.all (·.isSome) = true) (hl : keys.length = values.length) (h0 : keys ≠ []) (h15 : keys.length ≤ 15) :
    ME X Γ W (.Dict keys values pos) (mDctM ps) :=
  PE.imp (pe_disp h hall hl h0 h15) fun σ H Q ⟨μ, Z, ρ, s, hE, hR, q⟩ p hp => by
    unfold mDctM at q
    cases e : mPairs ps ρ s with
    | no => rw [e] at q; exact q.elim
    | er x s1 => rw [e] at q; exact q.elim
    | ok l s1 =>
      rw [e] at q
      dsimp only at q
      split at q
      · rename_i kws ek
        split at q
        · rename_i h15'
          refine pairs_ok (hE.hide hp) (hR.hide hp) e fun vs H1 μ1 ev R1 g1 g2 => ?_
          obtain ⟨kvs, c1, c2, c3⟩ := keysOf_ok g1 g2 ek
          have hH : H1 p = some (.dK []) := ev.keep p _ upd_same fun n hn => hR.alive hn hp
          refine ⟨hH, kvs, c1, by rw [map_len c2]; exact h15', ?_⟩
          obtain ⟨d1, d2⟩ := merge_ok (Γ := Γ) (H := upd H1 p (.dK (mergeK [] kvs))) (μ := μ1) (Z := hid p Z) (acc := []) (bcc := []) c2 (RVs.updZ _ c3) rfl rfl
          have R2 : Rep Γ (upd H1 p (.dK (mergeK [] kvs))) μ1 (hid p Z) s1 := R1.updZ
          have nz : ¬ Z p := fun z => hR.za p z hp
          have e0 : Evo H μ (upd H1 p (.dK (mergeK [] kvs))) μ1 := ((Evo.laid hp).trans ev).hid hp
          exact q (.ref p) _ _ (e0.adopt hp R1.mu_new) (R2.adoptO nz ⟨_, upd_same, d1, d2⟩) ⟨p, rfl, by unfold MP.ext; rw [if_pos rfl]⟩
        · exact q.elim
      · exact q.elim
end
end MP
set_option Elab.async false
set_option linter.all false
set_option maxRecDepth 100000
set_option maxHeartbeats 4000000
namespace MP
open PySem PySem.Spec PyProof.Rows L2
section
variable {X : Cx} {Γ : Ct} {W : WX} {a b c e : Expr} {f g h h' : FE} {pos : Pos} {x y : Str} {i j : Nat}
/-- a < b < c as a test -/
theorem mt_chain {op op' : CmpOp} {r r' : R2} {o o' : O2} (ho : OpR X (compareOp op) r) (ho' : OpR X (compareOp op') r') (hs : Op2 Γ r o) (hs' : Op2 Γ r' o') (hm : lastMarks [op, op'] [b, c] = false)
    (ha : ME X Γ W a f) (hb : ME X Γ W b g) (hc : ME X Γ W c h') : MT X Γ W (.Compare a [op, op'] [b, c] pos) (mTest (mChain o o' f g h')) := by
  have key : ∀ σ H (Q : VK), rdE Γ W (mChain o o' f g h') σ H Q → tChain r r' (rdE Γ W f) (rdE Γ W g) (rdE Γ W h') σ H Q := fun σ H Q ⟨μ, Z, ρ, s, hE, hR, q⟩ => eE hE hR q fun x s1 u H1 μ1 e1 hE1 R1 r1 q1 => eE hE1 R1 q1 fun y s2 v H2 μ2 e2 hE2 R2 r2 q2 => by
    cases hw : o s2 x y with
    | none => rw [hw] at q2; exact q2.elim
    | some w =>
      rw [hw] at q2
      refine hs H2 μ2 Z s2 x y w u v _ R2 (r1.mono e2) r2 hw fun z H3 e3 R3 r3 => ?_
      cases w with
      | bl k =>
        refine ⟨k, r3, ?_⟩
        cases k with
        | true =>
          rw [if_pos rfl]
          exact eE (hE2.mono e3) R3 (PostE.evo e3 q2) fun z' s3 v3 H4 μ4 e4 hE4 R4 r4 q4 => by
            obtain ⟨w', hw', k'⟩ := ofE q4
            exact hs' H4 μ4 Z s3 y z' w' v v3 Q R4 ((r2.mono e3).mono e4) r4 hw' k'
        | false =>
          rw [if_neg Bool.false_ne_true]
          exact okE R3 (w := .bl false) rfl (PostE.evo e3 q2)
      | _ => exact q2.elim
  refine PT.imp (pt_chain ho ho' ha hb hc hm) fun σ H Q ⟨μ, Z, ρ, s, hE, hR, q⟩ => key σ H _ ?_
  refine ⟨μ, Z, ρ, s, hE, hR, ?_⟩
  have q' : PostT Γ W H μ Z σ Q ((mChain o o' f g h' ρ s).bind fun x s1 => match x with
      | .bl b => .ok b s1
      | _ => .no) := q
  revert q'
  cases mChain o o' f g h' ρ s with
  | ok w s1 =>
    intro q' v H' μ' ev R' rv
    cases w with
    | bl b => exact ⟨b, rv, okT R' (PostT.evo ev q')⟩
    | _ => exact q'.elim
  | er x s1 => exact id
  | no => exact id
def mPar (i j : Nat) (fa : FA) : FS := fun ρ s => (fa ρ s).thenC ρ fun ws s1 => match ws with
  | [v, w] => .nx ((ρ.set i (some v)).set j (some w)) s1
  | _ => .no
theorem ms_par {px py pt : Pos} {kt k2 pt2} {fa : FA} (hc : X.calm = true) (hN : X.N.Nodup) (hi : X.N[i]? = some x) (hj : X.N[j]? = some y) (hij : i ≠ j)
    (hx : X.env.scope.names.lookup x = some .local) (hy : X.env.scope.names.lookup y = some .local) (ha : MA X Γ W [a, b] fa)
    (hw : swappedStores [.Tuple [.Name x px, .Name y py] kt pt] (.Tuple [a, b] k2 pt2) X.env = pure (some [x, y]))
    (hs : swapsWithSole [.Tuple [.Name x px, .Name y py] kt pt] (.Tuple [a, b] k2 pt2) pos.line X.env = pure false := by rfl) :
    MS X Γ W (.Assign [.Tuple [.Name x px, .Name y py] kt pt] (.Tuple [a, b] k2 pt2) pos) (mPar i j fa) :=
  PS.imp (ps_par hc hN hi hj hij hx hy ha hw hs) fun D σ H ⟨μ, Z, ρ, s, hE, hR, q⟩ => aS hE hR q fun ws s1 vs H1 μ1 ev E1 R1 r1 q1 => by
    match ws, q1, r1 with
    | [v, w], q1, r1 =>
      obtain ⟨x1, xs, rfl, ra, rb⟩ := r1
      obtain ⟨x2, xs, rfl, rb, rfl⟩ := rb
      exact ⟨x1, x2, rfl, q1 _ H1 μ1 .refl R1 ((E1.set i ra).set j rb)⟩
    | [], q1, _ => exact q1.elim
    | [_], q1, _ => exact q1.elim
    | _ :: _ :: _ :: _, q1, _ => exact q1.elim
def mStuck : FS := fun _ _ => .no
theorem ms_stuck {st : Stmt} : MS X Γ W st mStuck := PS.imp ps_never fun D σ H ⟨μ, Z, ρ, s, hE, hR, q⟩ => q.elim
theorem tk0 {X : Cx} : Takes X W0 := fun u s' ⟨_, _, _, _, _, _, _, _, _, _, _, _, _, _, _, _, w⟩ => w.elim
theorem me_globJ {x : Str} {i : Int} {pos : Pos} (hg : Gl X x) (hm : ∃ t, X.mg x = some (.int i t)) (hd : (x == ("__debug__" : Str)) = false := by decide) : ME X Γ W (.Name x pos) (mK (.int i)) := by
  obtain ⟨t, h⟩ := hm
  exact me_globI hg h hd
theorem go_name {i : Nat} : GOk Γ (gName i) (gN i) := fun H μ Z ρ ρ' s σ w v Q hE hR r e k => by
  cases e
  exact k _ (hE.set i r)
theorem ms_set {i : Nat} {x : Str} {pos' : Pos} (hN : X.N.Nodup) (hi : X.N[i]? = some x) (hx : Loc X.env.scope x) (he : ME X Γ W e f) (hs : swapsWith e (some (.Name x pos')) pos.line X.env = pure false := by rfl) (hf : X.fn x = true ∨ X.env.scope.names.lookup x = some .local := by first | exact .inl rfl | exact .inr rfl | assumption) :
    MS X Γ W (.Assign [.Name x pos'] e pos) (mAsg f (gN i)) := ms_asg (ps_set hN hi hx he hs hf) go_name
theorem mgs_cons' {tg : Expr} {tgs : List Expr} {g : TG} {gs : TGs} {fg : FG} {fgs : List Dv → Env → Sto → Option Env} (h1 : MG X Γ tg g fg) (h2 : MGs X Γ tgs gs fgs)
    (hs : (assignEach (tg :: tgs) X.env).map (·.2) = assign tg X.env :: (assignEach tgs X.env).map (·.2) := by rfl) : MGs X Γ (tg :: tgs) (gCons g gs) (gsC fg fgs) := mgs_cons h1 h2 (pgs_cons h1.1 h2.1 hs)
theorem mg_tup' {tgs : List Expr} {kk n : Nat} {gs : TGs} {fgs : List Dv → Env → Sto → Option Env} (hK : Γ.K = X.K) (hc : X.calm = true) (h : MGs X Γ tgs gs fgs)
    (hn : (assignEach tgs X.env).length = n := by rfl) (hst : (assignEach tgs X.env).findIdx? (·.1) = none := by rfl) : MG X Γ (.Tuple tgs kk pos) (gTup X.K n gs) (gT n fgs) := mg_tup hK.symm (pg_tup hc h.1 hn hst) h.2
theorem ms_setT {tg e : Expr} {g : TG} {fg : FG} (he : ME X Γ W e f) (hg : MG X Γ tg g fg) (hs : swapsWithSole [tg] e pos.line X.env = pure false := by rfl) (hw : swappedStores [tg] e X.env = pure none := by rfl)
    (h1 : (assignEach [tg] X.env).map (·.2) = [assign tg X.env] := by rfl) : MS X Γ W (.Assign [tg] e pos) (mAsg f fg) := ms_asg (ps_asg he hg.1 hs hw h1) hg.2
def FA.Len (fa : FA) (n : Nat) : Prop := ∀ ρ s ws s', fa ρ s = .ok ws s' → ws.length = n
theorem len_nil : FA.Len mNil 0 := fun ρ s ws s' q => by cases q; rfl
theorem len_cons {fa : FA} {n : Nat} (q : fa.Len n) : FA.Len (mCons f fa) (n + 1) := fun ρ s ws s' p => by
  unfold mCons at p
  cases h1 : f ρ s with
  | ok w s1 =>
    rw [h1] at p
    have p2 : (fa ρ s1).bind (fun xs s2 => R.ok (w :: xs) s2) = .ok ws s' := p
    cases h2 : fa ρ s1 with
    | ok xs s2 =>
      rw [h2] at p2
      cases p2
      rw [List.length_cons, q ρ s1 xs _ h2]
    | er z s2 => rw [h2] at p2; cases p2
    | no => rw [h2] at p2; cases p2
  | er z s1 => rw [h1] at p; cases p
  | no => rw [h1] at p; cases p
end
/-- what a call of x must know -/
def Cal (P : Program) (w : World) (mg : Str → Option Value) (base : Heap) (Γ : Ct) (k : Nat) (x : Str) (ps : List Str) (den : Fn) : Prop :=
  ∃ (f : Addr) (fd : FuncData), FnG P w mg base Γ k f fd ps den ∧ mg x = some (.ref f) ∧ PySem.W.keepIn Γ.K (.ref f) = true ∧ Binds Γ.K fd ps []
section
variable {X : Cx} {Γ : Ct} {W : WX} {k k' : Nat} {ps : List Str} {den : Fn} {x : Str} {p pos : Pos} {e : Expr} {es : List Expr} {fa : FA}
theorem me_cal (C : Cal X.prog X.w X.mg X.base Γ k x ps den) (hK : Γ.K = X.K) (hr : Room k X.A) (hg : X.A.guards = some []) (tk : Takes X W) (hgl : Gl X x) (ha : MA X Γ W (e :: es) fa) (n : Nat) (hl : FA.Len fa n) (hn : n = ps.length) (hnl : (e :: es).length = n) (hdb : (x == ("__debug__" : Str)) = false := by decide)
    (he : starEach (e :: es) X.env = (false, eval e X.env) :: starEach es X.env := by rfl) (hpl : (backTo pos (starEach es X.env)).any (·.1) = false := by rfl) :
    ME X Γ W (.Call (.Name x p) (e :: es) [] pos) (mCall den fa) := by
  obtain ⟨f, fd, F, hm, hk, hb⟩ := C
  have := me_call (ds := []) (dvs := []) (dws := []) (pos := pos) (p := p) F hK hr hg hgl hm (hK ▸ hk) (hK ▸ hb) .nil (fun _ _ _ => rfl) n (by simpa using hn) hnl tk ha hl hdb he hpl
  have e1 : mCall (fun ws => den (ws ++ [])) fa = mCall den fa := by
    congr 1
    funext ws
    rw [List.append_nil]
  rwa [e1] at this
end
end MP
set_option Elab.async false
set_option linter.all false
set_option maxRecDepth 100000
set_option maxHeartbeats 4000000
namespace MP
open PySem PySem.Spec PyProof.Rows L2
abbrev bare : Obj := seqObj "list" #[] 0
abbrev grown (h : Heap) (vs : List Value) : Heap := (h.push bare).update h.objs.size (Obj.mapSeq (· ++ vs.toArray))
section
variable {P : Program} {w : World} {A : Around} {E : Value → Shared → Prop} {s : Shared} {t : Addr} {vs : List Value}
theorem gather_tup {Q : List Value → Shared → Prop} (ht : IsTup s.heap t vs.toArray) (hz : vs.length ≤ sizeLine) (h : Q vs { s with heap := grown s.heap vs }) : wpAny (model P w) A (collect (.ref t)) Q E s := by
  obtain ⟨o, e1, e2, n, e3⟩ := id ht
  have m1 : (s.heap.push bare).get? s.heap.objs.size = some bare := Heap.get?_push_size _ rfl
  have m2 : (s.heap.push bare).get? t = some o := Heap.get?_push_of_some _ e1
  unfold collect
  apply wpAny_bind
  apply wpAny_runValue
  apply codeAny_builtin entry_proto_collect'
  apply wpAny_bind
  apply wpAny_newList (h := ?_) (Nat.zero_le _)
  refine wpAny_pure ⟨Code.quiet_builtin _ (by decide +kernel), codeAny_builtin entry_list_iadd' ?_⟩
  show wpAny _ _ (Builtin.List.listExtendWith _ _ _) _ _ _
  unfold Builtin.List.listExtendWith
  apply wpAny_bind
  refine wpAny_typeOf (T := "tuple") ⟨o, m2, e2⟩ ?_
  have tt : (Value.type "tuple" == Value.type "tuple") = true := by rfl
  rw [if_pos (by rw [tt, Bool.or_true])]
  apply wpAny_bind
  apply listItems_at m2 e3
  apply wpAny_bind
  apply listItems_at (xs := #[]) (n := 0) m1 rfl
  rw [if_neg (fun z => by simp at z)]
  apply wpAny_bind
  refine listUpdate_at (xs := #[]) (n := 0) m1 rfl (wpAny_pure ?_) (Nat.zero_le _) (by simp only [Array.size_append, List.size_toArray, List.length_nil]; omega)
  dsimp only
  apply wpAny_bind
  refine wpAny_load (get?_update_seq m1 _) ?_
  refine wpAny_pure (cast ?_ h)
  congr 1
  simp
theorem sorted_tup {lt : Value → Value → Bool} {Q : Value → Shared → Prop} (O : SrtO.Swo lt) (ht : IsTup s.heap t vs.toArray) (hz : vs.length ≤ sizeLine)
    (hS : 2 ≤ vs.length → ∀ (h1 : Heap) (a : Addr), SrtO.SortableO P w A.in1.in1 { s with heap := h1 } a vs lt)
    (h : ∀ out : List Value, SrtO.Srtd lt out → SrtO.Stb lt out vs → Q (.ref (s.heap.objs.size + 1)) { s with heap := sortedAll s.heap vs out.toArray }) :
    wpAny (model P w) A (call (.builtin "sorted") [.ref t]) Q E s := by
  apply Calls.call_function_entry kind_sorted plain_sorted entry_sorted (args_sorted1 _)
  unfold Builtin.«sorted»
  apply wpAny_bind (m := checkCount "sorted" 1 1 _)
  apply wpAny_pure
  apply wpAny_bind
  apply gather_tup ht hz
  apply wpAny_bind
  refine wpAny_newList ?_ hz
  have n1 : (grown s.heap vs).objs.size = s.heap.objs.size + 1 := (Heap.size_update _ _ _).trans (size_push' _ _)
  dsimp only
  rw [n1]
  have n2 : ((grown s.heap vs).push (seqObj "list" vs.toArray 0)).get? (s.heap.objs.size + 1) = some (seqObj "list" vs.toArray 0) := n1 ▸ Heap.get?_push_size _ rfl
  apply wpAny_bind
  apply wpAny_holding
  refine wpAny_call_entry slot_list_sort ⟨_, n2, rfl⟩ entry_list_sort ?_ (args_list_sort _)
  exact SrtO.list_sort_ord O n2 hz (fun h2 => hS h2 _ _) fun out a b => ⟨_, rfl, wpAny_pure ⟨_, rfl, h out a b⟩⟩
end
section
variable {X : Cx} {Γ : Ct}
def rSortedTI (K : PySem.W.Frag) : List V → Hp → VK → Prop := fun vs H Q => ∃ (a : Addr) (ns : List Int), vs = [V.ref a] ∧ SqT K H a (ns.map V.int) ∧
  ∀ (ms : List Int) (p : Addr), ms.Perm ns → ms.Pairwise (· ≤ ·) → H p = none → Q (.ref p) (upd H p (.lst (ms.map V.int)))
theorem cr_sortedTI : CallR X (.builtin "sorted") (rSortedTI X.K) := by
  intro pins s σ H vs us Q I r h
  obtain ⟨a, ns, rfl, ht, q⟩ := h
  obtain ⟨its, rv, it, hz⟩ := I.tuple ht
  rw [Vals.ref1 r]
  have ia := rv.ints
  have hz' : its.length ≤ sizeLine := by rw [← rv.length]; exact hz
  refine sorted_tup SrtO.swo_int it hz' (fun h2 _ _ => SrtO.ints_sortable ia h2) fun out h1 h2 => ?_
  obtain ⟨k1, k2, k3⟩ := SrtO.ints_out ia h1 h2
  obtain ⟨ep, at1⟩ := sortedAll_at s.heap its out.toArray
  have hl : ((out.map SrtO.iv).map V.int).length ≤ sizeLine := by
    rw [List.length_map] at hz ⊢
    rwa [k2.length_eq]
  refine ⟨.ref _, upd H (s.heap.objs.size + 1) (.lst ((out.map SrtO.iv).map V.int)), I.laid (t' := s.toks) (fun _ _ e => sortedAll_old e) (Nat.le_succ _) ?_, rfl, q _ _ k2 k3 (I.hok.fresh (Nat.le_succ _))⟩
  exact ⟨hl, out, ep, vals_of_ints k1, at1⟩
theorem IsTup.isTuple {h : Heap} {a : Addr} {xs : Array Value} (x : IsTup h a xs) : h.IsTuple a xs := by
  obtain ⟨o, e1, e2, n, e3⟩ := x
  exact ⟨o, e1, e2, n, e3⟩
theorem cr_sumT (hc : X.calm = true) : CallR X (.builtin "sum") (fun vs H Q => ∃ (a : Addr) (ns : List Int), vs = [V.ref a] ∧ SqT X.K H a (ns.map V.int) ∧ Q (.int ns.sum) H) := by
  intro pins s σ H vs us Q I r h
  obtain ⟨a, ns, rfl, ht, q⟩ := h
  obtain ⟨its, rv, it, hz⟩ := I.tuple ht
  rw [Vals.ref1 r]
  obtain ⟨xs, e⟩ := rv.ints.allInts.items
  have hn : numsOf (intItems xs).toList = ns := by rw [← e]; exact rv.ints.numsOf
  rw [nums_intItems] at hn
  rw [e] at it
  refine PySem.call_sum_walkG ?_
  have tu := IsTup.isTuple it
  obtain ⟨_, e0, _⟩ := id tu
  have lt := Heap.lt_size e0
  refine wpAny_pyIter_tuple tu ⟨s.heap.objs.size, _, _, _, _, _, numAt xs, rfl, Walks.tuple (A := X.A.in1) (I.ok.hd hc) _ a (Nat.ne_of_lt lt) (intItems xs), ⟨⟨_, Heap.get?_push_size _ rfl, rfl, rfl⟩, tu.push _⟩, fun b hb => ?_, fun _ _ => intItems_at, fun h' tk t' hk => ?_⟩
  · have : (s.heap.push { cls := .type "tuple_iterator", data := .fields #[.ref a, .int 0 0] }).objs.size = s.heap.objs.size + 1 := Heap.size_push _ _
    dsimp only
    rw [this]
    rcases List.mem_cons.mp hb with rfl | hb
    · exact Nat.lt_succ_self _
    · rw [List.mem_singleton.mp hb]; exact Nat.lt_succ_of_lt lt
  · refine ⟨.int _, H, I.kept (t' := tk) (h' := h') fun b o eb => hk b o (fun z => ?_) (Heap.get?_push_of_some _ eb), ⟨_, rfl⟩, ?_⟩
    · rw [List.mem_singleton.mp z] at eb
      exact Nat.lt_irrefl _ (Heap.lt_size eb)
    · have hs : (intItems xs).size = xs.size := by simp [intItems]
      rw [hs, preSum_eq, List.take_of_length_le (by simp), hn]
      exact q
def orN (o o' : ON) : ON := fun s xs => match o s xs with
  | some w => some w
  | none => o' s xs
def sortTD : ON := fun _ xs => match xs with
  | [.tup ws] => (intsOf ws).map fun ns => .lst ((srt ns).map .int)
  | _ => none
def sumTD : ON := fun _ xs => match xs with
  | [.tup ws] => (intsOf ws).map fun ns => .int ns.sum
  | _ => none
def sortedA : ON := orN sortedD sortTD
def sumA : ON := orN sumD sumTD
theorem sSortT (hK : Γ.K = X.K) : OpN Γ (rSortedTI X.K) sortTD := fun H μ Z s xs w vs Q hR rx e k => by
  rw [← hK]
  unfold sortTD at e
  split at e
  · rename_i ws
    cases q2 : intsOf ws with
    | none => rw [q2] at e; cases e
    | some ns =>
      rw [q2] at e
      cases e
      obtain ⟨v, rfl, a, ys, rfl, h2, h3⟩ := one rx
      rw [intsOf_ok q2] at h3
      have h4 := h3.ints
      subst h4
      refine ⟨a, ns, rfl, h2.sq, fun ms p hp hs hn => ?_⟩
      rw [srt_uniq hp hs]
      exact k _ _ (Evo.laid hn) (hR.laid hn) (new_lst hR hn (RVs.of_ints _))
  · cases e
theorem sSumT (hK : Γ.K = X.K) : OpN Γ (fun vs H Q => ∃ (a : Addr) (ns : List Int), vs = [V.ref a] ∧ SqT X.K H a (ns.map V.int) ∧ Q (.int ns.sum) H) sumTD := fun H μ Z s xs w vs Q hR rx e k => by
  rw [← hK]
  unfold sumTD at e
  split at e
  · rename_i ws
    cases q2 : intsOf ws with
    | none => rw [q2] at e; cases e
    | some ns =>
      rw [q2] at e
      cases e
      obtain ⟨v, rfl, a, ys, rfl, h2, h3⟩ := one rx
      rw [intsOf_ok q2] at h3
      have h4 := h3.ints
      subst h4
      exact ⟨a, ns, rfl, h2.sq, k _ H .refl hR rfl⟩
  · cases e
theorem cr_sortedA : CallR X (.builtin "sorted") (fun x H Q => rSortedI X.K x H Q ∨ rSortedTI X.K x H Q) := CallR.or2 cr_sortedI cr_sortedTI
theorem sSortedA (hK : Γ.K = X.K) : OpN Γ (fun x H Q => rSortedI X.K x H Q ∨ rSortedTI X.K x H Q) sortedA := OpN.or (sSorted hK) (sSortT hK)
def rSumA (K : PySem.W.Frag) : List V → Hp → VK → Prop := fun x H Q => rSum K x H Q ∨ ∃ (a : Addr) (ns : List Int), x = [V.ref a] ∧ SqT K H a (ns.map V.int) ∧ Q (.int ns.sum) H
theorem cr_sumA (hc : X.calm = true) : CallR X (.builtin "sum") (rSumA X.K) := CallR.or2 (cr_sum hc) (cr_sumT hc)
theorem sSumA (hK : Γ.K = X.K) : OpN Γ (rSumA X.K) sumA := OpN.or (sSum hK) (sSumT hK)
end
end MP
set_option Elab.async false
set_option linter.all false
set_option maxRecDepth 100000
set_option maxHeartbeats 4000000
namespace MP
open PySem PySem.Spec PyProof.Rows L2
section
variable {α β : Type} {a : α} {s s1 s2 : Sto} {ρ : Env} {x : Ex} {w v : Dv} {f g h : FE} {t u : FT} {c c' : FS} {fa : FA} {b : Bool} {o o' : O2}
@[simp] theorem bind_ok {k : α → Sto → R β} : (R.ok a s).bind k = k a s := rfl
@[simp] theorem bind_er {k : α → Sto → R β} : (R.er x s : R α).bind k = .er x s := rfl
@[simp] theorem bind_no {k : α → Sto → R β} : (R.no : R α).bind k = .no := rfl
@[simp] theorem then_ok {k : α → Sto → C} : (R.ok a s).thenC ρ k = k a s := rfl
@[simp] theorem then_er {k : α → Sto → C} : (R.er x s : R α).thenC ρ k = .er x ρ s := rfl
@[simp] theorem then_no {k : α → Sto → C} : (R.no : R α).thenC ρ k = .no := rfl
@[simp] theorem of_some : R.of (some a) s = .ok a s := rfl
@[simp] theorem of_none : (R.of none s : R α) = .no := rfl
@[simp] theorem var_0 : mVar 0 (some w :: ρ) s = .ok w s := rfl
@[simp] theorem var_s {y : Option Dv} {i : Nat} : mVar (i + 1) (y :: ρ) s = mVar i ρ s := by unfold mVar; rw [List.getElem?_cons_succ]
@[simp] theorem k_ev : mK w ρ s = .ok w s := rfl
@[simp] theorem bin_ev : mBin o f g ρ s = (f ρ s).bind fun x s1 => (g ρ s1).bind fun y s2 => R.of (o s2 x y) s2 := rfl
@[simp] theorem un_ev {o : O1} : mUn o f ρ s = (f ρ s).bind fun x s1 => R.of (o s1 x) s1 := rfl
@[simp] theorem blt_ev {o : ON} : mBlt o fa ρ s = (fa ρ s).bind fun ws s1 => R.of (o s1 ws) s1 := rfl
@[simp] theorem call_ev {d : Fn} : mCall d fa ρ s = (fa ρ s).bind d := rfl
@[simp] theorem nil_ev : mNil ρ s = .ok [] s := rfl
@[simp] theorem cons_ev : mCons f fa ρ s = (f ρ s).bind fun x s1 => (fa ρ s1).bind fun xs s2 => .ok (x :: xs) s2 := rfl
def chainK (o : Option Dv) (s : Sto) (k : R Dv) : R Dv := match o with
  | some (.bl true) => k
  | some (.bl false) => .ok (.bl false) s
  | _ => .no
@[simp] theorem chainK_bl {k : R Dv} : chainK (some (.bl b)) s k = if b = true then k else .ok (.bl false) s := by cases b <;> rfl
@[simp] theorem chain_ev : mChain o o' f g h ρ s = (f ρ s).bind fun x s1 => (g ρ s1).bind fun y s2 => chainK (o s2 x y) s2 ((h ρ s2).bind fun z s3 => R.of (o' s3 y z) s3) := rfl
def andK (d : Dv) (s : Sto) (k : R Dv) : R Dv := match d with
  | .bl true => k
  | .bl false => .ok (.bl false) s
  | _ => .no
@[simp] theorem andK_bl {k : R Dv} : andK (.bl b) s k = if b = true then k else .ok (.bl false) s := by cases b <;> rfl
@[simp] theorem andV_ev : mAndV f g ρ s = (f ρ s).bind fun x s1 => andK x s1 (g ρ s1) := rfl
def orK (d : Dv) (s : Sto) (k : R Dv) : R Dv := match d with
  | .bl true => .ok (.bl true) s
  | .bl false => k
  | _ => .no
@[simp] theorem orK_bl {k : R Dv} : orK (.bl b) s k = if b = true then .ok (.bl true) s else k := by cases b <;> rfl
@[simp] theorem orV_ev : mOrV f g ρ s = (f ρ s).bind fun x s1 => orK x s1 (g ρ s1) := by
  unfold mOrV
  congr 1
  funext x s1
  cases x with
  | bl b => cases b <;> rfl
  | _ => rfl
def notK (d : Dv) (s : Sto) : R Dv := match d with
  | .bl b => .ok (.bl (!b)) s
  | _ => .no
@[simp] theorem notK_bl : notK (.bl b) s = .ok (.bl (!b)) s := rfl
@[simp] theorem notV_ev : mNotV f ρ s = (f ρ s).bind notK := rfl
def testK (d : Dv) (s : Sto) : R Bool := match d with
  | .bl b => .ok b s
  | _ => .no
@[simp] theorem testK_bl : testK (.bl b) s = .ok b s := rfl
@[simp] theorem test_ev : mTest f ρ s = (f ρ s).bind testK := rfl
@[simp] theorem and_ev : mAnd t u ρ s = (t ρ s).bind fun c s1 => if c = true then u ρ s1 else .ok false s1 := rfl
@[simp] theorem or_ev : mOr t u ρ s = (t ρ s).bind fun c s1 => if c = true then .ok true s1 else u ρ s1 := rfl
@[simp] theorem not_ev : mNot t ρ s = (t ρ s).bind fun c s1 => .ok (!c) s1 := rfl
@[simp] theorem if_ev : mIf t f g ρ s = (t ρ s).bind fun c s1 => if c = true then f ρ s1 else g ρ s1 := rfl
@[simp] theorem tup_ev : mTup fa ρ s = (fa ρ s).bind fun ws s1 => if ws.length ≤ lim then .ok (.tup ws) s1 else .no := rfl
@[simp] theorem lst_ev : mLst fa ρ s = (fa ρ s).bind fun ws s1 => if ws.length ≤ lim then .ok (.lst ws) s1 else .no := rfl
@[simp] theorem lstM_ev : mLstM fa ρ s = (fa ρ s).bind fun ws s1 => if ws.length ≤ lim then .ok (.ref s1.length) (s1 ++ [.lst ws]) else .no := rfl
/-- what follows -/
def seqK (c : C) (k : FS) : C := match c with
  | .nx ρ s => k ρ s
  | c => c
@[simp] theorem seqK_nx {k : FS} : seqK (.nx ρ s) k = k ρ s := rfl
@[simp] theorem seqK_rt {k : FS} : seqK (.rt w s) k = .rt w s := rfl
@[simp] theorem seqK_bk {k : FS} : seqK (.bk ρ s) k = .bk ρ s := rfl
@[simp] theorem seqK_ct {k : FS} : seqK (.ct ρ s) k = .ct ρ s := rfl
@[simp] theorem seqK_er {k : FS} : seqK (.er x ρ s) k = .er x ρ s := rfl
@[simp] theorem seqK_no {k : FS} : seqK .no k = .no := rfl
@[simp] theorem seq_ev : mSeq c c' ρ s = seqK (c ρ s) c' := by
  unfold mSeq seqK
  cases c ρ s <;> rfl
@[simp] theorem next_ev : mNext ρ s = .nx ρ s := rfl
@[simp] theorem ret_ev : mRet f ρ s = (f ρ s).thenC ρ fun w s1 => .rt w s1 := rfl
@[simp] theorem expr_ev : mExpr f ρ s = (f ρ s).thenC ρ fun _ s1 => .nx ρ s1 := rfl
@[simp] theorem ifS_ev : mIfS t c c' ρ s = (t ρ s).thenC ρ fun b s1 => if b = true then c ρ s1 else c' ρ s1 := rfl
@[simp] theorem asgN_ev {i : Nat} : mAsg f (gN i) ρ s = (f ρ s).thenC ρ fun w s1 => .nx (ρ.set i (some w)) s1 := rfl
@[simp] theorem par_ev {i j : Nat} : mPar i j (mCons f (mCons g mNil)) ρ s = (f ρ s).thenC ρ fun v s1 => (g ρ s1).thenC ρ fun w s2 => .nx ((ρ.set i (some v)).set j (some w)) s2 := by
  unfold mPar mCons mNil
  cases f ρ s with
  | ok v s1 =>
    simp only [bind_ok, then_ok]
    cases g ρ s1 <;> rfl
  | er _ _ => rfl
  | no => rfl
theorem finW_le {n : Nat} (hn : s.length ≤ n) : finW n w s = .ok w s := by unfold finW; rw [if_pos hn]
@[simp] theorem finC_rt : finC s.length (.rt w s) = .ok w s := finW_le (Nat.le_refl _)
@[simp] theorem finC_nx : finC s.length (.nx ρ s) = .ok .non s := finW_le (Nat.le_refl _)
@[simp] theorem den_ev {n : Nat} {d : FS} {ws : List Dv} : denOf n d ws s = finC s.length (d (startD n ws) s) := rfl
@[simp] theorem start_ev {n : Nat} {ws : List Dv} : startD n ws = ws.map some ++ List.replicate (n - ws.length) none := rfl
@[simp] theorem cmp_ev {p : Int → Int → Bool} {i j : Int} : cmpD p s (.int i) (.int j) = some (.bl (p i j)) := rfl
@[simp] theorem sub_ev {i j : Int} : subD s (.int i) (.int j) = some (.int (i - j)) := rfl
@[simp] theorem neg_ev {i : Int} : negD s (.int i) = some (.int (-i)) := rfl
@[simp] theorem isi_ii {i : Int} : isiD s [.int i, .ty "int"] = some (.bl true) := rfl
@[simp] theorem isi_ib {i : Int} : isiD s [.int i, .ty "bool"] = some (.bl false) := rfl
@[simp] theorem isi_tt {ws : List Dv} : isiD s [.tup ws, .ty "tuple"] = some (.bl true) := rfl
@[simp] theorem isi_it {i : Int} : isiD s [.int i, .ty "tuple"] = some (.bl false) := rfl
@[simp] theorem len_tup {ws : List Dv} : lenD s [.tup ws] = some (.int ws.length) := rfl
@[simp] theorem len_lst {ws : List Dv} : lenD s [.lst ws] = some (.int ws.length) := rfl
@[simp] theorem len_sq {ws : List Dv} : lenD s [.sq ws] = some (.int ws.length) := rfl
abbrev tI (ns : List Int) : Dv := .tup (ns.map .int)
abbrev lI (ns : List Int) : Dv := .lst (ns.map .int)
section
variable {s : Sto} {ns ms : List Int} {ρ : Env} {ws : List Dv} {i j : Int} {f : FE}
@[simp] theorem sorted_TI : sortedA s [.tup (ns.map .int)] = some (.lst ((srt ns).map .int)) := by
  show (match sortedD s [.tup (ns.map .int)] with | some w => some w | none => sortTD s [.tup (ns.map .int)]) = _
  rw [show sortedD s [.tup (ns.map .int)] = none from rfl]
  show (intsOf (ns.map .int)).map _ = _
  rw [intsOf_map]
  rfl
@[simp] theorem sorted_LI : sortedA s [.lst (ns.map .int)] = some (.lst ((srt ns).map .int)) := by
  have : sortedD s [.lst (ns.map .int)] = some (.lst ((srt ns).map .int)) := by
    show (intsOf (ns.map .int)).map _ = _
    rw [intsOf_map]
    rfl
  show (match sortedD s [.lst (ns.map .int)] with | some w => some w | none => sortTD s [.lst (ns.map .int)]) = _
  rw [this]
@[simp] theorem sum_LI : sumA s [.lst (ns.map .int)] = some (.int ns.sum) := by
  have : sumD s [.lst (ns.map .int)] = some (.int ns.sum) := by
    show (intsOf (ns.map .int)).map _ = _
    rw [intsOf_map]
    rfl
  show (match sumD s [.lst (ns.map .int)] with | some w => some w | none => sumTD s [.lst (ns.map .int)]) = _
  rw [this]
@[simp] theorem sum_TI : sumA s [.tup (ns.map .int)] = some (.int ns.sum) := by
  show (match sumD s [.tup (ns.map .int)] with | some w => some w | none => sumTD s [.tup (ns.map .int)]) = _
  rw [show sumD s [.tup (ns.map .int)] = none from rfl]
  show (intsOf (ns.map .int)).map _ = _
  rw [intsOf_map]
  rfl
@[simp] theorem sl_tup {lo hi : Option Int} : slA s (.tup ws) lo hi = some (.tup (cutD ws lo hi)) := rfl
@[simp] theorem sl_lst {lo hi : Option Int} : slA s (.lst ws) lo hi = some (.lst (cutD ws lo hi)) := rfl
theorem cut_last {k : Nat} (h : k ≤ ws.length) (h0 : 0 < k) : cutD ws (some (-(k : Int))) none = ws.drop (ws.length - k) := by
  unfold cutD
  rw [HT.sIx_none]
  have e : HT.sIx ws.length 0 (some (-(k : Int))) = ws.length - k := by
    show (if -(k : Int) < 0 then (-(k : Int) + (ws.length : Int)).toNat else min (-(k : Int)).toNat ws.length) = _
    rw [if_pos (by omega)]
    omega
  rw [e]
  exact List.take_of_length_le (by rw [List.length_drop]; omega)
theorem cut_to {k : Nat} : cutD ws none (some (k : Int)) = ws.take k := by
  unfold cutD
  rw [HT.sIx_none, HT.sIx_nat, Nat.sub_zero, List.drop_zero, ← List.take_take, List.take_length]
theorem cut_mid {a b : Nat} (ha : a ≤ ws.length) (hb : b ≤ ws.length) : cutD ws (some (a : Int)) (some (b : Int)) = (ws.drop a).take (b - a) := by
  unfold cutD
  rw [HT.sIx_nat, HT.sIx_nat, Nat.min_eq_left ha, Nat.min_eq_left hb]
@[simp] theorem part_ev : mPart f ρ s = (f ρ s).bind fun x s1 => match x with
  | .int i => .ok (some i) s1
  | _ => .no := rfl
@[simp] theorem nopart_ev : mNoPart ρ s = .ok none s := rfl
@[simp] theorem sl_ev {op : OS} {lo hi : FO} : mSl op f lo hi ρ s = (f ρ s).bind fun x s1 => (lo ρ s1).bind fun l s2 => (hi ρ s2).bind fun u s3 => R.of (op s3 x l u) s3 := rfl
@[simp] theorem add_ii : addD s (.int i) (.int j) = some (.int (i + j)) := rfl
theorem mul_ii (h : cm i j = true) : mulD s (.int i) (.int j) = some (.int (i * j)) := by
  show (if cm i j = true then _ else _) = _
  rw [if_pos h]
theorem cm_l (h : -(2 ^ 64) < i ∧ i < 2 ^ 64) : cm i j = true := decide_eq_true (.inl h)
theorem cm_r (h : -(2 ^ 64) < j ∧ j < 2 ^ 64) : cm i j = true := decide_eq_true (.inr h)
@[simp] theorem int_i : intD s [.int i] = some (.int i) := rfl
@[simp] theorem int_b {b : Bool} : intD s [.bl b] = some (.int (if b then 1 else 0)) := rfl
theorem range1_ok {fa : FA} {s1 : Sto} (h : fa ρ s = .ok [.int j] s1) (hj : okR j = true) : iRange1 fa ρ s = .ok { ws := rng 0 j.toNat } s1 := by
  unfold iRange1
  rw [h, bind_ok]
  exact if_pos hj
theorem rng_ev {lo : Int} {n : Nat} : rng lo n = (List.range n).map fun i : Nat => Dv.int (lo + (i : Int)) := by unfold rng; rfl
theorem okR_s {i : Int} (h : -1000000 ≤ i) (h2 : i ≤ 1000000) : okR i = true := decide_eq_true ⟨by omega, by omega⟩
@[simp] theorem tuple_lst : tupleD s [.lst ws] = some (.tup ws) := rfl
@[simp] theorem tuple_tup : tupleD s [.tup ws] = some (.tup ws) := rfl
theorem ix_tup {k : Nat} {w : Dv} (h : ws[k]? = some w) : ixA s (.tup ws) (.int (k : Int)) = some w := by
  have e : ixT s (.tup ws) (.int (k : Int)) = some w := atI_nat h
  show (match (match ixL s (.tup ws) (.int (k : Int)) with | some w => some w | none => ixT s (.tup ws) (.int (k : Int))) with | some w => some w | none => ixD s (.tup ws) (.int (k : Int))) = _
  rw [show ixL s (.tup ws) (.int (k : Int)) = none from rfl, e]
theorem ix_lst {k : Nat} {w : Dv} (h : ws[k]? = some w) : ixA s (.lst ws) (.int (k : Int)) = some w := by
  have e : ixL s (.lst ws) (.int (k : Int)) = some w := atI_nat h
  show (match (match ixL s (.lst ws) (.int (k : Int)) with | some w => some w | none => ixT s (.lst ws) (.int (k : Int))) with | some w => some w | none => ixD s (.lst ws) (.int (k : Int))) = _
  rw [e]
theorem zip_ints : ∀ (ns ms : List Int), zipD (ns.map .int) (ms.map .int) = (ns.zip ms).map fun p => .tup [.int p.1, .int p.2]
  | [], _ => by simp [zipD]
  | _ :: _, [] => by simp [zipD]
  | a :: r, b :: t => by simp [zipD, zip_ints r t]
end
section
open Classical
variable {vs : List Nat} {g : FG} {tt : FT} {elt : FE} {ρ : Env} {s : Sto}
@[simp] theorem yes_ev : mYes ρ s = .ok true s := rfl
theorem comp_mapA {α : Type} {f : FI} {l : List α} {e : α → Dv} (φ : α → Dv) (hf : f ρ s = .ok { ws := l.map e } s) (hl : l.length ≤ lim) (h : ∀ a ∈ l, ∃ ρ1, g (e a) (wipeD ρ vs) s = some ρ1 ∧ elt ρ1 s = .ok (φ a) s) : mComp f vs g mYes elt ρ s = .ok (.lst (l.map φ)) s := by
  have key : ∀ {l : List α}, (∀ a ∈ l, ∃ ρ1, g (e a) (wipeD ρ vs) s = some ρ1 ∧ elt ρ1 s = .ok (φ a) s) → compL none vs g mYes elt ρ (l.map e) s = some (l.map φ, s) := fun {l} => by
    induction l with
    | nil => intro _; rw [List.map_nil]; simp [compL]
    | cons a l ih =>
      intro h
      obtain ⟨ρ1, h1, h2⟩ := h a List.mem_cons_self
      rw [List.map_cons]
      unfold compL
      rw [if_pos (.inl rfl), h1]
      simp only [yes_ev, h2]
      rw [ih fun b hb => h b (List.mem_cons_of_mem _ hb)]
      rfl
  unfold mComp
  rw [hf, bind_ok]
  dsimp only
  rw [key h]
  dsimp only
  rw [if_pos (by rw [List.length_map]; exact hl)]
/-- a comprehension, turn by turn: J i acc stands when i turns are done -/
theorem compL_ix {xs : List Dv} (J : Nat → List Dv → Sto → Prop) (h : ∀ i x acc s, xs[i]? = some x → J i acc s → ∃ ρ1 y s2, g x (wipeD ρ vs) s = some ρ1 ∧ elt ρ1 s = .ok y s2 ∧ J (i + 1) (acc ++ [y]) s2) :
    ∀ {k : Nat} {ys acc : List Dv} {s : Sto}, ys = xs.drop k → k ≤ xs.length → J k acc s → ∃ zs s', compL none vs g mYes elt ρ ys s = some (zs, s') ∧ zs.length = ys.length ∧ J xs.length (acc ++ zs) s'
  | k, [], acc, s, e, hk, j => by
    have : k = xs.length := by
      have := congrArg List.length e
      rw [List.length_drop, List.length_nil] at this
      omega
    subst this
    exact ⟨[], s, by unfold compL; rw [if_pos (.inl rfl)], rfl, by rw [List.append_nil]; exact j⟩
  | k, x :: ys, acc, s, e, hk, j => by
    have hx : xs[k]? = some x := by
      have := congrArg (·[0]?) e
      simpa using this.symm
    have hy : ys = xs.drop (k + 1) := by
      have := congrArg List.tail e
      simpa using this
    have hlt : k < xs.length := (List.getElem?_eq_some_iff.mp hx).1
    obtain ⟨ρ1, y, s2, h1, h2, h3⟩ := h k x acc s hx j
    obtain ⟨zs, s', h4, h5, h6⟩ := compL_ix J h hy hlt h3
    refine ⟨y :: zs, s', ?_, by rw [List.length_cons, h5, List.length_cons], ?_⟩
    · unfold compL
      rw [if_pos (.inl rfl), h1]
      simp only [yes_ev, h2, h4]
      rfl
    · rw [List.append_assoc] at h6
      exact h6
theorem comp_ix {f : FI} {xs : List Dv} {s1 : Sto} (J : Nat → List Dv → Sto → Prop) (hf : f ρ s = .ok { ws := xs } s1) (hl : xs.length ≤ lim) (j : J 0 [] s1)
    (h : ∀ i x acc s, xs[i]? = some x → J i acc s → ∃ ρ1 y s2, g x (wipeD ρ vs) s = some ρ1 ∧ elt ρ1 s = .ok y s2 ∧ J (i + 1) (acc ++ [y]) s2) : ∃ zs s', mComp f vs g mYes elt ρ s = .ok (.lst zs) s' ∧ zs.length = xs.length ∧ J xs.length zs s' := by
  obtain ⟨zs, s', h1, h2, h3⟩ := compL_ix J h (k := 0) (ys := xs) (acc := []) rfl (Nat.zero_le _) j
  refine ⟨zs, s', ?_, h2, h3⟩
  unfold mComp
  rw [hf, bind_ok]
  dsimp only
  rw [h1]
  dsimp only
  rw [if_pos (by rw [h2]; exact hl)]
/-- a loop, turn by turn: J i stands when i turns are done -/
theorem forL_ix {body : FS} {xs : List Dv} (J : Nat → Env → Sto → Prop) (h : ∀ i x ρ s, xs[i]? = some x → J i ρ s → ∃ ρ1 ρ2 s2, g x ρ s = some ρ1 ∧ (body ρ1 s = .nx ρ2 s2 ∨ body ρ1 s = .ct ρ2 s2) ∧ J (i + 1) ρ2 s2) :
    ∀ {k : Nat} {ys : List Dv} {ρ : Env} {s : Sto}, ys = xs.drop k → k ≤ xs.length → J k ρ s → ∃ ρ' s', forL none g body ys ρ s = .nx ρ' s' ∧ J xs.length ρ' s'
  | k, [], ρ, s, e, hk, j => by
    have : k = xs.length := by
      have := congrArg List.length e
      rw [List.length_drop, List.length_nil] at this
      omega
    subst this
    exact ⟨ρ, s, by unfold forL; rw [if_pos (.inl rfl)], j⟩
  | k, x :: ys, ρ, s, e, hk, j => by
    have hx : xs[k]? = some x := by
      have := congrArg (·[0]?) e
      simpa using this.symm
    have hy : ys = xs.drop (k + 1) := by
      have := congrArg List.tail e
      simpa using this
    have hlt : k < xs.length := (List.getElem?_eq_some_iff.mp hx).1
    obtain ⟨ρ1, ρ2, s2, h1, h2, h3⟩ := h k x ρ s hx j
    obtain ⟨ρ', s', h4, h5⟩ := forL_ix J h hy hlt h3
    refine ⟨ρ', s', ?_, h5⟩
    unfold forL
    rw [if_pos (.inl rfl), h1]
    rcases h2 with h2 | h2 <;> (simp only [h2]; exact h4)
theorem for_ix {F : FI} {body : FS} {xs : List Dv} {s1 : Sto} (J : Nat → Env → Sto → Prop) (hF : F ρ s = .ok { ws := xs } s1) (j : J 0 ρ s1) (h : ∀ i x ρ s, xs[i]? = some x → J i ρ s → ∃ ρ1 ρ2 s2, g x ρ s = some ρ1 ∧ (body ρ1 s = .nx ρ2 s2 ∨ body ρ1 s = .ct ρ2 s2) ∧ J (i + 1) ρ2 s2) :
    ∃ ρ' s', mFor F g body ρ s = .nx ρ' s' ∧ J xs.length ρ' s' := by
  obtain ⟨ρ', s', h1, h2⟩ := forL_ix J h (k := 0) (ys := xs) rfl (Nat.zero_le _) j
  refine ⟨ρ', s', ?_, h2⟩
  unfold mFor
  rw [hF]
  exact h1
end
end
end MP
set_option Elab.async false
set_option linter.all false
set_option maxRecDepth 100000
set_option maxHeartbeats 400000
namespace MP
open PySem PySem.Spec PyProof.Rows L2
def dot (rs ls : List Int) : Int := ((rs.zip ls).map fun p => p.1 * p.2).sum
theorem dot_nil {ls : List Int} : dot [] ls = 0 := by simp [dot]
theorem dot_nil' : ∀ {rs : List Int}, dot rs [] = 0 := by intro rs; simp [dot]
theorem dot_cons {a b : Int} {rs ls : List Int} : dot (a :: rs) (b :: ls) = a * b + dot rs ls := by simp [dot]
def at1 (lev n : Int) : Int := if lev ≤ n then 1 else 0
theorem sum_map_mul {α : Type} (k : Int) (f : α → Int) : ∀ l : List α, (l.map fun a => k * f a).sum = k * (l.map f).sum
  | [] => by simp
  | a :: l => by simp [sum_map_mul k f l, Int.mul_add]
theorem sum_map_add {α : Type} (f g : α → Int) : ∀ l : List α, (l.map fun a => f a + g a).sum = (l.map f).sum + (l.map g).sum
  | [] => by simp
  | a :: l => by simp [sum_map_add f g l]; omega
theorem sum_zero {α : Type} : ∀ l : List α, (l.map fun _ => (0 : Int)).sum = 0
  | [] => rfl
  | _ :: l => by simp [sum_zero l]
/-- each result is what its levels tell; so is each sum of them -/
theorem dot_levels {L : List (Int × Int)} : ∀ {rs ls : List Int}, (∀ n ∈ ls, (L.map fun p => p.2 * at1 p.1 n).sum = n) → (L.map fun p => p.2 * dot rs (ls.map (at1 p.1))).sum = dot rs ls
  | [], ls, _ => by
    simp only [dot_nil, Int.mul_zero]
    exact sum_zero L
  | a :: rs, [], _ => by
    simp only [List.map_nil, dot_nil', Int.mul_zero]
    exact sum_zero L
  | a :: rs, b :: ls, h => by
    have ih := dot_levels (L := L) (rs := rs) (ls := ls) fun n hn => h n (List.mem_cons_of_mem _ hn)
    have hb := h b List.mem_cons_self
    simp only [List.map_cons, dot_cons]
    rw [show (fun p : Int × Int => p.2 * (a * at1 p.1 b + dot rs (ls.map (at1 p.1)))) = fun p => a * (p.2 * at1 p.1 b) + p.2 * dot rs (ls.map (at1 p.1)) from funext fun p => by rw [Int.mul_add, Int.mul_left_comm]]
    rw [sum_map_add, sum_map_mul, hb, ih]
theorem at1_mono {lev a b : Int} (h : a ≤ b) : at1 lev a ≤ at1 lev b := by unfold at1; split <;> split <;> omega
theorem srt_at1 (lev : Int) (ns : List Int) : srt (ns.map (at1 lev)) = (srt ns).map (at1 lev) := by
  refine (srt_uniq (l := ns.map (at1 lev)) ((srt_perm ns).map _) ?_).symm
  rw [List.pairwise_map]
  exact (srt_sorted ns).imp fun h => at1_mono h
def last (k : Nat) (ns : List Int) : List Int := ns.drop (ns.length - k)
def idx (rs ns : List Int) : Int := dot rs (srt (last rs.length ns))
end MP
namespace MP
theorem ucons_len (a : Int) (r : List Int) : (ucons a r).length ≤ r.length + 1 := by
  unfold ucons
  cases r with
  | nil => exact Nat.le_refl _
  | cons b t => dsimp only; split <;> simp
theorem usrt_len (ns : List Int) : (usrt ns).length ≤ ns.length := by
  have key : ∀ l : List Int, (l.foldr ucons []).length ≤ l.length := fun l => by
    induction l with
    | nil => exact Nat.le_refl _
    | cons a l ih => exact Nat.le_trans (ucons_len a _) (Nat.succ_le_succ ih)
  exact Nat.le_trans (key _) (Nat.le_of_eq (srt_perm ns).length_eq)
end MP
set_option Elab.async false
set_option linter.all false
set_option maxRecDepth 100000
set_option maxHeartbeats 400000
namespace MP
open PySem PySem.Spec PyProof.Rows L2
/-- a thing of at most n parts, at most k deep -/
structure Pl (n k : Nat) (w : Dv) (d : PyData) : Prop where
  to : toD0 w = some d
  lay : d.canLay0 = true
  shw : d.showable = true
  nod : d.hasDict = false
  deep : d.depth ≤ k
  len : d.shown.length + 2 ≤ 2000 * n
structure Pls (n k : Nat) (ws : List Dv) (ds : List PyData) : Prop where
  to : toDs ws = some ds
  lay : PyData.canLayAll0 ds = true
  shw : PyData.showableAll ds = true
  nod : PyData.hasDictAll ds = false
  deep : PyData.depthAll ds ≤ k
  len : piled (PyData.shownAll ds) ≤ 2000 * n
def Sm (i : Int) : Prop := i.natAbs < 2 ^ 300
theorem Sm.of {i : Int} (h : -1000000000000 ≤ i) (h2 : i ≤ 1000000000000) : Sm i := by
  have h3 : i.natAbs ≤ 1000000000000 := by omega
  exact Nat.lt_of_le_of_lt h3 (Nat.lt_of_lt_of_le (by decide : 1000000000000 < 2 ^ 40) (Nat.pow_le_pow_right (by decide) (by decide)))
theorem Sm.log {i : Int} (h : Sm i) : i.natAbs.log2 < 1920 := by
  by_cases h0 : i.natAbs = 0
  · rw [h0]; decide
  · exact (Nat.log2_lt h0).mpr (Nat.lt_of_lt_of_le h (Nat.pow_le_pow_right (by decide) (by decide)))
variable {n m k j : Nat} {w : Dv} {d : PyData} {ws us : List Dv} {ds es : List PyData} {i : Int} {ns : List Int} {s : Sto}
theorem pl_int (h : Sm i) : Pl 1 0 (.int i) (.int i) where
  to := rfl
  lay := by simp only [PyData.canLay0]
  shw := by
    simp only [PyData.showable]
    exact decide_eq_true h.log
  nod := by simp only [PyData.hasDict]
  deep := by simp only [PyData.depth]; exact Nat.le_refl _
  len := by
    have := int_text_len_1921 h.log
    simp only [PyData.shown]
    exact Nat.le_trans (Nat.add_le_add_right this 2) (by decide)
theorem pls_nil : Pls 0 k [] [] where
  to := rfl
  lay := by simp only [PyData.canLayAll0]
  shw := by simp only [PyData.showableAll]
  nod := by simp only [PyData.hasDictAll]
  deep := by simp only [PyData.depthAll]; exact Nat.zero_le _
  len := by simp only [PyData.shownAll, piled_nil]; exact Nat.zero_le _
theorem pls_cons (h : Pl n k w d) (t : Pls m k ws ds) : Pls (n + m) k (w :: ws) (d :: ds) where
  to := by simp only [toDs, h.to, t.to]
  lay := by simp only [PyData.canLayAll0, h.lay, t.lay]; rfl
  shw := by simp only [PyData.showableAll, h.shw, t.shw]; rfl
  nod := by simp only [PyData.hasDictAll, h.nod, t.nod]; rfl
  deep := by simp only [PyData.depthAll]; exact Nat.max_le.mpr ⟨h.deep, t.deep⟩
  len := by
    have h1 := h.len
    have h2 := t.len
    simp only [PyData.shownAll, piled_cons]
    omega
theorem Pl.mono (h : Pl n k w d) (hn : n ≤ m) (hk : k ≤ j) : Pl m j w d := ⟨h.to, h.lay, h.shw, h.nod, Nat.le_trans h.deep hk, Nat.le_trans h.len (Nat.mul_le_mul_left _ hn)⟩
theorem Pls.mono (h : Pls n k ws ds) (hn : n ≤ m) (hk : k ≤ j) : Pls m j ws ds := ⟨h.to, h.lay, h.shw, h.nod, Nat.le_trans h.deep hk, Nat.le_trans h.len (Nat.mul_le_mul_left _ hn)⟩
theorem listText_len : ∀ ts : List Str, (listText ts).length ≤ piled ts + 2
  | [] => by decide
  | t :: r => by
    unfold listText
    rw [strLen_append]
    show (textFrom 1 (("[" : Str) ++ ("" : String) ++ t) r).length + 1 ≤ _
    rw [textFrom_length_pos _ _ _ (by decide), strLen_append, strLen_append, piled_cons]
    show 1 + 0 + t.length + piled r + 1 ≤ _
    omega
theorem tupleText_len (ts : List Str) : (tupleText ts).length ≤ piled ts + 3 := by
  unfold tupleText
  rw [strLen_append, strLen_append]
  have e1 : ((("(" : String) : Str)).length = 1 := rfl
  have e3 : (((if ts.length == 1 then ",)" else ")" : String) : Str)).length ≤ 2 := by split <;> decide
  rw [e1]
  by_cases h : ts = []
  · subst h
    show 1 + 0 + _ ≤ _
    omega
  · have := join_length_add ts h
    omega
theorem pl_lst (h : Pls n k ws ds) : Pl (n + 1) (k + 1) (.lst ws) (.list ds) where
  to := by simp only [toD0, h.to]; rfl
  lay := by simp only [PyData.canLay0, h.lay]
  shw := by simp only [PyData.showable, h.shw]
  nod := by simp only [PyData.hasDict, h.nod]
  deep := by simp only [PyData.depth]; exact Nat.succ_le_succ h.deep
  len := by
    have h1 := h.len
    have h2 := listText_len (PyData.shownAll ds)
    simp only [PyData.shown]
    omega
theorem pl_tup (h : Pls n k ws ds) : Pl (n + 1) (k + 1) (.tup ws) (.tuple ds) where
  to := by simp only [toD0, h.to]; rfl
  lay := by simp only [PyData.canLay0, h.lay]
  shw := by simp only [PyData.showable, h.shw]
  nod := by simp only [PyData.hasDict, h.nod]
  deep := by simp only [PyData.depth]; exact Nat.succ_le_succ h.deep
  len := by
    have h1 := h.len
    have h2 := tupleText_len (PyData.shownAll ds)
    simp only [PyData.shown]
    omega
theorem pls_ints : ∀ {ns : List Int}, (∀ i ∈ ns, Sm i) → Pls ns.length 0 (ns.map .int) (ns.map .int)
  | [], _ => pls_nil
  | a :: ns, h => by
    have := pls_cons (pl_int (h a List.mem_cons_self)) (pls_ints fun i hi => h i (List.mem_cons_of_mem _ hi))
    rw [Nat.add_comm] at this
    exact this
theorem pl_tI (h : ∀ i ∈ ns, Sm i) : Pl (ns.length + 1) 1 (tI ns) (.tuple (ns.map .int)) := pl_tup (pls_ints h)
theorem repr_pl (hd : disp w = true) (ht : toD s w = toD0 w) (h : Pl n k w d) (hn : n ≤ 8000) (hk : k ≤ 60) : reprD s [w] = some (.str d.shown) := by
  show (if disp w = true then match toD s w with
      | some d => if d.showable = true ∧ d.hasDict = false ∧ d.depth ≤ 60 ∧ d.shown.length ≤ lim then some (Dv.str d.shown) else none
      | none => none
    else none) = _
  rw [if_pos hd, ht, h.to]
  have h1 := h.len
  exact if_pos ⟨h.shw, h.nod, Nat.le_trans h.deep hk, by unfold lim; omega⟩
theorem repr_lst (h : Pl n k (.lst ws) d) (hn : n ≤ 8000) (hk : k ≤ 60) : reprD s [.lst ws] = some (.str d.shown) := repr_pl rfl rfl h hn hk
theorem eq_ss {a b : Str} : eqD s (.str a) (.str b) = some (.bl (decide (a = b))) := by
  have e : decide (V.str a = V.str b) = decide (a = b) := by
    by_cases h : a = b
    · rw [h, decide_eq_true rfl, decide_eq_true rfl]
    · rw [decide_eq_false h, decide_eq_false fun z => h (V.str.inj z)]
  show (some (decide (V.str a = V.str b))).map Dv.bl = _
  rw [e]
  rfl
theorem eq_refl_ss {a : Str} : eqD s (.str a) (.str a) = some (.bl true) := by rw [eq_ss, decide_eq_true rfl]
/-- ints of any size -/
theorem toDs_ints : ∀ ns : List Int, toDs (ns.map .int) = some (ns.map .int)
  | [] => rfl
  | a :: ns => by
    rw [List.map_cons]
    simp only [toDs, toD0, toDs_ints ns]
    rfl
theorem lay_ints : ∀ ns : List Int, PyData.canLayAll0 (ns.map .int) = true
  | [] => by simp only [List.map_nil, PyData.canLayAll0]
  | a :: ns => by simp only [List.map_cons, PyData.canLayAll0, PyData.canLay0, lay_ints ns]; rfl
theorem deep_ints : ∀ ns : List Int, PyData.depthAll (ns.map .int) = 0
  | [] => by simp only [List.map_nil, PyData.depthAll]
  | a :: ns => by simp only [List.map_cons, PyData.depthAll, PyData.depth, deep_ints ns]; rfl
theorem shaped_list_ints : SeqAt.shaped (.list (ns.map .int)) = true := by
  unfold SeqAt.shaped
  simp only [PyData.canLay0, lay_ints, PyData.depth, deep_ints]
  rfl
theorem eqv_ints : ∀ ns ms : List Int, PyData.eqvAll (ns.map .int) (ms.map .int) = decide (ns = ms)
  | [], [] => by simp [PyData.eqvAll]
  | [], _ :: _ => by simp [PyData.eqvAll]
  | _ :: _, [] => by simp [PyData.eqvAll]
  | a :: ns, b :: ms => by
    rw [List.map_cons, List.map_cons]
    simp only [PyData.eqvAll, PyData.eqv, eqv_ints ns ms]
    by_cases h : a = b <;> by_cases h2 : ns = ms <;> simp [h, h2]
theorem eqB_lI {ms : List Int} : eqB s (lI ns) (lI ms) = some (decide (ns = ms)) := by
  have e1 : toD s (lI ns) = some (.list (ns.map .int)) := by
    show (toDs (ns.map .int)).map PyData.list = _
    rw [toDs_ints]; rfl
  have e2 : toD s (lI ms) = some (.list (ms.map .int)) := by
    show (toDs (ms.map .int)).map PyData.list = _
    rw [toDs_ints]; rfl
  show (match toD s (lI ns), toD s (lI ms) with
    | some d, some e => if SeqAt.shaped d = true ∧ SeqAt.shaped e = true then some (PyData.eqv d e) else none
    | _, _ => none) = _
  rw [e1, e2]
  dsimp only
  rw [if_pos ⟨shaped_list_ints, shaped_list_ints⟩]
  simp only [PyData.eqv, eqv_ints]
theorem eq_lI {ms : List Int} : eqD s (lI ns) (lI ms) = some (.bl (decide (ns = ms))) := by
  unfold eqD
  rw [eqB_lI]
  rfl
theorem ne_lI {ms : List Int} : neD s (lI ns) (lI ms) = some (.bl (!decide (ns = ms))) := by
  unfold neD
  rw [eqB_lI]
  rfl
/-- the branch that is not taken -/
theorem ifS_f {t : FT} {c c' : FS} {ρ : Env} {s1 : Sto} (h : t ρ s = .ok false s1) : mIfS t c c' ρ s = c' ρ s1 := by
  rw [ifS_ev, h, then_ok, if_neg (by decide)]
theorem ifS_t {t : FT} {c c' : FS} {ρ : Env} {s1 : Sto} (h : t ρ s = .ok true s1) : mIfS t c c' ρ s = c ρ s1 := by
  rw [ifS_ev, h, then_ok, if_pos rfl]
theorem mul_tup1 {x : Dv} {k : Nat} (h : k ≤ 1000000) : mulD s (.tup [x]) (.int (k : Int)) = some (.tup (List.replicate k x)) := by
  unfold mulD
  dsimp only
  rw [if_pos ⟨by omega, by omega, by unfold lim; simp; omega⟩, Int.toNat_natCast, List.flatten_replicate_singleton]
theorem lst_v {fa : FA} {ρ : Env} {s1 : Sto} {ws : List Dv} (h : fa ρ s = .ok ws s1) (hl : ws.length ≤ 1000000) : mLst fa ρ s = .ok (.lst ws) s1 := by
  rw [lst_ev, h, bind_ok, if_pos (by unfold lim; omega)]
theorem tup_v {fa : FA} {ρ : Env} {s1 : Sto} {ws : List Dv} (h : fa ρ s = .ok ws s1) (hl : ws.length ≤ 1000000) : mTup fa ρ s = .ok (.tup ws) s1 := by
  rw [tup_ev, h, bind_ok, if_pos (by unfold lim; omega)]
theorem cons_v {f : FE} {fa : FA} {ρ : Env} {s1 s2 : Sto} {w : Dv} {ws : List Dv} (h : f ρ s = .ok w s1) (h2 : fa ρ s1 = .ok ws s2) : mCons f fa ρ s = .ok (w :: ws) s2 := by
  rw [cons_ev, h, bind_ok, h2, bind_ok]
theorem call_v {d : Fn} {fa : FA} {ρ : Env} {s1 : Sto} {ws : List Dv} {r : R Dv} (h : fa ρ s = .ok ws s1) (h2 : d ws s1 = r) : mCall d fa ρ s = r := by
  rw [call_ev, h, bind_ok, h2]
theorem bin_v {o : O2} {f g : FE} {ρ : Env} {s1 s2 : Sto} {x y z : Dv} (h : f ρ s = .ok x s1) (h2 : g ρ s1 = .ok y s2) (h3 : o s2 x y = some z) : mBin o f g ρ s = .ok z s2 := by
  rw [bin_ev, h, bind_ok, h2, bind_ok, h3, of_some]
theorem blt_v {o : ON} {fa : FA} {ρ : Env} {s1 : Sto} {ws : List Dv} {z : Dv} (h : fa ρ s = .ok ws s1) (h3 : o s1 ws = some z) : mBlt o fa ρ s = .ok z s1 := by
  rw [blt_ev, h, bind_ok, h3, of_some]
theorem asg_v {f : FE} {i : Nat} {ρ : Env} {s1 : Sto} {w : Dv} (h : f ρ s = .ok w s1) : mAsg f (gN i) ρ s = .nx (ρ.set i (some w)) s1 := by
  rw [asgN_ev, h, then_ok]
theorem ret_v {f : FE} {ρ : Env} {s1 : Sto} {w : Dv} (h : f ρ s = .ok w s1) : mRet f ρ s = .rt w s1 := by
  rw [ret_ev, h, then_ok]
theorem seq_nx {c c' : FS} {ρ ρ1 : Env} {s1 : Sto} {r : C} (h : c ρ s = .nx ρ1 s1) (h2 : c' ρ1 s1 = r) : mSeq c c' ρ s = r := by
  rw [seq_ev, h, seqK_nx, h2]
theorem seq_rt {c c' : FS} {ρ : Env} {s1 : Sto} {w : Dv} (h : c ρ s = .rt w s1) : mSeq c c' ρ s = .rt w s1 := by
  rw [seq_ev, h, seqK_rt]
theorem test_v {f : FE} {ρ : Env} {s1 : Sto} {b : Bool} (h : f ρ s = .ok (.bl b) s1) : mTest f ρ s = .ok b s1 := by
  rw [test_ev, h, bind_ok, testK_bl]
section
open Classical
variable {vs : List Nat} {g : FG} {tt : FT} {elt : FE} {ρ : Env}
/-- a comprehension with a test that changes nothing -/
theorem comp_filt {α : Type} {f : FI} {l : List α} {e : α → Dv} (φ : α → Dv) (t : α → Bool) (hf : f ρ s = .ok { ws := l.map e } s) (hl : l.length ≤ lim) (h : ∀ a ∈ l, ∃ ρ1, g (e a) (wipeD ρ vs) s = some ρ1 ∧ tt ρ1 s = .ok (t a) s ∧ (t a = true → elt ρ1 s = .ok (φ a) s)) : mComp f vs g tt elt ρ s = .ok (.lst ((l.filter t).map φ)) s := by
  have key : ∀ {l : List α}, (∀ a ∈ l, ∃ ρ1, g (e a) (wipeD ρ vs) s = some ρ1 ∧ tt ρ1 s = .ok (t a) s ∧ (t a = true → elt ρ1 s = .ok (φ a) s)) → compL none vs g tt elt ρ (l.map e) s = some ((l.filter t).map φ, s) := fun {l} => by
    induction l with
    | nil => intro _; rw [List.map_nil]; simp [compL]
    | cons a l ih =>
      intro h
      obtain ⟨ρ1, h1, h2, h3⟩ := h a List.mem_cons_self
      rw [List.map_cons]
      unfold compL
      rw [if_pos (.inl rfl), h1]
      simp only [h2]
      cases q : t a with
      | true =>
        rw [List.filter_cons_of_pos q]
        simp only [h3 q]
        rw [ih fun b hb => h b (List.mem_cons_of_mem _ hb)]
        rfl
      | false =>
        rw [List.filter_cons_of_neg (by rw [q]; decide)]
        exact ih fun b hb => h b (List.mem_cons_of_mem _ hb)
  unfold mComp
  rw [hf, bind_ok]
  dsimp only
  rw [key h]
  dsimp only
  rw [if_pos (by rw [List.length_map]; exact Nat.le_trans (List.length_filter_le _ _) hl)]
end
end MP
set_option Elab.async false
set_option linter.all false
set_option maxRecDepth 100000
set_option maxHeartbeats 4000000
namespace MP
open PySem PySem.Spec PyProof.Rows L2
def maxO (d : Int) : List Int → Int
  | [] => d
  | n :: ns => ns.foldl max n
theorem foldl_max_le : ∀ (ns : List Int) (n : Int), n ≤ ns.foldl max n ∧ ∀ m ∈ ns, m ≤ ns.foldl max n
  | [], n => ⟨Int.le_refl _, fun _ h => nomatch h⟩
  | a :: ns, n => by
    obtain ⟨h1, h2⟩ := foldl_max_le ns (max n a)
    refine ⟨Int.le_trans (by omega : n ≤ max n a) h1, fun m hm => ?_⟩
    rcases List.mem_cons.mp hm with rfl | hm
    · exact Int.le_trans (by omega : m ≤ max n m) h1
    · exact h2 m hm
theorem foldl_max_mem : ∀ (ns : List Int) (n : Int), ns.foldl max n ∈ n :: ns
  | [], n => List.mem_cons_self
  | a :: ns, n => by
    have := foldl_max_mem ns (max n a)
    show ns.foldl max (max n a) ∈ _
    rcases List.mem_cons.mp this with h | h
    · rw [h]
      by_cases q : n ≤ a
      · rw [show max n a = a by omega]; exact List.mem_cons_of_mem _ List.mem_cons_self
      · rw [show max n a = n by omega]; exact List.mem_cons_self
    · exact List.mem_cons_of_mem _ (List.mem_cons_of_mem _ h)
theorem maxO_uniq {d m : Int} {ns : List Int} (h : m ∈ ns) (h2 : ∀ y ∈ ns, y ≤ m) : m = maxO d ns := by
  cases ns with
  | nil => cases h
  | cons a ns =>
    have h3 := h2 _ (foldl_max_mem ns a)
    obtain ⟨h4, h5⟩ := foldl_max_le ns a
    show m = ns.foldl max a
    rcases List.mem_cons.mp h with rfl | h
    · omega
    · have := h5 m h; omega
section
variable {X : Cx} {Γ : Ct} {W : WX}
/-- max(x), some ints -/
def maxLD : ON := fun s xs => match xs with
  | [x] => match lstOf s x with
    | some ws => match intsOf ws with
      | some (n :: ns) => some (.int (maxO 0 (n :: ns)))
      | _ => none
    | none => none
  | _ => none
theorem sMaxL (hK : Γ.K = X.K) : OpN Γ (rMax X.K) maxLD := fun H μ Z s xs w vs Q hR rx e k => by
  rw [← hK]
  unfold maxLD at e
  split at e
  · rename_i y
    split at e
    · rename_i ws q
      split at e
      · rename_i n ns q2
        cases e
        obtain ⟨v, rfl, r1⟩ := one rx
        obtain ⟨a, ys, rfl, h2, h3⟩ := lstOf_ok hR r1 q
        rw [intsOf_ok q2] at h3
        have h4 := h3.ints
        subst h4
        refine ⟨a, n :: ns, rfl, SqL.of h2, Nat.succ_pos _, fun m hm h => ?_⟩
        rw [maxO_uniq (d := 0) hm h]
        exact k _ H .refl hR rfl
      · cases e
    · cases e
  · cases e
end
end MP
set_option Elab.async false
set_option linter.all false
set_option maxRecDepth 100000
set_option maxHeartbeats 4000000
namespace MPZ
open PySem PySem.W
section
variable {prog : Program} {w : World} {A : Around} {E : Value → Shared → Prop} {s : Shared} {z TI TO T i1 i2 l1 l2 : Addr} {f : Bool} {oT : Obj} {k1 k2 : Nat} {xs ys : Array Value}
/-- a zip that goes on while its last tuple is still held -/
structure On (h : Heap) (z TI i1 i2 l1 l2 : Addr) (k1 k2 : Nat) (xs ys : Array Value) : Prop where
  tI : PySem.IsPair h TI (.ref i1) (.ref i2)
  a : h.IsTupleIter i1 l1 k1
  b : h.IsTupleIter i2 l2 k2
  la : h.IsTuple l1 xs
  lb : h.IsTuple l2 ys
/-- where a zip of two tuples stands -/
structure Zst (h : Heap) (z TI TO i1 i2 l1 l2 S : Addr) (k : Nat) (xs ys : Array Value) : Prop where
  on : On h z TI i1 i2 l1 l2 k k xs ys
  st : (PySem.IsZip h z TI TO .none ∧ PySem.IsPair h TO .none .none) ∨ ∃ T f oT, IsZipHeld h z TI TO T f ∧ h.get? T = some oT ∧ T ≠ z ∧ T ≠ i1 ∧ T ≠ i2 ∧ T ≠ S
variable {S : Addr} {k : Nat}
/-- the pairs, as new tuples above lo -/
structure Prs (xs ys : Array Value) (lo : Addr) (h : Heap) (as : List Addr) : Prop where
  rise : as.Pairwise (· < ·)
  over : ∀ a ∈ as, lo < a
  pair : ∀ (j : Nat) (a : Addr), as[j]? = some a → ∃ x y, xs[j]? = some x ∧ ys[j]? = some y ∧ PySem.IsPair h a x y
theorem Prs.low {lo lo' : Addr} {h : Heap} {as : List Addr} (p : Prs xs ys lo h as) (hl : lo' ≤ lo) : Prs xs ys lo' h as := ⟨p.rise, fun a ha => Nat.lt_of_le_of_lt hl (p.over a ha), p.pair⟩
theorem Prs.keep {lo : Addr} {h g : Heap} {as : List Addr} (p : Prs xs ys lo h as) (hk : ∀ b u, lo < b → h.get? b = some u → g.get? b = some u) : Prs xs ys lo g as :=
  ⟨p.rise, p.over, fun j a q => let ⟨x, y, e1, e2, e3⟩ := p.pair j a q; ⟨x, y, e1, e2, hk a _ (p.over a (List.mem_of_getElem? q)) e3⟩⟩
end
section
variable {prog : Program} {w : World} {A : Around} {s : Shared} {R : Result → Shared → Prop} {z TI TO i1 i2 l1 l2 S : Addr} {xs ys : Array Value}
theorem Zst.ty {h : Heap} {k : Nat} (zs : Zst h z TI TO i1 i2 l1 l2 S k xs ys) {s : Shared} (e : s.heap = h) : s.TypeIs (.ref z) "zip" := by
  subst e
  rcases zs.st with ⟨hz, _⟩ | ⟨_, _, _, hz, _⟩
  · exact ⟨_, hz, rfl⟩
  · exact ⟨_, hz, rfl⟩
end
end MPZ
set_option Elab.async false
set_option linter.all false
set_option maxRecDepth 100000
set_option maxHeartbeats 4000000
namespace MP
open PySem PySem.Spec PyProof.Rows L2
theorem Un.more {fs ex : List Addr} {H H1 : Hp} {h h' : Heap} {a : Addr} {o : HO} (u : Un fs ex H H1 h h') (hp : h.objs.size ≤ a) (hn : H1 a = none) : Un fs ex H (upd H1 a o) h h' where
  keep := u.keep
  slot := u.slot
  free := fun b ob q n hx => by rw [upd_ne (Nat.ne_of_lt (Nat.lt_of_lt_of_le (Heap.lt_size q) hp))]; exact u.free b ob q n hx
  there := u.there
  tups := fun b xs q => by rw [upd_ne (ne_of_none (u.tups b xs q) hn)]; exact u.tups b xs q
  frzs := fun b ob xs q => by rw [upd_ne (ne_of_none (u.frzs b ob xs q) hn)]; exact u.frzs b ob xs q
  tbls := fun b ps q => by
    obtain ⟨m, e⟩ := u.tbls b ps q
    exact ⟨m, by rw [upd_ne (ne_of_none e hn)]; exact e⟩
theorem HOk.more {P : Program} {w : World} {H : Hp} {h : Heap} {a : Addr} {o : HO} (x : HOk P w H h) (hn : H a = none) (new : ObjOk P w (upd H a o) h a o) : HOk P w (upd H a o) h := fun b u e => by
  by_cases hb : b = a
  · subst hb
    rw [upd_same] at e
    cases e
    exact new
  · rw [upd_ne hb] at e
    exact (x b u e).stay (fun _ _ _ q => q) (fun c q => (upd_ne (ne_of_none q hn)).trans q) fun c ps q => (upd_ne (ne_of_none q hn)).trans q
def prs : List V → List V → List (List V)
  | a :: r, b :: t => [a, b] :: prs r t
  | _, _ => []
end MP
set_option Elab.async false
set_option linter.all false
set_option maxRecDepth 100000
set_option maxHeartbeats 4000000
namespace MP
open PySem PySem.Spec PyProof.Rows L2
def under (c j : Nat) : Bool := decide (c = j) || (decide (j = 0) && decide (c ≤ 7))
def underT (c : Nat) (n : String) : Option Bool := if n = "ValueError" then some (decide (c ≤ 7)) else if n = "LookupError" then some (decide (c = 8)) else none
def exCls : Dv → Option Nat
  | .exc c _ _ => if c < 9 then some c else none
  | .exn c => if c < 9 then some c else none
  | _ => none
def isxD : ON := fun _ xs => match xs with
  | [x, .cl j] => match exCls x with
    | some c => if j < 9 then some (.bl (under c j)) else none
    | none => none
  | [x, .ty n] => match exCls x with
    | some c => (underT c n).map .bl
    | none => none
  | _ => none
section
variable {X : Cx} {Γ : Ct}
/-- isinstance, of data and of exceptions -/
def isiA : ON := fun s xs => match isiD s xs with
  | some w => some w
  | none => isxD s xs
end
end MP
set_option Elab.async false
set_option linter.all false
set_option maxRecDepth 100000
set_option maxHeartbeats 4000000
namespace MP
open PySem PySem.Spec PyProof.Rows L2
/-- raise C(e) -/
def mRaise (c : Nat) (f : Str) (g : FE) : FS := fun ρ s => (g ρ s).thenC ρ fun w s1 => .er ⟨c, f, w⟩ ρ s1
end MP
set_option Elab.async false
set_option linter.all false
set_option maxRecDepth 100000
set_option maxHeartbeats 4000000
namespace MP
open PySem PySem.Spec PyProof.Rows L2
end MP
set_option Elab.async false
set_option linter.all false
set_option maxRecDepth 100000
set_option maxHeartbeats 4000000
namespace MP
open PySem PySem.Spec PyProof.Rows L2
end MP
set_option Elab.async false
set_option linter.all false
set_option maxRecDepth 100000
set_option maxHeartbeats 4000000
namespace MP
open PySem PySem.Spec PyProof.Rows L2
/-- the names of a lambda: captured ones, globals, and of its own none but what its maker has not -/
structure LamN (N : List Str) (sc scope : Scope) : Prop where
  kind : scope.kind = .function
  co : scope.isCoroutine = false
  gen : scope.isGenerator = false
  cell : ∀ y ∈ scope.names, y.2 ≠ .cell
  own : ∀ y ∈ scope.names, y.2 = .local → y.1 ∉ N
  free : ∀ y ∈ scope.names, y.2 = .free → sc.names.lookup y.1 = some .cell ∨ sc.names.lookup y.1 = some .free
theorem LamN.has {N : List Str} {X : Cx} {scope : Scope} (L : LamN N X.env.scope scope) (ok : X.Ok) : ∀ y ∈ scope.names, y.2 = .free → ∃ c, X.env.cells.lookup y.1 = some c := fun y hy e => ok.has _ (L.free y hy e)
end MP
set_option Elab.async false
set_option linter.all false
set_option maxRecDepth 100000
set_option maxHeartbeats 4000000
namespace MP
open PySem PySem.Spec PyProof.Rows L2
abbrev lamFd (q : Str) (params : Arguments) (body : Expr) (scope : Scope) (cl : List (Str × Addr)) (dV doc pm : Value) (c' : Addr) (ctv : Value) : FuncData := PySem.W.kdv_fn "<lambda>" q params (.expr body) scope cl dV doc pm (.ref c') ctv
abbrev lamObj (q : Str) (params : Arguments) (body : Expr) (scope : Scope) (cl : List (Str × Addr)) (dV doc pm : Value) (c' : Addr) (ctv : Value) : Obj := { cls := .type "function", data := .func (lamFd q params body scope cl dV doc pm c' ctv) }
/-- a lambda on its way, made ahead of the state s0 under the frames outer: what holds of it and what its call does -/
structure Thk (P : Program) (w : World) (Γ : Ct) (mg : Str → Option Value) (base : Heap) (kk : Nat) (outer : List PySem.Env) (s0 : Shared) (H0 : Hp) (f c' : Addr) (q : Str) (ws : List Dv) (vs : List V) (g : Sto → R Dv) : Prop where
  fn : ∀ (s1 : Shared) (HZ : Hp), Un (frs outer) [] H0 HZ s0.heap s1.heap → HOk P w HZ s1.heap → PySem.W.FnAt f s1.heap
  run : ∀ (A : Around) (outer1 : List PySem.Env) (s1 : Shared) (HZ : Hp) (Q : VK) (E : XK) (μ : Mu) (Z : Zs) (st : Sto), Room kk A → A.guards = some [] → Env0 P w Γ.K mg base A outer1 s1 HZ → Un (frs outer) [] H0 HZ s0.heap s1.heap →
    HZ c' = some (LamX.CodeO c' q) → RVs Γ HZ μ Z ws vs → Rep Γ HZ μ Z st → PostE Γ (fun c d _ H => E c d H) HZ μ Z [] Q (g st) → codeAny (model P w) A (.call (.ref f) ⟨[], []⟩) (CR (L2.CX P w) outer1 P w HZ s1 Q E) s1
theorem un_comp {fs : List Addr} {L : Addr} {H H1 H2 : Hp} {h h1 h2 : Heap} (u : Un fs [] H H1 h h1) (v : Un (L :: fs) [] H1 H2 h1 h2) (hL : h.objs.size ≤ L) : Un fs [] H H2 h h2 where
  keep := fun b o q n hb hx => v.keep b o (u.keep b o q n hb hx) (u.free b o q n hx) (fun z => (List.mem_cons.mp z).elim (fun e => Nat.lt_irrefl _ (Nat.lt_of_lt_of_le (Heap.lt_size q) (by rw [e]; exact hL))) hb) hx
  slot := fun b o q n hb hx => by
    obtain ⟨sl, e1⟩ := u.slot b o q n hb hx
    obtain ⟨sl2, e2⟩ := v.slot b _ e1 (u.free b o q n hx) (List.mem_cons_of_mem _ hb) hx
    exact ⟨sl2, e2⟩
  free := fun b o q n hx => by
    obtain ⟨o1, e1⟩ := u.there b o q hx
    exact v.free b o1 e1 (u.free b o q n hx) hx
  there := fun b o q hx => by
    obtain ⟨o1, e1⟩ := u.there b o q hx
    exact v.there b o1 e1 hx
  tups := fun b xs q => v.tups b xs (u.tups b xs q)
  frzs := fun b o xs q => v.frzs b o xs (u.frzs b o xs q)
  tbls := fun b ps q => by
    obtain ⟨m1, e1⟩ := u.tbls b ps q
    obtain ⟨m2, e2⟩ := v.tbls b _ e1
    exact ⟨m1 ++ m2, by rw [e2, Array.append_assoc]⟩
/-- one frame deeper -/
theorem Thk.deeper {P : Program} {w : World} {Γ : Ct} {mg : Str → Option Value} {base : Heap} {kk : Nat} {outer : List PySem.Env} {s0 s' : Shared} {H0 H' : Hp} {f c' : Addr} {q : Str} {ws : List Dv} {vs : List V} {g : Sto → R Dv} {env : PySem.Env} {L : Addr}
    (T : Thk P w Γ mg base kk outer s0 H0 f c' q ws vs g) (hf : env.frame = some L) (hL : s0.heap.objs.size ≤ L) (u : Un (frs outer) [] H0 H' s0.heap s'.heap) : Thk P w Γ mg base kk (env :: outer) s' H' f c' q ws vs g := by
  have e : frs (env :: outer) = L :: frs outer := by unfold frs; rw [List.filterMap_cons, hf]
  exact ⟨fun s1 HZ v ok => T.fn s1 HZ (un_comp u (e ▸ v) hL) ok, fun A outer1 s1 HZ Q E μ Z st h1 h2 h3 v => T.run A outer1 s1 HZ Q E μ Z st h1 h2 h3 (un_comp u (e ▸ v) hL)⟩
end MP
set_option Elab.async false
set_option linter.all false
set_option maxRecDepth 100000
set_option maxHeartbeats 4000000
namespace MP
open PySem PySem.Spec PyProof.Rows L2
end MP
set_option Elab.async false
set_option linter.all false
set_option maxRecDepth 100000
set_option maxHeartbeats 4000000
namespace MP
open PySem PySem.Spec PyProof.Rows L2
section
variable {X : Cx} {Γ : Ct} {W : WX} {k kk : Nat} {f : Addr} {fd : FuncData} {ps : List Str} {den : (Sto → R Dv) → Fn} {x a : Str} {i : Nat} {p p1 p2 pos lpos : Pos} {es : List Expr} {fa : FA}
open Classical in
/-- a(): the lambda that the name holds -/
noncomputable def mThk (i : Nat) (cl : Dv) (g : Sto → R Dv) : FE := fun ρ s => if ρ[i]? = some (some cl) then g s else .no
open Classical in
/-- x(a, ..): the lambda is handed on -/
noncomputable def mPass (cl : Dv) (g : Sto → R Dv) (den : (Sto → R Dv) → Fn) (fa : FA) : FE := fun ρ s => (fa ρ s).bind fun ws s1 => match ws with
  | w :: wa => if w = cl then den g wa s1 else .no
  | [] => .no
end
end MP
set_option Elab.async false
set_option linter.all false
set_option maxRecDepth 100000
set_option maxHeartbeats 4000000
namespace MP
open PySem PySem.Spec PyProof.Rows L2
end MP
set_option Elab.async false
set_option linter.all false
set_option maxRecDepth 100000
set_option maxHeartbeats 4000000
namespace MP
open PySem PySem.Spec PyProof.Rows L2
section
variable {K : PySem.W.Frag} {c j : Addr} {b : Bool}
theorem kitCls_of {t : Value} (h1 : PySem.W.isClsIn K j = true) (h2 : PySem.W.typeIn K (.ref j) = some (.type "type")) (h3 : PySem.W.subIn K t (.ref j) = some b) : PySem.W.kitCls K t (.ref j) = some b := by
  have e2 : ((PySem.W.clsIn K j).isSome && PySem.W.typeIn K (.ref j) == some (.type "type")) = true := by
    have h1' : (PySem.W.clsIn K j).isSome = true := h1
    rw [h1', h2] <;> rfl
  show (if ((PySem.W.clsIn K j).isSome && PySem.W.typeIn K (.ref j) == some (.type "type")) = true then PySem.W.subIn K t (.ref j) else none) = some b
  rw [if_pos e2]
  exact h3
theorem kitOne_of (h1 : PySem.W.isClsIn K j = true) (h2 : PySem.W.typeIn K (.ref j) = some (.type "type")) (hs : PySem.W.subIn K (.ref j) (.ref j) = some true) (h3 : PySem.W.subIn K (.ref c) (.ref j) = some b) : PySem.W.kitOne K (.ref c) (.ref j) = some b := by
  unfold PySem.W.kitOne
  split
  · rename_i h
    have : Value.ref c = Value.ref j := beq_iff_eq.mp h
    cases this
    rw [h3] at hs
    exact hs.symm
  · exact kitCls_of h1 h2 h3
theorem exmAny_of {c0 c8 : Addr} {b0 b8 : Bool} (a1 : PySem.W.isClsIn K c0 = true) (a2 : PySem.W.typeIn K (.ref c0) = some (.type "type")) (a3 : PySem.W.subIn K (.ref c0) (.type "BaseException") = some true) (b1 : PySem.W.isClsIn K c8 = true) (b2 : PySem.W.typeIn K (.ref c8) = some (.type "type")) (b3 : PySem.W.subIn K (.ref c8) (.type "BaseException") = some true)
    (h0 : PySem.W.subIn K (.ref c) (.ref c0) = some b0) (h8 : PySem.W.subIn K (.ref c) (.ref c8) = some b8) : PySem.W.exmAny K (.ref c) [.ref c0, .ref c8] = some (b0 || (b8 || false)) := by
  have e1 : PySem.W.exmOne K (.ref c) (.ref c0) = some b0 := by
    have e : (PySem.W.subIn K (.ref c0) (.type "BaseException") == some true) = true := by rw [a3]; rfl
    unfold PySem.W.exmOne
    rw [if_pos e]
    exact kitCls_of a1 a2 h0
  have e2 : PySem.W.exmOne K (.ref c) (.ref c8) = some b8 := by
    have e : (PySem.W.subIn K (.ref c8) (.type "BaseException") == some true) = true := by rw [b3]; rfl
    unfold PySem.W.exmOne
    rw [if_pos e]
    exact kitCls_of b1 b2 h8
  show (match PySem.W.exmOne K (.ref c) (.ref c0), PySem.W.exmAny K (.ref c) [.ref c8] with | some b, some d => some (b || d) | _, _ => none) = _
  have e3 : PySem.W.exmAny K (.ref c) [.ref c8] = some (b8 || false) := by
    show (match PySem.W.exmOne K (.ref c) (.ref c8), PySem.W.exmAny K (.ref c) [] with | some b, some d => some (b || d) | _, _ => none) = _
    rw [e2]
    rfl
  rw [e1, e3]
end
/-- what is known of a class of exceptions -/
structure ClsF (K : PySem.W.Frag) (C : Addr) : Prop where
  e : ExcC K C
  is : PySem.W.isClsIn K C = true
  ty : PySem.W.typeIn K (.ref C) = some (.type "type")
end MP
set_option Elab.async false
set_option linter.all false
set_option maxRecDepth 100000
set_option maxHeartbeats 4000000
namespace MP
open PySem PySem.Spec PyProof.Rows L2
end MP
set_option Elab.async false
set_option linter.all false
set_option maxRecDepth 100000
set_option maxHeartbeats 4000000
namespace MP
open PySem PySem.Spec PyProof.Rows L2
section
variable {s s1 : Sto} {ρ : Env} {w v : Dv} {f g : FE} {fa : FA} {c su : FS} {ws : List Dv} {i n : Nat} {j : Int} {b : Bool} {y : Str} {ks : List Key}
@[simp] theorem isA_ii : isiA s [.int j, .ty "int"] = some (.bl true) := rfl
@[simp] theorem isA_ib : isiA s [.int j, .ty "bool"] = some (.bl false) := rfl
@[simp] theorem isA_it : isiA s [.int j, .ty "tuple"] = some (.bl false) := rfl
@[simp] theorem isA_bi : isiA s [.bl b, .ty "int"] = some (.bl true) := rfl
@[simp] theorem isA_bb : isiA s [.bl b, .ty "bool"] = some (.bl true) := rfl
@[simp] theorem isA_bt : isiA s [.bl b, .ty "tuple"] = some (.bl false) := rfl
@[simp] theorem isA_ni : isiA s [.non, .ty "int"] = some (.bl false) := rfl
@[simp] theorem isA_nt : isiA s [.non, .ty "tuple"] = some (.bl false) := rfl
@[simp] theorem isA_si : isiA s [.str y, .ty "int"] = some (.bl false) := rfl
@[simp] theorem isA_st : isiA s [.str y, .ty "tuple"] = some (.bl false) := rfl
@[simp] theorem isA_tt : isiA s [.tup ws, .ty "tuple"] = some (.bl true) := rfl
@[simp] theorem isA_ti : isiA s [.tup ws, .ty "int"] = some (.bl false) := rfl
@[simp] theorem isA_lt : isiA s [.lst ws, .ty "tuple"] = some (.bl false) := rfl
@[simp] theorem isA_li : isiA s [.lst ws, .ty "int"] = some (.bl false) := rfl
@[simp] theorem raise_ev {k : Nat} : mRaise k y f ρ s = (f ρ s).thenC ρ fun w s1 => .er ⟨k, y, w⟩ ρ s1 := rfl
@[simp] theorem finC_er {x : Ex} : finC s.length (.er x ρ s) = .er x s := by
  show finX s.length x s = _
  unfold finX
  rw [if_pos (Nat.le_refl _)]
@[simp] theorem thk_ev {cl : Dv} {t : Sto → R Dv} : mThk 0 cl t (some cl :: ρ) s = t s := by unfold mThk; exact if_pos rfl
@[simp] theorem pass_ev {cl : Dv} {t : Sto → R Dv} {den : (Sto → R Dv) → Fn} : mPass cl t den (mCons (mVar 0) fa) (some cl :: ρ) s = (fa (some cl :: ρ) s).bind fun wa s1 => den t wa s1 := by
  unfold mPass mCons
  rw [var_0, bind_ok]
  cases fa (some cl :: ρ) s with
  | ok wa s1 => exact if_pos rfl
  | er _ _ => rfl
  | no => rfl
end
end MP
set_option Elab.async false
set_option linter.all false
set_option maxRecDepth 100000
set_option maxHeartbeats 4000000
namespace MP
open PySem PySem.Spec PyProof.Rows L2
mutual
def toX : Dv → Option PyData
  | .non => some .none | .bl b => some (.bool b) | .int i => some (.int i) | .str x => some (.str x)
  | .tup ws => (toXs ws).map .tuple
  | .dct ks ws => match ks, ws with
    | [], [] => some (.dict [])
    | _, _ => none
  | _ => none
def toXs : List Dv → Option (List PyData)
  | [] => some []
  | w :: ws => match toX w, toXs ws with
    | some d, some ds => some (d :: ds)
    | _, _ => none
end
section
variable {X : Cx} {Γ : Ct} {pins : List (Addr × Obj)} {σ : L2.St} {H : Hp} {s : Shared} {μ : Mu} {Z : Zs}
mutual
theorem rx_reads (I : Inv X pins σ H s) (hK : Γ.K = X.K) : ∀ (w : Dv) {v : V} {u : Value} {d : PyData}, RV Γ H μ Z w v → L2.RelV v u → toX w = some d → ∃ as, Reads s.heap u d as ∧ sysModules ∉ as
  | .non, _, _, _, r, ru, e => by cases e; rw [show _ = _ from r] at ru; cases ru; exact ⟨_, Reads.none, fun z => nomatch z⟩
  | .bl b, _, _, _, r, ru, e => by cases e; rw [show _ = _ from r] at ru; cases ru; exact ⟨_, Reads.bool b, fun z => nomatch z⟩
  | .int i, _, _, _, r, ru, e => by cases e; rw [show _ = _ from r] at ru; obtain ⟨t, rfl⟩ := ru; exact ⟨_, Reads.int i t, fun z => nomatch z⟩
  | .str x, _, _, _, r, ru, e => by cases e; rw [show _ = _ from r] at ru; obtain ⟨t, rfl⟩ := ru; exact ⟨_, Reads.str x t, fun z => nomatch z⟩
  | .tup ws, _, _, _, r, ru, e => by
    obtain ⟨a, xs, rfl, h2, h3⟩ := r
    cases ru
    cases q : toXs ws with
    | none => unfold toX at e; rw [q] at e; cases e
    | some ds =>
      unfold toX at e
      rw [q] at e
      cases e
      have hs := h2.sq
      rw [hK] at hs
      obtain ⟨its, rv, ⟨o, ho, hc, n, hd⟩, _⟩ := I.tuple hs
      obtain ⟨as, hr, hn⟩ := rxs_reads I hK ws h3 rv q
      exact ⟨_, Reads.tuple ho hc hd hr, hn⟩
  | .ty _, _, _, _, _, _, e => by cases e
  | .cl _, _, _, _, _, _, e => by cases e
  | .ref _, _, _, _, _, _, e => by cases e
  | .lst _, _, _, _, _, _, e => by cases e
  | .sq _, _, _, _, _, _, e => by cases e
  | .exc _ _ _, _, _, _, _, _, e => by cases e
  | .exn _, _, _, _, _, _, e => by cases e
  | .dtt _ _, _, _, _, _, _, e => by cases e
  | .clo _ _ _ _ _, _, _, _, _, _, e => by cases e
  | .dct ks ws, _, _, _, r, ru, e => by
    unfold toX at e
    split at e
    · cases e
      obtain ⟨a, kvs, rfl, h1, _, h3, _⟩ := r
      cases ru
      have hk : kvs = [] := by cases kvs with
        | nil => rfl
        | cons _ _ => cases h3
      subst hk
      obtain ⟨_, hsm, vs, kv, o, es, ep, ho, hx, hd, _, hp, _⟩ := I.hok a _ h1
      cases kv
      have he : es.toList = [] := by
        generalize es.toList = l at hp
        cases hp
        rfl
      refine ⟨_, Reads.dict (as := []) (bs := []) ho hx.1 hd (by rw [he]; exact ReadsAll.nil) (by rw [he]; exact ReadsAll.nil), ?_⟩
      intro hm
      simp at hm
      rw [← hm] at hsm
      simp at hsm
    · cases e
theorem rxs_reads (I : Inv X pins σ H s) (hK : Γ.K = X.K) : ∀ (ws : List Dv) {vs : List V} {us : List Value} {ds : List PyData}, RVs Γ H μ Z ws vs → Vals vs us → toXs ws = some ds → ∃ as, ReadsAll s.heap us ds as ∧ sysModules ∉ as
  | [], _, _, _, r, ru, e => by
    cases e
    rw [show _ = _ from r] at ru
    cases ru
    exact ⟨_, ReadsAll.nil, fun z => nomatch z⟩
  | w :: ws, _, _, _, r, ru, e => by
    obtain ⟨x, xs, rfl, r1, r2⟩ := r
    cases ru with
    | cons u1 u2 =>
      unfold toXs at e
      split at e
      · rename_i d ds q1 q2
        cases e
        obtain ⟨as, h1, n1⟩ := rx_reads I hK w r1 u1 q1
        obtain ⟨bs, h2, n2⟩ := rxs_reads I hK ws r2 u2 q2
        exact ⟨_, ReadsAll.cons h1 h2, fun z => (List.mem_append.mp z).elim n1 n2⟩
      · cases e
end
end
end MP
set_option Elab.async false
set_option linter.all false
set_option maxRecDepth 100000
set_option maxHeartbeats 4000000
namespace MP
open PySem PySem.Spec PyProof.Rows L2
/-- a table: where the code object of its def stands, where the table, the lambdas' name -/
structure Tb where
  c : Addr
  T : Addr
  q : Str
def tabsOf : Nat → List Tb → Sto
  | _, [] => []
  | i, t :: r => .tab i t.q :: tabsOf (i + 1) r
theorem tabsOf_len : ∀ (i : Nat) (r : List Tb), (tabsOf i r).length = r.length
  | _, [] => rfl
  | i, t :: r => by simp [tabsOf, tabsOf_len (i + 1) r]
theorem tabsOf_get : ∀ {i n : Nat} {r : List Tb} {o : Ob}, (tabsOf i r)[n]? = some o → ∃ t, r[n]? = some t ∧ o = .tab (i + n) t.q
  | i, n, [], o, h => by simp [tabsOf] at h
  | i, 0, t :: r, o, h => by
    simp [tabsOf] at h
    exact ⟨t, rfl, h.symm⟩
  | i, n + 1, t :: r, o, h => by
    have h' : (tabsOf (i + 1) r)[n]? = some o := by simpa [tabsOf] using h
    obtain ⟨t', h1, h2⟩ := tabsOf_get h'
    exact ⟨t', by simpa using h1, by rw [h2]; congr 1; omega⟩
def Ts (tabs : List Tb) : List Addr := tabs.map (·.T)
section
variable {P : Program} {w : World} {Γ : Ct} {mg mb : Str → Option Value} {k : Nat} {fa a : Addr} {fd : FuncData} {x : Str} {den : Fn} {s₁ : Shared} {vs : List Value} {ns : List Int} {tabs : List Tb}
theorem law_GTs (KX : Γ.K.In s₁.heap) (hns : s₁.heap.Ns mainGlobals mg) (hb : s₁.heap.Ns builtinsNs mb) (hbb : ∀ x : Str, x ≠ "__name__" → mb x = bootBuiltins x) (hlim : s₁.heap.NoLimit) (hg : s₁.gens = #[])
    (hT : ∀ t ∈ tabs, s₁.heap.get? t.T = some { cls := .none, data := .fields #[] } ∧ Γ.K.lookup t.T = none ∧ PySem.W.CodeHd s₁.heap t.c t.T) (hΓ : ∀ (i : Nat) (t : Tb), tabs[i]? = some t → Γ.tb i = t.T) (nd : (Ts tabs).Nodup)
    (hbm : ∃ (bm : Addr) (ob : Obj), mg "__builtins__" = some (.ref bm) ∧ bm ≠ builtinsNs ∧ s₁.heap.get? bm = some ob ∧ ob.cls = .type "module" ∧ ob.dict = some builtinsNs ∧ ob.data = .plain)
    (ha : s₁.heap.get? a = some { cls := .type "list", data := .seq vs.toArray }) (hi : IntsAre vs ns) (hl : ns.length ≤ sizeLine) (hr : Room k callerA)
    (F : ∀ base : Heap, Γ.K.In base → base.Ns mainGlobals mg → (∀ t ∈ tabs, LamX.TabB base mg t.c t.T) → FnG P w mg base Γ k fa fd [x] den) (hbind : ∀ (s : Shared) (u : Value), BindsTo s fd ⟨[u], []⟩ [(x, u)])
    (hden : ∃ s', den [.sq (ns.map .int)] (tabsOf 0 tabs) = .ok (.bl true) s') :
    codeAny (model P w) callerA (.call (.ref fa) ⟨[.ref a], []⟩) (fun r s' => r = .ok (.ret (.bool true)) ∧ OldK s₁.heap s'.heap ∧ s'.os = s₁.os ∧ AllBare s'.gens) s₁ := by
  have rv : Vals (ns.map V.int) vs := vals_ints hi
  have rl := hi.length
  let ob : Obj := { cls := .type "list", data := .seq vs.toArray }
  let tr : HO := .frz ob (.lst (ns.map V.int))
  let H : Hp := fun b => if b = a ∧ Γ.K.lookup a = none then some tr else if b ∈ Ts tabs then some (.tbl #[]) else none
  have inT : ∀ {b : Addr}, b ∈ Ts tabs → ∃ t ∈ tabs, t.T = b := fun h => List.mem_map.mp h
  have atT : ∀ {b : Addr}, b ∈ Ts tabs → s₁.heap.get? b = some { cls := .none, data := .fields #[] } := fun h => by
    obtain ⟨t, h1, rfl⟩ := inT h
    exact (hT t h1).1
  have nT : ∀ {b : Addr}, b ∈ Ts tabs → Γ.K.lookup b = none := fun h => by
    obtain ⟨t, h1, rfl⟩ := inT h
    exact (hT t h1).2.1
  have naT : ∀ {b : Addr}, b ∈ Ts tabs → a ≠ b := fun h z => by rw [z, atT h] at ha; cases ha
  have HT : ∀ {b : Addr}, b ∈ Ts tabs → H b = some (.tbl #[]) := fun {b} h => by
    show (if b = a ∧ Γ.K.lookup a = none then some tr else if b ∈ Ts tabs then some (HO.tbl #[]) else none) = _
    rw [if_neg (fun z => naT h z.1.symm), if_pos h]
  have Hin : ∀ b o, H b = some o → ((b = a ∧ Γ.K.lookup a = none) ∧ o = tr) ∨ (b ∈ Ts tabs ∧ o = .tbl #[]) := fun b o e => by
    have e' : (if b = a ∧ Γ.K.lookup a = none then some tr else if b ∈ Ts tabs then some (HO.tbl #[]) else none) = some o := e
    split at e'
    · exact .inl ⟨by assumption, (Option.some.inj e').symm⟩
    · split at e'
      · exact .inr ⟨by assumption, (Option.some.inj e').symm⟩
      · cases e'
  have free : ∀ b, ¬ (b = a ∧ Γ.K.lookup a = none) → b ∉ Ts tabs → H b = none := fun b c d => (if_neg c).trans (if_neg d)
  have hok : HOk P w H s₁.heap := fun b o e => by
    rcases Hin b o e with ⟨⟨rfl, _⟩, rfl⟩ | ⟨h, rfl⟩
    · exact ⟨ha, by rw [List.length_map]; exact hl, vs, _, rv, ha⟩
    · exact atT h
  let base := hidT s₁.heap H
  have keeps : ∀ {b : Addr} {o : Obj}, s₁.heap.get? b = some o → (∀ (u : Array Value) (n : Nat), o.data ≠ .seq u n) → o.cls ≠ .none → base.get? b = some o := fun {b o} e h1 h2 => hidT_get e (free b (fun z => by
    rw [z.1, ha] at e
    cases e
    exact h1 _ _ rfl) fun z => by
    rw [atT z] at e
    cases e
    exact h2 rfl)
  have dictIn : ∀ {b : Addr} {m : Str → Option Value}, s₁.heap.Ns b m → base.Ns b m := fun {b m} ⟨o, es, ep, e, d, r⟩ => by
    refine ⟨o, es, ep, hidT_get e (free b (fun z => ?_) fun z => ?_), d, r⟩
    · rw [z.1, ha] at e
      cases e
      cases d
    · rw [atT z] at e
      cases e
      cases d
  have kIn : Γ.K.In base := fun b o e => hidT_get (KX b o e) (free b (fun z => by
    rw [z.1, z.2] at e
    cases e) fun z => by
    rw [nT z] at e
    cases e)
  have gM : base.Ns mainGlobals mg := dictIn hns
  have md : Mod Γ.K mg base := ⟨kIn, gM, ⟨mb, dictIn hb, hbb⟩, let ⟨mc, h1, h2⟩ := hlim; ⟨mc, dictIn h1, h2⟩⟩
  have gT : ∀ {b : Addr}, b ∈ Ts tabs → mainGlobals ≠ b := fun h z => by
    obtain ⟨o, es, ep, e, d, _⟩ := hns
    rw [z, atT h] at e
    cases e
    cases d
  have TB : ∀ t ∈ tabs, LamX.TabB base mg t.c t.T := fun t ht => by
    have htT : t.T ∈ Ts tabs := List.mem_map.mpr ⟨t, ht, rfl⟩
    refine ⟨?_, ?_, gT htT⟩
    · obtain ⟨o, us, file, tf, flags, tg, inF, text, tt, e1, r1, r2, r⟩ := (hT t ht).2.2
      exact ⟨o, us, file, tf, flags, tg, inF, text, tt, keeps e1 (fun u n z => by rw [r2] at z; cases z) (fun z => by rw [r1] at z; cases z), r1, r2, r⟩
    · obtain ⟨bm, o, b1, b2, b3, b4, b5, b6⟩ := hbm
      refine ⟨bm, o, b1, b2, fun z => ?_, fun z => ?_, keeps b3 (fun u n z => by rw [b6] at z; cases z) (fun z => by rw [b4] at z; cases z), b4, b5, b6⟩
      · obtain ⟨o2, es, ep, e, d, _⟩ := hns
        rw [z, e] at b3
        cases b3
        rw [b6] at d
        cases d
      · rw [z, atT htT] at b3
        cases b3
        cases b6
  have e0 : Env0 P w Γ.K mg base callerA [] s₁ H :=
    { frames := rfl, mod := md, bs := fun b o e => of_hidT e, bsz := Nat.le_of_eq (hidT_size _ _), funs := trivial, frf := fun b hb => (nomatch hb), hok := hok, bare := .of_eq hg }
  obtain ⟨s', hd⟩ := hden
  let μ : Mu := fun n => (Ts tabs)[n]?
  have μin : ∀ {n : Nat} {b : Addr}, μ n = some b → b ∈ Ts tabs := fun {n b} z => List.mem_of_getElem? z
  have rs : RV Γ H μ (fun _ => False) (.sq (ns.map .int)) (.ref a) := by
    refine ⟨a, _, rfl, ?_, RVs.of_ints ns⟩
    cases hk : Γ.K.lookup a with
    | none => exact .inl ⟨.inr ⟨ob, if_pos ⟨rfl, hk⟩⟩, ⟨fun n z => naT (μin z) rfl, id⟩⟩
    | some o =>
      have e := KX a o hk
      rw [ha] at e
      cases e
      exact .inr ⟨_, vs.toArray, _, hk, rfl, rfl, rfl, by rw [List.size_toArray, rl]; exact hl, by simpa using rv⟩
  have rep : Rep Γ H μ (fun _ => False) (tabsOf 0 tabs) := ⟨fun n o e => by
    obtain ⟨t, h1, rfl⟩ := tabsOf_get e
    have h2 : t.T ∈ Ts tabs := List.mem_map.mpr ⟨t, List.mem_of_getElem? h1, rfl⟩
    refine ⟨t.T, ?_, id, ?_, #[], HT h2, trivial, fun pos cv z => by simp [codeAmong] at z⟩
    · show (Ts tabs)[n]? = some t.T
      unfold Ts
      rw [List.getElem?_map, h1]
      rfl
    · rw [Nat.zero_add]
      exact (hΓ n t h1).symm, fun n m b e1 e2 => by
      have h1 := (List.getElem?_eq_some_iff.mp e1)
      have h2 := (List.getElem?_eq_some_iff.mp e2)
      obtain ⟨l1, g1⟩ := h1
      obtain ⟨l2, g2⟩ := h2
      exact (List.getElem_inj nd).mp (g1.trans g2.symm), fun n b e => by
      obtain ⟨l1, _⟩ := List.getElem?_eq_some_iff.mp e
      rw [tabsOf_len]
      unfold Ts at l1
      rw [List.length_map] at l1
      exact l1, fun b z => z.elim⟩
  refine codeAny_mono ((F base kIn gM TB).run callerA [] s₁ H ⟨[.ref a], []⟩ [.ref a] [.ref a] (fun v _ => v = .bl true) (fun _ _ _ => False) hr rfl e0 (hbind s₁ (.ref a)) (.cons rfl .nil)
    ⟨rfl, μ, _, _, [.sq (ns.map .int)], rep, RVs.cons rs rfl, by rw [hd]; exact fun v H' μ' _ _ r => r⟩) fun r s2 h => ?_
  cases r with
  | error e =>
    obtain ⟨_, _, _, _, _, _, _, _, _, _, _, _, z⟩ := h
    exact z.elim
  | ok fl =>
    cases fl with
    | next => exact h.elim
    | brk => exact h.elim
    | cont => exact h.elim
    | ret u =>
      obtain ⟨v, H', os, bare, un, hok', rv', q'⟩ := h
      obtain rfl : v = .bl true := q'
      obtain rfl : u = Value.bool true := rv'
      have key : ∀ b o, b ∉ Ts tabs → s₁.heap.get? b = some o → s2.heap.get? b = some o := fun b o nb e => by
        cases qb : H b with
        | none => exact un.keep b o e qb (fun z => nomatch z) (fun z => nomatch z)
        | some u =>
          rcases Hin b u qb with ⟨⟨rfl, _⟩, rfl⟩ | ⟨z, _⟩
          · obtain ⟨e2, _⟩ := hok' b _ (un.frzs b ob _ qb)
            rw [ha] at e
            cases e
            exact e2
          · exact absurd z nb
      have grown : ∀ b, b ∈ Ts tabs → ∃ more, s2.heap.get? b = some { cls := .none, data := .fields (#[] ++ more) } := fun b h => by
        obtain ⟨more, z⟩ := un.tbls b #[] (HT h)
        exact ⟨more, hok' b _ z⟩
      refine ⟨rfl, ⟨fun b o e => ?_, fun b o e => ?_⟩, os, bare⟩
      · by_cases h : b ∈ Ts tabs
        · obtain ⟨t, ht, rfl⟩ := inT h
          obtain ⟨more, g⟩ := grown _ h
          rw [atT h] at e
          cases e
          exact .inr (.inl ⟨((hT t ht).2.2.tab (hT t ht).1).isCodeTable, rfl, #[], more, rfl, g⟩)
        · exact .inl (key b o h e)
      · by_cases h : b ∈ Ts tabs
        · obtain ⟨more, g⟩ := grown _ h
          exact ⟨_, g⟩
        · exact ⟨o, key b o h e⟩
/-- what the head leaves to be shown; ys: the defs that make lambdas -/
theorem walk_GTs {l : PySem.W.OpenLaw} {n k : Nat} {q : Program} {loose : List Str} {XP : (Str → Option Value) → Heap → Prop} {YP : World → Heap → Prop} {d : DefRec} {Kf : Params → PySem.W.Frag} {x : Str} {ys qs : List Str} (hn : l.most = some n) (hn2 : n ≤ sizeLine) (hdf : d.params.defaults = []) (hr : Room k callerA)
    (hY : ∀ (w : World) (h : Heap), YP w h → (Kf w.params).In h) (hy : ∀ y ∈ ys, ∃ dy, (recsOf q).find? (fun e => e.name == y) = some dy)
    (F : ∀ (w : World) (mg : Str → Option Value) (fa : Addr) (h : Heap), (Kf w.params).In h → h.Ns mainGlobals mg → mg d.name = some (.ref fa) →
      ∃ (Γ : Ct) (fd : FuncData) (den : Fn) (tabs : List Tb), Γ.K = Kf w.params ∧ (∀ (i : Nat) (t : Tb), tabs[i]? = some t → Γ.tb i = t.T) ∧ (Ts tabs).Nodup ∧ (∀ t ∈ tabs, ∃ y ∈ ys, PySem.W.tabIn Γ.K y = some (t.c, t.T) ∧ Γ.K.lookup t.T = none) ∧ tabs.map (·.q) = qs ∧ (∀ (s : Shared) (u : Value), BindsTo s fd ⟨[u], []⟩ [(x, u)]) ∧
        (∀ base : Heap, Γ.K.In base → base.Ns mainGlobals mg → (∀ t ∈ tabs, LamX.TabB base mg t.c t.T) → FnG l.prog w mg base Γ k fa fd [x] den) ∧
        ∀ ns : List Int, ns.length ≤ n → ∃ s', den [.sq (ns.map .int)] (tabsOf 0 (qs.map fun q => ⟨0, 0, q⟩)) = .ok (.bl true) s') :
    PySem.W.WalkO q loose XP YP l.row.toRowW d [] (fun f vs => PySem.call f vs) := by
  refine Att.attach_call hn hdf fun w s₀ s₁ mg mb fa o pm cd doc a vs ns G Y ho hd hcd hmg hobj hints hlen hg => ?_
  have KX := hY w _ Y
  obtain ⟨Γ, fd, den, tabs, hK, hΓ, nd, ht, hq, hb, hF, hden⟩ := F w mg fa _ KX G.T.g hmg
  have et : ∀ (i : Nat) (r : List Tb), tabsOf i ((r.map (·.q)).map fun q => ⟨0, 0, q⟩) = tabsOf i r := fun i r => by
    induction r generalizing i with
    | nil => rfl
    | cons t r ih => simp only [List.map_cons, tabsOf, ih]
  refine law_GTs (hK ▸ KX) G.T.g G.T.b G.T.builtins G.T.nolimit hg (fun t h => ?_) hΓ nd G.T.bmain hobj hints (Nat.le_trans hlen hn2) hr hF hb (by
    obtain ⟨s', e⟩ := hden ns hlen
    rw [← hq, et] at e
    exact ⟨s', e⟩)
  obtain ⟨y, hy1, h1, h2⟩ := ht t h
  obtain ⟨dy, hy2⟩ := hy y hy1
  obtain ⟨hC, hT⟩ := PySem.W.tab_of G.T (hK ▸ KX) hy2 h1
  exact ⟨hT, h2, hC⟩
end
end MP
set_option Elab.async false
set_option linter.all false
set_option maxRecDepth 100000
set_option maxHeartbeats 4000000
namespace MP
open PySem PySem.Spec PyProof.Rows L2
end MP
set_option Elab.async false
set_option linter.all false
set_option maxRecDepth 100000
set_option maxHeartbeats 400000
namespace MP
open PySem PySem.Spec PyProof.Rows L2
structure PlX (n k : Nat) (w : Dv) (d : PyData) : Prop where
  to : toX w = some d
  shw : d.showable = true
  deep : d.depth ≤ k
  len : d.shown.length + 2 ≤ 2000 * n
structure PlsX (n k : Nat) (ws : List Dv) (ds : List PyData) : Prop where
  to : toXs ws = some ds
  shw : PyData.showableAll ds = true
  deep : PyData.depthAll ds ≤ k
  len : piled (PyData.shownAll ds) ≤ 2000 * n
variable {n m k j : Nat} {w : Dv} {d : PyData} {ws us : List Dv} {ds es : List PyData} {i : Int} {ns : List Int} {s : Sto}
theorem PlX.mono (h : PlX n k w d) (hn : n ≤ m) (hk : k ≤ j) : PlX m j w d := ⟨h.to, h.shw, Nat.le_trans h.deep hk, Nat.le_trans h.len (Nat.mul_le_mul_left _ hn)⟩
theorem PlsX.mono (h : PlsX n k ws ds) (hn : n ≤ m) (hk : k ≤ j) : PlsX m j ws ds := ⟨h.to, h.shw, Nat.le_trans h.deep hk, Nat.le_trans h.len (Nat.mul_le_mul_left _ hn)⟩
end MP
set_option Elab.async false
set_option linter.all false
set_option maxRecDepth 100000
set_option maxHeartbeats 400000
namespace MP
open PySem PySem.Spec PyProof.Rows L2
section
variable {s s1 s2 s3 : Sto} {ρ : Env} {f g : FE} {fa : FA} {lo hi : FO} {x w y : Dv} {ws us : List Dv} {a b : Option Int} {i j : Int} {k : Nat} {t : FT} {bb : Bool}
theorem sl_v {op : OS} (h : f ρ s = .ok x s1) (hl : lo ρ s1 = .ok a s2) (hh : hi ρ s2 = .ok b s3) (e : op s3 x a b = some w) : mSl op f lo hi ρ s = .ok w s3 := by
  rw [sl_ev, h, bind_ok, hl, bind_ok, hh, bind_ok, e, of_some]
theorem part_v (h : f ρ s = .ok (.int i) s1) : mPart f ρ s = .ok (some i) s1 := by rw [part_ev, h, bind_ok]
theorem cut_from : cutD ws (some (k : Int)) none = ws.drop k := by
  unfold cutD
  rw [HT.sIx_nat, HT.sIx_none]
  by_cases h : k ≤ ws.length
  · rw [Nat.min_eq_left h]
    exact List.take_of_length_le (by rw [List.length_drop]; omega)
  · rw [Nat.min_eq_right (by omega), List.drop_length, List.drop_of_length_le (by omega)]
    simp
theorem add_tup (h : ws.length + us.length ≤ 1000000) : addD s (.tup ws) (.tup us) = some (.tup (ws ++ us)) := by
  show (if ws.length + us.length ≤ lim then some (Dv.tup (ws ++ us)) else none) = _
  rw [if_pos (by unfold lim; omega)]
theorem add_lst (h : ws.length + us.length ≤ 1000000) : addD s (.lst ws) (.lst us) = some (.lst (ws ++ us)) := by
  show (if ws.length + us.length ≤ lim then some (Dv.lst (ws ++ us)) else none) = _
  rw [if_pos (by unfold lim; omega)]
theorem un_v {o : O1} (h : f ρ s = .ok x s1) (e : o s1 x = some w) : mUn o f ρ s = .ok w s1 := by rw [un_ev, h, bind_ok, e, of_some]
theorem if_vt {g' : FE} {r : R Dv} (h : t ρ s = .ok true s1) (h2 : f ρ s1 = r) : mIf t f g' ρ s = r := by rw [if_ev, h, bind_ok, if_pos rfl, h2]
theorem if_vf {g' : FE} {r : R Dv} (h : t ρ s = .ok false s1) (h2 : f ρ s1 = r) : mIf t g' f ρ s = r := by rw [if_ev, h, bind_ok, if_neg Bool.false_ne_true, h2]
theorem not_v (h : t ρ s = .ok bb s1) : mNot t ρ s = .ok (!bb) s1 := by rw [not_ev, h, bind_ok]
theorem ne_of_eq {x y : Dv} {c : Bool} (h : eqD s x y = some (.bl c)) : neD s x y = some (.bl (!c)) := by
  unfold neD
  unfold eqD at h
  cases q : eqB s x y with
  | none => rw [q] at h; cases h
  | some c' => rw [q] at h; cases h; rfl
end
end MP
namespace MP
open PySem PySem.Spec PyProof.Rows L2
mutual
theorem eqv_refl : ∀ d : PyData, d.hasDict = false → PyData.eqv d d = true
  | .none, _ => by simp only [PyData.eqv]
  | .bool b, _ => by simp only [PyData.eqv]; cases b <;> rfl
  | .int i, _ => by simp only [PyData.eqv]; exact beq_self_eq_true i
  | .str x, _ => by simp only [PyData.eqv]; exact beq_self_eq_true x
  | .list xs, h => by simp only [PyData.eqv]; exact eqvs_refl xs (by simpa only [PyData.hasDict] using h)
  | .tuple xs, h => by simp only [PyData.eqv]; exact eqvs_refl xs (by simpa only [PyData.hasDict] using h)
  | .dict _, h => by simp [PyData.hasDict] at h
theorem eqvs_refl : ∀ ds : List PyData, PyData.hasDictAll ds = false → PyData.eqvAll ds ds = true
  | [], _ => by simp only [PyData.eqvAll]
  | d :: ds, h => by
    simp only [PyData.hasDictAll, Bool.or_eq_false_iff] at h
    simp only [PyData.eqvAll, eqv_refl d h.1, eqvs_refl ds h.2]; rfl
end
section
variable {n m k j : Nat} {w v : Dv} {d e : PyData} {s : Sto} {ws us : List Dv}
theorem shaped_pl (h : Pl n k w d) (hk : k ≤ 64) : SeqAt.shaped d = true := by
  unfold SeqAt.shaped
  rw [h.lay, decide_eq_true (Nat.le_trans h.deep hk)]
  rfl
/-- == of two rows or lists -/
theorem eq_pl (hw : flat w = none) (ht : toD s w = toD0 w) (hv : toD s v = toD0 v) (h : Pl n k w d) (h2 : Pl m j v e) (hk : k ≤ 64) (hj : j ≤ 64) : eqD s w v = some (.bl (PyData.eqv d e)) := by
  unfold eqD eqB
  rw [hw]
  dsimp only
  rw [ht, hv, h.to, h2.to]
  dsimp only
  rw [if_pos ⟨shaped_pl h hk, shaped_pl h2 hj⟩]
  rfl
theorem eq_tt (h : Pl n k (.tup ws) d) (h2 : Pl m j (.tup us) e) (hk : k ≤ 64) (hj : j ≤ 64) : eqD s (.tup ws) (.tup us) = some (.bl (PyData.eqv d e)) := eq_pl rfl rfl rfl h h2 hk hj
theorem eq_ll (h : Pl n k (.lst ws) d) (h2 : Pl m j (.lst us) e) (hk : k ≤ 64) (hj : j ≤ 64) : eqD s (.lst ws) (.lst us) = some (.bl (PyData.eqv d e)) := eq_pl rfl rfl rfl h h2 hk hj
theorem eq_t_refl (h : Pl n k (.tup ws) d) (hk : k ≤ 64) : eqD s (.tup ws) (.tup ws) = some (.bl true) := by rw [eq_tt h h hk hk, eqv_refl d h.nod]
theorem eq_l_refl (h : Pl n k (.lst ws) d) (hk : k ≤ 64) : eqD s (.lst ws) (.lst ws) = some (.bl true) := by rw [eq_ll h h hk hk, eqv_refl d h.nod]
end
end MP
namespace MP
open PySem PySem.Spec PyProof.Rows L2
section
variable {n : Nat} {c c' : FS} {ρ ρ1 : Env} {s s1 : Sto} {r : R Dv} {w : Dv} {x : Ex}
theorem fin_nx (h : c ρ s = .nx ρ1 s1) (k : finC n (c' ρ1 s1) = r) : finC n (mSeq c c' ρ s) = r := by rw [seq_nx h rfl]; exact k
theorem fin_rtS (h : c ρ s = .rt w s1) (k : finC n (.rt w s1) = r) : finC n (mSeq c c' ρ s) = r := by rw [seq_rt h]; exact k
end
end MP
namespace MP
open PySem PySem.Spec PyProof.Rows L2
section
variable {t u : FT} {ρ : Env} {s s1 : Sto} {r : R Bool}
theorem or_t (h : t ρ s = .ok true s1) : mOr t u ρ s = .ok true s1 := by unfold mOr; rw [h, bind_ok]; exact if_pos rfl
theorem or_f (h : t ρ s = .ok false s1) (h2 : u ρ s1 = r) : mOr t u ρ s = r := by unfold mOr; rw [h, bind_ok, if_neg Bool.false_ne_true, h2]
theorem not_vt (h : t ρ s = .ok true s1) : mNot t ρ s = .ok false s1 := not_v h
theorem not_vf (h : t ρ s = .ok false s1) : mNot t ρ s = .ok true s1 := not_v h
end
end MP
namespace MP
open PySem PySem.Spec PyProof.Rows L2
section
variable {ρ : Env} {s s1 s2 : Sto} {f : FE} {fa : FA} {x : Ex} {d : Fn} {o : ON} {g : FG} {w : Dv} {k : Nat}
theorem expr_v (h : f ρ s = .ok w s1) : mExpr f ρ s = .nx ρ s1 := by unfold mExpr; rw [h]; rfl
theorem asg_gv {ρ' : Env} (h : f ρ s = .ok w s1) (h2 : g w ρ s1 = some ρ') : mAsg f g ρ s = .nx ρ' s1 := by unfold mAsg; rw [h, then_ok, h2]
end
end MP
set_option Elab.async false
set_option linter.all false
set_option maxRecDepth 100000
set_option maxHeartbeats 4000000
namespace MP
open PySem PySem.Spec PyProof.Rows L2
end MP
set_option Elab.async false
set_option linter.all false
set_option maxRecDepth 100000
set_option maxHeartbeats 4000000
namespace MP
open PySem PySem.Spec PyProof.Rows L2
end MP
set_option Elab.async false
set_option linter.all false
set_option maxRecDepth 100000
set_option maxHeartbeats 4000000
namespace MP
open PySem PySem.Spec PyProof.Rows L2
end MP
namespace MP
open PySem PySem.Spec PyProof.Rows L2
end MP
set_option Elab.async false
set_option linter.all false
set_option maxRecDepth 100000
set_option maxHeartbeats 400000
namespace MP
open PySem PySem.Spec PyProof.Rows L2 TL PySem.NumText
end MP
set_option Elab.async false
set_option linter.all false
set_option maxRecDepth 100000
set_option maxHeartbeats 400000
namespace MP
open PySem PySem.Spec PyProof.Rows L2
end MP
set_option Elab.async false
set_option linter.all false
set_option maxRecDepth 100000
set_option maxHeartbeats 4000000
namespace MP
open PySem PySem.Spec PyProof.Rows L2
open Sem (wp)
end MP
set_option Elab.async false
set_option linter.all false
set_option maxRecDepth 100000
set_option maxHeartbeats 4000000
namespace MP
open PySem PySem.Spec PyProof.Rows L2
section
variable {X : Cx} {Γ : Ct} {W : WX}
theorem RX.weak {H : Hp} {μ : Mu} {Z Z' : Zs} {x : Ex} {c : Value} {d : Option Addr} (h : ∀ a, Z a → Z' a) (r : RX Γ H μ Z' x c d) : RX Γ H μ Z x c d := by
  rcases r with r | ⟨h0, h1, dd, v, h2, h3, h4, h5⟩
  · exact .inl r
  · exact .inr ⟨h0, h1, dd, v, h2, h3, h4.weak h, RV.weak h x.w h5⟩
end
end MP
set_option Elab.async false
set_option linter.all false
set_option maxRecDepth 100000
set_option maxHeartbeats 400000
namespace MP
open PySem PySem.Spec PyProof.Rows L2 TL PySem.NumText
structure Tx (n : Nat) (x : Str) : Prop where
  low : ∀ c ∈ tl x, c < 128
  len : x.length ≤ n
theorem Tx.mono {n m : Nat} {x : Str} (h : Tx n x) (k : n ≤ m) : Tx m x := ⟨h.low, Nat.le_trans h.len k⟩
end MP
set_option Elab.async false
set_option linter.all false
set_option maxRecDepth 100000
set_option maxHeartbeats 4000000
namespace MP.Raw
open PySem Builtin Builtin.ObjectAttr
end MP.Raw
namespace MP
open PySem PySem.Spec PyProof.Rows L2
end MP
set_option Elab.async false
set_option linter.all false
set_option maxRecDepth 100000
set_option maxHeartbeats 4000000
namespace MP
open PySem PySem.Spec PyProof.Rows L2
end MP
set_option Elab.async false
set_option linter.all false
set_option maxRecDepth 100000
set_option maxHeartbeats 4000000
namespace MP
open PySem PySem.Spec PyProof.Rows L2
end MP
set_option Elab.async false
set_option linter.all false
set_option maxRecDepth 100000
set_option maxHeartbeats 4000000
namespace MP
open PySem PySem.Spec PyProof.Rows L2
end MP
namespace MP
open PySem PySem.Spec PyProof.Rows L2
end MP
set_option Elab.async false
set_option linter.all false
set_option maxRecDepth 100000
set_option maxHeartbeats 4000000
namespace MP.Raw
open PySem
end MP.Raw
set_option Elab.async false
set_option linter.all false
set_option maxRecDepth 100000
set_option maxHeartbeats 4000000
namespace MP.Raw
open PySem
end MP.Raw
set_option Elab.async false
set_option linter.all false
set_option maxRecDepth 100000
set_option maxHeartbeats 4000000
namespace MP.Raw
open PySem
end MP.Raw
namespace MP
open PySem PySem.Spec PyProof.Rows L2
end MP
set_option Elab.async false
set_option linter.all false
set_option maxRecDepth 100000
set_option maxHeartbeats 4000000
namespace MP
open PySem PySem.Spec PyProof.Rows L2 MP.Raw
end MP
set_option Elab.async false
set_option linter.all false
set_option maxRecDepth 100000
set_option maxHeartbeats 4000000
namespace MP
open PySem PySem.Spec PyProof.Rows L2
section
variable {X : Cx} {pins : List (Addr × Obj)} {σ : L2.St} {H : Hp} {s : Shared}
abbrev Fzn (o : Obj) : HO := .frz o (.own 0)
end
/-- a lambda, as it is written -/
structure LamW where
  params : Arguments
  body : Expr
  scope : Scope
/-- at f: that lambda, made by the def at hand -/
def LamAt (X : Cx) (L : LamW) (H : Hp) (μ : Mu) (Z : Zs) (f : Addr) : Prop := ∃ (c' : Addr) (dV doc ctv : Value) (tl : List (Addr × Obj)),
  H f = some (Fzn (lamObj (X.env.qual ++ "<lambda>") L.params L.body L.scope (cloFrom X.env.cells L.scope.names []) dV doc ((X.mg "__name__").getD .none) c' ctv)) ∧ Fz μ Z f ∧ H c' = some (LamX.CodeO c' (X.env.qual ++ "<lambda>")) ∧ Fz μ Z c' ∧
  (∀ p ∈ tl, H p.1 = some (Fzn p.2) ∧ Fz μ Z p.1) ∧
  ∀ s1 : Shared, (∀ p ∈ tl, s1.heap.get? p.1 = some p.2) → ∃ binds, BindsTo s1 (lamFd (X.env.qual ++ "<lambda>") L.params L.body L.scope (cloFrom X.env.cells L.scope.names []) dV doc ((X.mg "__name__").getD .none) c' ctv) ⟨[], []⟩ binds ∧ ∀ y ∈ binds, L.scope.names.lookup y.1 = some .local
theorem LamAt.mono {X : Cx} {L : LamW} {H H' : Hp} {μ μ' : Mu} {Z : Zs} {f : Addr} (e : Evo H μ H' μ') (h : LamAt X L H μ Z f) : LamAt X L H' μ' Z f := by
  obtain ⟨c', dV, doc, ctv, tl, h1, h2, h3, h4, h5, h6⟩ := h
  have al : ∀ {a : Addr} {o : HO}, H a = some o → H a ≠ none := fun q z => by rw [q] at z; cases z
  exact ⟨c', dV, doc, ctv, tl, e.keep _ _ h1 h2.1, e.fz (al h1) h2, e.keep _ _ h3 h4.1, e.fz (al h3) h4, fun p hp => ⟨e.keep _ _ (h5 p hp).1 (h5 p hp).2.1, e.fz (al (h5 p hp).1) (h5 p hp).2⟩, h6⟩
end MP
set_option Elab.async false
set_option linter.all false
set_option maxRecDepth 100000
set_option maxHeartbeats 4000000
namespace MP
open PySem PySem.Spec PyProof.Rows L2
end MP
namespace MP
open PySem PySem.Spec PyProof.Rows L2
theorem me_cal0 {X : Cx} {Γ : Ct} {W : WX} {k : Nat} {den : Fn} {x : Str} {p pos : Pos} (C : Cal X.prog X.w X.mg X.base Γ k x [] den) (hK : Γ.K = X.K) (hr : Room k X.A) (hg : X.A.guards = some []) (tk : Takes X W) (hgl : Gl X x) (hdb : (x == ("__debug__" : Str)) = false := by decide) :
    ME X Γ W (.Call (.Name x p) [] [] pos) (mCall den mNil) := by
  obtain ⟨f, fd, F, hm, hk, hb⟩ := C
  refine ⟨fun pins s σ H Q I ⟨μ, Z, ρ, s0, hE, hR, q⟩ => ?_⟩
  refine wpAny_Call_Name_kw (ld_glob I hgl hm ?_ hdb)
  exact PySem.W.callWith_K0 I.kIn (hK ▸ hk) (run_G (us := []) (vs := []) (ds := []) (dvs := []) F hK hr hg (hK ▸ hb) .nil tk I .nil ⟨rfl, μ, Z, s0, [], hR, rfl, post_call q⟩)
end MP
set_option Elab.async false
set_option linter.all false
set_option maxRecDepth 100000
set_option maxHeartbeats 4000000
namespace MP
open PySem PySem.Spec PyProof.Rows L2
end MP
namespace MP
open PySem PySem.Spec PyProof.Rows L2
end MP
set_option Elab.async false
set_option linter.all false
set_option maxRecDepth 100000
set_option maxHeartbeats 4000000
namespace MP
open PySem PySem.Spec PyProof.Rows L2
end MP
set_option Elab.async false
set_option linter.all false
set_option maxRecDepth 100000
set_option maxHeartbeats 4000000
namespace MP
open PySem PySem.Spec PyProof.Rows L2
section
variable {X : Cx} {Γ : Ct} {W : WX} {c k n : Nat} {g : Addr} {m : Str} {ps ks : List Str} {den : Fn} {o e : Expr} {es : List Expr} {fo f : FE} {fa : FA} {pos apos p : Pos} {kws : List Keyword} {nm : Option Str} {kpos : Pos}
theorem Binds.at {K : PySem.W.Frag} {fd : FuncData} {s : Shared} {us : List Value} (hb : Binds K fd ps []) (hk : K.In s.heap) (hl : us.length = ps.length) : BindsTo s fd ⟨us, []⟩ (ps.zip us) := by
  have := hb s us hk (by rw [List.append_nil]; exact hl)
  rwa [List.append_nil] at this
end
end MP
set_option Elab.async false
set_option linter.all false
set_option maxRecDepth 100000
set_option maxHeartbeats 4000000
namespace MP
open PySem PySem.Spec PyProof.Rows L2
end MP
set_option Elab.async false
set_option linter.all false
set_option maxRecDepth 100000
set_option maxHeartbeats 4000000
namespace MP
open PySem PySem.Spec PyProof.Rows L2
end MP
set_option Elab.async false
set_option linter.all false
set_option maxRecDepth 100000
set_option maxHeartbeats 4000000
namespace MP
open PySem PySem.Spec PyProof.Rows L2
section
variable {X : Cx} {Γ : Ct} {W : WX} {k kk : Nat} {f : Addr} {fd : FuncData} {ps : List Str} {den : (Sto → R Dv) → Fn} {x a : Str} {i : Nat} {p p1 p2 pos lpos : Pos} {es : List Expr} {fa : FA}
theorem rvs_rg {H : Hp} {μ : Mu} {Z : Zs} {a b : Int} : RVs Γ H μ Z (rng a (b - a).toNat) (rgV a b) := by
  have : rng a (b - a).toNat = ((List.range (b - a).toNat).map fun i : Nat => a + (i : Int)).map .int := by rw [List.map_map]; rfl
  have h2 : rgV a b = ((List.range (b - a).toNat).map fun i : Nat => a + (i : Int)).map .int := by unfold rgV; rw [List.map_map]; rfl
  rw [this, h2]
  exact RVs.of_ints _
def rgOkB (a b : Int) : Bool := decide (-(2 ^ 62) ≤ a ∧ a < 2 ^ 62 ∧ -(2 ^ 62) ≤ b ∧ b < 2 ^ 62 ∧ (b - a).toNat ≤ 1000000)
theorem rgOkB_ok {a b : Int} (h : rgOkB a b = true) : RgOk a b := by
  have := of_decide_eq_true h
  exact ⟨this.1, this.2.1, this.2.2.1, this.2.2.2.1, Nat.le_trans this.2.2.2.2 (by decide)⟩
def mListRg1 (f : FE) : FE := fun ρ s => (f ρ s).bind fun x s1 => match x with
  | .int j => if rgOkB 0 j = true then .ok (.lst (rng 0 (j - 0).toNat)) s1 else .no
  | _ => .no
theorem me_listRg1 {e : Expr} {g : FE} {p p2 pos pos2 : Pos} (hc : X.calm = true) (hgl : Gl X "list") (hm : X.mg "list" = none) (hg2 : Gl X "range") (hm2 : X.mg "range" = none) (ha : ME X Γ W e g)
    (na : starEach [e] X.env = (false, eval e X.env) :: starEach [] X.env := by rfl)
    (nb : starEach [.Call (.Name "range" p2) [e] [] pos2] X.env = (false, eval (.Call (.Name "range" p2) [e] [] pos2) X.env) :: starEach [] X.env := by rfl) :
    ME X Γ W (.Call (.Name "list" p) [.Call (.Name "range" p2) [e] [] pos2] [] pos) (mListRg1 g) :=
  PE.imp (pe_listRg hc hgl hm (prg_1 hg2 hm2 ha na) nb) fun σ H Q ⟨μ, Z, ρ, s, hE, hR, q⟩ => by
    refine eE hE hR q fun x s1 v H1 μ1 e1 E1 R1 r1 q1 => ?_
    cases x with
    | int j =>
      replace q1 : PostE Γ W H1 μ1 Z σ Q (if rgOkB 0 j = true then .ok (.lst (rng 0 (j - 0).toNat)) s1 else .no) := q1
      split at q1
      · rename_i hj
        refine ⟨j, r1, rgOkB_ok hj, fun t ht => ?_⟩
        exact q1 _ _ μ1 (Evo.laid ht) (R1.laid ht) (new_lst R1 ht rvs_rg)
      · exact q1.elim
    | _ => exact q1.elim
end
end MP
set_option Elab.async false
set_option linter.all false
set_option maxRecDepth 100000
set_option maxHeartbeats 4000000
namespace MP
open PySem PySem.Spec PyProof.Rows L2
section
variable {prog : Program} {w : World} {A : Around} {E : Value → Shared → Prop} {s : Shared}
theorem sliceApplied_rev {sl : Addr} {vs : Value} {n : Nat} {Q : Int × Int × Nat → Shared → Prop} (hs : s.heap.IsSliceOf sl .none .none vs) (ps : IsPart vs (some (-1)))
    (h : Q ((n : Int) - 1, -1, n) s) : wpAny (model prog w) A (Builtin.Slice.sliceApplied (.ref sl) (pure (n : Int))) Q E s := by
  obtain ⟨os, hos, hcs, hds⟩ := id hs
  unfold Builtin.Slice.sliceApplied Builtin.Slice.sliceFields
  refine wpAny_bind (wpAny_bind (wpAny_field hos hds (x := .none) rfl (wpAny_bind (wpAny_field hos hds (x := .none) rfl (wpAny_bind (wpAny_field hos hds (x := vs) rfl (wpAny_pure ?_)))))))
  refine wpAny_bind (HT.slicePart_ ps ?_)
  show wpAny _ _ (if ((-1 : Int) == 0) = true then _ else _) _ _ s
  rw [if_neg (by decide)]
  refine wpAny_bind (HT.slicePart_ .none (wpAny_bind (HT.slicePart_ .none (wpAny_bind (wpAny_pure ?_)))))
  have e1 : Builtin.Slice.sliceAdjust none none (-1) (n : Int) = ((n : Int) - 1, -1) := by
    unfold Builtin.Slice.sliceAdjust
    rfl
  have e2 : Builtin.Slice.slicePlaces ((n : Int) - 1) (-1) (-1) = n := by
    unfold Builtin.Slice.slicePlaces
    rw [if_neg (by decide)]
    by_cases h0 : (n : Int) - 1 > -1
    · rw [if_pos h0, show (-(-1) : Int) = 1 from rfl, Int.ediv_one]
      omega
    · rw [if_neg h0]
      show 0 = n
      omega
  show wpAny _ _ (match Builtin.Slice.sliceAdjust none none (-1) (n : Int) with | (lo, hi) => pure (lo, (-1 : Int), Builtin.Slice.slicePlaces lo hi (-1))) _ _ s
  rw [e1]
  show wpAny _ _ (pure ((n : Int) - 1, (-1 : Int), Builtin.Slice.slicePlaces ((n : Int) - 1) (-1) (-1))) _ _ s
  rw [e2]
  exact wpAny_pure h
theorem pick_rev (xs : Array Value) : ((List.range xs.size).filterMap fun (m : Nat) => xs[(((xs.size : Int) - 1) + (m : Int) * (-1)).toNat]?).toArray = xs.toList.reverse.toArray := by
  have e : ((List.range xs.size).filterMap fun (m : Nat) => xs[(((xs.size : Int) - 1) + (m : Int) * (-1)).toNat]?) = ((List.range xs.size).map (fun k => xs.size - 1 - k)).filterMap (xs[·]?) := by
    rw [List.filterMap_map]
    congr 1
    funext m
    show xs[(((xs.size : Int) - 1) + (m : Int) * (-1)).toNat]? = xs[xs.size - 1 - m]?
    rw [show (((xs.size : Int) - 1) + (m : Int) * (-1)).toNat = xs.size - 1 - m by omega]
  rw [e, PySem.W.krv_range, List.filterMap_reverse, PySem.W.krv_all]
theorem getItem_tuple_rev {t sl : Addr} {items : Array Value} {vs : Value} {Q : Value → Shared → Prop} (ht : IsTup s.heap t items) (hs : s.heap.IsSliceOf sl .none .none vs) (ps : IsPart vs (some (-1)))
    (h : Q (.ref s.heap.objs.size) { s with heap := s.heap.push { cls := .type "tuple", data := .seq items.toList.reverse.toArray } })
    (hsz : items.size ≤ sizeLine) : wpAny (model prog w) A (getItem (.ref t) (.ref sl)) Q E s := by
  have htake : sizeOk (.seq items.toList.reverse.toArray) := by
    show items.toList.reverse.toArray.size ≤ sizeLine
    rw [List.size_toArray, List.length_reverse, Array.length_toList]
    omega
  obtain ⟨os, hos, hcs, hds⟩ := id hs
  have hTs : s.TypeIs (.ref sl) "slice" := ⟨os, hos, hcs⟩
  unfold getItem
  try with_reducible refine wpAny_holding ?_
  first | refine wpAny_bind (wpAny_pure ?_) | skip
  refine wpAny_bind (wpAny_sequenceKey ht.typeIs (by decide) ?_)
  refine wpAny_bind (wpAny_callSpecial?_slot (name := Str.ofString "__getitem__") ht.typeIs PyProof.Rows.slot_tuple_getitem
    (wpAny_call_entry PyProof.Rows.slot_tuple_getitem ht.typeIs entry_tuple_getitem ?_ (args_tuple_getitem _ _)))
  show wpAny _ _ (Builtin.Tuple.tupleItemsOf (.ref t) >>= _) _ _ s
  refine wpAny_bind (PyProof.Rows.tupleItemsOf_ ht ?_)
  refine wpAny_bind (wpAny_typeOf hTs ?_)
  rw [if_pos (by decide)]
  refine wpAny_bind (sliceApplied_rev hs ps ?_)
  have hno : ¬ ((((items.size : Int) - 1 == 0 && (-1 : Int) == 1 && items.size == items.size)) = true) := by
    rw [show ((-1 : Int) == 1) = false from rfl, Bool.and_false, Bool.false_and]
    exact Bool.false_ne_true
  show wpAny _ _ (if (((items.size : Int) - 1 == 0 && (-1 : Int) == 1 && items.size == items.size)) = true then _ else _) _ _ s
  rw [if_neg hno, pick_rev]
  first
    | exact wpAny_bind (m := Builtin.Tuple.tupleExact _) (wpAny_newObj_type (wpAny_pure ⟨_, rfl, wpAny_pure h⟩) htake)
    | exact wpAny_bind (m := Builtin.Tuple.tupleExact _) (wpAny_newObj_type (wpAny_bind (wpAny_pure (wpAny_pure ⟨_, rfl, wpAny_pure h⟩))) htake)
    | exact wpAny_bind (wpAny_bind (m := Builtin.Tuple.tupleExact _) (wpAny_newObj_type (wpAny_pure (wpAny_pure ⟨_, rfl, wpAny_pure h⟩)) htake))
    | exact wpAny_bind (wpAny_bind (m := Builtin.Tuple.tupleExact _) (wpAny_newObj_type (wpAny_pure ⟨_, rfl, wpAny_pure h⟩) htake))
end
section
variable {X : Cx} {e : Expr} {te : TE}
def tRevT (K : PySem.W.Frag) (te : TE) : TE := fun σ H Q => te σ H fun x H1 => ∃ a xs, x = .ref a ∧ SqT K H1 a xs ∧ ∀ p, H1 p = none → Q (.ref p) (upd H1 p (.tup xs.reverse))
theorem pe_revT {k : Nat} {p1 p2 p3 pos : Pos} (he : PE X e te) : PE X (.Subscript e (.Slice none none (some (.UnaryOp .USub (.Constant (.int 1) k p1) p2)) p3) pos) (tRevT X.K te) := by
  refine ⟨fun pins s σ H Q I h => ?_⟩
  refine Subscript_ (thn (he.run pins s σ H _ I h) fun v s1 ⟨x, H1, I1, r1, q1⟩ => ?_)
  obtain ⟨a, xs, ex, hx, q⟩ := q1
  subst ex
  cases r1
  have hst : PO X (some (.UnaryOp .USub (.Constant (.int 1) k p1) p2)) (tPart (tUn (rU fun i => .int (-i)) (tC (.int 1)))) := po_some (pe_un un_neg pe_int)
  refine wpAny_Slice ?_
  rw [evalPart_none]
  refine wpAny_pure (wpAny_pure ?_)
  refine thn (hst.run pins s1 σ H1 (fun o H4 => o = some (-1) ∧ H4 = H1) I1 ⟨1, rfl, -1, rfl, rfl, rfl⟩) fun vs s4 ⟨o, H4, I4, ps, eo, e4⟩ => ?_
  subst eo e4
  have I5 : Inv X pins σ H4 { s4 with heap := s4.heap.push { cls := .type "slice", data := .fields #[.none, .none, vs] } } := I4.kept (t' := s4.toks) fun b ob q => Heap.get?_push_of_some _ q
  obtain ⟨its, r, ht, hz⟩ := I5.tuple hx
  have hlen := r.length
  show wpAny (model X.prog X.w) X.A (subscriptTail e (.Slice none none (some (.UnaryOp .USub (.Constant (.int 1) k p1) p2)) p3) (.ref a) (.ref s4.heap.objs.size)) (EP X pins σ Q) X.xe { s4 with heap := s4.heap.push { cls := .type "slice", data := .fields #[.none, .none, vs] } }
  refine tail_any (ops := [.ref a, .ref s4.heap.objs.size]) ht.typeIs (PyProof.Rows.slot_tuple_getitem.lookup) ?_ (by with_unfolding_all rfl)
  refine getItem_tuple_rev ht (Heap.IsSliceOf.new _ .none .none vs) ps ?_ (by rw [List.size_toArray]; omega)
  refine ⟨.ref _, _, I5.laid (t' := s4.toks) (o := .tup xs.reverse) (fun b ob q => Heap.get?_push_of_some _ q) (Nat.le_refl _) ?_, rfl, q _ (I5.hok.fresh (Nat.le_refl _))⟩
  exact ⟨by rw [List.length_reverse]; exact hz, _, r.reverse, IsTup.new _ _⟩
end
section
variable {X : Cx} {Γ : Ct} {W : WX} {e a b : Expr} {f g : FE} {pos : Pos}
theorem RVs.rev {H : Hp} {μ : Mu} {Z : Zs} : ∀ {ws : List Dv} {xs : List V}, RVs Γ H μ Z ws xs → RVs Γ H μ Z ws.reverse xs.reverse
  | [], _, h => by rw [show _ = [] from h]; exact rfl
  | w :: ws, _, h => by
    obtain ⟨x, xs, rfl, h2, h3⟩ := h
    rw [List.reverse_cons, List.reverse_cons]
    exact RVs.append (RVs.rev h3) (RVs.cons h2 RVs.nil)
/-- e[::-1] -/
def revD (s : Sto) (x : Dv) : Option Dv := match lstOrSq s x with
  | some ws => some (.lst ws.reverse)
  | none => match x with
    | .tup ws => some (.tup ws.reverse)
    | _ => none
def mRev (f : FE) : FE := fun ρ s => (f ρ s).bind fun x s1 => R.of (revD s1 x) s1
theorem me_rev {k : Nat} {p1 p2 p3 : Pos} (hK : Γ.K = X.K) (he : ME X Γ W e f) : ME X Γ W (.Subscript e (.Slice none none (some (.UnaryOp .USub (.Constant (.int 1) k p1) p2)) p3) pos) (mRev f) :=
  PE.imp (PE.or (pe_revL he) (pe_revT he)) fun σ H Q ⟨μ, Z, ρ, s, hE, hR, q⟩ => by
    have key : (∃ μ Z ρ s, RE Γ H μ Z ρ σ ∧ Rep Γ H μ Z s ∧ PostE Γ W H μ Z σ Q ((f ρ s).bind fun x s1 => R.of ((lstOrSq s1 x).map fun ws => Dv.lst ws.reverse) s1)) ∨ (∃ μ Z ρ s, RE Γ H μ Z ρ σ ∧ Rep Γ H μ Z s ∧ PostE Γ W H μ Z σ Q ((f ρ s).bind fun x s1 => R.of (match x with | .tup ws => some (.tup ws.reverse) | _ => none) s1)) := by
      have q0 : PostE Γ W H μ Z σ Q ((f ρ s).bind fun x s1 => R.of (revD s1 x) s1) := q
      cases e1 : f ρ s with
      | no => rw [e1] at q0; exact q0.elim
      | er x s1 => rw [e1] at q0; exact .inl ⟨μ, Z, ρ, s, hE, hR, by rw [e1]; exact q0⟩
      | ok x s1 =>
        rw [e1, bind_ok] at q0
        cases e2 : lstOrSq s1 x with
        | some ws => exact .inl ⟨μ, Z, ρ, s, hE, hR, by rw [e1, bind_ok, e2]; unfold revD at q0; rw [e2] at q0; exact q0⟩
        | none => exact .inr ⟨μ, Z, ρ, s, hE, hR, by rw [e1, bind_ok]; unfold revD at q0; rw [e2] at q0; exact q0⟩
    rcases key with ⟨μ, Z, ρ, s, hE, hR, q⟩ | ⟨μ, Z, ρ, s, hE, hR, q⟩
    · refine .inl (eE hE hR q fun x s1 u H1 μ1 e1 hE1 R1 r1 q1 => ?_)
      cases e2 : lstOrSq s1 x with
      | none => rw [e2] at q1; exact q1.elim
      | some ws =>
        rw [e2] at q1
        obtain ⟨p, xs, h1, h2, h3⟩ := lstOrSq_ok R1 r1 e2
        refine ⟨p, xs, h1, hK ▸ h2, fun t ht => ?_⟩
        obtain ⟨w, hw, k⟩ := ofE q1
        cases hw
        exact k _ _ (Evo.laid ht) (R1.laid ht) (new_lst R1 ht h3.rev)
    · refine .inr (eE hE hR q fun x s1 u H1 μ1 e1 hE1 R1 r1 q1 => ?_)
      cases x with
      | tup ws =>
        obtain ⟨p, xs, h1, h2, h3⟩ := r1
        refine ⟨p, xs, h1, hK ▸ h2.sq, fun t ht => ?_⟩
        obtain ⟨w, hw, k⟩ := ofE q1
        cases hw
        exact k _ _ (Evo.laid ht) (R1.laid ht) (new_tup R1 ht h3.rev)
      | _ => exact q1.elim
end
end MP
set_option Elab.async false
set_option linter.all false
set_option maxRecDepth 100000
set_option maxHeartbeats 4000000
namespace MP
open PySem PySem.Spec PyProof.Rows L2
end MP
set_option Elab.async false
set_option linter.all false
set_option maxRecDepth 100000
set_option maxHeartbeats 4000000
namespace MP
open PySem PySem.Spec PyProof.Rows L2
section
variable {X : Cx} {Γ : Ct} {W : WX}
def minO (d : Int) : List Int → Int
  | [] => d
  | n :: ns => ns.foldl min n
theorem foldl_min_le : ∀ (ns : List Int) (n : Int), ns.foldl min n ≤ n ∧ ∀ m ∈ ns, ns.foldl min n ≤ m
  | [], n => ⟨Int.le_refl _, fun _ h => nomatch h⟩
  | a :: ns, n => by
    obtain ⟨h1, h2⟩ := foldl_min_le ns (min n a)
    refine ⟨Int.le_trans h1 (by omega : min n a ≤ n), fun m hm => ?_⟩
    rcases List.mem_cons.mp hm with rfl | hm
    · exact Int.le_trans h1 (by omega : min n m ≤ m)
    · exact h2 m hm
theorem foldl_min_mem : ∀ (ns : List Int) (n : Int), ns.foldl min n ∈ n :: ns
  | [], n => List.mem_cons_self
  | a :: ns, n => by
    have := foldl_min_mem ns (min n a)
    show ns.foldl min (min n a) ∈ _
    rcases List.mem_cons.mp this with h | h
    · rw [h]
      by_cases q : a ≤ n
      · rw [show min n a = a by omega]; exact List.mem_cons_of_mem _ List.mem_cons_self
      · rw [show min n a = n by omega]; exact List.mem_cons_self
    · exact List.mem_cons_of_mem _ (List.mem_cons_of_mem _ h)
theorem minO_uniq {d m : Int} {ns : List Int} (h : m ∈ ns) (h2 : ∀ y ∈ ns, m ≤ y) : m = minO d ns := by
  cases ns with
  | nil => cases h
  | cons a ns =>
    have h3 := h2 _ (foldl_min_mem ns a)
    obtain ⟨h4, h5⟩ := foldl_min_le ns a
    show m = ns.foldl min a
    rcases List.mem_cons.mp h with rfl | h
    · omega
    · have := h5 m h; omega
/-- min(x), some ints -/
def minLD : ON := fun s xs => match xs with
  | [x] => match lstOf s x with
    | some ws => match intsOf ws with
      | some (n :: ns) => some (.int (minO 0 (n :: ns)))
      | _ => none
    | none => none
  | _ => none
theorem sMinL (hK : Γ.K = X.K) : OpN Γ (rMin X.K) minLD := fun H μ Z s xs w vs Q hR rx e k => by
  rw [← hK]
  unfold minLD at e
  split at e
  · rename_i y
    split at e
    · rename_i ws q
      split at e
      · rename_i n ns q2
        cases e
        obtain ⟨v, rfl, r1⟩ := one rx
        obtain ⟨a, ys, rfl, h2, h3⟩ := lstOf_ok hR r1 q
        rw [intsOf_ok q2] at h3
        have h4 := h3.ints
        subst h4
        refine ⟨a, n :: ns, rfl, SqL.of h2, Nat.succ_pos _, fun m hm h => ?_⟩
        rw [minO_uniq (d := 0) hm h]
        exact k _ H .refl hR rfl
      · cases e
    · cases e
  · cases e
end
end MP
set_option Elab.async false
set_option linter.all false
set_option maxRecDepth 100000
set_option maxHeartbeats 4000000
namespace MP
open PySem PySem.Spec PyProof.Rows L2
end MP
set_option Elab.async false
set_option linter.all false
set_option maxRecDepth 100000
set_option maxHeartbeats 4000000
namespace MP
open PySem PySem.Spec PyProof.Rows L2
section
variable {X : Cx} {Γ : Ct} {W : WX}
def anyD (neg : Bool) (d : PyData) (ds : List PyData) : Bool := if neg = true then !(ds.any fun z => PyData.eqv z d) else ds.any fun z => PyData.eqv z d
def inT (neg : Bool) : O2 := fun s x y => match toD s x, toD s y with
  | some d, some (.tuple ds) => if SeqAt.shaped d = true ∧ SeqAt.shaped (.tuple ds) = true ∧ d.depth ≤ 60 then some (.bl (anyD neg d ds)) else none
  | _, _ => none
end
end MP
set_option Elab.async false
set_option linter.all false
set_option maxRecDepth 100000
set_option maxHeartbeats 4000000
namespace MP
open PySem PySem.Spec PyProof.Rows L2
section
variable {X : Cx} {Γ : Ct} {pins : List (Addr × Obj)} {σ : L2.St} {H : Hp} {s : Shared} {μ : Mu} {Z : Zs}
abbrev R3 (p : NestedKey × V × V) (q : NestedKey × Addr × Value) : Prop := p.1 = q.1 ∧ p.2.1 = .ref q.2.1 ∧ RelV p.2.2 q.2.2
end
end MP
set_option Elab.async false
set_option linter.all false
set_option maxRecDepth 100000
set_option maxHeartbeats 4000000
namespace MP
open PySem PySem.Spec PyProof.Rows L2
end MP
set_option Elab.async false
set_option linter.all false
set_option maxRecDepth 100000
set_option maxHeartbeats 4000000
namespace MP
open PySem PySem.Spec PyProof.Rows L2
end MP
set_option Elab.async false
set_option linter.all false
set_option maxRecDepth 100000
set_option maxHeartbeats 4000000
namespace MP
open PySem PySem.Spec PyProof.Rows L2
end MP
set_option Elab.async false
set_option linter.all false
set_option maxRecDepth 100000
set_option maxHeartbeats 4000000
namespace MPV
open PySem PySem.W MPZ
section
variable {prog : Program} {w : World} {A : Around} {E : Value → Shared → Prop} {s : Shared} {z TI TO T i1 i2 S : Addr} {f : Bool} {oT : Obj} {k n : Nat} {fp1 fp2 : List Addr} {P1 P2 : Nat → Value → Prop} {St1 St2 : Nat → Heap → Prop}
/-- the pairs, as new tuples above lo -/
structure Prs (P1 P2 : Nat → Value → Prop) (lo : Addr) (h : Heap) (as : List Addr) : Prop where
  rise : as.Pairwise (· < ·)
  over : ∀ a ∈ as, lo < a
  pair : ∀ (j : Nat) (a : Addr), as[j]? = some a → ∃ x y, P1 j x ∧ P2 j y ∧ IsTupOf2 h a x y
theorem Prs.keep {lo : Addr} {h g : Heap} {as : List Addr} (p : Prs P1 P2 lo h as) (hk : ∀ b u, lo < b → h.get? b = some u → g.get? b = some u) : Prs P1 P2 lo g as :=
  ⟨p.rise, p.over, fun j a q => let ⟨x, y, e1, e2, e3⟩ := p.pair j a q; ⟨x, y, e1, e2, hk a _ (p.over a (List.mem_of_getElem? q)) e3⟩⟩
end
end MPV
set_option Elab.async false
set_option linter.all false
set_option maxRecDepth 100000
set_option maxHeartbeats 4000000
namespace MP
open PySem PySem.Spec PyProof.Rows L2
end MP
set_option Elab.async false
set_option linter.all false
set_option maxRecDepth 100000
set_option maxHeartbeats 4000000
namespace MP
open PySem PySem.Spec PyProof.Rows L2
section
variable {X : Cx} {Γ : Ct} {W : WX}
/-- the truth of a tuple, of a list -/
def mTruth (f : FE) : FT := fun ρ s => (f ρ s).bind fun x s1 => match x with
  | .bl b => .ok b s1
  | .tup ws => .ok (!ws.isEmpty) s1
  | .lst ws => .ok (!ws.isEmpty) s1
  | _ => .no
theorem emp_len {Γ : Ct} {H : Hp} {μ : Mu} {Z : Zs} {ws : List Dv} {xs : List V} (r : RVs Γ H μ Z ws xs) : (!ws.isEmpty) = !xs.isEmpty := by
  have := r.len
  cases ws <;> cases xs <;> simp_all
theorem mt_truth {e : Expr} {f : FE} (hK : Γ.K = X.K) (ha : ME X Γ W e f) (he : ∀ whole, isTrue e X.env whole = (do let v ← whole; standAt e.pos; holding [v] (truthy v)) := by intro _; rfl) : MT X Γ W e (mTruth f) :=
  PT.imp (pt_truth ha he) fun σ H Q ⟨μ, Z, ρ, s, hE, hR, q⟩ => eT hE hR q fun x s1 v H1 μ1 e1 hE1 R1 r1 q1 => by
    cases x with
    | bl b => exact ⟨b, by rw [show v = .bl b from r1]; rfl, q1 H1 μ1 .refl R1⟩
    | tup ws =>
      obtain ⟨a, xs, rfl, h2, h3⟩ := r1
      exact ⟨_, .inr (.inl ⟨xs, hK ▸ h2.sq, rfl⟩), by rw [← emp_len h3]; exact q1 H1 μ1 .refl R1⟩
    | lst ws =>
      obtain ⟨a, xs, rfl, h2, h3, h4⟩ := r1
      exact ⟨_, .inl ⟨xs, .inl (.inl h2), rfl⟩, by rw [← emp_len h4]; exact q1 H1 μ1 .refl R1⟩
    | _ => exact q1.elim
end
end MP
set_option Elab.async false
set_option linter.all false
set_option maxRecDepth 100000
set_option maxHeartbeats 4000000
namespace MP
open PySem PySem.Spec PyProof.Rows L2
/-- a new set -/
abbrev set0 (w : World) : Obj := { cls := .type "set", dict := none, data := .set #[] 0 (.fresh 0 0 (!w.params.followText "set-order")) }
end MP
set_option Elab.async false
set_option linter.all false
set_option maxRecDepth 100000
set_option maxHeartbeats 4000000
namespace MP
open PySem PySem.Spec PyProof.Rows L2
/-- such a lambda on its way -/
structure Thk1 (P : Program) (w : World) (Γ : Ct) (mg : Str → Option Value) (base : Heap) (kk : Nat) (outer : List PySem.Env) (s0 : Shared) (H0 : Hp) (f c' : Addr) (q : Str) (ws : List Dv) (vs : List V) (g : Dv → Sto → R Dv) : Prop where
  fn : ∀ (s1 : Shared) (HZ : Hp), Un (frs outer) [] H0 HZ s0.heap s1.heap → PySem.W.FnAt f s1.heap
  run : ∀ (A : Around) (outer1 : List PySem.Env) (s1 : Shared) (HZ : Hp) (Q : VK) (E : XK) (μ : Mu) (Z : Zs) (st : Sto) (wd : Dv) (v : V) (u : Value), Room kk A → A.guards = some [] → Env0 P w Γ.K mg base A outer1 s1 HZ → Un (frs outer) [] H0 HZ s0.heap s1.heap →
    HZ c' = some (LamX.CodeO c' q) → RVs Γ HZ μ Z ws vs → Rep Γ HZ μ Z st → L2.RelV v u → RV Γ HZ μ Z wd v → PostE Γ (fun c d _ H => E c d H) HZ μ Z [] Q (g wd st) → codeAny (model P w) A (.call (.ref f) ⟨[u], []⟩) (CR (L2.CX P w) outer1 P w HZ s1 Q E) s1
theorem Thk1.deeper {P : Program} {w : World} {Γ : Ct} {mg : Str → Option Value} {base : Heap} {kk : Nat} {outer : List PySem.Env} {s0 s' : Shared} {H0 H' : Hp} {f c' : Addr} {q : Str} {ws : List Dv} {vs : List V} {g : Dv → Sto → R Dv} {env : PySem.Env} {L : Addr}
    (T : Thk1 P w Γ mg base kk outer s0 H0 f c' q ws vs g) (hf : env.frame = some L) (hL : s0.heap.objs.size ≤ L) (u : Un (frs outer) [] H0 H' s0.heap s'.heap) : Thk1 P w Γ mg base kk (env :: outer) s' H' f c' q ws vs g := by
  have e : frs (env :: outer) = L :: frs outer := by unfold frs; rw [List.filterMap_cons, hf]
  exact ⟨fun s1 HZ v => T.fn s1 HZ (un_comp u (e ▸ v) hL), fun A outer1 s1 HZ Q E μ Z st wd x y h1 h2 h3 v => T.run A outer1 s1 HZ Q E μ Z st wd x y h1 h2 h3 (un_comp u (e ▸ v) hL)⟩
end MP
set_option Elab.async false
set_option linter.all false
set_option maxRecDepth 100000
set_option maxHeartbeats 4000000
namespace MP
open PySem PySem.Spec PyProof.Rows L2
end MP
set_option Elab.async false
set_option linter.all false
set_option maxRecDepth 100000
set_option maxHeartbeats 4000000
namespace MP
open PySem PySem.Spec PyProof.Rows L2
end MP
set_option Elab.async false
set_option linter.all false
set_option maxRecDepth 100000
set_option maxHeartbeats 4000000
namespace MP
open PySem PySem.Spec PyProof.Rows L2
end MP
set_option Elab.async false
set_option linter.all false
set_option maxRecDepth 100000
set_option maxHeartbeats 4000000
namespace MP
open PySem PySem.Spec PyProof.Rows L2
open PyProof.Rows.KTD (TabOf datumAt inKeys isSome_datumAt)
/-- R, kept by a heap that keeps -/
def TabAt (Γ : Ct) (h : Heap) (a : Addr) (D : List (Str × Nat)) : Prop := TabOf (fun j v => v = .ref (Γ.cls j)) h a D
section
variable {prog : Program} {w : World} {A : Around} {E : Value → Shared → Prop} {s : Shared} {a : Addr} {D : List (Str × Nat)} {k : Str} {tk : Tok} {Γ : Ct}
theorem TabAt.keep {h h' : Heap} (T : TabAt Γ h a D) (hk : ∀ b o, h.get? b = some o → h'.get? b = some o) : TabAt Γ h' a D := KTD.TabOf.keep T hk fun _ _ x => x
theorem TabAt.typeIs (T : TabAt Γ s.heap a D) : s.TypeIs (.ref a) "dict" := let ⟨_, o, _, _, ho, hc, _⟩ := T; ⟨o, ho, hc.1⟩
end
end MP
set_option Elab.async false
set_option linter.all false
set_option maxRecDepth 100000
set_option maxHeartbeats 4000000
namespace MP
open PySem PySem.Spec PyProof.Rows L2
end MP
set_option Elab.async false
set_option linter.all false
set_option maxRecDepth 100000
set_option maxHeartbeats 4000000
namespace MP
open PySem PySem.Spec PyProof.Rows L2
end MP
set_option Elab.async false
set_option linter.all false
set_option maxRecDepth 100000
set_option maxHeartbeats 4000000
namespace MP
open PySem PySem.Spec PyProof.Rows L2
end MP
set_option Elab.async false
set_option linter.all false
set_option maxRecDepth 100000
set_option maxHeartbeats 4000000
namespace MP
open PySem PySem.Spec PyProof.Rows L2
end MP
set_option Elab.async false
set_option linter.all false
set_option maxRecDepth 100000
set_option maxHeartbeats 4000000
namespace MP
open PySem PySem.Spec PyProof.Rows L2
/-- what is known of the classes js -/
structure XcJ (js : List Nat) (Γ : Ct) : Prop where
  is : ∀ c, c ∈ js → ClsF Γ.K (Γ.cls c)
  sub : ∀ c, c ∈ js → ∀ j, j ∈ js → PySem.W.subIn Γ.K (.ref (Γ.cls c)) (.ref (Γ.cls j)) = some (under c j)
  lt : ∀ c, c ∈ js → c < 9
theorem under_self (j : Nat) : under j j = true := by unfold under; simp
theorem XcJ.own {js : List Nat} {Γ : Ct} (T : XcJ js Γ) (c j : Nat) (hc : c ∈ js) (hj : j ∈ js) : PySem.W.kitOne Γ.K (.ref (Γ.cls c)) (.ref (Γ.cls j)) = some (under c j) :=
  kitOne_of (T.is j hj).is (T.is j hj).ty ((T.sub j hj j hj).trans (by rw [under_self])) (T.sub c hc j hj)
theorem XcJ.one {js : List Nat} {Γ : Ct} (T : XcJ js Γ) (c j : Nat) (hc : c ∈ js) (hj : j ∈ js) : PySem.W.exmOne Γ.K (.ref (Γ.cls c)) (.ref (Γ.cls j)) = some (under c j) := by
  unfold PySem.W.exmOne
  rw [(T.is j hj).e.hs]
  rw [if_pos (by rfl)]
  exact kitCls_of (T.is j hj).is (T.is j hj).ty (T.sub c hc j hj)
theorem XcJ.any {js : List Nat} {Γ : Ct} (T : XcJ js Γ) {a b : Nat} (ha : a ∈ js) (hb : b ∈ js) (c : Nat) (hc : c ∈ js) : PySem.W.exmAny Γ.K (.ref (Γ.cls c)) [.ref (Γ.cls a), .ref (Γ.cls b)] = some (under c a || (under c b || false)) :=
  exmAny_of (T.is a ha).is (T.is a ha).ty (T.is a ha).e.hs (T.is b hb).is (T.is b hb).ty (T.is b hb).e.hs (T.sub c hc a ha) (T.sub c hc b hb)
end MP
set_option Elab.async false
set_option linter.all false
set_option maxRecDepth 100000
set_option maxHeartbeats 4000000
namespace MP
open PySem PySem.Spec PyProof.Rows L2
theorem turn3_0 (elt t0 i0 t1 i1 t2 i2 : Expr) (scope : Scope) (pos : Pos) (it acc : Value) (env : PySem.Env) :
    compTurn (.ListComp elt [⟨t0, i0, [], 0⟩, ⟨t1, i1, [], 0⟩, ⟨t2, i2, [], 0⟩] scope pos) 0 it acc env = (do
      standAt i0.pos
      match ← pyNext it with
      | none => pure (.done .next)
      | some v =>
        letOwnedTupleGo t0 it v
        assign t0 env v
        let mut ok := true
        for c in ([] : List Expr) do
          if ok then ok ← isTrue c env (eval c env)
        if ok then
          let x ← eval i1 env
          standAt i1.pos
          let x ← foldedSetIterable i1 env x
          let _ ← runOwn (.compStart (.ListComp elt [⟨t0, i0, [], 0⟩, ⟨t1, i1, [], 0⟩, ⟨t2, i2, [], 0⟩] scope pos) 1 (← holding [x] (pyIter x)) acc env) env
        again (.compLoop (.ListComp elt [⟨t0, i0, [], 0⟩, ⟨t1, i1, [], 0⟩, ⟨t2, i2, [], 0⟩] scope pos) 0 it acc env)) := by rfl
theorem turn3_1 (elt t0 i0 t1 i1 t2 i2 : Expr) (scope : Scope) (pos : Pos) (it acc : Value) (env : PySem.Env) :
    compTurn (.ListComp elt [⟨t0, i0, [], 0⟩, ⟨t1, i1, [], 0⟩, ⟨t2, i2, [], 0⟩] scope pos) 1 it acc env = (do
      standAt i1.pos
      match ← pyNext it with
      | none => pure (.done .next)
      | some v =>
        letOwnedTupleGo t1 it v
        assign t1 env v
        let mut ok := true
        for c in ([] : List Expr) do
          if ok then ok ← isTrue c env (eval c env)
        if ok then
          let x ← eval i2 env
          standAt i2.pos
          let x ← foldedSetIterable i2 env x
          let _ ← runOwn (.compStart (.ListComp elt [⟨t0, i0, [], 0⟩, ⟨t1, i1, [], 0⟩, ⟨t2, i2, [], 0⟩] scope pos) 2 (← holding [x] (pyIter x)) acc env) env
        again (.compLoop (.ListComp elt [⟨t0, i0, [], 0⟩, ⟨t1, i1, [], 0⟩, ⟨t2, i2, [], 0⟩] scope pos) 1 it acc env)) := by rfl
theorem turn3_2 (elt t0 i0 t1 i1 t2 i2 : Expr) (scope : Scope) (pos : Pos) (it acc : Value) (env : PySem.Env) :
    compTurn (.ListComp elt [⟨t0, i0, [], 0⟩, ⟨t1, i1, [], 0⟩, ⟨t2, i2, [], 0⟩] scope pos) 2 it acc env = (do
      standAt i2.pos
      match ← pyNext it with
      | none => pure (.done .next)
      | some v =>
        letOwnedTupleGo t2 it v
        assign t2 env v
        let mut ok := true
        for c in ([] : List Expr) do
          if ok then ok ← isTrue c env (eval c env)
        if ok then
          (do let _ ← call (.builtin "list.append") [acc, ← eval elt env])
        again (.compLoop (.ListComp elt [⟨t0, i0, [], 0⟩, ⟨t1, i1, [], 0⟩, ⟨t2, i2, [], 0⟩] scope pos) 2 it acc env)) := by rfl
section
variable {prog : Program} {w : World} {A : Around} {R : Result → Shared → Prop} {s : Shared} {elt t0 i0 t1 i1 t2 i2 : Expr} {scope : Scope} {pos : Pos} {it acc : Value} {env : PySem.Env}
theorem loop3_0 (hs : ∀ x, foldedSetIterable i1 env x = pure x) (I : Nat → Shared → Prop)
    (turn : ∀ n s, I n s → wpAny (model prog w) A (pyNext it) (fun r s₁ => match r with
      | none => R (.ok .next) s₁
      | some v => wpAny (model prog w) A (letOwnedTupleGo t0 it v) (fun _ s₁' => wpAny (model prog w) A (assign t0 env v) (fun _ s₂ =>
          wpAny (model prog w) A (eval i1 env) (fun x s₄ => wpAny (model prog w) A (pyIter x) (fun it1 s₅ =>
              codeAny (model prog w) A (.compStart (.ListComp elt [⟨t0, i0, [], 0⟩, ⟨t1, i1, [], 0⟩, ⟨t2, i2, [], 0⟩] scope pos) 1 it1 acc env) (fun r s' => match r with
                | .ok _ => ∃ m, m < n ∧ I m s'
                | .error _ => False) s₅) (notedBy (model prog w) A env fun e s' => R (.error e) s') s₄) (notedBy (model prog w) A env fun e s' => R (.error e) s') s₂) (notedBy (model prog w) A env fun e s' => R (.error e) s') s₁') (notedBy (model prog w) A env fun e s' => R (.error e) s') s₁) (notedBy (model prog w) A env fun e s' => R (.error e) s') s)
    (n : Nat) (h : I n s) :
    codeAny (model prog w) A (.compLoop (.ListComp elt [⟨t0, i0, [], 0⟩, ⟨t1, i1, [], 0⟩, ⟨t2, i2, [], 0⟩] scope pos) 0 it acc env) R s := by
  refine codeAny_loop rfl I (fun n s hI => ?_) n h
  show wpAny _ A ((compTurn (.ListComp elt [⟨t0, i0, [], 0⟩, ⟨t1, i1, [], 0⟩, ⟨t2, i2, [], 0⟩] scope pos) 0 it acc env).onRaise (fun x => do noteFrame x env; theTreesLotGoes x)) _ _ s
  refine wpAny_noted ?_
  rw [turn3_0]
  refine wpAny_bind (wpAny_standAt (wpAny_bind (wpAny_mono (turn n s hI) (fun r s₁ h₁ => ?_) fun _ _ h' => h')))
  cases r with
  | none => exact wpAny_pure h₁
  | some v =>
    refine wpAny_bind (wpAny_mono h₁ (fun _ s₁' h₁' => ?_) fun _ _ h' => h')
    refine wpAny_bind (wpAny_mono h₁' (fun _ s₂ h₂ => wpAny_bind (wpAny_pure ?_)) fun _ _ h' => h')
    refine wpAny_bind (wpAny_mono h₂ (fun x s₄ h₄ => ?_) fun _ _ h' => h')
    refine wpAny_bind (wpAny_standAt (wpAny_bind (wpAny_of_eq (hs x) (wpAny_bind (wpAny_holding (wpAny_mono h₄ (fun it1 s₅ h₅ => ?_) fun _ _ h' => h'))))))
    refine wpAny_bind (wpAny_runOwn ?_)
    rw [Around.mark_none]
    refine codeAny_mono h₅ fun r s' hr => ?_
    cases r with
    | ok f =>
      first
        | exact wpAny_pure ⟨rfl, hr⟩
        | exact wpAny_bind (wpAny_pure (wpAny_pure ⟨rfl, hr⟩))
    | error e => exact hr.elim
theorem loop3_1 (hs : ∀ x, foldedSetIterable i2 env x = pure x) (I : Nat → Shared → Prop)
    (turn : ∀ n s, I n s → wpAny (model prog w) A (pyNext it) (fun r s₁ => match r with
      | none => R (.ok .next) s₁
      | some v => wpAny (model prog w) A (letOwnedTupleGo t1 it v) (fun _ s₁' => wpAny (model prog w) A (assign t1 env v) (fun _ s₂ =>
          wpAny (model prog w) A (eval i2 env) (fun x s₄ => wpAny (model prog w) A (pyIter x) (fun it1 s₅ =>
              codeAny (model prog w) A (.compStart (.ListComp elt [⟨t0, i0, [], 0⟩, ⟨t1, i1, [], 0⟩, ⟨t2, i2, [], 0⟩] scope pos) 2 it1 acc env) (fun r s' => match r with
                | .ok _ => ∃ m, m < n ∧ I m s'
                | .error _ => False) s₅) (notedBy (model prog w) A env fun e s' => R (.error e) s') s₄) (notedBy (model prog w) A env fun e s' => R (.error e) s') s₂) (notedBy (model prog w) A env fun e s' => R (.error e) s') s₁') (notedBy (model prog w) A env fun e s' => R (.error e) s') s₁) (notedBy (model prog w) A env fun e s' => R (.error e) s') s)
    (n : Nat) (h : I n s) :
    codeAny (model prog w) A (.compLoop (.ListComp elt [⟨t0, i0, [], 0⟩, ⟨t1, i1, [], 0⟩, ⟨t2, i2, [], 0⟩] scope pos) 1 it acc env) R s := by
  refine codeAny_loop rfl I (fun n s hI => ?_) n h
  show wpAny _ A ((compTurn (.ListComp elt [⟨t0, i0, [], 0⟩, ⟨t1, i1, [], 0⟩, ⟨t2, i2, [], 0⟩] scope pos) 1 it acc env).onRaise (fun x => do noteFrame x env; theTreesLotGoes x)) _ _ s
  refine wpAny_noted ?_
  rw [turn3_1]
  refine wpAny_bind (wpAny_standAt (wpAny_bind (wpAny_mono (turn n s hI) (fun r s₁ h₁ => ?_) fun _ _ h' => h')))
  cases r with
  | none => exact wpAny_pure h₁
  | some v =>
    refine wpAny_bind (wpAny_mono h₁ (fun _ s₁' h₁' => ?_) fun _ _ h' => h')
    refine wpAny_bind (wpAny_mono h₁' (fun _ s₂ h₂ => wpAny_bind (wpAny_pure ?_)) fun _ _ h' => h')
    refine wpAny_bind (wpAny_mono h₂ (fun x s₄ h₄ => ?_) fun _ _ h' => h')
    refine wpAny_bind (wpAny_standAt (wpAny_bind (wpAny_of_eq (hs x) (wpAny_bind (wpAny_holding (wpAny_mono h₄ (fun it1 s₅ h₅ => ?_) fun _ _ h' => h'))))))
    refine wpAny_bind (wpAny_runOwn ?_)
    rw [Around.mark_none]
    refine codeAny_mono h₅ fun r s' hr => ?_
    cases r with
    | ok f =>
      first
        | exact wpAny_pure ⟨rfl, hr⟩
        | exact wpAny_bind (wpAny_pure (wpAny_pure ⟨rfl, hr⟩))
    | error e => exact hr.elim
theorem loop3_2 (I : Nat → Shared → Prop)
    (turn : ∀ n s, I n s → wpAny (model prog w) A (pyNext it) (fun r s₁ => match r with
      | none => R (.ok .next) s₁
      | some v => wpAny (model prog w) A (letOwnedTupleGo t2 it v) (fun _ s₁' => wpAny (model prog w) A (assign t2 env v) (fun _ s₂ =>
          wpAny (model prog w) A (eval elt env) (fun x s₄ =>
              wpAny (model prog w) A (call (.builtin "list.append") [acc, x]) (fun _ s₅ => ∃ m, m < n ∧ I m s₅) (notedBy (model prog w) A env fun e s' => R (.error e) s') s₄) (notedBy (model prog w) A env fun e s' => R (.error e) s') s₂) (notedBy (model prog w) A env fun e s' => R (.error e) s') s₁') (notedBy (model prog w) A env fun e s' => R (.error e) s') s₁) (notedBy (model prog w) A env fun e s' => R (.error e) s') s)
    (n : Nat) (h : I n s) :
    codeAny (model prog w) A (.compLoop (.ListComp elt [⟨t0, i0, [], 0⟩, ⟨t1, i1, [], 0⟩, ⟨t2, i2, [], 0⟩] scope pos) 2 it acc env) R s := by
  refine codeAny_loop rfl I (fun n s hI => ?_) n h
  show wpAny _ A ((compTurn (.ListComp elt [⟨t0, i0, [], 0⟩, ⟨t1, i1, [], 0⟩, ⟨t2, i2, [], 0⟩] scope pos) 2 it acc env).onRaise (fun x => do noteFrame x env; theTreesLotGoes x)) _ _ s
  refine wpAny_noted ?_
  rw [turn3_2]
  refine wpAny_bind (wpAny_standAt (wpAny_bind (wpAny_mono (turn n s hI) (fun r s₁ h₁ => ?_) fun _ _ h' => h')))
  cases r with
  | none => exact wpAny_pure h₁
  | some v =>
    refine wpAny_bind (wpAny_mono h₁ (fun _ s₁' h₁' => ?_) fun _ _ h' => h')
    refine wpAny_bind (wpAny_mono h₁' (fun _ s₂ h₂ => wpAny_bind (wpAny_pure ?_)) fun _ _ h' => h')
    exact wpAny_bind (wpAny_bind (wpAny_mono h₂ (fun x s₄ h₄ => wpAny_bind (wpAny_mono h₄ (fun _ s₅ h₅ => wpAny_pure (wpAny_pure ⟨rfl, h₅⟩)) fun _ _ h' => h')) fun _ _ h' => h'))
theorem start3_1 (h0 : codeAny (model prog w) A (.compLoop (.ListComp elt [⟨t0, i0, [], 0⟩, ⟨t1, i1, [], 0⟩, ⟨t2, i2, [], 0⟩] scope pos) 1 it acc env) R s)
    (h : wpAny (model prog w) A (pyIter it) (fun it' s' => codeAny (model prog w) A (.compLoop (.ListComp elt [⟨t0, i0, [], 0⟩, ⟨t1, i1, [], 0⟩, ⟨t2, i2, [], 0⟩] scope pos) 1 it' acc env) R s')
      (notedBy (model prog w) A env fun x s' => R (.error x) s') s) :
    codeAny (model prog w) A (.compStart (.ListComp elt [⟨t0, i0, [], 0⟩, ⟨t1, i1, [], 0⟩, ⟨t2, i2, [], 0⟩] scope pos) 1 it acc env) R s := by
  refine codeAny_of_tree ?_
  show wpAny _ _ ((compStart (.ListComp elt [⟨t0, i0, [], 0⟩, ⟨t1, i1, [], 0⟩, ⟨t2, i2, [], 0⟩] scope pos) 1 it acc env).onRaise (fun x => do noteFrame x env; standAt theWindowsPlace)) _ _ s
  refine wpAny_notedAt ?_
  unfold compStart
  show wpAny _ _ (ask >>= _) _ _ s
  refine wpAny_bind (wpAny_askSetting (wpAny_ite ?_))
  split
  · first
      | exact wpAny_bind (wpAny_pure (wpAny_pure (And.intro rfl h0)))
      | exact wpAny_pure (And.intro rfl h0)
  · first
      | exact wpAny_bind (wpAny_rule (wpAny_bind (wpAny_standAt (wpAny_bind (wpAny_mono h (fun it' s' h' => wpAny_pure (And.intro rfl h')) fun _ _ x => x)))))
      | (refine wpAny_bind (wpAny_rule ?_); show wpAny _ _ (standAt i1.pos >>= _) _ _ s; exact wpAny_bind (wpAny_standAt (wpAny_bind (wpAny_mono h (fun it' s' h' => wpAny_pure (And.intro rfl h')) fun _ _ x => x))))
theorem start3_2 (h0 : codeAny (model prog w) A (.compLoop (.ListComp elt [⟨t0, i0, [], 0⟩, ⟨t1, i1, [], 0⟩, ⟨t2, i2, [], 0⟩] scope pos) 2 it acc env) R s)
    (h : wpAny (model prog w) A (pyIter it) (fun it' s' => codeAny (model prog w) A (.compLoop (.ListComp elt [⟨t0, i0, [], 0⟩, ⟨t1, i1, [], 0⟩, ⟨t2, i2, [], 0⟩] scope pos) 2 it' acc env) R s')
      (notedBy (model prog w) A env fun x s' => R (.error x) s') s) :
    codeAny (model prog w) A (.compStart (.ListComp elt [⟨t0, i0, [], 0⟩, ⟨t1, i1, [], 0⟩, ⟨t2, i2, [], 0⟩] scope pos) 2 it acc env) R s := by
  refine codeAny_of_tree ?_
  show wpAny _ _ ((compStart (.ListComp elt [⟨t0, i0, [], 0⟩, ⟨t1, i1, [], 0⟩, ⟨t2, i2, [], 0⟩] scope pos) 2 it acc env).onRaise (fun x => do noteFrame x env; standAt theWindowsPlace)) _ _ s
  refine wpAny_notedAt ?_
  unfold compStart
  show wpAny _ _ (ask >>= _) _ _ s
  refine wpAny_bind (wpAny_askSetting (wpAny_ite ?_))
  split
  · first
      | exact wpAny_bind (wpAny_pure (wpAny_pure (And.intro rfl h0)))
      | exact wpAny_pure (And.intro rfl h0)
  · first
      | exact wpAny_bind (wpAny_rule (wpAny_bind (wpAny_standAt (wpAny_bind (wpAny_mono h (fun it' s' h' => wpAny_pure (And.intro rfl h')) fun _ _ x => x)))))
      | (refine wpAny_bind (wpAny_rule ?_); show wpAny _ _ (standAt i2.pos >>= _) _ _ s; exact wpAny_bind (wpAny_standAt (wpAny_bind (wpAny_mono h (fun it' s' h' => wpAny_pure (And.intro rfl h')) fun _ _ x => x))))
end
end MP
set_option Elab.async false
set_option linter.all false
set_option maxRecDepth 100000
set_option maxHeartbeats 4000000
namespace MP
open PySem PySem.Spec PyProof.Rows L2
/-- [elt for .. for .. for ..]: as tLc2, one source more -/
def tLc3 (wi : TI) (g : TG) (wi1 : TI) (g1 : TG) (wi2 : TI) (g2 : TG) (te : TE) (vs vs1 vs2 : List Nat) : TE := fun σ H Q => wi σ H fun J H1 => ∀ D, H1 D = none → ∃ W : Nat → Nat → Hp → Prop, (∃ m, W 0 m (upd H1 D (.lst []))) ∧ ∀ i m H, W i m H →
  (J.stop i H ∧ Q (.ref D) H) ∨ (J.go i H ∧ ∃ Nx : Hp → Prop, (∀ H', Nx H' → ∃ m', m' < m ∧ W (i + 1) m' H') ∧ ∀ x H', J.yld i H x H' → g x (L2.wipe σ vs) H' fun σ2 H2 => L2.wipe σ2 vs = L2.wipe σ vs ∧
    wi1 σ2 H2 fun J1 H4 => ∃ W1 : Nat → Nat → Hp → Prop, (∃ m, W1 0 m H4) ∧ ∀ j k H, W1 j k H →
      (J1.stop j H ∧ Nx H) ∨ (J1.go j H ∧ ∃ Nx1 : Hp → Prop, (∀ H', Nx1 H' → ∃ k', k' < k ∧ W1 (j + 1) k' H') ∧ ∀ x H', J1.yld j H x H' → g1 x (L2.wipe σ2 vs1) H' fun σ3 H5 => L2.wipe σ3 vs1 = L2.wipe σ2 vs1 ∧
        wi2 σ3 H5 fun J2 H6 => ∃ W2 : Nat → Nat → Hp → Prop, (∃ m, W2 0 m H6) ∧ ∀ a b H, W2 a b H →
          (J2.stop a H ∧ Nx1 H) ∨ (J2.go a H ∧ ∃ Nx2 : Hp → Prop, (∀ H', Nx2 H' → ∃ b', b' < b ∧ W2 (a + 1) b' H') ∧ ∀ x H', J2.yld a H x H' → g2 x (L2.wipe σ3 vs2) H' fun σ4 H7 => L2.wipe σ4 vs2 = L2.wipe σ3 vs2 ∧
            te σ4 H7 fun y H8 => ∃ acc, H8 D = some (.lst acc) ∧ acc.length < sizeLine ∧ Nx2 (upd H8 D (.lst (acc ++ [y]))))))
section
variable {X : Cx}
theorem lc3_core {pins : List (Addr × Obj)} {s : Shared} {σ : L2.St} {H : Hp} {Q : VK} {elt tg iter tg1 iter1 tg2 iter2 : Expr} {scope : Scope} {own : List (Str × Nat)} {vs1 vs2 : List Nat} {pos pos' : Pos} {wi wi1 wi2 : TI} {g g1 g2 : TG} {te : TE} {use : Option (Value → Sem Unit)} {Qf : Value → Shared → Prop}
    (hc : X.calm = true) (hN : X.N.Nodup) (I : Inv X pins σ H s) (hi : PI X tg iter wi) (ok : BlkOk X.N X.env.scope scope own) (hv : ∀ i ∈ vs1, i ∈ own.map (·.2)) (hv2 : ∀ i ∈ vs2, i ∈ vs1)
    (hg : ∀ (s : Shared) (H : Hp) (C : Addr) (cl : List (Str × Addr)) (fp : List Addr), PG (X.blk s H scope (compEnvC scope cl C X.env) fp) tg g)
    (he : ∀ (s : Shared) (H : Hp) (C : Addr) (cl : List (Str × Addr)) (fp : List Addr), PE (X.blk s H scope (compEnvC scope cl C X.env) fp) elt te) (hs : ∀ x, foldedSetIterable iter X.env x = pure x)
    (hi1 : ∀ (s : Shared) (H : Hp) (C : Addr) (cl : List (Str × Addr)) (fp : List Addr), PI (X.blk s H scope (compEnvC scope cl C X.env) fp) tg1 iter1 wi1)
    (hg1 : ∀ (s : Shared) (H : Hp) (C : Addr) (cl : List (Str × Addr)) (fp : List Addr), PG (X.blk s H scope (compEnvC scope cl C X.env) fp) tg1 g1)
    (hi2 : ∀ (s : Shared) (H : Hp) (C : Addr) (cl : List (Str × Addr)) (fp : List Addr), PI (X.blk s H scope (compEnvC scope cl C X.env) fp) tg2 iter2 wi2)
    (hg2 : ∀ (s : Shared) (H : Hp) (C : Addr) (cl : List (Str × Addr)) (fp : List Addr), PG (X.blk s H scope (compEnvC scope cl C X.env) fp) tg2 g2)
    (hs1 : ∀ env x, foldedSetIterable iter1 env x = pure x) (hs2 : ∀ env x, foldedSetIterable iter2 env x = pure x)
    (h : tLc3 wi g wi1 g1 wi2 g2 te (own.map (·.2)) vs1 vs2 σ H Q)
    (hRR : ∀ D C s' m H', Inv X pins σ H' s' → Q (.ref D) H' → s'.heap.Ns C m → FpOk X pins H' C → compPost (model X.prog X.w) X.A X.xe use Qf (.ref D) C (.ok .next) s') :
    wpAny (model X.prog X.w) X.A (comprehension (.ListComp elt [⟨tg, iter, [], 0⟩, ⟨tg1, iter1, [], 0⟩, ⟨tg2, iter2, [], 0⟩] scope pos) scope X.env pos' (newList []) false (eval iter X.env) use) Qf X.xe s := by
  have hfree : ∀ y ∈ scope.names, y.2 = .free → ∃ c, X.env.cells.lookup y.1 = some c := fun y hy e => (ok.free y hy e).elim (fun k => I.ok.has _ (.inl k)) fun k => I.ok.has _ (.inr k)
  refine wpAny_comprehension_free (use := use) rfl hs (closure_ok hfree) ok.kind (fun y hy e => by rw [ok.uniq y hy, e]) (thn (hi.run pins s σ H _ I h) fun xv s1 hx => thn hx fun itv s2 h2 => ?_)
  obtain ⟨it, fp, tn, J, H2, e, I2, T, st2, f2, q⟩ := h2
  subst e
  refine wpAny_newObj_type (newEnv_comp ?_) (by show 0 ≤ sizeLine; decide)
  generalize hD : s2.heap.objs.size = D
  have hDn : H2 D = none := I2.hok.fresh (Nat.le_of_eq hD)
  obtain ⟨W, ⟨m0, w0⟩, turn⟩ := q D hDn
  generalize hs3 : ({ s2 with heap := s2.heap.push { cls := .type "list", data := .seq ([] : List Value).toArray } } : Shared) = s3
  have h3 : s3.heap = s2.heap.push { cls := .type "list", data := .seq ([] : List Value).toArray } := by rw [← hs3]
  have I3 : Inv X pins σ (upd H2 D (.lst [])) s3 := by
    rw [← hs3]
    refine I2.laid (t' := s2.toks) (fun b o e => Heap.get?_push_of_some _ e) (Nat.le_of_eq hD) ⟨Nat.zero_le _, [], 0, .nil, ?_⟩
    rw [← hD]
    exact Heap.get?_push_size _ rfl
  have f3 : ∀ b ∈ fp, FpOk X pins (upd H2 D (.lst [])) b ∧ b < s3.heap.objs.size := fun b hb => by
    obtain ⟨o, e, _⟩ := T.obj _ _ st2 b hb
    have hlt := Heap.lt_size e
    refine ⟨⟨?_, (f2 b hb).2⟩, by rw [h3, Heap.size_push]; exact Nat.lt_succ_of_lt hlt⟩
    rw [upd_ne (by rw [← hD]; exact Nat.ne_of_lt hlt)]
    exact (f2 b hb).1
  have st3 : tn 0 s3.heap := T.keep _ _ _ st2 fun b _ o e => by rw [h3]; exact Heap.get?_push_of_some _ e
  have I4 := block_start I3 ok hN f3
  let cl := cellsFrom (s3.heap.objs.size + 1) scope.names (cloFrom X.env.cells scope.names [])
  have pg := hg s3 (upd H2 D (.lst [])) s3.heap.objs.size cl fp
  have pe := he s3 (upd H2 D (.lst [])) s3.heap.objs.size cl fp
  have pi1 := hi1 s3 (upd H2 D (.lst [])) s3.heap.objs.size cl fp
  have pg1 := hg1 s3 (upd H2 D (.lst [])) s3.heap.objs.size cl fp
  have pi2 := hi2 s3 (upd H2 D (.lst [])) s3.heap.objs.size cl fp
  have pg2 := hg2 s3 (upd H2 D (.lst [])) s3.heap.objs.size cl fp
  show codeAny _ _ (.compStart (.ListComp elt [⟨tg, iter, [], 0⟩, ⟨tg1, iter1, [], 0⟩, ⟨tg2, iter2, [], 0⟩] scope pos) 0 (.ref it) (.ref D) (compEnvC scope cl s3.heap.objs.size X.env)) (compPost (model X.prog X.w) X.A X.xe use Qf (.ref D) s3.heap.objs.size) { s3 with heap := pushCells (s3.heap.push { cls := .type "dict", data := .dict #[] }) scope.names }
  have nfp : ∀ b ∈ fp, (upd H2 D (.lst [])) b = none := fun b hb => (f3 b hb).1.1
  have I4 : Inv (X.blk s3 (upd H2 D (.lst [])) scope (compEnvC scope cl s3.heap.objs.size X.env) fp) [] _ _ _ := I4
  generalize hce : compEnvC scope cl s3.heap.objs.size X.env = ce at I4 pg pe pi1 pg1 pi2 pg2 ⊢
  have cL : ce.locals = s3.heap.objs.size := by subst hce; rfl
  generalize hH3 : upd H2 D (.lst []) = H3 at I3 I4 pg pe pi1 pg1 pi2 pg2 w0 nfp f3
  generalize hs4 : ({ s3 with heap := pushCells (s3.heap.push { cls := .type "dict", data := .dict #[] }) scope.names } : Shared) = s4 at I4 ⊢
  have st4 : tn 0 s4.heap := T.keep _ _ _ st3 fun b _ o e => by rw [← hs4]; exact pushCells_keeps _ _ _ _ (Heap.get?_push_of_some _ e)
  have stat : ∀ {σ' : L2.St} {H' : Hp} {s' : Shared}, Inv (X.blk s3 H3 scope ce fp) [] σ' H' s' → (∀ b ∈ fp, H' b = none) → ∀ b ∈ fp, FpOk (X.blk s3 H3 scope ce fp) [] H' b := fun {σ' H' s'} I' hn b hb =>
    ⟨hn b hb, (I'.ok.exf b hb).1, I'.ok.exfs b hb, .inl hb, fun x c e => (I'.ok.exf b hb).2 x c e, fun p hp => absurd (show p ∈ ([] : List (Addr × Obj)) ++ [] from hp) (by simp)⟩
  have loop : codeAny (model X.prog X.w) X.A (.compLoop (.ListComp elt [⟨tg, iter, [], 0⟩, ⟨tg1, iter1, [], 0⟩, ⟨tg2, iter2, [], 0⟩] scope pos) 0 (.ref it) (.ref D) ce) (compPost (model X.prog X.w) X.A X.xe use Qf (.ref D) s3.heap.objs.size) s4 := by
    refine loop3_0 (hs1 ce) (fun n s' => ∃ i H', Inv (X.blk s3 H3 scope ce fp) [] (L2.wipe σ (own.map (·.2))) H' s' ∧ tn i s'.heap ∧ (∀ b ∈ fp, H' b = none) ∧ W i n H') ?_ m0 ⟨0, H3, I4, st4, nfp, w0⟩
    rintro n s5 ⟨i, H5, I5, st5, n5, w5⟩
    rcases turn i n H5 w5 with ⟨stop, qq⟩ | ⟨go, Nx, hNx, step⟩
    · refine thnF (T.done (X.blk s3 H3 scope ce fp) rfl rfl rfl hc i [] s5 _ H5 (fun _ _ => False) I5 (stat I5 n5) st5 stop) fun r s6 ⟨hr, I6⟩ => ?_
      subst hr
      have I7 : Inv X pins σ H5 s6 := I3.call' (ch := fp) I6.os I6.base I6.hok I6.bare fun b hb => ⟨(f3 b hb).1.2.2.2.1, (f3 b hb).1.2.1, (f3 b hb).1.2.2.2.2.1, (f3 b hb).1.2.2.2.2.2⟩
      have nC : H5 s3.heap.objs.size = none := cL ▸ I6.free
      obtain ⟨m, hn, _⟩ := I6.loc
      have hn : s6.heap.Ns ce.locals m := hn
      rw [cL] at hn
      exact hRR D s3.heap.objs.size s6 m H5 I7 qq hn (I3.fpOk (Nat.le_refl _) nC)
    · refine thnF (T.item (X.blk s3 H3 scope ce fp) rfl rfl rfl hc i [] s5 _ H5 (fun _ _ => False) I5 (stat I5 n5) st5 go) fun r s6 ⟨u, hr, h6⟩ => ?_
      subst hr
      refine thnF h6 fun _ s7 ⟨x, H7, I7, r7, y7, st7, n7⟩ => ?_
      have I7' := I7.pinned (stat I7 n7) (T.obj _ _ st7)
      refine thnF (pg.run _ s7 _ H7 x u _ I7' r7 (step x H7 y7)) fun _ s8 ⟨σ8, H8, I8, hw8, q8⟩ => ?_
      have hk9 : ∀ (j : Nat) v, (L2.wipe σ (own.map (·.2)))[j]? = some (some v) → (L2.wipe σ8 vs1)[j]? = some (some v) := fun j v e => by
        rw [← hw8] at e
        obtain ⟨e1, e2⟩ := wipe_some e
        rw [wipe_out fun z => e2 (hv j z)]
        exact e1
      have hl9 : (L2.wipe σ (own.map (·.2))).length = (L2.wipe σ8 vs1).length := by rw [← hw8, wipe_length, wipe_length]
      have fin : ∀ {s' : Shared} {H' : Hp}, Inv (X.blk s3 H3 scope ce fp) ([] ++ pinsAt fp s7.heap) (L2.wipe σ8 vs1) H' s' → Nx H' →
          ∃ m, m < n ∧ ∃ i H', Inv (X.blk s3 H3 scope ce fp) [] (L2.wipe σ (own.map (·.2))) H' s' ∧ tn i s'.heap ∧ (∀ b ∈ fp, H' b = none) ∧ W i m H' := fun {s' H'} I' nx => by
        obtain ⟨m', hm, w'⟩ := hNx H' nx
        have pin' : ∀ b ∈ fp, ∀ o, s7.heap.get? b = some o → s'.heap.get? b = some o ∧ H' b = none := fun b hb o e =>
          let z := I'.pin (b, o) (List.mem_append_right _ (List.mem_append_right _ (mem_pinsAt hb e)))
          ⟨z.1, z.2.1⟩
        refine ⟨m', hm, i + 1, H', (I'.unpinned (pins := [])).weak hl9 hk9, T.keep _ _ _ st7 fun b hb o e => (pin' b hb o e).1, fun b hb => ?_, w'⟩
        obtain ⟨o, e, _⟩ := T.obj _ _ st7 b hb
        exact (pin' b hb o e).2
      refine thnF (pi1.run _ s8 σ8 H8 _ I8 q8) fun xv s10 hx => thnF hx fun itv s11 h11 => ?_
      obtain ⟨it1, fp1, tn1, J1, H11, e1, I11, T1, st11, f11, W1, ⟨m1, w1⟩, turn1⟩ := h11
      subst e1
      have stat1 : ∀ {H' : Hp}, (∀ b ∈ fp1, H' b = none) → ∀ b ∈ fp1, FpOk (X.blk s3 H3 scope ce fp) ([] ++ pinsAt fp s7.heap) H' b := fun hn b hb => ⟨hn b hb, (f11 b hb).2⟩
      have loop1 : codeAny (model X.prog X.w) X.A (.compLoop (.ListComp elt [⟨tg, iter, [], 0⟩, ⟨tg1, iter1, [], 0⟩, ⟨tg2, iter2, [], 0⟩] scope pos) 1 (.ref it1) (.ref D) ce)
          (fun r s' => match r with
            | .ok _ => ∃ m, m < n ∧ ∃ i H', Inv (X.blk s3 H3 scope ce fp) [] (L2.wipe σ (own.map (·.2))) H' s' ∧ tn i s'.heap ∧ (∀ b ∈ fp, H' b = none) ∧ W i m H'
            | .error _ => False) s11 := by
        refine loop3_1 (hs2 ce) (fun k s' => ∃ j H', Inv (X.blk s3 H3 scope ce fp) ([] ++ pinsAt fp s7.heap) (L2.wipe σ8 vs1) H' s' ∧ tn1 j s'.heap ∧ (∀ b ∈ fp1, H' b = none) ∧ W1 j k H') ?_ m1 ⟨0, H11, I11.weak (wipe_length _ _) (fun j v e => (wipe_some e).1), st11, fun b hb => (f11 b hb).1, w1⟩
        rintro k s12 ⟨j, H12, I12, st12, n12, w12⟩
        rcases turn1 j k H12 w12 with ⟨stop1, nx1⟩ | ⟨go1, Nx1, hNx1, step1⟩
        · refine thnF (T1.done (X.blk s3 H3 scope ce fp) rfl rfl rfl hc j _ s12 (L2.wipe σ8 vs1) H12 (fun _ _ => False) I12 (stat1 n12) st12 stop1) fun r s13 ⟨hr, I13⟩ => ?_
          subst hr
          exact fin I13 nx1
        · refine thnF (T1.item (X.blk s3 H3 scope ce fp) rfl rfl rfl hc j _ s12 (L2.wipe σ8 vs1) H12 (fun _ _ => False) I12 (stat1 n12) st12 go1) fun r s13 ⟨u1, hr, h13⟩ => ?_
          subst hr
          refine thnF h13 fun _ s14 ⟨x1, H14, I14, r14, y14, st14, n14⟩ => ?_
          have I14' := I14.pinned (stat1 n14) (T1.obj _ _ st14)
          refine thnF (pg1.run _ s14 (L2.wipe σ8 vs1) H14 x1 u1 _ I14' r14 (step1 x1 H14 y14)) fun _ s15 ⟨σ15, H15, I15, hw15, q15⟩ => ?_
          have fin1 : ∀ {s' : Shared} {H' : Hp} {σ' : L2.St}, Inv (X.blk s3 H3 scope ce fp) (([] ++ pinsAt fp s7.heap) ++ pinsAt fp1 s14.heap) σ' H' s' → (L2.wipe σ8 vs1).length = σ'.length → (∀ (j : Nat) v, (L2.wipe σ8 vs1)[j]? = some (some v) → σ'[j]? = some (some v)) → Nx1 H' →
              ∃ m, m < k ∧ ∃ j H', Inv (X.blk s3 H3 scope ce fp) ([] ++ pinsAt fp s7.heap) (L2.wipe σ8 vs1) H' s' ∧ tn1 j s'.heap ∧ (∀ b ∈ fp1, H' b = none) ∧ W1 j m H' := fun {s' H' σ'} I' hl hk nx => by
            obtain ⟨m', hm, w'⟩ := hNx1 H' nx
            have pin' : ∀ b ∈ fp1, ∀ o, s14.heap.get? b = some o → s'.heap.get? b = some o ∧ H' b = none := fun b hb o e =>
              let z := I'.pin (b, o) (List.mem_append_right _ (List.mem_append_right _ (mem_pinsAt hb e)))
              ⟨z.1, z.2.1⟩
            refine ⟨m', hm, j + 1, H', I'.unpinned.weak hl hk, T1.keep _ _ _ st14 fun b hb o e => (pin' b hb o e).1, fun b hb => ?_, w'⟩
            obtain ⟨o, e, _⟩ := T1.obj _ _ st14 b hb
            exact (pin' b hb o e).2
          refine thnF (pi2.run _ s15 σ15 H15 _ I15 q15) fun xv s16 hx => thnF hx fun itv s17 h17 => ?_
          obtain ⟨it2, fp2, tn2, J2, H17, e2, I17, T2, st17, f17, W2, ⟨m2, w2⟩, turn2⟩ := h17
          subst e2
          have hk15 : ∀ (j : Nat) v, (L2.wipe σ8 vs1)[j]? = some (some v) → (L2.wipe σ15 vs2)[j]? = some (some v) := fun j v e => by
            rw [← hw15] at e
            obtain ⟨e1, e2⟩ := wipe_some e
            rw [wipe_out fun z => e2 (hv2 j z)]
            exact e1
          have hl15 : (L2.wipe σ8 vs1).length = (L2.wipe σ15 vs2).length := by rw [← hw15, wipe_length, wipe_length]
          have stat2 : ∀ {H' : Hp}, (∀ b ∈ fp2, H' b = none) → ∀ b ∈ fp2, FpOk (X.blk s3 H3 scope ce fp) (([] ++ pinsAt fp s7.heap) ++ pinsAt fp1 s14.heap) H' b := fun hn b hb => ⟨hn b hb, (f17 b hb).2⟩
          have loop2 : codeAny (model X.prog X.w) X.A (.compLoop (.ListComp elt [⟨tg, iter, [], 0⟩, ⟨tg1, iter1, [], 0⟩, ⟨tg2, iter2, [], 0⟩] scope pos) 2 (.ref it2) (.ref D) ce)
              (fun r s' => match r with
                | .ok _ => ∃ m, m < k ∧ ∃ j H', Inv (X.blk s3 H3 scope ce fp) ([] ++ pinsAt fp s7.heap) (L2.wipe σ8 vs1) H' s' ∧ tn1 j s'.heap ∧ (∀ b ∈ fp1, H' b = none) ∧ W1 j m H'
                | .error _ => False) s17 := by
            refine loop3_2 (fun b s' => ∃ a H', Inv (X.blk s3 H3 scope ce fp) (([] ++ pinsAt fp s7.heap) ++ pinsAt fp1 s14.heap) (L2.wipe σ15 vs2) H' s' ∧ tn2 a s'.heap ∧ (∀ b ∈ fp2, H' b = none) ∧ W2 a b H') ?_ m2 ⟨0, H17, I17.weak (wipe_length _ _) (fun j v e => (wipe_some e).1), st17, fun b hb => (f17 b hb).1, w2⟩
            rintro b s18 ⟨a, H18, I18, st18, n18, w18⟩
            rcases turn2 a b H18 w18 with ⟨stop2, nx2⟩ | ⟨go2, Nx2, hNx2, step2⟩
            · refine thnF (T2.done (X.blk s3 H3 scope ce fp) rfl rfl rfl hc a _ s18 (L2.wipe σ15 vs2) H18 (fun _ _ => False) I18 (stat2 n18) st18 stop2) fun r s19 ⟨hr, I19⟩ => ?_
              subst hr
              exact fin1 I19 hl15 hk15 nx2
            · refine thnF (T2.item (X.blk s3 H3 scope ce fp) rfl rfl rfl hc a _ s18 (L2.wipe σ15 vs2) H18 (fun _ _ => False) I18 (stat2 n18) st18 go2) fun r s19 ⟨u2, hr, h19⟩ => ?_
              subst hr
              refine thnF h19 fun _ s20 ⟨x2, H20, I20, r20, y20, st20, n20⟩ => ?_
              have I20' := I20.pinned (stat2 n20) (T2.obj _ _ st20)
              refine thnF (pg2.run _ s20 (L2.wipe σ15 vs2) H20 x2 u2 _ I20' r20 (step2 x2 H20 y20)) fun _ s21 ⟨σ21, H21, I21, hw21, q21⟩ => ?_
              refine thnF (pe.run _ s21 σ21 H21 _ I21 q21) fun z s22 ⟨yv, H22, I22, r22, acc, hD22, hz22, nx⟩ => ?_
              refine app_ok (X := X.blk s3 H3 scope ce fp) I22 hD22 hz22 r22 fun s23 I23 => ?_
              obtain ⟨m', hm, w'⟩ := hNx2 _ nx
              have pin' : ∀ b ∈ fp2, ∀ o, s20.heap.get? b = some o → s23.heap.get? b = some o ∧ _ = none := fun b hb o e =>
                let z := I23.pin (b, o) (List.mem_append_right _ (List.mem_append_right _ (mem_pinsAt hb e)))
                ⟨z.1, z.2.1⟩
              refine ⟨m', hm, a + 1, _, I23.unpinned.weak (by rw [← hw21, wipe_length]) (fun j v e => by rw [← hw21] at e; exact (wipe_some e).1), T2.keep _ _ _ st20 fun b hb o e => (pin' b hb o e).1, fun b hb => ?_, w'⟩
              obtain ⟨o, e, _⟩ := T2.obj _ _ st20 b hb
              exact (pin' b hb o e).2
          exact start3_2 loop2 (T2.self X.A 0 _ _ _ st17 loop2)
      exact start3_1 loop1 (T1.self X.A 0 _ _ _ st11 loop1)
  exact codeAny_compStart_list loop (T.self X.A 0 _ _ _ st4 loop)
end
end MP
set_option Elab.async false
set_option linter.all false
set_option maxRecDepth 100000
set_option maxHeartbeats 4000000
namespace MP
open PySem PySem.Spec PyProof.Rows L2
section
variable {X : Cx} {Γ : Ct} {W : WX}
/-- the last source's turns -/
noncomputable def compN1 (ow : Option (Nat × List Dv)) (vs : List Nat) (g : FG) (elt : FE) (ρ : Env) : List Dv → Sto → Option (List Dv × Sto)
  | [], s => if ow.isNone = true ∨ stB s ow = true then some ([], s) else none
  | w :: ws, s => if ow.isNone = true ∨ stB s ow = true then match g w (wipeD ρ vs) s with
    | none => none
    | some ρ1 => match elt ρ1 s with
      | .ok y s3 => (compN1 ow vs g elt ρ ws s3).map fun r => (y :: r.1, r.2)
      | _ => none
    else none
/-- a source around another -/
noncomputable def compNx (inner : Env → Sto → Option (List Dv × Sto)) (ow : Option (Nat × List Dv)) (vs : List Nat) (g : FG) (ρ : Env) : List Dv → Sto → Option (List Dv × Sto)
  | [], s => if ow.isNone = true ∨ stB s ow = true then some ([], s) else none
  | w :: ws, s => if ow.isNone = true ∨ stB s ow = true then match g w (wipeD ρ vs) s with
    | none => none
    | some ρ1 => match inner ρ1 s with
      | some (ys, s4) => (compNx inner ow vs g ρ ws s4).map fun r => (ys ++ r.1, r.2)
      | none => none
    else none
noncomputable def srcN (f : FI) (k : Option (Nat × List Dv) → Env → List Dv → Sto → Option (List Dv × Sto)) : Env → Sto → Option (List Dv × Sto) := fun ρ s => match f ρ s with
  | .ok r s1 => k r.ow ρ r.ws s1
  | _ => none
/-- the two inner sources -/
noncomputable def inn2 (f2 : FI) (vs2 : List Nat) (g2 : FG) (elt : FE) : Env → Sto → Option (List Dv × Sto) := srcN f2 fun ow ρ ws s => compN1 ow vs2 g2 elt ρ ws s
noncomputable def inn1 (f1 : FI) (vs1 : List Nat) (g1 : FG) (f2 : FI) (vs2 : List Nat) (g2 : FG) (elt : FE) : Env → Sto → Option (List Dv × Sto) := srcN f1 fun ow ρ ws s => compNx (inn2 f2 vs2 g2 elt) ow vs1 g1 ρ ws s
noncomputable def mComp3 (f : FI) (vs : List Nat) (g : FG) (f1 : FI) (vs1 : List Nat) (g1 : FG) (f2 : FI) (vs2 : List Nat) (g2 : FG) (elt : FE) : FE := fun ρ s => (f ρ s).bind fun r s1 => match compNx (inn1 f1 vs1 g1 f2 vs2 g2 elt) r.ow vs g ρ r.ws s1 with
  | some (ws, s2) => if ws.length ≤ lim then .ok (.lst ws) s2 else .no
  | none => .no
/-- what a source within one wishes -/
def TurnsN (J : It) (H1 : Hp) (Nx : Hp → Prop) (body : (Hp → Prop) → V → Hp → Prop) : Prop := ∃ Wn : Nat → Nat → Hp → Prop, (∃ m, Wn 0 m H1) ∧ ∀ i m H, Wn i m H → (J.stop i H ∧ Nx H) ∨ (J.go i H ∧ ∃ Nx1 : Hp → Prop, (∀ H', Nx1 H' → ∃ m', m' < m ∧ Wn (i + 1) m' H') ∧ ∀ x H', J.yld i H x H' → body Nx1 x H')
theorem compN1_ok {H1 : Hp} {μ1 : Mu} {Z : Zs} {σ : L2.St} {ρ : Env} {s1 s2 : Sto} {g : TG} {fg : FG} {elt : FE} {vs : List Nat} {ow : Option (Nat × List Dv)} {ws r0 wa0 : List Dv} {acc0 : List V} {J : It} {Nx : Hp → Prop} {D : Addr} (hg : GWk Γ g fg vs) (hE : RE Γ H1 μ1 (hid D Z) ρ σ) (hR : Rep Γ H1 μ1 (hid D Z) s1) (hw : Walks Γ (hid D Z) H1 μ1 ow J ws)
    (hH : H1 D = some (.lst acc0)) (ra0 : RVs Γ H1 μ1 (hid D Z) wa0 acc0) (q : compN1 ow vs fg elt ρ ws s1 = some (r0, s2)) (hl : (wa0 ++ r0).length ≤ lim)
    (fin : ∀ H μ acc, EvoZ (fun a => a = D) H1 μ1 H μ → Rep Γ H μ (hid D Z) s2 → H D = some (.lst acc) → RVs Γ H μ (hid D Z) (wa0 ++ r0) acc → Nx H) :
    TurnsN J H1 Nx fun Nx1 x H' => g x (L2.wipe σ vs) H' fun σ2 H2 => L2.wipe σ2 vs = L2.wipe σ vs ∧ rdE Γ W0 elt σ2 H2 fun y H4 => ∃ acc, H4 D = some (.lst acc) ∧ acc.length < sizeLine ∧ Nx1 (upd H4 D (.lst (acc ++ [y]))) := by
  have hdz : ∀ a, a = D → hid D Z a := fun a e => .inl e
  let P : Nat → Hp → Prop := fun i H => ∃ μ s wa acc r, EvoZ (fun a => a = D) H1 μ1 H μ ∧ Rep Γ H μ (hid D Z) s ∧ H D = some (.lst acc) ∧ RVs Γ H μ (hid D Z) wa acc ∧ compN1 ow vs fg elt ρ (ws.drop i) s = some (r, s2) ∧ wa ++ r = wa0 ++ r0
  refine ⟨fun i m H => m = ws.length - i ∧ i ≤ ws.length ∧ P i H, ⟨ws.length, by omega, Nat.zero_le _, μ1, s1, wa0, acc0, r0, Evo.refl.z, hR, hH, ra0, q, rfl⟩, ?_⟩
  rintro i m H ⟨rfl, hi, μ, s, wa, acc, r, ev, R, hH, ra, qr, ht⟩
  have evz := ev.more hdz
  have E : RE Γ H μ (hid D Z) ρ σ := ⟨hE.1, fun j w e => by
    obtain ⟨v, g1, g2⟩ := hE.2 j w e
    exact ⟨v, g1, g2.monoZ evz⟩⟩
  by_cases hlt : i < ws.length
  · rw [List.drop_eq_getElem_cons hlt] at qr
    simp only [compN1] at qr
    split at qr
    · rename_i hst
      obtain ⟨_, hgo⟩ := hw H μ (hid D Z) s evz R (fun _ z => z) (fun _ z => .inl z) (st_of hst)
      obtain ⟨h1, h2⟩ := hgo i ws[i] (List.getElem?_eq_getElem hlt)
      refine .inr ⟨h1, P (i + 1), fun H' p => ⟨_, by omega, rfl, hlt, p⟩, fun x H' hy => ?_⟩
      obtain ⟨e2, R2, r2⟩ := h2 x H' hy
      cases eg : fg ws[i] (wipeD ρ vs) s with
      | none => rw [eg] at qr; cases qr
      | some ρ2 =>
        rw [eg] at qr
        dsimp only at qr
        refine hg H' μ (hid D Z) (wipeD ρ vs) ρ2 s (L2.wipe σ vs) ws[i] x _ ((E.mono e2).wipe vs) R2 r2 eg fun σ2 E2 hwp => ⟨hwp.trans (wipe_wipe σ vs), μ, hid D Z, ρ2, s, E2, R2, ?_⟩
        have hH3 : H' D = some (.lst acc) := e2.keep _ _ hH fun n hn => R.notZ hn (.inl rfl)
        have ra3 : RVs Γ H' μ (hid D Z) wa acc := ra.mono e2
        have ev3 : EvoZ (fun a => a = D) H1 μ1 H' μ := ev.trans e2.z
        cases ee : elt ρ2 s with
        | no => rw [ee] at qr; cases qr
        | er x4 s4 => rw [ee] at qr; cases qr
        | ok y s4 =>
          rw [ee] at qr
          dsimp only at qr
          intro v H4 μ4 e4 R4 r4
          cases ec : compN1 ow vs fg elt ρ (ws.drop (i + 1)) s4 with
          | none => rw [ec] at qr; cases qr
          | some rr =>
            rw [ec] at qr
            obtain ⟨r', s''⟩ := rr
            cases qr
            have hH4 : H4 D = some (.lst acc) := e4.keep _ _ hH3 fun n hn => R2.notZ hn (.inl rfl)
            have hlen : acc.length < sizeLine := by
              have := ra.len
              rw [← ht, List.length_append] at hl
              exact lim_lt (by simp at hl; omega)
            refine ⟨acc, hH4, hlen, μ4, s4, wa ++ [y], acc ++ [v], r', (ev3.trans e4.z).upd, R4.updZ, upd_same, RVs.append (RVs.updZ wa (ra3.mono e4)) (RVs.cons (RV.updZ y r4) rfl), ec, ?_⟩
            rw [← ht]
            simp
    · cases qr
  · have he : i = ws.length := by omega
    subst he
    rw [List.drop_length] at qr
    simp only [compN1] at qr
    split at qr
    · rename_i hst
      cases qr
      obtain ⟨hs, _⟩ := hw H μ (hid D Z) _ evz R (fun _ z => z) (fun _ z => .inl z) (st_of hst)
      rw [List.append_nil] at ht
      subst ht
      exact .inl ⟨hs, fin H μ acc ev R hH ra⟩
    · cases qr
/-- the source in the middle -/
theorem compN2_ok {H1 : Hp} {μ1 : Mu} {Z : Zs} {σ : L2.St} {ρ : Env} {s1 s2 : Sto} {g g2 : TG} {fg fg2 : FG} {f2 : FI} {elt : FE} {vs vs2 : List Nat} {ow : Option (Nat × List Dv)} {ws r0 wa0 : List Dv} {acc0 : List V} {J : It} {Nx : Hp → Prop} {D : Addr} (hg : GWk Γ g fg vs) (hg2 : GWk Γ g2 fg2 vs2) (hE : RE Γ H1 μ1 (hid D Z) ρ σ) (hR : Rep Γ H1 μ1 (hid D Z) s1) (hw : Walks Γ (hid D Z) H1 μ1 ow J ws)
    (hH : H1 D = some (.lst acc0)) (ra0 : RVs Γ H1 μ1 (hid D Z) wa0 acc0) (q : compNx (inn2 f2 vs2 fg2 elt) ow vs fg ρ ws s1 = some (r0, s2)) (hl : (wa0 ++ r0).length ≤ lim)
    (fin : ∀ H μ acc, EvoZ (fun a => a = D) H1 μ1 H μ → Rep Γ H μ (hid D Z) s2 → H D = some (.lst acc) → RVs Γ H μ (hid D Z) (wa0 ++ r0) acc → Nx H) :
    TurnsN J H1 Nx fun Nx1 x H' => g x (L2.wipe σ vs) H' fun σ2 H2 => L2.wipe σ2 vs = L2.wipe σ vs ∧ rdI Γ W0 f2 σ2 H2 fun J2 H6 => TurnsN J2 H6 Nx1 fun Nx2 x H' => g2 x (L2.wipe σ2 vs2) H' fun σ4 H7 => L2.wipe σ4 vs2 = L2.wipe σ2 vs2 ∧ rdE Γ W0 elt σ4 H7 fun y H8 => ∃ acc, H8 D = some (.lst acc) ∧ acc.length < sizeLine ∧ Nx2 (upd H8 D (.lst (acc ++ [y]))) := by
  have hdz : ∀ a, a = D → hid D Z a := fun a e => .inl e
  let P : Nat → Hp → Prop := fun i H => ∃ μ s wa acc r, EvoZ (fun a => a = D) H1 μ1 H μ ∧ Rep Γ H μ (hid D Z) s ∧ H D = some (.lst acc) ∧ RVs Γ H μ (hid D Z) wa acc ∧ compNx (inn2 f2 vs2 fg2 elt) ow vs fg ρ (ws.drop i) s = some (r, s2) ∧ wa ++ r = wa0 ++ r0
  refine ⟨fun i m H => m = ws.length - i ∧ i ≤ ws.length ∧ P i H, ⟨ws.length, by omega, Nat.zero_le _, μ1, s1, wa0, acc0, r0, Evo.refl.z, hR, hH, ra0, q, rfl⟩, ?_⟩
  rintro i m H ⟨rfl, hi, μ, s, wa, acc, r, ev, R, hH, ra, qr, ht⟩
  have evz := ev.more hdz
  have E : RE Γ H μ (hid D Z) ρ σ := ⟨hE.1, fun j w e => by
    obtain ⟨v, g1, g2⟩ := hE.2 j w e
    exact ⟨v, g1, g2.monoZ evz⟩⟩
  by_cases hlt : i < ws.length
  · rw [List.drop_eq_getElem_cons hlt] at qr
    simp only [compNx] at qr
    split at qr
    · rename_i hst
      obtain ⟨_, hgo⟩ := hw H μ (hid D Z) s evz R (fun _ z => z) (fun _ z => .inl z) (st_of hst)
      obtain ⟨h1, h2⟩ := hgo i ws[i] (List.getElem?_eq_getElem hlt)
      refine .inr ⟨h1, P (i + 1), fun H' p => ⟨_, by omega, rfl, hlt, p⟩, fun x H' hy => ?_⟩
      obtain ⟨e2, R2, r2⟩ := h2 x H' hy
      cases eg : fg ws[i] (wipeD ρ vs) s with
      | none => rw [eg] at qr; cases qr
      | some ρ2 =>
        rw [eg] at qr
        dsimp only at qr
        refine hg H' μ (hid D Z) (wipeD ρ vs) ρ2 s (L2.wipe σ vs) ws[i] x _ ((E.mono e2).wipe vs) R2 r2 eg fun σ2 E2 hwp => ⟨hwp.trans (wipe_wipe σ vs), μ, hid D Z, ρ2, s, E2, R2, ?_⟩
        have hH3 : H' D = some (.lst acc) := e2.keep _ _ hH fun n hn => R.notZ hn (.inl rfl)
        have ra3 : RVs Γ H' μ (hid D Z) wa acc := ra.mono e2
        have ev3 : EvoZ (fun a => a = D) H1 μ1 H' μ := ev.trans e2.z
        unfold inn2 srcN at qr
        cases ef : f2 ρ2 s with
        | no => rw [ef] at qr; cases qr
        | er x4 s4 => rw [ef] at qr; cases qr
        | ok src s4 =>
          rw [ef] at qr
          dsimp only at qr
          intro J2 H4 μ4 e4 R4 w4
          cases ec : compN1 src.ow vs2 fg2 elt ρ2 src.ws s4 with
          | none => rw [ec] at qr; cases qr
          | some rr =>
            rw [ec] at qr
            obtain ⟨ys, s5⟩ := rr
            dsimp only at qr
            cases ed : compNx (inn2 f2 vs2 fg2 elt) ow vs fg ρ (ws.drop (i + 1)) s5 with
            | none => unfold inn2 srcN at ed; rw [ed] at qr; cases qr
            | some rr =>
              have ed' := ed
              unfold inn2 srcN at ed'
              rw [ed'] at qr
              obtain ⟨r', s''⟩ := rr
              cases qr
              have hH4 : H4 D = some (.lst acc) := e4.keep _ _ hH3 fun n hn => R2.notZ hn (.inl rfl)
              have hlen : (wa ++ ys).length ≤ lim := by
                rw [← ht] at hl
                simp at hl ⊢
                omega
              exact compN1_ok hg2 (E2.mono e4) R4 w4 hH4 (ra3.mono e4) ec hlen fun H5 μ5 acc5 e5 R5 hH5 ra5 => ⟨μ5, s5, wa ++ ys, acc5, r', (ev3.trans e4.z).trans e5, R5, hH5, ra5, ed, by rw [← ht, List.append_assoc]⟩
    · cases qr
  · have he : i = ws.length := by omega
    subst he
    rw [List.drop_length] at qr
    simp only [compNx] at qr
    split at qr
    · rename_i hst
      cases qr
      obtain ⟨hs, _⟩ := hw H μ (hid D Z) _ evz R (fun _ z => z) (fun _ z => .inl z) (st_of hst)
      rw [List.append_nil] at ht
      subst ht
      exact .inl ⟨hs, fin H μ acc ev R hH ra⟩
    · cases qr
theorem comp3_ok {H1 : Hp} {μ1 : Mu} {Z : Zs} {σ : L2.St} {ρ : Env} {s1 s2 : Sto} {g g1 g2 : TG} {fg fg1 fg2 : FG} {f1 f2 : FI} {elt : FE} {vs vs1 vs2 : List Nat} {ow : Option (Nat × List Dv)} {ws tot : List Dv} {J : It} {Qd : Hp → Prop} {D : Addr} (hg : GWk Γ g fg vs) (hg1 : GWk Γ g1 fg1 vs1) (hg2 : GWk Γ g2 fg2 vs2) (hE : RE Γ H1 μ1 Z ρ σ) (hR : Rep Γ H1 μ1 Z s1) (hw : Walks Γ Z H1 μ1 ow J ws) (hD : H1 D = none)
    (q : compNx (inn1 f1 vs1 fg1 f2 vs2 fg2 elt) ow vs fg ρ ws s1 = some (tot, s2)) (hl : tot.length ≤ lim)
    (fin : ∀ H μ acc, Evo H1 μ1 H μ → Rep Γ H μ (hid D Z) s2 → H D = some (.lst acc) → RVs Γ H μ (hid D Z) tot acc → Qd H) :
    TurnsN J (upd H1 D (.lst [])) Qd fun Nx x H' => g x (L2.wipe σ vs) H' fun σ2 H2 => L2.wipe σ2 vs = L2.wipe σ vs ∧ rdI Γ W0 f1 σ2 H2 fun J1 H4 => TurnsN J1 H4 Nx fun Nx1 x H' => g1 x (L2.wipe σ2 vs1) H' fun σ3 H5 => L2.wipe σ3 vs1 = L2.wipe σ2 vs1 ∧
      rdI Γ W0 f2 σ3 H5 fun J2 H6 => TurnsN J2 H6 Nx1 fun Nx2 x H' => g2 x (L2.wipe σ3 vs2) H' fun σ4 H7 => L2.wipe σ4 vs2 = L2.wipe σ3 vs2 ∧ rdE Γ W0 elt σ4 H7 fun y H8 => ∃ acc, H8 D = some (.lst acc) ∧ acc.length < sizeLine ∧ Nx2 (upd H8 D (.lst (acc ++ [y]))) := by
  let P : Nat → Hp → Prop := fun i H => ∃ μ s wa acc r, Evo H1 μ1 H μ ∧ Rep Γ H μ (hid D Z) s ∧ H D = some (.lst acc) ∧ RVs Γ H μ (hid D Z) wa acc ∧ compNx (inn1 f1 vs1 fg1 f2 vs2 fg2 elt) ow vs fg ρ (ws.drop i) s = some (r, s2) ∧ wa ++ r = tot
  refine ⟨fun i m H => m = ws.length - i ∧ i ≤ ws.length ∧ P i H, ⟨ws.length, by omega, Nat.zero_le _, μ1, s1, [], [], tot, Evo.laid hD, hR.hide hD, upd_same, rfl, q, rfl⟩, ?_⟩
  rintro i m H ⟨rfl, hi, μ, s, wa, acc, r, ev, R, hH, ra, qr, ht⟩
  have hz : ∀ a, hid D Z a → Z a ∨ H1 a = none := fun a z => z.elim (fun e => .inr (e ▸ hD)) .inl
  have E : RE Γ H μ (hid D Z) ρ σ := ⟨hE.1, fun j w e => by
    obtain ⟨v, g1, g2⟩ := hE.2 j w e
    exact ⟨v, g1, (RV.strong hz w g2).mono ev⟩⟩
  by_cases hlt : i < ws.length
  · rw [List.drop_eq_getElem_cons hlt] at qr
    simp only [compNx] at qr
    split at qr
    · rename_i hst
      obtain ⟨_, hgo⟩ := hw H μ (hid D Z) s ev.z R (fun a z => .inr z) hz (st_of hst)
      obtain ⟨h1, h2⟩ := hgo i ws[i] (List.getElem?_eq_getElem hlt)
      refine .inr ⟨h1, P (i + 1), fun H' p => ⟨_, by omega, rfl, hlt, p⟩, fun x H' hy => ?_⟩
      obtain ⟨e2, R2, r2⟩ := h2 x H' hy
      cases eg : fg ws[i] (wipeD ρ vs) s with
      | none => rw [eg] at qr; cases qr
      | some ρ2 =>
        rw [eg] at qr
        dsimp only at qr
        refine hg H' μ (hid D Z) (wipeD ρ vs) ρ2 s (L2.wipe σ vs) ws[i] x _ ((E.mono e2).wipe vs) R2 r2 eg fun σ2 E2 hwp => ⟨hwp.trans (wipe_wipe σ vs), μ, hid D Z, ρ2, s, E2, R2, ?_⟩
        have hH3 : H' D = some (.lst acc) := e2.keep _ _ hH fun n hn => R.notZ hn (.inl rfl)
        have ra3 : RVs Γ H' μ (hid D Z) wa acc := ra.mono e2
        unfold inn1 srcN at qr
        cases ef : f1 ρ2 s with
        | no => rw [ef] at qr; cases qr
        | er x4 s4 => rw [ef] at qr; cases qr
        | ok src s4 =>
          rw [ef] at qr
          dsimp only at qr
          intro J2 H4 μ4 e4 R4 w4
          cases ec : compNx (inn2 f2 vs2 fg2 elt) src.ow vs1 fg1 ρ2 src.ws s4 with
          | none => rw [ec] at qr; cases qr
          | some rr =>
            rw [ec] at qr
            obtain ⟨ys, s5⟩ := rr
            dsimp only at qr
            cases ed : compNx (inn1 f1 vs1 fg1 f2 vs2 fg2 elt) ow vs fg ρ (ws.drop (i + 1)) s5 with
            | none => unfold inn1 srcN at ed; rw [ed] at qr; cases qr
            | some rr =>
              have ed' := ed
              unfold inn1 srcN at ed'
              rw [ed'] at qr
              obtain ⟨r', s''⟩ := rr
              cases qr
              have hH4 : H4 D = some (.lst acc) := e4.keep _ _ hH3 fun n hn => R2.notZ hn (.inl rfl)
              have hlen : (wa ++ ys).length ≤ lim := by
                rw [← ht] at hl
                simp at hl ⊢
                omega
              exact compN2_ok hg1 hg2 (E2.mono e4) R4 w4 hH4 (ra3.mono e4) ec hlen fun H5 μ5 acc5 e5 R5 hH5 ra5 => ⟨μ5, s5, wa ++ ys, acc5, r', ((ev.trans e2).trans e4).thenZ hD e5, R5, hH5, ra5, ed, by rw [← ht, List.append_assoc]⟩
    · cases qr
  · have he : i = ws.length := by omega
    subst he
    rw [List.drop_length] at qr
    simp only [compNx] at qr
    split at qr
    · rename_i hst
      cases qr
      obtain ⟨hs, _⟩ := hw H μ (hid D Z) _ ev.z R (fun a z => .inr z) hz (st_of hst)
      rw [List.append_nil] at ht
      subst ht
      exact .inl ⟨hs, fin H μ acc ev R hH ra⟩
    · cases qr
theorem pe_lc3 {elt tg iter tg1 iter1 tg2 iter2 : Expr} {scope : Scope} {own : List (Str × Nat)} {vs1 vs2 : List Nat} {pos : Pos} {wi wi1 wi2 : TI} {g g1 g2 : TG} {te : TE} (hc : X.calm = true) (hN : X.N.Nodup) (hi : PI X tg iter wi) (ok : BlkOk X.N X.env.scope scope own) (hv : ∀ i ∈ vs1, i ∈ own.map (·.2)) (hv2 : ∀ i ∈ vs2, i ∈ vs1)
    (hg : ∀ (s : Shared) (H : Hp) (C : Addr) (cl : List (Str × Addr)) (fp : List Addr), PG (X.blk s H scope (compEnvC scope cl C X.env) fp) tg g)
    (hi1 : ∀ (s : Shared) (H : Hp) (C : Addr) (cl : List (Str × Addr)) (fp : List Addr), PI (X.blk s H scope (compEnvC scope cl C X.env) fp) tg1 iter1 wi1)
    (hg1 : ∀ (s : Shared) (H : Hp) (C : Addr) (cl : List (Str × Addr)) (fp : List Addr), PG (X.blk s H scope (compEnvC scope cl C X.env) fp) tg1 g1)
    (hi2 : ∀ (s : Shared) (H : Hp) (C : Addr) (cl : List (Str × Addr)) (fp : List Addr), PI (X.blk s H scope (compEnvC scope cl C X.env) fp) tg2 iter2 wi2)
    (hg2 : ∀ (s : Shared) (H : Hp) (C : Addr) (cl : List (Str × Addr)) (fp : List Addr), PG (X.blk s H scope (compEnvC scope cl C X.env) fp) tg2 g2)
    (he : ∀ (s : Shared) (H : Hp) (C : Addr) (cl : List (Str × Addr)) (fp : List Addr), PE (X.blk s H scope (compEnvC scope cl C X.env) fp) elt te) (hs : ∀ x, foldedSetIterable iter X.env x = pure x := by intro _; rfl) (hs1 : ∀ env x, foldedSetIterable iter1 env x = pure x := by intro _ _; rfl) (hs2 : ∀ env x, foldedSetIterable iter2 env x = pure x := by intro _ _; rfl) :
    PE X (.ListComp elt [⟨tg, iter, [], 0⟩, ⟨tg1, iter1, [], 0⟩, ⟨tg2, iter2, [], 0⟩] scope pos) (tLc3 wi g wi1 g1 wi2 g2 te (own.map (·.2)) vs1 vs2) := by
  refine ⟨fun pins s σ H Q I h => ?_⟩
  rw [eval_ListComp]
  refine lc3_core hc hN I hi ok hv hv2 hg he hs hi1 hg1 hi2 hg2 hs1 hs2 h fun D C s' m H' I' q hn f => ⟨m, hn, fun h'' sb => ?_⟩
  obtain ⟨f0, f1, f2, f3, f4, f5⟩ := f
  exact ⟨.ref D, H', I'.turned (t' := s'.toks) (fun b o hb e => (sb.2 b hb).trans e) f0 f1 f3 f4 f5, rfl, q⟩
theorem me_comp3 {elt tg iter tg1 iter1 tg2 iter2 : Expr} {scope : Scope} {own : List (Str × Nat)} {vs1 vs2 : List Nat} {pos : Pos} {f f1 f2 : FI} {g g1 g2 : TG} {fg fg1 fg2 : FG} {fe : FE} (hc : X.calm = true) (hN : X.N.Nodup) (hi : MI X Γ W tg iter f) (ok : BlkOk X.N X.env.scope scope own) (hv : ∀ i ∈ vs1, i ∈ own.map (·.2)) (hv2 : ∀ i ∈ vs2, i ∈ vs1)
    (hg : ∀ (s : Shared) (H : Hp) (C : Addr) (cl : List (Str × Addr)) (fp : List Addr), PG (X.blk s H scope (compEnvC scope cl C X.env) fp) tg g) (hw : GWk Γ g fg (own.map (·.2)))
    (hi1 : ∀ (s : Shared) (H : Hp) (C : Addr) (cl : List (Str × Addr)) (fp : List Addr), MI (X.blk s H scope (compEnvC scope cl C X.env) fp) Γ W0 tg1 iter1 f1)
    (hg1 : ∀ (s : Shared) (H : Hp) (C : Addr) (cl : List (Str × Addr)) (fp : List Addr), PG (X.blk s H scope (compEnvC scope cl C X.env) fp) tg1 g1) (hw1 : GWk Γ g1 fg1 vs1)
    (hi2 : ∀ (s : Shared) (H : Hp) (C : Addr) (cl : List (Str × Addr)) (fp : List Addr), MI (X.blk s H scope (compEnvC scope cl C X.env) fp) Γ W0 tg2 iter2 f2)
    (hg2 : ∀ (s : Shared) (H : Hp) (C : Addr) (cl : List (Str × Addr)) (fp : List Addr), PG (X.blk s H scope (compEnvC scope cl C X.env) fp) tg2 g2) (hw2 : GWk Γ g2 fg2 vs2)
    (he : ∀ (s : Shared) (H : Hp) (C : Addr) (cl : List (Str × Addr)) (fp : List Addr), ME (X.blk s H scope (compEnvC scope cl C X.env) fp) Γ W0 elt fe) (hs : ∀ x, foldedSetIterable iter X.env x = pure x := by intro _; rfl) (hs1 : ∀ env x, foldedSetIterable iter1 env x = pure x := by intro _ _; rfl) (hs2 : ∀ env x, foldedSetIterable iter2 env x = pure x := by intro _ _; rfl) :
    ME X Γ W (.ListComp elt [⟨tg, iter, [], 0⟩, ⟨tg1, iter1, [], 0⟩, ⟨tg2, iter2, [], 0⟩] scope pos) (mComp3 f (own.map (·.2)) fg f1 vs1 fg1 f2 vs2 fg2 fe) :=
  PE.imp (pe_lc3 hc hN hi ok hv hv2 hg hi1 hg1 hi2 hg2 he hs hs1 hs2) fun σ H Q ⟨μ, Z, ρ, s, hE, hR, q⟩ => iE hE hR q fun r s1 J H1 μ1 e1 E1 R1 w1 q1 D hD => by
    cases e : compNx (inn1 f1 vs1 fg1 f2 vs2 fg2 fe) r.ow (own.map (·.2)) fg ρ r.ws s1 with
    | none => rw [e] at q1; exact q1.elim
    | some p =>
      obtain ⟨tot, s2⟩ := p
      rw [e] at q1
      dsimp only at q1
      split at q1
      · rename_i hl
        exact comp3_ok hw hw1 hw2 E1 R1 w1 hD e hl fun H2 μ2 acc ev R2 hH ra => fin_lst R1 hD ev R2 hH ra q1
      · exact q1.elim
end
end MP
set_option Elab.async false
set_option linter.all false
set_option maxRecDepth 100000
set_option maxHeartbeats 1000000
namespace MP
open PySem PySem.Spec PyProof.Rows L2
mutual
def noD : Dv → Bool
  | .non => true
  | .bl _ => true
  | .int _ => true
  | .str _ => true
  | .ty _ => true
  | .cl _ => true
  | .ref _ => true
  | .tup ws => noDs ws
  | .lst ws => noDs ws
  | .sq ws => noDs ws
  | .dct _ ws => noDs ws
  | .dtt _ _ => false
  | .exc _ _ w => noD w
  | .exn _ => true
  | .clo _ _ _ ws _ => noDs ws
def noDs : List Dv → Bool
  | [] => true
  | w :: ws => noD w && noDs ws
end
end MP
set_option Elab.async false
set_option linter.all false
set_option maxRecDepth 100000
set_option maxHeartbeats 1000000
namespace MP
open PySem PySem.Spec PyProof.Rows L2
open PySem.W (AlikeAll minD alike alike_unique readsAll_at reads_keeps min_list_data)
theorem vals_at {ys : List V} {us : List Value} (h : Vals ys us) : ∀ {i : Nat} {u : Value}, us[i]? = some u → ∃ y, ys[i]? = some y ∧ RelV y u := by
  induction h with
  | nil => intro i u e; cases e
  | @cons y u ys us r rs ih =>
    intro i v e
    cases i with
    | zero => cases e; exact ⟨y, rfl, r⟩
    | succ i => exact ih e
end MP
set_option Elab.async false
set_option linter.all false
set_option maxRecDepth 100000
set_option maxHeartbeats 4000000
namespace MP
open PySem PySem.Spec PyProof.Rows L2
open PySem.W (AlikeAll maxD alike alike_unique readsAll_at reads_keeps max_list_data)
def rMaxP (K : PySem.W.Frag) : List V → Hp → VK → Prop := fun xs H Q => ∃ (a : Addr) (ys : List V) (d : PyData) (ds : List PyData), xs = [.ref a] ∧ H a = some (.lst ys) ∧
  (∀ (X : Cx) (pins : List (Addr × Obj)) (σ : L2.St) (s : Shared) (us : List Value), X.K = K → Inv X pins σ H s → Vals ys us → ∃ as, ReadsAll s.heap us (d :: ds) as ∧ sysModules ∉ as) ∧
  AlikeAll (d :: ds) ∧ PyData.depthAll (d :: ds) ≤ 50 ∧ ∀ (i : Nat) (y : V), ys[i]? = some y → (d :: ds)[i]? = some (maxD d ds) → Q y H
theorem maxD_mem : ∀ (ds : List PyData) (d : PyData), maxD d ds ∈ d :: ds
  | [], d => List.mem_cons_self
  | b :: ds, d => by
    show maxD (if PySem.W.dataLt d b then b else d) ds ∈ _
    split
    · rcases List.mem_cons.mp (maxD_mem ds b) with z | z
      · rw [z]; exact List.mem_cons_of_mem _ List.mem_cons_self
      · exact List.mem_cons_of_mem _ (List.mem_cons_of_mem _ z)
    · rcases List.mem_cons.mp (maxD_mem ds d) with z | z
      · rw [z]; exact List.mem_cons_self
      · exact List.mem_cons_of_mem _ (List.mem_cons_of_mem _ z)
theorem cr_maxP {X : Cx} (hc : X.calm = true) (hu : X.A.units + 64 < cLine) : CallR X (.builtin "max") (rMaxP X.K) := by
  intro pins s σ H vs us Q I r h
  obtain ⟨a, ys, d, ds, rfl, ha, hr, hal, hdp, q⟩ := h
  obtain ⟨u, rfl, ru⟩ := vals1 r
  obtain rfl : u = Value.ref a := ru
  obtain ⟨_, its, n, rv, e⟩ := I.hok a _ ha
  obtain ⟨as, rd, hn⟩ := hr X pins σ s its rfl I rv
  refine max_list_data (l := a) (vs := its.toArray) (x := d) (xs := ds) (as := as) (I.ok.hd hc) ⟨_, e, rfl, _, rfl⟩ (by simpa using rd) hal (by omega) fun i v h' tk bs hv rm k => ?_
  have hv' : its[i]? = some v := by simpa using hv
  obtain ⟨y, e1, e2⟩ := vals_at rv hv'
  refine ⟨y, H, I.kept (t' := tk) k, e2, q i y e1 ?_⟩
  obtain ⟨cs, g1, g2, g3, _⟩ := readsAll_at rd i v hv'
  have hg : (d :: ds)[i]? = some ((d :: ds).getD i .none) := by
    rw [List.getElem?_eq_getElem g2, List.getD_eq_getElem?_getD, List.getElem?_eq_getElem g2]
    rfl
  rw [hg]
  refine congrArg some ?_
  exact alike_unique _ _ v _ _ (hal.1 _ g3 _ (maxD_mem ds d)) (reads_keeps k g1) rm
open Classical in
/-- the item whose data is the least -/
noncomputable def maxPD : ON := fun _ xs => match xs with
  | [.lst ws] => match toXs ws with
    | some (d :: ds) => if h : (AlikeAll (d :: ds) ∧ PyData.depthAll (d :: ds) ≤ 50) ∧ ∃ w, ∀ (j : Nat) (w' : Dv), (d :: ds)[j]? = some (maxD d ds) → ws[j]? = some w' → w' = w then some (Classical.choose h.2) else none
    | _ => none
  | _ => none
theorem sMaxP {X : Cx} {Γ : Ct} (hK : Γ.K = X.K) : OpN Γ (rMaxP X.K) maxPD := fun H μ Z s xs w vs Q hR rx e k => by
  unfold maxPD at e
  split at e
  · rename_i ws
    split at e
    · rename_i d ds q
      split at e
      · rename_i hc
        have hw : Classical.choose hc.2 = w := Option.some.inj e
        have hp := Classical.choose_spec hc.2
        rw [hw] at hp
        obtain ⟨v, rfl, r1⟩ := one rx
        obtain ⟨a, ys, rfl, h2, h3, h4⟩ := r1
        refine ⟨a, ys, d, ds, rfl, h2, fun X' pins σ s us hX I ru => rxs_reads I (hK.trans hX.symm) ws h4 ru q, hc.1.1, hc.1.2, fun i y hy hi => ?_⟩
        have hl : i < ws.length := by
          rw [← h4.len]
          exact (List.getElem?_eq_some_iff.mp hy).1
        have hg : ws[i]? = some ws[i] := List.getElem?_eq_getElem hl
        obtain ⟨x, e1, e2⟩ := h4.get hg
        rw [hy] at e1
        cases e1
        rw [hp i _ hi hg] at e2
        exact k y H .refl hR e2
      · cases e
    · cases e
  · cases e
theorem max_P {s : Sto} {ws : List Dv} {w : Dv} {d : PyData} {ds : List PyData} {i : Nat} (h : toXs ws = some (d :: ds)) (ha : AlikeAll (d :: ds)) (hd : PyData.depthAll (d :: ds) ≤ 50) (hi : ws[i]? = some w) (hm : (d :: ds)[i]? = some (maxD d ds))
    (hu : ∀ (j : Nat) (w' : Dv), (d :: ds)[j]? = some (maxD d ds) → ws[j]? = some w' → w' = w) : maxPD s [.lst ws] = some w := by
  unfold maxPD
  dsimp only
  rw [h]
  dsimp only
  have hx : ∃ w, ∀ (j : Nat) (w' : Dv), (d :: ds)[j]? = some (maxD d ds) → ws[j]? = some w' → w' = w := ⟨w, hu⟩
  rw [dif_pos ⟨⟨ha, hd⟩, hx⟩]
  exact congrArg some (Classical.choose_spec hx i w hm hi).symm
end MP
set_option Elab.async false
set_option linter.all false
set_option maxRecDepth 100000
set_option maxHeartbeats 4000000
namespace MP
open PySem PySem.Spec PyProof.Rows L2
section
variable {P : Program} {w : World} {A : Around} {E : Value → Shared → Prop} {s : Shared}
/-- set(xs), xs a list of ints -/
theorem set_ints {l : Addr} {items : Array Value} (ns : List Int) {Q : Value → Shared → Prop} (hh : A.handled = none) (hl : s.heap.IsList l items) (hit : IntsAre items.toList ns) (hb : ns.length + 1 < scanBound)
    (q : ∀ (h' : Heap) (tk c : Nat), SetR w h' s.heap.objs.size (fun j => decide (j ∈ ns)) c → c ≤ ns.length → (∀ b o, s.heap.get? b = some o → h'.get? b = some o) → Q (.ref s.heap.objs.size) { s with heap := h', toks := tk }) :
    wpAny (model P w) A (call (.type "set") [.ref l]) Q E s := by
  let N := s.heap.objs.size
  have len : items.size = ns.length := by
    have z := IntsAre.length hit
    rw [Array.length_toList] at z
    exact z
  obtain ⟨c, tl, mro⟩ := F.called_set.mro
  have made := F.called_set.made
  have sub := F.called_set.sub
  have notType := F.called_set.notType
  have canC := F.called_set.canCreate
  have tyC := F.typeCall_set_1 (.ref l)
  refine wpAny_call (codeAny_of_tree (show wpAny _ _ (callAny (.type "set") _) _ _ _ from ?_))
  refine wpAny_pure ⟨Code.quiet_builtin _ (by decide +kernel),
    codeAny_builtin F.entry_type_call ?_⟩
  rw [weight_type_call_type "set" [.ref l] [] |> fun e => Around.under_plain e rfl]
  repeat (any_goals (first | assumption | wp_step))
  refine codeAny_mono (code_set_led1 (.ref l) (E := E) (Q₁ := fun obj u => obj = .ref N ∧ u = { s with heap := s.heap.push (set0 w) }) ⟨rfl, rfl⟩) fun r u hr => ?_
  match r, hr with
  | .error e, hr => exact hr
  | .ok (.ret obj), ⟨e1, e2⟩ =>
    subst e1 e2
    have hS : (s.heap.push (set0 w)).get? N = some (set0 w) := Heap.get?_push_size _ rfl
    have hT : Shared.TypeIs { s with heap := s.heap.push (set0 w) } (.ref N) "set" := ⟨_, hS, rfl⟩
    have look := F.called_set.init.lookup
    have bnd := F.called_set.init.bind (.ref N)
    repeat (any_goals (first | assumption | wp_step))
    refine codeAny_mono (codeAny_call_builtin (R := wants (fun r u => r = .none ∧ ∃ h' tk c, u = { s with heap := h', toks := tk } ∧ SetR w h' N (fun j => decide (j ∈ ns)) c ∧ c ≤ ns.length ∧ (∀ b o, s.heap.get? b = some o → h'.get? b = some o)) E)
      F.called_set.init.plain F.entry_set_init (check_set_init_1 hT ?_)) fun r2 u2 hr2 => ?_
    · obtain ⟨⟨ocl, odi, oda, osl⟩, hol, hc, nl, hd⟩ := hl
      have hc' : ocl = .type "list" := hc
      have hd' : oda = .seq items nl := hd
      subst hc' hd'
      have hl1 : (s.heap.push (set0 w)).IsList l items := ⟨_, Heap.get?_push_of_some _ hol, rfl, nl, rfl⟩
      have sub1 := F.sub_list_set
      have sub2 := F.sub_list_frozenset
      have no : (Value.type "list" == Value.type "dict") = false := by decide
      have hol1 := Heap.get?_push_of_some (set0 w) hol
      unfold Builtin.«set.__init__» noKeywords Builtin.Frozenset.updateFrom
      generalize pI : pyIter = PI
      wp_walk
      subst pI
      refine wpAny_pyIter_list hl1 (wpAny_bind (wpAny_runValue ?_))
      have lt : l < N := Heap.lt_size hol
      have sz : (s.heap.push (set0 w)).objs.size = N + 1 := Heap.size_push ..
      have gone : ∀ b, N ≤ b → s.heap.get? b = none := fun b hb => by
        cases z : s.heap.get? b with
        | none => rfl
        | some o => exact absurd (Heap.lt_size z) (Nat.not_lt.mpr hb)
      refine set_update_ints ((Walks.list (by simp [hh]) _ l (by rw [sz]; exact Nat.ne_of_lt (Nat.lt_succ_of_lt lt)) items).toS) N ?_ ns len hb (fun i v hv => ?_) (items.size - 0) 0 _ (by omega) (Nat.zero_le _)
        ⟨⟨_, Heap.get?_push_size _ rfl, rfl, rfl⟩, hl1.push _⟩ ⟨0, Nat.le_refl _, setR_new_at (Heap.get?_push_of_some _ hS)⟩ fun u c m hc S => ?_
      · simp only [sz, List.mem_cons, List.mem_nil_iff, or_false, not_or]
        exact ⟨Nat.ne_of_lt (Nat.lt_succ_self _), Nat.ne_of_gt lt⟩
      · have hi : i < ns.length := by rw [← len]; exact (Array.getElem?_eq_some_iff.mp hv).1
        obtain ⟨t, e⟩ := PyProof.Rows.IntsAre.int_at hit i v (by rw [Array.getElem?_toList]; exact hv)
        refine ⟨ns[i], t, List.getElem?_eq_getElem hi, ?_⟩
        rw [e, List.getD_eq_getElem?_getD, List.getElem?_eq_getElem hi] <;> rfl
      · have k : ∀ b o, s.heap.get? b = some o → u.heap.get? b = some o := fun b o e => by
          have hlt := Heap.lt_size e
          refine m.heap b o (fun z => ?_) (Heap.get?_push_of_some _ (Heap.get?_push_of_some _ e))
          rcases List.mem_cons.mp z with z | z
          · exact Nat.ne_of_lt hlt z
          · rw [List.mem_singleton.mp z, sz] at hlt
            exact absurd hlt (by show ¬ (N + 1 < N); omega)
        obtain ⟨h2, g2, d2, tk2, os2⟩ := u
        obtain rfl : g2 = s.gens := m.gens
        obtain rfl : d2 = s.drawn := m.drawn
        obtain rfl : os2 = s.os := m.os
        exact wpAny_pure (show wpAny _ _ (ret Value.none) _ _ _ from wpAny_pure ⟨rfl, h2, tk2, c, rfl, S, len ▸ hc, k⟩)
    · match r2, hr2 with
      | .error e, hr => exact hr
      | .ok (.ret v), ⟨ev, h', tk, c, eu, S, g, k⟩ =>
        subst ev eu
        repeat (any_goals (first | assumption | wp_step))
        exact q _ _ _ S g k
      | .ok .next, hr => exact hr.elim
  | .ok .next, hr => exact hr.elim
end
section
variable {X : Cx} {Γ : Ct} {W : WX}
theorem cr_setI (hc : X.calm = true) : CallR X (.type "set") (fun vs H Q => ∃ (a : Addr) (ns : List Int), vs = [V.ref a] ∧ SqL X.K H a (ns.map V.int) ∧ ns.length ≤ 1000 ∧ ∀ p c, H p = none → c ≤ ns.length → Q (.ref p) (upd H p (SetO X.w p (fun j => decide (j ∈ ns)) c))) := by
  intro pins s σ H vs us Q I r h
  obtain ⟨a, ns, rfl, hs, hl, q⟩ := h
  obtain ⟨its, rv, p, _⟩ := I.list hs
  obtain ⟨v, rfl, rfl⟩ : ∃ v, us = [v] ∧ v = Value.ref a := by
    cases r with
    | cons r rr => cases rr; exact ⟨_, rfl, r⟩
  have hsz : ns.length + 1 < scanBound := by
    have : scanBound = 4096 := rfl
    omega
  refine set_ints ns (I.ok.hd hc) p.isList (by simpa using rv.ints) hsz fun h' tk c R hcl hk => ?_
  have hn : H s.heap.objs.size = none := I.hok.fresh (Nat.le_refl _)
  exact ⟨.ref s.heap.objs.size, _, I.laid (t' := tk) hk (Nat.le_refl _) (setO_new R), rfl, q _ c hn hcl⟩
def sortedSetL : ON := fun s xs => match xs with
  | [x] => match lstOf s x with
    | some ws => match intsOf ws with
      | some ns => if ns.length ≤ 60 then some (.lst ((usrt ns).map .int)) else none
      | none => none
    | none => none
  | _ => none
theorem me_sortedSetL {e : Expr} {fa : FA} {p p2 pos pos2 : Pos} (hK : Γ.K = X.K) (hc : X.calm = true) (hg : Gl X "sorted") (hm : X.mg "sorted" = none) (hg2 : Gl X "set") (hm2 : X.mg "set" = none) (ha : MA X Γ W [e] fa)
    (he : starEach [e] X.env = (false, eval e X.env) :: starEach [] X.env := by rfl) (hpl : (backTo pos2 (starEach [] X.env)).any (·.1) = false := by rfl)
    (he' : starEach [.Call (.Name "set" p2) [e] [] pos2] X.env = (false, eval (.Call (.Name "set" p2) [e] [] pos2) X.env) :: starEach [] X.env := by rfl) (hpl' : (backTo pos (starEach [] X.env)).any (·.1) = false := by rfl) :
    ME X Γ W (.Call (.Name "sorted" p) [.Call (.Name "set" p2) [e] [] pos2] [] pos) (mBlt sortedSetL fa) :=
  PE.imp (pe_callB (cr_sortedSet hc) hg hm (by decide +kernel) (pa_cons (pe_callTy (cr_setI hc) hg2 hm2 (by decide +kernel) ha (by decide) (by decide) he hpl) pa_nil he') (by decide) (by decide) he' hpl') fun σ H Q ⟨μ, Z, ρ, s, hE, hR, q⟩ => by
    refine aE hE hR q fun ws s1 vs H1 μ1 e1 E1 R1 r1 q1 => ?_
    obtain ⟨w, hw, k⟩ := ofE q1
    unfold sortedSetL at hw
    split at hw
    · rename_i x
      split at hw
      · rename_i us ql
        split at hw
        · rename_i ns qi
          split at hw
          · rename_i hl
            cases hw
            obtain ⟨v, rfl, rx⟩ := one r1
            obtain ⟨a, xs, rfl, h2, h3⟩ := lstOf_ok R1 rx ql
            rw [intsOf_ok qi] at h3
            have h4 := h3.ints
            subst h4
            refine ⟨a, ns, rfl, SqL.of h2, by omega, fun p' c hp hcl => ?_⟩
            refine ⟨p', _, c, rfl, upd_same, by omega, fun ns' l hs hmem hlen hn => ?_⟩
            have hne : H1 l = none := by
              by_cases z : l = p'
              · rw [z]; exact hp
              · rw [upd_ne z] at hn; exact hn
            have eq : ns' = usrt ns := by
              obtain ⟨u1, u2⟩ := usrt_spec (srt ns) (srt_sorted ns)
              refine strict_eq hs u1 fun k => ?_
              rw [hmem k]
              exact decide_eq_true_iff.trans ((srt_perm ns).mem_iff.symm.trans (u2 k).symm)
            rw [eq]
            have R2 := R1.laid (o := SetO X.w p' (fun j => decide (j ∈ ns)) c) hp
            exact k _ _ ((Evo.laid hp).trans (Evo.laid hn)) (R2.laid hn) (new_lst R2 hn (RVs.of_ints _))
          · cases hw
        · cases hw
      · cases hw
    · cases hw
end
end MP
set_option Elab.async false
set_option linter.all false
set_option maxRecDepth 100000
set_option maxHeartbeats 4000000
namespace MP.PG
open PySem PySem.Spec PyProof.Rows L2 MP
noncomputable def d_is_int : FS := (mRet (mAndV (mBlt isiD (mCons (mVar 0) (mCons (mK (.ty "int")) mNil))) (mAndV (mBin isntD (mVar 0) (mK (.bl true))) (mBin isntD (mVar 0) (mK (.bl false))))))
noncomputable def g_is_int : Fn := denOf 1 d_is_int
noncomputable def d_is_int_within : FS := (mRet (mAndV (mCall (g_is_int) (mCons (mVar 0) mNil)) (mChain leD leD (mVar 1) (mVar 0) (mVar 2))))
noncomputable def g_is_int_within : Fn := denOf 3 d_is_int_within
noncomputable def d_is_tuple : FS := (mRet (mAndV (mBlt isiD (mCons (mVar 0) (mCons (mK (.ty "tuple")) mNil))) (mChain leD leD (mVar 1) (mBlt lenD (mCons (mVar 0) mNil)) (mVar 2))))
noncomputable def g_is_tuple : Fn := denOf 3 d_is_tuple
noncomputable def F_first_outside_1 : FI := (iEnum1 (mCons (mVar 0) mNil))
noncomputable def t_first_outside_1 : FG := (gT 2 (gsC (gN 3) (gsC (gN 4) gs0)))
noncomputable def b_first_outside_1 : FS := (mIfS (mOr (mNot (mTest (mBlt isiD (mCons (mVar 4) (mCons (mK (.ty "int")) mNil))))) (mOr (mTest (mBin isD (mVar 4) (mK (.bl true)))) (mOr (mTest (mBin isD (mVar 4) (mK (.bl false)))) (mNot (mTest (mChain leD leD (mVar 1) (mVar 4) (mVar 2))))))) (mRet (mVar 3)) mNext)
noncomputable def d_first_outside : FS := (mSeq (mFor F_first_outside_1 t_first_outside_1 b_first_outside_1)
  (mRet (mK .non)))
noncomputable def g_first_outside : Fn := denOf 5 d_first_outside
noncomputable def d_need_rule : FS := (mSeq (mIfS (mNot (mTest (mCall (g_is_tuple) (mCons (mVar 0) (mCons (mK (.int 1)) (mCons (mK (.int 6)) mNil)))))) mStuck mNext)
  (mSeq (mAsg (mCall (g_first_outside) (mCons (mVar 0) (mCons (mUn negD (mK (.int 20))) (mCons (mK (.int 20)) mNil)))) (gN 1))
  (mSeq (mIfS (mTest (mBin isntD (mVar 1) (mK .non))) mStuck mNext)
  (mRet (mVar 0)))))
noncomputable def g_need_rule : Fn := denOf 2 d_need_rule
noncomputable def d_is_result : FS := (mRet (mCall (g_is_int_within) (mCons (mVar 0) (mCons (mK (.int 0)) (mCons (mK (.int 1000000)) mNil)))))
noncomputable def g_is_result : Fn := denOf 1 d_is_result
noncomputable def d_need_row : FS := (mSeq (mIfS (mNot (mTest (mCall (g_is_tuple) (mCons (mVar 0) (mCons (mK (.int 0)) (mCons (mK (.int 200)) mNil)))))) mStuck mNext)
  (mSeq (mAsg (mCall (g_first_outside) (mCons (mVar 0) (mCons (mK (.int 0)) (mCons (mK (.int 1000000)) mNil)))) (gN 1))
  (mSeq (mIfS (mTest (mBin isntD (mVar 1) (mK .non))) mStuck mNext)
  (mRet (mVar 0)))))
noncomputable def g_need_row : Fn := denOf 2 d_need_row
noncomputable def d_need_row_of : FS := (mSeq (mExpr (mCall (g_need_row) (mCons (mVar 0) mNil)))
  (mSeq (mIfS (mTest (mBin ltD (mBlt lenD (mCons (mVar 0) mNil)) (mVar 1))) mStuck mNext)
  (mRet (mVar 0))))
noncomputable def g_need_row_of : Fn := denOf 2 d_need_row_of
noncomputable def cF_index_of_1 : FI := (iZip2 (mCons (mVar 0) (mCons (mVar 2) mNil)))
noncomputable def ct_index_of_1 : FG := (gT 2 (gsC (gN 3) (gsC (gN 4) gs0)))
noncomputable def ci_index_of_1 : FT := mYes
noncomputable def ce_index_of_1 : FE := (mBin mulD (mVar 3) (mVar 4))
noncomputable def d_index_of : FS := (mSeq (mAsg (mBlt sortedA (mCons (mSl slA (mVar 1) (mPart (mUn negD (mBlt lenD (mCons (mVar 0) mNil)))) mNoPart) mNil)) (gN 2))
  (mRet (mBlt sumA (mCons (mComp cF_index_of_1 [3, 4] ct_index_of_1 ci_index_of_1 ce_index_of_1) mNil))))
noncomputable def g_index_of : Fn := denOf 5 d_index_of
noncomputable def F_indexes_by_ones_1 : FI := (iSeq (mRev (mVar 0)))
noncomputable def t_indexes_by_ones_1 : FG := (gN 2)
noncomputable def b_indexes_by_ones_1 : FS := (mExpr (mApp (mVar 1) (mBin addD (mBin ixA (mVar 1) (mUn negD (mK (.int 1)))) (mVar 2))))
noncomputable def d_indexes_by_ones : FS := (mSeq (mAsg (mLstM (mCons (mK (.int 0)) mNil)) (gN 1))
  (mSeq (mFor F_indexes_by_ones_1 t_indexes_by_ones_1 b_indexes_by_ones_1)
  (mRet (mVar 1))))
noncomputable def g_indexes_by_ones : Fn := denOf 3 d_indexes_by_ones
noncomputable def d_need_rounds : FS := (mSeq (mIfS (mNot (mTest (mCall (g_is_int_within) (mCons (mVar 0) (mCons (mK (.int 0)) (mCons (mK (.int 200)) mNil)))))) mStuck mNext)
  (mRet (mVar 0)))
noncomputable def g_need_rounds : Fn := denOf 1 d_need_rounds
noncomputable def d_need_ahead : FS := (mSeq (mExpr (mCall (g_need_rule) (mCons (mVar 0) mNil)))
  (mSeq (mExpr (mCall (g_need_row_of) (mCons (mVar 1) (mCons (mBlt lenD (mCons (mVar 0) mNil)) mNil))))
  (mIfS (mNot (mTest (mCall (g_is_result) (mCons (mVar 2) mNil)))) mStuck mNext)))
noncomputable def g_need_ahead : Fn := denOf 3 d_need_ahead
noncomputable def cF_ascending_lots_1 : FI := (iSeq (mVar 2))
noncomputable def ct_ascending_lots_1 : FG := (gN 4)
noncomputable def ci_ascending_lots_1 : FT := mYes
noncomputable def cF1_ascending_lots_1 : FI := (iSeq (mVar 0))
noncomputable def ct1_ascending_lots_1 : FG := (gN 5)
noncomputable def ci1_ascending_lots_1 : FT := (mOr (mNot (mTruth (mVar 4))) (mTest (mBin leD (mBin ixA (mVar 4) (mUn negD (mK (.int 1)))) (mVar 5))))
noncomputable def ce_ascending_lots_1 : FE := (mBin addD (mVar 4) (mTup (mCons (mVar 5) mNil)))
noncomputable def F_ascending_lots_1 : FI := (iRange1 (mCons (mVar 1) mNil))
noncomputable def t_ascending_lots_1 : FG := (gN 3)
noncomputable def b_ascending_lots_1 : FS := (mAsg (mComp2 cF_ascending_lots_1 [4, 5] ct_ascending_lots_1 ci_ascending_lots_1 cF1_ascending_lots_1 [5] ct1_ascending_lots_1 ci1_ascending_lots_1 ce_ascending_lots_1) (gN 2))
noncomputable def d_ascending_lots : FS := (mSeq (mAsg (mLst (mCons (mTup mNil) mNil)) (gN 2))
  (mSeq (mFor F_ascending_lots_1 t_ascending_lots_1 b_ascending_lots_1)
  (mRet (mVar 2))))
noncomputable def g_ascending_lots : Fn := denOf 6 d_ascending_lots
noncomputable def cF_ends_of_1 : FI := (iSeq (mVar 5))
noncomputable def ct_ends_of_1 : FG := (gN 7)
noncomputable def ci_ends_of_1 : FT := (mTest (mBin ltD (mVar 7) (mVar 2)))
noncomputable def ce_ends_of_1 : FE := (mVar 7)
noncomputable def cF_ends_of_2 : FI := (iSeq (mCall (g_ascending_lots) (mCons (mVar 6) (mCons (mVar 4) mNil))))
noncomputable def ct_ends_of_2 : FG := (gN 8)
noncomputable def ci_ends_of_2 : FT := mYes
noncomputable def ce_ends_of_2 : FE := (mTup (mCons (mCall (g_index_of) (mCons (mVar 0) (mCons (mBin addD (mVar 5) (mVar 8)) mNil))) (mCons (mVar 8) mNil)))
noncomputable def d_ends_of : FS := (mSeq (mAsg (mBlt min2D (mCons (mVar 3) (mCons (mBlt lenD (mCons (mVar 0) mNil)) mNil))) (gN 4))
  (mSeq (mAsg (mSl slA (mVar 1) (mPart (mBin addD (mBin subD (mBlt lenD (mCons (mVar 1) mNil)) (mBlt lenD (mCons (mVar 0) mNil))) (mVar 4))) mNoPart) (gN 5))
  (mSeq (mAsg (mBlt sortedSetL (mCons (mBin addD (mLst (mCons (mK (.int 0)) (mCons (mVar 2) mNil))) (mComp cF_ends_of_1 [7] ct_ends_of_1 ci_ends_of_1 ce_ends_of_1)) mNil)) (gN 6))
  (mRet (mComp cF_ends_of_2 [8] ct_ends_of_2 ci_ends_of_2 ce_ends_of_2)))))
noncomputable def g_ends_of : Fn := denOf 9 d_ends_of
noncomputable def cF_reach_of_1 : FI := (iSeq (mCall (g_ends_of) (mCons (mVar 0) (mCons (mVar 1) (mCons (mVar 2) (mCons (mVar 3) mNil))))))
noncomputable def ct_reach_of_1 : FG := (gT 2 (gsC (gN 5) (gsC (gN 6) gs0)))
noncomputable def ci_reach_of_1 : FT := mYes
noncomputable def ce_reach_of_1 : FE := (mVar 5)
noncomputable def d_reach_of : FS := (mSeq (mAsg (mComp cF_reach_of_1 [5, 6] ct_reach_of_1 ci_reach_of_1 ce_reach_of_1) (gN 4))
  (mRet (mTup (mCons (mBlt minLD (mCons (mVar 4) mNil)) (mCons (mBlt maxLD (mCons (mVar 4) mNil)) mNil)))))
noncomputable def g_reach_of : Fn := denOf 7 d_reach_of
noncomputable def d_reach : FS := (mSeq (mExpr (mCall (g_need_ahead) (mCons (mVar 0) (mCons (mVar 1) (mCons (mVar 2) mNil)))))
  (mRet (mCall (g_reach_of) (mCons (mVar 0) (mCons (mVar 1) (mCons (mVar 2) (mCons (mCall (g_need_rounds) (mCons (mVar 3) mNil)) mNil)))))))
noncomputable def g_reach : Fn := denOf 4 d_reach
noncomputable def d_greatest_way : FS := (mSeq (mExpr (mCall (g_need_ahead) (mCons (mVar 0) (mCons (mVar 1) (mCons (mVar 2) mNil)))))
  (mSeq (mAsg (mBlt maxPD (mCons (mCall (g_ends_of) (mCons (mVar 0) (mCons (mVar 1) (mCons (mVar 2) (mCons (mCall (g_need_rounds) (mCons (mVar 3) mNil)) mNil))))) mNil)) (gT 2 (gsC (gN 4) (gsC (gN 5) gs0))))
  (mRet (mBin addD (mBin mulD (mTup (mCons (mK (.int 0)) mNil)) (mBin subD (mVar 3) (mBlt lenD (mCons (mVar 5) mNil)))) (mVar 5)))))
noncomputable def g_greatest_way : Fn := denOf 6 d_greatest_way
noncomputable def F_soonest_1 : FI := (iRange1 (mCons (mBin addD (mBlt lenD (mCons (mVar 0) mNil)) (mK (.int 1))) mNil))
noncomputable def t_soonest_1 : FG := (gN 4)
noncomputable def b_soonest_1 : FS := (mIfS (mTest (mBin geD (mBin ixA (mCall (g_reach_of) (mCons (mVar 0) (mCons (mVar 1) (mCons (mVar 2) (mCons (mVar 4) mNil))))) (mK (.int 1))) (mVar 3))) (mRet (mVar 4)) mNext)
noncomputable def d_soonest : FS := (mSeq (mExpr (mCall (g_need_ahead) (mCons (mVar 0) (mCons (mVar 1) (mCons (mVar 2) mNil)))))
  (mSeq (mIfS (mNot (mTest (mCall (g_is_int) (mCons (mVar 3) mNil)))) mStuck mNext)
  (mSeq (mFor F_soonest_1 t_soonest_1 b_soonest_1)
  (mRet (mK .non)))))
noncomputable def g_soonest : Fn := denOf 5 d_soonest
noncomputable def cF0_rises_of_1 : FI := (iRange1 (mCons (mBin addD (mVar 2) (mK (.int 1))) mNil))
noncomputable def ct0_rises_of_1 : FG := (gN 4)
noncomputable def cF1_rises_of_1 : FI := (iRange1 (mCons (mBin addD (mBin subD (mBlt lenD (mCons (mVar 0) mNil)) (mVar 2)) (mK (.int 1))) mNil))
noncomputable def ct1_rises_of_1 : FG := (gN 5)
noncomputable def cF2_rises_of_1 : FI := (iRange1 (mCons (mBin addD (mVar 2) (mK (.int 1))) mNil))
noncomputable def ct2_rises_of_1 : FG := (gN 6)
noncomputable def ce_rises_of_1 : FE := (mTup (mCons (mBin subD (mBin ixA (mVar 3) (mBin addD (mVar 5) (mVar 6))) (mBin ixA (mVar 3) (mBin addD (mVar 4) (mVar 5)))) (mCons (mTup (mCons (mVar 4) (mCons (mVar 5) (mCons (mVar 6) mNil)))) mNil)))
noncomputable def d_rises_of : FS := (mSeq (mAsg (mBlt min2D (mCons (mVar 1) (mCons (mBlt lenD (mCons (mVar 0) mNil)) mNil))) (gN 2))
  (mSeq (mAsg (mCall (g_indexes_by_ones) (mCons (mVar 0) mNil)) (gN 3))
  (mRet (mComp3 cF0_rises_of_1 [4, 5, 6] ct0_rises_of_1 cF1_rises_of_1 [5, 6] ct1_rises_of_1 cF2_rises_of_1 [6] ct2_rises_of_1 ce_rises_of_1))))
noncomputable def g_rises_of : Fn := denOf 7 d_rises_of
noncomputable def cF_rise_1 : FI := (iSeq (mCall (g_rises_of) (mCons (mVar 0) (mCons (mCall (g_need_rounds) (mCons (mVar 1) mNil)) mNil))))
noncomputable def ct_rise_1 : FG := (gT 2 (gsC (gN 2) (gsC (gN 3) gs0)))
noncomputable def ci_rise_1 : FT := mYes
noncomputable def ce_rise_1 : FE := (mVar 2)
noncomputable def d_rise : FS := (mSeq (mExpr (mCall (g_need_rule) (mCons (mVar 0) mNil)))
  (mRet (mBlt maxLD (mCons (mComp cF_rise_1 [2, 3] ct_rise_1 ci_rise_1 ce_rise_1) mNil))))
noncomputable def g_rise : Fn := denOf 4 d_rise
noncomputable def d_fall : FS := (mRet (mCall (g_rise) (mCons (mVar 0) (mCons (mVar 1) mNil))))
noncomputable def g_fall : Fn := denOf 2 d_fall
noncomputable def d_first_bits : FS := (mRet (mBin addD (mBin mulD (mTup (mCons (mK (.int 0)) mNil)) (mBin subD (mVar 0) (mVar 1))) (mBin mulD (mTup (mCons (mK (.int 1)) mNil)) (mVar 1))))
noncomputable def g_first_bits : Fn := denOf 2 d_first_bits
noncomputable def cF_rise_row_1 : FI := (iSeq (mCall (g_rises_of) (mCons (mVar 0) (mCons (mVar 1) mNil))))
noncomputable def ct_rise_row_1 : FG := (gT 2 (gsC (gN 8) (gsC (gN 9) gs0)))
noncomputable def ci_rise_row_1 : FT := (mTest (mBin eqD (mVar 8) (mVar 2)))
noncomputable def ce_rise_row_1 : FE := (mVar 9)
noncomputable def d_rise_row : FS := (mSeq (mAsg (mCall (g_rise) (mCons (mVar 0) (mCons (mVar 1) mNil))) (gN 2))
  (mSeq (mAsg (mBlt min2D (mCons (mVar 1) (mCons (mBlt lenD (mCons (mVar 0) mNil)) mNil))) (gN 3))
  (mSeq (mAsg (mBin ixA (mComp cF_rise_row_1 [8, 9] ct_rise_row_1 ci_rise_row_1 ce_rise_row_1) (mK (.int 0))) (gT 3 (gsC (gN 4) (gsC (gN 5) (gsC (gN 6) gs0)))))
  (mSeq (mAsg (mBin addD (mCall (g_first_bits) (mCons (mVar 3) (mCons (mVar 4) mNil))) (mCall (g_first_bits) (mCons (mBin subD (mBlt lenD (mCons (mVar 0) mNil)) (mVar 3)) (mCons (mVar 5) mNil)))) (gN 7))
  (mRet (mBin addD (mBin addD (mVar 7) (mBin mulD (mTup (mCons (mK (.int 0)) mNil)) (mBin subD (mVar 1) (mVar 3)))) (mCall (g_first_bits) (mCons (mVar 3) (mCons (mVar 6) mNil)))))))))
noncomputable def g_rise_row : Fn := denOf 10 d_rise_row
noncomputable def cF__law_begun_1 : FI := (iSeq (mVar 2))
noncomputable def ct__law_begun_1 : FG := (gN 5)
noncomputable def ci__law_begun_1 : FT := (mTest (mBin geD (mVar 5) (mBin powD (mK (.int 10)) (mK (.int 18)))))
noncomputable def ce__law_begun_1 : FE := (mVar 5)
noncomputable def F__law_begun_1 : FI := (iSeq (mVar 2))
noncomputable def t__law_begun_1 : FG := (gN 5)
noncomputable def b__law_begun_1 : FS := (mAsg (mBin modD (mBlt intD (mCons (mBin addD (mBin mulD (mVar 4) (mK (.int 48271))) (mVar 5)) mNil)) (mK (.int 2147483647))) (gN 4))
noncomputable def d__law_begun : FS := (mSeq (mAsg (mBin addD (mSl slA (mVar 0) (mPart (mVar 1)) mNoPart) (mSl slA (mVar 0) mNoPart (mPart (mVar 1)))) (gN 2))
  (mSeq (mAsg (mComp cF__law_begun_1 [5] ct__law_begun_1 ci__law_begun_1 ce__law_begun_1) (gN 3))
  (mSeq (mAsg (mBin addD (mK (.int 103)) (mVar 1)) (gN 4))
  (mSeq (mFor F__law_begun_1 t__law_begun_1 b__law_begun_1)
  (mRet (mDctM [((mK (.str "left")), (mIf (mTest (mBin neD (mVar 3) (mLst mNil))) (mBin ixA (mVar 3) (mK (.int 0))) (mK (.int 0)))), ((mK (.str "seed")), (mVar 4)), ((mK (.str "cells")), (mBin addD (mVar 2) (mLst (mCons (mBin addD (mBin mulD (mK (.int 37)) (mVar 1)) (mK (.int 11))) mNil)))), ((mK (.str "spot")), (mK (.int 0)))]))))))
noncomputable def g__law_begun : Fn := denOf 6 d__law_begun
noncomputable def d__law_draw : FS := (mSeq (mIfS (mTest (mBin gtD (mBin ixA (mVar 0) (mK (.str "left"))) (mK (.int 0)))) (mSeq (mAsg (mBin modD (mBlt intD (mCons (mBin ixA (mVar 0) (mK (.str "left"))) mNil)) (mVar 1)) (gN 2))
  (mSeq (mDPut (mVar 0) (mK (.str "left")) (mBin divD (mBin ixA (mVar 0) (mK (.str "left"))) (mVar 1)))
  (mRet (mVar 2)))) mNext)
  (mSeq (mAsg (mBin ixA (mVar 0) (mK (.str "spot"))) (gN 3))
  (mSeq (mDPut (mVar 0) (mK (.str "spot")) (mBin addD (mVar 3) (mK (.int 1))))
  (mSeq (mPar 4 5 (mCons (mBin ixA (mVar 0) (mK (.str "cells"))) (mCons (mBin addD (mBin ixA (mVar 0) (mK (.str "seed"))) (mBin mulD (mBin mulD (mK (.int 40503)) (mVar 3)) (mVar 3))) mNil)))
  (mSeq (mAsg (mBin ixA (mVar 4) (mBin modD (mBlt intD (mCons (mVar 3) mNil)) (mBlt lenD (mCons (mVar 4) mNil)))) (gN 6))
  (mSeq (mAsg (mBin modD (mBlt intD (mCons (mBin addD (mBin mulD (mVar 6) (mBin addD (mBin mulD (mK (.int 2)) (mVar 3)) (mK (.int 3)))) (mVar 5)) mNil)) (mK (.int 2147483647))) (gN 7))
  (mSeq (mAsg (mBin modD (mBlt intD (mCons (mBin addD (mBin addD (mBin mulD (mVar 7) (mVar 7)) (mBin mulD (mK (.int 69621)) (mVar 3))) (mBin ixA (mVar 0) (mK (.str "seed")))) mNil)) (mK (.int 2147483629))) (gN 7))
  (mRet (mBin modD (mBin divD (mBin modD (mBlt intD (mCons (mBin addD (mBin mulD (mVar 7) (mK (.int 48271))) (mVar 3)) mNil)) (mK (.int 2147483647))) (mK (.int 11))) (mVar 1))))))))))
noncomputable def g__law_draw : Fn := denOf 8 d__law_draw
noncomputable def d__law_of : FS := (mRet (mBin ixA (mVar 1) (mCall (g__law_draw) (mCons (mVar 0) (mCons (mBlt lenD (mCons (mVar 1) mNil)) mNil)))))
noncomputable def g__law_of : Fn := denOf 2 d__law_of
noncomputable def cF__law_tune_1 : FI := (iRange1 (mCons (mBin addD (mK (.int 1)) (mCall (g__law_draw) (mCons (mVar 0) (mCons (mVar 1) mNil)))) mNil))
noncomputable def ct__law_tune_1 : FG := (gN 2)
noncomputable def ci__law_tune_1 : FT := mYes
noncomputable def ce__law_tune_1 : FE := (mBin subD (mCall (g__law_draw) (mCons (mVar 0) (mCons (mK (.int 9)) mNil))) (mK (.int 3)))
noncomputable def d__law_tune : FS := (mRet (mBlt tupleD (mCons (mComp cF__law_tune_1 [2] ct__law_tune_1 ci__law_tune_1 ce__law_tune_1) mNil)))
noncomputable def g__law_tune : Fn := denOf 3 d__law_tune
noncomputable def cF__law_sum_1 : FI := (iZip2 (mCons (mVar 0) (mCons (mBlt sortedA (mCons (mVar 1) mNil)) mNil)))
noncomputable def ct__law_sum_1 : FG := (gT 2 (gsC (gN 2) (gsC (gN 3) gs0)))
noncomputable def ci__law_sum_1 : FT := mYes
noncomputable def ce__law_sum_1 : FE := (mBin mulD (mVar 2) (mVar 3))
noncomputable def d__law_sum : FS := (mRet (mBlt sumA (mCons (mComp cF__law_sum_1 [2, 3] ct__law_sum_1 ci__law_sum_1 ce__law_sum_1) mNil)))
noncomputable def g__law_sum : Fn := denOf 4 d__law_sum
noncomputable def cF__law_all_1 : FI := (iSeq (mVar 0))
noncomputable def ct__law_all_1 : FG := (gN 6)
noncomputable def ci__law_all_1 : FT := mYes
noncomputable def ce__law_all_1 : FE := (mBin addD (mVar 5) (mTup (mCons (mVar 6) mNil)))
noncomputable def F__law_all_1 : FI := (iSeq (mVar 2))
noncomputable def t__law_all_1 : FG := (gN 5)
noncomputable def b__law_all_1 : FS := (mAsg (mBin addD (mVar 4) (mComp cF__law_all_1 [6] ct__law_all_1 ci__law_all_1 ce__law_all_1)) (gN 4))
noncomputable def F__law_all_2 : FI := (iRange1 (mCons (mVar 1) mNil))
noncomputable def t__law_all_2 : FG := (gN 3)
noncomputable def b__law_all_2 : FS := (mSeq (mAsg (mLst mNil) (gN 4))
  (mSeq (mFor F__law_all_1 t__law_all_1 b__law_all_1)
  (mAsg (mVar 4) (gN 2))))
noncomputable def d__law_all : FS := (mSeq (mAsg (mLst (mCons (mTup mNil) mNil)) (gN 2))
  (mSeq (mFor F__law_all_2 t__law_all_2 b__law_all_2)
  (mRet (mVar 2))))
noncomputable def g__law_all : Fn := denOf 7 d__law_all
end MP.PG
set_option Elab.async false
set_option linter.all false
set_option maxRecDepth 100000
set_option maxHeartbeats 4000000
namespace MP.K45
open PySem PySem.Spec PyProof.Rows L2 MP MP.PG
def topS (i : Nat) : Stmt := PySem.Challenge.pw_bestoflast_k45_whole_indexes_to_come.main.body.getD i (.Pass ⟨0, 0, 0, 0⟩)
structure Ns (Γ : Ct) (mg : Str → Option Value) : Prop where
  n_bool : mg "bool" = none
  n_enumerate : mg "enumerate" = none
  n_int : mg "int" = none
  n_isinstance : mg "isinstance" = none
  n_len : mg "len" = none
  n_list : mg "list" = none
  n_max : mg "max" = none
  n_min : mg "min" = none
  n_range : mg "range" = none
  n_repr : mg "repr" = none
  n_set : mg "set" = none
  n_sorted : mg "sorted" = none
  n_sum : mg "sum" = none
  n_tuple : mg "tuple" = none
  n_zip : mg "zip" = none
  c_GREATEST_RESULT : ∃ t, mg "GREATEST_RESULT" = some (.int 1000000 t)
  c_GREATEST_WEIGHT : ∃ t, mg "GREATEST_WEIGHT" = some (.int 20 t)
  c_MOST_RESULTS : ∃ t, mg "MOST_RESULTS" = some (.int 200 t)
  c_MOST_WEIGHTS : ∃ t, mg "MOST_WEIGHTS" = some (.int 6 t)
abbrev s_is_int : Stmt := topS 6
theorem sc_is_int : FnScope ["thing"] ["thing"] (defScope s_is_int) := ⟨rfl, rfl, rfl, by decide +kernel, rfl, by decide +kernel, by decide +kernel⟩
abbrev s_is_int_within : Stmt := topS 7
theorem sc_is_int_within : FnScope ["thing", "least", "most"] ["thing", "least", "most"] (defScope s_is_int_within) := ⟨rfl, rfl, rfl, by decide +kernel, rfl, by decide +kernel, by decide +kernel⟩
abbrev s_is_tuple : Stmt := topS 8
theorem sc_is_tuple : FnScope ["thing", "least", "most"] ["thing", "least", "most"] (defScope s_is_tuple) := ⟨rfl, rfl, rfl, by decide +kernel, rfl, by decide +kernel, by decide +kernel⟩
abbrev s_first_outside : Stmt := topS 9
theorem sc_first_outside : FnScope ["things", "least", "most", "number", "thing"] ["things", "least", "most"] (defScope s_first_outside) := ⟨rfl, rfl, rfl, by decide +kernel, rfl, by decide +kernel, by decide +kernel⟩
abbrev s_need_rule : Stmt := topS 15
theorem sc_need_rule : FnScope ["thing", "number"] ["thing"] (defScope s_need_rule) := ⟨rfl, rfl, rfl, by decide +kernel, rfl, by decide +kernel, by decide +kernel⟩
abbrev s_is_result : Stmt := topS 16
theorem sc_is_result : FnScope ["thing"] ["thing"] (defScope s_is_result) := ⟨rfl, rfl, rfl, by decide +kernel, rfl, by decide +kernel, by decide +kernel⟩
abbrev s_need_row : Stmt := topS 17
theorem sc_need_row : FnScope ["thing", "number"] ["thing"] (defScope s_need_row) := ⟨rfl, rfl, rfl, by decide +kernel, rfl, by decide +kernel, by decide +kernel⟩
abbrev s_need_row_of : Stmt := topS 18
theorem sc_need_row_of : FnScope ["thing", "least"] ["thing", "least"] (defScope s_need_row_of) := ⟨rfl, rfl, rfl, by decide +kernel, rfl, by decide +kernel, by decide +kernel⟩
abbrev s_index_of : Stmt := topS 19
theorem sc_index_of : FnScope ["rule", "results", "last", "weight", "result"] ["rule", "results"] (defScope s_index_of) := ⟨rfl, rfl, rfl, by decide +kernel, rfl, by decide +kernel, by decide +kernel⟩
abbrev s_indexes_by_ones : Stmt := topS 20
theorem sc_indexes_by_ones : FnScope ["rule", "told", "weight"] ["rule"] (defScope s_indexes_by_ones) := ⟨rfl, rfl, rfl, by decide +kernel, rfl, by decide +kernel, by decide +kernel⟩
abbrev s_need_rounds : Stmt := topS 22
theorem sc_need_rounds : FnScope ["thing"] ["thing"] (defScope s_need_rounds) := ⟨rfl, rfl, rfl, by decide +kernel, rfl, by decide +kernel, by decide +kernel⟩
abbrev s_need_ahead : Stmt := topS 23
theorem sc_need_ahead : FnScope ["rule", "row", "most"] ["rule", "row", "most"] (defScope s_need_ahead) := ⟨rfl, rfl, rfl, by decide +kernel, rfl, by decide +kernel, by decide +kernel⟩
abbrev s_ascending_lots : Stmt := topS 24
theorem sc_ascending_lots : FnScope ["values", "many", "lots", "_", "lot", "value"] ["values", "many"] (defScope s_ascending_lots) := ⟨rfl, rfl, rfl, by decide +kernel, rfl, by decide +kernel, by decide +kernel⟩
abbrev s_ends_of : Stmt := topS 25
theorem sc_ends_of : FnScope ["rule", "row", "most", "rounds", "free", "kept", "values", "result", "lot"] ["rule", "row", "most", "rounds"] (defScope s_ends_of) := ⟨rfl, rfl, rfl, by decide +kernel, rfl, by decide +kernel, by decide +kernel⟩
abbrev s_reach_of : Stmt := topS 26
theorem sc_reach_of : FnScope ["rule", "row", "most", "rounds", "indexes", "index", "_"] ["rule", "row", "most", "rounds"] (defScope s_reach_of) := ⟨rfl, rfl, rfl, by decide +kernel, rfl, by decide +kernel, by decide +kernel⟩
abbrev s_reach : Stmt := topS 27
theorem sc_reach : FnScope ["rule", "row", "most", "rounds"] ["rule", "row", "most", "rounds"] (defScope s_reach) := ⟨rfl, rfl, rfl, by decide +kernel, rfl, by decide +kernel, by decide +kernel⟩
abbrev s_greatest_way : Stmt := topS 28
theorem sc_greatest_way : FnScope ["rule", "row", "most", "rounds", "_", "lot"] ["rule", "row", "most", "rounds"] (defScope s_greatest_way) := ⟨rfl, rfl, rfl, by decide +kernel, rfl, by decide +kernel, by decide +kernel⟩
abbrev s_soonest : Stmt := topS 29
theorem sc_soonest : FnScope ["rule", "row", "most", "goal", "rounds"] ["rule", "row", "most", "goal"] (defScope s_soonest) := ⟨rfl, rfl, rfl, by decide +kernel, rfl, by decide +kernel, by decide +kernel⟩
abbrev s_rises_of : Stmt := topS 30
theorem sc_rises_of : FnScope ["rule", "rounds", "alone", "told", "first", "both", "last"] ["rule", "rounds"] (defScope s_rises_of) := ⟨rfl, rfl, rfl, by decide +kernel, rfl, by decide +kernel, by decide +kernel⟩
abbrev s_rise : Stmt := topS 31
theorem sc_rise : FnScope ["rule", "rounds", "much", "_"] ["rule", "rounds"] (defScope s_rise) := ⟨rfl, rfl, rfl, by decide +kernel, rfl, by decide +kernel, by decide +kernel⟩
abbrev s_fall : Stmt := topS 32
theorem sc_fall : FnScope ["rule", "rounds"] ["rule", "rounds"] (defScope s_fall) := ⟨rfl, rfl, rfl, by decide +kernel, rfl, by decide +kernel, by decide +kernel⟩
abbrev s_first_bits : Stmt := topS 33
theorem sc_first_bits : FnScope ["many", "ones"] ["many", "ones"] (defScope s_first_bits) := ⟨rfl, rfl, rfl, by decide +kernel, rfl, by decide +kernel, by decide +kernel⟩
abbrev s_rise_row : Stmt := topS 34
theorem sc_rise_row : FnScope ["rule", "rounds", "most", "alone", "first", "both", "last", "ahead", "much", "ones"] ["rule", "rounds"] (defScope s_rise_row) := ⟨rfl, rfl, rfl, by decide +kernel, rfl, by decide +kernel, by decide +kernel⟩
abbrev s__law_begun : Stmt := topS 36
theorem sc__law_begun : FnScope ["script", "k", "cells", "great", "seed", "cell"] ["script", "k"] (defScope s__law_begun) := ⟨rfl, rfl, rfl, by decide +kernel, rfl, by decide +kernel, by decide +kernel⟩
abbrev s__law_draw : Stmt := topS 37
theorem sc__law_draw : FnScope ["m", "limit", "found", "spot", "cells", "added", "cell", "blend"] ["m", "limit"] (defScope s__law_draw) := ⟨rfl, rfl, rfl, by decide +kernel, rfl, by decide +kernel, by decide +kernel⟩
abbrev s__law_of : Stmt := topS 38
theorem sc__law_of : FnScope ["m", "some"] ["m", "some"] (defScope s__law_of) := ⟨rfl, rfl, rfl, by decide +kernel, rfl, by decide +kernel, by decide +kernel⟩
abbrev s__law_tune : Stmt := topS 39
theorem sc__law_tune : FnScope ["m", "limit", "k"] ["m", "limit"] (defScope s__law_tune) := ⟨rfl, rfl, rfl, by decide +kernel, rfl, by decide +kernel, by decide +kernel⟩
abbrev s__law_sum : Stmt := topS 40
theorem sc__law_sum : FnScope ["tune", "some", "weight", "one"] ["tune", "some"] (defScope s__law_sum) := ⟨rfl, rfl, rfl, by decide +kernel, rfl, by decide +kernel, by decide +kernel⟩
abbrev s__law_all : Stmt := topS 41
theorem sc__law_all : FnScope ["marks", "many", "found", "lap", "longer", "row", "mark"] ["marks", "many"] (defScope s__law_all) := ⟨rfl, rfl, rfl, by decide +kernel, rfl, by decide +kernel, by decide +kernel⟩
abbrev s__law_ends : Stmt := topS 42
theorem sc__law_ends : FnScope ["tune", "film", "top_so", "count", "some", "far", "whole"] ["tune", "film", "top_so", "count"] (defScope s__law_ends) := ⟨rfl, rfl, rfl, by decide +kernel, rfl, by decide +kernel, by decide +kernel⟩
noncomputable def F__law_ends_1 : FI := (iSeq (mCall (g__law_all) (mCons (mListRg1 (mBin addD (mVar 2) (mK (.int 1)))) (mCons (mVar 3) mNil))))
noncomputable def t__law_ends_1 : FG := (gN 5)
noncomputable def b__law_ends_1 : FS := (mSeq (mAsg (mBin addD (mVar 1) (mVar 5)) (gN 6))
  (mExpr (mApp (mVar 4) (mCall (g__law_sum) (mCons (mVar 0) (mCons (mSl slA (mVar 6) (mPart (mBin subD (mBlt lenD (mCons (mVar 6) mNil)) (mBlt lenD (mCons (mVar 0) mNil)))) mNoPart) mNil))))))
noncomputable def d__law_ends : FS := (mSeq (mAsg (mLstM mNil) (gN 4))
  (mSeq (mFor F__law_ends_1 t__law_ends_1 b__law_ends_1)
  (mRet (mTup (mCons (mBlt minLD (mCons (mVar 4) mNil)) (mCons (mBlt maxLD (mCons (mVar 4) mNil)) mNil))))))
noncomputable def g__law_ends : Fn := denOf 7 d__law_ends
abbrev s__law_soonest : Stmt := topS 43
theorem sc__law_soonest : FnScope ["tune", "film", "top_so", "least", "some", "count"] ["tune", "film", "top_so", "least"] (defScope s__law_soonest) := ⟨rfl, rfl, rfl, by decide +kernel, rfl, by decide +kernel, by decide +kernel⟩
noncomputable def cF__law_soonest_1 : FI := (iRange1 (mCons (mBin addD (mBlt lenD (mCons (mVar 0) mNil)) (mK (.int 1))) mNil))
noncomputable def ct__law_soonest_1 : FG := (gN 5)
noncomputable def ci__law_soonest_1 : FT := (mTest (mBin geD (mBin ixA (mCall (g__law_ends) (mCons (mVar 0) (mCons (mVar 1) (mCons (mVar 2) (mCons (mVar 5) mNil))))) (mK (.int 1))) (mVar 3)))
noncomputable def ce__law_soonest_1 : FE := (mVar 5)
noncomputable def d__law_soonest : FS := (mSeq (mAsg (mComp cF__law_soonest_1 [5] ct__law_soonest_1 ci__law_soonest_1 ce__law_soonest_1) (gN 4))
  (mRet (mIf (mTest (mBin neD (mVar 4) (mLst mNil))) (mBin ixA (mVar 4) (mK (.int 0))) (mK .non))))
noncomputable def g__law_soonest : Fn := denOf 6 d__law_soonest
abbrev s__law_way_right : Stmt := topS 44
theorem sc__law_way_right : FnScope ["tune", "film", "top_so", "count", "due", "far", "whole", "one"] ["tune", "film", "top_so", "count", "due"] (defScope s__law_way_right) := ⟨rfl, rfl, rfl, by decide +kernel, rfl, by decide +kernel, by decide +kernel⟩
noncomputable def cF__law_way_right_1 : FI := (iSeq (mVar 5))
noncomputable def ct__law_way_right_1 : FG := (gN 7)
noncomputable def ci__law_way_right_1 : FT := (mOr (mNot (mTest (mBlt isiD (mCons (mVar 7) (mCons (mK (.ty "int")) mNil))))) (mOr (mTest (mBlt isiD (mCons (mVar 7) (mCons (mK (.ty "bool")) mNil)))) (mNot (mTest (mChain leD leD (mK (.int 0)) (mVar 7) (mVar 2))))))
noncomputable def ce__law_way_right_1 : FE := (mVar 7)
noncomputable def d__law_way_right : FS := (mSeq (mAsg (mCall (g_greatest_way) (mCons (mVar 0) (mCons (mVar 1) (mCons (mVar 2) (mCons (mVar 3) mNil))))) (gN 5))
  (mSeq (mIfS (mOr (mNot (mTest (mBlt isiD (mCons (mVar 5) (mCons (mK (.ty "tuple")) mNil))))) (mOr (mTest (mBin neD (mBlt lenD (mCons (mVar 5) mNil)) (mVar 3))) (mTest (mBin neD (mCall (g_greatest_way) (mCons (mVar 0) (mCons (mVar 1) (mCons (mVar 2) (mCons (mVar 3) mNil))))) (mVar 5))))) (mRet (mK (.bl false))) mNext)
  (mSeq (mIfS (mTest (mBin neD (mComp cF__law_way_right_1 [7] ct__law_way_right_1 ci__law_way_right_1 ce__law_way_right_1) (mLst mNil))) (mRet (mK (.bl false))) mNext)
  (mSeq (mAsg (mBin addD (mVar 1) (mVar 5)) (gN 6))
  (mRet (mBin eqD (mCall (g__law_sum) (mCons (mVar 0) (mCons (mSl slA (mVar 6) (mPart (mBin subD (mBlt lenD (mCons (mVar 6) mNil)) (mBlt lenD (mCons (mVar 0) mNil)))) mNoPart) mNil))) (mVar 4)))))))
noncomputable def g__law_way_right : Fn := denOf 8 d__law_way_right
abbrev s__law_changes : Stmt := topS 45
theorem sc__law_changes : FnScope ["tune", "count", "wide", "found", "bits"] ["tune", "count"] (defScope s__law_changes) := ⟨rfl, rfl, rfl, by decide +kernel, rfl, by decide +kernel, by decide +kernel⟩
noncomputable def F__law_changes_1 : FI := (iSeq (mCall (g__law_all) (mCons (mTup (mCons (mK (.int 0)) (mCons (mK (.int 1)) mNil))) (mCons (mBin addD (mVar 2) (mVar 1)) mNil))))
noncomputable def t__law_changes_1 : FG := (gN 4)
noncomputable def b__law_changes_1 : FS := (mExpr (mApp (mVar 3) (mTup (mCons (mBin subD (mCall (g__law_sum) (mCons (mVar 0) (mCons (mSl slA (mVar 4) (mPart (mVar 1)) mNoPart) mNil))) (mCall (g__law_sum) (mCons (mVar 0) (mCons (mSl slA (mVar 4) mNoPart (mPart (mVar 2))) mNil)))) (mCons (mVar 4) mNil)))))
noncomputable def d__law_changes : FS := (mSeq (mPar 2 3 (mCons (mBlt lenD (mCons (mVar 0) mNil)) (mCons (mLstM mNil) mNil)))
  (mSeq (mFor F__law_changes_1 t__law_changes_1 b__law_changes_1)
  (mRet (mVar 3))))
noncomputable def g__law_changes : Fn := denOf 5 d__law_changes
abbrev s__law_right : Stmt := topS 46
theorem sc__law_right : FnScope ["m", "tune", "film", "top_so", "count", "least", "kept", "due", "goal_so", "again", "told_so", "some", "amounts", "first", "k", "one", "amount", "bits"] ["m", "tune"] (defScope s__law_right) := ⟨rfl, rfl, rfl, by decide +kernel, rfl, by decide +kernel, by decide +kernel⟩
noncomputable def cF__law_right_1 : FI := (iRange1 (mCons (mBin addD (mBlt lenD (mCons (mVar 1) mNil)) (mCall (g__law_draw) (mCons (mVar 0) (mCons (mK (.int 3)) mNil)))) mNil))
noncomputable def ct__law_right_1 : FG := (gN 14)
noncomputable def ci__law_right_1 : FT := mYes
noncomputable def ce__law_right_1 : FE := (mCall (g__law_draw) (mCons (mVar 0) (mCons (mCall (g__law_of) (mCons (mVar 0) (mCons (mLst (mCons (mK (.int 2)) (mCons (mK (.int 5)) (mCons (mK (.int 9)) mNil)))) mNil))) mNil)))
noncomputable def cF__law_right_2 : FI := (iSeq (mTup (mCons (mVar 5) (mCons (mBin ixA (mVar 7) (mK (.int 1))) mNil))))
noncomputable def ct__law_right_2 : FG := (gN 15)
noncomputable def ci__law_right_2 : FT := mYes
noncomputable def ce__law_right_2 : FE := (mCall (g__law_soonest) (mCons (mVar 1) (mCons (mVar 2) (mCons (mVar 3) (mCons (mVar 15) mNil)))))
noncomputable def F__law_right_1 : FI := (iRange1 (mCons (mK (.int 2)) mNil))
noncomputable def t__law_right_1 : FG := (gN 9)
noncomputable def b__law_right_1 : FS := (mSeq (mAsg (mLst (mCons (mCall (g_reach) (mCons (mVar 1) (mCons (mVar 2) (mCons (mVar 3) (mCons (mVar 4) mNil))))) (mCons (mCall (g_soonest) (mCons (mVar 1) (mCons (mVar 2) (mCons (mVar 3) (mCons (mVar 5) mNil))))) (mCons (mCall (g_soonest) (mCons (mVar 1) (mCons (mVar 2) (mCons (mVar 3) (mCons (mBin ixA (mVar 7) (mK (.int 1))) mNil))))) mNil)))) (gN 10))
  (mIfS (mTest (mBin neD (mBlt reprD (mCons (mVar 10) mNil)) (mBlt reprD (mCons (mBin addD (mLst (mCons (mVar 7) mNil)) (mVar 8)) mNil)))) (mRet (mK (.bl false))) mNext))
noncomputable def cF__law_right_3 : FI := (iSeq (mVar 11))
noncomputable def ct__law_right_3 : FG := (gT 2 (gsC (gN 16) (gsC (gN 17) gs0)))
noncomputable def ci__law_right_3 : FT := mYes
noncomputable def ce__law_right_3 : FE := (mVar 16)
noncomputable def cF__law_right_4 : FI := (iSeq (mVar 11))
noncomputable def ct__law_right_4 : FG := (gT 2 (gsC (gN 16) (gsC (gN 17) gs0)))
noncomputable def ci__law_right_4 : FT := (mTest (mBin eqD (mVar 16) (mBlt maxLD (mCons (mVar 12) mNil))))
noncomputable def ce__law_right_4 : FE := (mVar 17)
noncomputable def F__law_right_2 : FI := (iRange1 (mCons (mK (.int 2)) mNil))
noncomputable def t__law_right_2 : FG := (gN 9)
noncomputable def b__law_right_2 : FS := (mSeq (mAsg (mLst (mCons (mCall (g_rise) (mCons (mVar 1) (mCons (mVar 4) mNil))) (mCons (mCall (g_fall) (mCons (mVar 1) (mCons (mVar 4) mNil))) (mCons (mCall (g_rise_row) (mCons (mVar 1) (mCons (mVar 4) mNil))) mNil)))) (gN 10))
  (mIfS (mTest (mBin neD (mBlt reprD (mCons (mVar 10) mNil)) (mBlt reprD (mCons (mLst (mCons (mBlt maxLD (mCons (mVar 12) mNil)) (mCons (mBin subD (mK (.int 0)) (mBlt minLD (mCons (mVar 12) mNil))) (mCons (mVar 13) mNil)))) mNil)))) (mRet (mK (.bl false))) mNext))
noncomputable def d__law_right : FS := (mSeq (mAsg (mBlt tupleD (mCons (mComp cF__law_right_1 [14] ct__law_right_1 ci__law_right_1 ce__law_right_1) mNil)) (gN 2))
  (mSeq (mAsg (mTup (mCons (mCall (g__law_draw) (mCons (mVar 0) (mCons (mK (.int 4)) mNil))) (mCons (mCall (g__law_draw) (mCons (mVar 0) (mCons (mK (.int 4)) mNil))) (mCons (mBin subD (mCall (g__law_draw) (mCons (mVar 0) (mCons (mK (.int 30)) mNil))) (mK (.int 8))) mNil)))) (gT 3 (gsC (gN 3) (gsC (gN 4) (gsC (gN 5) gs0)))))
  (mSeq (mPar 6 7 (mCons (mBlt reprD (mCons (mLst (mCons (mVar 1) (mCons (mVar 2) mNil))) mNil)) (mCons (mCall (g__law_ends) (mCons (mVar 1) (mCons (mVar 2) (mCons (mVar 3) (mCons (mVar 4) mNil))))) mNil)))
  (mSeq (mAsg (mComp cF__law_right_2 [15] ct__law_right_2 ci__law_right_2 ce__law_right_2) (gN 8))
  (mSeq (mFor F__law_right_1 t__law_right_1 b__law_right_1)
  (mSeq (mIfS (mNot (mTest (mCall (g__law_way_right) (mCons (mVar 1) (mCons (mVar 2) (mCons (mVar 3) (mCons (mVar 4) (mCons (mBin ixA (mVar 7) (mK (.int 1))) mNil)))))))) (mRet (mK (.bl false))) mNext)
  (mSeq (mAsg (mCall (g__law_changes) (mCons (mVar 1) (mCons (mVar 4) mNil))) (gN 11))
  (mSeq (mAsg (mComp cF__law_right_3 [16, 17] ct__law_right_3 ci__law_right_3 ce__law_right_3) (gN 12))
  (mSeq (mAsg (mBin ixA (mComp cF__law_right_4 [16, 17] ct__law_right_4 ci__law_right_4 ce__law_right_4) (mK (.int 0))) (gN 13))
  (mSeq (mFor F__law_right_2 t__law_right_2 b__law_right_2)
  (mRet (mBin eqD (mBlt reprD (mCons (mLst (mCons (mVar 1) (mCons (mVar 2) mNil))) mNil)) (mVar 6)))))))))))))
noncomputable def g__law_right : Fn := denOf 18 d__law_right
abbrev s__law_many_right : Stmt := topS 47
theorem sc__law_many_right : FnScope ["m", "tune", "film", "many", "sums_so", "due", "told_so", "most_so", "row", "ends_so", "calm", "k", "bits", "one"] ["m", "tune"] (defScope s__law_many_right) := ⟨rfl, rfl, rfl, by decide +kernel, rfl, by decide +kernel, by decide +kernel⟩
noncomputable def cF__law_many_right_1 : FI := (iRange1 (mCons (mBlt lenD (mCons (mVar 1) mNil)) mNil))
noncomputable def ct__law_many_right_1 : FG := (gN 11)
noncomputable def ci__law_many_right_1 : FT := mYes
noncomputable def ce__law_many_right_1 : FE := (mCall (g__law_draw) (mCons (mVar 0) (mCons (mBin powD (mK (.int 10)) (mK (.int 6))) mNil)))
noncomputable def cF__law_many_right_2 : FI := (iSeq (mCall (g__law_all) (mCons (mTup (mCons (mK (.int 0)) (mCons (mK (.int 1)) mNil))) (mCons (mBlt lenD (mCons (mVar 1) mNil)) mNil))))
noncomputable def ct__law_many_right_2 : FG := (gN 12)
noncomputable def ci__law_many_right_2 : FT := mYes
noncomputable def ce__law_many_right_2 : FE := (mCall (g__law_sum) (mCons (mVar 1) (mCons (mVar 12) mNil)))
noncomputable def cF__law_many_right_3 : FI := (iSeq (mSl slA (mVar 8) (mPart (mBlt lenD (mCons (mVar 1) mNil))) (mPart (mBin subD (mBlt lenD (mCons (mVar 8) mNil)) (mBlt lenD (mCons (mVar 1) mNil))))))
noncomputable def ct__law_many_right_3 : FG := (gN 13)
noncomputable def ci__law_many_right_3 : FT := (mTest (mBin neD (mVar 13) (mK (.int 0))))
noncomputable def ce__law_many_right_3 : FE := (mVar 13)
noncomputable def d__law_many_right : FS := (mSeq (mPar 2 3 (mCons (mBlt tupleD (mCons (mComp cF__law_many_right_1 [11] ct__law_many_right_1 ci__law_many_right_1 ce__law_many_right_1) mNil)) (mCons (mBin addD (mBlt lenD (mCons (mVar 1) mNil)) (mCall (g__law_draw) (mCons (mVar 0) (mCons (mK (.int 190)) mNil)))) mNil)))
  (mSeq (mAsg (mComp cF__law_many_right_2 [12] ct__law_many_right_2 ci__law_many_right_2 ce__law_many_right_2) (gN 4))
  (mSeq (mAsg (mTup (mCons (mBin mulD (mBin powD (mK (.int 10)) (mK (.int 6))) (mBlt minLD (mCons (mVar 4) mNil))) (mCons (mBin mulD (mBin powD (mK (.int 10)) (mK (.int 6))) (mBlt maxLD (mCons (mVar 4) mNil))) mNil))) (gN 5))
  (mSeq (mIfS (mOr (mTest (mBin neD (mCall (g_reach) (mCons (mVar 1) (mCons (mVar 2) (mCons (mBin powD (mK (.int 10)) (mK (.int 6))) (mCons (mVar 3) mNil))))) (mVar 5))) (mNot (mTest (mCall (g__law_way_right) (mCons (mVar 1) (mCons (mVar 2) (mCons (mBin powD (mK (.int 10)) (mK (.int 6))) (mCons (mVar 3) (mCons (mBin ixA (mVar 5) (mK (.int 1))) mNil))))))))) (mRet (mK (.bl false))) mNext)
  (mSeq (mAsg (mLst (mCons (mCall (g_rise) (mCons (mVar 1) (mCons (mVar 3) mNil))) (mCons (mCall (g_fall) (mCons (mVar 1) (mCons (mVar 3) mNil))) (mCons (mBlt lenD (mCons (mCall (g_rise_row) (mCons (mVar 1) (mCons (mVar 3) mNil))) mNil)) mNil)))) (gN 6))
  (mSeq (mAsg (mBin subD (mBlt maxLD (mCons (mVar 4) mNil)) (mBlt minLD (mCons (mVar 4) mNil))) (gN 7))
  (mSeq (mAsg (mCall (g_rise_row) (mCons (mVar 1) (mCons (mVar 3) mNil))) (gN 8))
  (mSeq (mAsg (mLst (mCons (mCall (g__law_sum) (mCons (mVar 1) (mCons (mSl slA (mVar 8) mNoPart (mPart (mBlt lenD (mCons (mVar 1) mNil)))) mNil))) (mCons (mCall (g__law_sum) (mCons (mVar 1) (mCons (mSl slA (mVar 8) (mPart (mBin subD (mBlt lenD (mCons (mVar 8) mNil)) (mBlt lenD (mCons (mVar 1) mNil)))) mNoPart) mNil))) mNil))) (gN 9))
  (mSeq (mAsg (mBin eqD (mComp cF__law_many_right_3 [13] ct__law_many_right_3 ci__law_many_right_3 ce__law_many_right_3) (mLst mNil)) (gN 10))
  (mRet (mAndV (mBin eqD (mVar 6) (mLst (mCons (mVar 7) (mCons (mVar 7) (mCons (mBin addD (mBlt lenD (mCons (mVar 1) mNil)) (mVar 3)) mNil))))) (mAndV (mBin eqD (mBin subD (mBin ixA (mVar 9) (mK (.int 1))) (mBin ixA (mVar 9) (mK (.int 0)))) (mVar 7)) (mVar 10)))))))))))))
noncomputable def g__law_many_right : Fn := denOf 14 d__law_many_right
abbrev s__law_hand_right : Stmt := topS 48
theorem sc__law_hand_right : FnScope ["tune", "film", "told_so", "six", "count"] [] (defScope s__law_hand_right) := ⟨rfl, rfl, rfl, by decide +kernel, rfl, by decide +kernel, by decide +kernel⟩
noncomputable def cF__law_hand_right_1 : FI := (iSeq (mTup (mCons (mK (.int 0)) (mCons (mK (.int 2)) (mCons (mK (.int 6)) mNil)))))
noncomputable def ct__law_hand_right_1 : FG := (gN 4)
noncomputable def ci__law_hand_right_1 : FT := mYes
noncomputable def ce__law_hand_right_1 : FE := (mCall (g_reach) (mCons (mTup (mCons (mK (.int 0)) (mCons (mK (.int 0)) (mCons (mK (.int 0)) (mCons (mK (.int 1)) (mCons (mK (.int 1)) (mCons (mK (.int 1)) mNil))))))) (mCons (mVar 1) (mCons (mK (.int 8)) (mCons (mVar 4) mNil)))))
noncomputable def d__law_hand_right : FS := (mSeq (mAsg (mTup (mCons (mTup (mCons (mK (.int 0)) (mCons (mK (.int 0)) (mCons (mK (.int 1)) (mCons (mK (.int 1)) mNil))))) (mCons (mTup (mCons (mK (.int 90)) (mCons (mK (.int 10)) (mCons (mK (.int 40)) (mCons (mK (.int 70)) (mCons (mK (.int 30)) mNil)))))) mNil))) (gT 2 (gsC (gN 0) (gsC (gN 1) gs0))))
  (mSeq (mAsg (mLst (mCons (mCall (g_reach) (mCons (mVar 0) (mCons (mVar 1) (mCons (mK (.int 100)) (mCons (mK (.int 0)) mNil))))) (mCons (mCall (g_reach) (mCons (mVar 0) (mCons (mVar 1) (mCons (mK (.int 100)) (mCons (mK (.int 1)) mNil))))) (mCons (mCall (g_reach) (mCons (mVar 0) (mCons (mVar 1) (mCons (mK (.int 50)) (mCons (mK (.int 2)) mNil))))) (mCons (mCall (g_reach) (mCons (mVar 0) (mCons (mVar 1) (mCons (mK (.int 20)) (mCons (mK (.int 4)) mNil))))) mNil))))) (gN 2))
  (mSeq (mIfS (mTest (mBin neD (mVar 2) (mLst (mCons (mTup (mCons (mK (.int 110)) (mCons (mK (.int 110)) mNil))) (mCons (mTup (mCons (mK (.int 110)) (mCons (mK (.int 170)) mNil))) (mCons (mTup (mCons (mK (.int 100)) (mCons (mK (.int 120)) mNil))) (mCons (mTup (mCons (mK (.int 0)) (mCons (mK (.int 40)) mNil))) mNil))))))) (mRet (mK (.bl false))) mNext)
  (mSeq (mAsg (mLst (mCons (mCall (g_soonest) (mCons (mVar 0) (mCons (mVar 1) (mCons (mK (.int 100)) (mCons (mK (.int 110)) mNil))))) (mCons (mCall (g_soonest) (mCons (mVar 0) (mCons (mVar 1) (mCons (mK (.int 100)) (mCons (mK (.int 171)) mNil))))) (mCons (mCall (g_soonest) (mCons (mVar 0) (mCons (mVar 1) (mCons (mK (.int 20)) (mCons (mK (.int 111)) mNil))))) mNil)))) (gN 2))
  (mSeq (mIfS (mOr (mTest (mBin neD (mVar 2) (mLst (mCons (mK (.int 0)) (mCons (mK (.int 2)) (mCons (mK .non) mNil)))))) (mTest (mBin neD (mCall (g_soonest) (mCons (mVar 0) (mCons (mVar 1) (mCons (mK (.int 0)) (mCons (mUn negD (mK (.int 5))) mNil))))) (mK (.int 0))))) (mRet (mK (.bl false))) mNext)
  (mSeq (mAsg (mLst (mCons (mCall (g_reach) (mCons (mTup (mCons (mK (.int 2)) (mCons (mUn negD (mK (.int 1))) mNil))) (mCons (mTup (mCons (mK (.int 7)) (mCons (mK (.int 3)) mNil))) (mCons (mK (.int 10)) (mCons (mK (.int 1)) mNil))))) (mCons (mCall (g_greatest_way) (mCons (mTup (mCons (mK (.int 2)) (mCons (mUn negD (mK (.int 1))) mNil))) (mCons (mTup (mCons (mK (.int 7)) (mCons (mK (.int 3)) mNil))) (mCons (mK (.int 10)) (mCons (mK (.int 1)) mNil))))) (mCons (mCall (g_reach) (mCons (mTup (mCons (mK (.int 2)) (mCons (mUn negD (mK (.int 1))) mNil))) (mCons (mTup (mCons (mK (.int 7)) (mCons (mK (.int 3)) mNil))) (mCons (mK (.int 10)) (mCons (mK (.int 2)) mNil))))) mNil)))) (gN 2))
  (mSeq (mIfS (mTest (mBin neD (mVar 2) (mLst (mCons (mTup (mCons (mUn negD (mK (.int 4))) (mCons (mK (.int 3)) mNil))) (mCons (mTup (mCons (mK (.int 3)) mNil)) (mCons (mTup (mCons (mUn negD (mK (.int 10))) (mCons (mK (.int 10)) mNil))) mNil)))))) (mRet (mK (.bl false))) mNext)
  (mSeq (mAsg (mTup (mCons (mBin mulD (mTup (mCons (mK (.int 1)) mNil)) (mK (.int 6))) (mCons (mTup (mCons (mK (.int 5)) (mCons (mK (.int 9)) (mCons (mK (.int 2)) (mCons (mK (.int 7)) (mCons (mK (.int 4)) (mCons (mK (.int 6)) mNil))))))) mNil))) (gT 2 (gsC (gN 3) (gsC (gN 1) gs0))))
  (mSeq (mAsg (mLst (mCons (mCall (g_rise) (mCons (mVar 3) (mCons (mK (.int 6)) mNil))) (mCons (mCall (g_rise) (mCons (mVar 3) (mCons (mK (.int 5)) mNil))) (mCons (mCall (g_fall) (mCons (mVar 3) (mCons (mK (.int 6)) mNil))) (mCons (mCall (g_fall) (mCons (mVar 3) (mCons (mK (.int 5)) mNil))) (mCons (mCall (g_soonest) (mCons (mVar 3) (mCons (mBin mulD (mTup (mCons (mK (.int 0)) mNil)) (mK (.int 6))) (mCons (mK (.int 1)) (mCons (mK (.int 6)) mNil))))) mNil)))))) (gN 2))
  (mSeq (mIfS (mOr (mTest (mBin neD (mVar 2) (mLst (mCons (mK (.int 6)) (mCons (mK (.int 5)) (mCons (mK (.int 6)) (mCons (mK (.int 5)) (mCons (mK (.int 6)) mNil)))))))) (mTest (mBin neD (mCall (g_soonest) (mCons (mTup (mCons (mK (.int 0)) (mCons (mK (.int 0)) (mCons (mK (.int 0)) (mCons (mK (.int 0)) (mCons (mK (.int 1)) mNil)))))) (mCons (mBin mulD (mTup (mCons (mK (.int 0)) mNil)) (mK (.int 5))) (mCons (mK (.int 3)) (mCons (mK (.int 3)) mNil))))) (mK (.int 1))))) (mRet (mK (.bl false))) mNext)
  (mSeq (mIfS (mTest (mBin neD (mComp cF__law_hand_right_1 [4] ct__law_hand_right_1 ci__law_hand_right_1 ce__law_hand_right_1) (mLst (mCons (mTup (mCons (mK (.int 22)) (mCons (mK (.int 22)) mNil))) (mCons (mTup (mCons (mK (.int 17)) (mCons (mK (.int 23)) mNil))) (mCons (mTup (mCons (mK (.int 0)) (mCons (mK (.int 24)) mNil))) mNil)))))) (mRet (mK (.bl false))) mNext)
  (mSeq (mAsg (mLst (mCons (mCall (g_rise) (mCons (mVar 0) (mCons (mK (.int 1)) mNil))) (mCons (mCall (g_fall) (mCons (mVar 0) (mCons (mK (.int 1)) mNil))) (mCons (mCall (g_rise_row) (mCons (mVar 0) (mCons (mK (.int 1)) mNil))) (mCons (mCall (g_rise_row) (mCons (mVar 0) (mCons (mK (.int 2)) mNil))) (mCons (mCall (g_rise) (mCons (mVar 0) (mCons (mK (.int 0)) mNil))) (mCons (mCall (g_rise_row) (mCons (mTup (mCons (mK (.int 3)) mNil)) (mCons (mK (.int 2)) mNil))) mNil))))))) (gN 2))
  (mSeq (mIfS (mTest (mBin neD (mVar 2) (mLst (mCons (mK (.int 1)) (mCons (mK (.int 1)) (mCons (mTup (mCons (mK (.int 0)) (mCons (mK (.int 0)) (mCons (mK (.int 0)) (mCons (mK (.int 0)) (mCons (mK (.int 1)) mNil)))))) (mCons (mTup (mCons (mK (.int 0)) (mCons (mK (.int 0)) (mCons (mK (.int 0)) (mCons (mK (.int 0)) (mCons (mK (.int 1)) (mCons (mK (.int 1)) mNil))))))) (mCons (mK (.int 0)) (mCons (mTup (mCons (mK (.int 0)) (mCons (mK (.int 0)) (mCons (mK (.int 1)) mNil)))) mNil))))))))) (mRet (mK (.bl false))) mNext)
  (mRet (mAndV (mBin eqD (mLst (mCons (mCall (g_rise) (mCons (mTup (mCons (mK (.int 1)) (mCons (mUn negD (mK (.int 4))) mNil))) (mCons (mK (.int 1)) mNil))) (mCons (mCall (g_fall) (mCons (mTup (mCons (mK (.int 1)) (mCons (mUn negD (mK (.int 4))) mNil))) (mCons (mK (.int 1)) mNil))) (mCons (mCall (g_rise_row) (mCons (mTup (mCons (mK (.int 1)) (mCons (mUn negD (mK (.int 4))) mNil))) (mCons (mK (.int 1)) mNil))) mNil)))) (mLst (mCons (mK (.int 4)) (mCons (mK (.int 4)) (mCons (mTup (mCons (mK (.int 1)) (mCons (mK (.int 0)) (mCons (mK (.int 0)) mNil)))) mNil))))) (mBin eqD (mCall (g_rise_row) (mCons (mTup (mCons (mK (.int 1)) mNil)) (mCons (mK (.int 0)) mNil))) (mTup (mCons (mK (.int 0)) mNil))))))))))))))))))
noncomputable def g__law_hand_right : Fn := denOf 5 d__law_hand_right
abbrev s_law : Stmt := topS 49
theorem sc_law : FnScope ["script", "k", "m", "tune"] ["script"] (defScope s_law) := ⟨rfl, rfl, rfl, by decide +kernel, rfl, by decide +kernel, by decide +kernel⟩
noncomputable def F_law_1 : FI := (iRange1 (mCons (mBin addD (mK (.int 3)) (mBlt min2D (mCons (mBlt lenD (mCons (mVar 0) mNil)) (mCons (mK (.int 5)) mNil)))) mNil))
noncomputable def t_law_1 : FG := (gN 1)
noncomputable def b_law_1 : FS := (mSeq (mAsg (mCall (g__law_begun) (mCons (mVar 0) (mCons (mVar 1) mNil))) (gN 2))
  (mSeq (mAsg (mCall (g__law_tune) (mCons (mVar 2) (mCons (mK (.int 3)) mNil))) (gN 3))
  (mIfS (mOr (mNot (mTest (mCall (g__law_right) (mCons (mVar 2) (mCons (mVar 3) mNil))))) (mNot (mTest (mCall (g__law_many_right) (mCons (mVar 2) (mCons (mVar 3) mNil)))))) (mRet (mK (.bl false))) mNext)))
noncomputable def d_law : FS := (mSeq (mFor F_law_1 t_law_1 b_law_1)
  (mRet (mCall g__law_hand_right mNil)))
noncomputable def g_law : Fn := denOf 4 d_law
section
variable {P : Program} {w : World} {mg : Str → Option Value} {base : Heap} {Γ : Ct} {f : Addr} {fd : FuncData}
theorem ok_is_int (n : Ns Γ mg) (F : Fun Γ.K "is_int" "is_int" s_is_int f fd) : FnG P w mg base Γ 1 f fd ["thing"] g_is_int :=
  have S := sc_is_int
  ok_fn (N := ["thing"]) (c := d_is_int) F S fun cdv A outer s H E W hr hg tk => (mb_one (ms_ret (me_and (me_callB call_isi (sIsi rfl) (by rfl) n.n_isinstance (by decide +kernel) (ma_cons (me_var (pv 0)) (ma_cons (me_ty (by rfl) n.n_int (by decide +kernel)) ma_nil))) (me_and (me_cmp op_notC sIsntC (nomark _) (me_var (pv 0)) me_bl) (me_one (me_cmp op_notC sIsntC (nomark _) (me_var (pv 0)) me_bl))))))
theorem ok_is_int_within (n : Ns Γ mg) (F : Fun Γ.K "is_int_within" "is_int_within" s_is_int_within f fd) (c_is_int : Cal P w mg base Γ 1 "is_int" ["thing"] g_is_int) : FnG P w mg base Γ 2 f fd ["thing", "least", "most"] g_is_int_within :=
  have S := sc_is_int_within
  ok_fn (N := ["thing", "least", "most"]) (c := d_is_int_within) F S fun cdv A outer s H E W hr hg tk => (mb_one (ms_ret (me_and (me_cal c_is_int rfl (hr.mono (by decide)) hg tk (by rfl) (ma_cons (me_var (pv 0)) ma_nil) 1 (len_cons len_nil) rfl rfl) (me_one (me_chain op_le op_le sCmp sCmp (by rfl) (me_var (pv 1)) (me_var (pv 0)) (me_var (pv 2)))))))
theorem ok_is_tuple (n : Ns Γ mg) (F : Fun Γ.K "is_tuple" "is_tuple" s_is_tuple f fd) : FnG P w mg base Γ 1 f fd ["thing", "least", "most"] g_is_tuple :=
  have S := sc_is_tuple
  ok_fn (N := ["thing", "least", "most"]) (c := d_is_tuple) F S fun cdv A outer s H E W hr hg tk => (mb_one (ms_ret (me_and (me_callB call_isi (sIsi rfl) (by rfl) n.n_isinstance (by decide +kernel) (ma_cons (me_var (pv 0)) (ma_cons (me_ty (by rfl) n.n_tuple (by decide +kernel)) ma_nil))) (me_one (me_chain op_le op_le sCmp sCmp (by rfl) (me_var (pv 1)) (me_callB call_len (sLen rfl) (by rfl) n.n_len (by decide +kernel) (ma_cons (me_var (pv 0)) ma_nil)) (me_var (pv 2)))))))
theorem ok_first_outside (n : Ns Γ mg) (F : Fun Γ.K "first_outside" "first_outside" s_first_outside f fd) : FnG P w mg base Γ 1 f fd ["things", "least", "most"] g_first_outside :=
  have S := sc_first_outside
  ok_fn (N := ["things", "least", "most", "number", "thing"]) (c := d_first_outside) F S fun cdv A outer s H E W hr hg tk => (mb_cons (ms_for (passes_of rfl) rfl (mi_enum rfl (by rfl) n.n_enumerate (ma_cons (me_var (pv 0)) ma_nil)) (mg_tup' rfl rfl (mgs_cons' (mg_name (pg_name (i := 3) S.nd rfl (.inl rfl))) (mgs_cons' (mg_name (pg_name (i := 4) S.nd rfl (.inl rfl))) mgs_nil))) (mb_one (ms_if (mt_w (mw_or (mt_not (mt_val (me_callB call_isi (sIsi rfl) (by rfl) n.n_isinstance (by decide +kernel) (ma_cons (me_var (pv 4)) (ma_cons (me_ty (by rfl) n.n_int (by decide +kernel)) ma_nil))))) (mw_or (mt_cmp op_isC sIsC (nomark _) (me_var (pv 4)) me_bl) (mw_or (mt_cmp op_isC sIsC (nomark _) (me_var (pv 4)) me_bl) (mw_or1 (mt_not (mt_chain op_le op_le sCmp sCmp (by rfl) (me_var (pv 1)) (me_var (pv 4)) (me_var (pv 2))))))))) (mb_one (ms_ret (me_var (pv 3)))) mb_nil)))
  (mb_one (ms_ret me_non)))
theorem ok_need_rule (n : Ns Γ mg) (F : Fun Γ.K "need_rule" "need_rule" s_need_rule f fd) (c_is_tuple : Cal P w mg base Γ 1 "is_tuple" ["thing", "least", "most"] g_is_tuple) (c_first_outside : Cal P w mg base Γ 1 "first_outside" ["things", "least", "most"] g_first_outside) : FnG P w mg base Γ 2 f fd ["thing"] g_need_rule :=
  have S := sc_need_rule
  ok_fn (N := ["thing", "number"]) (c := d_need_rule) F S fun cdv A outer s H E W hr hg tk => (mb_cons (ms_if (mt_not (mt_val (me_cal c_is_tuple rfl (hr.mono (by decide)) hg tk (by rfl) (ma_cons (me_var (pv 0)) (ma_cons me_int (ma_cons (me_globJ (by rfl) n.c_MOST_WEIGHTS) ma_nil))) 3 (len_cons (len_cons (len_cons len_nil))) rfl rfl))) (mb_one ms_stuck) mb_nil)
  (mb_cons (ms_set (i := 1) S.nd rfl (.inl rfl) (me_cal c_first_outside rfl (hr.mono (by decide)) hg tk (by rfl) (ma_cons (me_var (pv 0)) (ma_cons (me_un un_neg sNeg (me_globJ (by rfl) n.c_GREATEST_WEIGHT)) (ma_cons (me_globJ (by rfl) n.c_GREATEST_WEIGHT) ma_nil))) 3 (len_cons (len_cons (len_cons len_nil))) rfl rfl))
  (mb_cons (ms_if (mt_cmp op_notC sIsntC (nomark _) (me_var (pv 1)) me_non) (mb_one ms_stuck) mb_nil)
  (mb_one (ms_ret (me_var (pv 0)))))))
theorem ok_is_result (n : Ns Γ mg) (F : Fun Γ.K "is_result" "is_result" s_is_result f fd) (c_is_int_within : Cal P w mg base Γ 2 "is_int_within" ["thing", "least", "most"] g_is_int_within) : FnG P w mg base Γ 3 f fd ["thing"] g_is_result :=
  have S := sc_is_result
  ok_fn (N := ["thing"]) (c := d_is_result) F S fun cdv A outer s H E W hr hg tk => (mb_one (ms_ret (me_cal c_is_int_within rfl (hr.mono (by decide)) hg tk (by rfl) (ma_cons (me_var (pv 0)) (ma_cons me_int (ma_cons (me_globJ (by rfl) n.c_GREATEST_RESULT) ma_nil))) 3 (len_cons (len_cons (len_cons len_nil))) rfl rfl)))
theorem ok_need_row (n : Ns Γ mg) (F : Fun Γ.K "need_row" "need_row" s_need_row f fd) (c_is_tuple : Cal P w mg base Γ 1 "is_tuple" ["thing", "least", "most"] g_is_tuple) (c_first_outside : Cal P w mg base Γ 1 "first_outside" ["things", "least", "most"] g_first_outside) : FnG P w mg base Γ 2 f fd ["thing"] g_need_row :=
  have S := sc_need_row
  ok_fn (N := ["thing", "number"]) (c := d_need_row) F S fun cdv A outer s H E W hr hg tk => (mb_cons (ms_if (mt_not (mt_val (me_cal c_is_tuple rfl (hr.mono (by decide)) hg tk (by rfl) (ma_cons (me_var (pv 0)) (ma_cons me_int (ma_cons (me_globJ (by rfl) n.c_MOST_RESULTS) ma_nil))) 3 (len_cons (len_cons (len_cons len_nil))) rfl rfl))) (mb_one ms_stuck) mb_nil)
  (mb_cons (ms_set (i := 1) S.nd rfl (.inl rfl) (me_cal c_first_outside rfl (hr.mono (by decide)) hg tk (by rfl) (ma_cons (me_var (pv 0)) (ma_cons me_int (ma_cons (me_globJ (by rfl) n.c_GREATEST_RESULT) ma_nil))) 3 (len_cons (len_cons (len_cons len_nil))) rfl rfl))
  (mb_cons (ms_if (mt_cmp op_notC sIsntC (nomark _) (me_var (pv 1)) me_non) (mb_one ms_stuck) mb_nil)
  (mb_one (ms_ret (me_var (pv 0)))))))
theorem ok_need_row_of (n : Ns Γ mg) (F : Fun Γ.K "need_row_of" "need_row_of" s_need_row_of f fd) (c_need_row : Cal P w mg base Γ 2 "need_row" ["thing"] g_need_row) : FnG P w mg base Γ 3 f fd ["thing", "least"] g_need_row_of :=
  have S := sc_need_row_of
  ok_fn (N := ["thing", "least"]) (c := d_need_row_of) F S fun cdv A outer s H E W hr hg tk => (mb_cons (ms_expr (me_cal c_need_row rfl (hr.mono (by decide)) hg tk (by rfl) (ma_cons (me_var (pv 0)) ma_nil) 1 (len_cons len_nil) rfl rfl))
  (mb_cons (ms_if (mt_cmp op_lt sCmp (nomark _) (me_callB call_len (sLen rfl) (by rfl) n.n_len (by decide +kernel) (ma_cons (me_var (pv 0)) ma_nil)) (me_var (pv 1))) (mb_one ms_stuck) mb_nil)
  (mb_one (ms_ret (me_var (pv 0))))))
theorem ok_index_of (n : Ns Γ mg) (F : Fun Γ.K "index_of" "index_of" s_index_of f fd) : FnG P w mg base Γ 1 f fd ["rule", "results"] g_index_of :=
  have S := sc_index_of
  ok_fn (N := ["rule", "results", "last", "weight", "result"]) (c := d_index_of) F S fun cdv A outer s H E W hr hg tk => (mb_cons (ms_set (i := 2) S.nd rfl (.inl rfl) (me_callB cr_sortedA (sSortedA rfl) (by rfl) n.n_sorted (by decide +kernel) (ma_cons (me_sl rfl (me_var (pv 1)) (mo_some (me_un un_neg sNeg (me_callB call_len (sLen rfl) (by rfl) n.n_len (by decide +kernel) (ma_cons (me_var (pv 0)) ma_nil)))) mo_none) ma_nil)))
  (mb_one (ms_ret (me_callB (cr_sumA rfl) (sSumA rfl) (by rfl) n.n_sum (by decide +kernel) (ma_cons (me_comp (own := [("weight", 3), ("result", 4)]) (g := (gTup Γ.K 2 (gCons (gName 3) (gCons (gName 4) gNil)))) rfl S.nd (mi_zip rfl (by rfl) n.n_zip (ma_cons (me_var (pv 0)) (ma_cons (me_var (pv 2)) ma_nil))) (blkOk_by (own := [("weight", 3), ("result", 4)]) (N := ["rule", "results", "last", "weight", "result"]) (sc := defScope s_index_of) (by decide +kernel)) (fun _ _ _ _ _ => pg_tup rfl (pgs_cons (pg_name (i := 3) S.nd rfl (.inl rfl)) (pgs_cons (pg_name (i := 4) S.nd rfl (.inl rfl)) pgs_nil))) (gw_tup rfl (gws_cons (gw_name (by decide)) (gws_cons (gw_name (by decide)) gws_nil))) (fun _ _ _ _ _ => mts_nil) (fun _ _ _ _ _ => (me_op opMul sMul (me_var (pv 3)) (me_var (pv 4))))) ma_nil)))))
theorem ok_indexes_by_ones (n : Ns Γ mg) (F : Fun Γ.K "indexes_by_ones" "indexes_by_ones" s_indexes_by_ones f fd) : FnG P w mg base Γ 1 f fd ["rule"] g_indexes_by_ones :=
  have S := sc_indexes_by_ones
  ok_fn (N := ["rule", "told", "weight"]) (c := d_indexes_by_ones) F S fun cdv A outer s H E W hr hg tk => (mb_cons (ms_set (i := 1) S.nd rfl (.inl rfl) (me_lstM (ma_cons me_int ma_nil)))
  (mb_cons (ms_for (passes_of rfl) rfl (mi_seq rfl (me_rev rfl (me_var (pv 0)))) (mg_name (pg_name (i := 2) S.nd rfl (.inl rfl))) (mb_one (ms_expr (me_app (pe_bm PySem.F.plainAttrs_list PySem.F.slot_list_append PySem.F.type_list_append mt_append (me_var (pv 1)) (pa_cons (me_op opAdd sAdd (me_ix rfl (hu_of hr) (me_var (pv 1)) (me_un un_neg sNeg me_int) (fun _ _ => rfl) (fun _ _ => rfl)) (me_var (pv 2))) pa_nil))))))
  (mb_one (ms_ret (me_var (pv 1))))))
theorem ok_need_rounds (n : Ns Γ mg) (F : Fun Γ.K "need_rounds" "need_rounds" s_need_rounds f fd) (c_is_int_within : Cal P w mg base Γ 2 "is_int_within" ["thing", "least", "most"] g_is_int_within) : FnG P w mg base Γ 3 f fd ["thing"] g_need_rounds :=
  have S := sc_need_rounds
  ok_fn (N := ["thing"]) (c := d_need_rounds) F S fun cdv A outer s H E W hr hg tk => (mb_cons (ms_if (mt_not (mt_val (me_cal c_is_int_within rfl (hr.mono (by decide)) hg tk (by rfl) (ma_cons (me_var (pv 0)) (ma_cons me_int (ma_cons (me_globJ (by rfl) n.c_MOST_RESULTS) ma_nil))) 3 (len_cons (len_cons (len_cons len_nil))) rfl rfl))) (mb_one ms_stuck) mb_nil)
  (mb_one (ms_ret (me_var (pv 0)))))
theorem ok_need_ahead (n : Ns Γ mg) (F : Fun Γ.K "need_ahead" "need_ahead" s_need_ahead f fd) (c_need_rule : Cal P w mg base Γ 2 "need_rule" ["thing"] g_need_rule) (c_need_row_of : Cal P w mg base Γ 3 "need_row_of" ["thing", "least"] g_need_row_of) (c_is_result : Cal P w mg base Γ 3 "is_result" ["thing"] g_is_result) : FnG P w mg base Γ 4 f fd ["rule", "row", "most"] g_need_ahead :=
  have S := sc_need_ahead
  ok_fn (N := ["rule", "row", "most"]) (c := d_need_ahead) F S fun cdv A outer s H E W hr hg tk => (mb_cons (ms_expr (me_cal c_need_rule rfl (hr.mono (by decide)) hg tk (by rfl) (ma_cons (me_var (pv 0)) ma_nil) 1 (len_cons len_nil) rfl rfl))
  (mb_cons (ms_expr (me_cal c_need_row_of rfl (hr.mono (by decide)) hg tk (by rfl) (ma_cons (me_var (pv 1)) (ma_cons (me_callB call_len (sLen rfl) (by rfl) n.n_len (by decide +kernel) (ma_cons (me_var (pv 0)) ma_nil)) ma_nil)) 2 (len_cons (len_cons len_nil)) rfl rfl))
  (mb_one (ms_if (mt_not (mt_val (me_cal c_is_result rfl (hr.mono (by decide)) hg tk (by rfl) (ma_cons (me_var (pv 2)) ma_nil) 1 (len_cons len_nil) rfl rfl))) (mb_one ms_stuck) mb_nil))))
theorem ok_ascending_lots (n : Ns Γ mg) (F : Fun Γ.K "ascending_lots" "ascending_lots" s_ascending_lots f fd) : FnG P w mg base Γ 1 f fd ["values", "many"] g_ascending_lots :=
  have S := sc_ascending_lots
  ok_fn (N := ["values", "many", "lots", "_", "lot", "value"]) (c := d_ascending_lots) F S fun cdv A outer s H E W hr hg tk => (mb_cons (ms_set (i := 2) S.nd rfl (.inl rfl) (me_lst (ma_cons (me_tup ma_nil) ma_nil)))
  (mb_cons (ms_for (passes_of rfl) rfl (mi_range1 (by rfl) n.n_range (ma_cons (me_var (pv 1)) ma_nil)) (mg_name (pg_name (i := 3) S.nd rfl (.inl rfl))) (mb_one (ms_setComp2 (i := 2) (own := [("lot", 4), ("value", 5)]) (vs1 := [5]) (g := (gName 4)) (g1 := (gName 5)) rfl S.nd rfl rfl (sw_true rfl rfl rfl (by decide +kernel)) (mi_seq rfl (me_var (pv 2))) (blkOk_by (own := [("lot", 4), ("value", 5)]) (N := ["values", "many", "lots", "_", "lot", "value"]) (sc := defScope s_ascending_lots) (by decide +kernel)) (by decide) (fun _ _ _ _ _ => pg_name (i := 4) S.nd rfl (.inl rfl)) (gw_name (by decide)) (fun _ _ _ _ _ => mts_nil) (fun _ _ _ _ _ => (mi_seq rfl (me_var (pv 0)))) (fun _ _ _ _ _ => pg_name (i := 5) S.nd rfl (.inl rfl)) (gw_name (by decide)) (fun _ _ _ _ _ => mts_one (mt_w (mw_or (mt_not (mt_truth rfl (me_var (pv 4)))) (mw_or1 (mt_cmp op_le sCmp (nomark _) (me_ix rfl (hu_of hr) (me_var (pv 4)) (me_un un_neg sNeg me_int) (fun _ _ => rfl) (fun _ _ => rfl)) (me_var (pv 5))))))) (fun _ _ _ _ _ => (me_op opAdd sAdd (me_var (pv 4)) (me_tup (ma_cons (me_var (pv 5)) ma_nil)))))))
  (mb_one (ms_ret (me_var (pv 2))))))
theorem ok_ends_of (n : Ns Γ mg) (F : Fun Γ.K "ends_of" "ends_of" s_ends_of f fd) (c_ascending_lots : Cal P w mg base Γ 1 "ascending_lots" ["values", "many"] g_ascending_lots) (c_index_of : Cal P w mg base Γ 1 "index_of" ["rule", "results"] g_index_of) : FnG P w mg base Γ 2 f fd ["rule", "row", "most", "rounds"] g_ends_of :=
  have S := sc_ends_of
  ok_fn (N := ["rule", "row", "most", "rounds", "free", "kept", "values", "result", "lot"]) (c := d_ends_of) F S fun cdv A outer s H E W hr hg tk => (mb_cons (ms_set (i := 4) S.nd rfl (.inl rfl) (me_callB (call_min2 rfl) sMin2 (by rfl) n.n_min (by decide +kernel) (ma_cons (me_var (pv 3)) (ma_cons (me_callB call_len (sLen rfl) (by rfl) n.n_len (by decide +kernel) (ma_cons (me_var (pv 0)) ma_nil)) ma_nil))))
  (mb_cons (ms_set (i := 5) S.nd rfl (.inr rfl) (me_sl rfl (me_var (pv 1)) (mo_some (me_op opAdd sAdd (me_op op_sub sSub (me_callB call_len (sLen rfl) (by rfl) n.n_len (by decide +kernel) (ma_cons (me_var (pv 1)) ma_nil)) (me_callB call_len (sLen rfl) (by rfl) n.n_len (by decide +kernel) (ma_cons (me_var (pv 0)) ma_nil))) (me_var (pv 4)))) mo_none))
  (mb_cons (ms_set (i := 6) S.nd rfl (.inl rfl) (me_sortedSetL rfl rfl (by rfl) n.n_sorted (by rfl) n.n_set (ma_cons (me_op opAdd sAdd (me_lst (ma_cons me_int (ma_cons (me_var (pv 2)) ma_nil))) (me_comp (own := [("result", 7)]) (g := (gName 7)) rfl S.nd (mi_seq rfl (me_var (pv 5))) (blkOk_by (own := [("result", 7)]) (N := ["rule", "row", "most", "rounds", "free", "kept", "values", "result", "lot"]) (sc := defScope s_ends_of) (by decide +kernel)) (fun _ _ _ _ _ => pg_name (i := 7) S.nd rfl (.inl rfl)) (gw_name (by decide)) (fun _ _ _ _ _ => mts_one (mt_cmp op_lt sCmp (nomark _) (me_var (pv 7)) (me_var (pv 2)))) (fun _ _ _ _ _ => (me_var (pv 7))))) ma_nil)))
  (mb_one (ms_ret (me_comp (own := [("lot", 8)]) (g := (gName 8)) rfl S.nd (mi_seq rfl (me_cal c_ascending_lots rfl (hr.mono (by decide)) hg tk (by rfl) (ma_cons (me_var (pv 6)) (ma_cons (me_var (pv 4)) ma_nil)) 2 (len_cons (len_cons len_nil)) rfl rfl)) (blkOk_by (own := [("lot", 8)]) (N := ["rule", "row", "most", "rounds", "free", "kept", "values", "result", "lot"]) (sc := defScope s_ends_of) (by decide +kernel)) (fun _ _ _ _ _ => pg_name (i := 8) S.nd rfl (.inl rfl)) (gw_name (by decide)) (fun _ _ _ _ _ => mts_nil) (fun _ _ _ _ _ => (me_tup (ma_cons (me_cal c_index_of rfl (hr.mono (by decide)) hg tk0 (by rfl) (ma_cons (me_var (pv 0)) (ma_cons (me_op opAdd sAdd (me_var (pv 5)) (me_var (pv 8))) ma_nil)) 2 (len_cons (len_cons len_nil)) rfl rfl) (ma_cons (me_var (pv 8)) ma_nil))))))))))
theorem ok_reach_of (n : Ns Γ mg) (F : Fun Γ.K "reach_of" "reach_of" s_reach_of f fd) (c_ends_of : Cal P w mg base Γ 2 "ends_of" ["rule", "row", "most", "rounds"] g_ends_of) : FnG P w mg base Γ 3 f fd ["rule", "row", "most", "rounds"] g_reach_of :=
  have S := sc_reach_of
  ok_fn (N := ["rule", "row", "most", "rounds", "indexes", "index", "_"]) (c := d_reach_of) F S fun cdv A outer s H E W hr hg tk => (mb_cons (ms_setComp (i := 4) (own := [("index", 5), ("_", 6)]) (g := (gTup Γ.K 2 (gCons (gName 5) (gCons (gName 6) gNil)))) rfl S.nd rfl rfl (sw_true rfl rfl rfl (by decide +kernel)) (mi_seq rfl (me_cal c_ends_of rfl (hr.mono (by decide)) hg tk (by rfl) (ma_cons (me_var (pv 0)) (ma_cons (me_var (pv 1)) (ma_cons (me_var (pv 2)) (ma_cons (me_var (pv 3)) ma_nil)))) 4 (len_cons (len_cons (len_cons (len_cons len_nil)))) rfl rfl)) (blkOk_by (own := [("index", 5), ("_", 6)]) (N := ["rule", "row", "most", "rounds", "indexes", "index", "_"]) (sc := defScope s_reach_of) (by decide +kernel)) (fun _ _ _ _ _ => pg_tup rfl (pgs_cons (pg_name (i := 5) S.nd rfl (.inl rfl)) (pgs_cons (pg_name (i := 6) S.nd rfl (.inl rfl)) pgs_nil))) (gw_tup rfl (gws_cons (gw_name (by decide)) (gws_cons (gw_name (by decide)) gws_nil))) (fun _ _ _ _ _ => mts_nil) (fun _ _ _ _ _ => (me_var (pv 5))))
  (mb_one (ms_ret (me_tup (ma_cons (me_callB (cr_min rfl) (sMinL rfl) (by rfl) n.n_min (by decide +kernel) (ma_cons (me_var (pv 4)) ma_nil)) (ma_cons (me_callB (cr_max rfl) (sMaxL rfl) (by rfl) n.n_max (by decide +kernel) (ma_cons (me_var (pv 4)) ma_nil)) ma_nil))))))
theorem ok_reach (n : Ns Γ mg) (F : Fun Γ.K "reach" "reach" s_reach f fd) (c_need_ahead : Cal P w mg base Γ 4 "need_ahead" ["rule", "row", "most"] g_need_ahead) (c_reach_of : Cal P w mg base Γ 3 "reach_of" ["rule", "row", "most", "rounds"] g_reach_of) (c_need_rounds : Cal P w mg base Γ 3 "need_rounds" ["thing"] g_need_rounds) : FnG P w mg base Γ 5 f fd ["rule", "row", "most", "rounds"] g_reach :=
  have S := sc_reach
  ok_fn (N := ["rule", "row", "most", "rounds"]) (c := d_reach) F S fun cdv A outer s H E W hr hg tk => (mb_cons (ms_expr (me_cal c_need_ahead rfl (hr.mono (by decide)) hg tk (by rfl) (ma_cons (me_var (pv 0)) (ma_cons (me_var (pv 1)) (ma_cons (me_var (pv 2)) ma_nil))) 3 (len_cons (len_cons (len_cons len_nil))) rfl rfl))
  (mb_one (ms_ret (me_cal c_reach_of rfl (hr.mono (by decide)) hg tk (by rfl) (ma_cons (me_var (pv 0)) (ma_cons (me_var (pv 1)) (ma_cons (me_var (pv 2)) (ma_cons (me_cal c_need_rounds rfl (hr.mono (by decide)) hg tk (by rfl) (ma_cons (me_var (pv 3)) ma_nil) 1 (len_cons len_nil) rfl rfl) ma_nil)))) 4 (len_cons (len_cons (len_cons (len_cons len_nil)))) rfl rfl))))
theorem ok_greatest_way (n : Ns Γ mg) (F : Fun Γ.K "greatest_way" "greatest_way" s_greatest_way f fd) (c_need_ahead : Cal P w mg base Γ 4 "need_ahead" ["rule", "row", "most"] g_need_ahead) (c_ends_of : Cal P w mg base Γ 2 "ends_of" ["rule", "row", "most", "rounds"] g_ends_of) (c_need_rounds : Cal P w mg base Γ 3 "need_rounds" ["thing"] g_need_rounds) : FnG P w mg base Γ 5 f fd ["rule", "row", "most", "rounds"] g_greatest_way :=
  have S := sc_greatest_way
  ok_fn (N := ["rule", "row", "most", "rounds", "_", "lot"]) (c := d_greatest_way) F S fun cdv A outer s H E W hr hg tk => (mb_cons (ms_expr (me_cal c_need_ahead rfl (hr.mono (by decide)) hg tk (by rfl) (ma_cons (me_var (pv 0)) (ma_cons (me_var (pv 1)) (ma_cons (me_var (pv 2)) ma_nil))) 3 (len_cons (len_cons (len_cons len_nil))) rfl rfl))
  (mb_cons (ms_setT (me_callB (cr_maxP rfl hr.units) (sMaxP rfl) (by rfl) n.n_max (by decide +kernel) (ma_cons (me_cal c_ends_of rfl (hr.mono (by decide)) hg tk (by rfl) (ma_cons (me_var (pv 0)) (ma_cons (me_var (pv 1)) (ma_cons (me_var (pv 2)) (ma_cons (me_cal c_need_rounds rfl (hr.mono (by decide)) hg tk (by rfl) (ma_cons (me_var (pv 3)) ma_nil) 1 (len_cons len_nil) rfl rfl) ma_nil)))) 4 (len_cons (len_cons (len_cons (len_cons len_nil)))) rfl rfl) ma_nil)) (mg_tup' rfl rfl (mgs_cons' (mg_name (pg_name (i := 4) S.nd rfl (.inl rfl))) (mgs_cons' (mg_name (pg_name (i := 5) S.nd rfl (.inl rfl))) mgs_nil))))
  (mb_one (ms_ret (me_op opAdd sAdd (me_op opMul sMul (me_tup (ma_cons me_int ma_nil)) (me_op op_sub sSub (me_var (pv 3)) (me_callB call_len (sLen rfl) (by rfl) n.n_len (by decide +kernel) (ma_cons (me_var (pv 5)) ma_nil)))) (me_var (pv 5)))))))
theorem ok_soonest (n : Ns Γ mg) (F : Fun Γ.K "soonest" "soonest" s_soonest f fd) (c_need_ahead : Cal P w mg base Γ 4 "need_ahead" ["rule", "row", "most"] g_need_ahead) (c_is_int : Cal P w mg base Γ 1 "is_int" ["thing"] g_is_int) (c_reach_of : Cal P w mg base Γ 3 "reach_of" ["rule", "row", "most", "rounds"] g_reach_of) : FnG P w mg base Γ 5 f fd ["rule", "row", "most", "goal"] g_soonest :=
  have S := sc_soonest
  ok_fn (N := ["rule", "row", "most", "goal", "rounds"]) (c := d_soonest) F S fun cdv A outer s H E W hr hg tk => (mb_cons (ms_expr (me_cal c_need_ahead rfl (hr.mono (by decide)) hg tk (by rfl) (ma_cons (me_var (pv 0)) (ma_cons (me_var (pv 1)) (ma_cons (me_var (pv 2)) ma_nil))) 3 (len_cons (len_cons (len_cons len_nil))) rfl rfl))
  (mb_cons (ms_if (mt_not (mt_val (me_cal c_is_int rfl (hr.mono (by decide)) hg tk (by rfl) (ma_cons (me_var (pv 3)) ma_nil) 1 (len_cons len_nil) rfl rfl))) (mb_one ms_stuck) mb_nil)
  (mb_cons (ms_for (passes_of rfl) rfl (mi_range1 (by rfl) n.n_range (ma_cons (me_op opAdd sAdd (me_callB call_len (sLen rfl) (by rfl) n.n_len (by decide +kernel) (ma_cons (me_var (pv 0)) ma_nil)) me_int) ma_nil)) (mg_name (pg_name (i := 4) S.nd rfl (.inl rfl))) (mb_one (ms_if (mt_cmp op_ge sCmp (nomark _) (me_ix rfl (hu_of hr) (me_cal c_reach_of rfl (hr.mono (by decide)) hg tk (by rfl) (ma_cons (me_var (pv 0)) (ma_cons (me_var (pv 1)) (ma_cons (me_var (pv 2)) (ma_cons (me_var (pv 4)) ma_nil)))) 4 (len_cons (len_cons (len_cons (len_cons len_nil)))) rfl rfl) me_int (fun _ _ => rfl) (fun _ _ => rfl)) (me_var (pv 3))) (mb_one (ms_ret (me_var (pv 4)))) mb_nil)))
  (mb_one (ms_ret me_non)))))
theorem ok_rises_of (n : Ns Γ mg) (F : Fun Γ.K "rises_of" "rises_of" s_rises_of f fd) (c_indexes_by_ones : Cal P w mg base Γ 1 "indexes_by_ones" ["rule"] g_indexes_by_ones) : FnG P w mg base Γ 2 f fd ["rule", "rounds"] g_rises_of :=
  have S := sc_rises_of
  ok_fn (N := ["rule", "rounds", "alone", "told", "first", "both", "last"]) (c := d_rises_of) F S fun cdv A outer s H E W hr hg tk => (mb_cons (ms_set (i := 2) S.nd rfl (.inr rfl) (me_callB (call_min2 rfl) sMin2 (by rfl) n.n_min (by decide +kernel) (ma_cons (me_var (pv 1)) (ma_cons (me_callB call_len (sLen rfl) (by rfl) n.n_len (by decide +kernel) (ma_cons (me_var (pv 0)) ma_nil)) ma_nil))))
  (mb_cons (ms_set (i := 3) S.nd rfl (.inr rfl) (me_cal c_indexes_by_ones rfl (hr.mono (by decide)) hg tk (by rfl) (ma_cons (me_var (pv 0)) ma_nil) 1 (len_cons len_nil) rfl rfl))
  (mb_one (ms_ret (me_comp3 (own := [("first", 4), ("both", 5), ("last", 6)]) (vs1 := [5, 6]) (vs2 := [6]) (g := (gName 4)) (g1 := (gName 5)) (g2 := (gName 6)) rfl S.nd (mi_range1 (by rfl) n.n_range (ma_cons (me_op opAdd sAdd (me_var (pv 2)) me_int) ma_nil)) (blkOk_by (own := [("first", 4), ("both", 5), ("last", 6)]) (N := ["rule", "rounds", "alone", "told", "first", "both", "last"]) (sc := defScope s_rises_of) (by decide +kernel)) (by decide) (by decide) (fun _ _ _ _ _ => pg_name (i := 4) S.nd rfl (.inl rfl)) (gw_name (by decide)) (fun _ _ _ _ _ => (mi_range1 (by rfl) n.n_range (ma_cons (me_op opAdd sAdd (me_op op_sub sSub (me_callB call_len (sLen rfl) (by rfl) n.n_len (by decide +kernel) (ma_cons (me_var (pv 0)) ma_nil)) (me_var (pv 2))) me_int) ma_nil))) (fun _ _ _ _ _ => pg_name (i := 5) S.nd rfl (.inl rfl)) (gw_name (by decide)) (fun _ _ _ _ _ => (mi_range1 (by rfl) n.n_range (ma_cons (me_op opAdd sAdd (me_var (pv 2)) me_int) ma_nil))) (fun _ _ _ _ _ => pg_name (i := 6) S.nd rfl (.inl rfl)) (gw_name (by decide)) (fun _ _ _ _ _ => (me_tup (ma_cons (me_op op_sub sSub (me_ix rfl (hu_of hr) (me_var (pv 3)) (me_op opAdd sAdd (me_var (pv 5)) (me_var (pv 6))) (fun _ _ => rfl) (fun _ _ => rfl)) (me_ix rfl (hu_of hr) (me_var (pv 3)) (me_op opAdd sAdd (me_var (pv 4)) (me_var (pv 5))) (fun _ _ => rfl) (fun _ _ => rfl))) (ma_cons (me_tup (ma_cons (me_var (pv 4)) (ma_cons (me_var (pv 5)) (ma_cons (me_var (pv 6)) ma_nil)))) ma_nil)))))))))
theorem ok_rise (n : Ns Γ mg) (F : Fun Γ.K "rise" "rise" s_rise f fd) (c_need_rule : Cal P w mg base Γ 2 "need_rule" ["thing"] g_need_rule) (c_rises_of : Cal P w mg base Γ 2 "rises_of" ["rule", "rounds"] g_rises_of) (c_need_rounds : Cal P w mg base Γ 3 "need_rounds" ["thing"] g_need_rounds) : FnG P w mg base Γ 4 f fd ["rule", "rounds"] g_rise :=
  have S := sc_rise
  ok_fn (N := ["rule", "rounds", "much", "_"]) (c := d_rise) F S fun cdv A outer s H E W hr hg tk => (mb_cons (ms_expr (me_cal c_need_rule rfl (hr.mono (by decide)) hg tk (by rfl) (ma_cons (me_var (pv 0)) ma_nil) 1 (len_cons len_nil) rfl rfl))
  (mb_one (ms_ret (me_callB (cr_max rfl) (sMaxL rfl) (by rfl) n.n_max (by decide +kernel) (ma_cons (me_comp (own := [("much", 2), ("_", 3)]) (g := (gTup Γ.K 2 (gCons (gName 2) (gCons (gName 3) gNil)))) rfl S.nd (mi_seq rfl (me_cal c_rises_of rfl (hr.mono (by decide)) hg tk (by rfl) (ma_cons (me_var (pv 0)) (ma_cons (me_cal c_need_rounds rfl (hr.mono (by decide)) hg tk (by rfl) (ma_cons (me_var (pv 1)) ma_nil) 1 (len_cons len_nil) rfl rfl) ma_nil)) 2 (len_cons (len_cons len_nil)) rfl rfl)) (blkOk_by (own := [("much", 2), ("_", 3)]) (N := ["rule", "rounds", "much", "_"]) (sc := defScope s_rise) (by decide +kernel)) (fun _ _ _ _ _ => pg_tup rfl (pgs_cons (pg_name (i := 2) S.nd rfl (.inl rfl)) (pgs_cons (pg_name (i := 3) S.nd rfl (.inl rfl)) pgs_nil))) (gw_tup rfl (gws_cons (gw_name (by decide)) (gws_cons (gw_name (by decide)) gws_nil))) (fun _ _ _ _ _ => mts_nil) (fun _ _ _ _ _ => (me_var (pv 2)))) ma_nil)))))
theorem ok_fall (n : Ns Γ mg) (F : Fun Γ.K "fall" "fall" s_fall f fd) (c_rise : Cal P w mg base Γ 4 "rise" ["rule", "rounds"] g_rise) : FnG P w mg base Γ 5 f fd ["rule", "rounds"] g_fall :=
  have S := sc_fall
  ok_fn (N := ["rule", "rounds"]) (c := d_fall) F S fun cdv A outer s H E W hr hg tk => (mb_one (ms_ret (me_cal c_rise rfl (hr.mono (by decide)) hg tk (by rfl) (ma_cons (me_var (pv 0)) (ma_cons (me_var (pv 1)) ma_nil)) 2 (len_cons (len_cons len_nil)) rfl rfl)))
theorem ok_first_bits (n : Ns Γ mg) (F : Fun Γ.K "first_bits" "first_bits" s_first_bits f fd) : FnG P w mg base Γ 1 f fd ["many", "ones"] g_first_bits :=
  have S := sc_first_bits
  ok_fn (N := ["many", "ones"]) (c := d_first_bits) F S fun cdv A outer s H E W hr hg tk => (mb_one (ms_ret (me_op opAdd sAdd (me_op opMul sMul (me_tup (ma_cons me_int ma_nil)) (me_op op_sub sSub (me_var (pv 0)) (me_var (pv 1)))) (me_op opMul sMul (me_tup (ma_cons me_int ma_nil)) (me_var (pv 1))))))
theorem ok_rise_row (n : Ns Γ mg) (F : Fun Γ.K "rise_row" "rise_row" s_rise_row f fd) (c_rise : Cal P w mg base Γ 4 "rise" ["rule", "rounds"] g_rise) (c_rises_of : Cal P w mg base Γ 2 "rises_of" ["rule", "rounds"] g_rises_of) (c_first_bits : Cal P w mg base Γ 1 "first_bits" ["many", "ones"] g_first_bits) : FnG P w mg base Γ 5 f fd ["rule", "rounds"] g_rise_row :=
  have S := sc_rise_row
  ok_fn (N := ["rule", "rounds", "most", "alone", "first", "both", "last", "ahead", "much", "ones"]) (c := d_rise_row) F S fun cdv A outer s H E W hr hg tk => (mb_cons (ms_set (i := 2) S.nd rfl (.inr rfl) (me_cal c_rise rfl (hr.mono (by decide)) hg tk (by rfl) (ma_cons (me_var (pv 0)) (ma_cons (me_var (pv 1)) ma_nil)) 2 (len_cons (len_cons len_nil)) rfl rfl))
  (mb_cons (ms_set (i := 3) S.nd rfl (.inl rfl) (me_callB (call_min2 rfl) sMin2 (by rfl) n.n_min (by decide +kernel) (ma_cons (me_var (pv 1)) (ma_cons (me_callB call_len (sLen rfl) (by rfl) n.n_len (by decide +kernel) (ma_cons (me_var (pv 0)) ma_nil)) ma_nil))))
  (mb_cons (ms_setT (me_ix rfl (hu_of hr) (me_comp (own := [("much", 8), ("ones", 9)]) (g := (gTup Γ.K 2 (gCons (gName 8) (gCons (gName 9) gNil)))) rfl S.nd (mi_seq rfl (me_cal c_rises_of rfl (hr.mono (by decide)) hg tk (by rfl) (ma_cons (me_var (pv 0)) (ma_cons (me_var (pv 1)) ma_nil)) 2 (len_cons (len_cons len_nil)) rfl rfl)) (blkOk_by (own := [("much", 8), ("ones", 9)]) (N := ["rule", "rounds", "most", "alone", "first", "both", "last", "ahead", "much", "ones"]) (sc := defScope s_rise_row) (by decide +kernel)) (fun _ _ _ _ _ => pg_tup rfl (pgs_cons (pg_name (i := 8) S.nd rfl (.inl rfl)) (pgs_cons (pg_name (i := 9) S.nd rfl (.inl rfl)) pgs_nil))) (gw_tup rfl (gws_cons (gw_name (by decide)) (gws_cons (gw_name (by decide)) gws_nil))) (fun _ _ _ _ _ => mts_one (mt_cmp (opEq hr.units) sEq (nomark _) (me_var (pv 8)) (me_var (pv 2)))) (fun _ _ _ _ _ => (me_var (pv 9)))) me_int (fun _ _ => rfl) (fun _ _ => rfl)) (mg_tup' rfl rfl (mgs_cons' (mg_name (pg_name (i := 4) S.nd rfl (.inl rfl))) (mgs_cons' (mg_name (pg_name (i := 5) S.nd rfl (.inl rfl))) (mgs_cons' (mg_name (pg_name (i := 6) S.nd rfl (.inl rfl))) mgs_nil)))))
  (mb_cons (ms_set (i := 7) S.nd rfl (.inl rfl) (me_op opAdd sAdd (me_cal c_first_bits rfl (hr.mono (by decide)) hg tk (by rfl) (ma_cons (me_var (pv 3)) (ma_cons (me_var (pv 4)) ma_nil)) 2 (len_cons (len_cons len_nil)) rfl rfl) (me_cal c_first_bits rfl (hr.mono (by decide)) hg tk (by rfl) (ma_cons (me_op op_sub sSub (me_callB call_len (sLen rfl) (by rfl) n.n_len (by decide +kernel) (ma_cons (me_var (pv 0)) ma_nil)) (me_var (pv 3))) (ma_cons (me_var (pv 5)) ma_nil)) 2 (len_cons (len_cons len_nil)) rfl rfl)))
  (mb_one (ms_ret (me_op opAdd sAdd (me_op opAdd sAdd (me_var (pv 7)) (me_op opMul sMul (me_tup (ma_cons me_int ma_nil)) (me_op op_sub sSub (me_var (pv 1)) (me_var (pv 3))))) (me_cal c_first_bits rfl (hr.mono (by decide)) hg tk (by rfl) (ma_cons (me_var (pv 3)) (ma_cons (me_var (pv 6)) ma_nil)) 2 (len_cons (len_cons len_nil)) rfl rfl))))))))
theorem ok__law_begun (n : Ns Γ mg) (F : Fun Γ.K "_law_begun" "_law_begun" s__law_begun f fd) : FnG P w mg base Γ 1 f fd ["script", "k"] g__law_begun :=
  have S := sc__law_begun
  ok_fn (N := ["script", "k", "cells", "great", "seed", "cell"]) (c := d__law_begun) F S fun cdv A outer s H E W hr hg tk => (mb_cons (ms_set (i := 2) S.nd rfl (.inl rfl) (me_op opAdd sAdd (me_sl rfl (me_var (pv 0)) (mo_some (me_var (pv 1))) mo_none) (me_sl rfl (me_var (pv 0)) mo_none (mo_some (me_var (pv 1))))))
  (mb_cons (ms_setComp (i := 3) (own := [("cell", 5)]) (g := (gName 5)) rfl S.nd rfl rfl (sw_true rfl rfl rfl (by decide +kernel)) (mi_seq rfl (me_var (pv 2))) (blkOk_by (own := [("cell", 5)]) (N := ["script", "k", "cells", "great", "seed", "cell"]) (sc := defScope s__law_begun) (by decide +kernel)) (fun _ _ _ _ _ => pg_name (i := 5) S.nd rfl (.inl rfl)) (gw_name (by decide)) (fun _ _ _ _ _ => mts_one (mt_cmp op_ge sCmp (nomark _) (me_var (pv 5)) (me_op op_pow sPow me_int me_int))) (fun _ _ _ _ _ => (me_var (pv 5))))
  (mb_cons (ms_set (i := 4) S.nd rfl (.inl rfl) (me_op opAdd sAdd me_int (me_var (pv 1))))
  (mb_cons (ms_for (passes_of rfl) rfl (mi_seq rfl (me_var (pv 2))) (mg_name (pg_name (i := 5) S.nd rfl (.inl rfl))) (mb_one (ms_set (i := 4) S.nd rfl (.inl rfl) (me_op op_mod sMod (me_callTy call_int1 sInt (by rfl) n.n_int (by decide +kernel) (ma_cons (me_op opAdd sAdd (me_op opMul sMul (me_var (pv 4)) me_int) (me_var (pv 5))) ma_nil)) me_int))))
  (mb_one (ms_ret (me_dctM (ps := [((mK (.str "left")), (mIf (mTest (mBin neD (mVar 3) (mLst mNil))) (mBin ixA (mVar 3) (mK (.int 0))) (mK (.int 0)))), ((mK (.str "seed")), (mVar 4)), ((mK (.str "cells")), (mBin addD (mVar 2) (mLst (mCons (mBin addD (mBin mulD (mK (.int 37)) (mVar 1)) (mK (.int 11))) mNil)))), ((mK (.str "spot")), (mK (.int 0)))]) (pps_cons me_str (me_if (mt_cmp (opNe hr.units) sNe (nomark _) (me_var (pv 3)) (me_lst ma_nil)) (me_ix rfl (hu_of hr) (me_var (pv 3)) me_int (fun _ _ => rfl) (fun _ _ => rfl)) me_int) (pps_cons me_str (me_var (pv 4)) (pps_cons me_str (me_op opAdd sAdd (me_var (pv 2)) (me_lst (ma_cons (me_op opAdd sAdd (me_op opMul sMul me_int (me_var (pv 1))) me_int) ma_nil))) (pps_cons me_str me_int pps_nil)))) rfl rfl (by decide) (by decide))))))))
theorem ok__law_draw (n : Ns Γ mg) (F : Fun Γ.K "_law_draw" "_law_draw" s__law_draw f fd) : FnG P w mg base Γ 1 f fd ["m", "limit"] g__law_draw :=
  have S := sc__law_draw
  ok_fn (N := ["m", "limit", "found", "spot", "cells", "added", "cell", "blend"]) (c := d__law_draw) F S fun cdv A outer s H E W hr hg tk => (mb_cons (ms_if (mt_cmp op_gt sCmp (nomark _) (me_ix rfl (hu_of hr) (me_var (pv 0)) me_str (fun _ _ => rfl) (fun _ _ => rfl)) me_int) (mb_cons (ms_set (i := 2) S.nd rfl (.inl rfl) (me_op op_mod sMod (me_callTy call_int1 sInt (by rfl) n.n_int (by decide +kernel) (ma_cons (me_ix rfl (hu_of hr) (me_var (pv 0)) me_str (fun _ _ => rfl) (fun _ _ => rfl)) ma_nil)) (me_var (pv 1))))
  (mb_cons (ms_dput (hu_of hr) (me_var (pv 0)) me_str (me_op op_fdiv sDiv (me_ix rfl (hu_of hr) (me_var (pv 0)) me_str (fun _ _ => rfl) (fun _ _ => rfl)) (me_var (pv 1))) (by rfl))
  (mb_one (ms_ret (me_var (pv 2)))))) mb_nil)
  (mb_cons (ms_set (i := 3) S.nd rfl (.inl rfl) (me_ix rfl (hu_of hr) (me_var (pv 0)) me_str (fun _ _ => rfl) (fun _ _ => rfl)))
  (mb_cons (ms_dput (hu_of hr) (me_var (pv 0)) me_str (me_op opAdd sAdd (me_var (pv 3)) me_int) (by rfl))
  (mb_cons (ms_par rfl S.nd rfl rfl (by decide) rfl rfl (ma_cons (me_ix rfl (hu_of hr) (me_var (pv 0)) me_str (fun _ _ => rfl) (fun _ _ => rfl)) (ma_cons (me_op opAdd sAdd (me_ix rfl (hu_of hr) (me_var (pv 0)) me_str (fun _ _ => rfl) (fun _ _ => rfl)) (me_op opMul sMul (me_op opMul sMul me_int (me_var (pv 3))) (me_var (pv 3)))) ma_nil)) (by rfl))
  (mb_cons (ms_set (i := 6) S.nd rfl (.inl rfl) (me_ix rfl (hu_of hr) (me_var (pv 4)) (me_op op_mod sMod (me_callTy call_int1 sInt (by rfl) n.n_int (by decide +kernel) (ma_cons (me_var (pv 3)) ma_nil)) (me_callB call_len (sLen rfl) (by rfl) n.n_len (by decide +kernel) (ma_cons (me_var (pv 4)) ma_nil))) (fun _ _ => rfl) (fun _ _ => rfl)))
  (mb_cons (ms_set (i := 7) S.nd rfl (.inl rfl) (me_op op_mod sMod (me_callTy call_int1 sInt (by rfl) n.n_int (by decide +kernel) (ma_cons (me_op opAdd sAdd (me_op opMul sMul (me_var (pv 6)) (me_op opAdd sAdd (me_op opMul sMul me_int (me_var (pv 3))) me_int)) (me_var (pv 5))) ma_nil)) me_int))
  (mb_cons (ms_set (i := 7) S.nd rfl (.inl rfl) (me_op op_mod sMod (me_callTy call_int1 sInt (by rfl) n.n_int (by decide +kernel) (ma_cons (me_op opAdd sAdd (me_op opAdd sAdd (me_op opMul sMul (me_var (pv 7)) (me_var (pv 7))) (me_op opMul sMul me_int (me_var (pv 3)))) (me_ix rfl (hu_of hr) (me_var (pv 0)) me_str (fun _ _ => rfl) (fun _ _ => rfl))) ma_nil)) me_int))
  (mb_one (ms_ret (me_op op_mod sMod (me_op op_fdiv sDiv (me_op op_mod sMod (me_callTy call_int1 sInt (by rfl) n.n_int (by decide +kernel) (ma_cons (me_op opAdd sAdd (me_op opMul sMul (me_var (pv 7)) me_int) (me_var (pv 3))) ma_nil)) me_int) me_int) (me_var (pv 1))))))))))))
theorem ok__law_of (n : Ns Γ mg) (F : Fun Γ.K "_law_of" "_law_of" s__law_of f fd) (c__law_draw : Cal P w mg base Γ 1 "_law_draw" ["m", "limit"] g__law_draw) : FnG P w mg base Γ 2 f fd ["m", "some"] g__law_of :=
  have S := sc__law_of
  ok_fn (N := ["m", "some"]) (c := d__law_of) F S fun cdv A outer s H E W hr hg tk => (mb_one (ms_ret (me_ix rfl (hu_of hr) (me_var (pv 1)) (me_cal c__law_draw rfl (hr.mono (by decide)) hg tk (by rfl) (ma_cons (me_var (pv 0)) (ma_cons (me_callB call_len (sLen rfl) (by rfl) n.n_len (by decide +kernel) (ma_cons (me_var (pv 1)) ma_nil)) ma_nil)) 2 (len_cons (len_cons len_nil)) rfl rfl) (fun _ _ => rfl) (fun _ _ => rfl))))
theorem ok__law_tune (n : Ns Γ mg) (F : Fun Γ.K "_law_tune" "_law_tune" s__law_tune f fd) (c__law_draw : Cal P w mg base Γ 1 "_law_draw" ["m", "limit"] g__law_draw) : FnG P w mg base Γ 2 f fd ["m", "limit"] g__law_tune :=
  have S := sc__law_tune
  ok_fn (N := ["m", "limit", "k"]) (c := d__law_tune) F S fun cdv A outer s H E W hr hg tk => (mb_one (ms_ret (me_callTy call_tuple_of (sTuple rfl) (by rfl) n.n_tuple (by decide +kernel) (ma_cons (me_comp (own := [("k", 2)]) (g := (gName 2)) rfl S.nd (mi_range1 (by rfl) n.n_range (ma_cons (me_op opAdd sAdd me_int (me_cal c__law_draw rfl (hr.mono (by decide)) hg tk (by rfl) (ma_cons (me_var (pv 0)) (ma_cons (me_var (pv 1)) ma_nil)) 2 (len_cons (len_cons len_nil)) rfl rfl)) ma_nil)) (blkOk_by (own := [("k", 2)]) (N := ["m", "limit", "k"]) (sc := defScope s__law_tune) (by decide +kernel)) (fun _ _ _ _ _ => pg_name (i := 2) S.nd rfl (.inl rfl)) (gw_name (by decide)) (fun _ _ _ _ _ => mts_nil) (fun _ _ _ _ _ => (me_op op_sub sSub (me_cal c__law_draw rfl (hr.mono (by decide)) hg tk0 (by rfl) (ma_cons (me_var (pv 0)) (ma_cons me_int ma_nil)) 2 (len_cons (len_cons len_nil)) rfl rfl) me_int))) ma_nil))))
theorem ok__law_sum (n : Ns Γ mg) (F : Fun Γ.K "_law_sum" "_law_sum" s__law_sum f fd) : FnG P w mg base Γ 1 f fd ["tune", "some"] g__law_sum :=
  have S := sc__law_sum
  ok_fn (N := ["tune", "some", "weight", "one"]) (c := d__law_sum) F S fun cdv A outer s H E W hr hg tk => (mb_one (ms_ret (me_callB (cr_sumA rfl) (sSumA rfl) (by rfl) n.n_sum (by decide +kernel) (ma_cons (me_comp (own := [("weight", 2), ("one", 3)]) (g := (gTup Γ.K 2 (gCons (gName 2) (gCons (gName 3) gNil)))) rfl S.nd (mi_zip rfl (by rfl) n.n_zip (ma_cons (me_var (pv 0)) (ma_cons (me_callB cr_sortedA (sSortedA rfl) (by rfl) n.n_sorted (by decide +kernel) (ma_cons (me_var (pv 1)) ma_nil)) ma_nil))) (blkOk_by (own := [("weight", 2), ("one", 3)]) (N := ["tune", "some", "weight", "one"]) (sc := defScope s__law_sum) (by decide +kernel)) (fun _ _ _ _ _ => pg_tup rfl (pgs_cons (pg_name (i := 2) S.nd rfl (.inl rfl)) (pgs_cons (pg_name (i := 3) S.nd rfl (.inl rfl)) pgs_nil))) (gw_tup rfl (gws_cons (gw_name (by decide)) (gws_cons (gw_name (by decide)) gws_nil))) (fun _ _ _ _ _ => mts_nil) (fun _ _ _ _ _ => (me_op opMul sMul (me_var (pv 2)) (me_var (pv 3))))) ma_nil))))
theorem ok__law_all (n : Ns Γ mg) (F : Fun Γ.K "_law_all" "_law_all" s__law_all f fd) : FnG P w mg base Γ 1 f fd ["marks", "many"] g__law_all :=
  have S := sc__law_all
  ok_fn (N := ["marks", "many", "found", "lap", "longer", "row", "mark"]) (c := d__law_all) F S fun cdv A outer s H E W hr hg tk => (mb_cons (ms_set (i := 2) S.nd rfl (.inl rfl) (me_lst (ma_cons (me_tup ma_nil) ma_nil)))
  (mb_cons (ms_for (passes_of rfl) rfl (mi_range1 (by rfl) n.n_range (ma_cons (me_var (pv 1)) ma_nil)) (mg_name (pg_name (i := 3) S.nd rfl (.inl rfl))) (mb_cons (ms_set (i := 4) S.nd rfl (.inl rfl) (me_lst ma_nil))
  (mb_cons (ms_for (passes_of rfl) rfl (mi_seq rfl (me_var (pv 2))) (mg_name (pg_name (i := 5) S.nd rfl (.inr rfl))) (mb_one (ms_set (i := 4) S.nd rfl (.inl rfl) (me_op opAdd sAdd (me_var (pv 4)) (me_comp (own := [("mark", 6)]) (g := (gName 6)) rfl S.nd (mi_seq rfl (me_var (pv 0))) (blkOk_by (own := [("mark", 6)]) (N := ["marks", "many", "found", "lap", "longer", "row", "mark"]) (sc := defScope s__law_all) (by decide +kernel)) (fun _ _ _ _ _ => pg_name (i := 6) S.nd rfl (.inl rfl)) (gw_name (by decide)) (fun _ _ _ _ _ => mts_nil) (fun _ _ _ _ _ => (me_op opAdd sAdd (me_var (pv 5)) (me_tup (ma_cons (me_var (pv 6)) ma_nil)))))))))
  (mb_one (ms_set (i := 2) S.nd rfl (.inl rfl) (me_var (pv 4)))))))
  (mb_one (ms_ret (me_var (pv 2))))))
theorem ok__law_ends (n : Ns Γ mg) (F : Fun Γ.K "_law_ends" "_law_ends" s__law_ends f fd) (c__law_all : Cal P w mg base Γ 1 "_law_all" ["marks", "many"] g__law_all) (c__law_sum : Cal P w mg base Γ 1 "_law_sum" ["tune", "some"] g__law_sum) : FnG P w mg base Γ 2 f fd ["tune", "film", "top_so", "count"] g__law_ends :=
  have S := sc__law_ends
  ok_fn (N := ["tune", "film", "top_so", "count", "some", "far", "whole"]) (c := d__law_ends) F S fun cdv A outer s H E W hr hg tk => (mb_cons (ms_set (i := 4) S.nd rfl (.inl rfl) (me_lstM ma_nil))
  (mb_cons (ms_for (passes_of rfl) rfl (mi_seq rfl (me_cal c__law_all rfl (hr.mono (by decide)) hg tk (by rfl) (ma_cons (me_listRg1 rfl (by rfl) n.n_list (by rfl) n.n_range (me_op opAdd sAdd (me_var (pv 2)) me_int)) (ma_cons (me_var (pv 3)) ma_nil)) 2 (len_cons (len_cons len_nil)) rfl rfl)) (mg_name (pg_name (i := 5) S.nd rfl (.inl rfl))) (mb_cons (ms_set (i := 6) S.nd rfl (.inl rfl) (me_op opAdd sAdd (me_var (pv 1)) (me_var (pv 5))))
  (mb_one (ms_expr (me_app (pe_bm PySem.F.plainAttrs_list PySem.F.slot_list_append PySem.F.type_list_append mt_append (me_var (pv 4)) (pa_cons (me_cal c__law_sum rfl (hr.mono (by decide)) hg tk (by rfl) (ma_cons (me_var (pv 0)) (ma_cons (me_sl rfl (me_var (pv 6)) (mo_some (me_op op_sub sSub (me_callB call_len (sLen rfl) (by rfl) n.n_len (by decide +kernel) (ma_cons (me_var (pv 6)) ma_nil)) (me_callB call_len (sLen rfl) (by rfl) n.n_len (by decide +kernel) (ma_cons (me_var (pv 0)) ma_nil)))) mo_none) ma_nil)) 2 (len_cons (len_cons len_nil)) rfl rfl) pa_nil)))))))
  (mb_one (ms_ret (me_tup (ma_cons (me_callB (cr_min rfl) (sMinL rfl) (by rfl) n.n_min (by decide +kernel) (ma_cons (me_var (pv 4)) ma_nil)) (ma_cons (me_callB (cr_max rfl) (sMaxL rfl) (by rfl) n.n_max (by decide +kernel) (ma_cons (me_var (pv 4)) ma_nil)) ma_nil)))))))
theorem ok__law_soonest (n : Ns Γ mg) (F : Fun Γ.K "_law_soonest" "_law_soonest" s__law_soonest f fd) (c__law_ends : Cal P w mg base Γ 2 "_law_ends" ["tune", "film", "top_so", "count"] g__law_ends) : FnG P w mg base Γ 3 f fd ["tune", "film", "top_so", "least"] g__law_soonest :=
  have S := sc__law_soonest
  ok_fn (N := ["tune", "film", "top_so", "least", "some", "count"]) (c := d__law_soonest) F S fun cdv A outer s H E W hr hg tk => (mb_cons (ms_setComp (i := 4) (own := [("count", 5)]) (g := (gName 5)) rfl S.nd rfl rfl (sw_true rfl rfl rfl (by decide +kernel)) (mi_range1 (by rfl) n.n_range (ma_cons (me_op opAdd sAdd (me_callB call_len (sLen rfl) (by rfl) n.n_len (by decide +kernel) (ma_cons (me_var (pv 0)) ma_nil)) me_int) ma_nil)) (blkOk_by (own := [("count", 5)]) (N := ["tune", "film", "top_so", "least", "some", "count"]) (sc := defScope s__law_soonest) (by decide +kernel)) (fun _ _ _ _ _ => pg_name (i := 5) S.nd rfl (.inl rfl)) (gw_name (by decide)) (fun _ _ _ _ _ => mts_one (mt_cmp op_ge sCmp (nomark _) (me_ix rfl (hu_of hr) (me_cal c__law_ends rfl (hr.mono (by decide)) hg tk0 (by rfl) (ma_cons (me_var (pv 0)) (ma_cons (me_var (pv 1)) (ma_cons (me_var (pv 2)) (ma_cons (me_var (pv 5)) ma_nil)))) 4 (len_cons (len_cons (len_cons (len_cons len_nil)))) rfl rfl) me_int (fun _ _ => rfl) (fun _ _ => rfl)) (me_var (pv 3)))) (fun _ _ _ _ _ => (me_var (pv 5))))
  (mb_one (ms_ret (me_if (mt_cmp (opNe hr.units) sNe (nomark _) (me_var (pv 4)) (me_lst ma_nil)) (me_ix rfl (hu_of hr) (me_var (pv 4)) me_int (fun _ _ => rfl) (fun _ _ => rfl)) me_non))))
theorem ok__law_way_right (n : Ns Γ mg) (F : Fun Γ.K "_law_way_right" "_law_way_right" s__law_way_right f fd) (c_greatest_way : Cal P w mg base Γ 5 "greatest_way" ["rule", "row", "most", "rounds"] g_greatest_way) (c__law_sum : Cal P w mg base Γ 1 "_law_sum" ["tune", "some"] g__law_sum) : FnG P w mg base Γ 6 f fd ["tune", "film", "top_so", "count", "due"] g__law_way_right :=
  have S := sc__law_way_right
  ok_fn (N := ["tune", "film", "top_so", "count", "due", "far", "whole", "one"]) (c := d__law_way_right) F S fun cdv A outer s H E W hr hg tk => (mb_cons (ms_set (i := 5) S.nd rfl (.inl rfl) (me_cal c_greatest_way rfl (hr.mono (by decide)) hg tk (by rfl) (ma_cons (me_var (pv 0)) (ma_cons (me_var (pv 1)) (ma_cons (me_var (pv 2)) (ma_cons (me_var (pv 3)) ma_nil)))) 4 (len_cons (len_cons (len_cons (len_cons len_nil)))) rfl rfl))
  (mb_cons (ms_if (mt_w (mw_or (mt_not (mt_val (me_callB call_isi (sIsi rfl) (by rfl) n.n_isinstance (by decide +kernel) (ma_cons (me_var (pv 5)) (ma_cons (me_ty (by rfl) n.n_tuple (by decide +kernel)) ma_nil))))) (mw_or (mt_cmp (opNe hr.units) sNe (nomark _) (me_callB call_len (sLen rfl) (by rfl) n.n_len (by decide +kernel) (ma_cons (me_var (pv 5)) ma_nil)) (me_var (pv 3))) (mw_or1 (mt_cmp (opNe hr.units) sNe (nomark _) (me_cal c_greatest_way rfl (hr.mono (by decide)) hg tk (by rfl) (ma_cons (me_var (pv 0)) (ma_cons (me_var (pv 1)) (ma_cons (me_var (pv 2)) (ma_cons (me_var (pv 3)) ma_nil)))) 4 (len_cons (len_cons (len_cons (len_cons len_nil)))) rfl rfl) (me_var (pv 5))))))) (mb_one (ms_ret me_bl)) mb_nil)
  (mb_cons (ms_if (mt_cmp (opNe hr.units) sNe (nomark _) (me_comp (own := [("one", 7)]) (g := (gName 7)) rfl S.nd (mi_seq rfl (me_var (pv 5))) (blkOk_by (own := [("one", 7)]) (N := ["tune", "film", "top_so", "count", "due", "far", "whole", "one"]) (sc := defScope s__law_way_right) (by decide +kernel)) (fun _ _ _ _ _ => pg_name (i := 7) S.nd rfl (.inl rfl)) (gw_name (by decide)) (fun _ _ _ _ _ => mts_one (mt_w (mw_or (mt_not (mt_val (me_callB call_isi (sIsi rfl) (by rfl) n.n_isinstance (by decide +kernel) (ma_cons (me_var (pv 7)) (ma_cons (me_ty (by rfl) n.n_int (by decide +kernel)) ma_nil))))) (mw_or (mt_val (me_callB call_isi (sIsi rfl) (by rfl) n.n_isinstance (by decide +kernel) (ma_cons (me_var (pv 7)) (ma_cons (me_ty (by rfl) n.n_bool (by decide +kernel)) ma_nil)))) (mw_or1 (mt_not (mt_chain op_le op_le sCmp sCmp (by rfl) me_int (me_var (pv 7)) (me_var (pv 2))))))))) (fun _ _ _ _ _ => (me_var (pv 7)))) (me_lst ma_nil)) (mb_one (ms_ret me_bl)) mb_nil)
  (mb_cons (ms_set (i := 6) S.nd rfl (.inl rfl) (me_op opAdd sAdd (me_var (pv 1)) (me_var (pv 5))))
  (mb_one (ms_ret (me_cmp (opEq hr.units) sEq (nomark _) (me_cal c__law_sum rfl (hr.mono (by decide)) hg tk (by rfl) (ma_cons (me_var (pv 0)) (ma_cons (me_sl rfl (me_var (pv 6)) (mo_some (me_op op_sub sSub (me_callB call_len (sLen rfl) (by rfl) n.n_len (by decide +kernel) (ma_cons (me_var (pv 6)) ma_nil)) (me_callB call_len (sLen rfl) (by rfl) n.n_len (by decide +kernel) (ma_cons (me_var (pv 0)) ma_nil)))) mo_none) ma_nil)) 2 (len_cons (len_cons len_nil)) rfl rfl) (me_var (pv 4)))))))))
theorem ok__law_changes (n : Ns Γ mg) (F : Fun Γ.K "_law_changes" "_law_changes" s__law_changes f fd) (c__law_all : Cal P w mg base Γ 1 "_law_all" ["marks", "many"] g__law_all) (c__law_sum : Cal P w mg base Γ 1 "_law_sum" ["tune", "some"] g__law_sum) : FnG P w mg base Γ 2 f fd ["tune", "count"] g__law_changes :=
  have S := sc__law_changes
  ok_fn (N := ["tune", "count", "wide", "found", "bits"]) (c := d__law_changes) F S fun cdv A outer s H E W hr hg tk => (mb_cons (ms_par rfl S.nd rfl rfl (by decide) rfl rfl (ma_cons (me_callB call_len (sLen rfl) (by rfl) n.n_len (by decide +kernel) (ma_cons (me_var (pv 0)) ma_nil)) (ma_cons (me_lstM ma_nil) ma_nil)) (by rfl))
  (mb_cons (ms_for (passes_of rfl) rfl (mi_seq rfl (me_cal c__law_all rfl (hr.mono (by decide)) hg tk (by rfl) (ma_cons (me_tup (ma_cons me_int (ma_cons me_int ma_nil))) (ma_cons (me_op opAdd sAdd (me_var (pv 2)) (me_var (pv 1))) ma_nil)) 2 (len_cons (len_cons len_nil)) rfl rfl)) (mg_name (pg_name (i := 4) S.nd rfl (.inl rfl))) (mb_one (ms_expr (me_app (pe_bm PySem.F.plainAttrs_list PySem.F.slot_list_append PySem.F.type_list_append mt_append (me_var (pv 3)) (pa_cons (me_tup (ma_cons (me_op op_sub sSub (me_cal c__law_sum rfl (hr.mono (by decide)) hg tk (by rfl) (ma_cons (me_var (pv 0)) (ma_cons (me_sl rfl (me_var (pv 4)) (mo_some (me_var (pv 1))) mo_none) ma_nil)) 2 (len_cons (len_cons len_nil)) rfl rfl) (me_cal c__law_sum rfl (hr.mono (by decide)) hg tk (by rfl) (ma_cons (me_var (pv 0)) (ma_cons (me_sl rfl (me_var (pv 4)) mo_none (mo_some (me_var (pv 2)))) ma_nil)) 2 (len_cons (len_cons len_nil)) rfl rfl)) (ma_cons (me_var (pv 4)) ma_nil))) pa_nil))))))
  (mb_one (ms_ret (me_var (pv 3))))))
theorem ok__law_right (n : Ns Γ mg) (F : Fun Γ.K "_law_right" "_law_right" s__law_right f fd) (c__law_draw : Cal P w mg base Γ 1 "_law_draw" ["m", "limit"] g__law_draw) (c__law_of : Cal P w mg base Γ 2 "_law_of" ["m", "some"] g__law_of) (c__law_ends : Cal P w mg base Γ 2 "_law_ends" ["tune", "film", "top_so", "count"] g__law_ends) (c__law_soonest : Cal P w mg base Γ 3 "_law_soonest" ["tune", "film", "top_so", "least"] g__law_soonest) (c_reach : Cal P w mg base Γ 5 "reach" ["rule", "row", "most", "rounds"] g_reach) (c_soonest : Cal P w mg base Γ 5 "soonest" ["rule", "row", "most", "goal"] g_soonest) (c__law_way_right : Cal P w mg base Γ 6 "_law_way_right" ["tune", "film", "top_so", "count", "due"] g__law_way_right) (c__law_changes : Cal P w mg base Γ 2 "_law_changes" ["tune", "count"] g__law_changes) (c_rise : Cal P w mg base Γ 4 "rise" ["rule", "rounds"] g_rise) (c_fall : Cal P w mg base Γ 5 "fall" ["rule", "rounds"] g_fall) (c_rise_row : Cal P w mg base Γ 5 "rise_row" ["rule", "rounds"] g_rise_row) : FnG P w mg base Γ 7 f fd ["m", "tune"] g__law_right :=
  have S := sc__law_right
  ok_fn (N := ["m", "tune", "film", "top_so", "count", "least", "kept", "due", "goal_so", "again", "told_so", "some", "amounts", "first", "k", "one", "amount", "bits"]) (c := d__law_right) F S fun cdv A outer s H E W hr hg tk => (mb_cons (ms_set (i := 2) S.nd rfl (.inr rfl) (me_callTy call_tuple_of (sTuple rfl) (by rfl) n.n_tuple (by decide +kernel) (ma_cons (me_comp (own := [("k", 14)]) (g := (gName 14)) rfl S.nd (mi_range1 (by rfl) n.n_range (ma_cons (me_op opAdd sAdd (me_callB call_len (sLen rfl) (by rfl) n.n_len (by decide +kernel) (ma_cons (me_var (pv 1)) ma_nil)) (me_cal c__law_draw rfl (hr.mono (by decide)) hg tk (by rfl) (ma_cons (me_var (pv 0)) (ma_cons me_int ma_nil)) 2 (len_cons (len_cons len_nil)) rfl rfl)) ma_nil)) (blkOk_by (own := [("k", 14)]) (N := ["m", "tune", "film", "top_so", "count", "least", "kept", "due", "goal_so", "again", "told_so", "some", "amounts", "first", "k", "one", "amount", "bits"]) (sc := defScope s__law_right) (by decide +kernel)) (fun _ _ _ _ _ => pg_name (i := 14) S.nd rfl (.inl rfl)) (gw_name (by decide)) (fun _ _ _ _ _ => mts_nil) (fun _ _ _ _ _ => (me_cal c__law_draw rfl (hr.mono (by decide)) hg tk0 (by rfl) (ma_cons (me_var (pv 0)) (ma_cons (me_cal c__law_of rfl (hr.mono (by decide)) hg tk0 (by rfl) (ma_cons (me_var (pv 0)) (ma_cons (me_lst (ma_cons me_int (ma_cons me_int (ma_cons me_int ma_nil)))) ma_nil)) 2 (len_cons (len_cons len_nil)) rfl rfl) ma_nil)) 2 (len_cons (len_cons len_nil)) rfl rfl))) ma_nil)))
  (mb_cons (ms_setT (me_tup (ma_cons (me_cal c__law_draw rfl (hr.mono (by decide)) hg tk (by rfl) (ma_cons (me_var (pv 0)) (ma_cons me_int ma_nil)) 2 (len_cons (len_cons len_nil)) rfl rfl) (ma_cons (me_cal c__law_draw rfl (hr.mono (by decide)) hg tk (by rfl) (ma_cons (me_var (pv 0)) (ma_cons me_int ma_nil)) 2 (len_cons (len_cons len_nil)) rfl rfl) (ma_cons (me_op op_sub sSub (me_cal c__law_draw rfl (hr.mono (by decide)) hg tk (by rfl) (ma_cons (me_var (pv 0)) (ma_cons me_int ma_nil)) 2 (len_cons (len_cons len_nil)) rfl rfl) me_int) ma_nil)))) (mg_tup' rfl rfl (mgs_cons' (mg_name (pg_name (i := 3) S.nd rfl (.inr rfl))) (mgs_cons' (mg_name (pg_name (i := 4) S.nd rfl (.inl rfl))) (mgs_cons' (mg_name (pg_name (i := 5) S.nd rfl (.inl rfl))) mgs_nil)))))
  (mb_cons (ms_par rfl S.nd rfl rfl (by decide) rfl rfl (ma_cons (me_callB (call_repr hg hr.units) (sRepr rfl) (by rfl) n.n_repr (by decide +kernel) (ma_cons (me_lst (ma_cons (me_var (pv 1)) (ma_cons (me_var (pv 2)) ma_nil))) ma_nil)) (ma_cons (me_cal c__law_ends rfl (hr.mono (by decide)) hg tk (by rfl) (ma_cons (me_var (pv 1)) (ma_cons (me_var (pv 2)) (ma_cons (me_var (pv 3)) (ma_cons (me_var (pv 4)) ma_nil)))) 4 (len_cons (len_cons (len_cons (len_cons len_nil)))) rfl rfl) ma_nil)) (by rfl))
  (mb_cons (ms_setComp (i := 8) (own := [("one", 15)]) (g := (gName 15)) rfl S.nd rfl rfl (sw_true rfl rfl rfl (by decide +kernel)) (mi_seq rfl (me_tup (ma_cons (me_var (pv 5)) (ma_cons (me_ix rfl (hu_of hr) (me_var (pv 7)) me_int (fun _ _ => rfl) (fun _ _ => rfl)) ma_nil)))) (blkOk_by (own := [("one", 15)]) (N := ["m", "tune", "film", "top_so", "count", "least", "kept", "due", "goal_so", "again", "told_so", "some", "amounts", "first", "k", "one", "amount", "bits"]) (sc := defScope s__law_right) (by decide +kernel)) (fun _ _ _ _ _ => pg_name (i := 15) S.nd rfl (.inl rfl)) (gw_name (by decide)) (fun _ _ _ _ _ => mts_nil) (fun _ _ _ _ _ => (me_cal c__law_soonest rfl (hr.mono (by decide)) hg tk0 (by rfl) (ma_cons (me_var (pv 1)) (ma_cons (me_var (pv 2)) (ma_cons (me_var (pv 3)) (ma_cons (me_var (pv 15)) ma_nil)))) 4 (len_cons (len_cons (len_cons (len_cons len_nil)))) rfl rfl)))
  (mb_cons (ms_for (passes_of rfl) rfl (mi_range1 (by rfl) n.n_range (ma_cons me_int ma_nil)) (mg_name (pg_name (i := 9) S.nd rfl (.inl rfl))) (mb_cons (ms_set (i := 10) S.nd rfl (.inl rfl) (me_lst (ma_cons (me_cal c_reach rfl (hr.mono (by decide)) hg tk (by rfl) (ma_cons (me_var (pv 1)) (ma_cons (me_var (pv 2)) (ma_cons (me_var (pv 3)) (ma_cons (me_var (pv 4)) ma_nil)))) 4 (len_cons (len_cons (len_cons (len_cons len_nil)))) rfl rfl) (ma_cons (me_cal c_soonest rfl (hr.mono (by decide)) hg tk (by rfl) (ma_cons (me_var (pv 1)) (ma_cons (me_var (pv 2)) (ma_cons (me_var (pv 3)) (ma_cons (me_var (pv 5)) ma_nil)))) 4 (len_cons (len_cons (len_cons (len_cons len_nil)))) rfl rfl) (ma_cons (me_cal c_soonest rfl (hr.mono (by decide)) hg tk (by rfl) (ma_cons (me_var (pv 1)) (ma_cons (me_var (pv 2)) (ma_cons (me_var (pv 3)) (ma_cons (me_ix rfl (hu_of hr) (me_var (pv 7)) me_int (fun _ _ => rfl) (fun _ _ => rfl)) ma_nil)))) 4 (len_cons (len_cons (len_cons (len_cons len_nil)))) rfl rfl) ma_nil)))))
  (mb_one (ms_if (mt_cmp (opNe hr.units) sNe (nomark _) (me_callB (call_repr hg hr.units) (sRepr rfl) (by rfl) n.n_repr (by decide +kernel) (ma_cons (me_var (pv 10)) ma_nil)) (me_callB (call_repr hg hr.units) (sRepr rfl) (by rfl) n.n_repr (by decide +kernel) (ma_cons (me_op opAdd sAdd (me_lst (ma_cons (me_var (pv 7)) ma_nil)) (me_var (pv 8))) ma_nil))) (mb_one (ms_ret me_bl)) mb_nil))))
  (mb_cons (ms_if (mt_not (mt_val (me_cal c__law_way_right rfl (hr.mono (by decide)) hg tk (by rfl) (ma_cons (me_var (pv 1)) (ma_cons (me_var (pv 2)) (ma_cons (me_var (pv 3)) (ma_cons (me_var (pv 4)) (ma_cons (me_ix rfl (hu_of hr) (me_var (pv 7)) me_int (fun _ _ => rfl) (fun _ _ => rfl)) ma_nil))))) 5 (len_cons (len_cons (len_cons (len_cons (len_cons len_nil))))) rfl rfl))) (mb_one (ms_ret me_bl)) mb_nil)
  (mb_cons (ms_set (i := 11) S.nd rfl (.inl rfl) (me_cal c__law_changes rfl (hr.mono (by decide)) hg tk (by rfl) (ma_cons (me_var (pv 1)) (ma_cons (me_var (pv 4)) ma_nil)) 2 (len_cons (len_cons len_nil)) rfl rfl))
  (mb_cons (ms_set (i := 12) S.nd rfl (.inr rfl) (me_comp (own := [("amount", 16), ("bits", 17)]) (g := (gTup Γ.K 2 (gCons (gName 16) (gCons (gName 17) gNil)))) rfl S.nd (mi_seq rfl (me_var (pv 11))) (blkOk_by (own := [("amount", 16), ("bits", 17)]) (N := ["m", "tune", "film", "top_so", "count", "least", "kept", "due", "goal_so", "again", "told_so", "some", "amounts", "first", "k", "one", "amount", "bits"]) (sc := defScope s__law_right) (by decide +kernel)) (fun _ _ _ _ _ => pg_tup rfl (pgs_cons (pg_name (i := 16) S.nd rfl (.inl rfl)) (pgs_cons (pg_name (i := 17) S.nd rfl (.inl rfl)) pgs_nil))) (gw_tup rfl (gws_cons (gw_name (by decide)) (gws_cons (gw_name (by decide)) gws_nil))) (fun _ _ _ _ _ => mts_nil) (fun _ _ _ _ _ => (me_var (pv 16)))))
  (mb_cons (ms_set (i := 13) S.nd rfl (.inl rfl) (me_ix rfl (hu_of hr) (me_comp (own := [("amount", 16), ("bits", 17)]) (g := (gTup Γ.K 2 (gCons (gName 16) (gCons (gName 17) gNil)))) rfl S.nd (mi_seq rfl (me_var (pv 11))) (blkOk_by (own := [("amount", 16), ("bits", 17)]) (N := ["m", "tune", "film", "top_so", "count", "least", "kept", "due", "goal_so", "again", "told_so", "some", "amounts", "first", "k", "one", "amount", "bits"]) (sc := defScope s__law_right) (by decide +kernel)) (fun _ _ _ _ _ => pg_tup rfl (pgs_cons (pg_name (i := 16) S.nd rfl (.inl rfl)) (pgs_cons (pg_name (i := 17) S.nd rfl (.inl rfl)) pgs_nil))) (gw_tup rfl (gws_cons (gw_name (by decide)) (gws_cons (gw_name (by decide)) gws_nil))) (fun _ _ _ _ _ => mts_one (mt_cmp (opEq hr.units) sEq (nomark _) (me_var (pv 16)) (me_callB (cr_max rfl) (sMaxL rfl) (by rfl) n.n_max (by decide +kernel) (ma_cons (me_var (pv 12)) ma_nil)))) (fun _ _ _ _ _ => (me_var (pv 17)))) me_int (fun _ _ => rfl) (fun _ _ => rfl)))
  (mb_cons (ms_for (passes_of rfl) rfl (mi_range1 (by rfl) n.n_range (ma_cons me_int ma_nil)) (mg_name (pg_name (i := 9) S.nd rfl (.inl rfl))) (mb_cons (ms_set (i := 10) S.nd rfl (.inl rfl) (me_lst (ma_cons (me_cal c_rise rfl (hr.mono (by decide)) hg tk (by rfl) (ma_cons (me_var (pv 1)) (ma_cons (me_var (pv 4)) ma_nil)) 2 (len_cons (len_cons len_nil)) rfl rfl) (ma_cons (me_cal c_fall rfl (hr.mono (by decide)) hg tk (by rfl) (ma_cons (me_var (pv 1)) (ma_cons (me_var (pv 4)) ma_nil)) 2 (len_cons (len_cons len_nil)) rfl rfl) (ma_cons (me_cal c_rise_row rfl (hr.mono (by decide)) hg tk (by rfl) (ma_cons (me_var (pv 1)) (ma_cons (me_var (pv 4)) ma_nil)) 2 (len_cons (len_cons len_nil)) rfl rfl) ma_nil)))))
  (mb_one (ms_if (mt_cmp (opNe hr.units) sNe (nomark _) (me_callB (call_repr hg hr.units) (sRepr rfl) (by rfl) n.n_repr (by decide +kernel) (ma_cons (me_var (pv 10)) ma_nil)) (me_callB (call_repr hg hr.units) (sRepr rfl) (by rfl) n.n_repr (by decide +kernel) (ma_cons (me_lst (ma_cons (me_callB (cr_max rfl) (sMaxL rfl) (by rfl) n.n_max (by decide +kernel) (ma_cons (me_var (pv 12)) ma_nil)) (ma_cons (me_op op_sub sSub me_int (me_callB (cr_min rfl) (sMinL rfl) (by rfl) n.n_min (by decide +kernel) (ma_cons (me_var (pv 12)) ma_nil))) (ma_cons (me_var (pv 13)) ma_nil)))) ma_nil))) (mb_one (ms_ret me_bl)) mb_nil))))
  (mb_one (ms_ret (me_cmp (opEq hr.units) sEq (nomark _) (me_callB (call_repr hg hr.units) (sRepr rfl) (by rfl) n.n_repr (by decide +kernel) (ma_cons (me_lst (ma_cons (me_var (pv 1)) (ma_cons (me_var (pv 2)) ma_nil))) ma_nil)) (me_var (pv 6)))))))))))))))
theorem ok__law_many_right (n : Ns Γ mg) (F : Fun Γ.K "_law_many_right" "_law_many_right" s__law_many_right f fd) (c__law_draw : Cal P w mg base Γ 1 "_law_draw" ["m", "limit"] g__law_draw) (c__law_all : Cal P w mg base Γ 1 "_law_all" ["marks", "many"] g__law_all) (c__law_sum : Cal P w mg base Γ 1 "_law_sum" ["tune", "some"] g__law_sum) (c_reach : Cal P w mg base Γ 5 "reach" ["rule", "row", "most", "rounds"] g_reach) (c__law_way_right : Cal P w mg base Γ 6 "_law_way_right" ["tune", "film", "top_so", "count", "due"] g__law_way_right) (c_rise : Cal P w mg base Γ 4 "rise" ["rule", "rounds"] g_rise) (c_fall : Cal P w mg base Γ 5 "fall" ["rule", "rounds"] g_fall) (c_rise_row : Cal P w mg base Γ 5 "rise_row" ["rule", "rounds"] g_rise_row) : FnG P w mg base Γ 7 f fd ["m", "tune"] g__law_many_right :=
  have S := sc__law_many_right
  ok_fn (N := ["m", "tune", "film", "many", "sums_so", "due", "told_so", "most_so", "row", "ends_so", "calm", "k", "bits", "one"]) (c := d__law_many_right) F S fun cdv A outer s H E W hr hg tk => (mb_cons (ms_par rfl S.nd rfl rfl (by decide) rfl rfl (ma_cons (me_callTy call_tuple_of (sTuple rfl) (by rfl) n.n_tuple (by decide +kernel) (ma_cons (me_comp (own := [("k", 11)]) (g := (gName 11)) rfl S.nd (mi_range1 (by rfl) n.n_range (ma_cons (me_callB call_len (sLen rfl) (by rfl) n.n_len (by decide +kernel) (ma_cons (me_var (pv 1)) ma_nil)) ma_nil)) (blkOk_by (own := [("k", 11)]) (N := ["m", "tune", "film", "many", "sums_so", "due", "told_so", "most_so", "row", "ends_so", "calm", "k", "bits", "one"]) (sc := defScope s__law_many_right) (by decide +kernel)) (fun _ _ _ _ _ => pg_name (i := 11) S.nd rfl (.inl rfl)) (gw_name (by decide)) (fun _ _ _ _ _ => mts_nil) (fun _ _ _ _ _ => (me_cal c__law_draw rfl (hr.mono (by decide)) hg tk0 (by rfl) (ma_cons (me_var (pv 0)) (ma_cons (me_op op_pow sPow me_int me_int) ma_nil)) 2 (len_cons (len_cons len_nil)) rfl rfl))) ma_nil)) (ma_cons (me_op opAdd sAdd (me_callB call_len (sLen rfl) (by rfl) n.n_len (by decide +kernel) (ma_cons (me_var (pv 1)) ma_nil)) (me_cal c__law_draw rfl (hr.mono (by decide)) hg tk (by rfl) (ma_cons (me_var (pv 0)) (ma_cons me_int ma_nil)) 2 (len_cons (len_cons len_nil)) rfl rfl)) ma_nil)) (by rfl))
  (mb_cons (ms_setComp (i := 4) (own := [("bits", 12)]) (g := (gName 12)) rfl S.nd rfl rfl (sw_true rfl rfl rfl (by decide +kernel)) (mi_seq rfl (me_cal c__law_all rfl (hr.mono (by decide)) hg tk (by rfl) (ma_cons (me_tup (ma_cons me_int (ma_cons me_int ma_nil))) (ma_cons (me_callB call_len (sLen rfl) (by rfl) n.n_len (by decide +kernel) (ma_cons (me_var (pv 1)) ma_nil)) ma_nil)) 2 (len_cons (len_cons len_nil)) rfl rfl)) (blkOk_by (own := [("bits", 12)]) (N := ["m", "tune", "film", "many", "sums_so", "due", "told_so", "most_so", "row", "ends_so", "calm", "k", "bits", "one"]) (sc := defScope s__law_many_right) (by decide +kernel)) (fun _ _ _ _ _ => pg_name (i := 12) S.nd rfl (.inl rfl)) (gw_name (by decide)) (fun _ _ _ _ _ => mts_nil) (fun _ _ _ _ _ => (me_cal c__law_sum rfl (hr.mono (by decide)) hg tk0 (by rfl) (ma_cons (me_var (pv 1)) (ma_cons (me_var (pv 12)) ma_nil)) 2 (len_cons (len_cons len_nil)) rfl rfl)))
  (mb_cons (ms_set (i := 5) S.nd rfl (.inl rfl) (me_tup (ma_cons (me_op opMul sMul (me_op op_pow sPow me_int me_int) (me_callB (cr_min rfl) (sMinL rfl) (by rfl) n.n_min (by decide +kernel) (ma_cons (me_var (pv 4)) ma_nil))) (ma_cons (me_op opMul sMul (me_op op_pow sPow me_int me_int) (me_callB (cr_max rfl) (sMaxL rfl) (by rfl) n.n_max (by decide +kernel) (ma_cons (me_var (pv 4)) ma_nil))) ma_nil))))
  (mb_cons (ms_if (mt_w (mw_or (mt_cmp (opNe hr.units) sNe (nomark _) (me_cal c_reach rfl (hr.mono (by decide)) hg tk (by rfl) (ma_cons (me_var (pv 1)) (ma_cons (me_var (pv 2)) (ma_cons (me_op op_pow sPow me_int me_int) (ma_cons (me_var (pv 3)) ma_nil)))) 4 (len_cons (len_cons (len_cons (len_cons len_nil)))) rfl rfl) (me_var (pv 5))) (mw_or1 (mt_not (mt_val (me_cal c__law_way_right rfl (hr.mono (by decide)) hg tk (by rfl) (ma_cons (me_var (pv 1)) (ma_cons (me_var (pv 2)) (ma_cons (me_op op_pow sPow me_int me_int) (ma_cons (me_var (pv 3)) (ma_cons (me_ix rfl (hu_of hr) (me_var (pv 5)) me_int (fun _ _ => rfl) (fun _ _ => rfl)) ma_nil))))) 5 (len_cons (len_cons (len_cons (len_cons (len_cons len_nil))))) rfl rfl)))))) (mb_one (ms_ret me_bl)) mb_nil)
  (mb_cons (ms_set (i := 6) S.nd rfl (.inl rfl) (me_lst (ma_cons (me_cal c_rise rfl (hr.mono (by decide)) hg tk (by rfl) (ma_cons (me_var (pv 1)) (ma_cons (me_var (pv 3)) ma_nil)) 2 (len_cons (len_cons len_nil)) rfl rfl) (ma_cons (me_cal c_fall rfl (hr.mono (by decide)) hg tk (by rfl) (ma_cons (me_var (pv 1)) (ma_cons (me_var (pv 3)) ma_nil)) 2 (len_cons (len_cons len_nil)) rfl rfl) (ma_cons (me_callB call_len (sLen rfl) (by rfl) n.n_len (by decide +kernel) (ma_cons (me_cal c_rise_row rfl (hr.mono (by decide)) hg tk (by rfl) (ma_cons (me_var (pv 1)) (ma_cons (me_var (pv 3)) ma_nil)) 2 (len_cons (len_cons len_nil)) rfl rfl) ma_nil)) ma_nil)))))
  (mb_cons (ms_set (i := 7) S.nd rfl (.inl rfl) (me_op op_sub sSub (me_callB (cr_max rfl) (sMaxL rfl) (by rfl) n.n_max (by decide +kernel) (ma_cons (me_var (pv 4)) ma_nil)) (me_callB (cr_min rfl) (sMinL rfl) (by rfl) n.n_min (by decide +kernel) (ma_cons (me_var (pv 4)) ma_nil))))
  (mb_cons (ms_set (i := 8) S.nd rfl (.inl rfl) (me_cal c_rise_row rfl (hr.mono (by decide)) hg tk (by rfl) (ma_cons (me_var (pv 1)) (ma_cons (me_var (pv 3)) ma_nil)) 2 (len_cons (len_cons len_nil)) rfl rfl))
  (mb_cons (ms_set (i := 9) S.nd rfl (.inl rfl) (me_lst (ma_cons (me_cal c__law_sum rfl (hr.mono (by decide)) hg tk (by rfl) (ma_cons (me_var (pv 1)) (ma_cons (me_sl rfl (me_var (pv 8)) mo_none (mo_some (me_callB call_len (sLen rfl) (by rfl) n.n_len (by decide +kernel) (ma_cons (me_var (pv 1)) ma_nil)))) ma_nil)) 2 (len_cons (len_cons len_nil)) rfl rfl) (ma_cons (me_cal c__law_sum rfl (hr.mono (by decide)) hg tk (by rfl) (ma_cons (me_var (pv 1)) (ma_cons (me_sl rfl (me_var (pv 8)) (mo_some (me_op op_sub sSub (me_callB call_len (sLen rfl) (by rfl) n.n_len (by decide +kernel) (ma_cons (me_var (pv 8)) ma_nil)) (me_callB call_len (sLen rfl) (by rfl) n.n_len (by decide +kernel) (ma_cons (me_var (pv 1)) ma_nil)))) mo_none) ma_nil)) 2 (len_cons (len_cons len_nil)) rfl rfl) ma_nil))))
  (mb_cons (ms_set (i := 10) S.nd rfl (.inl rfl) (me_cmp (opEq hr.units) sEq (nomark _) (me_comp (own := [("one", 13)]) (g := (gName 13)) rfl S.nd (mi_seq rfl (me_sl rfl (me_var (pv 8)) (mo_some (me_callB call_len (sLen rfl) (by rfl) n.n_len (by decide +kernel) (ma_cons (me_var (pv 1)) ma_nil))) (mo_some (me_op op_sub sSub (me_callB call_len (sLen rfl) (by rfl) n.n_len (by decide +kernel) (ma_cons (me_var (pv 8)) ma_nil)) (me_callB call_len (sLen rfl) (by rfl) n.n_len (by decide +kernel) (ma_cons (me_var (pv 1)) ma_nil)))))) (blkOk_by (own := [("one", 13)]) (N := ["m", "tune", "film", "many", "sums_so", "due", "told_so", "most_so", "row", "ends_so", "calm", "k", "bits", "one"]) (sc := defScope s__law_many_right) (by decide +kernel)) (fun _ _ _ _ _ => pg_name (i := 13) S.nd rfl (.inl rfl)) (gw_name (by decide)) (fun _ _ _ _ _ => mts_one (mt_cmp (opNe hr.units) sNe (nomark _) (me_var (pv 13)) me_int)) (fun _ _ _ _ _ => (me_var (pv 13)))) (me_lst ma_nil)))
  (mb_one (ms_ret (me_and (me_cmp (opEq hr.units) sEq (nomark _) (me_var (pv 6)) (me_lst (ma_cons (me_var (pv 7)) (ma_cons (me_var (pv 7)) (ma_cons (me_op opAdd sAdd (me_callB call_len (sLen rfl) (by rfl) n.n_len (by decide +kernel) (ma_cons (me_var (pv 1)) ma_nil)) (me_var (pv 3))) ma_nil))))) (me_and (me_cmp (opEq hr.units) sEq (nomark _) (me_op op_sub sSub (me_ix rfl (hu_of hr) (me_var (pv 9)) me_int (fun _ _ => rfl) (fun _ _ => rfl)) (me_ix rfl (hu_of hr) (me_var (pv 9)) me_int (fun _ _ => rfl) (fun _ _ => rfl))) (me_var (pv 7))) (me_one (me_var (pv 10))))))))))))))))
theorem ok__law_hand_right (n : Ns Γ mg) (F : Fun Γ.K "_law_hand_right" "_law_hand_right" s__law_hand_right f fd) (c_reach : Cal P w mg base Γ 5 "reach" ["rule", "row", "most", "rounds"] g_reach) (c_soonest : Cal P w mg base Γ 5 "soonest" ["rule", "row", "most", "goal"] g_soonest) (c_greatest_way : Cal P w mg base Γ 5 "greatest_way" ["rule", "row", "most", "rounds"] g_greatest_way) (c_rise : Cal P w mg base Γ 4 "rise" ["rule", "rounds"] g_rise) (c_fall : Cal P w mg base Γ 5 "fall" ["rule", "rounds"] g_fall) (c_rise_row : Cal P w mg base Γ 5 "rise_row" ["rule", "rounds"] g_rise_row) : FnG P w mg base Γ 6 f fd [] g__law_hand_right :=
  have S := sc__law_hand_right
  ok_fn (N := ["tune", "film", "told_so", "six", "count"]) (c := d__law_hand_right) F S fun cdv A outer s H E W hr hg tk => (mb_cons (ms_setT (me_tup (ma_cons (me_tup (ma_cons me_int (ma_cons me_int (ma_cons me_int (ma_cons me_int ma_nil))))) (ma_cons (me_tup (ma_cons me_int (ma_cons me_int (ma_cons me_int (ma_cons me_int (ma_cons me_int ma_nil)))))) ma_nil))) (mg_tup' rfl rfl (mgs_cons' (mg_name (pg_name (i := 0) S.nd rfl (.inl rfl))) (mgs_cons' (mg_name (pg_name (i := 1) S.nd rfl (.inr rfl))) mgs_nil))))
  (mb_cons (ms_set (i := 2) S.nd rfl (.inl rfl) (me_lst (ma_cons (me_cal c_reach rfl (hr.mono (by decide)) hg tk (by rfl) (ma_cons (me_var (pv 0)) (ma_cons (me_var (pv 1)) (ma_cons me_int (ma_cons me_int ma_nil)))) 4 (len_cons (len_cons (len_cons (len_cons len_nil)))) rfl rfl) (ma_cons (me_cal c_reach rfl (hr.mono (by decide)) hg tk (by rfl) (ma_cons (me_var (pv 0)) (ma_cons (me_var (pv 1)) (ma_cons me_int (ma_cons me_int ma_nil)))) 4 (len_cons (len_cons (len_cons (len_cons len_nil)))) rfl rfl) (ma_cons (me_cal c_reach rfl (hr.mono (by decide)) hg tk (by rfl) (ma_cons (me_var (pv 0)) (ma_cons (me_var (pv 1)) (ma_cons me_int (ma_cons me_int ma_nil)))) 4 (len_cons (len_cons (len_cons (len_cons len_nil)))) rfl rfl) (ma_cons (me_cal c_reach rfl (hr.mono (by decide)) hg tk (by rfl) (ma_cons (me_var (pv 0)) (ma_cons (me_var (pv 1)) (ma_cons me_int (ma_cons me_int ma_nil)))) 4 (len_cons (len_cons (len_cons (len_cons len_nil)))) rfl rfl) ma_nil))))))
  (mb_cons (ms_if (mt_cmp (opNe hr.units) sNe (nomark _) (me_var (pv 2)) (me_lst (ma_cons (me_tup (ma_cons me_int (ma_cons me_int ma_nil))) (ma_cons (me_tup (ma_cons me_int (ma_cons me_int ma_nil))) (ma_cons (me_tup (ma_cons me_int (ma_cons me_int ma_nil))) (ma_cons (me_tup (ma_cons me_int (ma_cons me_int ma_nil))) ma_nil)))))) (mb_one (ms_ret me_bl)) mb_nil)
  (mb_cons (ms_set (i := 2) S.nd rfl (.inl rfl) (me_lst (ma_cons (me_cal c_soonest rfl (hr.mono (by decide)) hg tk (by rfl) (ma_cons (me_var (pv 0)) (ma_cons (me_var (pv 1)) (ma_cons me_int (ma_cons me_int ma_nil)))) 4 (len_cons (len_cons (len_cons (len_cons len_nil)))) rfl rfl) (ma_cons (me_cal c_soonest rfl (hr.mono (by decide)) hg tk (by rfl) (ma_cons (me_var (pv 0)) (ma_cons (me_var (pv 1)) (ma_cons me_int (ma_cons me_int ma_nil)))) 4 (len_cons (len_cons (len_cons (len_cons len_nil)))) rfl rfl) (ma_cons (me_cal c_soonest rfl (hr.mono (by decide)) hg tk (by rfl) (ma_cons (me_var (pv 0)) (ma_cons (me_var (pv 1)) (ma_cons me_int (ma_cons me_int ma_nil)))) 4 (len_cons (len_cons (len_cons (len_cons len_nil)))) rfl rfl) ma_nil)))))
  (mb_cons (ms_if (mt_w (mw_or (mt_cmp (opNe hr.units) sNe (nomark _) (me_var (pv 2)) (me_lst (ma_cons me_int (ma_cons me_int (ma_cons me_non ma_nil))))) (mw_or1 (mt_cmp (opNe hr.units) sNe (nomark _) (me_cal c_soonest rfl (hr.mono (by decide)) hg tk (by rfl) (ma_cons (me_var (pv 0)) (ma_cons (me_var (pv 1)) (ma_cons me_int (ma_cons (me_un un_neg sNeg me_int) ma_nil)))) 4 (len_cons (len_cons (len_cons (len_cons len_nil)))) rfl rfl) me_int)))) (mb_one (ms_ret me_bl)) mb_nil)
  (mb_cons (ms_set (i := 2) S.nd rfl (.inl rfl) (me_lst (ma_cons (me_cal c_reach rfl (hr.mono (by decide)) hg tk (by rfl) (ma_cons (me_tup (ma_cons me_int (ma_cons (me_un un_neg sNeg me_int) ma_nil))) (ma_cons (me_tup (ma_cons me_int (ma_cons me_int ma_nil))) (ma_cons me_int (ma_cons me_int ma_nil)))) 4 (len_cons (len_cons (len_cons (len_cons len_nil)))) rfl rfl) (ma_cons (me_cal c_greatest_way rfl (hr.mono (by decide)) hg tk (by rfl) (ma_cons (me_tup (ma_cons me_int (ma_cons (me_un un_neg sNeg me_int) ma_nil))) (ma_cons (me_tup (ma_cons me_int (ma_cons me_int ma_nil))) (ma_cons me_int (ma_cons me_int ma_nil)))) 4 (len_cons (len_cons (len_cons (len_cons len_nil)))) rfl rfl) (ma_cons (me_cal c_reach rfl (hr.mono (by decide)) hg tk (by rfl) (ma_cons (me_tup (ma_cons me_int (ma_cons (me_un un_neg sNeg me_int) ma_nil))) (ma_cons (me_tup (ma_cons me_int (ma_cons me_int ma_nil))) (ma_cons me_int (ma_cons me_int ma_nil)))) 4 (len_cons (len_cons (len_cons (len_cons len_nil)))) rfl rfl) ma_nil)))))
  (mb_cons (ms_if (mt_cmp (opNe hr.units) sNe (nomark _) (me_var (pv 2)) (me_lst (ma_cons (me_tup (ma_cons (me_un un_neg sNeg me_int) (ma_cons me_int ma_nil))) (ma_cons (me_tup (ma_cons me_int ma_nil)) (ma_cons (me_tup (ma_cons (me_un un_neg sNeg me_int) (ma_cons me_int ma_nil))) ma_nil))))) (mb_one (ms_ret me_bl)) mb_nil)
  (mb_cons (ms_setT (me_tup (ma_cons (me_op opMul sMul (me_tup (ma_cons me_int ma_nil)) me_int) (ma_cons (me_tup (ma_cons me_int (ma_cons me_int (ma_cons me_int (ma_cons me_int (ma_cons me_int (ma_cons me_int ma_nil))))))) ma_nil))) (mg_tup' rfl rfl (mgs_cons' (mg_name (pg_name (i := 3) S.nd rfl (.inl rfl))) (mgs_cons' (mg_name (pg_name (i := 1) S.nd rfl (.inr rfl))) mgs_nil))))
  (mb_cons (ms_set (i := 2) S.nd rfl (.inl rfl) (me_lst (ma_cons (me_cal c_rise rfl (hr.mono (by decide)) hg tk (by rfl) (ma_cons (me_var (pv 3)) (ma_cons me_int ma_nil)) 2 (len_cons (len_cons len_nil)) rfl rfl) (ma_cons (me_cal c_rise rfl (hr.mono (by decide)) hg tk (by rfl) (ma_cons (me_var (pv 3)) (ma_cons me_int ma_nil)) 2 (len_cons (len_cons len_nil)) rfl rfl) (ma_cons (me_cal c_fall rfl (hr.mono (by decide)) hg tk (by rfl) (ma_cons (me_var (pv 3)) (ma_cons me_int ma_nil)) 2 (len_cons (len_cons len_nil)) rfl rfl) (ma_cons (me_cal c_fall rfl (hr.mono (by decide)) hg tk (by rfl) (ma_cons (me_var (pv 3)) (ma_cons me_int ma_nil)) 2 (len_cons (len_cons len_nil)) rfl rfl) (ma_cons (me_cal c_soonest rfl (hr.mono (by decide)) hg tk (by rfl) (ma_cons (me_var (pv 3)) (ma_cons (me_op opMul sMul (me_tup (ma_cons me_int ma_nil)) me_int) (ma_cons me_int (ma_cons me_int ma_nil)))) 4 (len_cons (len_cons (len_cons (len_cons len_nil)))) rfl rfl) ma_nil)))))))
  (mb_cons (ms_if (mt_w (mw_or (mt_cmp (opNe hr.units) sNe (nomark _) (me_var (pv 2)) (me_lst (ma_cons me_int (ma_cons me_int (ma_cons me_int (ma_cons me_int (ma_cons me_int ma_nil))))))) (mw_or1 (mt_cmp (opNe hr.units) sNe (nomark _) (me_cal c_soonest rfl (hr.mono (by decide)) hg tk (by rfl) (ma_cons (me_tup (ma_cons me_int (ma_cons me_int (ma_cons me_int (ma_cons me_int (ma_cons me_int ma_nil)))))) (ma_cons (me_op opMul sMul (me_tup (ma_cons me_int ma_nil)) me_int) (ma_cons me_int (ma_cons me_int ma_nil)))) 4 (len_cons (len_cons (len_cons (len_cons len_nil)))) rfl rfl) me_int)))) (mb_one (ms_ret me_bl)) mb_nil)
  (mb_cons (ms_if (mt_cmp (opNe hr.units) sNe (nomark _) (me_comp (own := [("count", 4)]) (g := (gName 4)) rfl S.nd (mi_seq rfl (me_tup (ma_cons me_int (ma_cons me_int (ma_cons me_int ma_nil))))) (blkOk_by (own := [("count", 4)]) (N := ["tune", "film", "told_so", "six", "count"]) (sc := defScope s__law_hand_right) (by decide +kernel)) (fun _ _ _ _ _ => pg_name (i := 4) S.nd rfl (.inl rfl)) (gw_name (by decide)) (fun _ _ _ _ _ => mts_nil) (fun _ _ _ _ _ => (me_cal c_reach rfl (hr.mono (by decide)) hg tk0 (by rfl) (ma_cons (me_tup (ma_cons me_int (ma_cons me_int (ma_cons me_int (ma_cons me_int (ma_cons me_int (ma_cons me_int ma_nil))))))) (ma_cons (me_var (pv 1)) (ma_cons me_int (ma_cons (me_var (pv 4)) ma_nil)))) 4 (len_cons (len_cons (len_cons (len_cons len_nil)))) rfl rfl))) (me_lst (ma_cons (me_tup (ma_cons me_int (ma_cons me_int ma_nil))) (ma_cons (me_tup (ma_cons me_int (ma_cons me_int ma_nil))) (ma_cons (me_tup (ma_cons me_int (ma_cons me_int ma_nil))) ma_nil))))) (mb_one (ms_ret me_bl)) mb_nil)
  (mb_cons (ms_set (i := 2) S.nd rfl (.inl rfl) (me_lst (ma_cons (me_cal c_rise rfl (hr.mono (by decide)) hg tk (by rfl) (ma_cons (me_var (pv 0)) (ma_cons me_int ma_nil)) 2 (len_cons (len_cons len_nil)) rfl rfl) (ma_cons (me_cal c_fall rfl (hr.mono (by decide)) hg tk (by rfl) (ma_cons (me_var (pv 0)) (ma_cons me_int ma_nil)) 2 (len_cons (len_cons len_nil)) rfl rfl) (ma_cons (me_cal c_rise_row rfl (hr.mono (by decide)) hg tk (by rfl) (ma_cons (me_var (pv 0)) (ma_cons me_int ma_nil)) 2 (len_cons (len_cons len_nil)) rfl rfl) (ma_cons (me_cal c_rise_row rfl (hr.mono (by decide)) hg tk (by rfl) (ma_cons (me_var (pv 0)) (ma_cons me_int ma_nil)) 2 (len_cons (len_cons len_nil)) rfl rfl) (ma_cons (me_cal c_rise rfl (hr.mono (by decide)) hg tk (by rfl) (ma_cons (me_var (pv 0)) (ma_cons me_int ma_nil)) 2 (len_cons (len_cons len_nil)) rfl rfl) (ma_cons (me_cal c_rise_row rfl (hr.mono (by decide)) hg tk (by rfl) (ma_cons (me_tup (ma_cons me_int ma_nil)) (ma_cons me_int ma_nil)) 2 (len_cons (len_cons len_nil)) rfl rfl) ma_nil))))))))
  (mb_cons (ms_if (mt_cmp (opNe hr.units) sNe (nomark _) (me_var (pv 2)) (me_lst (ma_cons me_int (ma_cons me_int (ma_cons (me_tup (ma_cons me_int (ma_cons me_int (ma_cons me_int (ma_cons me_int (ma_cons me_int ma_nil)))))) (ma_cons (me_tup (ma_cons me_int (ma_cons me_int (ma_cons me_int (ma_cons me_int (ma_cons me_int (ma_cons me_int ma_nil))))))) (ma_cons me_int (ma_cons (me_tup (ma_cons me_int (ma_cons me_int (ma_cons me_int ma_nil)))) ma_nil)))))))) (mb_one (ms_ret me_bl)) mb_nil)
  (mb_one (ms_ret (me_and (me_cmp (opEq hr.units) sEq (nomark _) (me_lst (ma_cons (me_cal c_rise rfl (hr.mono (by decide)) hg tk (by rfl) (ma_cons (me_tup (ma_cons me_int (ma_cons (me_un un_neg sNeg me_int) ma_nil))) (ma_cons me_int ma_nil)) 2 (len_cons (len_cons len_nil)) rfl rfl) (ma_cons (me_cal c_fall rfl (hr.mono (by decide)) hg tk (by rfl) (ma_cons (me_tup (ma_cons me_int (ma_cons (me_un un_neg sNeg me_int) ma_nil))) (ma_cons me_int ma_nil)) 2 (len_cons (len_cons len_nil)) rfl rfl) (ma_cons (me_cal c_rise_row rfl (hr.mono (by decide)) hg tk (by rfl) (ma_cons (me_tup (ma_cons me_int (ma_cons (me_un un_neg sNeg me_int) ma_nil))) (ma_cons me_int ma_nil)) 2 (len_cons (len_cons len_nil)) rfl rfl) ma_nil)))) (me_lst (ma_cons me_int (ma_cons me_int (ma_cons (me_tup (ma_cons me_int (ma_cons me_int (ma_cons me_int ma_nil)))) ma_nil))))) (me_one (me_cmp (opEq hr.units) sEq (nomark _) (me_cal c_rise_row rfl (hr.mono (by decide)) hg tk (by rfl) (ma_cons (me_tup (ma_cons me_int ma_nil)) (ma_cons me_int ma_nil)) 2 (len_cons (len_cons len_nil)) rfl rfl) (me_tup (ma_cons me_int ma_nil))))))))))))))))))))
theorem ok_law (n : Ns Γ mg) (F : Fun Γ.K "law" "law" s_law f fd) (c__law_begun : Cal P w mg base Γ 1 "_law_begun" ["script", "k"] g__law_begun) (c__law_tune : Cal P w mg base Γ 2 "_law_tune" ["m", "limit"] g__law_tune) (c__law_right : Cal P w mg base Γ 7 "_law_right" ["m", "tune"] g__law_right) (c__law_many_right : Cal P w mg base Γ 7 "_law_many_right" ["m", "tune"] g__law_many_right) (c__law_hand_right : Cal P w mg base Γ 6 "_law_hand_right" [] g__law_hand_right) : FnG P w mg base Γ 8 f fd ["script"] g_law :=
  have S := sc_law
  ok_fn (N := ["script", "k", "m", "tune"]) (c := d_law) F S fun cdv A outer s H E W hr hg tk => (mb_cons (ms_for (passes_of rfl) rfl (mi_range1 (by rfl) n.n_range (ma_cons (me_op opAdd sAdd me_int (me_callB (call_min2 rfl) sMin2 (by rfl) n.n_min (by decide +kernel) (ma_cons (me_callB call_len (sLen rfl) (by rfl) n.n_len (by decide +kernel) (ma_cons (me_var (pv 0)) ma_nil)) (ma_cons me_int ma_nil)))) ma_nil)) (mg_name (pg_name (i := 1) S.nd rfl (.inl rfl))) (mb_cons (ms_set (i := 2) S.nd rfl (.inl rfl) (me_cal c__law_begun rfl (hr.mono (by decide)) hg tk (by rfl) (ma_cons (me_var (pv 0)) (ma_cons (me_var (pv 1)) ma_nil)) 2 (len_cons (len_cons len_nil)) rfl rfl))
  (mb_cons (ms_set (i := 3) S.nd rfl (.inl rfl) (me_cal c__law_tune rfl (hr.mono (by decide)) hg tk (by rfl) (ma_cons (me_var (pv 2)) (ma_cons me_int ma_nil)) 2 (len_cons (len_cons len_nil)) rfl rfl))
  (mb_one (ms_if (mt_w (mw_or (mt_not (mt_val (me_cal c__law_right rfl (hr.mono (by decide)) hg tk (by rfl) (ma_cons (me_var (pv 2)) (ma_cons (me_var (pv 3)) ma_nil)) 2 (len_cons (len_cons len_nil)) rfl rfl))) (mw_or1 (mt_not (mt_val (me_cal c__law_many_right rfl (hr.mono (by decide)) hg tk (by rfl) (ma_cons (me_var (pv 2)) (ma_cons (me_var (pv 3)) ma_nil)) 2 (len_cons (len_cons len_nil)) rfl rfl)))))) (mb_one (ms_ret me_bl)) mb_nil)))))
  (mb_one (ms_ret (me_cal0 c__law_hand_right rfl (hr.mono (by decide)) hg tk (by rfl)))))
end
theorem all_mk {l : PySem.W.OpenLaw} {w : World} {K : PySem.W.Frag} {h : Heap} {mg : Str → Option Value} {fa : Addr} (X : K.In h) (G : h.Ns mainGlobals mg) (hfa : mg "law" = some (.ref fa))
    {f0 : Addr} {od0 an0 : Option Addr} {sl0 : Array (Option Value)} {oc0 kV0 dc0 pm0 cd0 ct0 : Value}
    {f1 : Addr} {od1 an1 : Option Addr} {sl1 : Array (Option Value)} {oc1 kV1 dc1 pm1 cd1 ct1 : Value}
    {f2 : Addr} {od2 an2 : Option Addr} {sl2 : Array (Option Value)} {oc2 kV2 dc2 pm2 cd2 ct2 : Value}
    {f3 : Addr} {od3 an3 : Option Addr} {sl3 : Array (Option Value)} {oc3 kV3 dc3 pm3 cd3 ct3 : Value}
    {f4 : Addr} {od4 an4 : Option Addr} {sl4 : Array (Option Value)} {oc4 kV4 dc4 pm4 cd4 ct4 : Value}
    {f5 : Addr} {od5 an5 : Option Addr} {sl5 : Array (Option Value)} {oc5 kV5 dc5 pm5 cd5 ct5 : Value}
    {f6 : Addr} {od6 an6 : Option Addr} {sl6 : Array (Option Value)} {oc6 kV6 dc6 pm6 cd6 ct6 : Value}
    {f7 : Addr} {od7 an7 : Option Addr} {sl7 : Array (Option Value)} {oc7 kV7 dc7 pm7 cd7 ct7 : Value}
    {f8 : Addr} {od8 an8 : Option Addr} {sl8 : Array (Option Value)} {oc8 kV8 dc8 pm8 cd8 ct8 : Value}
    {f9 : Addr} {od9 an9 : Option Addr} {sl9 : Array (Option Value)} {oc9 kV9 dc9 pm9 cd9 ct9 : Value}
    {f10 : Addr} {od10 an10 : Option Addr} {sl10 : Array (Option Value)} {oc10 kV10 dc10 pm10 cd10 ct10 : Value}
    {f11 : Addr} {od11 an11 : Option Addr} {sl11 : Array (Option Value)} {oc11 kV11 dc11 pm11 cd11 ct11 : Value}
    {f12 : Addr} {od12 an12 : Option Addr} {sl12 : Array (Option Value)} {oc12 kV12 dc12 pm12 cd12 ct12 : Value}
    {f13 : Addr} {od13 an13 : Option Addr} {sl13 : Array (Option Value)} {oc13 kV13 dc13 pm13 cd13 ct13 : Value}
    {f14 : Addr} {od14 an14 : Option Addr} {sl14 : Array (Option Value)} {oc14 kV14 dc14 pm14 cd14 ct14 : Value}
    {f15 : Addr} {od15 an15 : Option Addr} {sl15 : Array (Option Value)} {oc15 kV15 dc15 pm15 cd15 ct15 : Value}
    {f16 : Addr} {od16 an16 : Option Addr} {sl16 : Array (Option Value)} {oc16 kV16 dc16 pm16 cd16 ct16 : Value}
    {f17 : Addr} {od17 an17 : Option Addr} {sl17 : Array (Option Value)} {oc17 kV17 dc17 pm17 cd17 ct17 : Value}
    {f18 : Addr} {od18 an18 : Option Addr} {sl18 : Array (Option Value)} {oc18 kV18 dc18 pm18 cd18 ct18 : Value}
    {f19 : Addr} {od19 an19 : Option Addr} {sl19 : Array (Option Value)} {oc19 kV19 dc19 pm19 cd19 ct19 : Value}
    {f20 : Addr} {od20 an20 : Option Addr} {sl20 : Array (Option Value)} {oc20 kV20 dc20 pm20 cd20 ct20 : Value}
    {f21 : Addr} {od21 an21 : Option Addr} {sl21 : Array (Option Value)} {oc21 kV21 dc21 pm21 cd21 ct21 : Value}
    {f22 : Addr} {od22 an22 : Option Addr} {sl22 : Array (Option Value)} {oc22 kV22 dc22 pm22 cd22 ct22 : Value}
    {f23 : Addr} {od23 an23 : Option Addr} {sl23 : Array (Option Value)} {oc23 kV23 dc23 pm23 cd23 ct23 : Value}
    {f24 : Addr} {od24 an24 : Option Addr} {sl24 : Array (Option Value)} {oc24 kV24 dc24 pm24 cd24 ct24 : Value}
    {f25 : Addr} {od25 an25 : Option Addr} {sl25 : Array (Option Value)} {oc25 kV25 dc25 pm25 cd25 ct25 : Value}
    {f26 : Addr} {od26 an26 : Option Addr} {sl26 : Array (Option Value)} {oc26 kV26 dc26 pm26 cd26 ct26 : Value}
    {f27 : Addr} {od27 an27 : Option Addr} {sl27 : Array (Option Value)} {oc27 kV27 dc27 pm27 cd27 ct27 : Value}
    {f28 : Addr} {od28 an28 : Option Addr} {sl28 : Array (Option Value)} {oc28 kV28 dc28 pm28 cd28 ct28 : Value}
    {f29 : Addr} {od29 an29 : Option Addr} {sl29 : Array (Option Value)} {oc29 kV29 dc29 pm29 cd29 ct29 : Value}
    {f30 : Addr} {od30 an30 : Option Addr} {sl30 : Array (Option Value)} {oc30 kV30 dc30 pm30 cd30 ct30 : Value}
    {f31 : Addr} {od31 an31 : Option Addr} {sl31 : Array (Option Value)} {oc31 kV31 dc31 pm31 cd31 ct31 : Value}
    {f32 : Addr} {od32 an32 : Option Addr} {sl32 : Array (Option Value)} {oc32 kV32 dc32 pm32 cd32 ct32 : Value}
    {f33 : Addr} {od33 an33 : Option Addr} {sl33 : Array (Option Value)} {oc33 kV33 dc33 pm33 cd33 ct33 : Value}
    {f34 : Addr} {od34 an34 : Option Addr} {sl34 : Array (Option Value)} {oc34 kV34 dc34 pm34 cd34 ct34 : Value}
    {f35 : Addr} {od35 an35 : Option Addr} {sl35 : Array (Option Value)} {oc35 kV35 dc35 pm35 cd35 ct35 : Value}
    {f36 : Addr} {od36 an36 : Option Addr} {sl36 : Array (Option Value)} {oc36 kV36 dc36 pm36 cd36 ct36 : Value}
    {t0 : Tok}
    {t1 : Tok}
    {t2 : Tok}
    {t3 : Tok}
    (a0 : PySem.W.nsIn K mainGlobals "is_int" = some (some (.ref f0)))
    (l0 : K.lookup f0 = some ⟨oc0, od0, .func (PySem.W.fnOf "is_int" "is_int" (defArgs s_is_int) (defBody s_is_int) (defScope s_is_int) .none kV0 dc0 pm0 an0 cd0 ct0), sl0⟩)
    (c0 : PySem.W.codeIn K cd0 "is_int" = true)
    (k0 : PySem.W.keepIn K (.ref f0) = true)
    (a1 : PySem.W.nsIn K mainGlobals "is_int_within" = some (some (.ref f1)))
    (l1 : K.lookup f1 = some ⟨oc1, od1, .func (PySem.W.fnOf "is_int_within" "is_int_within" (defArgs s_is_int_within) (defBody s_is_int_within) (defScope s_is_int_within) .none kV1 dc1 pm1 an1 cd1 ct1), sl1⟩)
    (c1 : PySem.W.codeIn K cd1 "is_int_within" = true)
    (k1 : PySem.W.keepIn K (.ref f1) = true)
    (a2 : PySem.W.nsIn K mainGlobals "is_tuple" = some (some (.ref f2)))
    (l2 : K.lookup f2 = some ⟨oc2, od2, .func (PySem.W.fnOf "is_tuple" "is_tuple" (defArgs s_is_tuple) (defBody s_is_tuple) (defScope s_is_tuple) .none kV2 dc2 pm2 an2 cd2 ct2), sl2⟩)
    (c2 : PySem.W.codeIn K cd2 "is_tuple" = true)
    (k2 : PySem.W.keepIn K (.ref f2) = true)
    (a3 : PySem.W.nsIn K mainGlobals "first_outside" = some (some (.ref f3)))
    (l3 : K.lookup f3 = some ⟨oc3, od3, .func (PySem.W.fnOf "first_outside" "first_outside" (defArgs s_first_outside) (defBody s_first_outside) (defScope s_first_outside) .none kV3 dc3 pm3 an3 cd3 ct3), sl3⟩)
    (c3 : PySem.W.codeIn K cd3 "first_outside" = true)
    (k3 : PySem.W.keepIn K (.ref f3) = true)
    (a4 : PySem.W.nsIn K mainGlobals "need_rule" = some (some (.ref f4)))
    (l4 : K.lookup f4 = some ⟨oc4, od4, .func (PySem.W.fnOf "need_rule" "need_rule" (defArgs s_need_rule) (defBody s_need_rule) (defScope s_need_rule) .none kV4 dc4 pm4 an4 cd4 ct4), sl4⟩)
    (c4 : PySem.W.codeIn K cd4 "need_rule" = true)
    (k4 : PySem.W.keepIn K (.ref f4) = true)
    (a5 : PySem.W.nsIn K mainGlobals "is_result" = some (some (.ref f5)))
    (l5 : K.lookup f5 = some ⟨oc5, od5, .func (PySem.W.fnOf "is_result" "is_result" (defArgs s_is_result) (defBody s_is_result) (defScope s_is_result) .none kV5 dc5 pm5 an5 cd5 ct5), sl5⟩)
    (c5 : PySem.W.codeIn K cd5 "is_result" = true)
    (k5 : PySem.W.keepIn K (.ref f5) = true)
    (a6 : PySem.W.nsIn K mainGlobals "need_row" = some (some (.ref f6)))
    (l6 : K.lookup f6 = some ⟨oc6, od6, .func (PySem.W.fnOf "need_row" "need_row" (defArgs s_need_row) (defBody s_need_row) (defScope s_need_row) .none kV6 dc6 pm6 an6 cd6 ct6), sl6⟩)
    (c6 : PySem.W.codeIn K cd6 "need_row" = true)
    (k6 : PySem.W.keepIn K (.ref f6) = true)
    (a7 : PySem.W.nsIn K mainGlobals "need_row_of" = some (some (.ref f7)))
    (l7 : K.lookup f7 = some ⟨oc7, od7, .func (PySem.W.fnOf "need_row_of" "need_row_of" (defArgs s_need_row_of) (defBody s_need_row_of) (defScope s_need_row_of) .none kV7 dc7 pm7 an7 cd7 ct7), sl7⟩)
    (c7 : PySem.W.codeIn K cd7 "need_row_of" = true)
    (k7 : PySem.W.keepIn K (.ref f7) = true)
    (a8 : PySem.W.nsIn K mainGlobals "index_of" = some (some (.ref f8)))
    (l8 : K.lookup f8 = some ⟨oc8, od8, .func (PySem.W.fnOf "index_of" "index_of" (defArgs s_index_of) (defBody s_index_of) (defScope s_index_of) .none kV8 dc8 pm8 an8 cd8 ct8), sl8⟩)
    (c8 : PySem.W.codeIn K cd8 "index_of" = true)
    (k8 : PySem.W.keepIn K (.ref f8) = true)
    (a9 : PySem.W.nsIn K mainGlobals "indexes_by_ones" = some (some (.ref f9)))
    (l9 : K.lookup f9 = some ⟨oc9, od9, .func (PySem.W.fnOf "indexes_by_ones" "indexes_by_ones" (defArgs s_indexes_by_ones) (defBody s_indexes_by_ones) (defScope s_indexes_by_ones) .none kV9 dc9 pm9 an9 cd9 ct9), sl9⟩)
    (c9 : PySem.W.codeIn K cd9 "indexes_by_ones" = true)
    (k9 : PySem.W.keepIn K (.ref f9) = true)
    (a10 : PySem.W.nsIn K mainGlobals "need_rounds" = some (some (.ref f10)))
    (l10 : K.lookup f10 = some ⟨oc10, od10, .func (PySem.W.fnOf "need_rounds" "need_rounds" (defArgs s_need_rounds) (defBody s_need_rounds) (defScope s_need_rounds) .none kV10 dc10 pm10 an10 cd10 ct10), sl10⟩)
    (c10 : PySem.W.codeIn K cd10 "need_rounds" = true)
    (k10 : PySem.W.keepIn K (.ref f10) = true)
    (a11 : PySem.W.nsIn K mainGlobals "need_ahead" = some (some (.ref f11)))
    (l11 : K.lookup f11 = some ⟨oc11, od11, .func (PySem.W.fnOf "need_ahead" "need_ahead" (defArgs s_need_ahead) (defBody s_need_ahead) (defScope s_need_ahead) .none kV11 dc11 pm11 an11 cd11 ct11), sl11⟩)
    (c11 : PySem.W.codeIn K cd11 "need_ahead" = true)
    (k11 : PySem.W.keepIn K (.ref f11) = true)
    (a12 : PySem.W.nsIn K mainGlobals "ascending_lots" = some (some (.ref f12)))
    (l12 : K.lookup f12 = some ⟨oc12, od12, .func (PySem.W.fnOf "ascending_lots" "ascending_lots" (defArgs s_ascending_lots) (defBody s_ascending_lots) (defScope s_ascending_lots) .none kV12 dc12 pm12 an12 cd12 ct12), sl12⟩)
    (c12 : PySem.W.codeIn K cd12 "ascending_lots" = true)
    (k12 : PySem.W.keepIn K (.ref f12) = true)
    (a13 : PySem.W.nsIn K mainGlobals "ends_of" = some (some (.ref f13)))
    (l13 : K.lookup f13 = some ⟨oc13, od13, .func (PySem.W.fnOf "ends_of" "ends_of" (defArgs s_ends_of) (defBody s_ends_of) (defScope s_ends_of) .none kV13 dc13 pm13 an13 cd13 ct13), sl13⟩)
    (c13 : PySem.W.codeIn K cd13 "ends_of" = true)
    (k13 : PySem.W.keepIn K (.ref f13) = true)
    (a14 : PySem.W.nsIn K mainGlobals "reach_of" = some (some (.ref f14)))
    (l14 : K.lookup f14 = some ⟨oc14, od14, .func (PySem.W.fnOf "reach_of" "reach_of" (defArgs s_reach_of) (defBody s_reach_of) (defScope s_reach_of) .none kV14 dc14 pm14 an14 cd14 ct14), sl14⟩)
    (c14 : PySem.W.codeIn K cd14 "reach_of" = true)
    (k14 : PySem.W.keepIn K (.ref f14) = true)
    (a15 : PySem.W.nsIn K mainGlobals "reach" = some (some (.ref f15)))
    (l15 : K.lookup f15 = some ⟨oc15, od15, .func (PySem.W.fnOf "reach" "reach" (defArgs s_reach) (defBody s_reach) (defScope s_reach) .none kV15 dc15 pm15 an15 cd15 ct15), sl15⟩)
    (c15 : PySem.W.codeIn K cd15 "reach" = true)
    (k15 : PySem.W.keepIn K (.ref f15) = true)
    (a16 : PySem.W.nsIn K mainGlobals "greatest_way" = some (some (.ref f16)))
    (l16 : K.lookup f16 = some ⟨oc16, od16, .func (PySem.W.fnOf "greatest_way" "greatest_way" (defArgs s_greatest_way) (defBody s_greatest_way) (defScope s_greatest_way) .none kV16 dc16 pm16 an16 cd16 ct16), sl16⟩)
    (c16 : PySem.W.codeIn K cd16 "greatest_way" = true)
    (k16 : PySem.W.keepIn K (.ref f16) = true)
    (a17 : PySem.W.nsIn K mainGlobals "soonest" = some (some (.ref f17)))
    (l17 : K.lookup f17 = some ⟨oc17, od17, .func (PySem.W.fnOf "soonest" "soonest" (defArgs s_soonest) (defBody s_soonest) (defScope s_soonest) .none kV17 dc17 pm17 an17 cd17 ct17), sl17⟩)
    (c17 : PySem.W.codeIn K cd17 "soonest" = true)
    (k17 : PySem.W.keepIn K (.ref f17) = true)
    (a18 : PySem.W.nsIn K mainGlobals "rises_of" = some (some (.ref f18)))
    (l18 : K.lookup f18 = some ⟨oc18, od18, .func (PySem.W.fnOf "rises_of" "rises_of" (defArgs s_rises_of) (defBody s_rises_of) (defScope s_rises_of) .none kV18 dc18 pm18 an18 cd18 ct18), sl18⟩)
    (c18 : PySem.W.codeIn K cd18 "rises_of" = true)
    (k18 : PySem.W.keepIn K (.ref f18) = true)
    (a19 : PySem.W.nsIn K mainGlobals "rise" = some (some (.ref f19)))
    (l19 : K.lookup f19 = some ⟨oc19, od19, .func (PySem.W.fnOf "rise" "rise" (defArgs s_rise) (defBody s_rise) (defScope s_rise) .none kV19 dc19 pm19 an19 cd19 ct19), sl19⟩)
    (c19 : PySem.W.codeIn K cd19 "rise" = true)
    (k19 : PySem.W.keepIn K (.ref f19) = true)
    (a20 : PySem.W.nsIn K mainGlobals "fall" = some (some (.ref f20)))
    (l20 : K.lookup f20 = some ⟨oc20, od20, .func (PySem.W.fnOf "fall" "fall" (defArgs s_fall) (defBody s_fall) (defScope s_fall) .none kV20 dc20 pm20 an20 cd20 ct20), sl20⟩)
    (c20 : PySem.W.codeIn K cd20 "fall" = true)
    (k20 : PySem.W.keepIn K (.ref f20) = true)
    (a21 : PySem.W.nsIn K mainGlobals "first_bits" = some (some (.ref f21)))
    (l21 : K.lookup f21 = some ⟨oc21, od21, .func (PySem.W.fnOf "first_bits" "first_bits" (defArgs s_first_bits) (defBody s_first_bits) (defScope s_first_bits) .none kV21 dc21 pm21 an21 cd21 ct21), sl21⟩)
    (c21 : PySem.W.codeIn K cd21 "first_bits" = true)
    (k21 : PySem.W.keepIn K (.ref f21) = true)
    (a22 : PySem.W.nsIn K mainGlobals "rise_row" = some (some (.ref f22)))
    (l22 : K.lookup f22 = some ⟨oc22, od22, .func (PySem.W.fnOf "rise_row" "rise_row" (defArgs s_rise_row) (defBody s_rise_row) (defScope s_rise_row) .none kV22 dc22 pm22 an22 cd22 ct22), sl22⟩)
    (c22 : PySem.W.codeIn K cd22 "rise_row" = true)
    (k22 : PySem.W.keepIn K (.ref f22) = true)
    (a23 : PySem.W.nsIn K mainGlobals "_law_begun" = some (some (.ref f23)))
    (l23 : K.lookup f23 = some ⟨oc23, od23, .func (PySem.W.fnOf "_law_begun" "_law_begun" (defArgs s__law_begun) (defBody s__law_begun) (defScope s__law_begun) .none kV23 dc23 pm23 an23 cd23 ct23), sl23⟩)
    (c23 : PySem.W.codeIn K cd23 "_law_begun" = true)
    (k23 : PySem.W.keepIn K (.ref f23) = true)
    (a24 : PySem.W.nsIn K mainGlobals "_law_draw" = some (some (.ref f24)))
    (l24 : K.lookup f24 = some ⟨oc24, od24, .func (PySem.W.fnOf "_law_draw" "_law_draw" (defArgs s__law_draw) (defBody s__law_draw) (defScope s__law_draw) .none kV24 dc24 pm24 an24 cd24 ct24), sl24⟩)
    (c24 : PySem.W.codeIn K cd24 "_law_draw" = true)
    (k24 : PySem.W.keepIn K (.ref f24) = true)
    (a25 : PySem.W.nsIn K mainGlobals "_law_of" = some (some (.ref f25)))
    (l25 : K.lookup f25 = some ⟨oc25, od25, .func (PySem.W.fnOf "_law_of" "_law_of" (defArgs s__law_of) (defBody s__law_of) (defScope s__law_of) .none kV25 dc25 pm25 an25 cd25 ct25), sl25⟩)
    (c25 : PySem.W.codeIn K cd25 "_law_of" = true)
    (k25 : PySem.W.keepIn K (.ref f25) = true)
    (a26 : PySem.W.nsIn K mainGlobals "_law_tune" = some (some (.ref f26)))
    (l26 : K.lookup f26 = some ⟨oc26, od26, .func (PySem.W.fnOf "_law_tune" "_law_tune" (defArgs s__law_tune) (defBody s__law_tune) (defScope s__law_tune) .none kV26 dc26 pm26 an26 cd26 ct26), sl26⟩)
    (c26 : PySem.W.codeIn K cd26 "_law_tune" = true)
    (k26 : PySem.W.keepIn K (.ref f26) = true)
    (a27 : PySem.W.nsIn K mainGlobals "_law_sum" = some (some (.ref f27)))
    (l27 : K.lookup f27 = some ⟨oc27, od27, .func (PySem.W.fnOf "_law_sum" "_law_sum" (defArgs s__law_sum) (defBody s__law_sum) (defScope s__law_sum) .none kV27 dc27 pm27 an27 cd27 ct27), sl27⟩)
    (c27 : PySem.W.codeIn K cd27 "_law_sum" = true)
    (k27 : PySem.W.keepIn K (.ref f27) = true)
    (a28 : PySem.W.nsIn K mainGlobals "_law_all" = some (some (.ref f28)))
    (l28 : K.lookup f28 = some ⟨oc28, od28, .func (PySem.W.fnOf "_law_all" "_law_all" (defArgs s__law_all) (defBody s__law_all) (defScope s__law_all) .none kV28 dc28 pm28 an28 cd28 ct28), sl28⟩)
    (c28 : PySem.W.codeIn K cd28 "_law_all" = true)
    (k28 : PySem.W.keepIn K (.ref f28) = true)
    (a29 : PySem.W.nsIn K mainGlobals "_law_ends" = some (some (.ref f29)))
    (l29 : K.lookup f29 = some ⟨oc29, od29, .func (PySem.W.fnOf "_law_ends" "_law_ends" (defArgs s__law_ends) (defBody s__law_ends) (defScope s__law_ends) .none kV29 dc29 pm29 an29 cd29 ct29), sl29⟩)
    (c29 : PySem.W.codeIn K cd29 "_law_ends" = true)
    (k29 : PySem.W.keepIn K (.ref f29) = true)
    (a30 : PySem.W.nsIn K mainGlobals "_law_soonest" = some (some (.ref f30)))
    (l30 : K.lookup f30 = some ⟨oc30, od30, .func (PySem.W.fnOf "_law_soonest" "_law_soonest" (defArgs s__law_soonest) (defBody s__law_soonest) (defScope s__law_soonest) .none kV30 dc30 pm30 an30 cd30 ct30), sl30⟩)
    (c30 : PySem.W.codeIn K cd30 "_law_soonest" = true)
    (k30 : PySem.W.keepIn K (.ref f30) = true)
    (a31 : PySem.W.nsIn K mainGlobals "_law_way_right" = some (some (.ref f31)))
    (l31 : K.lookup f31 = some ⟨oc31, od31, .func (PySem.W.fnOf "_law_way_right" "_law_way_right" (defArgs s__law_way_right) (defBody s__law_way_right) (defScope s__law_way_right) .none kV31 dc31 pm31 an31 cd31 ct31), sl31⟩)
    (c31 : PySem.W.codeIn K cd31 "_law_way_right" = true)
    (k31 : PySem.W.keepIn K (.ref f31) = true)
    (a32 : PySem.W.nsIn K mainGlobals "_law_changes" = some (some (.ref f32)))
    (l32 : K.lookup f32 = some ⟨oc32, od32, .func (PySem.W.fnOf "_law_changes" "_law_changes" (defArgs s__law_changes) (defBody s__law_changes) (defScope s__law_changes) .none kV32 dc32 pm32 an32 cd32 ct32), sl32⟩)
    (c32 : PySem.W.codeIn K cd32 "_law_changes" = true)
    (k32 : PySem.W.keepIn K (.ref f32) = true)
    (a33 : PySem.W.nsIn K mainGlobals "_law_right" = some (some (.ref f33)))
    (l33 : K.lookup f33 = some ⟨oc33, od33, .func (PySem.W.fnOf "_law_right" "_law_right" (defArgs s__law_right) (defBody s__law_right) (defScope s__law_right) .none kV33 dc33 pm33 an33 cd33 ct33), sl33⟩)
    (c33 : PySem.W.codeIn K cd33 "_law_right" = true)
    (k33 : PySem.W.keepIn K (.ref f33) = true)
    (a34 : PySem.W.nsIn K mainGlobals "_law_many_right" = some (some (.ref f34)))
    (l34 : K.lookup f34 = some ⟨oc34, od34, .func (PySem.W.fnOf "_law_many_right" "_law_many_right" (defArgs s__law_many_right) (defBody s__law_many_right) (defScope s__law_many_right) .none kV34 dc34 pm34 an34 cd34 ct34), sl34⟩)
    (c34 : PySem.W.codeIn K cd34 "_law_many_right" = true)
    (k34 : PySem.W.keepIn K (.ref f34) = true)
    (a35 : PySem.W.nsIn K mainGlobals "_law_hand_right" = some (some (.ref f35)))
    (l35 : K.lookup f35 = some ⟨oc35, od35, .func (PySem.W.fnOf "_law_hand_right" "_law_hand_right" (defArgs s__law_hand_right) (defBody s__law_hand_right) (defScope s__law_hand_right) .none kV35 dc35 pm35 an35 cd35 ct35), sl35⟩)
    (c35 : PySem.W.codeIn K cd35 "_law_hand_right" = true)
    (k35 : PySem.W.keepIn K (.ref f35) = true)
    (a36 : PySem.W.nsIn K mainGlobals "law" = some (some (.ref f36)))
    (l36 : K.lookup f36 = some ⟨oc36, od36, .func (PySem.W.fnOf "law" "law" (defArgs s_law) (defBody s_law) (defScope s_law) .none kV36 dc36 pm36 an36 cd36 ct36), sl36⟩)
    (c36 : PySem.W.codeIn K cd36 "law" = true)
    (k36 : PySem.W.keepIn K (.ref f36) = true)
    (z0 : PySem.W.nsIn K mainGlobals "bool" = some none)
    (z1 : PySem.W.nsIn K mainGlobals "enumerate" = some none)
    (z2 : PySem.W.nsIn K mainGlobals "int" = some none)
    (z3 : PySem.W.nsIn K mainGlobals "isinstance" = some none)
    (z4 : PySem.W.nsIn K mainGlobals "len" = some none)
    (z5 : PySem.W.nsIn K mainGlobals "list" = some none)
    (z6 : PySem.W.nsIn K mainGlobals "max" = some none)
    (z7 : PySem.W.nsIn K mainGlobals "min" = some none)
    (z8 : PySem.W.nsIn K mainGlobals "range" = some none)
    (z9 : PySem.W.nsIn K mainGlobals "repr" = some none)
    (z10 : PySem.W.nsIn K mainGlobals "set" = some none)
    (z11 : PySem.W.nsIn K mainGlobals "sorted" = some none)
    (z12 : PySem.W.nsIn K mainGlobals "sum" = some none)
    (z13 : PySem.W.nsIn K mainGlobals "tuple" = some none)
    (z14 : PySem.W.nsIn K mainGlobals "zip" = some none)
    (v0 : PySem.W.nsIn K mainGlobals "GREATEST_RESULT" = some (some (.int 1000000 t0)))
    (v1 : PySem.W.nsIn K mainGlobals "GREATEST_WEIGHT" = some (some (.int 20 t1)))
    (v2 : PySem.W.nsIn K mainGlobals "MOST_RESULTS" = some (some (.int 200 t2)))
    (v3 : PySem.W.nsIn K mainGlobals "MOST_WEIGHTS" = some (some (.int 6 t3)))
    (hden : ∀ ns : List Int, ns.length ≤ 63 → ∃ s', g_law [.sq (ns.map .int)] [] = .ok (.bl true) s')
    : ∃ (Γ : Ct) (fd : FuncData) (den : Fn) (tabs : List Tb), Γ.K = K ∧ (∀ (i : Nat) (t : Tb), tabs[i]? = some t → Γ.tb i = t.T) ∧ (Ts tabs).Nodup ∧ (∀ t ∈ tabs, ∃ y ∈ ([] : List Str), PySem.W.tabIn Γ.K y = some (t.c, t.T) ∧ Γ.K.lookup t.T = none) ∧ tabs.map (·.q) = [] ∧ (∀ (s : Shared) (u : Value), BindsTo s fd ⟨[u], []⟩ [("script", u)]) ∧
      (∀ base : Heap, Γ.K.In base → base.Ns mainGlobals mg → (∀ t ∈ tabs, LamX.TabB base mg t.c t.T) → FnG l.prog w mg base Γ 8 fa fd ["script"] den) ∧
      ∀ ns : List Int, ns.length ≤ 63 → ∃ s', den [.sq (ns.map .int)] (tabsOf 0 (([] : List Str).map fun q => ⟨0, 0, q⟩)) = .ok (.bl true) s' := by
  have e := hfa.symm.trans (PySem.W.mg_of X G a36)
  cases e
  let Γ : Ct := ⟨K, fun n => ([0, 0, 0, 0, 0, 0, 0, 0, 0, 0, 0, 0] : List Addr).getD n 0, fun n => ([] : List Addr).getD n 0⟩
  have n : Ns Γ mg := {
    n_bool := PySem.W.mg_none_of X G z0
    n_enumerate := PySem.W.mg_none_of X G z1
    n_int := PySem.W.mg_none_of X G z2
    n_isinstance := PySem.W.mg_none_of X G z3
    n_len := PySem.W.mg_none_of X G z4
    n_list := PySem.W.mg_none_of X G z5
    n_max := PySem.W.mg_none_of X G z6
    n_min := PySem.W.mg_none_of X G z7
    n_range := PySem.W.mg_none_of X G z8
    n_repr := PySem.W.mg_none_of X G z9
    n_set := PySem.W.mg_none_of X G z10
    n_sorted := PySem.W.mg_none_of X G z11
    n_sum := PySem.W.mg_none_of X G z12
    n_tuple := PySem.W.mg_none_of X G z13
    n_zip := PySem.W.mg_none_of X G z14
    c_GREATEST_RESULT := ⟨_, PySem.W.mg_of X G v0⟩
    c_GREATEST_WEIGHT := ⟨_, PySem.W.mg_of X G v1⟩
    c_MOST_RESULTS := ⟨_, PySem.W.mg_of X G v2⟩
    c_MOST_WEIGHTS := ⟨_, PySem.W.mg_of X G v3⟩
    }
  let tabs : List Tb := []
  refine ⟨Γ, PySem.W.fnOf "law" "law" (defArgs s_law) (defBody s_law) (defScope s_law) .none kV36 dc36 pm36 an36 cd36 ct36, g_law, tabs, rfl, fun i t h => ?_, ?_, fun t h => ?_, rfl, fun s v => .of_eq rfl, fun base _ _ TB => ?_, hden⟩
  · match i, h with
    | n, h => cases h
  · simp [Ts, tabs]
  · simp only [tabs, List.mem_cons, List.mem_nil_iff, or_false] at h
  have F0 := fun_mk (st := s_is_int) l0 c0 k0
  have C0 : Cal l.prog w mg base Γ 1 "is_int" ["thing"] g_is_int := ⟨_, _, ok_is_int n F0, PySem.W.mg_of X G a0, k0, F0.binds fun _ _ _ _ _ _ us hl => match us, hl with | [_], _ => rfl⟩
  have F1 := fun_mk (st := s_is_int_within) l1 c1 k1
  have C1 : Cal l.prog w mg base Γ 2 "is_int_within" ["thing", "least", "most"] g_is_int_within := ⟨_, _, ok_is_int_within n F1 C0, PySem.W.mg_of X G a1, k1, F1.binds fun _ _ _ _ _ _ us hl => match us, hl with | [_, _, _], _ => rfl⟩
  have F2 := fun_mk (st := s_is_tuple) l2 c2 k2
  have C2 : Cal l.prog w mg base Γ 1 "is_tuple" ["thing", "least", "most"] g_is_tuple := ⟨_, _, ok_is_tuple n F2, PySem.W.mg_of X G a2, k2, F2.binds fun _ _ _ _ _ _ us hl => match us, hl with | [_, _, _], _ => rfl⟩
  have F3 := fun_mk (st := s_first_outside) l3 c3 k3
  have C3 : Cal l.prog w mg base Γ 1 "first_outside" ["things", "least", "most"] g_first_outside := ⟨_, _, ok_first_outside n F3, PySem.W.mg_of X G a3, k3, F3.binds fun _ _ _ _ _ _ us hl => match us, hl with | [_, _, _], _ => rfl⟩
  have F4 := fun_mk (st := s_need_rule) l4 c4 k4
  have C4 : Cal l.prog w mg base Γ 2 "need_rule" ["thing"] g_need_rule := ⟨_, _, ok_need_rule n F4 C2 C3, PySem.W.mg_of X G a4, k4, F4.binds fun _ _ _ _ _ _ us hl => match us, hl with | [_], _ => rfl⟩
  have F5 := fun_mk (st := s_is_result) l5 c5 k5
  have C5 : Cal l.prog w mg base Γ 3 "is_result" ["thing"] g_is_result := ⟨_, _, ok_is_result n F5 C1, PySem.W.mg_of X G a5, k5, F5.binds fun _ _ _ _ _ _ us hl => match us, hl with | [_], _ => rfl⟩
  have F6 := fun_mk (st := s_need_row) l6 c6 k6
  have C6 : Cal l.prog w mg base Γ 2 "need_row" ["thing"] g_need_row := ⟨_, _, ok_need_row n F6 C2 C3, PySem.W.mg_of X G a6, k6, F6.binds fun _ _ _ _ _ _ us hl => match us, hl with | [_], _ => rfl⟩
  have F7 := fun_mk (st := s_need_row_of) l7 c7 k7
  have C7 : Cal l.prog w mg base Γ 3 "need_row_of" ["thing", "least"] g_need_row_of := ⟨_, _, ok_need_row_of n F7 C6, PySem.W.mg_of X G a7, k7, F7.binds fun _ _ _ _ _ _ us hl => match us, hl with | [_, _], _ => rfl⟩
  have F8 := fun_mk (st := s_index_of) l8 c8 k8
  have C8 : Cal l.prog w mg base Γ 1 "index_of" ["rule", "results"] g_index_of := ⟨_, _, ok_index_of n F8, PySem.W.mg_of X G a8, k8, F8.binds fun _ _ _ _ _ _ us hl => match us, hl with | [_, _], _ => rfl⟩
  have F9 := fun_mk (st := s_indexes_by_ones) l9 c9 k9
  have C9 : Cal l.prog w mg base Γ 1 "indexes_by_ones" ["rule"] g_indexes_by_ones := ⟨_, _, ok_indexes_by_ones n F9, PySem.W.mg_of X G a9, k9, F9.binds fun _ _ _ _ _ _ us hl => match us, hl with | [_], _ => rfl⟩
  have F10 := fun_mk (st := s_need_rounds) l10 c10 k10
  have C10 : Cal l.prog w mg base Γ 3 "need_rounds" ["thing"] g_need_rounds := ⟨_, _, ok_need_rounds n F10 C1, PySem.W.mg_of X G a10, k10, F10.binds fun _ _ _ _ _ _ us hl => match us, hl with | [_], _ => rfl⟩
  have F11 := fun_mk (st := s_need_ahead) l11 c11 k11
  have C11 : Cal l.prog w mg base Γ 4 "need_ahead" ["rule", "row", "most"] g_need_ahead := ⟨_, _, ok_need_ahead n F11 C4 C7 C5, PySem.W.mg_of X G a11, k11, F11.binds fun _ _ _ _ _ _ us hl => match us, hl with | [_, _, _], _ => rfl⟩
  have F12 := fun_mk (st := s_ascending_lots) l12 c12 k12
  have C12 : Cal l.prog w mg base Γ 1 "ascending_lots" ["values", "many"] g_ascending_lots := ⟨_, _, ok_ascending_lots n F12, PySem.W.mg_of X G a12, k12, F12.binds fun _ _ _ _ _ _ us hl => match us, hl with | [_, _], _ => rfl⟩
  have F13 := fun_mk (st := s_ends_of) l13 c13 k13
  have C13 : Cal l.prog w mg base Γ 2 "ends_of" ["rule", "row", "most", "rounds"] g_ends_of := ⟨_, _, ok_ends_of n F13 C12 C8, PySem.W.mg_of X G a13, k13, F13.binds fun _ _ _ _ _ _ us hl => match us, hl with | [_, _, _, _], _ => rfl⟩
  have F14 := fun_mk (st := s_reach_of) l14 c14 k14
  have C14 : Cal l.prog w mg base Γ 3 "reach_of" ["rule", "row", "most", "rounds"] g_reach_of := ⟨_, _, ok_reach_of n F14 C13, PySem.W.mg_of X G a14, k14, F14.binds fun _ _ _ _ _ _ us hl => match us, hl with | [_, _, _, _], _ => rfl⟩
  have F15 := fun_mk (st := s_reach) l15 c15 k15
  have C15 : Cal l.prog w mg base Γ 5 "reach" ["rule", "row", "most", "rounds"] g_reach := ⟨_, _, ok_reach n F15 C11 C14 C10, PySem.W.mg_of X G a15, k15, F15.binds fun _ _ _ _ _ _ us hl => match us, hl with | [_, _, _, _], _ => rfl⟩
  have F16 := fun_mk (st := s_greatest_way) l16 c16 k16
  have C16 : Cal l.prog w mg base Γ 5 "greatest_way" ["rule", "row", "most", "rounds"] g_greatest_way := ⟨_, _, ok_greatest_way n F16 C11 C13 C10, PySem.W.mg_of X G a16, k16, F16.binds fun _ _ _ _ _ _ us hl => match us, hl with | [_, _, _, _], _ => rfl⟩
  have F17 := fun_mk (st := s_soonest) l17 c17 k17
  have C17 : Cal l.prog w mg base Γ 5 "soonest" ["rule", "row", "most", "goal"] g_soonest := ⟨_, _, ok_soonest n F17 C11 C0 C14, PySem.W.mg_of X G a17, k17, F17.binds fun _ _ _ _ _ _ us hl => match us, hl with | [_, _, _, _], _ => rfl⟩
  have F18 := fun_mk (st := s_rises_of) l18 c18 k18
  have C18 : Cal l.prog w mg base Γ 2 "rises_of" ["rule", "rounds"] g_rises_of := ⟨_, _, ok_rises_of n F18 C9, PySem.W.mg_of X G a18, k18, F18.binds fun _ _ _ _ _ _ us hl => match us, hl with | [_, _], _ => rfl⟩
  have F19 := fun_mk (st := s_rise) l19 c19 k19
  have C19 : Cal l.prog w mg base Γ 4 "rise" ["rule", "rounds"] g_rise := ⟨_, _, ok_rise n F19 C4 C18 C10, PySem.W.mg_of X G a19, k19, F19.binds fun _ _ _ _ _ _ us hl => match us, hl with | [_, _], _ => rfl⟩
  have F20 := fun_mk (st := s_fall) l20 c20 k20
  have C20 : Cal l.prog w mg base Γ 5 "fall" ["rule", "rounds"] g_fall := ⟨_, _, ok_fall n F20 C19, PySem.W.mg_of X G a20, k20, F20.binds fun _ _ _ _ _ _ us hl => match us, hl with | [_, _], _ => rfl⟩
  have F21 := fun_mk (st := s_first_bits) l21 c21 k21
  have C21 : Cal l.prog w mg base Γ 1 "first_bits" ["many", "ones"] g_first_bits := ⟨_, _, ok_first_bits n F21, PySem.W.mg_of X G a21, k21, F21.binds fun _ _ _ _ _ _ us hl => match us, hl with | [_, _], _ => rfl⟩
  have F22 := fun_mk (st := s_rise_row) l22 c22 k22
  have C22 : Cal l.prog w mg base Γ 5 "rise_row" ["rule", "rounds"] g_rise_row := ⟨_, _, ok_rise_row n F22 C19 C18 C21, PySem.W.mg_of X G a22, k22, F22.binds fun _ _ _ _ _ _ us hl => match us, hl with | [_, _], _ => rfl⟩
  have F23 := fun_mk (st := s__law_begun) l23 c23 k23
  have C23 : Cal l.prog w mg base Γ 1 "_law_begun" ["script", "k"] g__law_begun := ⟨_, _, ok__law_begun n F23, PySem.W.mg_of X G a23, k23, F23.binds fun _ _ _ _ _ _ us hl => match us, hl with | [_, _], _ => rfl⟩
  have F24 := fun_mk (st := s__law_draw) l24 c24 k24
  have C24 : Cal l.prog w mg base Γ 1 "_law_draw" ["m", "limit"] g__law_draw := ⟨_, _, ok__law_draw n F24, PySem.W.mg_of X G a24, k24, F24.binds fun _ _ _ _ _ _ us hl => match us, hl with | [_, _], _ => rfl⟩
  have F25 := fun_mk (st := s__law_of) l25 c25 k25
  have C25 : Cal l.prog w mg base Γ 2 "_law_of" ["m", "some"] g__law_of := ⟨_, _, ok__law_of n F25 C24, PySem.W.mg_of X G a25, k25, F25.binds fun _ _ _ _ _ _ us hl => match us, hl with | [_, _], _ => rfl⟩
  have F26 := fun_mk (st := s__law_tune) l26 c26 k26
  have C26 : Cal l.prog w mg base Γ 2 "_law_tune" ["m", "limit"] g__law_tune := ⟨_, _, ok__law_tune n F26 C24, PySem.W.mg_of X G a26, k26, F26.binds fun _ _ _ _ _ _ us hl => match us, hl with | [_, _], _ => rfl⟩
  have F27 := fun_mk (st := s__law_sum) l27 c27 k27
  have C27 : Cal l.prog w mg base Γ 1 "_law_sum" ["tune", "some"] g__law_sum := ⟨_, _, ok__law_sum n F27, PySem.W.mg_of X G a27, k27, F27.binds fun _ _ _ _ _ _ us hl => match us, hl with | [_, _], _ => rfl⟩
  have F28 := fun_mk (st := s__law_all) l28 c28 k28
  have C28 : Cal l.prog w mg base Γ 1 "_law_all" ["marks", "many"] g__law_all := ⟨_, _, ok__law_all n F28, PySem.W.mg_of X G a28, k28, F28.binds fun _ _ _ _ _ _ us hl => match us, hl with | [_, _], _ => rfl⟩
  have F29 := fun_mk (st := s__law_ends) l29 c29 k29
  have C29 : Cal l.prog w mg base Γ 2 "_law_ends" ["tune", "film", "top_so", "count"] g__law_ends := ⟨_, _, ok__law_ends n F29 C28 C27, PySem.W.mg_of X G a29, k29, F29.binds fun _ _ _ _ _ _ us hl => match us, hl with | [_, _, _, _], _ => rfl⟩
  have F30 := fun_mk (st := s__law_soonest) l30 c30 k30
  have C30 : Cal l.prog w mg base Γ 3 "_law_soonest" ["tune", "film", "top_so", "least"] g__law_soonest := ⟨_, _, ok__law_soonest n F30 C29, PySem.W.mg_of X G a30, k30, F30.binds fun _ _ _ _ _ _ us hl => match us, hl with | [_, _, _, _], _ => rfl⟩
  have F31 := fun_mk (st := s__law_way_right) l31 c31 k31
  have C31 : Cal l.prog w mg base Γ 6 "_law_way_right" ["tune", "film", "top_so", "count", "due"] g__law_way_right := ⟨_, _, ok__law_way_right n F31 C16 C27, PySem.W.mg_of X G a31, k31, F31.binds fun _ _ _ _ _ _ us hl => match us, hl with | [_, _, _, _, _], _ => rfl⟩
  have F32 := fun_mk (st := s__law_changes) l32 c32 k32
  have C32 : Cal l.prog w mg base Γ 2 "_law_changes" ["tune", "count"] g__law_changes := ⟨_, _, ok__law_changes n F32 C28 C27, PySem.W.mg_of X G a32, k32, F32.binds fun _ _ _ _ _ _ us hl => match us, hl with | [_, _], _ => rfl⟩
  have F33 := fun_mk (st := s__law_right) l33 c33 k33
  have C33 : Cal l.prog w mg base Γ 7 "_law_right" ["m", "tune"] g__law_right := ⟨_, _, ok__law_right n F33 C24 C25 C29 C30 C15 C17 C31 C32 C19 C20 C22, PySem.W.mg_of X G a33, k33, F33.binds fun _ _ _ _ _ _ us hl => match us, hl with | [_, _], _ => rfl⟩
  have F34 := fun_mk (st := s__law_many_right) l34 c34 k34
  have C34 : Cal l.prog w mg base Γ 7 "_law_many_right" ["m", "tune"] g__law_many_right := ⟨_, _, ok__law_many_right n F34 C24 C28 C27 C15 C31 C19 C20 C22, PySem.W.mg_of X G a34, k34, F34.binds fun _ _ _ _ _ _ us hl => match us, hl with | [_, _], _ => rfl⟩
  have F35 := fun_mk (st := s__law_hand_right) l35 c35 k35
  have C35 : Cal l.prog w mg base Γ 6 "_law_hand_right" [] g__law_hand_right := ⟨_, _, ok__law_hand_right n F35 C15 C17 C16 C19 C20 C22, PySem.W.mg_of X G a35, k35, F35.binds fun _ _ _ _ _ _ us hl => match us, hl with | [], _ => rfl⟩
  have F36 := fun_mk (st := s_law) l36 c36 k36
  exact ok_law n F36 C23 C26 C33 C34 C35
end MP.K45
set_option Elab.async false
set_option linter.all false
set_option maxRecDepth 100000
set_option maxHeartbeats 400000
namespace MP.PG
open PySem PySem.Spec PyProof.Rows L2 MP
@[simp] theorem isI_t {s : Sto} {i : Int} {b : Bool} : isD s (.int i) (.bl b) = some (.bl false) := rfl
@[simp] theorem isntI_t {s : Sto} {i : Int} {b : Bool} : isntD s (.int i) (.bl b) = some (.bl true) := rfl
theorem is_int_int (i : Int) (s : Sto) : g_is_int [.int i] s = .ok (.bl true) s := by
  simp [g_is_int, d_is_int]
theorem is_int_within_int (i a b : Int) (s : Sto) : g_is_int_within [.int i, .int a, .int b] s = .ok (.bl (decide (a ≤ i) && decide (i ≤ b))) s := by
  by_cases h : a ≤ i <;> simp [g_is_int_within, d_is_int_within, is_int_int, h]
theorem is_tuple_tup (ws : List Dv) (a b : Int) (s : Sto) : g_is_tuple [.tup ws, .int a, .int b] s = .ok (.bl (decide (a ≤ ws.length) && decide (ws.length ≤ b))) s := by
  by_cases h : a ≤ ws.length <;> simp [g_is_tuple, d_is_tuple, h]
theorem first_in (ns : List Int) (a b : Int) (s : Sto) (h : ∀ i ∈ ns, a ≤ i ∧ i ≤ b) : g_first_outside [tI ns, .int a, .int b] s = .ok .non s := by
  obtain ⟨ρ', s', h1, h2⟩ := for_ix (g := t_first_outside_1) (body := b_first_outside_1) (F := F_first_outside_1) (ρ := [some (tI ns), some (.int a), some (.int b), none, none]) (s := s) (s1 := s) (xs := enumD 0 (ns.map .int))
    (fun _ ρ s' => s' = s ∧ ∃ x y, ρ = [some (tI ns), some (.int a), some (.int b), x, y]) rfl ⟨rfl, _, _, rfl⟩ (fun i x ρ s' hx hJ => by
      obtain ⟨rfl, y, z, rfl⟩ := hJ
      obtain ⟨w, hw, rfl⟩ := enumD_get hx
      rw [List.getElem?_map] at hw
      cases hn : ns[i]? with
      | none => rw [hn] at hw; cases hw
      | some n =>
        rw [hn] at hw
        cases hw
        have hb := h n (List.mem_of_getElem? hn)
        refine ⟨[some (tI ns), some (.int a), some (.int b), some (.int (0 + i : Nat)), some (.int n)], [some (tI ns), some (.int a), some (.int b), some (.int (0 + i : Nat)), some (.int n)], s', rfl, .inl ?_, rfl, _, _, rfl⟩
        simp [b_first_outside_1, hb.1, hb.2])
  obtain ⟨rfl, x, y, rfl⟩ := h2
  simp [g_first_outside, d_first_outside, h1]
structure Rule (rs : List Int) : Prop where
  one : 1 ≤ rs.length
  six : rs.length ≤ 6
  ok : ∀ i ∈ rs, -20 ≤ i ∧ i ≤ 20
structure Row (ns : List Int) : Prop where
  most : ns.length ≤ 200
  ok : ∀ i ∈ ns, 0 ≤ i ∧ i ≤ 1000000
@[simp] theorem isnt_nn {s : Sto} : isntD s .non .non = some (.bl false) := rfl
@[simp] theorem is_nn {s : Sto} : isD s .non .non = some (.bl true) := rfl
theorem need_rule_ok {rs : List Int} (h : Rule rs) (s : Sto) : g_need_rule [tI rs] s = .ok (tI rs) s := by
  have h1 := h.one
  have h6 := h.six
  simp [g_need_rule, d_need_rule, is_tuple_tup, first_in rs _ _ _ h.ok, h6, show (1 : Int) ≤ rs.length by omega, show (rs.length : Int) ≤ 6 by omega]
end MP.PG
set_option Elab.async false
set_option linter.all false
set_option maxRecDepth 100000
set_option maxHeartbeats 400000
namespace MP.PG
open PySem PySem.Spec PyProof.Rows L2 MP
abbrev kCells : Key := .inr (Str.ofString "cells")
abbrev kLeft : Key := .inr (Str.ofString "left")
abbrev kSeed : Key := .inr (Str.ofString "seed")
abbrev kSpot : Key := .inr (Str.ofString "spot")
/-- the seed, told back from the cells -/
def sdOf (cs : List Int) : Int := cs.dropLast.foldl (fun sd c => (sd * 48271 + c) % 2147483647) (103 + (cs.getLastD 0 - 11) / 37)
abbrev Dc (cs : List Int) (l p : Int) : Ob := .dct [(kLeft, .int l), (kSeed, .int (sdOf cs)), (kCells, .lst (cs.map .int)), (kSpot, .int p)]
/-- the store: what stands ahead, the state of the draws, what came behind -/
def St (pre tl : Sto) (cs : List Int) (l p : Int) : Sto := pre ++ Dc cs l p :: tl
section
variable {pre tl : Sto} {cs : List Int} {l p l' p' : Int}
theorem St_at : (St pre tl cs l p)[pre.length]? = some (Dc cs l p) := by
  unfold St
  rw [List.getElem?_append_right (Nat.le_refl _), Nat.sub_self]
  rfl
theorem St_dct : dctOf (St pre tl cs l p) (.ref pre.length) = some [(kLeft, .int l), (kSeed, .int (sdOf cs)), (kCells, .lst (cs.map .int)), (kSpot, .int p)] := by
  unfold dctOf
  dsimp only
  rw [St_at]
theorem St_set : (St pre tl cs l p).set pre.length (Dc cs l' p') = St pre tl cs l' p' := by
  unfold St
  rw [List.set_append_right _ _ (Nat.le_refl _), Nat.sub_self]
  rfl
theorem St_len : (St pre tl cs l p).length = pre.length + (1 + tl.length) := by
  unfold St
  rw [List.length_append, List.length_cons]
  omega
theorem ix_dct {s : Sto} {n : Nat} {kws : List (Key × Dv)} {x : Str} (h : dctOf s (.ref n) = some kws) (hn : ∀ ws, s[n]? ≠ some (.lst ws)) : ixA s (.ref n) (.str x) = valD kws (.inr x) := by
  show (match (match ixL s (.ref n) (.str x) with | some w => some w | none => ixT s (.ref n) (.str x)) with | some w => some w | none => ixD s (.ref n) (.str x)) = _
  rw [show ixL s (.ref n) (.str x) = none from rfl, show ixT s (.ref n) (.str x) = none from rfl]
  dsimp only
  unfold ixD
  rw [h]
  rfl
theorem get_left : ixA (St pre tl cs l p) (.ref pre.length) (.str "left") = some (.int l) := (ix_dct St_dct fun ws h => by rw [St_at] at h; cases h).trans rfl
theorem get_spot : ixA (St pre tl cs l p) (.ref pre.length) (.str "spot") = some (.int p) := (ix_dct St_dct fun ws h => by rw [St_at] at h; cases h).trans rfl
theorem get_cells : ixA (St pre tl cs l p) (.ref pre.length) (.str "cells") = some (.lst (cs.map .int)) := (ix_dct St_dct fun ws h => by rw [St_at] at h; cases h).trans rfl
theorem get_seed : ixA (St pre tl cs l p) (.ref pre.length) (.str "seed") = some (.int (sdOf cs)) := (ix_dct St_dct fun ws h => by rw [St_at] at h; cases h).trans rfl
theorem put_ev {f h : FE} {ρ : Env} {s : Sto} {n : Nat} {x : Str} {v : Dv} {kws : List (Key × Dv)} (h0 : f ρ s = .ok (.ref n) s) (h2 : h ρ s = .ok v s) (h3 : s[n]? = some (.dct kws)) (hl : kws.length < lim) : mDPut f (mK (.str x)) h ρ s = .nx ρ (s.set n (.dct (putD kws (.inr x) v))) := by
  unfold mDPut
  rw [h2, then_ok, h0, then_ok, k_ev, then_ok]
  show (match s[n]? with
    | some (.dct kws) => if kws.length < lim then C.nx ρ (s.set n (.dct (putD kws (.inr x) v))) else .no
    | _ => .no) = _
  rw [h3]
  exact if_pos hl
theorem fin_St {w : Dv} : finC (St pre tl cs l p).length (.rt w (St pre tl cs l' p')) = .ok w (St pre tl cs l' p') := finW_le (by rw [St_len, St_len]; exact Nat.le_refl _)
end
theorem put_left {pre tl : Sto} {cs : List Int} {l p l' : Int} {ρ : Env} {f : FE} {i : Nat} (h0 : mVar 0 ρ (St pre tl cs l p) = .ok (.ref pre.length) (St pre tl cs l p)) (h : f ρ (St pre tl cs l p) = .ok (.int l') (St pre tl cs l p)) : mDPut (mVar 0) (mK (.str "left")) f ρ (St pre tl cs l p) = .nx ρ (St pre tl cs l' p) := by
  rw [put_ev h0 h St_at (by show 4 < lim; unfold lim; decide)]
  exact congrArg (C.nx ρ) St_set
theorem put_spot {pre tl : Sto} {cs : List Int} {l p p' : Int} {ρ : Env} {f : FE} {i : Nat} (h0 : mVar 0 ρ (St pre tl cs l p) = .ok (.ref pre.length) (St pre tl cs l p)) (h : f ρ (St pre tl cs l p) = .ok (.int p') (St pre tl cs l p)) : mDPut (mVar 0) (mK (.str "spot")) f ρ (St pre tl cs l p) = .nx ρ (St pre tl cs l p') := by
  rw [put_ev h0 h St_at (by show 4 < lim; unfold lim; decide)]
  exact congrArg (C.nx ρ) St_set
theorem mod_ii {s : Sto} {i j : Int} (h : 0 < j) : modD s (.int i) (.int j) = some (.int (i % j)) := if_pos h
theorem div_ii {s : Sto} {i j : Int} (h : 0 < j) (h2 : j < 1073741824) : divD s (.int i) (.int j) = some (.int (i / j)) := if_pos ⟨h, h2⟩
structure Drawn (many : Int) (pre tl : Sto) (cs : List Int) (p : Int) (rr : R Dv) : Prop where
  ok : ∃ d l' p', rr = .ok (.int d) (St pre tl cs l' p') ∧ 0 ≤ d ∧ d < many ∧ 0 ≤ p' ∧ p' ≤ p + 1
theorem draw_ok {pre tl : Sto} {cs : List Int} {l p many : Int} (hc : cs ≠ []) (hm : 0 < many) (hm2 : many < 1073741824) (hp : 0 ≤ p) (hp2 : p < 1000000) : Drawn many pre tl cs p (g__law_draw [.ref pre.length, .int many] (St pre tl cs l p)) := by
  let E (x2 x3 x4 x5 x6 x7 : Option Dv) : Env := [some (.ref pre.length), some (.int many), x2, x3, x4, x5, x6, x7]
  have e0 : startD 8 [.ref pre.length, .int many] = E none none none none none none := rfl
  have gl : ∀ (ρ : Env) (p : Int), mBin ixA (mVar 0) (mK (.str "left")) (some (.ref pre.length) :: ρ) (St pre tl cs l p) = .ok (.int l) (St pre tl cs l p) := fun ρ p => bin_v (x := .ref pre.length) rfl k_ev get_left
  have eT : mTest (mBin gtD (mBin ixA (mVar 0) (mK (.str "left"))) (mK (.int 0))) (E none none none none none none) (St pre tl cs l p) = .ok (decide (0 < l)) (St pre tl cs l p) := test_v (bin_v (gl _ _) k_ev rfl)
  by_cases hl : 0 < l
  · refine ⟨l % many, l / many, p, ?_, Int.emod_nonneg _ (by omega), Int.emod_lt_of_pos _ hm, hp, by omega⟩
    rw [decide_eq_true hl] at eT
    have e1 : mAsg (mBin modD (mBlt intD (mCons (mBin ixA (mVar 0) (mK (.str "left"))) mNil)) (mVar 1)) (gN 2) (E none none none none none none) (St pre tl cs l p) = .nx (E (some (.int (l % many))) none none none none none) (St pre tl cs l p) :=
      (asg_v (w := .int (l % many)) (bin_v (x := .int l) (y := .int many) (blt_v (cons_v (gl _ _) nil_ev) rfl) rfl (mod_ii hm))).trans rfl
    have e2 : mDPut (mVar 0) (mK (.str "left")) (mBin divD (mBin ixA (mVar 0) (mK (.str "left"))) (mVar 1)) (E (some (.int (l % many))) none none none none none) (St pre tl cs l p) = .nx (E (some (.int (l % many))) none none none none none) (St pre tl cs (l / many) p) :=
      put_left (i := 0) rfl (bin_v (x := .int l) (y := .int many) (gl _ _) rfl (div_ii hm hm2))
    unfold g__law_draw d__law_draw
    rw [den_ev, e0]
    refine (congrArg (finC _) ?_).trans (fin_St (w := .int (l % many)) (l := l) (p := p))
    rw [seq_ev, ifS_t eT, seq_ev, e1, seqK_nx, seq_ev, e2, seqK_nx, ret_v (w := .int (l % many)) rfl]
    rfl
  · rw [decide_eq_false hl] at eT
    have hcl : 0 < cs.length := List.length_pos_iff.mpr hc
    have hx : (p % (cs.length : Int)).toNat < cs.length := by
      have h1 := Int.emod_lt_of_pos p (show (0 : Int) < cs.length by omega)
      have h2 := Int.emod_nonneg p (show (cs.length : Int) ≠ 0 by omega)
      omega
    have hy : (((p % (cs.length : Int)).toNat : Nat) : Int) = p % (cs.length : Int) := Int.toNat_of_nonneg (Int.emod_nonneg _ (by omega))
    generalize hq : (p % (cs.length : Int)).toNat = q at hx hy
    let c := cs[q]
    let sd := sdOf cs
    let ad := sd + 40503 * p * p
    let b1 := (c * (2 * p + 3) + ad) % 2147483647
    let b2 := (b1 * b1 + 69621 * p + sd) % 2147483629
    have hb1 : 0 ≤ b1 ∧ b1 < 2147483647 := ⟨Int.emod_nonneg _ (by decide), Int.emod_lt_of_pos _ (by decide)⟩
    have hb2 : 0 ≤ b2 ∧ b2 < 2147483629 := ⟨Int.emod_nonneg _ (by decide), Int.emod_lt_of_pos _ (by decide)⟩
    refine ⟨(b2 * 48271 + p) % 2147483647 / 11 % many, l, p + 1, ?_, Int.emod_nonneg _ (by omega), Int.emod_lt_of_pos _ hm, by omega, by omega⟩
    have hcq : (cs.map Dv.int)[q]? = some (.int c) := by rw [List.getElem?_map, List.getElem?_eq_getElem hx]; rfl
    let C : Dv := .lst (cs.map .int)
    have e1 : mAsg (mBin ixA (mVar 0) (mK (.str "spot"))) (gN 3) (E none none none none none none) (St pre tl cs l p) = .nx (E none (some (.int p)) none none none none) (St pre tl cs l p) :=
      (asg_v (w := .int p) (bin_v (x := .ref pre.length) rfl k_ev get_spot)).trans rfl
    have e2 : mDPut (mVar 0) (mK (.str "spot")) (mBin addD (mVar 3) (mK (.int 1))) (E none (some (.int p)) none none none none) (St pre tl cs l p) = .nx (E none (some (.int p)) none none none none) (St pre tl cs l (p + 1)) :=
      put_spot (i := 0) rfl (bin_v (x := .int p) (y := .int 1) rfl k_ev add_ii)
    have e3 : mPar 4 5 (mCons (mBin ixA (mVar 0) (mK (.str "cells"))) (mCons (mBin addD (mBin ixA (mVar 0) (mK (.str "seed"))) (mBin mulD (mBin mulD (mK (.int 40503)) (mVar 3)) (mVar 3))) mNil)) (E none (some (.int p)) none none none none) (St pre tl cs l (p + 1)) = .nx (E none (some (.int p)) (some C) (some (.int ad)) none none) (St pre tl cs l (p + 1)) := by
      have f1 : mBin ixA (mVar 0) (mK (.str "cells")) (E none (some (.int p)) none none none none) (St pre tl cs l (p + 1)) = .ok C (St pre tl cs l (p + 1)) := bin_v (x := .ref pre.length) rfl k_ev get_cells
      have f2 : mBin addD (mBin ixA (mVar 0) (mK (.str "seed"))) (mBin mulD (mBin mulD (mK (.int 40503)) (mVar 3)) (mVar 3)) (E none (some (.int p)) none none none none) (St pre tl cs l (p + 1)) = .ok (.int ad) (St pre tl cs l (p + 1)) :=
        bin_v (x := .int sd) (y := .int (40503 * p * p)) (bin_v (x := .ref pre.length) rfl k_ev get_seed) (bin_v (x := .int (40503 * p)) (y := .int p) (bin_v (x := .int 40503) (y := .int p) k_ev rfl (mul_ii (cm_l ⟨by decide, by decide⟩))) rfl (mul_ii (cm_r ⟨by omega, by omega⟩))) add_ii
      rw [par_ev, f1, then_ok, f2, then_ok]
      rfl
    have e4 : mAsg (mBin ixA (mVar 4) (mBin modD (mBlt intD (mCons (mVar 3) mNil)) (mBlt lenD (mCons (mVar 4) mNil)))) (gN 6) (E none (some (.int p)) (some C) (some (.int ad)) none none) (St pre tl cs l (p + 1)) = .nx (E none (some (.int p)) (some C) (some (.int ad)) (some (.int c)) none) (St pre tl cs l (p + 1)) := by
      refine (asg_v (w := .int c) (bin_v (x := C) (y := .int ((q : Nat) : Int)) rfl (bin_v (x := .int p) (y := .int (cs.length : Int)) (blt_v (cons_v (w := .int p) rfl nil_ev) rfl) (blt_v (cons_v (w := C) rfl nil_ev) (by rw [len_lst, List.length_map])) (by rw [mod_ii (by omega), hy])) (ix_lst hcq))).trans rfl
    have e5 : mAsg (mBin modD (mBlt intD (mCons (mBin addD (mBin mulD (mVar 6) (mBin addD (mBin mulD (mK (.int 2)) (mVar 3)) (mK (.int 3)))) (mVar 5)) mNil)) (mK (.int 2147483647))) (gN 7) (E none (some (.int p)) (some C) (some (.int ad)) (some (.int c)) none) (St pre tl cs l (p + 1)) = .nx (E none (some (.int p)) (some C) (some (.int ad)) (some (.int c)) (some (.int b1))) (St pre tl cs l (p + 1)) :=
      (asg_v (w := .int b1) (bin_v (x := .int (c * (2 * p + 3) + ad)) (y := .int 2147483647) (blt_v (cons_v (bin_v (x := .int (c * (2 * p + 3))) (y := .int ad) (bin_v (x := .int c) (y := .int (2 * p + 3)) rfl (bin_v (x := .int (2 * p)) (y := .int 3) (bin_v (x := .int 2) (y := .int p) k_ev rfl (mul_ii (cm_l ⟨by decide, by decide⟩))) k_ev add_ii) (mul_ii (cm_r ⟨by omega, by omega⟩))) rfl add_ii) nil_ev) rfl) k_ev (mod_ii (by decide)))).trans rfl
    have e6 : mAsg (mBin modD (mBlt intD (mCons (mBin addD (mBin addD (mBin mulD (mVar 7) (mVar 7)) (mBin mulD (mK (.int 69621)) (mVar 3))) (mBin ixA (mVar 0) (mK (.str "seed")))) mNil)) (mK (.int 2147483629))) (gN 7) (E none (some (.int p)) (some C) (some (.int ad)) (some (.int c)) (some (.int b1))) (St pre tl cs l (p + 1)) = .nx (E none (some (.int p)) (some C) (some (.int ad)) (some (.int c)) (some (.int b2))) (St pre tl cs l (p + 1)) :=
      (asg_v (w := .int b2) (bin_v (x := .int (b1 * b1 + 69621 * p + sd)) (y := .int 2147483629) (blt_v (cons_v (bin_v (x := .int (b1 * b1 + 69621 * p)) (y := .int sd) (bin_v (x := .int (b1 * b1)) (y := .int (69621 * p)) (bin_v (x := .int b1) (y := .int b1) rfl rfl (mul_ii (cm_l ⟨by omega, by omega⟩))) (bin_v (x := .int 69621) (y := .int p) k_ev rfl (mul_ii (cm_l ⟨by decide, by decide⟩))) add_ii) (bin_v (x := .ref pre.length) rfl k_ev get_seed) add_ii) nil_ev) rfl) k_ev (mod_ii (by decide)))).trans rfl
    have e7 : mRet (mBin modD (mBin divD (mBin modD (mBlt intD (mCons (mBin addD (mBin mulD (mVar 7) (mK (.int 48271))) (mVar 3)) mNil)) (mK (.int 2147483647))) (mK (.int 11))) (mVar 1)) (E none (some (.int p)) (some C) (some (.int ad)) (some (.int c)) (some (.int b2))) (St pre tl cs l (p + 1)) = .rt (.int ((b2 * 48271 + p) % 2147483647 / 11 % many)) (St pre tl cs l (p + 1)) :=
      ret_v (bin_v (x := .int ((b2 * 48271 + p) % 2147483647 / 11)) (y := .int many) (bin_v (x := .int ((b2 * 48271 + p) % 2147483647)) (y := .int 11) (bin_v (x := .int (b2 * 48271 + p)) (y := .int 2147483647) (blt_v (cons_v (bin_v (x := .int (b2 * 48271)) (y := .int p) (bin_v (x := .int b2) (y := .int 48271) rfl k_ev (mul_ii (cm_l ⟨by omega, by omega⟩))) rfl add_ii) nil_ev) rfl) k_ev (mod_ii (by decide))) k_ev (div_ii (by decide) (by decide))) rfl (mod_ii hm))
    unfold g__law_draw d__law_draw
    rw [den_ev, e0]
    refine (congrArg (finC _) ?_).trans (fin_St (w := .int ((b2 * 48271 + p) % 2147483647 / 11 % many)) (l := l) (p := p))
    rw [seq_ev, ifS_f eT]
    exact seq_nx e1 (seq_nx e2 (seq_nx e3 (seq_nx e4 (seq_nx e5 (seq_nx e6 e7)))))
end MP.PG
set_option Elab.async false
set_option linter.all false
set_option maxRecDepth 100000
set_option maxHeartbeats 400000
namespace MP.PG
open PySem PySem.Spec PyProof.Rows L2 MP
theorem eq_ii {s : Sto} {a b : Int} : eqD s (.int a) (.int b) = some (.bl (decide (a = b))) := by
  have e : decide (V.int a = V.int b) = decide (a = b) := by
    by_cases h : a = b
    · rw [h, decide_eq_true rfl, decide_eq_true rfl]
    · rw [decide_eq_false h, decide_eq_false fun z => h (V.int.inj z)]
  show (some (decide (V.int a = V.int b))).map Dv.bl = _
  rw [e]
  rfl
/-- one of some -/
theorem law_of_ok {pre tl : Sto} {cs : List Int} {l p : Int} {ws : List Dv} (hc : cs ≠ []) (hp : 0 ≤ p) (hp2 : p < 1000000) (hw : ws ≠ []) (hw2 : ws.length < 1000) : ∃ w l' p', w ∈ ws ∧ g__law_of [.ref pre.length, .lst ws] (St pre tl cs l p) = .ok w (St pre tl cs l' p') ∧ 0 ≤ p' ∧ p' ≤ p + 1 := by
  have hl : 0 < ws.length := List.length_pos_iff.mpr hw
  obtain ⟨k, l2, p2, d2, k0, k6, p20, p21⟩ := (draw_ok (l := l) hc (show (0 : Int) < ws.length by omega) (by omega) hp hp2).ok
  obtain ⟨j, rfl⟩ := Int.eq_ofNat_of_zero_le k0
  have hj : j < ws.length := by omega
  refine ⟨ws[j], l2, p2, List.getElem_mem hj, ?_, p20, p21⟩
  have e0 : startD 2 [.ref pre.length, .lst ws] = [some (.ref pre.length), some (.lst ws)] := rfl
  unfold g__law_of d__law_of
  rw [den_ev, e0, ret_ev, bin_ev, var_s, var_0, bind_ok, call_ev, cons_ev, var_0, bind_ok, cons_ev, blt_ev, cons_ev, var_s, var_0, bind_ok, nil_ev, bind_ok, bind_ok, len_lst, of_some, bind_ok, nil_ev, bind_ok, bind_ok, bind_ok, d2, bind_ok, ix_lst (List.getElem?_eq_getElem hj), of_some, then_ok]
  exact fin_St
end MP.PG
set_option Elab.async false
set_option linter.all false
set_option maxRecDepth 100000
set_option maxHeartbeats 400000
namespace MP.PG
open PySem PySem.Spec PyProof.Rows L2 MP
structure Term where
  rs : List Int
  a : Int
  b : Int
abbrev tm (t : Term) : Dv := .tup [tI t.rs, .int t.a, .int t.b]
abbrev bi (o : Int) (ts : List Term) : Dv := .tup [.int o, .tup (ts.map tm)]
abbrev lens (ts : List Term) : List Int := ts.map fun t => (t.rs.length : Int)
def wd (ts : List Term) : Nat := (maxO 1 (lens ts)).toNat
variable {s : Sto} {o : Int} {ts : List Term} {ns : List Int}
def seg (rs ns : List Int) (e : Nat) : List Int := (ns.drop (e - rs.length)).take rs.length
/-- the index of the results that end at e -/
def ixe (rs ns : List Int) (e : Nat) : Int := dot rs (srt (seg rs ns e))
def ps (o : Int) (ts : List Term) (ns : List Int) (e : Nat) : Int := o * ns.getD e 0 + (ts.map fun t => t.a * ixe t.rs ns e + t.b * ixe t.rs ns (e + 1)).sum
end MP.PG
set_option Elab.async false
set_option linter.all false
set_option maxRecDepth 100000
set_option maxHeartbeats 400000
namespace MP.PG
open PySem PySem.Spec PyProof.Rows L2 MP
theorem cleans_int (n : Nat) : ∀ l : List Int, cleans n (l.map .int) = true
  | [] => rfl
  | _ :: l => by
    show (true && cleans n (l.map .int)) = true
    rw [cleans_int n l]
    rfl
theorem fz_ints {s : Sto} {n k : Nat} : ∀ l : List Int, mapO (fz (k + 1) s n) (l.map .int) = some (l.map .int)
  | [] => rfl
  | a :: l => by
    have e : fz (k + 1) s n (.int a) = some (.int a) := by
      unfold fz
      exact if_pos rfl
    rw [List.map_cons]
    unfold mapO
    rw [e, fz_ints l]
/-- the place behind all -/
def r1 (pre os : Sto) : Nat := pre.length + 1 + os.length
def ClP (pre os : Sto) : Prop := ∀ n, pre.all (Ob.clean n) = true ∧ os.all (Ob.clean n) = true
theorem St_clean {n : Nat} {pre os : Sto} {cs : List Int} {l p : Int} (ho : ClP pre os) : (St pre os cs l p).all (Ob.clean n) = true := by
  unfold St
  rw [List.all_append, (ho n).1]
  show (true && ((cleans n (cs.map .int) && (true && (true && true))) && os.all (Ob.clean n))) = true
  rw [cleans_int, (ho n).2]
  rfl
theorem St_app {pre os us : Sto} {cs : List Int} {l p : Int} : St pre (os ++ us) cs l p = St pre os cs l p ++ us := by
  unfold St
  rw [List.append_assoc]
  rfl
theorem r1_len {pre os : Sto} {cs : List Int} {l p : Int} : (St pre os cs l p).length = r1 pre os := by rw [St_len]; unfold r1; omega
theorem at_end {pre os : Sto} {cs : List Int} {l p : Int} {x : Ob} : (St pre (os ++ [x]) cs l p)[r1 pre os]? = some x := by
  rw [St_app, ← r1_len (cs := cs) (l := l) (p := p), List.getElem?_append_right (Nat.le_refl _), Nat.sub_self]
  rfl
theorem take_end {pre os : Sto} {cs : List Int} {l p : Int} {x : Ob} : (St pre (os ++ [x]) cs l p).take (r1 pre os) = St pre os cs l p := by
  rw [St_app, ← r1_len (cs := cs) (l := l) (p := p), List.take_left' rfl]
theorem len_end {pre os : Sto} {cs : List Int} {l p : Int} {x : Ob} : (St pre (os ++ [x]) cs l p).length = r1 pre os + 1 := by
  rw [St_app, List.length_append, r1_len]
  rfl
/-- what is the callee's own goes out as it stands -/
theorem fin_own {pre os : Sto} (ho : ClP pre os) {cs : List Int} {l p l' p' : Int} {ob : Ob} {w w' : Dv} (h : fz 4 (St pre (os ++ [ob]) cs l' p') (r1 pre os) w = some w') : finC (St pre os cs l p).length (.rt w (St pre (os ++ [ob]) cs l' p')) = .ok w' (St pre os cs l' p') := by
  rw [r1_len]
  show finW (r1 pre os) w (St pre (os ++ [ob]) cs l' p') = _
  unfold finW
  rw [if_neg (by rw [len_end]; omega), take_end, if_pos (St_clean ho), h]
theorem fin_lst {pre os : Sto} (ho : ClP pre os) {cs : List Int} {l p l' p' : Int} {ws : List Dv} (h : mapO (fz 3 (St pre (os ++ [.lst ws]) cs l' p') (r1 pre os)) ws = some ws) : finC (St pre os cs l p).length (.rt (.ref (r1 pre os)) (St pre (os ++ [.lst ws]) cs l' p')) = .ok (.lst ws) (St pre os cs l' p') := by
  refine fin_own ho ?_
  unfold fz
  rw [if_neg (by show ¬ (decide (r1 pre os < r1 pre os) = true); simp)]
  dsimp only
  rw [at_end]
  dsimp only
  rw [h]
  rfl
theorem app_v {f g : FE} {ρ : Env} {s s1 s2 : Sto} {n : Nat} {ws us : List Dv} {y : Dv} (h : f ρ s = .ok (.ref n) s1) (h1 : s1[n]? = some (.lst us)) (h2 : g ρ s1 = .ok y s2) (h3 : s2[n]? = some (.lst ws)) (hl : ws.length < lim) : mApp f g ρ s = .ok .non (s2.set n (.lst (ws ++ [y]))) := by
  unfold mApp
  rw [h, bind_ok]
  simp only [h1, h2, bind_ok, h3, if_pos hl]
variable {s : Sto} {o : Int} {ts : List Term} {ns : List Int}
abbrev ev (r : Nat) (o : Int) (ts : List Term) (ns : List Int) (e : Nat) (w : Int) (a b c d : Option Dv) : Env := [some (bi o ts), some (tI ns), some (.ref r), some (.int e), some (.int w), a, b, c, d]
end MP.PG
set_option Elab.async false
set_option linter.all false
set_option maxRecDepth 100000
set_option maxHeartbeats 400000
namespace MP.PG
open PySem PySem.Spec PyProof.Rows L2 MP
theorem smN {i : Int} (h : i.natAbs ≤ 1000000000000000) : Sm i := Nat.lt_of_le_of_lt h (Nat.lt_of_lt_of_le (by decide : 1000000000000000 < 2 ^ 50) (Nat.pow_le_pow_right (by decide) (by decide)))
theorem dot_abs {M : Nat} : ∀ {rs ls : List Int}, (∀ r ∈ rs, -20 ≤ r ∧ r ≤ 20) → (∀ n ∈ ls, n.natAbs ≤ M) → (dot rs ls).natAbs ≤ rs.length * (20 * M)
  | [], ls, _, _ => by rw [dot_nil]; exact Nat.zero_le _
  | a :: rs, [], _, _ => by rw [dot_nil']; exact Nat.zero_le _
  | a :: rs, b :: ls, h1, h2 => by
    have ih := dot_abs (M := M) (rs := rs) (ls := ls) (fun r hr => h1 r (List.mem_cons_of_mem _ hr)) fun n hn => h2 n (List.mem_cons_of_mem _ hn)
    have ha := h1 a List.mem_cons_self
    have hb := h2 b List.mem_cons_self
    have h3 : (a * b).natAbs ≤ 20 * M := by
      rw [Int.natAbs_mul]
      exact Nat.mul_le_mul (by omega) hb
    rw [dot_cons, List.length_cons, Nat.succ_mul]
    omega
variable {s : Sto} {o : Int} {ts : List Term} {ns : List Int}
abbrev td (t : Term) : PyData := .tuple [.tuple (t.rs.map .int), .int t.a, .int t.b]
abbrev bd (o : Int) (ts : List Term) : PyData := .tuple [.int o, .tuple (ts.map td)]
end MP.PG
set_option Elab.async false
set_option linter.all false
set_option maxRecDepth 100000
set_option maxHeartbeats 400000
namespace MP.PG
open PySem PySem.Spec PyProof.Rows L2 MP
theorem pow_ii {s : Sto} {i j : Int} (h : 0 ≤ j ∧ j ≤ 1000000 ∧ i.natAbs < 2 ^ 64) : powD s (.int i) (.int j) = some (.int (i ^ j.toNat)) := if_pos h
theorem ge_ii {s : Sto} {i j : Int} : geD s (.int i) (.int j) = some (.bl (decide (j ≤ i))) := rfl
def cellsOf (ns : List Int) (k : Nat) : List Int := ns.drop k ++ ns.take k
/-- the seed behind the cells -/
def sdF (k : Int) (xs : List Int) : Int := xs.foldl (fun sd c => (sd * 48271 + c) % 2147483647) (103 + k)
theorem sdOf_eq {xs : List Int} {k : Int} : sdOf (xs ++ [37 * k + 11]) = sdF k xs := by
  unfold sdOf sdF
  rw [List.dropLast_concat, List.getLastD_concat]
  congr 1
  omega
theorem sdF_snoc {xs : List Int} {k c : Int} : sdF k (xs ++ [c]) = (sdF k xs * 48271 + c) % 2147483647 := by
  unfold sdF
  rw [List.foldl_append]
  rfl
theorem sdF_rng (k : Nat) (hk : k ≤ 63) (xs : List Int) : 0 ≤ sdF k xs ∧ sdF k xs < 2147483647 := by
  rcases List.eq_nil_or_concat xs with rfl | ⟨ys, c, rfl⟩
  · unfold sdF
    simp only [List.foldl_nil]
    omega
  · rw [List.concat_eq_append, sdF_snoc]
    exact ⟨Int.emod_nonneg _ (by decide), Int.emod_lt_of_pos _ (by decide)⟩
/-- what is begun with -/
theorem begun_ok {pre : Sto} {ns : List Int} {k : Nat} (hn : ns.length ≤ 63) (hk : k ≤ 63) : ∃ l, g__law_begun [.sq (ns.map .int), .int (k : Int)] pre = .ok (.ref pre.length) (St pre [] (cellsOf ns k ++ [37 * (k : Int) + 11]) l 0) := by
  let cs := cellsOf ns k
  have lc : cs.length ≤ 63 := by
    show (ns.drop k ++ ns.take k).length ≤ 63
    rw [List.length_append, List.length_drop, List.length_take]
    omega
  let E (x2 x3 x4 x5 : Option Dv) : Env := [some (.sq (ns.map .int)), some (.int (k : Int)), x2, x3, x4, x5]
  have e0 : startD 6 [.sq (ns.map .int), .int (k : Int)] = E none none none none := rfl
  have p1 : ∀ x2 x3 x4 x5, mPart (mVar 1) (E x2 x3 x4 x5) pre = .ok (some (k : Int)) pre := fun _ _ _ _ => part_v rfl
  have c1 : mBin addD (mSl slA (mVar 0) (mPart (mVar 1)) mNoPart) (mSl slA (mVar 0) mNoPart (mPart (mVar 1))) (E none none none none) pre = .ok (lI cs) pre := by
    refine bin_v (s1 := pre) (x := .lst ((ns.map Dv.int).drop k)) (y := .lst ((ns.map Dv.int).take k)) ?_ ?_ ?_
    · refine sl_v (x := .sq (ns.map .int)) (a := some (k : Int)) (b := none) rfl (p1 _ _ _ _) rfl ?_
      rw [← cut_from (ws := ns.map Dv.int) (k := k)]
      rfl
    · refine sl_v (x := .sq (ns.map .int)) (a := none) (b := some (k : Int)) rfl rfl (p1 _ _ _ _) ?_
      rw [← cut_to (ws := ns.map Dv.int) (k := k)]
      rfl
    · rw [add_lst (by rw [List.length_drop, List.length_take, List.length_map]; omega), ← List.map_drop, ← List.map_take, ← List.map_append]
      rfl
  have e1 := asg_v (i := 2) (ρ := E none none none none) c1
  have f1 : mComp cF__law_begun_1 [5] ct__law_begun_1 ci__law_begun_1 ce__law_begun_1 (E (some (lI cs)) none none none) pre = .ok (lI (cs.filter fun n => decide ((10 : Int) ^ 18 ≤ n))) pre := by
    refine comp_filt (e := .int) (φ := .int) (t := fun n => decide ((10 : Int) ^ 18 ≤ n)) rfl (by unfold lim; omega) fun n _ => ⟨E (some (lI cs)) none none (some (.int n)), rfl, ?_, fun _ => rfl⟩
    unfold ci__law_begun_1
    exact test_v (bin_v (x := .int n) (y := .int ((10 : Int) ^ 18)) rfl (bin_v (x := .int 10) (y := .int 18) k_ev k_ev (pow_ii ⟨by decide, by decide, by decide⟩)) ge_ii)
  obtain ⟨gs, hg⟩ : ∃ gs, gs = cs.filter fun n => decide ((10 : Int) ^ 18 ≤ n) := ⟨_, rfl⟩
  rw [← hg] at f1
  have e2 := asg_v (i := 3) (ρ := E (some (lI cs)) none none none) f1
  have e3 : mAsg (mBin addD (mK (.int 103)) (mVar 1)) (gN 4) (E (some (lI cs)) (some (lI gs)) none none) pre = .nx (E (some (lI cs)) (some (lI gs)) (some (.int (103 + (k : Int)))) none) pre :=
    asg_v (w := .int (103 + (k : Int))) (bin_v (x := .int 103) (y := .int (k : Int)) k_ev rfl add_ii)
  obtain ⟨ρ', s', e4, z, hρ, hs⟩ := for_ix (F := F__law_begun_1) (g := t__law_begun_1) (body := b__law_begun_1) (ρ := E (some (lI cs)) (some (lI gs)) (some (.int (103 + (k : Int)))) none) (s := pre) (s1 := pre) (xs := cs.map .int)
    (fun i ρ s => ∃ z, ρ = E (some (lI cs)) (some (lI gs)) (some (.int (sdF k (cs.take i)))) z ∧ s = pre) rfl ⟨none, rfl, rfl⟩ fun i x ρ s hx ⟨z, hr, hs⟩ => by
      subst hr hs
      rw [List.getElem?_map] at hx
      obtain ⟨c, hc, rfl⟩ := Option.map_eq_some_iff.mp hx
      refine ⟨E (some (lI cs)) (some (lI gs)) (some (.int (sdF k (cs.take i)))) (some (.int c)), E (some (lI cs)) (some (lI gs)) (some (.int (sdF k (cs.take (i + 1))))) (some (.int c)), s, rfl, .inl ?_, _, rfl, rfl⟩
      have ht : cs.take (i + 1) = cs.take i ++ [c] := by rw [List.take_succ, hc]; rfl
      have hr := sdF_rng k hk (cs.take i)
      rw [ht, sdF_snoc]
      unfold b__law_begun_1
      exact asg_v (w := .int ((sdF k (cs.take i) * 48271 + c) % 2147483647)) (bin_v (x := .int (sdF k (cs.take i) * 48271 + c)) (y := .int 2147483647) (blt_v (cons_v (bin_v (x := .int (sdF k (cs.take i) * 48271)) (y := .int c) (bin_v (x := .int (sdF k (cs.take i))) (y := .int 48271) rfl k_ev (mul_ii (cm_r ⟨by decide, by decide⟩))) rfl add_ii) nil_ev) rfl) k_ev (mod_ii (by decide)))
  rw [hρ, hs, List.length_map, List.take_length] at e4
  have eG : ∃ l, mIf (mTest (mBin neD (mVar 3) (mLst mNil))) (mBin ixA (mVar 3) (mK (.int 0))) (mK (.int 0)) (E (some (lI cs)) (some (lI gs)) (some (.int (sdF k cs))) z) pre = .ok (.int l) pre := by
    have et : mTest (mBin neD (mVar 3) (mLst mNil)) (E (some (lI cs)) (some (lI gs)) (some (.int (sdF k cs))) z) pre = .ok (!decide (gs = [])) pre := by
      refine test_v (bin_v (x := lI gs) (y := lI []) rfl ?_ ?_)
      · rfl
      · exact ne_lI
    rw [if_ev, et, bind_ok]
    cases gs with
    | nil => exact ⟨0, rfl⟩
    | cons a r =>
      refine ⟨a, ?_⟩
      rw [if_pos (by simp)]
      exact bin_v (x := .lst (.int a :: r.map .int)) (y := .int ((0 : Nat) : Int)) rfl k_ev (ix_lst (w := .int a) rfl)
  obtain ⟨l, eG⟩ := eG
  have eL : mBin addD (mVar 2) (mLst (mCons (mBin addD (mBin mulD (mK (.int 37)) (mVar 1)) (mK (.int 11))) mNil)) (E (some (lI cs)) (some (lI gs)) (some (.int (sdF k cs))) z) pre = .ok (lI (cs ++ [37 * (k : Int) + 11])) pre := by
    refine bin_v (x := .lst (cs.map .int)) (y := .lst [.int (37 * (k : Int) + 11)]) rfl ?_ ?_
    · rw [lst_ev, cons_v (w := .int (37 * (k : Int) + 11)) (bin_v (x := .int (37 * (k : Int))) (y := .int 11) (bin_v (x := .int 37) (y := .int (k : Int)) k_ev rfl (mul_ii (cm_l ⟨by decide, by decide⟩))) k_ev add_ii) nil_ev]
      rfl
    · rw [add_lst (by rw [List.length_map]; show cs.length + 1 ≤ _; omega), lI, List.map_append]
      rfl
  refine ⟨l, ?_⟩
  have eD : mDctM [((mK (.str "left")), (mIf (mTest (mBin neD (mVar 3) (mLst mNil))) (mBin ixA (mVar 3) (mK (.int 0))) (mK (.int 0)))), ((mK (.str "seed")), (mVar 4)), ((mK (.str "cells")), (mBin addD (mVar 2) (mLst (mCons (mBin addD (mBin mulD (mK (.int 37)) (mVar 1)) (mK (.int 11))) mNil)))), ((mK (.str "spot")), (mK (.int 0)))] (E (some (lI cs)) (some (lI gs)) (some (.int (sdF k cs))) z) pre = .ok (.ref pre.length) (St pre [] (cs ++ [37 * (k : Int) + 11]) l 0) := by
    have : mPairs [((mK (.str "left")), (mIf (mTest (mBin neD (mVar 3) (mLst mNil))) (mBin ixA (mVar 3) (mK (.int 0))) (mK (.int 0)))), ((mK (.str "seed")), (mVar 4)), ((mK (.str "cells")), (mBin addD (mVar 2) (mLst (mCons (mBin addD (mBin mulD (mK (.int 37)) (mVar 1)) (mK (.int 11))) mNil)))), ((mK (.str "spot")), (mK (.int 0)))] (E (some (lI cs)) (some (lI gs)) (some (.int (sdF k cs))) z) pre = .ok [(.str "left", .int l), (.str "seed", .int (sdF k cs)), (.str "cells", lI (cs ++ [37 * (k : Int) + 11])), (.str "spot", .int 0)] pre := by
      unfold mPairs
      rw [k_ev, bind_ok, eG, bind_ok]
      unfold mPairs
      rw [k_ev, bind_ok, show mVar 4 (E (some (lI cs)) (some (lI gs)) (some (.int (sdF k cs))) z) pre = .ok (.int (sdF k cs)) pre from rfl, bind_ok]
      unfold mPairs
      rw [k_ev, bind_ok, eL, bind_ok]
      unfold mPairs
      rw [k_ev, bind_ok, k_ev, bind_ok]
      rfl
    unfold mDctM
    rw [this]
    unfold St Dc
    rw [sdOf_eq]
    rfl
  unfold g__law_begun d__law_begun
  rw [den_ev, e0]
  refine (congrArg (finC _) (seq_nx e1 (seq_nx e2 (seq_nx e3 (seq_nx e4 (ret_v eD)))))).trans ?_
  show finW pre.length (.ref pre.length) (St pre [] (cs ++ [37 * (k : Int) + 11]) l 0) = _
  unfold finW
  have e : fz 4 (St pre [] (cs ++ [37 * (k : Int) + 11]) l 0) pre.length (.ref pre.length) = none := by
    unfold fz
    rw [if_neg (by show ¬ (decide (pre.length < pre.length) = true); simp)]
    dsimp only
    rw [St_at]
  split
  · rfl
  · split
    · rw [e]
    · rfl
end MP.PG
set_option Elab.async false
set_option linter.all false
set_option maxRecDepth 100000
set_option maxHeartbeats 400000
namespace MP.PG
open PySem PySem.Spec MP
open PyProof.Rows hiding St
open L2 hiding St r1
theorem lt_ii {s : Sto} {i j : Int} : ltD s (.int i) (.int j) = some (.bl (decide (i < j))) := rfl
theorem fin_one {s : Sto} {w : Dv} {ob : Ob} (hs : s.all (Ob.clean s.length) = true) (hw : clean s.length w = true) : finC s.length (.rt w (s ++ [ob])) = .ok w s := by
  show finW s.length w (s ++ [ob]) = _
  unfold finW
  have e1 : (s ++ [ob]).take s.length = s := by simp
  rw [if_neg (by rw [List.length_append, List.length_singleton]; omega), e1, if_pos hs]
  have e2 : fz 4 (s ++ [ob]) s.length w = some w := by
    unfold fz
    exact if_pos hw
  rw [e2]
theorem pl_non : Pl 1 0 .non .none := ⟨rfl, by decide +kernel, by decide +kernel, by decide +kernel, by decide +kernel, by decide +kernel⟩
theorem pl_small {i : Int} (h : i.natAbs ≤ 1000000000000000) : Pl 1 0 (.int i) (.int i) := pl_int (smN h)
end MP.PG
set_option Elab.async false
set_option linter.all false
set_option maxRecDepth 100000
set_option maxHeartbeats 400000
namespace MP.PG
open PySem PySem.Spec MP
open PyProof.Rows hiding St
open L2 hiding St r1
/-- the ints f 0 .. f (n - 1) -/
def lf (n : Nat) (f : Nat → Int) : List Int := (List.range n).map f
section
variable {n m k b : Nat} {f g : Nat → Int} {i : Nat}
theorem lf_len : (lf n f).length = n := by unfold lf; rw [List.length_map, List.length_range]
theorem lf_get (h : i < n) : (lf n f)[i]? = some (f i) := by
  unfold lf
  rw [List.getElem?_map, List.getElem?_range h]
  rfl
theorem lf_succ : lf (n + 1) f = lf n f ++ [f n] := by unfold lf; rw [List.range_succ, List.map_append]; rfl
end
section
variable {s : Sto} {ws us : List Dv} {x y : Ob} {v w w' : Dv} {ρ : Env} {f g : FE}
def Cl (s : Sto) : Prop := ∀ n, s.all (Ob.clean n) = true
theorem at_s : (s ++ [x])[s.length]? = some x := by
  rw [List.getElem?_append_right (Nat.le_refl _), Nat.sub_self]
  rfl
theorem set_s : (s ++ [x]).set s.length y = s ++ [y] := by
  rw [List.set_append_right _ _ (Nat.le_refl _), Nat.sub_self]
  rfl
theorem fin_sn {us : Sto} (hs : Cl s) (h0 : us ≠ []) (h : fz 4 (s ++ us) s.length w = some w') : finC s.length (.rt w (s ++ us)) = .ok w' s := by
  show finW s.length w (s ++ us) = _
  have hl : us.length ≠ 0 := fun z => h0 (List.length_eq_zero_iff.mp z)
  unfold finW
  rw [if_neg (by rw [List.length_append]; omega), List.take_left' rfl, if_pos (hs _), h]
theorem fz_ref {us : Sto} {i k : Nat} (h : us[i]? = some (.lst ws)) (hc : mapO (fz k (s ++ us) s.length) ws = some us') : fz (k + 1) (s ++ us) s.length (.ref (s.length + i)) = some (.lst us') := by
  unfold fz
  rw [if_neg (by show ¬ (decide (s.length + i < s.length) = true); simp)]
  have e : (s ++ us)[s.length + i]? = some (.lst ws) := by
    rw [List.getElem?_append_right (by omega), Nat.add_sub_cancel_left, h]
  dsimp only
  rw [e]
  dsimp only
  rw [hc]
  rfl
theorem fz_ref0 {us : Sto} {k : Nat} {us' : List Dv} (h : us[0]? = some (.lst ws)) (hc : mapO (fz k (s ++ us) s.length) ws = some us') : fz (k + 1) (s ++ us) s.length (.ref s.length) = some (.lst us') := fz_ref (i := 0) h hc
theorem fin_I {acc : List Int} (hs : Cl s) : finC s.length (.rt (.ref s.length) (s ++ [.lst (acc.map .int)])) = .ok (lI acc) s := fin_sn hs (by simp) (fz_ref0 rfl (fz_ints acc))
theorem app_s (hl : ws.length < 1000000) (h : f ρ (s ++ [.lst ws]) = .ok (.ref s.length) (s ++ [.lst ws])) (hg : g ρ (s ++ [.lst ws]) = .ok v (s ++ [.lst ws])) : mApp f g ρ (s ++ [.lst ws]) = .ok .non (s ++ [.lst (ws ++ [v])]) := by
  rw [app_v h at_s hg at_s (by unfold lim; omega), set_s]
theorem ixA_list (h : lstOrSq s v = some ws) {i : Int} {w : Dv} (hi : atI ws i = some w) : ixA s v (.int i) = some w := by
  have e : ixL s v (.int i) = some w := by
    show (lstOrSq s v).bind (fun ws => atI ws i) = _
    rw [h]
    exact hi
  show orO (orO ixL ixT) ixD s v (.int i) = _
  unfold orO
  rw [e]
theorem ref_list {k : Nat} (h : s[k]? = some (.lst ws)) : lstOrSq s (.ref k) = some ws := by
  show (match s[k]? with | some (.lst ws) => some ws | _ => none) = _
  rw [h]
theorem atI_nat {i : Nat} (h : ws[i]? = some w) : atI ws (i : Int) = some w := by
  have hl := (List.getElem?_eq_some_iff.mp h).1
  unfold atI ixN
  rw [if_pos (by omega), if_pos (by omega)]
  show ws[(i : Int).toNat]? = _
  rw [Int.toNat_natCast]
  exact h
end
end MP.PG
set_option Elab.async false
set_option linter.all false
set_option maxRecDepth 100000
set_option maxHeartbeats 1000000
namespace MP.PG
open PySem PySem.Spec MP
open PyProof.Rows hiding St
open L2 hiding St r1
section
variable {s : Sto} {ρ : Env}
/-- the index of bits of which so many are ones -/
def idb (rs : List Int) (k : Nat) : Int := (rs.reverse.take k).sum
theorem idb_succ {rs : List Int} {k : Nat} {w : Int} (h : rs.reverse[k]? = some w) : idb rs (k + 1) = idb rs k + w := by
  unfold idb
  rw [List.take_succ, h, List.sum_append]
  show _ + (w + 0) = _
  omega
theorem told_ok {rs : List Int} (hs : Cl s) (hr : rs.length ≤ 1000) : g_indexes_by_ones [tI rs] s = .ok (lI (lf (rs.length + 1) (idb rs))) s := by
  have e0 : startD 3 [tI rs] = [some (tI rs), none, none] := rfl
  have e1 : mAsg (mLstM (mCons (mK (.int 0)) mNil)) (gN 1) [some (tI rs), none, none] s = .nx [some (tI rs), some (.ref s.length), none] (s ++ [.lst ((lf 1 (idb rs)).map .int)]) := by
    rw [asgN_ev, lstM_ev, cons_v k_ev nil_ev, bind_ok, if_pos (by show 1 ≤ lim; unfold lim; decide), then_ok]
    rfl
  have hF : F_indexes_by_ones_1 [some (tI rs), some (.ref s.length), none] (s ++ [.lst ((lf 1 (idb rs)).map .int)]) = .ok { ws := rs.reverse.map .int } (s ++ [.lst ((lf 1 (idb rs)).map .int)]) := by
    unfold F_indexes_by_ones_1 iSeq
    have : mRev (mVar 0) [some (tI rs), some (.ref s.length), none] (s ++ [.lst ((lf 1 (idb rs)).map .int)]) = .ok (.tup (rs.map .int).reverse) (s ++ [.lst ((lf 1 (idb rs)).map .int)]) := rfl
    rw [this, bind_ok, ← List.map_reverse]
    rfl
  obtain ⟨ρ', s', f1, rfl, z, rfl⟩ := for_ix (g := t_indexes_by_ones_1) (body := b_indexes_by_ones_1)
    (fun i ρ s' => s' = s ++ [.lst ((lf (i + 1) (idb rs)).map .int)] ∧ ∃ z, ρ = [some (tI rs), some (.ref s.length), z]) hF ⟨rfl, _, rfl⟩ fun i x ρ s' hx hJ => by
      obtain ⟨rfl, z, rfl⟩ := hJ
      rw [List.getElem?_map] at hx
      cases hq : rs.reverse[i]? with
      | none => rw [hq] at hx; cases hx
      | some w =>
        rw [hq] at hx
        cases hx
        have hi : i < rs.length := by have := (List.getElem?_eq_some_iff.mp hq).1; rwa [List.length_reverse] at this
        refine ⟨[some (tI rs), some (.ref s.length), some (.int w)], [some (tI rs), some (.ref s.length), some (.int w)], s ++ [.lst ((lf (i + 1 + 1) (idb rs)).map .int)], rfl, .inl ?_, rfl, _, rfl⟩
        unfold b_indexes_by_ones_1
        have hl : mBin ixA (mVar 1) (mUn negD (mK (.int 1))) [some (tI rs), some (.ref s.length), some (.int w)] (s ++ [.lst ((lf (i + 1) (idb rs)).map .int)]) = .ok (.int (idb rs i)) (s ++ [.lst ((lf (i + 1) (idb rs)).map .int)]) := by
          refine bin_v (x := .ref s.length) (y := .int (-1)) rfl (un_v k_ev neg_ev) (ixA_list (ref_list at_s) ?_)
          rw [lf_succ, List.map_append]
          exact atI_last _ _
        rw [expr_v (app_s (v := .int (idb rs (i + 1))) (by rw [List.length_map, lf_len]; omega) rfl (bin_v hl (y := .int w) rfl (by rw [idb_succ hq]; exact add_ii))), lf_succ (n := i + 1), List.map_append]
        rfl
  rw [List.length_map, List.length_reverse] at f1
  unfold g_indexes_by_ones d_indexes_by_ones
  rw [den_ev, e0]
  refine fin_nx e1 (fin_nx f1 ?_)
  rw [ret_v (w := .ref s.length) rfl]
  exact fin_I hs
def pop : Nat → Nat
  | 0 => 0
  | n + 1 => (n + 1) % 2 + pop ((n + 1) / 2)
theorem pop_0 : pop 0 = 0 := by simp [pop]
theorem pop_eq (n : Nat) : pop n = n % 2 + pop (n / 2) := by
  cases n with
  | zero => simp [pop]
  | succ n => rw [pop]
end
end MP.PG
set_option Elab.async false
set_option linter.all false
set_option maxRecDepth 100000
set_option maxHeartbeats 1000000
namespace MP.PG
open PySem PySem.Spec MP
open PyProof.Rows hiding St
open L2 hiding St r1
end MP.PG
set_option Elab.async false
set_option linter.all false
set_option maxRecDepth 100000
set_option maxHeartbeats 1000000
namespace MP.PG
open PySem PySem.Spec MP
open PyProof.Rows hiding St
open L2 hiding St r1
section
abbrev toI (bs : List Nat) : List Int := bs.map fun b : Nat => (b : Int)
def Bits01 (bs : List Nat) : Prop := ∀ b ∈ bs, b < 2
/-- the number of bits, the last one ahead -/
def rnum : List Nat → Nat
  | [] => 0
  | b :: r => 2 * rnum r + b
def num (bs : List Nat) : Nat := rnum bs.reverse
theorem pop_rnum : ∀ {r : List Nat}, Bits01 r → pop (rnum r) = r.sum
  | [], _ => pop_0
  | b :: r, h => by
    have h0 := h b List.mem_cons_self
    unfold rnum
    rw [pop_eq, show (2 * rnum r + b) % 2 = b by omega, show (2 * rnum r + b) / 2 = rnum r by omega, pop_rnum fun c hc => h c (List.mem_cons_of_mem _ hc), List.sum_cons]
theorem pop_num {bs : List Nat} (h : Bits01 bs) : pop (num bs) = bs.sum := by
  unfold num
  rw [pop_rnum fun c hc => h c (List.mem_reverse.mp hc), List.sum_reverse]
theorem ins_0 : ∀ {z c : Nat}, ins 0 (List.replicate z (0 : Int) ++ List.replicate c 1) = List.replicate (z + 1) 0 ++ List.replicate c 1
  | 0, 0 => rfl
  | 0, c + 1 => by
    show ins 0 (1 :: List.replicate c 1) = _
    unfold ins
    rw [if_pos (by decide)]
    rfl
  | z + 1, c => by
    show ins 0 (0 :: (List.replicate z 0 ++ List.replicate c 1)) = _
    unfold ins
    rw [if_pos (by decide)]
    rfl
theorem ins_1 : ∀ {z c : Nat}, ins 1 (List.replicate z (0 : Int) ++ List.replicate c 1) = List.replicate z 0 ++ List.replicate (c + 1) 1
  | 0, 0 => rfl
  | 0, c + 1 => by
    show ins 1 (1 :: List.replicate c 1) = _
    unfold ins
    rw [if_pos (by decide)]
    rfl
  | z + 1, c => by
    show ins 1 (0 :: (List.replicate z 0 ++ List.replicate c 1)) = _
    unfold ins
    rw [if_neg (by decide), ins_1]
    rfl
theorem srt_bits : ∀ {bs : List Nat}, Bits01 bs → srt (toI bs) = List.replicate (bs.length - bs.sum) 0 ++ List.replicate bs.sum 1 ∧ bs.sum ≤ bs.length
  | [], _ => ⟨rfl, Nat.le_refl _⟩
  | b :: bs, h => by
    obtain ⟨h1, h2⟩ := srt_bits (bs := bs) fun c hc => h c (List.mem_cons_of_mem _ hc)
    have e : srt (toI (b :: bs)) = ins (b : Int) (srt (toI bs)) := rfl
    rw [e, h1, List.length_cons, List.sum_cons]
    rcases (by have := h b List.mem_cons_self; omega : b = 0 ∨ b = 1) with rfl | rfl
    · refine ⟨?_, by omega⟩
      show ins 0 _ = _
      rw [ins_0, show bs.length + 1 - (0 + bs.sum) = bs.length - bs.sum + 1 by omega, Nat.zero_add]
    · refine ⟨?_, by omega⟩
      show ins 1 _ = _
      rw [ins_1, show bs.length + 1 - (1 + bs.sum) = bs.length - bs.sum by omega, Nat.add_comm 1]
theorem dot_01 : ∀ {rs : List Int} {z c : Nat}, rs.length = z + c → dot rs (List.replicate z 0 ++ List.replicate c 1) = (rs.drop z).sum
  | [], z, c, h => by
    have hz : z = 0 := by simp at h; omega
    have hc : c = 0 := by simp at h; omega
    subst hz hc
    rfl
  | r :: rs, 0, c, h => by
    obtain ⟨c, rfl⟩ : ∃ d, c = d + 1 := ⟨c - 1, by simp at h; omega⟩
    have ih := dot_01 (rs := rs) (z := 0) (c := c) (by simp at h; omega)
    show dot (r :: rs) (1 :: List.replicate c 1) = _
    rw [dot_cons]
    have ih' : dot rs (List.replicate c 1) = rs.sum := ih
    rw [ih', List.drop_zero, List.sum_cons]
    omega
  | r :: rs, z + 1, c, h => by
    show dot (r :: rs) (0 :: (List.replicate z 0 ++ List.replicate c 1)) = _
    rw [dot_cons, dot_01 (by simp at h; omega), List.drop_succ_cons]
    omega
theorem idb_drop {rs : List Int} {c : Nat} (h : c ≤ rs.length) : idb rs c = (rs.drop (rs.length - c)).sum := by
  unfold idb
  rw [List.take_reverse, List.sum_reverse]
/-- the index of bits -/
theorem dot_bits {rs : List Int} {bs : List Nat} (h : Bits01 bs) (hl : bs.length = rs.length) : dot rs (srt (toI bs)) = idb rs (pop (num bs)) := by
  obtain ⟨h1, h2⟩ := srt_bits h
  rw [h1, dot_01 (by omega), pop_num h, idb_drop (by omega), hl]
variable {o : Int} {ts : List Term}
end
end MP.PG
set_option Elab.async false
set_option linter.all false
set_option maxRecDepth 100000
set_option maxHeartbeats 1000000
namespace MP.PG
open PySem PySem.Spec MP
open PyProof.Rows hiding St
open L2 hiding St r1
section
variable {s : Sto}
/-- ints that go into a product -/
def Fit (rs : List Int) : Prop := rs.length ≤ 1000 ∧ ∀ r ∈ rs, -1000000 ≤ r ∧ r ≤ 1000000
theorem Fit.of {rs : List Int} (h : Rule rs) : Fit rs := ⟨by have := h.six; omega, fun r hr => by have := h.ok r hr; omega⟩
theorem law_sum_ok {rs ns : List Int} (h : Fit rs) (hl : ns.length ≤ 1000) : g__law_sum [tI rs, tI ns] s = .ok (.int (dot rs (srt ns))) s := by
  have e0 : startD 4 [tI rs, tI ns] = [some (tI rs), some (tI ns), none, none] := rfl
  have hF : cF__law_sum_1 [some (tI rs), some (tI ns), none, none] s = .ok { ws := (rs.zip (srt ns)).map fun p => .tup [.int p.1, .int p.2] } s := by
    rw [← zip_ints]
    have h1 : mCons (mVar 0) (mCons (mBlt sortedA (mCons (mVar 1) mNil)) mNil) [some (tI rs), some (tI ns), none, none] s = .ok [tI rs, lI (srt ns)] s := cons_v rfl (cons_v (blt_v (cons_v (w := tI ns) rfl nil_ev) sorted_TI) nil_ev)
    show iZip2 _ _ _ = _
    unfold iZip2
    rw [h1]
    rfl
  have c1 : mComp cF__law_sum_1 [2, 3] ct__law_sum_1 ci__law_sum_1 ce__law_sum_1 [some (tI rs), some (tI ns), none, none] s = .ok (lI ((rs.zip (srt ns)).map fun p => p.1 * p.2)) s := by
    have := comp_mapA (vs := [2, 3]) (g := ct__law_sum_1) (elt := ce__law_sum_1) (fun p : Int × Int => Dv.int (p.1 * p.2)) hF (by rw [List.length_zip]; have := h.1; unfold lim; omega) fun p hp => ⟨[some (tI rs), some (tI ns), some (.int p.1), some (.int p.2)], rfl, by
      have hb := h.2 p.1 (List.of_mem_zip hp).1
      exact bin_v (x := .int p.1) (y := .int p.2) rfl rfl (mul_ii (cm_l ⟨by omega, by omega⟩))⟩
    rw [lI, List.map_map]
    exact this
  unfold g__law_sum d__law_sum
  rw [den_ev, e0, ret_v (w := .int (dot rs (srt ns))) (blt_v (cons_v c1 nil_ev) (by
    rw [lI, sum_LI]
    rfl))]
  exact finC_rt
/-- all rows of so many marks -/
def allR (marks : List Int) : Nat → List (List Int)
  | 0 => [[]]
  | n + 1 => (allR marks n).flatMap fun r => marks.map fun m => r ++ [m]
theorem allR_len {marks : List Int} : ∀ {n : Nat} {r : List Int}, r ∈ allR marks n → r.length = n
  | 0, r, h => by rw [List.mem_singleton.mp h]; rfl
  | n + 1, r, h => by
    obtain ⟨q, hq, hr⟩ := List.mem_flatMap.mp h
    obtain ⟨m, _, rfl⟩ := List.mem_map.mp hr
    rw [List.length_append, allR_len hq]
    rfl
theorem sum_const {α : Type} {c : Nat} : ∀ l : List α, (l.map fun _ => c).sum = l.length * c
  | [] => by simp
  | _ :: l => by
    rw [List.map_cons, List.sum_cons, sum_const l, List.length_cons, Nat.succ_mul, Nat.add_comm]
theorem allR_count {marks : List Int} : ∀ n, (allR marks n).length = marks.length ^ n
  | 0 => rfl
  | n + 1 => by
    show ((allR marks n).flatMap fun r => marks.map fun m => r ++ [m]).length = _
    rw [List.length_flatMap, Nat.pow_succ, ← allR_count n]
    simp only [List.length_map]
    exact sum_const _
theorem law_all_ok {marks : List Int} {n : Nat} (hm : 1 ≤ marks.length) (hb : marks.length ^ n ≤ 100000) (hn : n ≤ 1000) (M : Dv) (hM : M = tI marks ∨ M = lI marks) : g__law_all [M, .int (n : Int)] s = .ok (.lst ((allR marks n).map tI)) s := by
  let E (x2 x3 x4 x5 x6 : Option Dv) : Env := [some M, some (.int (n : Int)), x2, x3, x4, x5, x6]
  have e0 : startD 7 [M, .int (n : Int)] = E none none none none none := rfl
  have c1 : mAsg (mLst (mCons (mTup mNil) mNil)) (gN 2) (E none none none none none) s = .nx (E (some (.lst ((allR marks 0).map tI))) none none none none) s := rfl
  have cnt : ∀ i, i ≤ n → (allR marks i).length ≤ 100000 := fun i hi => by
    rw [allR_count]
    exact Nat.le_trans (Nat.pow_le_pow_right hm hi) hb
  obtain ⟨ρ', s', f1, x3, x4, x5, x6, hr, hs⟩ := for_ix (F := F__law_all_2) (g := t__law_all_2) (body := b__law_all_2) (ρ := E (some (.lst ((allR marks 0).map tI))) none none none none) (s := s) (s1 := s) (xs := rng 0 n)
    (fun i ρ s' => ∃ x3 x4 x5 x6, ρ = E (some (.lst ((allR marks i).map tI))) x3 x4 x5 x6 ∧ s' = s) (range1_ok (j := (n : Int)) (cons_v (w := .int (n : Int)) rfl nil_ev) (okR_s (by omega) (by omega))) ⟨_, _, _, _, rfl, rfl⟩ fun i x ρ s' hx ⟨x3, x4, x5, x6, hr, hs⟩ => by
      subst hr hs
      obtain ⟨hi, rfl⟩ := rng_get hx
      have hi' : i < n := by simpa using hi
      let L : Nat → List (List Int) := fun j => ((allR marks i).take j).flatMap fun r => marks.map fun m => r ++ [m]
      have b1 : mAsg (mLst mNil) (gN 4) (E (some (.lst ((allR marks i).map tI))) (some (.int (0 + (i : Int)))) x4 x5 x6) s' = .nx (E (some (.lst ((allR marks i).map tI))) (some (.int (0 + (i : Int)))) (some (.lst ((L 0).map tI))) x5 x6) s' := rfl
      obtain ⟨ρ2, s2, g1, y5, y6, hr2, hs2⟩ := for_ix (F := F__law_all_1) (g := t__law_all_1) (body := b__law_all_1) (ρ := E (some (.lst ((allR marks i).map tI))) (some (.int (0 + (i : Int)))) (some (.lst ((L 0).map tI))) x5 x6) (s := s') (s1 := s') (xs := (allR marks i).map tI)
        (fun j ρ s2 => ∃ y5 y6, ρ = E (some (.lst ((allR marks i).map tI))) (some (.int (0 + (i : Int)))) (some (.lst ((L j).map tI))) y5 y6 ∧ s2 = s') rfl ⟨_, _, rfl, rfl⟩ fun j x ρ s2 hx ⟨y5, y6, hr, hs⟩ => by
          subst hr hs
          rw [List.getElem?_map] at hx
          obtain ⟨r, hr, rfl⟩ := Option.map_eq_some_iff.mp hx
          have hrm : r ∈ allR marks i := List.mem_of_getElem? hr
          have hrl := allR_len hrm
          have hL : L (j + 1) = L j ++ marks.map fun m => r ++ [m] := by
            show ((allR marks i).take (j + 1)).flatMap _ = _
            rw [List.take_succ, hr, List.flatMap_append]
            simp [L]
          have hLl : ∀ j, (L j).length ≤ 100000 := fun j => by
            have h1 : (L j).length ≤ (allR marks (i + 1)).length := by
              show (((allR marks i).take j).flatMap _).length ≤ ((allR marks i).flatMap _).length
              rw [List.length_flatMap, List.length_flatMap]
              simp only [List.length_map]
              rw [sum_const, sum_const, List.length_take]
              exact Nat.mul_le_mul_right _ (Nat.min_le_right _ _)
            exact Nat.le_trans h1 (cnt _ hi')
          refine ⟨E (some (.lst ((allR marks i).map tI))) (some (.int (0 + (i : Int)))) (some (.lst ((L j).map tI))) (some (tI r)) y6, E (some (.lst ((allR marks i).map tI))) (some (.int (0 + (i : Int)))) (some (.lst ((L (j + 1)).map tI))) (some (tI r)) y6, s2, rfl, .inl ?_, _, _, rfl, rfl⟩
          have hc : mComp cF__law_all_1 [6] ct__law_all_1 ci__law_all_1 ce__law_all_1 (E (some (.lst ((allR marks i).map tI))) (some (.int (0 + (i : Int)))) (some (.lst ((L j).map tI))) (some (tI r)) y6) s2 = .ok (.lst (marks.map fun m => tI (r ++ [m]))) s2 := by
            refine comp_mapA (e := Dv.int) (fun m : Int => tI (r ++ [m])) ?_ ?_ fun m _ => ⟨E (some (.lst ((allR marks i).map tI))) (some (.int (0 + (i : Int)))) (some (.lst ((L j).map tI))) (some (tI r)) (some (.int m)), rfl, ?_⟩
            · rcases hM with rfl | rfl <;> rfl
            · have := hLl (j + 1)
              have h2 := Nat.le_trans (show marks.length ≤ marks.length ^ n from by
                have h3 : marks.length ^ 1 ≤ marks.length ^ n := Nat.pow_le_pow_right hm (by omega)
                rwa [Nat.pow_one] at h3) hb
              unfold lim
              omega
            · refine bin_v (x := tI r) (y := tI [m]) rfl rfl ?_
              show addD s2 (.tup (r.map .int)) (.tup [.int m]) = _
              rw [add_tup (by rw [List.length_map, hrl]; show i + 1 ≤ _; omega), tI, List.map_append]
              rfl
          have hm2 : marks.length ≤ 100000 := Nat.le_trans (by
            have h3 : marks.length ^ 1 ≤ marks.length ^ n := Nat.pow_le_pow_right hm (by omega)
            rwa [Nat.pow_one] at h3) hb
          refine asg_v (w := .lst ((L (j + 1)).map tI)) (bin_v (x := .lst ((L j).map tI)) (y := .lst (marks.map fun m => tI (r ++ [m]))) rfl hc ?_)
          rw [add_lst (by rw [List.length_map, List.length_map]; have := hLl j; omega), hL, List.map_append, List.map_map]
          rfl
      have hL1 : L (allR marks i).length = allR marks (i + 1) := by
        show ((allR marks i).take _).flatMap _ = _
        rw [List.take_length]
        rfl
      rw [hr2, hs2, List.length_map, hL1] at g1
      refine ⟨E (some (.lst ((allR marks i).map tI))) (some (.int (0 + (i : Int)))) x4 x5 x6, E (some (.lst ((allR marks (i + 1)).map tI))) (some (.int (0 + (i : Int)))) (some (.lst ((allR marks (i + 1)).map tI))) y5 y6, s', rfl, .inl ?_, _, _, _, _, rfl, rfl⟩
      unfold b__law_all_2
      exact seq_nx b1 (seq_nx g1 (asg_v (w := .lst ((allR marks (i + 1)).map tI)) rfl))
  rw [hr, hs, rng_len] at f1
  unfold g__law_all d__law_all
  rw [den_ev, e0]
  refine fin_nx c1 (fin_nx f1 ?_)
  rw [ret_v (w := .lst ((allR marks n).map tI)) rfl]
  exact finC_rt
end
end MP.PG
set_option Elab.async false
set_option linter.all false
set_option maxRecDepth 100000
set_option maxHeartbeats 1000000
namespace MP.PG
open PySem PySem.Spec MP
open PyProof.Rows hiding St
open L2 hiding St r1
def runL {α σ : Type} (step : σ → α → Dv ⊕ σ) : σ → List α → Dv ⊕ σ
  | st, [] => .inr st
  | st, a :: l => match step st a with
    | .inl w => .inl w
    | .inr st' => runL step st' l
def Ran {σ : Type} (Rel : σ → Env → Prop) (s : Sto) : Dv ⊕ σ → C → Prop
  | .inl w, c => c = .rt w s
  | .inr st, c => ∃ ρ', c = .nx ρ' s ∧ Rel st ρ'
section
variable {α σ : Type} {g : FG} {body : FS} {s : Sto}
theorem forL_run {e : α → Dv} (Rel : σ → Env → Prop) (step : σ → α → Dv ⊕ σ) : ∀ (l : List α) (st : σ) (ρ : Env), (∀ a ∈ l, ∀ st ρ, Rel st ρ → ∃ ρ1, g (e a) ρ s = some ρ1 ∧ Ran Rel s (step st a) (body ρ1 s)) → Rel st ρ → Ran Rel s (runL step st l) (forL none g body (l.map e) ρ s)
  | [], st, ρ, _, j => ⟨ρ, by unfold forL; rfl, j⟩
  | a :: l, st, ρ, h, j => by
    obtain ⟨ρ1, h1, h2⟩ := h a List.mem_cons_self st ρ j
    rw [List.map_cons]
    unfold runL forL
    rw [if_pos (.inl rfl), h1]
    cases hs : step st a with
    | inl w =>
      rw [hs] at h2
      have h3 : body ρ1 s = .rt w s := h2
      simp only [h3]
      rfl
    | inr st' =>
      rw [hs] at h2
      obtain ⟨ρ2, h3, h4⟩ := h2
      simp only [h3]
      exact forL_run Rel step l st' ρ2 (fun b hb => h b (List.mem_cons_of_mem _ hb)) h4
theorem for_run {F : FI} {l : List α} {e : α → Dv} {ρ : Env} {s0 : Sto} (Rel : σ → Env → Prop) (step : σ → α → Dv ⊕ σ) (st : σ) (hF : F ρ s0 = .ok { ws := l.map e } s) (j : Rel st ρ)
    (h : ∀ a ∈ l, ∀ st ρ, Rel st ρ → ∃ ρ1, g (e a) ρ s = some ρ1 ∧ Ran Rel s (step st a) (body ρ1 s)) : Ran Rel s (runL step st l) (mFor F g body ρ s0) := by
  unfold mFor
  rw [hF]
  exact forL_run Rel step l st ρ h j
end
section
variable {s : Sto} {rs os : List Int} {r : Nat}
theorem within_ok {i a b : Int} (h1 : a ≤ i) (h2 : i ≤ b) : g_is_int_within [.int i, .int a, .int b] s = .ok (.bl true) s := by
  rw [is_int_within_int, decide_eq_true h1, decide_eq_true h2]
  rfl
end
end MP.PG
set_option Elab.async false
set_option linter.all false
set_option maxRecDepth 100000
set_option maxHeartbeats 1000000
namespace MP.PG
open PySem PySem.Spec MP
open PyProof.Rows hiding St
open L2 hiding St r1
section
variable {s : Sto}
theorem need_row_ok {ns : List Int} (h : Row ns) (s : Sto) : g_need_row [tI ns] s = .ok (tI ns) s := by
  have h1 := h.most
  simp [g_need_row, d_need_row, is_tuple_tup, first_in ns _ _ _ h.ok, show (ns.length : Int) ≤ 200 by omega]
theorem need_row_of_ok {ns : List Int} (h : Row ns) {k : Int} (hk : k ≤ ns.length) (s : Sto) : g_need_row_of [tI ns, .int k] s = .ok (tI ns) s := by
  simp [g_need_row_of, d_need_row_of, need_row_ok h, show ¬ ((ns.length : Int) < k) by omega]
theorem index_of_ok {rs ns : List Int} (h : Rule rs) (hn : ns.length ≤ 200) (hl : rs.length ≤ ns.length) (s : Sto) : g_index_of [tI rs, tI ns] s = .ok (.int (idx rs ns)) s := by
  have h0 : 0 < rs.length := h.one
  have hc : mComp cF_index_of_1 [3, 4] ct_index_of_1 ci_index_of_1 ce_index_of_1 [some (tI rs), some (tI ns), some (lI (srt (last rs.length ns))), none, none] s = .ok (.lst ((rs.zip (srt (last rs.length ns))).map fun p => .int (p.1 * p.2))) s := by
    refine comp_mapA (e := fun p : Int × Int => .tup [.int p.1, .int p.2]) _ ?_ ?_ fun p hp => ?_
    · show R.ok (α := Src) { ws := zipD _ _ } s = _
      rw [zip_ints]
    · have := List.length_zip (l₁ := rs) (l₂ := srt (last rs.length ns))
      have := h.six
      unfold lim
      omega
    · refine ⟨[some (tI rs), some (tI ns), some (lI (srt (last rs.length ns))), some (.int p.1), some (.int p.2)], rfl, ?_⟩
      have hb := h.ok p.1 (List.of_mem_zip (a := p.1) (b := p.2) hp).1
      simp [ce_index_of_1, mul_ii (cm_l (j := p.2) ⟨show -(2 ^ 64) < p.1 by omega, show p.1 < 2 ^ 64 by omega⟩)]
  have hd : cutD (ns.map .int) (some (-(rs.length : Int))) none = (last rs.length ns).map .int := by
    rw [cut_last (by rw [List.length_map]; exact hl) h0, List.length_map, ← List.map_drop]
    rfl
  have e : ((rs.zip (srt (last rs.length ns))).map fun p => Dv.int (p.1 * p.2)) = ((rs.zip (srt (last rs.length ns))).map fun p => p.1 * p.2).map .int := by rw [List.map_map]; rfl
  rw [e] at hc
  simp [-List.map_map, g_index_of, d_index_of, hd, hc]
  rfl
theorem is_result_ok {i : Int} (h0 : 0 ≤ i) (h1 : i ≤ 1000000) : g_is_result [.int i] s = .ok (.bl true) s := by
  simp [g_is_result, d_is_result, within_ok (s := s) (i := i) (a := 0) (b := 1000000) h0 h1]
theorem need_rounds_ok {n : Nat} (h : n ≤ 200) : g_need_rounds [.int (n : Int)] s = .ok (.int (n : Int)) s := by
  simp [g_need_rounds, d_need_rounds, within_ok (s := s) (i := (n : Int)) (a := 0) (b := 200) (by omega) (by omega)]
theorem need_ahead_ok {rs ns : List Int} {most : Int} (hr : Rule rs) (hn : Row ns) (hl : rs.length ≤ ns.length) (h0 : 0 ≤ most) (h1 : most ≤ 1000000) : g_need_ahead [tI rs, tI ns, .int most] s = .ok .non s := by
  let E : Env := [some (tI rs), some (tI ns), some (.int most)]
  have e0 : startD 3 [tI rs, tI ns, .int most] = E := rfl
  unfold g_need_ahead d_need_ahead
  rw [den_ev, e0]
  have c1 : mCall (g_need_rule) (mCons (mVar 0) mNil) E s = .ok (tI rs) s := call_v (cons_v (w := tI rs) rfl nil_ev) (need_rule_ok hr s)
  have c2 : mCall (g_need_row_of) (mCons (mVar 1) (mCons (mBlt lenD (mCons (mVar 0) mNil)) mNil)) E s = .ok (tI ns) s := call_v (cons_v (w := tI ns) rfl (cons_v (w := .int (rs.length : Int)) (blt_v (cons_v (w := tI rs) rfl nil_ev) (by rw [tI, len_tup, List.length_map])) nil_ev)) (need_row_of_ok hn (by omega) s)
  have c3 : mTest (mCall (g_is_result) (mCons (mVar 2) mNil)) E s = .ok true s := test_v (call_v (cons_v (w := .int most) rfl nil_ev) (is_result_ok h0 h1))
  refine fin_nx (ρ1 := E) (s1 := s) (expr_v c1) (fin_nx (ρ1 := E) (s1 := s) (expr_v c2) ?_)
  rw [ifS_f (not_vt c3)]
  exact finC_nx
theorem compN1_map {α : Type} {vs : List Nat} {g : FG} {elt : FE} {ρ : Env} {e φ : α → Dv} : ∀ l : List α, (∀ a ∈ l, ∃ ρ1, g (e a) (wipeD ρ vs) s = some ρ1 ∧ elt ρ1 s = .ok (φ a) s) → compN1 none vs g elt ρ (l.map e) s = some (l.map φ, s)
  | [], _ => by rw [List.map_nil]; simp [compN1]
  | a :: l, h => by
    obtain ⟨ρ1, h1, h2⟩ := h a List.mem_cons_self
    have ih := compN1_map l fun b hb => h b (List.mem_cons_of_mem _ hb)
    simp [compN1, h1, h2, ih]
theorem compNx_flat {α : Type} {inner : Env → Sto → Option (List Dv × Sto)} {vs : List Nat} {g : FG} {ρ : Env} {e : α → Dv} {φ : α → List Dv} : ∀ l : List α, (∀ a ∈ l, ∃ ρ1, g (e a) (wipeD ρ vs) s = some ρ1 ∧ inner ρ1 s = some (φ a, s)) → compNx inner none vs g ρ (l.map e) s = some (l.flatMap φ, s)
  | [], _ => by rw [List.map_nil]; simp [compNx]
  | a :: l, h => by
    obtain ⟨ρ1, h1, h2⟩ := h a List.mem_cons_self
    have ih := compNx_flat l fun b hb => h b (List.mem_cons_of_mem _ hb)
    simp [compNx, h1, h2, ih]
theorem srcN_v {f : FI} {k : Option (Nat × List Dv) → Env → List Dv → Sto → Option (List Dv × Sto)} {ρ : Env} {ws : List Dv} (h : f ρ s = .ok { ws := ws } s) : srcN f k ρ s = k none ρ ws s := by
  unfold srcN
  rw [h]
theorem comp3_flat {α β γ : Type} {f f1 f2 : FI} {vs vs1 vs2 : List Nat} {g g1 g2 : FG} {elt : FE} {ρ : Env} {e : α → Dv} {e1 : β → Dv} {e2 : γ → Dv} {la : List α} {lb : List β} {lc : List γ} {φ : α → β → γ → Dv} (hf : f ρ s = .ok { ws := la.map e } s)
    (h : ∀ a ∈ la, ∃ ρ1, g (e a) (wipeD ρ vs) s = some ρ1 ∧ f1 ρ1 s = .ok { ws := lb.map e1 } s ∧ ∀ b ∈ lb, ∃ ρ2, g1 (e1 b) (wipeD ρ1 vs1) s = some ρ2 ∧ f2 ρ2 s = .ok { ws := lc.map e2 } s ∧ ∀ c ∈ lc, ∃ ρ3, g2 (e2 c) (wipeD ρ2 vs2) s = some ρ3 ∧ elt ρ3 s = .ok (φ a b c) s)
    (hl : (la.flatMap fun a => lb.flatMap fun b => lc.map fun c => φ a b c).length ≤ 1000000) : mComp3 f vs g f1 vs1 g1 f2 vs2 g2 elt ρ s = .ok (.lst (la.flatMap fun a => lb.flatMap fun b => lc.map fun c => φ a b c)) s := by
  have key := compNx_flat (s := s) (inner := inn1 f1 vs1 g1 f2 vs2 g2 elt) (vs := vs) (g := g) (ρ := ρ) (e := e) (φ := fun a => lb.flatMap fun b => lc.map fun c => φ a b c) la fun a ha => by
    obtain ⟨ρ1, h1, h2, h3⟩ := h a ha
    refine ⟨ρ1, h1, ?_⟩
    unfold inn1
    rw [srcN_v h2]
    refine compNx_flat lb fun b hb => ?_
    obtain ⟨ρ2, h4, h5, h6⟩ := h3 b hb
    refine ⟨ρ2, h4, ?_⟩
    unfold inn2
    rw [srcN_v h5]
    exact compN1_map lc h6
  unfold mComp3
  rw [hf, bind_ok]
  dsimp only
  rw [key]
  dsimp only
  rw [if_pos (by unfold lim; omega)]
end
end MP.PG
set_option Elab.async false
set_option linter.all false
set_option maxRecDepth 100000
set_option maxHeartbeats 1000000
namespace MP.PG
open PySem PySem.Spec MP
open PyProof.Rows hiding St
open L2 hiding St r1
def riI (rs : List Int) (f b l : Nat) : Int := idb rs (b + l) - idb rs (f + b)
def riD (rs : List Int) (f b l : Nat) : Dv := .tup [.int (riI rs f b l), tI [(f : Int), (b : Int), (l : Int)]]
/-- the triples in their order -/
def riT (w al : Nat) : List (Nat × Nat × Nat) := (List.range (al + 1)).flatMap fun f => (List.range (w - al + 1)).flatMap fun b => (List.range (al + 1)).map fun l => (f, b, l)
section
variable {s : Sto}
theorem min2_nat {a b : Nat} : min2D s [.int (a : Int), .int (b : Int)] = some (.int ((min a b : Nat) : Int)) := by
  show some (Dv.int (if (b : Int) < (a : Int) then (b : Int) else (a : Int))) = _
  congr 2
  split <;> omega
theorem ix_lfI {n k : Nat} {φ : Nat → Int} (hk : k < n) : ixA s (lI (lf n φ)) (.int (k : Int)) = some (.int (φ k)) :=
  ixA_list (ws := (lf n φ).map .int) rfl (MP.PG.atI_nat (by rw [List.getElem?_map, lf_get hk]; rfl))
theorem rises_ok {rs : List Int} {n : Nat} (hs : Cl s) (hr : Rule rs) : g_rises_of [tI rs, .int (n : Int)] s = .ok (.lst ((riT rs.length (min n rs.length)).map fun t => riD rs t.1 t.2.1 t.2.2)) s := by
  have h6 := hr.six
  let E (x2 x3 x4 x5 x6 : Option Dv) : Env := [some (tI rs), some (.int (n : Int)), x2, x3, x4, x5, x6]
  have e0 : startD 7 [tI rs, .int (n : Int)] = E none none none none none := rfl
  have ln : ∀ x2 x3 x4 x5 x6, mBlt lenD (mCons (mVar 0) mNil) (E x2 x3 x4 x5 x6) s = .ok (.int (rs.length : Int)) s := fun _ _ _ _ _ => blt_v (cons_v (w := tI rs) rfl nil_ev) (by rw [tI, len_tup, List.length_map])
  have hal : min n rs.length ≤ rs.length := Nat.min_le_right _ _
  have a1 : mAsg (mBlt min2D (mCons (mVar 1) (mCons (mBlt lenD (mCons (mVar 0) mNil)) mNil))) (gN 2) (E none none none none none) s = .nx (E (some (.int ((min n rs.length : Nat) : Int))) none none none none) s :=
    asg_v (w := .int ((min n rs.length : Nat) : Int)) (blt_v (cons_v (w := .int (n : Int)) rfl (cons_v (ln _ _ _ _ _) nil_ev)) min2_nat)
  generalize min n rs.length = al at a1 hal
  let A : Option Dv := some (.int (al : Int))
  let T : Option Dv := some (lI (lf (rs.length + 1) (idb rs)))
  have a2 : mAsg (mCall (g_indexes_by_ones) (mCons (mVar 0) mNil)) (gN 3) (E A none none none none) s = .nx (E A T none none none) s := asg_v (w := lI (lf (rs.length + 1) (idb rs))) (call_v (cons_v (w := tI rs) rfl nil_ev) (told_ok hs (by omega)))
  have rg : ∀ {fa : FA} {ρ : Env} (k : Nat), fa ρ s = .ok [.int ((k : Nat) : Int)] s → k ≤ 1000 → iRange1 fa ρ s = .ok { ws := (List.range k).map fun i : Nat => .int (i : Int) } s := fun k h hk => by
    refine (range1_ok (j := ((k : Nat) : Int)) h (okR_s (by omega) (by omega))).trans ?_
    rw [rng_ev, Int.toNat_natCast]
    simp only [Int.zero_add]
  have hc := comp3_flat (s := s) (f := cF0_rises_of_1) (f1 := cF1_rises_of_1) (f2 := cF2_rises_of_1) (vs := [4, 5, 6]) (vs1 := [5, 6]) (vs2 := [6]) (g := ct0_rises_of_1) (g1 := ct1_rises_of_1) (g2 := ct2_rises_of_1) (elt := ce_rises_of_1) (ρ := E A T none none none)
    (e := fun i : Nat => Dv.int (i : Int)) (e1 := fun i : Nat => Dv.int (i : Int)) (e2 := fun i : Nat => Dv.int (i : Int)) (la := List.range (al + 1)) (lb := List.range (rs.length - al + 1)) (lc := List.range (al + 1)) (φ := fun f b l => riD rs f b l)
    (rg (al + 1) (cons_v (bin_v (x := .int (al : Int)) (y := .int 1) rfl k_ev (by rw [add_ii]; rfl)) nil_ev) (by omega)) (fun f hf => ⟨E A T (some (.int (f : Int))) none none, rfl, rg (rs.length - al + 1) (cons_v (bin_v (x := .int ((rs.length - al : Nat) : Int)) (y := .int 1) (bin_v (x := .int (rs.length : Int)) (y := .int (al : Int)) (ln _ _ _ _ _) rfl (by rw [sub_ev, Int.natCast_sub hal])) k_ev (by rw [add_ii]; rfl)) nil_ev) (by omega), fun b hb => ⟨E A T (some (.int (f : Int))) (some (.int (b : Int))) none, rfl,
      rg (al + 1) (cons_v (bin_v (x := .int (al : Int)) (y := .int 1) rfl k_ev (by rw [add_ii]; rfl)) nil_ev) (by omega), fun l hl => ⟨E A T (some (.int (f : Int))) (some (.int (b : Int))) (some (.int (l : Int))), rfl, by
        have hf' := List.mem_range.mp hf
        have hb' := List.mem_range.mp hb
        have hl' := List.mem_range.mp hl
        have v1 : mBin ixA (mVar 3) (mBin addD (mVar 5) (mVar 6)) (E A T (some (.int (f : Int))) (some (.int (b : Int))) (some (.int (l : Int)))) s = .ok (.int (idb rs (b + l))) s := bin_v (x := lI (lf (rs.length + 1) (idb rs))) (y := .int ((b + l : Nat) : Int)) rfl (bin_v (x := .int (b : Int)) (y := .int (l : Int)) rfl rfl (by rw [add_ii, Int.natCast_add])) (ix_lfI (by omega))
        have v2 : mBin ixA (mVar 3) (mBin addD (mVar 4) (mVar 5)) (E A T (some (.int (f : Int))) (some (.int (b : Int))) (some (.int (l : Int)))) s = .ok (.int (idb rs (f + b))) s := bin_v (x := lI (lf (rs.length + 1) (idb rs))) (y := .int ((f + b : Nat) : Int)) rfl (bin_v (x := .int (f : Int)) (y := .int (b : Int)) rfl rfl (by rw [add_ii, Int.natCast_add])) (ix_lfI (by omega))
        have v3 : mTup (mCons (mVar 4) (mCons (mVar 5) (mCons (mVar 6) mNil))) (E A T (some (.int (f : Int))) (some (.int (b : Int))) (some (.int (l : Int)))) s = .ok (tI [(f : Int), (b : Int), (l : Int)]) s := rfl
        exact tup_v (cons_v (bin_v v1 v2 sub_ev) (cons_v v3 nil_ev)) (by show 2 ≤ 1000000; decide)⟩⟩⟩) (by
      have c1 : ∀ f : Nat, ((List.range (rs.length - al + 1)).flatMap fun b => (List.range (al + 1)).map fun l => riD rs f b l).length ≤ 7 * 7 := fun f => by
        rw [List.length_flatMap]
        have : ∀ l : List Nat, (l.map fun b => ((List.range (al + 1)).map fun l => riD rs f b l).length).sum ≤ l.length * 7 := fun l => by
          induction l with
          | nil => exact Nat.le_refl 0
          | cons x l ih =>
            rw [List.map_cons, List.sum_cons, List.length_map, List.length_range, List.length_cons, Nat.succ_mul]
            omega
        have h := this (List.range (rs.length - al + 1))
        rw [List.length_range] at h
        exact Nat.le_trans h (Nat.mul_le_mul (by omega) (Nat.le_refl 7))
      rw [List.length_flatMap]
      have : ∀ l : List Nat, (l.map fun f => ((List.range (rs.length - al + 1)).flatMap fun b => (List.range (al + 1)).map fun l => riD rs f b l).length).sum ≤ l.length * 49 := fun l => by
        induction l with
        | nil => exact Nat.le_refl 0
        | cons x l ih =>
          have := c1 x
          rw [List.map_cons, List.sum_cons, List.length_cons, Nat.succ_mul]
          omega
      have h := this (List.range (al + 1))
      rw [List.length_range] at h
      omega)
  have e : ((List.range (al + 1)).flatMap fun f => (List.range (rs.length - al + 1)).flatMap fun b => (List.range (al + 1)).map fun l => riD rs f b l) = (riT rs.length al).map fun t => riD rs t.1 t.2.1 t.2.2 := by
    unfold riT
    simp only [List.map_flatMap, List.map_map]
    rfl
  rw [e] at hc
  unfold g_rises_of d_rises_of
  rw [den_ev, e0]
  refine fin_nx a1 (fin_nx a2 ?_)
  exact (congrArg (finC _) (ret_v hc)).trans finC_rt
end
end MP.PG
set_option Elab.async false
set_option linter.all false
set_option maxRecDepth 100000
set_option maxHeartbeats 1000000
namespace MP.PG
open PySem PySem.Spec MP
open PyProof.Rows hiding St
open L2 hiding St r1
theorem intsOf_I : ∀ l : List Int, intsOf (l.map .int) = some l
  | [] => rfl
  | a :: l => by
    have := intsOf_I l
    unfold intsOf at this ⊢
    simp only [List.map_cons, mapO, this]
    rfl
section
variable {s : Sto}
theorem max_I {l : List Int} (h : l ≠ []) : maxLD s [lI l] = some (.int (maxO 0 l)) := by
  cases l with
  | nil => exact absurd rfl h
  | cons a l =>
    show (match intsOf ((a :: l).map .int) with
      | some (n :: ns) => some (Dv.int (maxO 0 (n :: ns)))
      | _ => none) = _
    rw [intsOf_I]
theorem maxO_in {l : List Int} (h : l ≠ []) : maxO 0 l ∈ l ∧ ∀ y ∈ l, y ≤ maxO 0 l := by
  cases l with
  | nil => exact absurd rfl h
  | cons a l =>
    obtain ⟨h1, h2⟩ := foldl_max_le l a
    exact ⟨foldl_max_mem l a, fun y hy => by
      rcases List.mem_cons.mp hy with rfl | hy
      · exact h1
      · exact h2 y hy⟩
def riL (rs : List Int) (n : Nat) : List (Nat × Nat × Nat) := riT rs.length (min n rs.length)
def riM (rs : List Int) (n : Nat) : Int := maxO 0 ((riL rs n).map fun t => riI rs t.1 t.2.1 t.2.2)
theorem riT_mem {w al f b l : Nat} : (f, b, l) ∈ riT w al ↔ f ≤ al ∧ b ≤ w - al ∧ l ≤ al := by
  unfold riT
  simp only [List.mem_flatMap, List.mem_map, List.mem_range, Prod.mk.injEq]
  constructor
  · rintro ⟨f', h1, b', h2, l', h3, rfl, rfl, rfl⟩
    omega
  · rintro ⟨h1, h2, h3⟩
    exact ⟨f, by omega, b, by omega, l, by omega, rfl, rfl, rfl⟩
theorem riL_ne {rs : List Int} {n : Nat} : riL rs n ≠ [] := fun h => by
  have : (0, 0, 0) ∈ riL rs n := riT_mem.mpr ⟨Nat.zero_le _, Nat.zero_le _, Nat.zero_le _⟩
  rw [h] at this
  cases this
theorem riL_len {rs : List Int} {n : Nat} (h : rs.length ≤ 6) : (riL rs n).length ≤ 1000 := by
  unfold riL riT
  have hal : min n rs.length ≤ rs.length := Nat.min_le_right _ _
  generalize min n rs.length = al at hal
  have c1 : ∀ f : Nat, ((List.range (rs.length - al + 1)).flatMap fun b => (List.range (al + 1)).map fun l => (f, b, l)).length ≤ 7 * 7 := fun f => by
    rw [List.length_flatMap]
    have : ∀ l : List Nat, (l.map fun b => ((List.range (al + 1)).map fun l => (f, b, l)).length).sum ≤ l.length * 7 := fun l => by
      induction l with
      | nil => exact Nat.le_refl 0
      | cons x l ih =>
        rw [List.map_cons, List.sum_cons, List.length_map, List.length_range, List.length_cons, Nat.succ_mul]
        omega
    have h := this (List.range (rs.length - al + 1))
    rw [List.length_range] at h
    exact Nat.le_trans h (Nat.mul_le_mul (by omega) (Nat.le_refl 7))
  rw [List.length_flatMap]
  have : ∀ l : List Nat, (l.map fun f => ((List.range (rs.length - al + 1)).flatMap fun b => (List.range (al + 1)).map fun l => (f, b, l)).length).sum ≤ l.length * 49 := fun l => by
    induction l with
    | nil => exact Nat.le_refl 0
    | cons x l ih =>
      have := c1 x
      rw [List.map_cons, List.sum_cons, List.length_cons, Nat.succ_mul]
      omega
  have h := this (List.range (al + 1))
  rw [List.length_range] at h
  omega
theorem rise_ok {rs : List Int} {n : Nat} (hs : Cl s) (hr : Rule rs) (hn : n ≤ 200) : g_rise [tI rs, .int (n : Int)] s = .ok (.int (riM rs n)) s := by
  let E (x2 x3 : Option Dv) : Env := [some (tI rs), some (.int (n : Int)), x2, x3]
  have e0 : startD 4 [tI rs, .int (n : Int)] = E none none := rfl
  have c1 : mCall (g_need_rule) (mCons (mVar 0) mNil) (E none none) s = .ok (tI rs) s := call_v (cons_v (w := tI rs) rfl nil_ev) (need_rule_ok hr s)
  have hF : cF_rise_1 (E none none) s = .ok { ws := (riL rs n).map fun t => riD rs t.1 t.2.1 t.2.2 } s := by
    have h : mCall (g_rises_of) (mCons (mVar 0) (mCons (mCall (g_need_rounds) (mCons (mVar 1) mNil)) mNil)) (E none none) s = .ok (.lst ((riL rs n).map fun t => riD rs t.1 t.2.1 t.2.2)) s :=
      call_v (cons_v (w := tI rs) rfl (cons_v (w := .int (n : Int)) (call_v (cons_v (w := .int (n : Int)) rfl nil_ev) (need_rounds_ok hn)) nil_ev)) (rises_ok hs hr)
    show iSeq _ _ _ = _
    unfold iSeq
    rw [h]
    rfl
  have hc := comp_mapA (vs := [2, 3]) (g := ct_rise_1) (elt := ce_rise_1) (fun t : Nat × Nat × Nat => Dv.int (riI rs t.1 t.2.1 t.2.2)) hF (by have := riL_len (rs := rs) (n := n) hr.six; unfold lim; omega) fun t _ => ⟨E (some (.int (riI rs t.1 t.2.1 t.2.2))) (some (tI [(t.1 : Int), (t.2.1 : Int), (t.2.2 : Int)])), rfl, rfl⟩
  have e : ((riL rs n).map fun t => Dv.int (riI rs t.1 t.2.1 t.2.2)) = ((riL rs n).map fun t => riI rs t.1 t.2.1 t.2.2).map .int := by rw [List.map_map]; rfl
  rw [e] at hc
  unfold g_rise d_rise
  rw [den_ev, e0]
  refine fin_nx (ρ1 := E none none) (s1 := s) (expr_v c1) ?_
  exact (congrArg (finC _) (ret_v (blt_v (cons_v hc nil_ev) (max_I (by simp [riL_ne]))))).trans finC_rt
theorem fall_ok {rs : List Int} {n : Nat} (hs : Cl s) (hr : Rule rs) (hn : n ≤ 200) : g_fall [tI rs, .int (n : Int)] s = .ok (.int (riM rs n)) s := by
  have e0 : startD 2 [tI rs, .int (n : Int)] = [some (tI rs), some (.int (n : Int))] := rfl
  unfold g_fall d_fall
  rw [den_ev, e0]
  exact (congrArg (finC _) (ret_v (call_v (cons_v (w := tI rs) rfl (cons_v (w := .int (n : Int)) rfl nil_ev)) (rise_ok hs hr hn)))).trans finC_rt
def fbits (a b : Nat) : List Int := List.replicate (a - b) 0 ++ List.replicate b 1
theorem mul_one_tup {w : Int} {k : Nat} (hk : k ≤ 1000) : mulD s (.tup [.int w]) (.int (k : Int)) = some (tI (List.replicate k w)) := by
  rw [mul_tup1 (by omega), tI, List.map_replicate]
theorem first_bits_ok {a b : Nat} (h : b ≤ a) (ha : a ≤ 400) : g_first_bits [.int (a : Int), .int (b : Int)] s = .ok (tI (fbits a b)) s := by
  let E : Env := [some (.int (a : Int)), some (.int (b : Int))]
  have e0 : startD 2 [.int (a : Int), .int (b : Int)] = E := rfl
  have tv : ∀ c : Int, mTup (mCons (mK (.int c)) mNil) E s = .ok (.tup [.int c]) s := fun c => rfl
  have v0 : mBin subD (mVar 0) (mVar 1) E s = .ok (.int ((a - b : Nat) : Int)) s := by
    refine bin_v (x := .int (a : Int)) (y := .int (b : Int)) rfl rfl ?_
    rw [sub_ev, Int.natCast_sub h]
  have v1 := bin_v (o := mulD) (tv 0) v0 (mul_one_tup (s := s) (w := 0) (k := a - b) (by omega))
  have v2 := bin_v (o := mulD) (tv 1) (show mVar 1 E s = .ok (.int (b : Int)) s from rfl) (mul_one_tup (s := s) (w := 1) (k := b) (by omega))
  have e : addD s (tI (List.replicate (a - b) 0)) (tI (List.replicate b 1)) = some (tI (fbits a b)) := by
    refine (add_tup (by rw [List.length_map, List.length_map, List.length_replicate, List.length_replicate]; omega)).trans ?_
    rw [← List.map_append]
    rfl
  unfold g_first_bits d_first_bits
  rw [den_ev, e0]
  exact (congrArg (finC _) (ret_v (bin_v v1 v2 e))).trans finC_rt
end
end MP.PG
set_option Elab.async false
set_option linter.all false
set_option maxRecDepth 100000
set_option maxHeartbeats 1000000
namespace MP.PG
open PySem PySem.Spec MP
open PyProof.Rows hiding St
open L2 hiding St r1
def riK (rs : List Int) (n : Nat) : List (Nat × Nat × Nat) := (riL rs n).filter fun t => decide (riI rs t.1 t.2.1 t.2.2 = riM rs n)
def riB (rs : List Int) (n : Nat) : Nat × Nat × Nat := (riK rs n).headD (0, 0, 0)
theorem riK_head {rs : List Int} {n : Nat} : (riK rs n)[0]? = some (riB rs n) ∧ riB rs n ∈ riL rs n ∧ riI rs (riB rs n).1 (riB rs n).2.1 (riB rs n).2.2 = riM rs n := by
  obtain ⟨h1, _⟩ := maxO_in (l := (riL rs n).map fun t => riI rs t.1 t.2.1 t.2.2) (by simp [riL_ne])
  obtain ⟨t, ht, e⟩ := List.mem_map.mp h1
  have hk : t ∈ riK rs n := List.mem_filter.mpr ⟨ht, decide_eq_true e⟩
  have hb : ∀ l : List (Nat × Nat × Nat), t ∈ l → l[0]? = some (l.headD (0, 0, 0)) ∧ l.headD (0, 0, 0) ∈ l := fun l hl => by
    cases l with
    | nil => cases hl
    | cons a l => exact ⟨rfl, List.mem_cons_self⟩
  obtain ⟨h2, h3⟩ := hb _ hk
  have h4 := List.mem_filter.mp h3
  exact ⟨h2, h4.1, of_decide_eq_true h4.2⟩
def rrow (rs : List Int) (n : Nat) : List Int := fbits (min n rs.length) (riB rs n).1 ++ fbits (rs.length - min n rs.length) (riB rs n).2.1 ++ List.replicate (n - min n rs.length) 0 ++ fbits (min n rs.length) (riB rs n).2.2
theorem fbits_len {a b : Nat} (h : b ≤ a) : (fbits a b).length = a := by unfold fbits; rw [List.length_append, List.length_replicate, List.length_replicate]; omega
theorem add_tI {s : Sto} {f g : FE} {ρ : Env} {ns ms : List Int} (hf : f ρ s = .ok (tI ns) s) (hg : g ρ s = .ok (tI ms) s) (h : ns.length + ms.length ≤ 1000) : mBin addD f g ρ s = .ok (tI (ns ++ ms)) s := by
  refine bin_v hf hg ((add_tup (by rw [List.length_map, List.length_map]; omega)).trans ?_)
  rw [← List.map_append]
section
variable {s : Sto}
theorem rise_row_ok {rs : List Int} {n : Nat} (hs : Cl s) (hr : Rule rs) (hn : n ≤ 200) : g_rise_row [tI rs, .int (n : Int)] s = .ok (tI (rrow rs n)) s := by
  have h6 := hr.six
  let E (x2 x3 x4 x5 x6 x7 x8 x9 : Option Dv) : Env := [some (tI rs), some (.int (n : Int)), x2, x3, x4, x5, x6, x7, x8, x9]
  have e0 : startD 10 [tI rs, .int (n : Int)] = E none none none none none none none none := rfl
  have ln : ∀ x2 x3 x4 x5 x6 x7 x8 x9, mBlt lenD (mCons (mVar 0) mNil) (E x2 x3 x4 x5 x6 x7 x8 x9) s = .ok (.int (rs.length : Int)) s := fun _ _ _ _ _ _ _ _ => blt_v (cons_v (w := tI rs) rfl nil_ev) (by rw [tI, len_tup, List.length_map])
  let Mo : Option Dv := some (.int (riM rs n))
  have a1 : mAsg (mCall (g_rise) (mCons (mVar 0) (mCons (mVar 1) mNil))) (gN 2) (E none none none none none none none none) s = .nx (E Mo none none none none none none none) s :=
    asg_v (w := .int (riM rs n)) (call_v (cons_v (w := tI rs) rfl (cons_v (w := .int (n : Int)) rfl nil_ev)) (rise_ok hs hr hn))
  obtain ⟨k1, k2, k3⟩ := riK_head (rs := rs) (n := n)
  have hb : (riB rs n).1 ≤ min n rs.length ∧ (riB rs n).2.1 ≤ rs.length - min n rs.length ∧ (riB rs n).2.2 ≤ min n rs.length := riT_mem.mp k2
  have hal : min n rs.length ≤ rs.length ∧ min n rs.length ≤ n := ⟨Nat.min_le_right _ _, Nat.min_le_left _ _⟩
  have hrr : rrow rs n = fbits (min n rs.length) (riB rs n).1 ++ fbits (rs.length - min n rs.length) (riB rs n).2.1 ++ List.replicate (n - min n rs.length) 0 ++ fbits (min n rs.length) (riB rs n).2.2 := rfl
  have a2 : mAsg (mBlt min2D (mCons (mVar 1) (mCons (mBlt lenD (mCons (mVar 0) mNil)) mNil))) (gN 3) (E Mo none none none none none none none) s = .nx (E Mo (some (.int ((min n rs.length : Nat) : Int))) none none none none none none) s :=
    asg_v (w := .int ((min n rs.length : Nat) : Int)) (blt_v (cons_v (w := .int (n : Int)) rfl (cons_v (ln _ _ _ _ _ _ _ _) nil_ev)) min2_nat)
  generalize min n rs.length = al at a2 hb hal hrr
  let A : Option Dv := some (.int (al : Int))
  have hF : cF_rise_row_1 (E Mo A none none none none none none) s = .ok { ws := (riL rs n).map fun t => riD rs t.1 t.2.1 t.2.2 } s := by
    have h : mCall (g_rises_of) (mCons (mVar 0) (mCons (mVar 1) mNil)) (E Mo A none none none none none none) s = .ok (.lst ((riL rs n).map fun t => riD rs t.1 t.2.1 t.2.2)) s := call_v (cons_v (w := tI rs) rfl (cons_v (w := .int (n : Int)) rfl nil_ev)) (rises_ok hs hr)
    show iSeq _ _ _ = _
    unfold iSeq
    rw [h]
    rfl
  have hc : mComp cF_rise_row_1 [8, 9] ct_rise_row_1 ci_rise_row_1 ce_rise_row_1 (E Mo A none none none none none none) s = .ok (.lst ((riK rs n).map fun t => tI [(t.1 : Int), (t.2.1 : Int), (t.2.2 : Int)])) s :=
    comp_filt (vs := [8, 9]) (g := ct_rise_row_1) (tt := ci_rise_row_1) (elt := ce_rise_row_1) (fun t : Nat × Nat × Nat => tI [(t.1 : Int), (t.2.1 : Int), (t.2.2 : Int)]) (fun t => decide (riI rs t.1 t.2.1 t.2.2 = riM rs n)) hF (by have := riL_len (rs := rs) (n := n) h6; unfold lim; omega) fun t _ =>
      ⟨E Mo A none none none none (some (.int (riI rs t.1 t.2.1 t.2.2))) (some (tI [(t.1 : Int), (t.2.1 : Int), (t.2.2 : Int)])), rfl, test_v (bin_v (x := .int (riI rs t.1 t.2.1 t.2.2)) (y := .int (riM rs n)) rfl rfl eq_ii), fun _ => rfl⟩
  generalize hB : riB rs n = B at hb hrr k1
  obtain ⟨f, b, l⟩ := B
  obtain ⟨b1, b2, b3⟩ := hb
  dsimp only at b1 b2 b3 hrr
  have v0 : mBin ixA (mComp cF_rise_row_1 [8, 9] ct_rise_row_1 ci_rise_row_1 ce_rise_row_1) (mK (.int 0)) (E Mo A none none none none none none) s = .ok (tI [(f : Int), (b : Int), (l : Int)]) s :=
    bin_v (y := .int ((0 : Nat) : Int)) hc rfl (ixA_list rfl (MP.PG.atI_nat (by rw [List.getElem?_map, k1]; rfl)))
  let Fi : Option Dv := some (.int (f : Int))
  let Bo : Option Dv := some (.int (b : Int))
  let La : Option Dv := some (.int (l : Int))
  have a3 : mAsg (mBin ixA (mComp cF_rise_row_1 [8, 9] ct_rise_row_1 ci_rise_row_1 ce_rise_row_1) (mK (.int 0))) (gT 3 (gsC (gN 4) (gsC (gN 5) (gsC (gN 6) gs0)))) (E Mo A none none none none none none) s = .nx (E Mo A Fi Bo La none none none) s := asg_gv v0 rfl
  have w1 : mCall (g_first_bits) (mCons (mVar 3) (mCons (mVar 4) mNil)) (E Mo A Fi Bo La none none none) s = .ok (tI (fbits al f)) s := call_v (cons_v (w := .int (al : Int)) rfl (cons_v (w := .int (f : Int)) rfl nil_ev)) (first_bits_ok b1 (by omega))
  have w2 : mCall (g_first_bits) (mCons (mBin subD (mBlt lenD (mCons (mVar 0) mNil)) (mVar 3)) (mCons (mVar 5) mNil)) (E Mo A Fi Bo La none none none) s = .ok (tI (fbits (rs.length - al) b)) s :=
    call_v (cons_v (w := .int ((rs.length - al : Nat) : Int)) (bin_v (x := .int (rs.length : Int)) (y := .int (al : Int)) (ln _ _ _ _ _ _ _ _) rfl (by rw [sub_ev, Int.natCast_sub hal.1])) (cons_v (w := .int (b : Int)) rfl nil_ev)) (first_bits_ok b2 (by omega))
  let Ah : Option Dv := some (tI (fbits al f ++ fbits (rs.length - al) b))
  have a4 : mAsg (mBin addD (mCall (g_first_bits) (mCons (mVar 3) (mCons (mVar 4) mNil))) (mCall (g_first_bits) (mCons (mBin subD (mBlt lenD (mCons (mVar 0) mNil)) (mVar 3)) (mCons (mVar 5) mNil)))) (gN 7) (E Mo A Fi Bo La none none none) s = .nx (E Mo A Fi Bo La Ah none none) s :=
    asg_v (w := tI (fbits al f ++ fbits (rs.length - al) b)) (add_tI w1 w2 (by rw [fbits_len b1, fbits_len b2]; omega))
  have w3 : mBin mulD (mTup (mCons (mK (.int 0)) mNil)) (mBin subD (mVar 1) (mVar 3)) (E Mo A Fi Bo La Ah none none) s = .ok (tI (List.replicate (n - al) 0)) s :=
    bin_v (x := .tup [.int 0]) (y := .int ((n - al : Nat) : Int)) rfl (bin_v (x := .int (n : Int)) (y := .int (al : Int)) rfl rfl (by rw [sub_ev, Int.natCast_sub hal.2])) (mul_one_tup (by omega))
  have w4 : mCall (g_first_bits) (mCons (mVar 3) (mCons (mVar 6) mNil)) (E Mo A Fi Bo La Ah none none) s = .ok (tI (fbits al l)) s := call_v (cons_v (w := .int (al : Int)) rfl (cons_v (w := .int (l : Int)) rfl nil_ev)) (first_bits_ok b3 (by omega))
  have w5 := add_tI (add_tI (show mVar 7 (E Mo A Fi Bo La Ah none none) s = .ok (tI (fbits al f ++ fbits (rs.length - al) b)) s from rfl) w3 (by rw [List.length_append, fbits_len b1, fbits_len b2, List.length_replicate]; omega)) w4 (by rw [List.length_append, List.length_append, fbits_len b1, fbits_len b2, fbits_len b3, List.length_replicate]; omega)
  rw [hrr]
  unfold g_rise_row d_rise_row
  rw [den_ev, e0]
  refine fin_nx a1 (fin_nx a2 (fin_nx a3 (fin_nx a4 ?_)))
  exact (congrArg (finC _) (ret_v w5)).trans finC_rt
end
end MP.PG
set_option Elab.async false
set_option linter.all false
set_option maxRecDepth 100000
set_option maxHeartbeats 1000000
namespace MP.PG
open PySem PySem.Spec MP
open PyProof.Rows hiding St
open L2 hiding St r1
theorem draw_v {pre : Sto} {cs : List Int} {l p many : Int} (hc : cs ≠ []) (hm : 0 < many) (hm2 : many ≤ 1000000) (hp : 0 ≤ p) (hp2 : p < 1000000) : ∃ d l' p', g__law_draw [.ref pre.length, .int many] (St pre [] cs l p) = .ok (.int d) (St pre [] cs l' p') ∧ 0 ≤ d ∧ d < many ∧ 0 ≤ p' ∧ p' ≤ p + 1 :=
  (draw_ok (l := l) hc hm (by omega) hp hp2).ok
section
variable {pre : Sto} {cs : List Int}
theorem comp_dr {α : Type} {n b : Nat} {f : FI} {vs : List Nat} {g : FG} {elt : FE} {ρ : Env} {l p l1 p1 : Int} (e : α → Dv) (Q : α → Prop) (hf : f ρ (St pre [] cs l p) = .ok { ws := rng 0 n } (St pre [] cs l1 p1)) (h0 : 0 ≤ p1) (hn : n ≤ 100) (hb : b ≤ 1000) (hp : p1 ≤ 500000)
    (h : ∀ (i : Nat) (l p : Int), i < n → 0 ≤ p → p ≤ p1 + 100000 → ∃ ρ1 a l' p', g (.int (i : Int)) (wipeD ρ vs) (St pre [] cs l p) = some ρ1 ∧ elt ρ1 (St pre [] cs l p) = .ok (e a) (St pre [] cs l' p') ∧ Q a ∧ 0 ≤ p' ∧ p' ≤ p + b) :
    ∃ (as : List α) (l' p' : Int), mComp f vs g mYes elt ρ (St pre [] cs l p) = .ok (.lst (as.map e)) (St pre [] cs l' p') ∧ as.length = n ∧ (∀ a ∈ as, Q a) ∧ 0 ≤ p' ∧ p' ≤ p1 + (n * b : Nat) := by
  obtain ⟨zs, s', c1, c2, as, l3, p3, rfl, rfl, r1, r2, r3, r4⟩ := comp_ix (vs := vs) (g := g) (elt := elt) (fun i acc s => ∃ (as : List α) (l3 p3 : Int), acc = as.map e ∧ s = St pre [] cs l3 p3 ∧ as.length = i ∧ (∀ a ∈ as, Q a) ∧ 0 ≤ p3 ∧ p3 ≤ p1 + (i * b : Nat))
    hf (by rw [rng_len]; unfold lim; omega) ⟨[], l1, p1, rfl, rfl, rfl, fun _ h => (nomatch h), h0, by omega⟩ fun i x acc s hx hJ => by
      obtain ⟨as, l3, p3, rfl, rfl, r1, r2, r3, r4⟩ := hJ
      obtain ⟨hi, rfl⟩ := rng_get hx
      have hi' : i < n := hi
      have hib : i * b ≤ 100 * 1000 := Nat.mul_le_mul (by omega) hb
      rw [Int.zero_add]
      obtain ⟨ρ1, a, l4, p4, g1, g2, g3, g4, g5⟩ := h i l3 p3 hi' r3 (by omega)
      refine ⟨ρ1, e a, _, g1, g2, as ++ [a], l4, p4, by rw [List.map_append]; rfl, rfl, by rw [List.length_append, r1]; rfl, fun n hn => ?_, g4, by rw [Nat.succ_mul]; omega⟩
      rcases List.mem_append.mp hn with h | h
      · exact r2 n h
      · rw [List.mem_singleton.mp h]; exact g3
  rw [rng_len] at r1 r4
  exact ⟨as, l3, p3, c1, r1, r2, r3, r4⟩
end
theorem rD_ne {s s1 : Sto} {f g : FE} {ρ : Env} {w : Dv} (h1 : f ρ s = .ok w s1) (h2 : g ρ s1 = .ok w s1) (r : ∃ t, reprD s1 [w] = some (.str t)) : mTest (mBin neD (mBlt reprD (mCons f mNil)) (mBlt reprD (mCons g mNil))) ρ s = .ok false s1 := by
  obtain ⟨t, ht⟩ := r
  exact test_v (bin_v (x := .str t) (y := .str t) (blt_v (cons_v h1 nil_ev) ht) (blt_v (cons_v h2 nil_ev) ht) (ne_of_eq eq_refl_ss))
theorem two_v {s s1 s2 : Sto} {f g : FE} {ρ : Env} {w v : Dv} (h1 : f ρ s = .ok w s1) (h2 : g ρ s1 = .ok v s2) : mLst (mCons f (mCons g mNil)) ρ s = .ok (.lst [w, v]) s2 := lst_v (cons_v h1 (cons_v h2 nil_ev)) (by show 2 ≤ 1000000; decide)
section
variable {pre : Sto} {cs : List Int}
/-- a drawn rule -/
theorem tune_ok {l p : Int} {m : Nat} (hc : cs ≠ []) (hp : 0 ≤ p) (hp2 : p ≤ 450000) (hm : 1 ≤ m) (hm6 : m ≤ 6) : ∃ rs l' p', g__law_tune [.ref pre.length, .int (m : Int)] (St pre [] cs l p) = .ok (tI rs) (St pre [] cs l' p') ∧ 1 ≤ rs.length ∧ rs.length ≤ m ∧ (∀ r ∈ rs, -3 ≤ r ∧ r ≤ 5) ∧ 0 ≤ p' ∧ p' ≤ p + 10 := by
  let E (x2 : Option Dv) : Env := [some (.ref pre.length), some (.int (m : Int)), x2]
  have e0 : startD 3 [.ref pre.length, .int (m : Int)] = E none := rfl
  obtain ⟨d, l1, p1, d1, d0, d3, p10, p11⟩ := draw_v (pre := pre) (l := l) (many := (m : Int)) hc (by omega) (by omega) hp (by omega)
  obtain ⟨j, rfl⟩ := Int.eq_ofNat_of_zero_le d0
  have hF : cF__law_tune_1 (E none) (St pre [] cs l p) = .ok { ws := rng 0 (1 + j) } (St pre [] cs l1 p1) := by
    refine range1_ok (j := ((1 + j : Nat) : Int)) ?_ (okR_s (by omega) (by omega))
    refine cons_v (bin_v (x := .int 1) (y := .int (j : Int)) k_ev (call_v (cons_v (w := .ref pre.length) rfl (cons_v (w := .int (m : Int)) rfl nil_ev)) d1) ?_) nil_ev
    rw [add_ii, Int.natCast_add]
    rfl
  obtain ⟨ns, l3, p3, c1, r1, r2, r3, r4⟩ := comp_dr (pre := pre) (cs := cs) (n := 1 + j) (b := 1) (vs := [2]) (g := ct__law_tune_1) (elt := ce__law_tune_1) Dv.int (fun n : Int => -3 ≤ n ∧ n ≤ 5) hF p10 (by omega) (by decide) (by omega) fun i l p hi q0 q1 => by
    obtain ⟨a, l5, p5, d5, a0, a1, p50, p51⟩ := draw_v (pre := pre) (l := l) (p := p) (many := 9) hc (by decide) (by decide) q0 (by omega)
    exact ⟨E (some (.int (i : Int))), a - 3, l5, p5, rfl, bin_v (x := .int a) (y := .int 3) (call_v (cons_v (w := .ref pre.length) rfl (cons_v (w := .int 9) rfl nil_ev)) d5) k_ev sub_ev, by omega, p50, by omega⟩
  refine ⟨ns, l3, p3, ?_, by omega, by omega, r2, r3, by omega⟩
  unfold g__law_tune d__law_tune
  rw [den_ev, e0]
  refine (congrArg (finC _) (ret_v (blt_v (cons_v c1 nil_ev) tuple_lst))).trans ?_
  exact fin_St
end
theorem sl_to {s : Sto} {f g : FE} {ρ : Env} {ns : List Int} {k : Nat} (hf : f ρ s = .ok (tI ns) s) (hg : g ρ s = .ok (.int (k : Int)) s) : mSl slA f mNoPart (mPart g) ρ s = .ok (tI (ns.take k)) s := by
  refine sl_v (x := tI ns) (a := none) (b := some (k : Int)) hf rfl (part_v hg) ?_
  show some (Dv.tup (cutD (ns.map .int) _ _)) = _
  rw [cut_to, ← List.map_take]
theorem sl_fr {s : Sto} {f g : FE} {ρ : Env} {ns : List Int} {k : Nat} (hf : f ρ s = .ok (tI ns) s) (hg : g ρ s = .ok (.int (k : Int)) s) : mSl slA f (mPart g) mNoPart ρ s = .ok (tI (ns.drop k)) s := by
  refine sl_v (x := tI ns) (a := some (k : Int)) (b := none) hf (part_v hg) rfl ?_
  show some (Dv.tup (cutD (ns.map .int) _ _)) = _
  rw [cut_from, ← List.map_drop]
section
variable {s : Sto} {ρ : Env} {fa : FA}
theorem if_no {t : FT} {c : FS} (h : t ρ s = .ok false s) : mIfS t c mNext ρ s = .nx ρ s := by
  rw [ifS_f h]
  rfl
theorem ne_v {f g : FE} {x y : Dv} (h : f ρ s = .ok x s) (h2 : g ρ s = .ok y s) (e : neD s x y = some (.bl false)) : mTest (mBin neD f g) ρ s = .ok false s := test_v (bin_v h h2 e)
end
end MP.PG
set_option Elab.async false
set_option linter.all false
set_option maxRecDepth 100000
set_option maxHeartbeats 1000000
namespace MP.PG
open PySem PySem.Spec MP
open PyProof.Rows hiding St
open L2 hiding St r1
def okL (lot : List Int) (v : Int) : Bool := match lot.getLast? with
  | none => true
  | some u => decide (u ≤ v)
/-- all ascending lots -/
def ascL (vs : List Int) : Nat → List (List Int)
  | 0 => [[]]
  | n + 1 => (ascL vs n).flatMap fun lot => (vs.filter (okL lot)).map fun v => lot ++ [v]
theorem ascL_len {vs : List Int} : ∀ {n : Nat} {r : List Int}, r ∈ ascL vs n → r.length = n
  | 0, r, h => by rw [List.mem_singleton.mp h]; rfl
  | n + 1, r, h => by
    obtain ⟨q, hq, hr⟩ := List.mem_flatMap.mp h
    obtain ⟨m, _, rfl⟩ := List.mem_map.mp hr
    rw [List.length_append, ascL_len hq]
    rfl
theorem ascL_in {vs : List Int} : ∀ {n : Nat} {r : List Int}, r ∈ ascL vs n → ∀ i ∈ r, i ∈ vs
  | 0, r, h, i, hi => by rw [List.mem_singleton.mp h] at hi; cases hi
  | n + 1, r, h, i, hi => by
    obtain ⟨q, hq, hr⟩ := List.mem_flatMap.mp h
    obtain ⟨m, hm, rfl⟩ := List.mem_map.mp hr
    rcases List.mem_append.mp hi with h | h
    · exact ascL_in hq i h
    · rw [List.mem_singleton.mp h]
      exact (List.mem_filter.mp hm).1
theorem flat_le {α β : Type} {c : Nat} {f : α → List β} : ∀ l : List α, (∀ a ∈ l, (f a).length ≤ c) → (l.flatMap f).length ≤ l.length * c
  | [], _ => by simp
  | a :: l, h => by
    have h1 := h a List.mem_cons_self
    have h2 := flat_le l fun b hb => h b (List.mem_cons_of_mem _ hb)
    rw [List.flatMap_cons, List.length_append, List.length_cons, Nat.succ_mul]
    omega
theorem ascL_count {vs : List Int} : ∀ n, (ascL vs n).length ≤ vs.length ^ n
  | 0 => Nat.le_refl 1
  | n + 1 => by
    have h1 := flat_le (f := fun lot => (vs.filter (okL lot)).map fun v => lot ++ [v]) (c := vs.length) (ascL vs n) fun lot _ => by
      rw [List.length_map]
      exact List.length_filter_le _ _
    rw [Nat.pow_succ]
    exact Nat.le_trans h1 (Nat.mul_le_mul_right _ (ascL_count n))
theorem ascL_ne {vs : List Int} {v : Int} : ∀ n, (List.replicate n v) ∈ ascL vs n ∨ v ∉ vs
  | 0 => .inl List.mem_cons_self
  | n + 1 => by
    rcases ascL_ne (vs := vs) (v := v) n with h | h
    · by_cases hv : v ∈ vs
      · refine .inl (List.mem_flatMap.mpr ⟨_, h, List.mem_map.mpr ⟨v, List.mem_filter.mpr ⟨hv, ?_⟩, List.replicate_succ'.symm⟩⟩)
        unfold okL
        cases n with
        | zero => rfl
        | succ n => rw [List.replicate_succ', List.getLast?_concat]; exact decide_eq_true (Int.le_refl v)
      · exact .inr hv
    · exact .inr h
section
variable {s : Sto}
theorem compL_filt {α : Type} {vs : List Nat} {g : FG} {tt : FT} {elt : FE} {ρ : Env} {e : α → Dv} (φ : α → Dv) (t : α → Bool) : ∀ l : List α, (∀ a ∈ l, ∃ ρ1, g (e a) (wipeD ρ vs) s = some ρ1 ∧ tt ρ1 s = .ok (t a) s ∧ (t a = true → elt ρ1 s = .ok (φ a) s)) → compL none vs g tt elt ρ (l.map e) s = some ((l.filter t).map φ, s)
  | [], _ => by rw [List.map_nil]; simp [compL]
  | a :: l, h => by
    obtain ⟨ρ1, h1, h2, h3⟩ := h a List.mem_cons_self
    have ih := compL_filt φ t l fun b hb => h b (List.mem_cons_of_mem _ hb)
    rw [List.map_cons]
    unfold compL
    rw [if_pos (.inl rfl), h1]
    simp only [h2]
    cases q : t a with
    | true =>
      rw [List.filter_cons_of_pos q]
      simp only [h3 q]
      rw [ih]
      rfl
    | false =>
      rw [List.filter_cons_of_neg (by rw [q]; decide)]
      exact ih
theorem compL2_filt {α β : Type} {f1 : FI} {vs vs1 : List Nat} {g g1 : FG} {tt1 : FT} {elt : FE} {ρ : Env} {e : α → Dv} {e1 : β → Dv} {lb : List β} (t : α → β → Bool) (φ : α → β → Dv) : ∀ la : List α,
    (∀ a ∈ la, ∃ ρ1, g (e a) (wipeD ρ vs) s = some ρ1 ∧ f1 ρ1 s = .ok { ws := lb.map e1 } s ∧ ∀ b ∈ lb, ∃ ρ2, g1 (e1 b) (wipeD ρ1 vs1) s = some ρ2 ∧ tt1 ρ2 s = .ok (t a b) s ∧ (t a b = true → elt ρ2 s = .ok (φ a b) s)) →
    compL2 none vs g mYes f1 vs1 g1 tt1 elt ρ (la.map e) s = some (la.flatMap fun a => (lb.filter (t a)).map (φ a), s)
  | [], _ => by rw [List.map_nil]; simp [compL2]
  | a :: l, h => by
    obtain ⟨ρ1, h1, h2, h3⟩ := h a List.mem_cons_self
    have ih := compL2_filt t φ l fun b hb => h b (List.mem_cons_of_mem _ hb)
    rw [List.map_cons]
    unfold compL2
    rw [if_pos (.inl rfl), h1]
    simp only [yes_ev, h2, compL_filt (φ a) (t a) lb h3, ih]
    rfl
theorem comp2_filt {α β : Type} {f f1 : FI} {vs vs1 : List Nat} {g g1 : FG} {tt1 : FT} {elt : FE} {ρ : Env} {e : α → Dv} {e1 : β → Dv} {la : List α} {lb : List β} (t : α → β → Bool) (φ : α → β → Dv) (hf : f ρ s = .ok { ws := la.map e } s)
    (h : ∀ a ∈ la, ∃ ρ1, g (e a) (wipeD ρ vs) s = some ρ1 ∧ f1 ρ1 s = .ok { ws := lb.map e1 } s ∧ ∀ b ∈ lb, ∃ ρ2, g1 (e1 b) (wipeD ρ1 vs1) s = some ρ2 ∧ tt1 ρ2 s = .ok (t a b) s ∧ (t a b = true → elt ρ2 s = .ok (φ a b) s))
    (hl : (la.flatMap fun a => (lb.filter (t a)).map (φ a)).length ≤ 1000000) : mComp2 f vs g mYes f1 vs1 g1 tt1 elt ρ s = .ok (.lst (la.flatMap fun a => (lb.filter (t a)).map (φ a))) s := by
  unfold mComp2
  rw [hf, bind_ok]
  dsimp only
  rw [compL2_filt t φ la h]
  dsimp only
  rw [if_pos (by unfold lim; omega)]
theorem ix_last {ns : List Int} {u : Int} (h : ns.getLast? = some u) : ixA s (tI ns) (.int (-1)) = some (.int u) := by
  obtain ⟨l, rfl⟩ : ∃ l, ns = l ++ [u] := by
    obtain ⟨l, h⟩ := List.getLast?_eq_some_iff.mp h
    exact ⟨l, h⟩
  have e : atI ((l ++ [u]).map Dv.int) (-1) = some (.int u) := by
    unfold atI ixN
    rw [List.length_map, List.length_append, List.length_singleton, if_neg (by omega), if_pos (by omega)]
    show ((l ++ [u]).map Dv.int)[(((l.length + 1 : Nat) : Int) + -1).toNat]? = _
    rw [show (((l.length + 1 : Nat) : Int) + -1).toNat = l.length by omega, List.getElem?_map, List.getElem?_append_right (Nat.le_refl _), Nat.sub_self]
    rfl
  show orO (orO ixL ixT) ixD s (tI (l ++ [u])) (.int (-1)) = _
  unfold orO
  show (match (match (none : Option Dv) with | some w => some w | none => (tupOf (tI (l ++ [u]))).bind fun ws => atI ws (-1)) with | some w => some w | none => _) = _
  show (match atI ((l ++ [u]).map Dv.int) (-1) with | some w => some w | none => _) = _
  rw [e]
theorem lots_ok {vs : List Int} {n : Nat} (hv : 1 ≤ vs.length) (hb : vs.length ^ n ≤ 300000) (hn : n ≤ 100) : g_ascending_lots [lI vs, .int (n : Int)] s = .ok (.lst ((ascL vs n).map tI)) s := by
  let E (x2 x3 x4 x5 : Option Dv) : Env := [some (lI vs), some (.int (n : Int)), x2, x3, x4, x5]
  have e0 : startD 6 [lI vs, .int (n : Int)] = E none none none none := rfl
  have c1 : mAsg (mLst (mCons (mTup mNil) mNil)) (gN 2) (E none none none none) s = .nx (E (some (.lst ((ascL vs 0).map tI))) none none none) s := rfl
  have cnt : ∀ i, i ≤ n → (ascL vs i).length ≤ 300000 := fun i hi => Nat.le_trans (ascL_count i) (Nat.le_trans (Nat.pow_le_pow_right hv hi) hb)
  obtain ⟨ρ', s', f1, rfl, x3, x4, x5, rfl⟩ := for_ix (F := F_ascending_lots_1) (g := t_ascending_lots_1) (body := b_ascending_lots_1) (ρ := E (some (.lst ((ascL vs 0).map tI))) none none none) (s := s) (s1 := s) (xs := rng 0 n)
    (fun i ρ s' => s' = s ∧ ∃ x3 x4 x5, ρ = E (some (.lst ((ascL vs i).map tI))) x3 x4 x5) (range1_ok (j := (n : Int)) (cons_v (w := .int (n : Int)) rfl nil_ev) (okR_s (by omega) (by omega))) ⟨rfl, _, _, _, rfl⟩ fun i x ρ s' hx hJ => by
      obtain ⟨rfl, x3, x4, x5, rfl⟩ := hJ
      obtain ⟨hi, rfl⟩ := rng_get hx
      have hi' : i < n := hi
      let L : Option Dv := some (.lst ((ascL vs i).map tI))
      let I : Option Dv := some (.int (0 + (i : Int)))
      have hc := comp2_filt (s := s') (f := cF_ascending_lots_1) (f1 := cF1_ascending_lots_1) (vs := [4, 5]) (vs1 := [5]) (g := ct_ascending_lots_1) (g1 := ct1_ascending_lots_1) (tt1 := ci1_ascending_lots_1) (elt := ce_ascending_lots_1) (ρ := E L I x4 x5) (e := tI) (e1 := .int) (la := ascL vs i) (lb := vs) okL (fun lot v => tI (lot ++ [v])) rfl
        (fun lot hlot => ⟨E L I (some (tI lot)) none, rfl, rfl, fun v hv => ⟨E L I (some (tI lot)) (some (.int v)), rfl, by
          unfold ci1_ascending_lots_1 okL
          cases hl : lot.getLast? with
          | none =>
            obtain rfl := List.getLast?_eq_none_iff.mp hl
            exact or_t (not_vf (t := mTruth (mVar 4)) rfl)
          | some u =>
            have hne : mTruth (mVar 4) (E L I (some (tI lot)) (some (.int v))) s' = .ok true s' := by
              cases lot with
              | nil => cases hl
              | cons a l => rfl
            exact or_f (not_vt hne) (test_v (bin_v (x := .int u) (y := .int v) (bin_v (x := tI lot) (y := .int (-1)) rfl (un_v (x := .int 1) k_ev rfl) (ix_last hl)) rfl rfl)), fun _ => by
          refine bin_v (x := tI lot) (y := tI [v]) rfl rfl ?_
          show addD s' (.tup (lot.map .int)) (.tup [.int v]) = _
          rw [add_tup (by rw [List.length_map, ascL_len hlot]; show i + 1 ≤ _; omega), tI, List.map_append]
          rfl⟩⟩) (by
        have h1 := flat_le (f := fun lot => (vs.filter (okL lot)).map fun v => tI (lot ++ [v])) (c := vs.length) (ascL vs i) fun lot _ => by
          rw [List.length_map]
          exact List.length_filter_le _ _
        have h2 : (ascL vs i).length * vs.length ≤ vs.length ^ (i + 1) := by
          rw [Nat.pow_succ]
          exact Nat.mul_le_mul_right _ (ascL_count i)
        have h3 := Nat.pow_le_pow_right hv (show i + 1 ≤ n by omega)
        omega)
      have e : ((ascL vs i).flatMap fun lot => (vs.filter (okL lot)).map fun v => tI (lot ++ [v])) = (ascL vs (i + 1)).map tI := by
        show _ = ((ascL vs i).flatMap _).map tI
        rw [List.map_flatMap]
        simp only [List.map_map]
        rfl
      rw [e] at hc
      exact ⟨E L I x4 x5, E (some (.lst ((ascL vs (i + 1)).map tI))) I x4 x5, s', rfl, .inl (asg_v hc), rfl, _, _, _, rfl⟩
  rw [rng_len] at f1
  unfold g_ascending_lots d_ascending_lots
  rw [den_ev, e0]
  refine fin_nx c1 (fin_nx f1 ?_)
  exact (congrArg (finC _) (ret_v (w := .lst ((ascL vs n).map tI)) rfl)).trans finC_rt
def keptL (rs ns : List Int) (n : Nat) : List Int := ns.drop (ns.length - rs.length + min n rs.length)
def valsL (rs ns : List Int) (m : Int) (n : Nat) : List Int := usrt ([0, m] ++ (keptL rs ns n).filter fun v => decide (v < m))
def endsL (rs ns : List Int) (m : Int) (n : Nat) : List (Int × List Int) := (ascL (valsL rs ns m n) (min n rs.length)).map fun lot => (idx rs (keptL rs ns n ++ lot), lot)
def endD (e : Int × List Int) : Dv := .tup [.int e.1, tI e.2]
theorem valsL_mem {rs ns : List Int} {m v : Int} {n : Nat} : v ∈ valsL rs ns m n ↔ v = 0 ∨ v = m ∨ (v ∈ keptL rs ns n ∧ v < m) := by
  unfold valsL usrt
  rw [(usrt_spec _ (srt_sorted _)).2, (srt_perm _).mem_iff]
  simp
theorem keptL_len {rs ns : List Int} {n : Nat} (hl : rs.length ≤ ns.length) : (keptL rs ns n).length = rs.length - min n rs.length := by
  have := Nat.min_le_right n rs.length
  unfold keptL
  rw [List.length_drop]
  omega
theorem valsL_len {rs ns : List Int} {m : Int} {n : Nat} (hr : Rule rs) (hl : rs.length ≤ ns.length) : 1 ≤ (valsL rs ns m n).length ∧ (valsL rs ns m n).length ≤ 8 := by
  have h0 : (0 : Int) ∈ valsL rs ns m n := valsL_mem.mpr (.inl rfl)
  have h1 := usrt_len ([0, m] ++ (keptL rs ns n).filter fun v => decide (v < m))
  have h2 := List.length_filter_le (fun v => decide (v < m)) (keptL rs ns n)
  rw [keptL_len hl] at h2
  have := hr.six
  rw [List.length_append] at h1
  refine ⟨List.length_pos_of_mem h0, ?_⟩
  show (usrt _).length ≤ 8
  have : [(0 : Int), m].length = 2 := rfl
  omega
theorem endsL_ne {rs ns : List Int} {m : Int} {n : Nat} : endsL rs ns m n ≠ [] := fun z => by
  have : (List.replicate (min n rs.length) 0) ∈ ascL (valsL rs ns m n) (min n rs.length) := by
    rcases ascL_ne (vs := valsL rs ns m n) (v := 0) (min n rs.length) with h | h
    · exact h
    · exact absurd (valsL_mem.mpr (.inl rfl)) h
  unfold endsL at z
  rw [List.map_eq_nil_iff.mp z] at this
  cases this
theorem pow8 {a k : Nat} (h : a ≤ 8) (hk : k ≤ 6) : a ^ k ≤ 300000 := by
  have h1 : a ^ k ≤ 8 ^ k := Nat.pow_le_pow_left h k
  have h2 : 8 ^ k ≤ 8 ^ 6 := Nat.pow_le_pow_right (by decide) hk
  have h3 : (8 : Nat) ^ 6 ≤ 300000 := by decide
  omega
theorem ends_ok {rs ns : List Int} {m : Int} {n : Nat} (hr : Rule rs) (hn : Row ns) (hl : rs.length ≤ ns.length) (h200 : n ≤ 200) : g_ends_of [tI rs, tI ns, .int m, .int (n : Int)] s = .ok (.lst ((endsL rs ns m n).map endD)) s := by
  have h6 := hr.six
  have hm := hn.most
  let E (x4 x5 x6 x7 x8 : Option Dv) : Env := [some (tI rs), some (tI ns), some (.int m), some (.int (n : Int)), x4, x5, x6, x7, x8]
  have e0 : startD 9 [tI rs, tI ns, .int m, .int (n : Int)] = E none none none none none := rfl
  have hkl : (keptL rs ns n).length = rs.length - min n rs.length := keptL_len hl
  have hvl := valsL_len (m := m) (n := n) hr hl
  have hk0 : keptL rs ns n = ns.drop (ns.length - rs.length + min n rs.length) := rfl
  have hv0 : valsL rs ns m n = usrt ([0, m] ++ (keptL rs ns n).filter fun v => decide (v < m)) := rfl
  have he0 : endsL rs ns m n = (ascL (valsL rs ns m n) (min n rs.length)).map fun lot => (idx rs (keptL rs ns n ++ lot), lot) := rfl
  have a1 : mAsg (mBlt min2D (mCons (mVar 3) (mCons (mBlt lenD (mCons (mVar 0) mNil)) mNil))) (gN 4) (E none none none none none) s = .nx (E (some (.int ((min n rs.length : Nat) : Int))) none none none none) s :=
    asg_v (w := .int ((min n rs.length : Nat) : Int)) (blt_v (cons_v (w := .int (n : Int)) rfl (cons_v (w := .int (rs.length : Int)) (blt_v (cons_v (w := tI rs) rfl nil_ev) (by rw [tI, len_tup, List.length_map])) nil_ev)) min2_nat)
  have hal : min n rs.length ≤ rs.length := Nat.min_le_right _ _
  generalize keptL rs ns n = kept at hkl hk0 hv0 he0
  generalize valsL rs ns m n = vals at hvl hv0 he0
  generalize min n rs.length = al at a1 hal hkl hk0 he0
  let A : Option Dv := some (.int (al : Int))
  let K : Option Dv := some (tI kept)
  let V : Option Dv := some (lI vals)
  have a2 : mAsg (mSl slA (mVar 1) (mPart (mBin addD (mBin subD (mBlt lenD (mCons (mVar 1) mNil)) (mBlt lenD (mCons (mVar 0) mNil))) (mVar 4))) mNoPart) (gN 5) (E A none none none none) s = .nx (E A K none none none) s := by
    refine asg_v (w := tI kept) ?_
    rw [hk0]
    refine sl_fr (show mVar 1 (E A none none none none) s = .ok (tI ns) s from rfl) (bin_v (x := .int ((ns.length - rs.length : Nat) : Int)) (y := .int (al : Int)) (bin_v (x := .int (ns.length : Int)) (y := .int (rs.length : Int)) (blt_v (cons_v (w := tI ns) rfl nil_ev) (by rw [tI, len_tup, List.length_map])) (blt_v (cons_v (w := tI rs) rfl nil_ev) (by rw [tI, len_tup, List.length_map])) (by rw [sub_ev, Int.natCast_sub hl])) rfl (by rw [add_ii, Int.natCast_add]))
  have c1 : mComp cF_ends_of_1 [7] ct_ends_of_1 ci_ends_of_1 ce_ends_of_1 (E A K none none none) s = .ok (.lst ((kept.filter fun v => decide (v < m)).map .int)) s :=
    comp_filt (vs := [7]) (g := ct_ends_of_1) (tt := ci_ends_of_1) (elt := ce_ends_of_1) (e := Dv.int) Dv.int (fun v => decide (v < m)) rfl (by unfold lim; omega) fun v _ => ⟨E A K none (some (.int v)) none, rfl, test_v (bin_v (x := .int v) (y := .int m) rfl rfl lt_ii), fun _ => rfl⟩
  have hfl : (kept.filter fun v => decide (v < m)).length ≤ 6 := Nat.le_trans (List.length_filter_le _ _) (by omega)
  have a3 : mAsg (mBlt sortedSetL (mCons (mBin addD (mLst (mCons (mK (.int 0)) (mCons (mVar 2) mNil))) (mComp cF_ends_of_1 [7] ct_ends_of_1 ci_ends_of_1 ce_ends_of_1)) mNil)) (gN 6) (E A K none none none) s = .nx (E A K V none none) s := by
    refine asg_v (w := lI vals) (blt_v (cons_v (w := lI ([0, m] ++ kept.filter fun v => decide (v < m))) (bin_v (x := .lst [.int 0, .int m]) (y := .lst ((kept.filter fun v => decide (v < m)).map .int)) (two_v k_ev rfl) c1 ?_) nil_ev) ?_)
    · rw [add_lst (by rw [List.length_map]; show 2 + _ ≤ _; omega), lI, List.map_append]
      rfl
    · show (match intsOf (([0, m] ++ kept.filter fun v => decide (v < m)).map .int) with
        | some ns => if ns.length ≤ 60 then some (Dv.lst ((usrt ns).map .int)) else none
        | none => none) = _
      rw [intsOf_I]
      dsimp only
      rw [if_pos (by rw [List.length_append]; show 2 + _ ≤ _; omega), ← hv0]
  have hF : cF_ends_of_2 (E A K V none none) s = .ok { ws := (ascL vals al).map tI } s := by
    have h : mCall (g_ascending_lots) (mCons (mVar 6) (mCons (mVar 4) mNil)) (E A K V none none) s = .ok (.lst ((ascL vals al).map tI)) s :=
      call_v (cons_v (w := lI vals) rfl (cons_v (w := .int (al : Int)) rfl nil_ev)) (lots_ok hvl.1 (pow8 hvl.2 (by omega)) (by omega))
    show iSeq _ _ _ = _
    unfold iSeq
    rw [h]
    rfl
  have c2 := comp_mapA (vs := [8]) (g := ct_ends_of_2) (elt := ce_ends_of_2) (fun lot : List Int => endD (idx rs (kept ++ lot), lot)) hF (by have h1 := ascL_count (vs := vals) al; have h2 := pow8 hvl.2 (show al ≤ 6 by omega); unfold lim; omega) fun lot hlot => ⟨E A K V none (some (tI lot)), rfl, by
    have hll := ascL_len hlot
    have v1 : mBin addD (mVar 5) (mVar 8) (E A K V none (some (tI lot))) s = .ok (tI (kept ++ lot)) s := add_tI rfl rfl (by omega)
    have v2 : mCall (g_index_of) (mCons (mVar 0) (mCons (mBin addD (mVar 5) (mVar 8)) mNil)) (E A K V none (some (tI lot))) s = .ok (.int (idx rs (kept ++ lot))) s := call_v (cons_v (w := tI rs) rfl (cons_v v1 nil_ev)) (index_of_ok hr (by rw [List.length_append]; omega) (by rw [List.length_append]; omega) s)
    exact tup_v (cons_v v2 (cons_v (w := tI lot) rfl nil_ev)) (by show 2 ≤ 1000000; decide)⟩
  have e : ((ascL vals al).map fun lot => endD (idx rs (kept ++ lot), lot)) = (endsL rs ns m n).map endD := by rw [he0, List.map_map]; rfl
  rw [e] at c2
  unfold g_ends_of d_ends_of
  rw [den_ev, e0]
  refine fin_nx a1 (fin_nx a2 (fin_nx a3 ?_))
  exact (congrArg (finC _) (ret_v c2)).trans finC_rt
end
end MP.PG
set_option Elab.async false
set_option linter.all false
set_option maxRecDepth 100000
set_option maxHeartbeats 1000000
namespace MP.PG
open PySem PySem.Spec MP
open PyProof.Rows hiding St
open L2 hiding St r1
open PySem.W (AlikeAll maxD alike alikeAll dataLt)
def encE (e : Int × List Int) : PyData := .tuple [.int e.1, .tuple (e.2.map .int)]
theorem toXs_ints : ∀ ns : List Int, toXs (ns.map .int) = some (ns.map .int)
  | [] => rfl
  | n :: ns => by
    rw [List.map_cons, List.map_cons]
    unfold toXs
    rw [toXs_ints ns]
    rfl
theorem toX_end (e : Int × List Int) : toX (endD e) = some (encE e) := by
  simp only [endD, tI, toX, toXs, toXs_ints]
  rfl
theorem toXs_ends : ∀ l : List (Int × List Int), toXs (l.map endD) = some (l.map encE)
  | [] => rfl
  | e :: l => by
    rw [List.map_cons, List.map_cons]
    unfold toXs
    rw [toX_end, toXs_ends l]
theorem alike_enc (a b : Int × List Int) : alike (encE a) (encE b) = true := by
  show (alike (.int a.1) (.int b.1) && alikeAll [.tuple (a.2.map .int)] [.tuple (b.2.map .int)]) = true
  show (true && (alikeAll (a.2.map .int) (b.2.map .int) && alikeAll [] [])) = true
  rw [PySem.W.alike_ints]
  rfl
theorem lt_enc (a b : Int × List Int) : (a.1 < b.1 → dataLt (encE a) (encE b) = true) ∧ (b.1 < a.1 → dataLt (encE a) (encE b) = false) := by
  have h := PySem.W.dataLt_pair (x := .int a.1) (y := .tuple (a.2.map .int)) (x' := .int b.1) (y' := .tuple (b.2.map .int)) rfl (by
    show alikeAll (a.2.map .int) (b.2.map .int) = true
    exact PySem.W.alike_ints _ _)
  have h' : dataLt (encE a) (encE b) = _ := h
  rw [h', PySem.W.dataLt_int]
  have e : ∀ c d : Int, PyData.eqv (.int c) (.int d) = decide (c = d) := fun c d => by
    show (c == d) = _
    rfl
  rw [e]
  constructor
  · intro hlt
    rw [if_neg (by rw [decide_eq_true_iff]; omega)]
    exact decide_eq_true hlt
  · intro hlt
    rw [if_neg (by rw [decide_eq_true_iff]; omega)]
    exact decide_eq_false (by omega)
theorem max_enc : ∀ (l : List (Int × List Int)) (a : Int × List Int), ∃ e ∈ a :: l, (∀ x ∈ a :: l, x.1 ≤ e.1) ∧ maxD (encE a) (l.map encE) = encE e
  | [], a => ⟨a, List.mem_cons_self, fun x hx => by rw [List.mem_singleton.mp hx]; exact Int.le_refl _, rfl⟩
  | y :: l, a => by
    have hd : maxD (encE a) ((y :: l).map encE) = maxD (if dataLt (encE a) (encE y) = true then encE y else encE a) (l.map encE) := rfl
    obtain ⟨l1, l2⟩ := lt_enc a y
    rw [hd]
    cases hc : dataLt (encE a) (encE y) with
    | true =>
      obtain ⟨e, h1, h2, h3⟩ := max_enc l y
      have : ¬ y.1 < a.1 := fun z => by rw [l2 z] at hc; cases hc
      refine ⟨e, List.mem_cons_of_mem _ h1, fun x hx => ?_, h3⟩
      rcases List.mem_cons.mp hx with rfl | hx
      · have := h2 y List.mem_cons_self; omega
      · exact h2 x hx
    | false =>
      obtain ⟨e, h1, h2, h3⟩ := max_enc l a
      have : ¬ a.1 < y.1 := fun z => by rw [l1 z] at hc; cases hc
      refine ⟨e, ?_, fun x hx => ?_, h3⟩
      · rcases List.mem_cons.mp h1 with rfl | h1
        · exact List.mem_cons_self
        · exact List.mem_cons_of_mem _ (List.mem_cons_of_mem _ h1)
      · rcases List.mem_cons.mp hx with rfl | hx
        · exact h2 x List.mem_cons_self
        · rcases List.mem_cons.mp hx with rfl | hx
          · have := h2 a List.mem_cons_self; omega
          · exact h2 x (List.mem_cons_of_mem _ hx)
theorem enc_inj {a b : Int × List Int} (h : encE a = encE b) : a = b := by
  obtain ⟨i, l⟩ := a
  obtain ⟨j, m⟩ := b
  unfold encE at h
  injection h with h
  injection h with h1 h2
  injection h1 with h1
  injection h2 with h2 _
  injection h2 with h2
  have : l = m := by
    have hj : ∀ l m : List Int, l.map PyData.int = m.map PyData.int → l = m := fun l => by
      induction l with
      | nil => intro m h; cases m with
        | nil => rfl
        | cons a m => cases h
      | cons a l ih => intro m h; cases m with
        | nil => cases h
        | cons b m =>
          rw [List.map_cons, List.map_cons] at h
          injection h with h1 h2
          injection h1 with h1
          rw [h1, ih m h2]
    exact hj l m h2
  dsimp only at h1
  rw [h1, this]
theorem deep_enc : ∀ l : List (Int × List Int), PyData.depthAll (l.map encE) ≤ 2
  | [] => by show (0 : Nat) ≤ 2; decide
  | a :: l => by
    have h := deep_enc l
    have h2 : (encE a).depth ≤ 2 := by
      unfold encE
      have : PyData.depthAll (a.2.map .int) = 0 := PySem.W.depth_ints _
      simp [PyData.depth, PyData.depthAll, this]
    rw [List.map_cons]
    unfold PyData.depthAll
    omega
section
variable {s : Sto}
theorem max_ends {l : List (Int × List Int)} (h : l ≠ []) : ∃ e ∈ l, (∀ x ∈ l, x.1 ≤ e.1) ∧ ∀ s, maxPD s [.lst (l.map endD)] = some (endD e) := by
  cases l with
  | nil => exact absurd rfl h
  | cons a l =>
    obtain ⟨e, h1, h2, h3⟩ := max_enc l a
    refine ⟨e, h1, h2, fun s => ?_⟩
    obtain ⟨i, hi⟩ := List.getElem?_of_mem h1
    refine max_P (d := encE a) (ds := l.map encE) (i := i) (toXs_ends (a :: l)) ⟨fun x hx y hy => ?_, fun x hx => ?_⟩ (Nat.le_trans (deep_enc (a :: l)) (by decide)) (by rw [List.getElem?_map, hi]; rfl) ?_ fun j w' hj hw => ?_
    · obtain ⟨b, _, rfl⟩ := List.mem_map.mp (show x ∈ (a :: l).map encE from hx)
      obtain ⟨c, _, rfl⟩ := List.mem_map.mp (show y ∈ (a :: l).map encE from hy)
      exact alike_enc b c
    · obtain ⟨b, _, rfl⟩ := List.mem_map.mp (show x ∈ (a :: l).map encE from hx)
      exact fun z => nomatch z
    · rw [h3]
      show ((a :: l).map encE)[i]? = _
      rw [List.getElem?_map, hi]
      rfl
    · rw [h3] at hj
      have hj : ((a :: l).map encE)[j]? = _ := hj
      rw [List.getElem?_map] at hj hw
      obtain ⟨b, hb, e1⟩ := Option.map_eq_some_iff.mp hj
      rw [hb] at hw
      rw [enc_inj e1] at hw
      exact (Option.some.inj hw).symm
def reF (rs ns : List Int) (m : Int) (n : Nat) : Int × Int := (minO 0 ((endsL rs ns m n).map (·.1)), maxO 0 ((endsL rs ns m n).map (·.1)))
def reD (p : Int × Int) : Dv := tI [p.1, p.2]
theorem min_I {l : List Int} (h : l ≠ []) : minLD s [lI l] = some (.int (minO 0 l)) := by
  cases l with
  | nil => exact absurd rfl h
  | cons a l =>
    show (match intsOf ((a :: l).map .int) with
      | some (n :: ns) => some (Dv.int (minO 0 (n :: ns)))
      | _ => none) = _
    rw [intsOf_I]
theorem minO_in {l : List Int} (h : l ≠ []) : minO 0 l ∈ l ∧ ∀ y ∈ l, minO 0 l ≤ y := by
  cases l with
  | nil => exact absurd rfl h
  | cons a l =>
    obtain ⟨h1, h2⟩ := foldl_min_le l a
    exact ⟨foldl_min_mem l a, fun y hy => by
      rcases List.mem_cons.mp hy with rfl | hy
      · exact h1
      · exact h2 y hy⟩
theorem endsL_len {rs ns : List Int} {m : Int} {n : Nat} (hr : Rule rs) (hl : rs.length ≤ ns.length) : (endsL rs ns m n).length ≤ 300000 := by
  unfold endsL
  rw [List.length_map]
  have := Nat.min_le_right n rs.length
  have := hr.six
  exact Nat.le_trans (ascL_count _) (pow8 (valsL_len hr hl).2 (by omega))
theorem reach_of_ok {rs ns : List Int} {m : Int} {n : Nat} (hr : Rule rs) (hn : Row ns) (hl : rs.length ≤ ns.length) (h200 : n ≤ 200) : g_reach_of [tI rs, tI ns, .int m, .int (n : Int)] s = .ok (reD (reF rs ns m n)) s := by
  let E (x4 x5 x6 : Option Dv) : Env := [some (tI rs), some (tI ns), some (.int m), some (.int (n : Int)), x4, x5, x6]
  have e0 : startD 7 [tI rs, tI ns, .int m, .int (n : Int)] = E none none none := rfl
  have hF : cF_reach_of_1 (E none none none) s = .ok { ws := (endsL rs ns m n).map endD } s := by
    have h : mCall (g_ends_of) (mCons (mVar 0) (mCons (mVar 1) (mCons (mVar 2) (mCons (mVar 3) mNil)))) (E none none none) s = .ok (.lst ((endsL rs ns m n).map endD)) s :=
      call_v (cons_v (w := tI rs) rfl (cons_v (w := tI ns) rfl (cons_v (w := .int m) rfl (cons_v (w := .int (n : Int)) rfl nil_ev)))) (ends_ok hr hn hl h200)
    show iSeq _ _ _ = _
    unfold iSeq
    rw [h]
    rfl
  have hc := comp_mapA (vs := [5, 6]) (g := ct_reach_of_1) (elt := ce_reach_of_1) (fun e : Int × List Int => Dv.int e.1) hF (by have := endsL_len (m := m) (n := n) hr hl; unfold lim; omega) fun e _ => ⟨E none (some (.int e.1)) (some (tI e.2)), rfl, rfl⟩
  have e : ((endsL rs ns m n).map fun e => Dv.int e.1) = ((endsL rs ns m n).map (·.1)).map .int := by rw [List.map_map]; rfl
  rw [e] at hc
  have ne : (endsL rs ns m n).map (·.1) ≠ [] := by simp [endsL_ne]
  have a1 : mAsg (mComp cF_reach_of_1 [5, 6] ct_reach_of_1 ci_reach_of_1 ce_reach_of_1) (gN 4) (E none none none) s = .nx (E (some (lI ((endsL rs ns m n).map (·.1)))) none none) s := asg_v hc
  unfold g_reach_of d_reach_of
  rw [den_ev, e0]
  refine fin_nx a1 ?_
  refine (congrArg (finC _) (ret_v (w := reD (reF rs ns m n)) ?_)).trans finC_rt
  exact tup_v (cons_v (blt_v (cons_v (w := lI ((endsL rs ns m n).map (·.1))) rfl nil_ev) (min_I ne)) (cons_v (blt_v (cons_v (w := lI ((endsL rs ns m n).map (·.1))) rfl nil_ev) (max_I ne)) nil_ev)) (by show 2 ≤ 1000000; decide)
theorem reach_ok {rs ns : List Int} {m : Int} {n : Nat} (hr : Rule rs) (hn : Row ns) (hl : rs.length ≤ ns.length) (h0 : 0 ≤ m) (h1 : m ≤ 1000000) (h200 : n ≤ 200) : g_reach [tI rs, tI ns, .int m, .int (n : Int)] s = .ok (reD (reF rs ns m n)) s := by
  let E : Env := [some (tI rs), some (tI ns), some (.int m), some (.int (n : Int))]
  have e0 : startD 4 [tI rs, tI ns, .int m, .int (n : Int)] = E := rfl
  unfold g_reach d_reach
  rw [den_ev, e0]
  refine fin_nx (ρ1 := E) (s1 := s) (expr_v (call_v (cons_v (w := tI rs) rfl (cons_v (w := tI ns) rfl (cons_v (w := .int m) rfl nil_ev))) (need_ahead_ok hr hn hl h0 h1))) ?_
  exact (congrArg (finC _) (ret_v (call_v (cons_v (w := tI rs) rfl (cons_v (w := tI ns) rfl (cons_v (w := .int m) rfl (cons_v (w := .int (n : Int)) (call_v (cons_v (w := .int (n : Int)) rfl nil_ev) (need_rounds_ok h200)) nil_ev)))) (reach_of_ok hr hn hl h200)))).trans finC_rt
theorem way_ok {rs ns : List Int} {m : Int} {n : Nat} (hr : Rule rs) (hn : Row ns) (hl : rs.length ≤ ns.length) (h0 : 0 ≤ m) (h1 : m ≤ 1000000) (h200 : n ≤ 200) :
    ∃ e ∈ endsL rs ns m n, e.1 = (reF rs ns m n).2 ∧ ∀ s, g_greatest_way [tI rs, tI ns, .int m, .int (n : Int)] s = .ok (tI (List.replicate (n - e.2.length) 0 ++ e.2)) s := by
  obtain ⟨e, he, hmax, hm⟩ := max_ends (l := endsL rs ns m n) endsL_ne
  have ne : (endsL rs ns m n).map (·.1) ≠ [] := by simp [endsL_ne]
  obtain ⟨m1, m2⟩ := maxO_in ne
  refine ⟨e, he, ?_, fun s => ?_⟩
  · obtain ⟨x, hx, hx2⟩ := List.mem_map.mp m1
    have := hmax x hx
    have := m2 e.1 (List.mem_map_of_mem (f := fun e : Int × List Int => e.1) he)
    show e.1 = maxO 0 _
    omega
  let E (x4 x5 : Option Dv) : Env := [some (tI rs), some (tI ns), some (.int m), some (.int (n : Int)), x4, x5]
  have e0 : startD 6 [tI rs, tI ns, .int m, .int (n : Int)] = E none none := rfl
  have hel : e.2.length = min n rs.length := by
    obtain ⟨lot, hlot, rfl⟩ := List.mem_map.mp he
    exact ascL_len hlot
  have a1 : mAsg (mBlt maxPD (mCons (mCall (g_ends_of) (mCons (mVar 0) (mCons (mVar 1) (mCons (mVar 2) (mCons (mCall (g_need_rounds) (mCons (mVar 3) mNil)) mNil))))) mNil)) (gT 2 (gsC (gN 4) (gsC (gN 5) gs0))) (E none none) s = .nx (E (some (.int e.1)) (some (tI e.2))) s := by
    refine asg_gv (w := endD e) (blt_v (cons_v (w := .lst ((endsL rs ns m n).map endD)) (call_v (cons_v (w := tI rs) rfl (cons_v (w := tI ns) rfl (cons_v (w := .int m) rfl (cons_v (w := .int (n : Int)) (call_v (cons_v (w := .int (n : Int)) rfl nil_ev) (need_rounds_ok h200)) nil_ev)))) (ends_ok hr hn hl h200)) nil_ev) (hm s)) rfl
  have v1 : mBin mulD (mTup (mCons (mK (.int 0)) mNil)) (mBin subD (mVar 3) (mBlt lenD (mCons (mVar 5) mNil))) (E (some (.int e.1)) (some (tI e.2))) s = .ok (tI (List.replicate (n - e.2.length) 0)) s :=
    bin_v (x := .tup [.int 0]) (y := .int ((n - e.2.length : Nat) : Int)) rfl (bin_v (x := .int (n : Int)) (y := .int (e.2.length : Int)) rfl (blt_v (cons_v (w := tI e.2) rfl nil_ev) (by rw [tI, len_tup, List.length_map])) (by rw [sub_ev, Int.natCast_sub (by rw [hel]; exact Nat.min_le_left _ _)])) (mul_one_tup (by omega))
  unfold g_greatest_way d_greatest_way
  rw [den_ev, e0]
  refine fin_nx (ρ1 := E none none) (s1 := s) (expr_v (call_v (cons_v (w := tI rs) rfl (cons_v (w := tI ns) rfl (cons_v (w := .int m) rfl nil_ev))) (need_ahead_ok hr hn hl h0 h1))) (fin_nx a1 ?_)
  refine (congrArg (finC _) (ret_v (add_tI v1 rfl ?_))).trans finC_rt
  have := Nat.min_le_left n rs.length
  rw [List.length_replicate]
  omega
def soF (rs ns : List Int) (m goal : Int) : Option Nat := (List.range (rs.length + 1)).find? fun k => decide (goal ≤ (reF rs ns m k).2)
def soD : Option Nat → Dv
  | none => .non
  | some k => .int (k : Int)
def soS (rs ns : List Int) (m goal : Int) : Unit → Nat → Dv ⊕ Unit := fun _ k => if decide (goal ≤ (reF rs ns m k).2) = true then .inl (.int (k : Int)) else .inr ()
theorem soR {rs ns : List Int} {m goal : Int} : ∀ l : List Nat, runL (soS rs ns m goal) () l = match l.find? fun k => decide (goal ≤ (reF rs ns m k).2) with
    | some k => .inl (.int (k : Int))
    | none => .inr ()
  | [] => rfl
  | a :: l => by
    unfold runL soS
    rw [List.find?_cons]
    cases h : decide (goal ≤ (reF rs ns m a).2) with
    | true => rfl
    | false => exact soR l
theorem soonest_ok {rs ns : List Int} {m goal : Int} (hr : Rule rs) (hn : Row ns) (hl : rs.length ≤ ns.length) (h0 : 0 ≤ m) (h1 : m ≤ 1000000) : g_soonest [tI rs, tI ns, .int m, .int goal] s = .ok (soD (soF rs ns m goal)) s := by
  let E (x4 : Option Dv) : Env := [some (tI rs), some (tI ns), some (.int m), some (.int goal), x4]
  have e0 : startD 5 [tI rs, tI ns, .int m, .int goal] = E none := rfl
  have h6 := hr.six
  have c2 : mTest (mCall (g_is_int) (mCons (mVar 3) mNil)) (E none) s = .ok true s := test_v (call_v (cons_v (w := .int goal) rfl nil_ev) (is_int_int goal s))
  have hF : F_soonest_1 (E none) s = .ok { ws := (List.range (rs.length + 1)).map fun k : Nat => Dv.int (k : Int) } s := by
    refine (range1_ok (j := ((rs.length + 1 : Nat) : Int)) (cons_v (bin_v (x := .int (rs.length : Int)) (y := .int 1) (blt_v (cons_v (w := tI rs) rfl nil_ev) (by rw [tI, len_tup, List.length_map])) k_ev (by rw [add_ii]; rfl)) nil_ev) (okR_s (by omega) (by omega))).trans ?_
    rw [rng_ev, Int.toNat_natCast]
    simp only [Int.zero_add]
  have f1 := for_run (g := t_soonest_1) (body := b_soonest_1) (ρ := E none) (fun (_ : Unit) ρ => ∃ x4, ρ = E x4) (soS rs ns m goal) () hF ⟨_, rfl⟩ fun k hk _ ρ hJ => by
    obtain ⟨x4, rfl⟩ := hJ
    have hk' := List.mem_range.mp hk
    refine ⟨E (some (.int (k : Int))), rfl, ?_⟩
    have v1 : mBin ixA (mCall (g_reach_of) (mCons (mVar 0) (mCons (mVar 1) (mCons (mVar 2) (mCons (mVar 4) mNil))))) (mK (.int 1)) (E (some (.int (k : Int)))) s = .ok (.int (reF rs ns m k).2) s :=
      bin_v (x := reD (reF rs ns m k)) (y := .int ((1 : Nat) : Int)) (call_v (cons_v (w := tI rs) rfl (cons_v (w := tI ns) rfl (cons_v (w := .int m) rfl (cons_v (w := .int (k : Int)) rfl nil_ev)))) (reach_of_ok hr hn hl (by omega))) rfl (ix_tup rfl)
    have t1 : mTest (mBin geD (mBin ixA (mCall (g_reach_of) (mCons (mVar 0) (mCons (mVar 1) (mCons (mVar 2) (mCons (mVar 4) mNil))))) (mK (.int 1))) (mVar 3)) (E (some (.int (k : Int)))) s = .ok (decide (goal ≤ (reF rs ns m k).2)) s := test_v (bin_v v1 rfl rfl)
    unfold b_soonest_1 soS
    cases hd : decide (goal ≤ (reF rs ns m k).2) with
    | true =>
      rw [hd] at t1
      rw [ifS_t t1, if_pos rfl]
      exact ret_v (w := .int (k : Int)) rfl
    | false =>
      rw [hd] at t1
      rw [ifS_f t1, if_neg Bool.false_ne_true]
      exact ⟨_, rfl, _, rfl⟩
  unfold g_soonest d_soonest
  rw [den_ev, e0]
  refine fin_nx (ρ1 := E none) (s1 := s) (expr_v (call_v (cons_v (w := tI rs) rfl (cons_v (w := tI ns) rfl (cons_v (w := .int m) rfl nil_ev))) (need_ahead_ok hr hn hl h0 h1))) (fin_nx (ρ1 := E none) (s1 := s) (if_no (not_vt c2)) ?_)
  rw [soR] at f1
  have hso : soF rs ns m goal = (List.range (rs.length + 1)).find? fun k => decide (goal ≤ (reF rs ns m k).2) := rfl
  rw [hso]
  cases hf : (List.range (rs.length + 1)).find? fun k => decide (goal ≤ (reF rs ns m k).2) with
  | some k =>
    rw [hf] at f1
    exact fin_rtS f1 finC_rt
  | none =>
    rw [hf] at f1
    obtain ⟨ρ', h1, _⟩ := f1
    exact fin_nx h1 ((congrArg (finC _) (ret_v (w := .non) rfl)).trans finC_rt)
end
end MP.PG
set_option Elab.async false
set_option linter.all false
set_option maxRecDepth 100000
set_option maxHeartbeats 1000000
namespace MP.PG
open PySem PySem.Spec MP
open PyProof.Rows hiding St
open L2 hiding St r1
section
abbrev SL (L : List (Int × Int)) (f : Int × Int → Int) : Int := (L.map fun q => q.2 * f q).sum
theorem SL_mul {L : List (Int × Int)} {c : Int} {f : Int × Int → Int} : SL L (fun q => c * f q) = c * SL L f := by
  unfold SL
  rw [← sum_map_mul]
  congr 1
  exact List.map_congr_left fun q _ => Int.mul_left_comm _ _ _
variable {o : Int} {ts : List Term} {ns : List Int}
/-- the bits of a layer -/
def lay (lev : Int) (ns : List Int) : List Int := ns.map (at1 lev)
theorem lay_len {lev : Int} : (lay lev ns).length = ns.length := List.length_map _
theorem ixe_lay {L : List (Int × Int)} {rs : List Int} {e : Nat} (hL : ∀ n ∈ ns, SL L (fun q => at1 q.1 n) = n) : SL L (fun q => ixe rs (lay q.1 ns) e) = ixe rs ns e := by
  have : SL L (fun q => ixe rs (lay q.1 ns) e) = (L.map fun p => p.2 * dot rs ((srt (seg rs ns e)).map (at1 p.1))).sum := by
    unfold SL ixe
    congr 1
    refine List.map_congr_left fun q _ => ?_
    dsimp only
    have : seg rs (lay q.1 ns) e = (seg rs ns e).map (at1 q.1) := by
      unfold seg lay
      rw [← List.map_drop, ← List.map_take]
    rw [this, srt_at1]
  rw [this]
  refine dot_levels fun n hn => hL n ?_
  exact List.mem_of_mem_drop (List.mem_of_mem_take ((srt_perm (seg rs ns e)).mem_iff.mp hn))
/-- all levels up to one, each by itself -/
def ul (M : Nat) : List (Int × Int) := (List.range M).map fun i : Nat => ((i : Int) + 1, 1)
theorem ul_succ {M : Nat} {f : Int × Int → Int} : SL (ul (M + 1)) f = SL (ul M) f + f ((M : Int) + 1, 1) := by
  unfold SL ul
  rw [List.range_succ, List.map_append, List.map_append, List.sum_append]
  show _ + (1 * f ((M : Int) + 1, 1) + 0) = _
  omega
theorem ul_val : ∀ {M : Nat} {n : Int}, 0 ≤ n → SL (ul M) (fun q => at1 q.1 n) = if n ≤ M then n else M
  | 0, n, h => by
    show (0 : Int) = _
    split <;> omega
  | M + 1, n, h => by
    rw [ul_succ, ul_val h]
    unfold at1
    dsimp only
    split <;> split <;> split <;> omega
variable {p : Nat → Int} {N w : Nat}
end
end MP.PG
set_option Elab.async false
set_option linter.all false
set_option maxRecDepth 100000
set_option maxHeartbeats 1000000
namespace MP.PG
open PySem PySem.Spec MP
open PyProof.Rows hiding St
open L2 hiding St r1
def cn (q : Int) (y : List Int) : Nat := (y.map fun n => if q ≤ n then 1 else 0).sum
theorem cn_app {q : Int} {x y : List Int} : cn q (x ++ y) = cn q x + cn q y := by
  unfold cn
  rw [List.map_append, List.sum_append]
theorem cn_cons {q a : Int} {y : List Int} : cn q (a :: y) = (if q ≤ a then 1 else 0) + cn q y := by
  unfold cn
  rw [List.map_cons, List.sum_cons]
theorem cn_perm {q : Int} {x y : List Int} (h : x.Perm y) : cn q x = cn q y := (h.map _).sum_nat
theorem cn_zero {q : Int} : ∀ {y : List Int}, (∀ n ∈ y, n < q) → cn q y = 0
  | [], _ => rfl
  | a :: y, h => by
    have := h a List.mem_cons_self
    rw [cn_cons, if_neg (by omega), cn_zero fun n hn => h n (List.mem_cons_of_mem _ hn)]
theorem cn_anti {q q' : Int} (h : q ≤ q') : ∀ y : List Int, cn q' y ≤ cn q y
  | [] => Nat.le_refl _
  | a :: y => by
    have := cn_anti h y
    rw [cn_cons, cn_cons]
    split <;> split <;> omega
theorem cn_ne {u : Int} : ∀ {y : List Int}, cn u y ≠ cn (u + 1) y → u ∈ y
  | [], h => absurd rfl h
  | a :: y, h => by
    by_cases e : u = a
    · rw [e]; exact List.mem_cons_self
    · refine List.mem_cons_of_mem _ (cn_ne fun z => h ?_)
      rw [cn_cons, cn_cons, z]
      congr 1
      by_cases hh : u ≤ a
      · rw [if_pos hh, if_pos (by omega)]
      · rw [if_neg hh, if_neg (by omega)]
theorem cn_congr {q q' : Int} {x : List Int} {S : Int → Int} (h : ∀ t ∈ x, q ≤ S t ↔ q' ≤ t) : cn q (x.map S) = cn q' x := by
  unfold cn
  rw [List.map_map]
  congr 1
  refine List.map_congr_left fun t ht => ?_
  show (if q ≤ S t then 1 else 0) = _
  by_cases hh : q' ≤ t
  · rw [if_pos hh, if_pos ((h t ht).mpr hh)]
  · rw [if_neg hh, if_neg fun z => hh ((h t ht).mp z)]
theorem dot_lay {rs y : List Int} {q : Int} (hl : y.length = rs.length) : dot rs (srt (lay q y)) = idb rs (cn q y) := by
  let bs : List Nat := y.map fun n => if q ≤ n then 1 else 0
  have hb : Bits01 bs := fun b hb => by
    obtain ⟨n, _, rfl⟩ := List.mem_map.mp hb
    split <;> omega
  have e : lay q y = toI bs := by
    show y.map (at1 q) = (y.map fun n => if q ≤ n then 1 else 0).map _
    rw [List.map_map]
    refine List.map_congr_left fun n _ => ?_
    show (if q ≤ n then (1 : Int) else 0) = ((if q ≤ n then 1 else 0 : Nat) : Int)
    split <;> rfl
  rw [e, dot_bits hb (by rw [← hl]; exact List.length_map _), pop_num hb]
  rfl
theorem dot_cn {rs y : List Int} {M : Nat} (hl : y.length = rs.length) (hy : ∀ n ∈ y, 0 ≤ n ∧ n ≤ M) : dot rs (srt y) = SL (ul M) fun q => idb rs (cn q.1 y) := by
  have hs : seg rs y y.length = y := by
    unfold seg
    rw [hl, Nat.sub_self, List.drop_zero, ← hl, List.take_length]
  have h := ixe_lay (L := ul M) (ns := y) (rs := rs) (e := y.length) fun n hn => by
    rw [ul_val (hy n hn).1, if_pos (hy n hn).2]
  have e2 : ixe rs y y.length = dot rs (srt y) := by
    unfold ixe
    rw [hs]
  rw [← e2, ← h]
  congr 1
  funext q
  unfold ixe
  have hs2 : seg rs (lay q.1 y) y.length = lay q.1 y := by
    unfold seg
    have : (lay q.1 y).length = rs.length := by rw [lay_len, hl]
    rw [hl, Nat.sub_self, List.drop_zero, ← this, List.take_length]
  rw [hs2, dot_lay hl]
theorem SL_le2 {f g : Int × Int → Int} : ∀ {M : Nat}, (∀ i, i < M → f ((i : Int) + 1, 1) ≤ g ((i : Int) + 1, 1)) → SL (ul M) f ≤ SL (ul M) g
  | 0, _ => Int.le_refl _
  | M + 1, h => by
    have := SL_le2 (M := M) fun i hi => h i (by omega)
    have := h M (by omega)
    rw [ul_succ, ul_succ]
    omega
theorem SL_const {c : Int} {f : Int × Int → Int} : ∀ {M : Nat}, (∀ i, i < M → f ((i : Int) + 1, 1) = c) → SL (ul M) f = M * c
  | 0, _ => by
    show (0 : Int) = 0 * c
    rw [Int.zero_mul]
  | M + 1, h => by
    rw [ul_succ, SL_const (M := M) fun i hi => h i (by omega), h M (by omega)]
    rw [Int.natCast_succ, Int.add_mul, Int.one_mul]
theorem arg_max {f : Nat → Int} {P : Nat → Prop} [DecidablePred P] : ∀ {M : Nat}, (∃ q, 1 ≤ q ∧ q ≤ M ∧ P q) → ∃ b, (1 ≤ b ∧ b ≤ M ∧ P b) ∧ ∀ q, 1 ≤ q → q ≤ M → P q → f q ≤ f b
  | 0, ⟨q, h1, h2, _⟩ => by omega
  | M + 1, ⟨q, h1, h2, h3⟩ => by
    by_cases hm : ∃ q, 1 ≤ q ∧ q ≤ M ∧ P q
    · obtain ⟨b, ⟨b1, b2, b3⟩, hb⟩ := arg_max (f := f) hm
      by_cases hp : P (M + 1) ∧ f b < f (M + 1)
      · refine ⟨M + 1, ⟨by omega, Nat.le_refl _, hp.1⟩, fun q q1 q2 q3 => ?_⟩
        rcases Nat.lt_or_ge M q with z | z
        · have : q = M + 1 := by omega
          rw [this]
          exact Int.le_refl _
        · have := hb q q1 z q3
          omega
      · refine ⟨b, ⟨b1, by omega, b3⟩, fun q q1 q2 q3 => ?_⟩
        rcases Nat.lt_or_ge M q with z | z
        · have : q = M + 1 := by omega
          subst this
          exact Int.not_lt.mp fun z => hp ⟨q3, z⟩
        · exact hb q q1 z q3
    · have : q = M + 1 := by
        rcases Nat.lt_or_ge M q with z | z
        · omega
        · exact absurd ⟨q, h1, z, h3⟩ hm
      subst this
      refine ⟨M + 1, ⟨h1, Nat.le_refl _, h3⟩, fun p p1 p2 p3 => ?_⟩
      rcases Nat.lt_or_ge M p with z | z
      · have : p = M + 1 := by omega
        rw [this]
        exact Int.le_refl _
      · exact absurd ⟨p, p1, z, p3⟩ hm
theorem down_set {P : Nat → Prop} [DecidablePred P] : ∀ {M : Nat}, (∀ p q, 1 ≤ p → p ≤ q → q ≤ M → P q → P p) → ∃ u, u ≤ M ∧ ∀ q, 1 ≤ q → q ≤ M → (q ≤ u ↔ P q)
  | 0, _ => ⟨0, Nat.le_refl _, fun q h1 h2 => by omega⟩
  | M + 1, h => by
    by_cases hp : P (M + 1)
    · exact ⟨M + 1, Nat.le_refl _, fun q h1 h2 => ⟨fun _ => h q (M + 1) h1 h2 (Nat.le_refl _) hp, fun _ => h2⟩⟩
    · obtain ⟨u, hu, hq⟩ := down_set (P := P) (M := M) fun p q h1 h2 h3 => h p q h1 h2 (by omega)
      refine ⟨u, by omega, fun q h1 h2 => ?_⟩
      rcases Nat.lt_or_ge M q with z | z
      · have : q = M + 1 := by omega
        subst this
        exact ⟨fun z => by omega, fun z => absurd z hp⟩
      · exact hq q h1 z
/-- each row of free results: one of nought, the most and what is kept that is no less, by any price of the levels -/
theorem snap {φ : Nat → Int} {kept x : List Int} {M : Nat} (hx : ∀ a ∈ x, 0 ≤ a ∧ a ≤ M) : ∃ x' : List Int, x'.length = x.length ∧ (∀ a ∈ x', a = 0 ∨ a = M ∨ (a ∈ kept ∧ a < M)) ∧ (∀ a ∈ x', 0 ≤ a ∧ a ≤ M) ∧
    ∀ B, SL (ul B) (fun q => φ (cn q.1 (kept ++ x))) ≤ SL (ul B) (fun q => φ (cn q.1 (kept ++ x'))) := by
  let K : Nat → Nat := fun q => cn (q : Int) kept
  let f : Nat → Int := fun q => φ (cn (q : Int) kept + cn (q : Int) x)
  have hB : ∀ c : Nat, ∃ b, (∃ q, 1 ≤ q ∧ q ≤ M ∧ K q = c) → ((1 ≤ b ∧ b ≤ M ∧ K b = c) ∧ ∀ q, 1 ≤ q → q ≤ M → K q = c → f q ≤ f b) := fun c => by
    by_cases h : ∃ q, 1 ≤ q ∧ q ≤ M ∧ K q = c
    · obtain ⟨b, h1, h2⟩ := arg_max (f := f) (P := fun q => K q = c) h
      exact ⟨b, fun _ => ⟨h1, h2⟩⟩
    · exact ⟨0, fun z => absurd z h⟩
  obtain ⟨bC, hbC⟩ := Classical.axiomOfChoice hB
  let b : Nat → Nat := fun q => bC (K q)
  have hb : ∀ q, 1 ≤ q → q ≤ M → 1 ≤ b q ∧ b q ≤ M ∧ K (b q) = K q ∧ f q ≤ f (b q) := fun q h1 h2 => by
    obtain ⟨⟨a1, a2, a3⟩, a4⟩ := hbC (K q) ⟨q, h1, h2, rfl⟩
    exact ⟨a1, a2, a3, a4 q h1 h2 rfl⟩
  have hK : ∀ p q, p ≤ q → K q ≤ K p := fun p q h => cn_anti (by omega) kept
  have hmono : ∀ p q, 1 ≤ p → p ≤ q → q ≤ M → b p ≤ b q := fun p q h1 h2 h3 => by
    by_cases e : K p = K q
    · show bC (K p) ≤ bC (K q)
      rw [e]
      exact Nat.le_refl _
    · have := hK p q h2
      have p3 := (hb p h1 (by omega)).2.2.1
      have q3 := (hb q (by omega) h3).2.2.1
      rcases Nat.lt_or_ge (b q) (b p) with z | z
      · have := hK (b q) (b p) (by omega)
        omega
      · exact z
  have hS : ∀ t : Int, ∃ u : Nat, u ≤ M ∧ ∀ q : Nat, 1 ≤ q → q ≤ M → (q ≤ u ↔ (b q : Int) ≤ t) := fun t =>
    down_set (P := fun q : Nat => (b q : Int) ≤ t) fun p q h1 h2 h3 h4 => by
      have := hmono p q h1 h2 h3
      omega
  obtain ⟨S, hS⟩ := Classical.axiomOfChoice hS
  refine ⟨x.map fun t => (S t : Int), List.length_map _, fun a ha => ?_, fun a ha => ?_, fun B => SL_le2 fun i hi => ?_⟩
  · obtain ⟨t, _, rfl⟩ := List.mem_map.mp ha
    obtain ⟨s1, s2⟩ := hS t
    rcases Nat.eq_zero_or_pos (S t) with z | z
    · left; rw [z]; rfl
    rcases Nat.lt_or_ge (S t) M with w | w
    · right; right
      refine ⟨?_, by omega⟩
      have p1 := (s2 (S t) z s1).mp (Nat.le_refl _)
      have p2 : ¬ ((b (S t + 1) : Int) ≤ t) := fun y => by
        have := (s2 (S t + 1) (by omega) (by omega)).mpr y
        omega
      refine cn_ne fun y => ?_
      have e : K (S t) = K (S t + 1) := by
        show cn _ kept = cn ((S t + 1 : Nat) : Int) kept
        rw [Int.natCast_succ]
        exact y
      have e2 : b (S t) = b (S t + 1) := by
        show bC (K (S t)) = bC (K (S t + 1))
        rw [e]
      rw [← e2] at p2
      exact p2 p1
    · right; left; omega
  · obtain ⟨t, _, rfl⟩ := List.mem_map.mp ha
    have := (hS t).1
    exact ⟨by omega, by omega⟩
  · show φ (cn ((i : Int) + 1) (kept ++ x)) ≤ φ (cn ((i : Int) + 1) (kept ++ x.map fun t => (S t : Int)))
    rw [cn_app, cn_app, show (i : Int) + 1 = ((i + 1 : Nat) : Int) by omega]
    rcases Nat.lt_or_ge i M with w | w
    · obtain ⟨a1, a2, a3, a4⟩ := hb (i + 1) (by omega) (by omega)
      have e : cn ((i + 1 : Nat) : Int) (x.map fun t => (S t : Int)) = cn (b (i + 1) : Int) x := cn_congr fun t _ => by
        have := (hS t).2 (i + 1) (by omega) (by omega)
        constructor
        · intro z; exact this.mp (by omega)
        · intro z; have := this.mpr z; omega
      rw [e]
      have a5 : φ (cn ((i + 1 : Nat) : Int) kept + cn ((i + 1 : Nat) : Int) x) ≤ φ (cn (b (i + 1) : Int) kept + cn (b (i + 1) : Int) x) := a4
      have a6 : cn (b (i + 1) : Int) kept = cn ((i + 1 : Nat) : Int) kept := a3
      rw [a6] at a5
      exact a5
    · have z1 : cn ((i + 1 : Nat) : Int) x = 0 := cn_zero fun n hn => by have := hx n hn; omega
      have z2 : cn ((i + 1 : Nat) : Int) (x.map fun t => (S t : Int)) = 0 := cn_zero fun n hn => by
        obtain ⟨t, _, rfl⟩ := List.mem_map.mp hn
        have := (hS t).1
        omega
      rw [z1, z2]
      exact Int.le_refl _
theorem asc_mem {vs : List Int} : ∀ {n : Nat} {lot : List Int}, lot.length = n → lot.Pairwise (· ≤ ·) → (∀ i ∈ lot, i ∈ vs) → lot ∈ ascL vs n
  | 0, lot, h, _, _ => by
    obtain rfl := List.length_eq_zero_iff.mp h
    exact List.mem_cons_self
  | n + 1, lot, h, hp, hv => by
    rcases List.eq_nil_or_concat lot with rfl | ⟨l, u, rfl⟩
    · cases h
    rw [List.concat_eq_append] at h hp hv ⊢
    obtain ⟨p1, _, p3⟩ := List.pairwise_append.mp hp
    have hl : l.length = n := by rw [List.length_append, List.length_singleton] at h; omega
    have ih := asc_mem hl p1 fun i hi => hv i (List.mem_append_left _ hi)
    refine List.mem_flatMap.mpr ⟨l, ih, List.mem_map.mpr ⟨u, List.mem_filter.mpr ⟨hv u (List.mem_append_right _ List.mem_cons_self), ?_⟩, rfl⟩⟩
    unfold okL
    cases hq : l.getLast? with
    | none => rfl
    | some w => exact decide_eq_true (p3 w (List.mem_of_getLast? hq) u List.mem_cons_self)
theorem allR_mem {marks : List Int} : ∀ {n : Nat} {r : List Int}, r ∈ allR marks n ↔ r.length = n ∧ ∀ i ∈ r, i ∈ marks
  | 0, r => by
    show r ∈ [[]] ↔ _
    rw [List.mem_singleton]
    exact ⟨fun h => by rw [h]; exact ⟨rfl, fun i hi => nomatch hi⟩, fun h => List.length_eq_zero_iff.mp h.1⟩
  | n + 1, r => by
    constructor
    · intro h
      obtain ⟨q, hq, hr⟩ := List.mem_flatMap.mp h
      obtain ⟨m, hm, rfl⟩ := List.mem_map.mp hr
      obtain ⟨i1, i2⟩ := allR_mem.mp hq
      refine ⟨by rw [List.length_append, i1]; rfl, fun i hi => ?_⟩
      rcases List.mem_append.mp hi with z | z
      · exact i2 i z
      · rw [List.mem_singleton.mp z]; exact hm
    · rintro ⟨h1, h2⟩
      rcases List.eq_nil_or_concat r with rfl | ⟨l, u, rfl⟩
      · cases h1
      rw [List.concat_eq_append] at h1 h2 ⊢
      have hl : l.length = n := by rw [List.length_append, List.length_singleton] at h1; omega
      exact List.mem_flatMap.mpr ⟨l, allR_mem.mpr ⟨hl, fun i hi => h2 i (List.mem_append_left _ hi)⟩, List.mem_map.mpr ⟨u, h2 u (List.mem_append_right _ List.mem_cons_self), rfl⟩⟩
theorem min_same {l m : List Int} (hl : l ≠ []) (hm : m ≠ []) (h1 : ∀ a ∈ l, ∃ b ∈ m, b ≤ a) (h2 : ∀ b ∈ m, ∃ a ∈ l, a ≤ b) : minO 0 l = minO 0 m := by
  obtain ⟨l1, l2⟩ := minO_in hl
  obtain ⟨m1, m2⟩ := minO_in hm
  obtain ⟨b, hb, hb2⟩ := h1 _ l1
  obtain ⟨a, ha, ha2⟩ := h2 _ m1
  have := m2 b hb
  have := l2 a ha
  omega
theorem max_same {l m : List Int} (hl : l ≠ []) (hm : m ≠ []) (h1 : ∀ a ∈ l, ∃ b ∈ m, a ≤ b) (h2 : ∀ b ∈ m, ∃ a ∈ l, b ≤ a) : maxO 0 l = maxO 0 m := by
  obtain ⟨l1, l2⟩ := maxO_in hl
  obtain ⟨m1, m2⟩ := maxO_in hm
  obtain ⟨b, hb, hb2⟩ := h1 _ l1
  obtain ⟨a, ha, ha2⟩ := h2 _ m1
  have := m2 b hb
  have := l2 a ha
  omega
theorem idx_all {rs y : List Int} (h : y.length = rs.length) : idx rs y = dot rs (srt y) := by
  unfold idx last
  rw [h, Nat.sub_self, List.drop_zero]
theorem keptL_in {rs ns : List Int} {n : Nat} : ∀ i ∈ keptL rs ns n, i ∈ ns := fun i hi => List.mem_of_mem_drop hi
def bnd (ns : List Int) (M : Nat) : Nat := M + (ns.map Int.toNat).sum
theorem bnd_ok {ns : List Int} {M : Nat} : ∀ i ∈ ns, i ≤ bnd ns M := fun i hi => by
  have : ∀ l : List Int, i ∈ l → i.toNat ≤ (l.map Int.toNat).sum := fun l => by
    induction l with
    | nil => intro h; cases h
    | cons a l ih =>
      intro h
      rw [List.map_cons, List.sum_cons]
      rcases List.mem_cons.mp h with rfl | h
      · omega
      · have := ih h; omega
  have := this ns hi
  unfold bnd
  omega
/-- each free row has a lot that is no less, one that is no greater -/
theorem free_lot {rs ns x : List Int} {M n : Nat} (hl : rs.length ≤ ns.length) (hn : ∀ i ∈ ns, 0 ≤ i) (hxl : x.length = min n rs.length) (hx : ∀ a ∈ x, 0 ≤ a ∧ a ≤ M) :
    (∃ e ∈ endsL rs ns M n, idx rs (keptL rs ns n ++ x) ≤ e.1) ∧ ∃ e ∈ endsL rs ns M n, e.1 ≤ idx rs (keptL rs ns n ++ x) := by
  have hk := keptL_len (n := n) hl
  have hmin : min n rs.length ≤ rs.length := Nat.min_le_right _ _
  have hkb : ∀ i ∈ keptL rs ns n, 0 ≤ i ∧ i ≤ bnd ns M := fun i hi => ⟨hn i (keptL_in i hi), bnd_ok i (keptL_in i hi)⟩
  have hMb : M ≤ bnd ns M := Nat.le_add_right _ _
  have lot : ∀ φ : Nat → Int, ∃ x' : List Int, x' ∈ ascL (valsL rs ns M n) (min n rs.length) ∧ x'.length = x.length ∧ (∀ a ∈ x', 0 ≤ a ∧ a ≤ M) ∧ SL (ul (bnd ns M)) (fun q => φ (cn q.1 (keptL rs ns n ++ x))) ≤ SL (ul (bnd ns M)) (fun q => φ (cn q.1 (keptL rs ns n ++ x'))) := fun φ => by
    obtain ⟨x', h1, h2, h3, h4⟩ := snap (φ := φ) (kept := keptL rs ns n) hx
    have hp := srt_perm x'
    refine ⟨srt x', asc_mem (by rw [hp.length_eq, h1, hxl]) (srt_sorted _) fun i hi => valsL_mem.mpr (h2 i (hp.mem_iff.mp hi)), by rw [hp.length_eq, h1], fun a ha => h3 a (hp.mem_iff.mp ha), ?_⟩
    have := h4 (bnd ns M)
    have e : (fun q : Int × Int => φ (cn q.1 (keptL rs ns n ++ srt x'))) = fun q => φ (cn q.1 (keptL rs ns n ++ x')) := by
      funext q
      rw [cn_app, cn_app, cn_perm hp]
    rw [e]
    exact this
  have val : ∀ y : List Int, y.length = x.length → (∀ a ∈ y, 0 ≤ a ∧ a ≤ M) → idx rs (keptL rs ns n ++ y) = SL (ul (bnd ns M)) fun q => idb rs (cn q.1 (keptL rs ns n ++ y)) := fun y h1 h2 => by
    have hyl : (keptL rs ns n ++ y).length = rs.length := by rw [List.length_append]; omega
    rw [idx_all hyl, dot_cn hyl]
    intro i hi
    rcases List.mem_append.mp hi with z | z
    · exact hkb i z
    · have := h2 i z
      exact ⟨this.1, by omega⟩
  constructor
  · obtain ⟨x', h1, h2, h3, h4⟩ := lot (idb rs)
    exact ⟨_, List.mem_map_of_mem (f := fun lot => (idx rs (keptL rs ns n ++ lot), lot)) h1, by rw [val x rfl hx, val x' h2 h3]; exact h4⟩
  · obtain ⟨x', h1, h2, h3, h4⟩ := lot fun k => -idb rs k
    refine ⟨_, List.mem_map_of_mem (f := fun lot => (idx rs (keptL rs ns n ++ lot), lot)) h1, ?_⟩
    show idx rs (keptL rs ns n ++ x') ≤ _
    rw [val x rfl hx, val x' h2 h3]
    have neg : ∀ f : Int × Int → Int, SL (ul (bnd ns M)) (fun q => -f q) = -SL (ul (bnd ns M)) f := fun f => by
      have := SL_mul (L := ul (bnd ns M)) (c := -1) (f := f)
      have e : (fun q => -1 * f q) = fun q => -f q := by funext q; omega
      rw [e] at this
      omega
    have n1 := neg fun q => idb rs (cn q.1 (keptL rs ns n ++ x))
    have n2 := neg fun q => idb rs (cn q.1 (keptL rs ns n ++ x'))
    omega
/-- the last ones of a row and further results -/
theorem last_far {rs ns far : List Int} {n : Nat} (hl : rs.length ≤ ns.length) (hf : far.length = n) : idx rs (ns ++ far) = idx rs (keptL rs ns n ++ far.drop (n - min n rs.length)) ∧ (far.drop (n - min n rs.length)).length = min n rs.length := by
  have h1 : (far.drop (n - min n rs.length)).length = min n rs.length := by
    have := Nat.min_le_left n rs.length
    rw [List.length_drop]
    omega
  refine ⟨?_, h1⟩
  have hk := keptL_len (n := n) hl
  have hmin : min n rs.length ≤ rs.length := Nat.min_le_right _ _
  rw [idx_all (y := keptL rs ns n ++ far.drop (n - min n rs.length)) (by rw [List.length_append]; omega)]
  unfold idx last
  congr 2
  rw [List.length_append, List.drop_append, hf]
  unfold keptL
  rcases Nat.le_total n rs.length with h | h
  · rw [Nat.min_eq_left h, show ns.length + n - rs.length = ns.length - rs.length + n by omega, show ns.length - rs.length + n - ns.length = n - n by omega]
  · rw [Nat.min_eq_right h, List.drop_eq_nil_of_le (show ns.length ≤ ns.length + n - rs.length by omega), List.drop_eq_nil_of_le (show ns.length ≤ ns.length - rs.length + rs.length by omega), show ns.length + n - rs.length - ns.length = n - rs.length by omega]
/-- the law's ends: all further results -/
def mks (M : Nat) : List Int := (List.range (M + 1)).map fun i : Nat => (i : Int)
theorem mks_mem {M : Nat} {i : Int} : i ∈ mks M ↔ 0 ≤ i ∧ i ≤ M := by
  unfold mks
  rw [List.mem_map]
  constructor
  · rintro ⟨a, h, rfl⟩
    have := List.mem_range.mp h
    omega
  · rintro ⟨h1, h2⟩
    exact ⟨i.toNat, List.mem_range.mpr (by omega), by omega⟩
def leL (rs ns : List Int) (M n : Nat) : List Int := (allR (mks M) n).map fun far => idx rs (ns ++ far)
def leF (rs ns : List Int) (M n : Nat) : Int × Int := (minO 0 (leL rs ns M n), maxO 0 (leL rs ns M n))
theorem leL_ne {rs ns : List Int} {M n : Nat} : leL rs ns M n ≠ [] := fun z => by
  have h : List.replicate n (0 : Int) ∈ allR (mks M) n := allR_mem.mpr ⟨List.length_replicate, fun i hi => by
    rw [(List.mem_replicate.mp hi).2]
    exact mks_mem.mpr ⟨Int.le_refl _, by omega⟩⟩
  unfold leL at z
  rw [List.map_eq_nil_iff.mp z] at h
  cases h
theorem le_re {rs ns : List Int} {M n : Nat} (hl : rs.length ≤ ns.length) (hn : ∀ i ∈ ns, 0 ≤ i) : leF rs ns M n = reF rs ns M n := by
  have ne : (endsL rs ns M n).map (·.1) ≠ [] := by simp [endsL_ne]
  have far : ∀ a ∈ leL rs ns M n, (∃ b ∈ (endsL rs ns M n).map (·.1), a ≤ b) ∧ ∃ b ∈ (endsL rs ns M n).map (·.1), b ≤ a := fun a ha => by
    obtain ⟨f, hf, rfl⟩ := List.mem_map.mp ha
    obtain ⟨f1, f2⟩ := allR_mem.mp hf
    obtain ⟨g1, g2⟩ := last_far hl f1
    obtain ⟨⟨e, he, h1⟩, ⟨e', he', h2⟩⟩ := free_lot (M := M) hl hn g2 fun a ha => mks_mem.mp (f2 a (List.mem_of_mem_drop ha))
    rw [g1]
    exact ⟨⟨e.1, List.mem_map_of_mem he, h1⟩, ⟨e'.1, List.mem_map_of_mem he', h2⟩⟩
  have back : ∀ b ∈ (endsL rs ns M n).map (·.1), b ∈ leL rs ns M n := fun b hb => by
    obtain ⟨e, he, rfl⟩ := List.mem_map.mp hb
    obtain ⟨lot, hlot, rfl⟩ := List.mem_map.mp he
    have hll := ascL_len hlot
    have hmin := Nat.min_le_left n rs.length
    refine List.mem_map.mpr ⟨List.replicate (n - min n rs.length) 0 ++ lot, allR_mem.mpr ⟨by rw [List.length_append, List.length_replicate]; omega, fun i hi => ?_⟩, ?_⟩
    · rcases List.mem_append.mp hi with z | z
      · rw [(List.mem_replicate.mp z).2]
        exact mks_mem.mpr ⟨Int.le_refl _, by omega⟩
      · have := valsL_mem.mp (ascL_in hlot i z)
        refine mks_mem.mpr ?_
        rcases this with rfl | rfl | ⟨z1, z2⟩
        · omega
        · omega
        · have := hn i (keptL_in i z1)
          omega
    · have hfl : (List.replicate (n - min n rs.length) (0 : Int) ++ lot).length = n := by rw [List.length_append, List.length_replicate]; omega
      rw [(last_far hl hfl).1]
      have e : (List.replicate (n - min n rs.length) (0 : Int) ++ lot).drop (n - min n rs.length) = lot := List.drop_left' List.length_replicate
      rw [e]
  unfold leF reF
  rw [min_same leL_ne ne (fun a ha => (far a ha).2) fun b hb => ⟨b, back b hb, Int.le_refl _⟩, max_same leL_ne ne (fun a ha => (far a ha).1) fun b hb => ⟨b, back b hb, Int.le_refl _⟩]
end MP.PG
set_option Elab.async false
set_option linter.all false
set_option maxRecDepth 100000
set_option maxHeartbeats 1000000
namespace MP.PG
open PySem PySem.Spec MP
open PyProof.Rows hiding St
open L2 hiding St r1
theorem first_by {α β : Type} [BEq α] [LawfulBEq α] [BEq β] [LawfulBEq β] {R : List α} {T : List β} {tri : α → β} {fr : β → α} (P : β → Bool)
    (h1 : ∀ b ∈ R, tri b ∈ T) (h2 : ∀ t ∈ T, fr t ∈ R ∧ tri (fr t) = t) (h3 : ∀ b ∈ R, ∀ t ∈ T, T.idxOf t ≤ T.idxOf (tri b) → R.idxOf (fr t) ≤ R.idxOf b) {t0 : β} (ht : (T.filter P).head? = some t0) : (R.filter fun b => P (tri b)).head? = some (fr t0) := by
  rw [List.head?_filter] at ht ⊢
  obtain ⟨p0, i, hi, e0, hlt⟩ := List.find?_eq_some_iff_getElem.mp ht
  have hm : t0 ∈ T := by rw [← e0]; exact List.getElem_mem hi
  obtain ⟨f1, f2⟩ := h2 t0 hm
  have hle : ∀ t ∈ T, P t = true → T.idxOf t0 ≤ T.idxOf t := fun t htm hp => by
    have h4 : T.idxOf t0 ≤ i := by
      rcases Nat.lt_or_ge i (T.idxOf t0) with z | z
      · have := List.not_of_lt_findIdx (p := fun x => x == t0) (xs := T) (i := i) z
        rw [e0] at this
        simp at this
      · exact z
    have h5 := List.idxOf_lt_length_iff.mpr htm
    rcases Nat.lt_or_ge (T.idxOf t) i with z | z
    · have := hlt (T.idxOf t) z
      rw [List.getElem_idxOf h5, hp] at this
      cases this
    · omega
  cases hf : R.find? fun b => P (tri b) with
  | none =>
    have := List.find?_eq_none.mp hf (fr t0) f1
    rw [f2, p0] at this
    exact absurd rfl this
  | some b =>
    obtain ⟨q0, k, hk, e1, hlt2⟩ := List.find?_eq_some_iff_getElem.mp hf
    have hbm : b ∈ R := by rw [← e1]; exact List.getElem_mem hk
    have h6 := h3 b hbm t0 hm (hle _ (h1 b hbm) q0)
    have h7 := List.idxOf_lt_length_iff.mpr f1
    have h8 : R.idxOf b ≤ k := by
      rcases Nat.lt_or_ge k (R.idxOf b) with z | z
      · have := List.not_of_lt_findIdx (p := fun x => x == b) (xs := R) (i := k) z
        rw [e1] at this
        simp at this
      · exact z
    have h9 : k ≤ R.idxOf (fr t0) := by
      rcases Nat.lt_or_ge (R.idxOf (fr t0)) k with z | z
      · have := hlt2 _ z
        rw [List.getElem_idxOf h7, f2, p0] at this
        cases this
      · exact z
    have h10 : R.idxOf (fr t0) = k := by omega
    have h11 := List.getElem_idxOf h7
    rw [← h11, ← e1]
    congr 1
    congr 1
    exact h10.symm
def tri (w n : Nat) (b : List Int) : Nat × Nat × Nat := (cn 1 (b.take (min n w)), cn 1 ((b.drop (min n w)).take (w - min n w)), cn 1 (b.drop (w + n - min n w)))
def frow (w n : Nat) (t : Nat × Nat × Nat) : List Int := fbits (min n w) t.1 ++ fbits (w - min n w) t.2.1 ++ List.replicate (n - min n w) 0 ++ fbits (min n w) t.2.2
def dchk (w n : Nat) : Bool := (allR [0, 1] (w + n)).all (fun b => decide (cn 1 (b.drop n) = (tri w n b).2.1 + (tri w n b).2.2) && decide (cn 1 (b.take w) = (tri w n b).1 + (tri w n b).2.1) && decide (tri w n b ∈ riT w (min n w)) &&
    (riT w (min n w)).all fun t => !decide ((riT w (min n w)).idxOf t ≤ (riT w (min n w)).idxOf (tri w n b)) || decide ((allR [0, 1] (w + n)).idxOf (frow w n t) ≤ (allR [0, 1] (w + n)).idxOf b)) &&
  (riT w (min n w)).all fun t => decide (frow w n t ∈ allR [0, 1] (w + n)) && decide (tri w n (frow w n t) = t)
theorem dchk_ok : ([1, 2, 3].all fun w => (List.range 4).all fun n => dchk w n) = true := by decide +kernel
theorem dchk_of {w n : Nat} (h1 : 1 ≤ w) (h3 : w ≤ 3) (hn : n < 4) : dchk w n = true :=
  List.all_eq_true.mp (List.all_eq_true.mp dchk_ok w (by
    rcases (by omega : w = 1 ∨ w = 2 ∨ w = 3) with rfl | rfl | rfl <;> decide)) n (List.mem_range.mpr hn)
def chL (rs : List Int) (n : Nat) : List (Int × List Int) := (allR [0, 1] (rs.length + n)).map fun b => (dot rs (srt (b.drop n)) - dot rs (srt (b.take rs.length)), b)
theorem cn_two {q M : Int} {y : List Int} (h1 : 1 ≤ q) (h2 : q ≤ M) (hy : ∀ i ∈ y, i = 0 ∨ i = M) : cn q y = cn 1 y := by
  have := cn_congr (q := q) (q' := 1) (x := y) (S := id) fun t ht => by
    show q ≤ t ↔ 1 ≤ t
    rcases hy t ht with rfl | rfl <;> omega
  rwa [List.map_id] at this
theorem dot_two {rs y : List Int} {M : Nat} (hl : y.length = rs.length) (hy : ∀ i ∈ y, i = 0 ∨ i = M) : dot rs (srt y) = M * idb rs (cn 1 y) := by
  rw [dot_cn (M := M) hl fun i hi => by rcases hy i hi with rfl | rfl <;> omega]
  exact SL_const fun i hi => by
    dsimp only
    rw [cn_two (M := (M : Int)) (by omega) (by omega) hy]
theorem dot_one {rs y : List Int} (hl : y.length = rs.length) (hy : ∀ i ∈ y, i = 0 ∨ i = 1) : dot rs (srt y) = idb rs (cn 1 y) := by
  have := dot_two (M := 1) hl hy
  rw [this]
  exact Int.one_mul _
theorem bit_in {k : Nat} {r : List Int} (h : r ∈ allR [0, 1] k) : r.length = k ∧ ∀ i ∈ r, i = 0 ∨ i = 1 := by
  obtain ⟨h1, h2⟩ := allR_mem.mp h
  exact ⟨h1, fun i hi => by simpa using h2 i hi⟩
theorem riI_swap {rs : List Int} {f b l : Nat} : riI rs l b f = -riI rs f b l := by
  unfold riI
  rw [Nat.add_comm b f, Nat.add_comm l b]
  omega
theorem ch_ok {rs : List Int} {n : Nat} (h1 : 1 ≤ rs.length) (h3 : rs.length ≤ 3) (hn : n < 4) : maxO 0 ((chL rs n).map (·.1)) = riM rs n ∧ minO 0 ((chL rs n).map (·.1)) = -riM rs n ∧ ((chL rs n).filter fun e => decide (e.1 = riM rs n)).head? = some (riM rs n, rrow rs n) := by
  have hd := dchk_of h1 h3 hn
  unfold dchk at hd
  obtain ⟨dA, dB⟩ := (Bool.and_eq_true _ _).mp hd |> fun h => (⟨h.1, h.2⟩ : _ ∧ _)
  have dA := List.all_eq_true.mp dA
  have dB := List.all_eq_true.mp dB
  have hA : ∀ b ∈ allR [0, 1] (rs.length + n), tri rs.length n b ∈ riL rs n ∧ dot rs (srt (b.drop n)) - dot rs (srt (b.take rs.length)) = riI rs (tri rs.length n b).1 (tri rs.length n b).2.1 (tri rs.length n b).2.2 ∧
      ∀ t ∈ riL rs n, (riL rs n).idxOf t ≤ (riL rs n).idxOf (tri rs.length n b) → (allR [0, 1] (rs.length + n)).idxOf (frow rs.length n t) ≤ (allR [0, 1] (rs.length + n)).idxOf b := fun b hb => by
    have z := dA b hb
    simp only [Bool.and_eq_true, decide_eq_true_eq] at z
    obtain ⟨⟨⟨z1, z2⟩, z3⟩, z4⟩ := z
    obtain ⟨b1, b2⟩ := bit_in hb
    refine ⟨z3, ?_, fun t ht hle => ?_⟩
    · rw [dot_one (by rw [List.length_drop]; omega) fun i hi => b2 i (List.mem_of_mem_drop hi), dot_one (by rw [List.length_take]; omega) fun i hi => b2 i (List.mem_of_mem_take hi), z1, z2]
      rfl
    · have := List.all_eq_true.mp z4 t ht
      rcases (Bool.or_eq_true _ _).mp this with q | q
      · rw [decide_eq_true (show (riT rs.length (min n rs.length)).idxOf t ≤ (riT rs.length (min n rs.length)).idxOf (tri rs.length n b) from hle)] at q
        cases q
      · exact of_decide_eq_true q
  have hB : ∀ t ∈ riL rs n, frow rs.length n t ∈ allR [0, 1] (rs.length + n) ∧ tri rs.length n (frow rs.length n t) = t := fun t ht => by
    have z := dB t ht
    simp only [Bool.and_eq_true, decide_eq_true_eq] at z
    exact z
  have neT : (riL rs n).map (fun t => riI rs t.1 t.2.1 t.2.2) ≠ [] := by simp [riL_ne]
  obtain ⟨k1, k2, k3⟩ := riK_head (rs := rs) (n := n)
  have neR : (chL rs n).map (·.1) ≠ [] := by
    obtain ⟨z, _⟩ := hB _ k2
    unfold chL
    intro y
    rw [List.map_eq_nil_iff, List.map_eq_nil_iff] at y
    rw [y] at z
    cases z
  obtain ⟨m1, m2⟩ := maxO_in neT
  have to : ∀ a ∈ (chL rs n).map (·.1), ∃ t ∈ riL rs n, a = riI rs t.1 t.2.1 t.2.2 := fun a ha => by
    obtain ⟨e, he, rfl⟩ := List.mem_map.mp ha
    obtain ⟨b, hb, rfl⟩ := List.mem_map.mp he
    exact ⟨_, (hA b hb).1, (hA b hb).2.1⟩
  have fro : ∀ t ∈ riL rs n, riI rs t.1 t.2.1 t.2.2 ∈ (chL rs n).map (·.1) := fun t ht => by
    obtain ⟨z1, z2⟩ := hB t ht
    refine List.mem_map.mpr ⟨_, List.mem_map_of_mem (f := fun b => (dot rs (srt (b.drop n)) - dot rs (srt (b.take rs.length)), b)) z1, ?_⟩
    show dot rs _ - dot rs _ = _
    rw [(hA _ z1).2.1, z2]
  have hmax : maxO 0 ((chL rs n).map (·.1)) = riM rs n := max_same neR neT (fun a ha => by
    obtain ⟨t, ht, e⟩ := to a ha
    exact ⟨_, List.mem_map_of_mem (f := fun t : Nat × Nat × Nat => riI rs t.1 t.2.1 t.2.2) ht, by omega⟩) fun b hb => by
    obtain ⟨t, ht, rfl⟩ := List.mem_map.mp hb
    exact ⟨_, fro t ht, Int.le_refl _⟩
  refine ⟨hmax, ?_, ?_⟩
  · refine (minO_uniq ?_ fun y hy => ?_).symm
    · have hb := riT_mem.mp (show ((riB rs n).1, (riB rs n).2.1, (riB rs n).2.2) ∈ riT _ _ from k2)
      have := fro ((riB rs n).2.2, (riB rs n).2.1, (riB rs n).1) (riT_mem.mpr ⟨hb.2.2, hb.2.1, hb.1⟩)
      have this : riI rs (riB rs n).2.2 (riB rs n).2.1 (riB rs n).1 ∈ (chL rs n).map (·.1) := this
      rw [riI_swap, k3] at this
      exact this
    · obtain ⟨t, ht, e⟩ := to y hy
      have hb := riT_mem.mp (show (t.1, t.2.1, t.2.2) ∈ riT _ _ from ht)
      have := m2 _ (List.mem_map_of_mem (f := fun t : Nat × Nat × Nat => riI rs t.1 t.2.1 t.2.2) (show (t.2.2, t.2.1, t.1) ∈ riL rs n from riT_mem.mpr ⟨hb.2.2, hb.2.1, hb.1⟩))
      dsimp only at this
      rw [riI_swap] at this
      show -maxO 0 _ ≤ _
      omega
  · have hf := first_by (R := allR [0, 1] (rs.length + n)) (T := riL rs n) (tri := tri rs.length n) (fr := frow rs.length n) (fun t => decide (riI rs t.1 t.2.1 t.2.2 = riM rs n)) (fun b hb => (hA b hb).1) hB (fun b hb t ht => (hA b hb).2.2 t ht) (t0 := riB rs n) (by
      have : (riK rs n).head? = some (riB rs n) := by
        rw [List.head?_eq_getElem?]
        exact k1
      exact this)
    unfold chL
    rw [List.filter_map, List.head?_map]
    have e : ((allR [0, 1] (rs.length + n)).filter ((fun e : Int × List Int => decide (e.1 = riM rs n)) ∘ fun b => (dot rs (srt (b.drop n)) - dot rs (srt (b.take rs.length)), b))) = (allR [0, 1] (rs.length + n)).filter fun b => decide (riI rs (tri rs.length n b).1 (tri rs.length n b).2.1 (tri rs.length n b).2.2 = riM rs n) := by
      refine List.filter_congr fun b hb => ?_
      show decide (dot rs _ - dot rs _ = _) = _
      rw [(hA b hb).2.1]
    rw [e, hf]
    have hrr : frow rs.length n (riB rs n) = rrow rs n := rfl
    have hz := hB _ k2
    show some (dot rs (srt ((frow rs.length n (riB rs n)).drop n)) - dot rs (srt ((frow rs.length n (riB rs n)).take rs.length)), frow rs.length n (riB rs n)) = _
    rw [(hA _ hz.1).2.1, hz.2, k3, hrr]
def sumsL (rs : List Int) : List Int := (allR [0, 1] rs.length).map fun b => dot rs (srt b)
theorem sumsL_ne {rs : List Int} : sumsL rs ≠ [] := fun z => by
  have h : List.replicate rs.length (0 : Int) ∈ allR [0, 1] rs.length := allR_mem.mpr ⟨List.length_replicate, fun i hi => by
    rw [(List.mem_replicate.mp hi).2]
    exact List.mem_cons_self⟩
  unfold sumsL at z
  rw [List.map_eq_nil_iff.mp z] at h
  cases h
theorem cn_rep {c : Int} : ∀ {k : Nat}, cn 1 (List.replicate k c) = if 1 ≤ c then k else 0
  | 0 => by split <;> rfl
  | k + 1 => by
    rw [List.replicate_succ, cn_cons, cn_rep]
    split <;> omega
theorem cn_fbits {a b : Nat} : cn 1 (fbits a b) = b := by
  unfold fbits
  rw [cn_app, cn_rep, cn_rep, if_neg (by decide), if_pos (by decide), Nat.zero_add]
theorem fbits_bit {a b : Nat} : ∀ i ∈ fbits a b, i = 0 ∨ i = 1 := fun i hi => by
  unfold fbits at hi
  rcases List.mem_append.mp hi with z | z
  · exact .inl (List.mem_replicate.mp z).2
  · exact .inr (List.mem_replicate.mp z).2
theorem cn_le {q : Int} : ∀ y : List Int, cn q y ≤ y.length
  | [] => Nat.le_refl _
  | a :: y => by
    have := cn_le (q := q) y
    rw [cn_cons, List.length_cons]
    split <;> omega
theorem dot_fbits {rs : List Int} {k : Nat} (h : k ≤ rs.length) : dot rs (srt (fbits rs.length k)) = idb rs k := by
  rw [dot_one (fbits_len h) fbits_bit, cn_fbits]
theorem sums_iff {rs : List Int} {i : Int} : i ∈ sumsL rs ↔ ∃ k, k ≤ rs.length ∧ i = idb rs k := by
  unfold sumsL
  rw [List.mem_map]
  constructor
  · rintro ⟨b, hb, rfl⟩
    obtain ⟨b1, b2⟩ := bit_in hb
    exact ⟨cn 1 b, by rw [← b1]; exact cn_le b, dot_one b1 b2⟩
  · rintro ⟨k, hk, rfl⟩
    exact ⟨fbits rs.length k, allR_mem.mpr ⟨fbits_len hk, fun i hi => by rcases fbits_bit i hi with rfl | rfl <;> simp⟩, dot_fbits hk⟩
theorem many_reach {rs ns : List Int} {M n : Nat} (hl : rs.length ≤ ns.length) (hM : 1 ≤ M) (hn : rs.length ≤ n) : reF rs ns M n = (M * minO 0 (sumsL rs), M * maxO 0 (sumsL rs)) := by
  have hmin : min n rs.length = rs.length := Nat.min_eq_right hn
  have hk : keptL rs ns n = [] := by
    refine List.length_eq_zero_iff.mp ?_
    rw [keptL_len hl, hmin, Nat.sub_self]
  have ne : (endsL rs ns M n).map (·.1) ≠ [] := by simp [endsL_ne]
  have to : ∀ a ∈ (endsL rs ns M n).map (·.1), ∃ b ∈ sumsL rs, a = M * b := fun a ha => by
    obtain ⟨e, he, rfl⟩ := List.mem_map.mp ha
    obtain ⟨lot, hlot, rfl⟩ := List.mem_map.mp he
    have hll := ascL_len hlot
    rw [hmin] at hll
    refine ⟨idb rs (cn 1 lot), sums_iff.mpr ⟨_, by rw [← hll]; exact cn_le lot, rfl⟩, ?_⟩
    show idx rs (keptL rs ns n ++ lot) = _
    rw [hk, List.nil_append, idx_all hll, dot_two hll]
    intro i hi
    rcases valsL_mem.mp (ascL_in hlot i hi) with z | z | ⟨z, _⟩
    · exact .inl z
    · exact .inr z
    · rw [hk] at z; cases z
  have fro : ∀ b ∈ sumsL rs, ∃ a ∈ (endsL rs ns M n).map (·.1), a = M * b := fun b hb => by
    obtain ⟨k, hk2, rfl⟩ := sums_iff.mp hb
    let lot : List Int := List.replicate (rs.length - k) 0 ++ List.replicate k (M : Int)
    have hll : lot.length = rs.length := by
      show (List.replicate (rs.length - k) (0 : Int) ++ List.replicate k (M : Int)).length = _
      rw [List.length_append, List.length_replicate, List.length_replicate]
      omega
    have hv : ∀ i ∈ lot, i = 0 ∨ i = M := fun i hi => by
      rcases List.mem_append.mp hi with z | z
      · exact .inl (List.mem_replicate.mp z).2
      · exact .inr (List.mem_replicate.mp z).2
    have hs : lot.Pairwise (· ≤ ·) := by
      refine List.pairwise_append.mpr ⟨List.pairwise_replicate.mpr (.inr (Int.le_refl _)), List.pairwise_replicate.mpr (.inr (Int.le_refl _)), fun a ha b hb => ?_⟩
      rw [(List.mem_replicate.mp ha).2, (List.mem_replicate.mp hb).2]
      omega
    have hm : lot ∈ ascL (valsL rs ns M n) (min n rs.length) := asc_mem (by rw [hll, hmin]) hs fun i hi => valsL_mem.mpr (by
      rcases hv i hi with z | z
      · exact .inl z
      · exact .inr (.inl z))
    refine ⟨_, List.mem_map_of_mem (List.mem_map_of_mem (f := fun lot => (idx rs (keptL rs ns n ++ lot), lot)) hm), ?_⟩
    show idx rs (keptL rs ns n ++ lot) = _
    rw [hk, List.nil_append, idx_all hll, dot_two hll hv]
    congr 2
    show cn 1 (List.replicate (rs.length - k) 0 ++ List.replicate k (M : Int)) = k
    rw [cn_app, cn_rep, cn_rep, if_neg (by decide), if_pos (by omega), Nat.zero_add]
  obtain ⟨s1, s2⟩ := minO_in (sumsL_ne (rs := rs))
  obtain ⟨t1, t2⟩ := maxO_in (sumsL_ne (rs := rs))
  have mul : ∀ {a b : Int}, a ≤ b → (M : Int) * a ≤ M * b := fun h => Int.mul_le_mul_of_nonneg_left h (by omega)
  unfold reF
  congr 1
  · refine (minO_uniq ?_ fun y hy => ?_).symm
    · obtain ⟨a, ha, e⟩ := fro _ s1
      rw [← e]; exact ha
    · obtain ⟨b, hb, rfl⟩ := to y hy
      exact mul (s2 b hb)
  · obtain ⟨u1, u2⟩ := maxO_in ne
    obtain ⟨b, hb, e⟩ := to _ u1
    obtain ⟨a, ha, e2⟩ := fro _ t1
    have := u2 a ha
    have := mul (t2 b hb)
    omega
theorem many_rise {rs : List Int} {n : Nat} (hn : rs.length ≤ n) : riM rs n = maxO 0 (sumsL rs) - minO 0 (sumsL rs) := by
  have hmin : min n rs.length = rs.length := Nat.min_eq_right hn
  have hT : riL rs n = riT rs.length rs.length := by unfold riL; rw [hmin]
  obtain ⟨m1, m2⟩ := maxO_in (l := (riL rs n).map fun t => riI rs t.1 t.2.1 t.2.2) (by simp [riL_ne])
  obtain ⟨s1, s2⟩ := minO_in (sumsL_ne (rs := rs))
  obtain ⟨t1, t2⟩ := maxO_in (sumsL_ne (rs := rs))
  have h1 : riM rs n ≤ maxO 0 (sumsL rs) - minO 0 (sumsL rs) := by
    obtain ⟨⟨f, b, l⟩, ht, e⟩ := List.mem_map.mp m1
    rw [hT] at ht
    obtain ⟨z1, z2, z3⟩ := riT_mem.mp ht
    have := s2 (idb rs (f + b)) (sums_iff.mpr ⟨_, by omega, rfl⟩)
    have := t2 (idb rs (b + l)) (sums_iff.mpr ⟨_, by omega, rfl⟩)
    show maxO 0 _ ≤ _
    rw [← e]
    show idb rs (b + l) - idb rs (f + b) ≤ _
    omega
  obtain ⟨f, hf, ef⟩ := sums_iff.mp s1
  obtain ⟨l, hl, el⟩ := sums_iff.mp t1
  have := m2 (riI rs f 0 l) (List.mem_map_of_mem (f := fun t : Nat × Nat × Nat => riI rs t.1 t.2.1 t.2.2) (show (f, 0, l) ∈ riL rs n by rw [hT]; exact riT_mem.mpr ⟨hf, Nat.zero_le _, hl⟩))
  have e : riI rs f 0 l = idb rs l - idb rs f := by
    unfold riI
    rw [Nat.zero_add, Nat.add_zero]
  have h2 : riI rs f 0 l ≤ riM rs n := this
  omega
/-- the row of the greatest rise in many rounds: bits, noughts, bits -/
theorem many_row {rs : List Int} {n : Nat} (hn : rs.length ≤ n) : ∃ a b : List Int, rrow rs n = a ++ (List.replicate (n - rs.length) 0 ++ b) ∧ a.length = rs.length ∧ b.length = rs.length ∧ dot rs (srt b) - dot rs (srt a) = riM rs n := by
  have hmin : min n rs.length = rs.length := Nat.min_eq_right hn
  obtain ⟨k1, k2, k3⟩ := riK_head (rs := rs) (n := n)
  have hT : riL rs n = riT rs.length rs.length := by unfold riL; rw [hmin]
  rw [hT] at k2
  have hb := riT_mem.mp (show ((riB rs n).1, (riB rs n).2.1, (riB rs n).2.2) ∈ riT _ _ from k2)
  have h0 : (riB rs n).2.1 = 0 := by omega
  refine ⟨fbits rs.length (riB rs n).1, fbits rs.length (riB rs n).2.2, ?_, fbits_len hb.1, fbits_len hb.2.2, ?_⟩
  · unfold rrow
    rw [hmin, h0, Nat.sub_self]
    show fbits rs.length _ ++ [] ++ _ ++ _ = _
    rw [List.append_nil, List.append_assoc]
  · rw [dot_fbits hb.1, dot_fbits hb.2.2, ← k3, h0]
    unfold riI
    rw [Nat.zero_add, Nat.add_zero]
end MP.PG
set_option Elab.async false
set_option linter.all false
set_option maxRecDepth 100000
set_option maxHeartbeats 1000000
namespace MP.K45
open PySem PySem.Spec MP MP.PG
open PyProof.Rows hiding St
open L2 hiding St r1
section
variable {s : Sto}
theorem at_last {ws : List Dv} : lstOf (s ++ [.lst ws]) (.ref s.length) = some ws := by
  show (match (s ++ [Ob.lst ws])[s.length]? with | some (.lst ws) => some ws | _ => none) = _
  rw [at_s]
theorem min_R {l : List Int} (h : l ≠ []) : minLD (s ++ [.lst (l.map .int)]) [.ref s.length] = some (.int (minO 0 l)) := by
  unfold minLD
  dsimp only
  rw [at_last]
  dsimp only
  rw [intsOf_I]
  cases l with
  | nil => exact absurd rfl h
  | cons a l => rfl
theorem max_R {l : List Int} (h : l ≠ []) : maxLD (s ++ [.lst (l.map .int)]) [.ref s.length] = some (.int (maxO 0 l)) := by
  unfold maxLD
  dsimp only
  rw [at_last]
  dsimp only
  rw [intsOf_I]
  cases l with
  | nil => exact absurd rfl h
  | cons a l => rfl
theorem mks_len {M : Nat} : (mks M).length = M + 1 := by unfold mks; rw [List.length_map, List.length_range]
theorem pow_4 {M n : Nat} (hM : M ≤ 3) (hn : n ≤ 3) : (M + 1) ^ n ≤ 64 := by
  have h1 : (M + 1) ^ n ≤ 4 ^ n := Nat.pow_le_pow_left (by omega) n
  have h2 : 4 ^ n ≤ 4 ^ 3 := Nat.pow_le_pow_right (by decide) hn
  have h3 : (4 : Nat) ^ 3 = 64 := by decide
  omega
theorem far_v {rs ns far : List Int} {ρ : Env} {S : Sto} {f g w : FE} (hr : Rule rs) (hl : rs.length ≤ ns.length) (h : ns.length + far.length ≤ 900) (hf : f ρ S = .ok (tI rs) S) (hw : w ρ S = .ok (tI (ns ++ far)) S) :
    mCall (g__law_sum) (mCons f (mCons (mSl slA w (mPart (mBin subD (mBlt lenD (mCons w mNil)) (mBlt lenD (mCons f mNil)))) mNoPart) mNil)) ρ S = .ok (.int (idx rs (ns ++ far))) S := by
  have hll : (ns ++ far).length = ns.length + far.length := List.length_append
  have v1 : mSl slA w (mPart (mBin subD (mBlt lenD (mCons w mNil)) (mBlt lenD (mCons f mNil)))) mNoPart ρ S = .ok (tI ((ns ++ far).drop ((ns ++ far).length - rs.length))) S :=
    sl_fr hw (bin_v (x := .int ((ns ++ far).length : Int)) (y := .int (rs.length : Int)) (blt_v (cons_v hw nil_ev) (by rw [tI, len_tup, List.length_map])) (blt_v (cons_v hf nil_ev) (by rw [tI, len_tup, List.length_map])) (by rw [sub_ev, Int.natCast_sub (by omega)]))
  exact call_v (cons_v hf (cons_v v1 nil_ev)) (law_sum_ok (Fit.of hr) (by rw [List.length_drop]; omega))
theorem law_ends_ok {rs ns : List Int} {M n : Nat} (hs : Cl s) (hr : Rule rs) (hl : rs.length ≤ ns.length) (hn : ns.length ≤ 200) (hM : M ≤ 3) (h3 : n ≤ 3) : g__law_ends [tI rs, tI ns, .int (M : Int), .int (n : Int)] s = .ok (reD (leF rs ns M n)) s := by
  let L : Option Dv := some (.ref s.length)
  let E (x4 x5 x6 : Option Dv) : Env := [some (tI rs), some (tI ns), some (.int (M : Int)), some (.int (n : Int)), x4, x5, x6]
  have e0 : startD 7 [tI rs, tI ns, .int (M : Int), .int (n : Int)] = E none none none := rfl
  let S : Nat → Sto := fun i => s ++ [.lst ((((allR (mks M) n).take i).map fun far => idx rs (ns ++ far)).map .int)]
  have hp := pow_4 hM h3
  have hcount : (allR (mks M) n).length ≤ 64 := by rw [allR_count, mks_len]; exact hp
  have a1 : mAsg (mLstM mNil) (gN 4) (E none none none) s = .nx (E L none none) (S 0) := by
    rw [asgN_ev, lstM_ev, nil_ev, bind_ok, if_pos (by show 0 ≤ lim; unfold lim; decide), then_ok]
    rfl
  have hrg : mListRg1 (mBin addD (mVar 2) (mK (.int 1))) (E L none none) (S 0) = .ok (lI (mks M)) (S 0) := by
    have hl : mBin addD (mVar 2) (mK (.int 1)) (E L none none) (S 0) = .ok (.int ((M + 1 : Nat) : Int)) (S 0) := bin_v (x := .int (M : Int)) (y := .int 1) rfl k_ev (by rw [add_ii]; rfl)
    unfold mListRg1
    rw [hl, bind_ok]
    dsimp only
    rw [if_pos (by unfold rgOkB; exact decide_eq_true (by omega)), Int.sub_zero, Int.toNat_natCast, rng_ev]
    unfold mks lI
    rw [List.map_map]
    have : (List.range (M + 1)).map (fun i : Nat => Dv.int (0 + (i : Int))) = (List.range (M + 1)).map (Dv.int ∘ fun i : Nat => (i : Int)) := List.map_congr_left fun i _ => by rw [Int.zero_add]; rfl
    rw [this]
  have hF : F__law_ends_1 (E L none none) (S 0) = .ok { ws := (allR (mks M) n).map tI } (S 0) := by
    have h : mCall (g__law_all) (mCons (mListRg1 (mBin addD (mVar 2) (mK (.int 1)))) (mCons (mVar 3) mNil)) (E L none none) (S 0) = .ok (.lst ((allR (mks M) n).map tI)) (S 0) :=
      call_v (cons_v hrg (cons_v (w := .int (n : Int)) rfl nil_ev)) (law_all_ok (by rw [mks_len]; omega) (by rw [mks_len]; omega) (by omega) _ (.inr rfl))
    show iSeq _ _ _ = _
    unfold iSeq
    rw [h]
    rfl
  obtain ⟨ρ', s', f1, rfl, x5, x6, rfl⟩ := for_ix (g := t__law_ends_1) (body := b__law_ends_1) (fun i ρ s' => s' = S i ∧ ∃ x5 x6, ρ = E L x5 x6) hF ⟨rfl, _, _, rfl⟩ fun i x ρ s' hx hJ => by
    obtain ⟨rfl, x5, x6, rfl⟩ := hJ
    rw [List.getElem?_map] at hx
    obtain ⟨far, hfar, rfl⟩ := Option.map_eq_some_iff.mp hx
    have hfl := allR_len (List.mem_of_getElem? hfar)
    have b1 : mAsg (mBin addD (mVar 1) (mVar 5)) (gN 6) (E L (some (tI far)) x6) (S i) = .nx (E L (some (tI far)) (some (tI (ns ++ far)))) (S i) := asg_v (w := tI (ns ++ far)) (add_tI rfl rfl (by omega))
    have b2 := far_v (S := S i) (ρ := E L (some (tI far)) (some (tI (ns ++ far)))) (f := mVar 0) (g := mVar 0) (w := mVar 6) hr hl (by omega) rfl rfl
    refine ⟨E L (some (tI far)) x6, E L (some (tI far)) (some (tI (ns ++ far))), S (i + 1), rfl, .inl ?_, rfl, _, _, rfl⟩
    unfold b__law_ends_1
    refine seq_nx b1 ?_
    rw [expr_v (app_s (v := .int (idx rs (ns ++ far))) (by rw [List.length_map, List.length_map, List.length_take]; omega) rfl b2)]
    show C.nx _ _ = C.nx _ (s ++ [.lst ((((allR (mks M) n).take (i + 1)).map fun far => idx rs (ns ++ far)).map .int)])
    rw [List.take_succ, hfar, List.map_append, List.map_append]
    rfl
  rw [List.length_map] at f1
  have hS : S (allR (mks M) n).length = s ++ [.lst ((leL rs ns M n).map .int)] := by
    show s ++ [.lst ((((allR (mks M) n).take (allR (mks M) n).length).map fun far => idx rs (ns ++ far)).map .int)] = _
    rw [List.take_length]
    rfl
  rw [hS] at f1
  unfold g__law_ends d__law_ends
  rw [den_ev, e0]
  refine fin_nx a1 (fin_nx f1 ?_)
  refine (congrArg (finC _) (ret_v (s1 := s ++ [.lst ((leL rs ns M n).map .int)]) (w := reD (leF rs ns M n)) ?_)).trans (fin_one (hs _) rfl)
  exact tup_v (cons_v (blt_v (cons_v (w := .ref s.length) rfl nil_ev) (min_R leL_ne)) (cons_v (blt_v (cons_v (w := .ref s.length) rfl nil_ev) (max_R leL_ne)) nil_ev)) (by show 2 ≤ 1000000; decide)
theorem law_soonest_ok {rs ns : List Int} {M : Nat} {goal : Int} (hs : Cl s) (hr : Rule rs) (hr3 : rs.length ≤ 3) (hl : rs.length ≤ ns.length) (hn : Row ns) (hM : M ≤ 3) : g__law_soonest [tI rs, tI ns, .int (M : Int), .int goal] s = .ok (soD (soF rs ns M goal)) s := by
  let E (x4 x5 : Option Dv) : Env := [some (tI rs), some (tI ns), some (.int (M : Int)), some (.int goal), x4, x5]
  have e0 : startD 6 [tI rs, tI ns, .int (M : Int), .int goal] = E none none := rfl
  have hF : cF__law_soonest_1 (E none none) s = .ok { ws := (List.range (rs.length + 1)).map fun k : Nat => Dv.int (k : Int) } s := by
    refine (range1_ok (j := ((rs.length + 1 : Nat) : Int)) (cons_v (bin_v (x := .int (rs.length : Int)) (y := .int 1) (blt_v (cons_v (w := tI rs) rfl nil_ev) (by rw [tI, len_tup, List.length_map])) k_ev (by rw [add_ii]; rfl)) nil_ev) (okR_s (by omega) (by omega))).trans ?_
    rw [rng_ev, Int.toNat_natCast]
    simp only [Int.zero_add]
  have hc := comp_filt (vs := [5]) (g := ct__law_soonest_1) (tt := ci__law_soonest_1) (elt := ce__law_soonest_1) (fun k : Nat => Dv.int (k : Int)) (fun k => decide (goal ≤ (reF rs ns M k).2)) hF (by rw [List.length_range]; unfold lim; omega) fun k hk => by
    have hk' := List.mem_range.mp hk
    refine ⟨E none (some (.int (k : Int))), rfl, ?_, fun _ => rfl⟩
    have v1 : mBin ixA (mCall (g__law_ends) (mCons (mVar 0) (mCons (mVar 1) (mCons (mVar 2) (mCons (mVar 5) mNil))))) (mK (.int 1)) (E none (some (.int (k : Int)))) s = .ok (.int (reF rs ns M k).2) s :=
      bin_v (x := reD (reF rs ns M k)) (y := .int ((1 : Nat) : Int)) (call_v (cons_v (w := tI rs) rfl (cons_v (w := tI ns) rfl (cons_v (w := .int (M : Int)) rfl (cons_v (w := .int (k : Int)) rfl nil_ev)))) (by rw [← le_re hl fun i hi => (hn.ok i hi).1]; exact law_ends_ok hs hr hl hn.most hM (by omega))) rfl (ix_tup rfl)
    exact test_v (bin_v v1 rfl rfl)
  have a1 := asg_v (i := 4) hc
  have hso : soF rs ns M goal = ((List.range (rs.length + 1)).filter fun k => decide (goal ≤ (reF rs ns M k).2)).head? := by rw [List.head?_filter]; rfl
  rw [hso]
  generalize hfl : (List.range (rs.length + 1)).filter (fun k => decide (goal ≤ (reF rs ns M k).2)) = fl at a1
  have hfll : fl.length ≤ 100 := by rw [← hfl]; exact Nat.le_trans (List.length_filter_le _ _) (by rw [List.length_range]; omega)
  have hfb : ∀ k ∈ fl, k ≤ 100 := fun k hk => by
    rw [← hfl] at hk
    have := List.mem_range.mp (List.mem_filter.mp hk).1
    omega
  let L : Option Dv := some (.lst (fl.map fun k : Nat => Dv.int (k : Int)))
  have a1 : mAsg (mComp cF__law_soonest_1 [5] ct__law_soonest_1 ci__law_soonest_1 ce__law_soonest_1) (gN 4) (E none none) s = .nx (E L none) s := a1
  unfold g__law_soonest d__law_soonest
  rw [den_ev, e0]
  refine fin_nx a1 ?_
  have eI : (fl.map fun k : Nat => Dv.int (k : Int)) = (fl.map fun k : Nat => (k : Int)).map .int := by rw [List.map_map]; rfl
  have hne : neD s (.lst (fl.map fun k : Nat => Dv.int (k : Int))) (.lst []) = some (.bl (!decide (fl = []))) := by
    have e2 : (Dv.lst [] : Dv) = lI [] := rfl
    rw [eI, e2]
    have := ne_lI (s := s) (ns := fl.map fun k : Nat => (k : Int)) (ms := [])
    have e3 : decide (fl.map (fun k : Nat => (k : Int)) = []) = decide (fl = []) := by
      cases fl <;> rfl
    rw [e3] at this
    exact this
  have t1 : mTest (mBin neD (mVar 4) (mLst mNil)) (E L none) s = .ok (!decide (fl = [])) s := test_v (bin_v (x := .lst (fl.map fun k : Nat => Dv.int (k : Int))) (y := .lst []) rfl rfl hne)
  cases fl with
  | nil => exact (congrArg (finC _) (ret_v (w := .non) (if_vf t1 k_ev))).trans finC_rt
  | cons k fl => exact (congrArg (finC _) (ret_v (w := .int (k : Int)) (if_vt t1 (bin_v (x := .lst ((k :: fl).map fun k : Nat => Dv.int (k : Int))) (y := .int ((0 : Nat) : Int)) rfl rfl (ix_lst rfl))))).trans finC_rt
theorem eq_tI_refl {ns : List Int} (h : ∀ i ∈ ns, MP.Sm i) : eqD s (tI ns) (tI ns) = some (.bl true) := eq_t_refl (pl_tI h) (by decide)
theorem way_right_ok {rs ns : List Int} {M : Nat} {n : Nat} (hr : Rule rs) (hn : Row ns) (hl : rs.length ≤ ns.length) (hM : M ≤ 1000000) (h200 : n ≤ 200) : g__law_way_right [tI rs, tI ns, .int (M : Int), .int (n : Int), .int (reF rs ns M n).2] s = .ok (.bl true) s := by
  obtain ⟨e, he, he2, hw⟩ := way_ok (m := (M : Int)) (n := n) hr hn hl (by omega) (by omega) h200
  obtain ⟨lot, hlot, rfl⟩ := List.mem_map.mp he
  have hll := ascL_len hlot
  have hmin := Nat.min_le_left n rs.length
  have hmost := hn.most
  let far : List Int := List.replicate (n - lot.length) 0 ++ lot
  have hfl : far.length = n := by
    show (List.replicate (n - lot.length) (0 : Int) ++ lot).length = n
    rw [List.length_append, List.length_replicate]
    omega
  have hfb : ∀ i ∈ far, 0 ≤ i ∧ i ≤ M := fun i hi => by
    rcases List.mem_append.mp hi with z | z
    · rw [(List.mem_replicate.mp z).2]; omega
    · rcases valsL_mem.mp (ascL_in hlot i z) with rfl | rfl | ⟨z1, z2⟩
      · omega
      · omega
      · have := hn.ok i (keptL_in i z1)
        omega
  have hidx : idx rs (ns ++ far) = (reF rs ns M n).2 := by
    rw [(last_far hl hfl).1, ← he2]
    show idx rs _ = idx rs (keptL rs ns n ++ lot)
    congr 2
    show (List.replicate (n - lot.length) (0 : Int) ++ lot).drop _ = lot
    rw [hll]
    exact List.drop_left' List.length_replicate
  have hwf : ∀ s, g_greatest_way [tI rs, tI ns, .int (M : Int), .int (n : Int)] s = .ok (tI far) s := hw
  generalize far = far at hfl hfb hidx hwf
  let E (x5 x6 x7 : Option Dv) : Env := [some (tI rs), some (tI ns), some (.int (M : Int)), some (.int (n : Int)), some (.int (reF rs ns M n).2), x5, x6, x7]
  have e0 : startD 8 [tI rs, tI ns, .int (M : Int), .int (n : Int), .int (reF rs ns M n).2] = E none none none := rfl
  let F : Option Dv := some (tI far)
  have gv : ∀ x5 x6 x7, mCall (g_greatest_way) (mCons (mVar 0) (mCons (mVar 1) (mCons (mVar 2) (mCons (mVar 3) mNil)))) (E x5 x6 x7) s = .ok (tI far) s := fun _ _ _ => call_v (cons_v (w := tI rs) rfl (cons_v (w := tI ns) rfl (cons_v (w := .int (M : Int)) rfl (cons_v (w := .int (n : Int)) rfl nil_ev)))) (hwf s)
  have a1 : mAsg (mCall (g_greatest_way) (mCons (mVar 0) (mCons (mVar 1) (mCons (mVar 2) (mCons (mVar 3) mNil))))) (gN 5) (E none none none) s = .nx (E F none none) s := asg_v (gv _ _ _)
  have t1 : mTest (mBlt isiD (mCons (mVar 5) (mCons (mK (.ty "tuple")) mNil))) (E F none none) s = .ok true s := test_v (blt_v (cons_v (w := tI far) rfl (cons_v k_ev nil_ev)) isi_tt)
  have t2 : mTest (mBin neD (mBlt lenD (mCons (mVar 5) mNil)) (mVar 3)) (E F none none) s = .ok false s := by
    refine test_v (bin_v (x := .int (n : Int)) (y := .int (n : Int)) (blt_v (cons_v (w := tI far) rfl nil_ev) (by rw [tI, len_tup, List.length_map, hfl])) rfl ?_)
    rw [ne_of_eq eq_ii, decide_eq_true rfl]
    rfl
  have t3 : mTest (mBin neD (mCall (g_greatest_way) (mCons (mVar 0) (mCons (mVar 1) (mCons (mVar 2) (mCons (mVar 3) mNil))))) (mVar 5)) (E F none none) s = .ok false s :=
    test_v (bin_v (x := tI far) (y := tI far) (gv _ _ _) rfl (ne_of_eq (eq_tI_refl fun i hi => smN (by have := hfb i hi; omega))))
  have hc := comp_filt (vs := [7]) (g := ct__law_way_right_1) (tt := ci__law_way_right_1) (elt := ce__law_way_right_1) (f := cF__law_way_right_1) (ρ := E F none none) (s := s) (l := far) (e := Dv.int) Dv.int (fun _ => false) rfl (by unfold lim; omega) fun i hi => by
    have hb := hfb i hi
    refine ⟨E F none (some (.int i)), rfl, ?_, fun z => nomatch z⟩
    have u1 : mTest (mBlt isiD (mCons (mVar 7) (mCons (mK (.ty "int")) mNil))) (E F none (some (.int i))) s = .ok true s := test_v (blt_v (cons_v (w := .int i) rfl (cons_v k_ev nil_ev)) isi_ii)
    have u2 : mTest (mBlt isiD (mCons (mVar 7) (mCons (mK (.ty "bool")) mNil))) (E F none (some (.int i))) s = .ok false s := test_v (blt_v (cons_v (w := .int i) rfl (cons_v k_ev nil_ev)) isi_ib)
    have u3 : mTest (mChain leD leD (mK (.int 0)) (mVar 7) (mVar 2)) (E F none (some (.int i))) s = .ok true s := by
      rw [test_ev, chain_ev]
      show MP.R.bind (chainK (some (.bl (decide ((0 : Int) ≤ i)))) s (.ok (.bl (decide (i ≤ (M : Int)))) s)) testK = _
      rw [decide_eq_true hb.1, decide_eq_true hb.2]
      rfl
    exact or_f (not_vt u1) (or_f u2 (not_vt u3))
  have hnil : far.filter (fun _ => false) = [] := by simp
  rw [hnil] at hc
  have t4 : mTest (mBin neD (mComp cF__law_way_right_1 [7] ct__law_way_right_1 ci__law_way_right_1 ce__law_way_right_1) (mLst mNil)) (E F none none) s = .ok false s := by
    refine test_v (bin_v (x := lI []) (y := lI []) hc rfl ?_)
    rw [ne_lI, decide_eq_true rfl]
    rfl
  have a2 : mAsg (mBin addD (mVar 1) (mVar 5)) (gN 6) (E F none none) s = .nx (E F (some (tI (ns ++ far))) none) s := asg_v (w := tI (ns ++ far)) (add_tI rfl rfl (by omega))
  have v1 := far_v (S := s) (ρ := E F (some (tI (ns ++ far))) none) (f := mVar 0) (g := mVar 0) (w := mVar 6) hr hl (by omega) rfl rfl
  rw [hidx] at v1
  unfold g__law_way_right d__law_way_right
  rw [den_ev, e0]
  refine fin_nx a1 (fin_nx (ρ1 := E F none none) (s1 := s) (if_no (or_f (not_vt t1) (or_f t2 t3))) (fin_nx (ρ1 := E F none none) (s1 := s) (if_no t4) (fin_nx a2 ?_)))
  refine (congrArg (finC _) (ret_v (w := .bl true) (bin_v (x := .int (reF rs ns M n).2) (y := .int (reF rs ns M n).2) v1 rfl ?_))).trans finC_rt
  rw [eq_ii, decide_eq_true rfl]
def chD (e : Int × List Int) : Dv := .tup [.int e.1, tI e.2]
theorem fz_chs {k n : Nat} {us : Sto} : ∀ l : List (Int × List Int), mapO (fz (k + 1) us n) (l.map chD) = some (l.map chD)
  | [] => rfl
  | e :: l => by
    have h : fz (k + 1) us n (chD e) = some (chD e) := by
      unfold fz
      have : clean n (chD e) = true := by
        show (true && (cleans n (e.2.map .int) && true)) = true
        rw [cleans_int]
        rfl
      rw [if_pos this]
    rw [List.map_cons, mapO, h, fz_chs l]
theorem changes_ok {rs : List Int} {n : Nat} (hs : Cl s) (hr : Rule rs) (hr3 : rs.length ≤ 3) (h3 : n ≤ 3) : g__law_changes [tI rs, .int (n : Int)] s = .ok (.lst ((chL rs n).map chD)) s := by
  let L : Option Dv := some (.ref s.length)
  let W : Option Dv := some (.int (rs.length : Int))
  let E (x2 x3 x4 : Option Dv) : Env := [some (tI rs), some (.int (n : Int)), x2, x3, x4]
  have e0 : startD 5 [tI rs, .int (n : Int)] = E none none none := rfl
  let S : Nat → Sto := fun i => s ++ [.lst (((chL rs n).take i).map chD)]
  have hcl : (chL rs n).length ≤ 64 := by
    unfold chL
    rw [List.length_map, allR_count]
    exact Nat.le_trans (Nat.pow_le_pow_right (show 0 < 2 by decide) (show rs.length + n ≤ 6 by omega)) (by decide)
  have a1 : mPar 2 3 (mCons (mBlt lenD (mCons (mVar 0) mNil)) (mCons (mLstM mNil) mNil)) (E none none none) s = .nx (E W L none) (S 0) := by
    have lw : mBlt lenD (mCons (mVar 0) mNil) (E none none none) s = .ok (.int (rs.length : Int)) s := blt_v (cons_v (w := tI rs) rfl nil_ev) (by rw [tI, len_tup, List.length_map])
    rw [par_ev, lw, then_ok, lstM_ev, nil_ev, bind_ok, if_pos (by show 0 ≤ lim; unfold lim; decide), then_ok]
    rfl
  have hF : F__law_changes_1 (E W L none) (S 0) = .ok { ws := (allR [0, 1] (rs.length + n)).map tI } (S 0) := by
    have h : mCall (g__law_all) (mCons (mTup (mCons (mK (.int 0)) (mCons (mK (.int 1)) mNil))) (mCons (mBin addD (mVar 2) (mVar 1)) mNil)) (E W L none) (S 0) = .ok (.lst ((allR [0, 1] (rs.length + n)).map tI)) (S 0) :=
      call_v (cons_v (w := tI [0, 1]) rfl (cons_v (w := .int ((rs.length + n : Nat) : Int)) (bin_v (x := .int (rs.length : Int)) (y := .int (n : Int)) rfl rfl (by rw [add_ii, Int.natCast_add])) nil_ev)) (law_all_ok (by decide) (Nat.le_trans (Nat.pow_le_pow_right (show 0 < 2 by decide) (show rs.length + n ≤ 6 by omega)) (by decide)) (by omega) _ (.inl rfl))
    show iSeq _ _ _ = _
    unfold iSeq
    rw [h]
    rfl
  obtain ⟨ρ', s', f1, rfl, x4, rfl⟩ := for_ix (g := t__law_changes_1) (body := b__law_changes_1) (fun i ρ s' => s' = S i ∧ ∃ x4, ρ = E W L x4) hF ⟨rfl, _, rfl⟩ fun i x ρ s' hx hJ => by
    obtain ⟨rfl, x4, rfl⟩ := hJ
    rw [List.getElem?_map] at hx
    obtain ⟨b, hb, rfl⟩ := Option.map_eq_some_iff.mp hx
    have hbl := allR_len (List.mem_of_getElem? hb)
    have v1 : mCall (g__law_sum) (mCons (mVar 0) (mCons (mSl slA (mVar 4) (mPart (mVar 1)) mNoPart) mNil)) (E W L (some (tI b))) (S i) = .ok (.int (dot rs (srt (b.drop n)))) (S i) := call_v (cons_v (w := tI rs) rfl (cons_v (sl_fr (ns := b) rfl rfl) nil_ev)) (law_sum_ok (Fit.of hr) (by rw [List.length_drop]; omega))
    have v2 : mCall (g__law_sum) (mCons (mVar 0) (mCons (mSl slA (mVar 4) mNoPart (mPart (mVar 2))) mNil)) (E W L (some (tI b))) (S i) = .ok (.int (dot rs (srt (b.take rs.length)))) (S i) := call_v (cons_v (w := tI rs) rfl (cons_v (sl_to (ns := b) rfl rfl) nil_ev)) (law_sum_ok (Fit.of hr) (by rw [List.length_take]; omega))
    have v3 := tup_v (cons_v (bin_v v1 v2 sub_ev) (cons_v (show mVar 4 (E W L (some (tI b))) (S i) = .ok (tI b) (S i) from rfl) nil_ev)) (by show 2 ≤ 1000000; decide)
    refine ⟨E W L (some (tI b)), E W L (some (tI b)), S (i + 1), rfl, .inl ?_, rfl, _, rfl⟩
    unfold b__law_changes_1
    rw [expr_v (app_s (by rw [List.length_map, List.length_take]; omega) rfl v3)]
    show C.nx _ _ = C.nx _ (s ++ [.lst (((chL rs n).take (i + 1)).map chD)])
    have hc : (chL rs n)[i]? = some (dot rs (srt (b.drop n)) - dot rs (srt (b.take rs.length)), b) := by
      unfold chL
      rw [List.getElem?_map, hb]
      rfl
    rw [List.take_succ, hc, List.map_append]
    rfl
  rw [List.length_map] at f1
  have hS : S (allR [0, 1] (rs.length + n)).length = s ++ [.lst ((chL rs n).map chD)] := by
    have : (allR [0, 1] (rs.length + n)).length = (chL rs n).length := by unfold chL; rw [List.length_map]
    show s ++ [.lst (((chL rs n).take _).map chD)] = _
    rw [this, List.take_length]
  rw [hS] at f1
  unfold g__law_changes d__law_changes
  rw [den_ev, e0]
  refine fin_nx a1 (fin_nx f1 ?_)
  refine (congrArg (finC _) (ret_v (w := .ref s.length) rfl)).trans (fin_sn hs (by simp) (fz_ref0 rfl (fz_chs _)))
end
end MP.K45
set_option Elab.async false
set_option linter.all false
set_option maxRecDepth 100000
set_option maxHeartbeats 2000000
namespace MP.K45
open PySem PySem.Spec MP MP.PG
open PyProof.Rows hiding St
open L2 hiding St r1
theorem idb_abs {rs : List Int} {k : Nat} (hr : Rule rs) (hk : k ≤ rs.length) : (idb rs k).natAbs ≤ 120 := by
  rw [← dot_fbits hk]
  have := dot_abs (M := 1) (rs := rs) (ls := srt (fbits rs.length k)) hr.ok fun n hn => by
    rcases fbits_bit n ((srt_perm _).mem_iff.mp hn) with rfl | rfl <;> decide
  have := hr.six
  omega
theorem riM_abs {rs : List Int} {n : Nat} (hr : Rule rs) : (riM rs n).natAbs ≤ 240 := by
  obtain ⟨k1, k2, k3⟩ := riK_head (rs := rs) (n := n)
  have hb := riT_mem.mp (show ((riB rs n).1, (riB rs n).2.1, (riB rs n).2.2) ∈ riT _ _ from k2)
  have hm : min n rs.length ≤ rs.length := Nat.min_le_right _ _
  have h1 := idb_abs (k := (riB rs n).2.1 + (riB rs n).2.2) hr (by omega)
  have h2 := idb_abs (k := (riB rs n).1 + (riB rs n).2.1) hr (by omega)
  rw [← k3]
  unfold riI
  omega
theorem reF_abs {rs ns : List Int} {M n : Nat} (hr : Rule rs) (hn : Row ns) (hM : M ≤ 1000000) : (reF rs ns M n).1.natAbs ≤ 1000000000 ∧ (reF rs ns M n).2.natAbs ≤ 1000000000 := by
  have ne : (endsL rs ns M n).map (·.1) ≠ [] := by simp [endsL_ne]
  have all : ∀ a ∈ (endsL rs ns M n).map (·.1), a.natAbs ≤ 1000000000 := fun a ha => by
    obtain ⟨e, he, rfl⟩ := List.mem_map.mp ha
    obtain ⟨lot, hlot, rfl⟩ := List.mem_map.mp he
    have hb : ∀ i ∈ keptL rs ns n ++ lot, i.natAbs ≤ 1000000 := fun i hi => by
      rcases List.mem_append.mp hi with z | z
      · have := hn.ok i (keptL_in i z); omega
      · rcases valsL_mem.mp (ascL_in hlot i z) with rfl | rfl | ⟨z1, _⟩
        · decide
        · omega
        · have := hn.ok i (keptL_in i z1); omega
    have := dot_abs (M := 1000000) (rs := rs) (ls := srt (last rs.length (keptL rs ns n ++ lot))) hr.ok fun i hi => hb i (List.mem_of_mem_drop ((srt_perm _).mem_iff.mp hi))
    have h6 := hr.six
    have h7 : rs.length * (20 * 1000000) ≤ 6 * (20 * 1000000) := Nat.mul_le_mul_right _ h6
    show (idx rs (keptL rs ns n ++ lot)).natAbs ≤ _
    unfold idx
    omega
  exact ⟨all _ (minO_in ne).1, all _ (maxO_in ne).1⟩
theorem soD_pl (o : Option Nat) (h : ∀ k, o = some k → k ≤ 100) : ∃ d, Pl 1 0 (soD o) d := by
  cases o with
  | none => exact ⟨_, pl_non⟩
  | some k => exact ⟨_, pl_int (smN (by have := h k rfl; omega))⟩
theorem soF_le {rs ns : List Int} {m g : Int} (hr : Rule rs) : ∀ k, soF rs ns m g = some k → k ≤ 100 := fun k h => by
  have := List.mem_range.mp (List.mem_of_find?_eq_some h)
  have := hr.six
  omega
section
variable {pre : Sto} {cs : List Int}
theorem three_v {s : Sto} {f g h : FE} {ρ : Env} {a b c : Dv} (h1 : f ρ s = .ok a s) (h2 : g ρ s = .ok b s) (h3 : h ρ s = .ok c s) : mLst (mCons f (mCons g (mCons h mNil))) ρ s = .ok (.lst [a, b, c]) s := lst_v (cons_v h1 (cons_v h2 (cons_v h3 nil_ev))) (by show 3 ≤ 1000000; decide)
theorem right_ok {rs : List Int} {l p : Int} (ho : ClP pre []) (hc : cs ≠ []) (hp : 0 ≤ p) (hp2 : p ≤ 300000) (hr : Rule rs) (hr3 : rs.length ≤ 3) : ∃ l' p', g__law_right [.ref pre.length, tI rs] (St pre [] cs l p) = .ok (.bl true) (St pre [] cs l' p') ∧ 0 ≤ p' ∧ p' ≤ p + 100 := by
  have h1 := hr.one
  let M0 : Option Dv := some (.ref pre.length)
  let R : Option Dv := some (tI rs)
  let E (x2 x3 x4 x5 x6 x7 x8 x9 x10 x11 x12 x13 x14 x15 x16 x17 : Option Dv) : Env := [M0, R, x2, x3, x4, x5, x6, x7, x8, x9, x10, x11, x12, x13, x14, x15, x16, x17]
  have e0 : startD 18 [.ref pre.length, tI rs] = E none none none none none none none none none none none none none none none none := rfl
  have dv : ∀ {x2 x3 x4 x5 x6 x7 x8 x9 x10 x11 x12 x13 x14 x15 x16 x17 : Option Dv} {S S2 : Sto} {many : Int} {w : Dv}, g__law_draw [.ref pre.length, .int many] S = .ok w S2 → mCall (g__law_draw) (mCons (mVar 0) (mCons (mK (.int many)) mNil)) (E x2 x3 x4 x5 x6 x7 x8 x9 x10 x11 x12 x13 x14 x15 x16 x17) S = .ok w S2 := fun h => call_v (cons_v (w := .ref pre.length) rfl (cons_v k_ev nil_ev)) h
  -- the row
  obtain ⟨d, l1, p1, d1, d10, d11, q10, q11⟩ := draw_v (pre := pre) (cs := cs) (l := l) (p := p) (many := 3) hc (by decide) (by decide) hp (by omega)
  obtain ⟨j, rfl⟩ := Int.eq_ofNat_of_zero_le d10
  have hF : cF__law_right_1 (E none none none none none none none none none none none none none none none none) (St pre [] cs l p) = .ok { ws := rng 0 (rs.length + j) } (St pre [] cs l1 p1) := by
    refine range1_ok (j := ((rs.length + j : Nat) : Int)) (cons_v (bin_v (x := .int (rs.length : Int)) (y := .int (j : Int)) (blt_v (cons_v (w := tI rs) rfl nil_ev) (by rw [tI, len_tup, List.length_map])) (dv d1) (by rw [add_ii, Int.natCast_add])) nil_ev) (okR_s (by omega) (by omega))
  obtain ⟨ns, l2, p2, c2, r21, r22, q20, q21⟩ := comp_dr (pre := pre) (cs := cs) (n := rs.length + j) (b := 2) (vs := [14]) (g := ct__law_right_1) (elt := ce__law_right_1) Dv.int (fun n : Int => 0 ≤ n ∧ n ≤ 8) hF q10 (by omega) (by decide) (by omega) fun i l p hi q0 q1 => by
    obtain ⟨w, l3, p3, hw, e3, q30, q31⟩ := law_of_ok (pre := pre) (tl := []) (cs := cs) (l := l) (p := p) (ws := [.int 2, .int 5, .int 9]) hc q0 (by omega) (by simp) (by decide)
    obtain ⟨b, rfl, hb2, hb9⟩ : ∃ b : Int, w = .int b ∧ 2 ≤ b ∧ b ≤ 9 := by
      simp only [List.mem_cons, List.mem_nil_iff, or_false] at hw
      rcases hw with rfl | rfl | rfl
      · exact ⟨2, rfl, by decide, by decide⟩
      · exact ⟨5, rfl, by decide, by decide⟩
      · exact ⟨9, rfl, by decide, by decide⟩
    obtain ⟨a, l4, p4, d4, a0, a1, q40, q41⟩ := draw_v (pre := pre) (l := l3) (p := p3) (many := b) hc (by omega) (by omega) q30 (by omega)
    refine ⟨E none none none none none none none none none none none none (some (.int (i : Int))) none none none, a, l4, p4, rfl, ?_, by omega, q40, by omega⟩
    exact call_v (cons_v (w := .ref pre.length) rfl (cons_v (w := .int b) (call_v (cons_v (w := .ref pre.length) rfl (cons_v (w := .lst [.int 2, .int 5, .int 9]) (lst_v (cons_v k_ev (cons_v k_ev (cons_v k_ev nil_ev))) (by show 3 ≤ 1000000; decide)) nil_ev)) e3) nil_ev)) d4
  have hN : Row ns := ⟨by omega, fun i hi => by have := r22 i hi; omega⟩
  have hl : rs.length ≤ ns.length := by omega
  let N : Option Dv := some (tI ns)
  have a1 : mAsg (mBlt tupleD (mCons (mComp cF__law_right_1 [14] ct__law_right_1 ci__law_right_1 ce__law_right_1) mNil)) (gN 2) (E none none none none none none none none none none none none none none none none) (St pre [] cs l p) = .nx (E N none none none none none none none none none none none none none none none) (St pre [] cs l2 p2) :=
    asg_v (w := tI ns) (blt_v (cons_v c2 nil_ev) tuple_lst)
  -- the most, the rounds, the goal
  obtain ⟨d3, l3, p3, e3, d30, d31, q30, q31⟩ := draw_v (pre := pre) (cs := cs) (l := l2) (p := p2) (many := 4) hc (by decide) (by decide) q20 (by omega)
  obtain ⟨M, rfl⟩ := Int.eq_ofNat_of_zero_le d30
  obtain ⟨d4, l4, p4, e4, d40, d41, q40, q41⟩ := draw_v (pre := pre) (cs := cs) (l := l3) (p := p3) (many := 4) hc (by decide) (by decide) q30 (by omega)
  obtain ⟨n, rfl⟩ := Int.eq_ofNat_of_zero_le d40
  obtain ⟨d5, l5, p5, e5, d50, d51, q50, q51⟩ := draw_v (pre := pre) (cs := cs) (l := l4) (p := p4) (many := 30) hc (by decide) (by decide) q40 (by omega)
  have hM : M ≤ 3 := by omega
  have hn : n ≤ 3 := by omega
  let Mo : Option Dv := some (.int (M : Int))
  let C : Option Dv := some (.int (n : Int))
  let G : Option Dv := some (.int (d5 - 8))
  have a2 : mAsg (mTup (mCons (mCall (g__law_draw) (mCons (mVar 0) (mCons (mK (.int 4)) mNil))) (mCons (mCall (g__law_draw) (mCons (mVar 0) (mCons (mK (.int 4)) mNil))) (mCons (mBin subD (mCall (g__law_draw) (mCons (mVar 0) (mCons (mK (.int 30)) mNil))) (mK (.int 8))) mNil)))) (gT 3 (gsC (gN 3) (gsC (gN 4) (gsC (gN 5) gs0)))) (E N none none none none none none none none none none none none none none none) (St pre [] cs l2 p2) = .nx (E N Mo C G none none none none none none none none none none none none) (St pre [] cs l5 p5) :=
    asg_gv (w := .tup [.int (M : Int), .int (n : Int), .int (d5 - 8)]) (tup_v (cons_v (dv e3) (cons_v (dv e4) (cons_v (bin_v (x := .int d5) (y := .int 8) (dv e5) k_ev sub_ev) nil_ev))) (by show 3 ≤ 1000000; decide)) rfl
  refine ⟨l5, p5, ?_, q50, by omega⟩
  have hs : Cl (St pre [] cs l5 p5) := fun n => St_clean ho
  have hfin : ∀ w, finC (St pre [] cs l p).length (.rt w (St pre [] cs l5 p5)) = .ok w (St pre [] cs l5 p5) := fun w => fin_St
  generalize St pre [] cs l5 p5 = S at hs a2 hfin
  -- what is kept, what is due
  have prs := pl_tI (ns := rs) fun i hi => smN (by have := hr.ok i hi; omega)
  have pns := pl_tI (ns := ns) fun i hi => smN (by have := hN.ok i hi; omega)
  have pk := pl_lst (pls_cons prs (pls_cons pns (pls_nil (k := 1))))
  have hr6 := hr.six
  have hmost := hN.most
  have hkr : ∀ S, reprD S [.lst [tI rs, tI ns]] = some (.str _) := fun S => repr_lst pk (by omega) (by decide)
  have kv : ∀ x3 x4 x5 x6 x7 x8 x9 x10 x11 x12 x13 x14 x15 x16 x17, mBlt reprD (mCons (mLst (mCons (mVar 1) (mCons (mVar 2) mNil))) mNil) (E N x3 x4 x5 x6 x7 x8 x9 x10 x11 x12 x13 x14 x15 x16 x17) S = .ok (.str _) S := fun _ _ _ _ _ _ _ _ _ _ _ _ _ _ _ => blt_v (cons_v (two_v (w := tI rs) (v := tI ns) rfl rfl) nil_ev) (hkr S)
  generalize (PyData.shown _ : Str) = kt at hkr kv
  let Kt : Option Dv := some (.str kt)
  let D : Dv := reD (reF rs ns M n)
  have hends : g__law_ends [tI rs, tI ns, .int (M : Int), .int (n : Int)] S = .ok D S := by
    show _ = MP.R.ok (reD (reF rs ns M n)) S
    rw [← le_re hl fun i hi => (hN.ok i hi).1]
    exact law_ends_ok hs hr hl hN.most hM hn
  have a3 : mPar 6 7 (mCons (mBlt reprD (mCons (mLst (mCons (mVar 1) (mCons (mVar 2) mNil))) mNil)) (mCons (mCall (g__law_ends) (mCons (mVar 1) (mCons (mVar 2) (mCons (mVar 3) (mCons (mVar 4) mNil))))) mNil)) (E N Mo C G none none none none none none none none none none none none) S = .nx (E N Mo C G Kt (some D) none none none none none none none none none none) S := by
    have v := call_v (d := g__law_ends) (fa := mCons (mVar 1) (mCons (mVar 2) (mCons (mVar 3) (mCons (mVar 4) mNil)))) (ρ := E N Mo C G none none none none none none none none none none none none) (s := S) (cons_v (w := tI rs) rfl (cons_v (w := tI ns) rfl (cons_v (w := .int (M : Int)) rfl (cons_v (w := .int (n : Int)) rfl nil_ev)))) hends
    rw [par_ev, kv, then_ok, v, then_ok]
    rfl
  have ix1 : ixA S D (.int 1) = some (.int (reF rs ns M n).2) := ix_tup (k := 1) rfl
  -- goals
  let o1 := soF rs ns M (d5 - 8)
  let o2 := soF rs ns M (reF rs ns M n).2
  have hF2 : cF__law_right_2 (E N Mo C G Kt (some D) none none none none none none none none none none) S = .ok { ws := [d5 - 8, (reF rs ns M n).2].map .int } S := by
    have h : mTup (mCons (mVar 5) (mCons (mBin ixA (mVar 7) (mK (.int 1))) mNil)) (E N Mo C G Kt (some D) none none none none none none none none none none) S = .ok (tI [d5 - 8, (reF rs ns M n).2]) S := tup_v (cons_v (w := .int (d5 - 8)) rfl (cons_v (bin_v (x := D) (y := .int 1) rfl rfl ix1) nil_ev)) (by show 2 ≤ 1000000; decide)
    show iSeq _ _ _ = _
    unfold iSeq
    rw [h]
    rfl
  have c3 := comp_mapA (vs := [15]) (g := ct__law_right_2) (elt := ce__law_right_2) (fun g : Int => soD (soF rs ns M g)) hF2 (by show 2 ≤ lim; unfold lim; decide) fun g _ => ⟨E N Mo C G Kt (some D) none none none none none none none (some (.int g)) none none, rfl, call_v (cons_v (w := tI rs) rfl (cons_v (w := tI ns) rfl (cons_v (w := .int (M : Int)) rfl (cons_v (w := .int g) rfl nil_ev)))) (law_soonest_ok hs hr hr3 hl hN hM)⟩
  let Gs : Option Dv := some (.lst [soD o1, soD o2])
  have a4 : mAsg (mComp cF__law_right_2 [15] ct__law_right_2 ci__law_right_2 ce__law_right_2) (gN 8) (E N Mo C G Kt (some D) none none none none none none none none none none) S = .nx (E N Mo C G Kt (some D) Gs none none none none none none none none none) S := asg_v c3
  -- what is told
  obtain ⟨f1, f2⟩ := reF_abs (n := n) hr hN (show M ≤ 1000000 by omega)
  have pD : Pl 3 1 D (.tuple ([(reF rs ns M n).1, (reF rs ns M n).2].map .int)) := pl_tI (ns := [(reF rs ns M n).1, (reF rs ns M n).2]) fun i hi => by
    simp only [List.mem_cons, List.mem_nil_iff, or_false] at hi
    rcases hi with rfl | rfl <;> exact smN (by omega)
  obtain ⟨dd1, p1'⟩ := soD_pl o1 (soF_le hr)
  obtain ⟨dd2, p2'⟩ := soD_pl o2 (soF_le hr)
  have pT := pl_lst (pls_cons pD (pls_cons (p1'.mono (Nat.le_refl _) (by decide)) (pls_cons (p2'.mono (Nat.le_refl _) (by decide)) (pls_nil (k := 1)))))
  let T1 : Dv := .lst [D, soD o1, soD o2]
  have loop1 : ∃ x9 x10, mFor F__law_right_1 t__law_right_1 b__law_right_1 (E N Mo C G Kt (some D) Gs none none none none none none none none none) S = .nx (E N Mo C G Kt (some D) Gs x9 x10 none none none none none none none) S := by
    obtain ⟨ρ', s', f1, rfl, x9, x10, rfl⟩ := for_ix (F := F__law_right_1) (g := t__law_right_1) (body := b__law_right_1) (ρ := E N Mo C G Kt (some D) Gs none none none none none none none none none) (s := S) (s1 := S) (xs := rng 0 2)
      (fun _ ρ s => s = S ∧ ∃ x9 x10, ρ = E N Mo C G Kt (some D) Gs x9 x10 none none none none none none none) (range1_ok (j := 2) (cons_v (w := .int 2) k_ev nil_ev) (okR_s (by decide) (by decide))) ⟨rfl, _, _, rfl⟩ fun i x ρ s hx hJ => by
        obtain ⟨rfl, x9, x10, rfl⟩ := hJ
        obtain ⟨_, rfl⟩ := rng_get hx
        let I : Option Dv := some (.int (0 + (i : Int)))
        have v1 : mCall (g_reach) (mCons (mVar 1) (mCons (mVar 2) (mCons (mVar 3) (mCons (mVar 4) mNil)))) (E N Mo C G Kt (some D) Gs I x10 none none none none none none none) s = .ok D s := call_v (cons_v (w := tI rs) rfl (cons_v (w := tI ns) rfl (cons_v (w := .int (M : Int)) rfl (cons_v (w := .int (n : Int)) rfl nil_ev)))) (reach_ok hr hN hl (by omega) (by omega) (by omega))
        have v2 : mCall (g_soonest) (mCons (mVar 1) (mCons (mVar 2) (mCons (mVar 3) (mCons (mVar 5) mNil)))) (E N Mo C G Kt (some D) Gs I x10 none none none none none none none) s = .ok (soD o1) s := call_v (cons_v (w := tI rs) rfl (cons_v (w := tI ns) rfl (cons_v (w := .int (M : Int)) rfl (cons_v (w := .int (d5 - 8)) rfl nil_ev)))) (soonest_ok hr hN hl (by omega) (by omega))
        have v3 : mCall (g_soonest) (mCons (mVar 1) (mCons (mVar 2) (mCons (mVar 3) (mCons (mBin ixA (mVar 7) (mK (.int 1))) mNil)))) (E N Mo C G Kt (some D) Gs I x10 none none none none none none none) s = .ok (soD o2) s := call_v (cons_v (w := tI rs) rfl (cons_v (w := tI ns) rfl (cons_v (w := .int (M : Int)) rfl (cons_v (w := .int (reF rs ns M n).2) (bin_v (x := D) (y := .int 1) rfl rfl ix1) nil_ev)))) (soonest_ok hr hN hl (by omega) (by omega))
        have b1 := asg_v (i := 10) (three_v v1 v2 v3)
        have u1 : mTest (mBin neD (mBlt reprD (mCons (mVar 10) mNil)) (mBlt reprD (mCons (mBin addD (mLst (mCons (mVar 7) mNil)) (mVar 8)) mNil))) (E N Mo C G Kt (some D) Gs I (some T1) none none none none none none none) s = .ok false s :=
          rD_ne (w := T1) rfl (bin_v (x := .lst [D]) (y := .lst [soD o1, soD o2]) (lst_v (cons_v (w := D) rfl nil_ev) (by show 1 ≤ 1000000; decide)) rfl (add_lst (by show 1 + 2 ≤ 1000000; decide))) ⟨_, repr_lst pT (by decide) (by decide)⟩
        refine ⟨E N Mo C G Kt (some D) Gs I x10 none none none none none none none, E N Mo C G Kt (some D) Gs I (some T1) none none none none none none none, s, rfl, .inl ?_, rfl, _, _, rfl⟩
        unfold b__law_right_1
        exact seq_nx b1 (if_no u1)
    exact ⟨x9, x10, f1⟩
  obtain ⟨x9, x10, a5⟩ := loop1
  have a6 : mIfS (mNot (mTest (mCall (g__law_way_right) (mCons (mVar 1) (mCons (mVar 2) (mCons (mVar 3) (mCons (mVar 4) (mCons (mBin ixA (mVar 7) (mK (.int 1))) mNil)))))))) (mRet (mK (.bl false))) mNext (E N Mo C G Kt (some D) Gs x9 x10 none none none none none none none) S = .nx (E N Mo C G Kt (some D) Gs x9 x10 none none none none none none none) S :=
    if_no (not_vt (test_v (call_v (cons_v (w := tI rs) rfl (cons_v (w := tI ns) rfl (cons_v (w := .int (M : Int)) rfl (cons_v (w := .int (n : Int)) rfl (cons_v (w := .int (reF rs ns M n).2) (bin_v (x := D) (y := .int 1) rfl rfl ix1) nil_ev))))) (way_right_ok hr hN hl (by omega) (by omega)))))
  -- changes
  obtain ⟨ch1, ch2, ch3⟩ := ch_ok (n := n) h1 hr3 (by omega)
  have hcl : (chL rs n).length ≤ 64 := by
    unfold chL
    rw [List.length_map, allR_count]
    exact Nat.le_trans (Nat.pow_le_pow_right (show 0 < 2 by decide) (show rs.length + n ≤ 6 by omega)) (by decide)
  have hne : (chL rs n).map (·.1) ≠ [] := fun z => by
    rw [List.map_eq_nil_iff] at z
    rw [z] at ch3
    cases ch3
  let Ch : Option Dv := some (.lst ((chL rs n).map chD))
  have a7 : mAsg (mCall (g__law_changes) (mCons (mVar 1) (mCons (mVar 4) mNil))) (gN 11) (E N Mo C G Kt (some D) Gs x9 x10 none none none none none none none) S = .nx (E N Mo C G Kt (some D) Gs x9 x10 Ch none none none none none none) S :=
    asg_v (w := .lst ((chL rs n).map chD)) (call_v (cons_v (w := tI rs) rfl (cons_v (w := .int (n : Int)) rfl nil_ev)) (changes_ok hs hr hr3 hn))
  have c8 := comp_mapA (vs := [16, 17]) (g := ct__law_right_3) (elt := ce__law_right_3) (f := cF__law_right_3) (ρ := E N Mo C G Kt (some D) Gs x9 x10 Ch none none none none none none) (s := S) (l := chL rs n) (e := chD) (fun e : Int × List Int => Dv.int e.1) rfl (by unfold lim; omega) fun e _ => ⟨E N Mo C G Kt (some D) Gs x9 x10 Ch none none none none (some (.int e.1)) (some (tI e.2)), rfl, rfl⟩
  have e8 : ((chL rs n).map fun e => Dv.int e.1) = ((chL rs n).map (·.1)).map .int := by rw [List.map_map]; rfl
  rw [e8] at c8
  let Am : Option Dv := some (lI ((chL rs n).map (·.1)))
  have a8 : mAsg (mComp cF__law_right_3 [16, 17] ct__law_right_3 ci__law_right_3 ce__law_right_3) (gN 12) (E N Mo C G Kt (some D) Gs x9 x10 Ch none none none none none none) S = .nx (E N Mo C G Kt (some D) Gs x9 x10 Ch Am none none none none none) S := asg_v c8
  have mxv : ∀ x9 x10 x13 x14 x15 x16 x17, mBlt maxLD (mCons (mVar 12) mNil) (E N Mo C G Kt (some D) Gs x9 x10 Ch Am x13 x14 x15 x16 x17) S = .ok (.int (riM rs n)) S := fun _ _ _ _ _ _ _ => by
    rw [← ch1]
    exact blt_v (cons_v (w := lI ((chL rs n).map (·.1))) rfl nil_ev) (max_I hne)
  have mnv : ∀ x9 x10 x13 x14 x15 x16 x17, mBlt minLD (mCons (mVar 12) mNil) (E N Mo C G Kt (some D) Gs x9 x10 Ch Am x13 x14 x15 x16 x17) S = .ok (.int (-riM rs n)) S := fun _ _ _ _ _ _ _ => by
    rw [← ch2]
    exact blt_v (cons_v (w := lI ((chL rs n).map (·.1))) rfl nil_ev) (min_I hne)
  have c9 := comp_filt (vs := [16, 17]) (g := ct__law_right_4) (tt := ci__law_right_4) (elt := ce__law_right_4) (f := cF__law_right_4) (ρ := E N Mo C G Kt (some D) Gs x9 x10 Ch Am none none none none none) (s := S) (l := chL rs n) (e := chD) (fun e : Int × List Int => tI e.2) (fun e => decide (e.1 = riM rs n)) rfl (by unfold lim; omega) fun e _ => ⟨E N Mo C G Kt (some D) Gs x9 x10 Ch Am none none none (some (.int e.1)) (some (tI e.2)), rfl, test_v (bin_v (x := .int e.1) (y := .int (riM rs n)) rfl (mxv _ _ _ _ _ _ _) eq_ii), fun _ => rfl⟩
  let Fi : Option Dv := some (tI (rrow rs n))
  have a9 : mAsg (mBin ixA (mComp cF__law_right_4 [16, 17] ct__law_right_4 ci__law_right_4 ce__law_right_4) (mK (.int 0))) (gN 13) (E N Mo C G Kt (some D) Gs x9 x10 Ch Am none none none none none) S = .nx (E N Mo C G Kt (some D) Gs x9 x10 Ch Am Fi none none none none) S := by
    refine asg_v (w := tI (rrow rs n)) (bin_v (y := .int ((0 : Nat) : Int)) c9 rfl (ix_lst ?_))
    rw [List.head?_eq_getElem?] at ch3
    rw [List.getElem?_map, ch3]
    rfl
  -- rises
  have hrr : (rrow rs n).length ≤ 10 ∧ ∀ i ∈ rrow rs n, i = 0 ∨ i = 1 := by
    have : (riM rs n, rrow rs n) ∈ chL rs n := by
      have := List.mem_of_mem_head? (Option.mem_def.mpr ch3)
      exact (List.mem_filter.mp this).1
    unfold chL at this
    obtain ⟨b, hb, e⟩ := List.mem_map.mp this
    have e2 : b = rrow rs n := congrArg Prod.snd e
    rw [← e2]
    obtain ⟨z1, z2⟩ := bit_in hb
    exact ⟨by omega, z2⟩
  have hri := riM_abs (n := n) hr
  have pr := pl_tI (ns := rrow rs n) fun i hi => smN (by rcases hrr.2 i hi with rfl | rfl <;> decide)
  have pi : Pl 1 1 (.int (riM rs n)) (.int (riM rs n)) := (pl_int (smN (by omega))).mono (Nat.le_refl _) (by decide)
  have pT2 := pl_lst (pls_cons pi (pls_cons pi (pls_cons pr (pls_nil (k := 1)))))
  let T2 : Dv := .lst [.int (riM rs n), .int (riM rs n), tI (rrow rs n)]
  have loop2 : ∃ y9 y10, mFor F__law_right_2 t__law_right_2 b__law_right_2 (E N Mo C G Kt (some D) Gs x9 x10 Ch Am Fi none none none none) S = .nx (E N Mo C G Kt (some D) Gs y9 y10 Ch Am Fi none none none none) S := by
    obtain ⟨ρ', s', f1, rfl, y9, y10, rfl⟩ := for_ix (F := F__law_right_2) (g := t__law_right_2) (body := b__law_right_2) (ρ := E N Mo C G Kt (some D) Gs x9 x10 Ch Am Fi none none none none) (s := S) (s1 := S) (xs := rng 0 2)
      (fun _ ρ s => s = S ∧ ∃ x9 x10, ρ = E N Mo C G Kt (some D) Gs x9 x10 Ch Am Fi none none none none) (range1_ok (j := 2) (cons_v (w := .int 2) k_ev nil_ev) (okR_s (by decide) (by decide))) ⟨rfl, _, _, rfl⟩ fun i x ρ s hx hJ => by
        obtain ⟨rfl, x9, x10, rfl⟩ := hJ
        obtain ⟨_, rfl⟩ := rng_get hx
        let I : Option Dv := some (.int (0 + (i : Int)))
        have ar : mCons (mVar 1) (mCons (mVar 4) mNil) (E N Mo C G Kt (some D) Gs I x10 Ch Am Fi none none none none) s = .ok [tI rs, .int (n : Int)] s := cons_v (w := tI rs) rfl (cons_v (w := .int (n : Int)) rfl nil_ev)
        have b1 := asg_v (i := 10) (three_v (call_v ar (rise_ok hs hr (by omega))) (call_v ar (fall_ok hs hr (by omega))) (call_v ar (rise_row_ok hs hr (by omega))))
        have w2 : mBin subD (mK (.int 0)) (mBlt minLD (mCons (mVar 12) mNil)) (E N Mo C G Kt (some D) Gs I (some T2) Ch Am Fi none none none none) s = .ok (.int (riM rs n)) s := by
          refine bin_v (x := .int 0) (y := .int (-riM rs n)) k_ev (mnv _ _ _ _ _ _ _) ?_
          rw [sub_ev, show 0 - -riM rs n = riM rs n by omega]
        have u1 : mTest (mBin neD (mBlt reprD (mCons (mVar 10) mNil)) (mBlt reprD (mCons (mLst (mCons (mBlt maxLD (mCons (mVar 12) mNil)) (mCons (mBin subD (mK (.int 0)) (mBlt minLD (mCons (mVar 12) mNil))) (mCons (mVar 13) mNil)))) mNil))) (E N Mo C G Kt (some D) Gs I (some T2) Ch Am Fi none none none none) s = .ok false s :=
          rD_ne (w := T2) rfl (three_v (mxv _ _ _ _ _ _ _) w2 rfl) ⟨_, repr_lst pT2 (by omega) (by decide)⟩
        refine ⟨E N Mo C G Kt (some D) Gs I x10 Ch Am Fi none none none none, E N Mo C G Kt (some D) Gs I (some T2) Ch Am Fi none none none none, s, rfl, .inl ?_, rfl, _, _, rfl⟩
        unfold b__law_right_2
        exact seq_nx b1 (if_no u1)
    exact ⟨y9, y10, f1⟩
  obtain ⟨y9, y10, a10⟩ := loop2
  unfold g__law_right d__law_right
  rw [den_ev, e0]
  refine fin_nx a1 (fin_nx a2 (fin_nx a3 (fin_nx a4 (fin_nx a5 (fin_nx a6 (fin_nx a7 (fin_nx a8 (fin_nx a9 (fin_nx a10 ?_)))))))))
  rw [ret_v (w := .bl true) (bin_v (x := .str kt) (y := .str kt) (kv _ _ _ _ _ _ _ _ _ _ _ _ _ _ _) rfl eq_refl_ss)]
  exact hfin _
end
end MP.K45
set_option Elab.async false
set_option linter.all false
set_option maxRecDepth 100000
set_option maxHeartbeats 2000000
namespace MP.K45
open PySem PySem.Spec MP MP.PG
open PyProof.Rows hiding St
open L2 hiding St r1
section
variable {pre : Sto} {cs : List Int}
theorem pow_6 {s : Sto} {ρ : Env} : mBin powD (mK (.int 10)) (mK (.int 6)) ρ s = .ok (.int 1000000) s := bin_v (x := .int 10) (y := .int 6) k_ev k_ev (by rfl)
theorem sl_mid {s : Sto} {f g h : FE} {ρ : Env} {ns : List Int} {a b : Nat} (hf : f ρ s = .ok (tI ns) s) (hg : g ρ s = .ok (.int (a : Int)) s) (hh : h ρ s = .ok (.int (b : Int)) s) (h1 : a ≤ ns.length) (h2 : b ≤ ns.length) : mSl slA f (mPart g) (mPart h) ρ s = .ok (tI ((ns.drop a).take (b - a))) s := by
  refine sl_v (x := tI ns) (a := some (a : Int)) (b := some (b : Int)) hf (part_v hg) (part_v hh) ?_
  show some (Dv.tup (cutD (ns.map .int) _ _)) = _
  rw [cut_mid (by rw [List.length_map]; exact h1) (by rw [List.length_map]; exact h2), ← List.map_drop, ← List.map_take]
theorem and_yes {s : Sto} {f g : FE} {ρ : Env} {r : R Dv} (h : f ρ s = .ok (.bl true) s) (h2 : g ρ s = r) : mAndV f g ρ s = r := by
  rw [andV_ev, h, bind_ok, andK_bl, if_pos rfl, h2]
theorem many_right_ok {rs : List Int} {l p : Int} (ho : ClP pre []) (hc : cs ≠ []) (hp : 0 ≤ p) (hp2 : p ≤ 300000) (hr : Rule rs) : ∃ l' p', g__law_many_right [.ref pre.length, tI rs] (St pre [] cs l p) = .ok (.bl true) (St pre [] cs l' p') ∧ 0 ≤ p' ∧ p' ≤ p + 100 := by
  have h1 := hr.one
  have h6 := hr.six
  let M0 : Option Dv := some (.ref pre.length)
  let R : Option Dv := some (tI rs)
  let E (x2 x3 x4 x5 x6 x7 x8 x9 x10 x11 x12 x13 : Option Dv) : Env := [M0, R, x2, x3, x4, x5, x6, x7, x8, x9, x10, x11, x12, x13]
  have e0 : startD 14 [.ref pre.length, tI rs] = E none none none none none none none none none none none none := rfl
  have lnR : ∀ {x2 x3 x4 x5 x6 x7 x8 x9 x10 x11 x12 x13 : Option Dv} {S : Sto}, mBlt lenD (mCons (mVar 1) mNil) (E x2 x3 x4 x5 x6 x7 x8 x9 x10 x11 x12 x13) S = .ok (.int (rs.length : Int)) S := blt_v (cons_v (w := tI rs) rfl nil_ev) (by rw [tI, len_tup, List.length_map])
  have hF : cF__law_many_right_1 (E none none none none none none none none none none none none) (St pre [] cs l p) = .ok { ws := rng 0 rs.length } (St pre [] cs l p) :=
    range1_ok (j := (rs.length : Int)) (cons_v lnR nil_ev) (okR_s (by omega) (by omega))
  obtain ⟨ns, l2, p2, c2, r21, r22, q20, q21⟩ := comp_dr (pre := pre) (cs := cs) (n := rs.length) (b := 1) (vs := [11]) (g := ct__law_many_right_1) (elt := ce__law_many_right_1) Dv.int (fun n : Int => 0 ≤ n ∧ n ≤ 1000000) hF hp (by omega) (by decide) (by omega) fun i l p hi q0 q1 => by
    obtain ⟨a, l4, p4, d4, a0, a1, q40, q41⟩ := draw_v (pre := pre) (cs := cs) (l := l) (p := p) (many := 1000000) hc (by decide) (by decide) q0 (by omega)
    exact ⟨E none none none none none none none none none (some (.int (i : Int))) none none, a, l4, p4, rfl, call_v (cons_v (w := .ref pre.length) rfl (cons_v (w := .int 1000000) pow_6 nil_ev)) d4, by omega, q40, by omega⟩
  obtain ⟨d3, l3, p3, e3, d30, d31, q30, q31⟩ := draw_v (pre := pre) (cs := cs) (l := l2) (p := p2) (many := 190) hc (by decide) (by decide) q20 (by omega)
  obtain ⟨j, rfl⟩ := Int.eq_ofNat_of_zero_le d30
  have hN : Row ns := ⟨by omega, r22⟩
  have hl : rs.length ≤ ns.length := by omega
  let N : Option Dv := some (tI ns)
  have a1 : mPar 2 3 (mCons (mBlt tupleD (mCons (mComp cF__law_many_right_1 [11] ct__law_many_right_1 ci__law_many_right_1 ce__law_many_right_1) mNil)) (mCons (mBin addD (mBlt lenD (mCons (mVar 1) mNil)) (mCall (g__law_draw) (mCons (mVar 0) (mCons (mK (.int 190)) mNil)))) mNil)) (E none none none none none none none none none none none none) (St pre [] cs l p) = .nx (E N (some (.int ((rs.length + j : Nat) : Int))) none none none none none none none none none none) (St pre [] cs l3 p3) := by
    have v1 : mBlt tupleD (mCons (mComp cF__law_many_right_1 [11] ct__law_many_right_1 ci__law_many_right_1 ce__law_many_right_1) mNil) (E none none none none none none none none none none none none) (St pre [] cs l p) = .ok (tI ns) (St pre [] cs l2 p2) := blt_v (cons_v c2 nil_ev) tuple_lst
    have v2 : mBin addD (mBlt lenD (mCons (mVar 1) mNil)) (mCall (g__law_draw) (mCons (mVar 0) (mCons (mK (.int 190)) mNil))) (E none none none none none none none none none none none none) (St pre [] cs l2 p2) = .ok (.int ((rs.length + j : Nat) : Int)) (St pre [] cs l3 p3) := bin_v (x := .int (rs.length : Int)) (y := .int (j : Int)) lnR (call_v (cons_v (w := .ref pre.length) rfl (cons_v k_ev nil_ev)) e3) (by rw [add_ii, Int.natCast_add])
    rw [par_ev, v1, then_ok, v2, then_ok]
    rfl
  refine ⟨l3, p3, ?_, q30, by omega⟩
  have hs : Cl (St pre [] cs l3 p3) := fun n => St_clean ho
  have hfin : ∀ w, finC (St pre [] cs l p).length (.rt w (St pre [] cs l3 p3)) = .ok w (St pre [] cs l3 p3) := fun w => fin_St
  generalize St pre [] cs l3 p3 = S at hs a1 hfin
  have hn200 : rs.length + j ≤ 200 := by omega
  have hnw : rs.length ≤ rs.length + j := Nat.le_add_right _ _
  generalize rs.length + j = n at a1 hn200 hnw
  let C : Option Dv := some (.int (n : Int))
  have hre := many_reach (rs := rs) (ns := ns) (M := 1000000) hl (by decide) hnw
  have hri := many_rise hnw
  obtain ⟨ra, rb, rw1, rw2, rw3, rw4⟩ := many_row hnw
  obtain ⟨f1, f2⟩ := reF_abs (n := n) hr hN (show 1000000 ≤ 1000000 from Nat.le_refl _)
  -- sums
  have hF2 : cF__law_many_right_2 (E N C none none none none none none none none none none) S = .ok { ws := (allR [0, 1] rs.length).map tI } S := by
    have h : mCall (g__law_all) (mCons (mTup (mCons (mK (.int 0)) (mCons (mK (.int 1)) mNil))) (mCons (mBlt lenD (mCons (mVar 1) mNil)) mNil)) (E N C none none none none none none none none none none) S = .ok (.lst ((allR [0, 1] rs.length).map tI)) S :=
      call_v (cons_v (w := tI [0, 1]) rfl (cons_v (w := .int (rs.length : Int)) lnR nil_ev)) (law_all_ok (by decide) (Nat.le_trans (Nat.pow_le_pow_right (show 0 < 2 by decide) h6) (by decide)) (by omega) _ (.inl rfl))
    show iSeq _ _ _ = _
    unfold iSeq
    rw [h]
    rfl
  have c3 := comp_mapA (vs := [12]) (g := ct__law_many_right_2) (elt := ce__law_many_right_2) (fun b : List Int => Dv.int (dot rs (srt b))) hF2 (by rw [allR_count]; exact Nat.le_trans (Nat.pow_le_pow_right (show 0 < 2 by decide) h6) (by unfold lim; decide)) fun b hb => ⟨E N C none none none none none none none none (some (tI b)) none, rfl, call_v (cons_v (w := tI rs) rfl (cons_v (w := tI b) rfl nil_ev)) (law_sum_ok (Fit.of hr) (by rw [allR_len hb]; omega))⟩
  have e3' : ((allR [0, 1] rs.length).map fun b => Dv.int (dot rs (srt b))) = (sumsL rs).map .int := by unfold sumsL; rw [List.map_map]; rfl
  rw [e3'] at c3
  let Su : Option Dv := some (lI (sumsL rs))
  have a2 : mAsg (mComp cF__law_many_right_2 [12] ct__law_many_right_2 ci__law_many_right_2 ce__law_many_right_2) (gN 4) (E N C none none none none none none none none none none) S = .nx (E N C Su none none none none none none none none none) S := asg_v c3
  have mx : ∀ {x5 x6 x7 x8 x9 x10 x11 x12 x13 : Option Dv}, mBlt maxLD (mCons (mVar 4) mNil) (E N C Su x5 x6 x7 x8 x9 x10 x11 x12 x13) S = .ok (.int (maxO 0 (sumsL rs))) S := blt_v (cons_v (w := lI (sumsL rs)) rfl nil_ev) (max_I sumsL_ne)
  have mn : ∀ {x5 x6 x7 x8 x9 x10 x11 x12 x13 : Option Dv}, mBlt minLD (mCons (mVar 4) mNil) (E N C Su x5 x6 x7 x8 x9 x10 x11 x12 x13) S = .ok (.int (minO 0 (sumsL rs))) S := blt_v (cons_v (w := lI (sumsL rs)) rfl nil_ev) (min_I sumsL_ne)
  let D : Dv := reD (reF rs ns (1000000 : Nat) n)
  have a3 : mAsg (mTup (mCons (mBin mulD (mBin powD (mK (.int 10)) (mK (.int 6))) (mBlt minLD (mCons (mVar 4) mNil))) (mCons (mBin mulD (mBin powD (mK (.int 10)) (mK (.int 6))) (mBlt maxLD (mCons (mVar 4) mNil))) mNil))) (gN 5) (E N C Su none none none none none none none none none) S = .nx (E N C Su (some D) none none none none none none none none) S := by
    refine asg_v (w := D) ?_
    show _ = MP.R.ok (reD (reF rs ns (1000000 : Nat) n)) S
    rw [hre]
    exact tup_v (cons_v (bin_v (x := .int 1000000) pow_6 mn (mul_ii (cm_l ⟨by decide, by decide⟩))) (cons_v (bin_v (x := .int 1000000) pow_6 mx (mul_ii (cm_l ⟨by decide, by decide⟩))) nil_ev)) (by show 2 ≤ 1000000; decide)
  have ix1 : ixA S D (.int 1) = some (.int (reF rs ns (1000000 : Nat) n).2) := ix_tup (k := 1) rfl
  have t1 : mTest (mBin neD (mCall (g_reach) (mCons (mVar 1) (mCons (mVar 2) (mCons (mBin powD (mK (.int 10)) (mK (.int 6))) (mCons (mVar 3) mNil))))) (mVar 5)) (E N C Su (some D) none none none none none none none none) S = .ok false S := by
    refine test_v (bin_v (x := D) (y := D) (call_v (cons_v (w := tI rs) rfl (cons_v (w := tI ns) rfl (cons_v (w := .int ((1000000 : Nat) : Int)) pow_6 (cons_v (w := .int (n : Int)) rfl nil_ev)))) (reach_ok hr hN hl (by decide) (by decide) hn200)) rfl (ne_of_eq (eq_tI_refl fun i hi => ?_)))
    simp only [List.mem_cons, List.mem_nil_iff, or_false] at hi
    rcases hi with rfl | rfl <;> exact smN (by omega)
  have t2 : mTest (mCall (g__law_way_right) (mCons (mVar 1) (mCons (mVar 2) (mCons (mBin powD (mK (.int 10)) (mK (.int 6))) (mCons (mVar 3) (mCons (mBin ixA (mVar 5) (mK (.int 1))) mNil)))))) (E N C Su (some D) none none none none none none none none) S = .ok true S :=
    test_v (call_v (cons_v (w := tI rs) rfl (cons_v (w := tI ns) rfl (cons_v (w := .int ((1000000 : Nat) : Int)) pow_6 (cons_v (w := .int (n : Int)) rfl (cons_v (w := .int (reF rs ns (1000000 : Nat) n).2) (bin_v (x := D) (y := .int 1) rfl rfl ix1) nil_ev))))) (way_right_ok hr hN hl (by decide) hn200))
  have hrl : (rrow rs n).length = rs.length + n := by
    rw [rw1, List.length_append, List.length_append, List.length_replicate]
    omega
  have rv : ∀ {x5 x6 x7 x8 x9 x10 x11 x12 x13 : Option Dv}, mCall (g_rise_row) (mCons (mVar 1) (mCons (mVar 3) mNil)) (E N C Su x5 x6 x7 x8 x9 x10 x11 x12 x13) S = .ok (tI (rrow rs n)) S := call_v (cons_v (w := tI rs) rfl (cons_v (w := .int (n : Int)) rfl nil_ev)) (rise_row_ok hs hr hn200)
  let T : Option Dv := some (lI [riM rs n, riM rs n, ((rs.length + n : Nat) : Int)])
  have a4 : mAsg (mLst (mCons (mCall (g_rise) (mCons (mVar 1) (mCons (mVar 3) mNil))) (mCons (mCall (g_fall) (mCons (mVar 1) (mCons (mVar 3) mNil))) (mCons (mBlt lenD (mCons (mCall (g_rise_row) (mCons (mVar 1) (mCons (mVar 3) mNil))) mNil)) mNil)))) (gN 6) (E N C Su (some D) none none none none none none none none) S = .nx (E N C Su (some D) T none none none none none none none) S := by
    have ar : mCons (mVar 1) (mCons (mVar 3) mNil) (E N C Su (some D) none none none none none none none none) S = .ok [tI rs, .int (n : Int)] S := cons_v (w := tI rs) rfl (cons_v (w := .int (n : Int)) rfl nil_ev)
    refine asg_v (w := lI [riM rs n, riM rs n, ((rs.length + n : Nat) : Int)]) (three_v (call_v ar (rise_ok hs hr hn200)) (call_v ar (fall_ok hs hr hn200)) (blt_v (cons_v rv nil_ev) ?_))
    rw [tI, len_tup, List.length_map, hrl]
  let Mo : Option Dv := some (.int (riM rs n))
  have a5 : mAsg (mBin subD (mBlt maxLD (mCons (mVar 4) mNil)) (mBlt minLD (mCons (mVar 4) mNil))) (gN 7) (E N C Su (some D) T none none none none none none none) S = .nx (E N C Su (some D) T Mo none none none none none none) S := by
    refine asg_v (w := .int (riM rs n)) (bin_v mx mn ?_)
    rw [sub_ev, hri]
  let Rw : Option Dv := some (tI (rrow rs n))
  have a6 : mAsg (mCall (g_rise_row) (mCons (mVar 1) (mCons (mVar 3) mNil))) (gN 8) (E N C Su (some D) T Mo none none none none none none) S = .nx (E N C Su (some D) T Mo Rw none none none none none) S := asg_v rv
  have lnW : ∀ {x9 x10 x11 x12 x13 : Option Dv}, mBlt lenD (mCons (mVar 8) mNil) (E N C Su (some D) T Mo Rw x9 x10 x11 x12 x13) S = .ok (.int ((rs.length + n : Nat) : Int)) S := blt_v (cons_v (w := tI (rrow rs n)) rfl nil_ev) (by rw [tI, len_tup, List.length_map, hrl])
  have sbW : ∀ {x9 x10 x11 x12 x13 : Option Dv}, mBin subD (mBlt lenD (mCons (mVar 8) mNil)) (mBlt lenD (mCons (mVar 1) mNil)) (E N C Su (some D) T Mo Rw x9 x10 x11 x12 x13) S = .ok (.int (n : Int)) S := bin_v (x := .int ((rs.length + n : Nat) : Int)) (y := .int (rs.length : Int)) lnW lnR (by rw [sub_ev, show ((rs.length + n : Nat) : Int) - (rs.length : Int) = (n : Int) by omega])
  have k1 : (rrow rs n).take rs.length = ra := by rw [rw1]; exact List.take_left' rw2
  have k2 : (rrow rs n).drop n = rb := by
    rw [rw1, ← List.append_assoc]
    exact List.drop_left' (by rw [List.length_append, List.length_replicate]; omega)
  have k3 : ((rrow rs n).drop rs.length).take (n - rs.length) = List.replicate (n - rs.length) 0 := by
    rw [rw1, List.drop_left' rw2]
    exact List.take_left' List.length_replicate
  let En : Option Dv := some (lI [dot rs (srt ra), dot rs (srt rb)])
  have a7 : mAsg (mLst (mCons (mCall (g__law_sum) (mCons (mVar 1) (mCons (mSl slA (mVar 8) mNoPart (mPart (mBlt lenD (mCons (mVar 1) mNil)))) mNil))) (mCons (mCall (g__law_sum) (mCons (mVar 1) (mCons (mSl slA (mVar 8) (mPart (mBin subD (mBlt lenD (mCons (mVar 8) mNil)) (mBlt lenD (mCons (mVar 1) mNil)))) mNoPart) mNil))) mNil))) (gN 9) (E N C Su (some D) T Mo Rw none none none none none) S = .nx (E N C Su (some D) T Mo Rw En none none none none) S := by
    have s1 := sl_to (s := S) (f := mVar 8) (ρ := E N C Su (some D) T Mo Rw none none none none none) (ns := rrow rs n) rfl lnR
    have s2 := sl_fr (s := S) (f := mVar 8) (ρ := E N C Su (some D) T Mo Rw none none none none none) (ns := rrow rs n) rfl sbW
    rw [k1] at s1
    rw [k2] at s2
    exact asg_v (w := lI [dot rs (srt ra), dot rs (srt rb)]) (two_v (call_v (cons_v (w := tI rs) rfl (cons_v s1 nil_ev)) (law_sum_ok (Fit.of hr) (by omega))) (call_v (cons_v (w := tI rs) rfl (cons_v s2 nil_ev)) (law_sum_ok (Fit.of hr) (by omega))))
  have hF3 : cF__law_many_right_3 (E N C Su (some D) T Mo Rw En none none none none) S = .ok { ws := (List.replicate (n - rs.length) (0 : Int)).map .int } S := by
    have h := sl_mid (s := S) (f := mVar 8) (ρ := E N C Su (some D) T Mo Rw En none none none none) (ns := rrow rs n) rfl lnR sbW (by omega) (by omega)
    rw [k3] at h
    show iSeq _ _ _ = _
    unfold iSeq
    rw [h]
    rfl
  have c4 := comp_filt (vs := [13]) (g := ct__law_many_right_3) (tt := ci__law_many_right_3) (elt := ce__law_many_right_3) Dv.int (fun _ => false) hF3 (by rw [List.length_replicate]; unfold lim; omega) fun i hi => ⟨E N C Su (some D) T Mo Rw En none none none (some (.int i)), rfl, by
    rw [(List.mem_replicate.mp hi).2]
    refine test_v (bin_v (x := .int 0) (y := .int 0) rfl k_ev ?_)
    rw [ne_of_eq eq_ii, decide_eq_true rfl]
    rfl, fun z => nomatch z⟩
  have hnil : (List.replicate (n - rs.length) (0 : Int)).filter (fun _ => false) = [] := by simp
  rw [hnil] at c4
  have a8 : mAsg (mBin eqD (mComp cF__law_many_right_3 [13] ct__law_many_right_3 ci__law_many_right_3 ce__law_many_right_3) (mLst mNil)) (gN 10) (E N C Su (some D) T Mo Rw En none none none none) S = .nx (E N C Su (some D) T Mo Rw En (some (.bl true)) none none none) S := by
    refine asg_v (w := .bl true) (bin_v (x := lI []) (y := lI []) c4 rfl ?_)
    rw [eq_lI, decide_eq_true rfl]
  unfold g__law_many_right d__law_many_right
  rw [den_ev, e0]
  refine fin_nx a1 (fin_nx a2 (fin_nx a3 (fin_nx (if_no (or_f t1 (not_vt t2))) (fin_nx a4 (fin_nx a5 (fin_nx a6 (fin_nx a7 (fin_nx a8 ?_))))))))
  rw [ret_v (w := .bl true) ?_]
  · exact hfin _
  · refine and_yes (bin_v (x := lI [riM rs n, riM rs n, ((rs.length + n : Nat) : Int)]) (y := lI [riM rs n, riM rs n, ((rs.length + n : Nat) : Int)]) rfl (three_v (a := .int (riM rs n)) (b := .int (riM rs n)) rfl rfl (bin_v (x := .int (rs.length : Int)) (y := .int (n : Int)) lnR rfl (by rw [add_ii, Int.natCast_add]))) ?_) (and_yes (bin_v (x := .int (dot rs (srt rb) - dot rs (srt ra))) (y := .int (riM rs n)) (bin_v (x := .int (dot rs (srt rb))) (y := .int (dot rs (srt ra))) (bin_v (y := .int ((1 : Nat) : Int)) (show mVar 9 _ S = .ok (lI [dot rs (srt ra), dot rs (srt rb)]) S from rfl) rfl (ix_lst rfl)) (bin_v (y := .int ((0 : Nat) : Int)) (show mVar 9 _ S = .ok (lI [dot rs (srt ra), dot rs (srt rb)]) S from rfl) rfl (ix_lst rfl)) sub_ev) rfl ?_) rfl)
    · rw [eq_lI, decide_eq_true rfl]
    · rw [eq_ii, rw4, decide_eq_true rfl]
end
end MP.K45
set_option Elab.async false
set_option linter.all false
set_option maxRecDepth 100000
set_option maxHeartbeats 2000000
namespace MP.K45
open PySem PySem.Spec MP MP.PG
open PyProof.Rows hiding St
open L2 hiding St r1
section
variable {s : Sto} {ρ : Env} {fa : FA} {rs ns : List Int} {m : Int} {n : Nat}
def RuC (rs : List Int) : Prop := 1 ≤ rs.length ∧ rs.length ≤ 6 ∧ ∀ i ∈ rs, -20 ≤ i ∧ i ≤ 20
instance : DecidablePred RuC := fun _ => inferInstanceAs (Decidable (_ ∧ _ ∧ _))
theorem RuC.ok (h : RuC rs) : Rule rs := ⟨h.1, h.2.1, h.2.2⟩
def RoC (rs ns : List Int) (m : Int) (n : Nat) : Prop := RuC rs ∧ (ns.length ≤ 200 ∧ ∀ i ∈ ns, 0 ≤ i ∧ i ≤ 1000000) ∧ rs.length ≤ ns.length ∧ 0 ≤ m ∧ m ≤ 1000000 ∧ n ≤ 200
instance : Decidable (RoC rs ns m n) := inferInstanceAs (Decidable (_ ∧ _ ∧ _))
theorem re_v (a b : Int) (ha : fa ρ s = .ok [tI rs, tI ns, .int m, .int (n : Int)] s) (hc : RoC rs ns m n) (h : reF rs ns m n = (a, b)) : mCall g_reach fa ρ s = .ok (tI [a, b]) s := by
  have := reach_ok (s := s) hc.1.ok ⟨hc.2.1.1, hc.2.1.2⟩ hc.2.2.1 hc.2.2.2.1 hc.2.2.2.2.1 hc.2.2.2.2.2
  rw [h] at this
  exact call_v ha this
theorem so_v {g : Int} (o : Option Nat) (ha : fa ρ s = .ok [tI rs, tI ns, .int m, .int g] s) (hc : RoC rs ns m 0) (h : soF rs ns m g = o) : mCall g_soonest fa ρ s = .ok (soD o) s := by
  have := soonest_ok (s := s) (goal := g) hc.1.ok ⟨hc.2.1.1, hc.2.1.2⟩ hc.2.2.1 hc.2.2.2.1 hc.2.2.2.2.1
  rw [h] at this
  exact call_v ha this
theorem wa_v (w : List Int) (ha : fa ρ s = .ok [tI rs, tI ns, .int m, .int (n : Int)] s) (hc : RoC rs ns m n) (h : ∀ e ∈ endsL rs ns m n, e.1 = (reF rs ns m n).2 → List.replicate (n - e.2.length) 0 ++ e.2 = w) : mCall g_greatest_way fa ρ s = .ok (tI w) s := by
  obtain ⟨e, he, h1, h2⟩ := way_ok hc.1.ok ⟨hc.2.1.1, hc.2.1.2⟩ hc.2.2.1 hc.2.2.2.1 hc.2.2.2.2.1 hc.2.2.2.2.2
  have := h2 s
  rw [h e he h1] at this
  exact call_v ha this
theorem ri_v (r : Int) (hs : Cl s) (ha : fa ρ s = .ok [tI rs, .int (n : Int)] s) (hc : RuC rs) (hn : n ≤ 200) (h : riM rs n = r) : mCall g_rise fa ρ s = .ok (.int r) s := by
  have := rise_ok hs hc.ok hn
  rw [h] at this
  exact call_v ha this
theorem fa_v (r : Int) (hs : Cl s) (ha : fa ρ s = .ok [tI rs, .int (n : Int)] s) (hc : RuC rs) (hn : n ≤ 200) (h : riM rs n = r) : mCall g_fall fa ρ s = .ok (.int r) s := by
  have := fall_ok hs hc.ok hn
  rw [h] at this
  exact call_v ha this
theorem rr_v (r : List Int) (hs : Cl s) (ha : fa ρ s = .ok [tI rs, .int (n : Int)] s) (hc : RuC rs) (hn : n ≤ 200) (h : rrow rs n = r) : mCall g_rise_row fa ρ s = .ok (tI r) s := by
  have := rise_row_ok hs hc.ok hn
  rw [h] at this
  exact call_v ha this
theorem plsT : ∀ l : List (List Int), (∀ r ∈ l, ∀ i ∈ r, i.natAbs ≤ 1000) → ∃ n ds, Pls n 1 (l.map tI) ds
  | [], _ => ⟨_, _, pls_nil⟩
  | r :: l, h => by
    obtain ⟨n, ds, h1⟩ := plsT l fun r hr => h r (List.mem_cons_of_mem _ hr)
    exact ⟨_, _, pls_cons (pl_tI fun i hi => smN (by have := h r List.mem_cons_self i hi; omega)) h1⟩
theorem eq_Ts (l : List (List Int)) (h : ∀ r ∈ l, ∀ i ∈ r, i.natAbs ≤ 1000) : eqD s (.lst (l.map tI)) (.lst (l.map tI)) = some (.bl true) := by
  obtain ⟨n, ds, h1⟩ := plsT l h
  exact eq_l_refl (pl_lst h1) (by decide)
theorem ne_Ts (l : List (List Int)) (h : ∀ r ∈ l, ∀ i ∈ r, i.natAbs ≤ 1000) : neD s (.lst (l.map tI)) (.lst (l.map tI)) = some (.bl false) := ne_of_eq (eq_Ts l h)
/-- ints and tuples of them, in a list -/
def itD : Int ⊕ List Int → Dv
  | .inl i => .int i
  | .inr l => tI l
def itB : Int ⊕ List Int → Prop
  | .inl i => i.natAbs ≤ 1000
  | .inr l => ∀ i ∈ l, i.natAbs ≤ 1000
instance : DecidablePred itB := fun x => match x with
  | .inl i => inferInstanceAs (Decidable (i.natAbs ≤ 1000))
  | .inr l => inferInstanceAs (Decidable (∀ i ∈ l, i.natAbs ≤ 1000))
theorem plsI : ∀ l : List (Int ⊕ List Int), (∀ r ∈ l, itB r) → ∃ n ds, Pls n 1 (l.map itD) ds
  | [], _ => ⟨_, _, pls_nil⟩
  | .inl i :: l, h => by
    obtain ⟨n, ds, h1⟩ := plsI l fun r hr => h r (List.mem_cons_of_mem _ hr)
    have hb : i.natAbs ≤ 1000 := h _ List.mem_cons_self
    exact ⟨_, _, pls_cons ((pl_int (smN (by omega))).mono (Nat.le_refl _) (by decide)) h1⟩
  | .inr r :: l, h => by
    obtain ⟨n, ds, h1⟩ := plsI l fun r hr => h r (List.mem_cons_of_mem _ hr)
    have hb : ∀ i ∈ r, i.natAbs ≤ 1000 := h _ List.mem_cons_self
    exact ⟨_, _, pls_cons (pl_tI fun i hi => smN (by have := hb i hi; omega)) h1⟩
theorem eq_Is (l : List (Int ⊕ List Int)) (h : ∀ r ∈ l, itB r) : eqD s (.lst (l.map itD)) (.lst (l.map itD)) = some (.bl true) := by
  obtain ⟨n, ds, h1⟩ := plsI l h
  exact eq_l_refl (pl_lst h1) (by decide)
theorem ne_Is (l : List (Int ⊕ List Int)) (h : ∀ r ∈ l, itB r) : neD s (.lst (l.map itD)) (.lst (l.map itD)) = some (.bl false) := ne_of_eq (eq_Is l h)
theorem ne_iiE {i : Int} : neD s (.int i) (.int i) = some (.bl false) := by
  rw [ne_of_eq eq_ii, decide_eq_true rfl]
  rfl
theorem hand_ok (hs : Cl s) : g__law_hand_right [] s = .ok (.bl true) s := by
  let E (x0 x1 x2 x3 x4 : Option Dv) : Env := [x0, x1, x2, x3, x4]
  have e0 : startD 5 [] = E none none none none none := rfl
  let T : List Int := [0, 0, 1, 1]
  let F : List Int := [90, 10, 40, 70, 30]
  let X0 : Option Dv := some (tI T)
  let X1 : Option Dv := some (tI F)
  have a1 : mAsg (mTup (mCons (mTup (mCons (mK (.int 0)) (mCons (mK (.int 0)) (mCons (mK (.int 1)) (mCons (mK (.int 1)) mNil))))) (mCons (mTup (mCons (mK (.int 90)) (mCons (mK (.int 10)) (mCons (mK (.int 40)) (mCons (mK (.int 70)) (mCons (mK (.int 30)) mNil)))))) mNil))) (gT 2 (gsC (gN 0) (gsC (gN 1) gs0))) (E none none none none none) s = .nx (E X0 X1 none none none) s :=
    asg_gv (w := .tup [tI T, tI F]) rfl rfl
  let V2 : Dv := .lst ([[110, 110], [110, 170], [100, 120], [0, 40]].map tI)
  have a2 : mAsg (mLst (mCons (mCall (g_reach) (mCons (mVar 0) (mCons (mVar 1) (mCons (mK (.int 100)) (mCons (mK (.int 0)) mNil))))) (mCons (mCall (g_reach) (mCons (mVar 0) (mCons (mVar 1) (mCons (mK (.int 100)) (mCons (mK (.int 1)) mNil))))) (mCons (mCall (g_reach) (mCons (mVar 0) (mCons (mVar 1) (mCons (mK (.int 50)) (mCons (mK (.int 2)) mNil))))) (mCons (mCall (g_reach) (mCons (mVar 0) (mCons (mVar 1) (mCons (mK (.int 20)) (mCons (mK (.int 4)) mNil))))) mNil))))) (gN 2) (E X0 X1 none none none) s = .nx (E X0 X1 (some V2) none none) s :=
    asg_v (w := V2) (lst_v (cons_v (re_v (rs := T) (ns := F) (n := 0) 110 110 rfl (by decide +kernel) (by decide +kernel)) (cons_v (re_v (rs := T) (ns := F) (n := 1) 110 170 rfl (by decide +kernel) (by decide +kernel)) (cons_v (re_v (rs := T) (ns := F) (n := 2) 100 120 rfl (by decide +kernel) (by decide +kernel)) (cons_v (re_v (rs := T) (ns := F) (n := 4) 0 40 rfl (by decide +kernel) (by decide +kernel)) nil_ev)))) (by show 4 ≤ 1000000; decide))
  have a3 : mTest (mBin neD (mVar 2) (mLst (mCons (mTup (mCons (mK (.int 110)) (mCons (mK (.int 110)) mNil))) (mCons (mTup (mCons (mK (.int 110)) (mCons (mK (.int 170)) mNil))) (mCons (mTup (mCons (mK (.int 100)) (mCons (mK (.int 120)) mNil))) (mCons (mTup (mCons (mK (.int 0)) (mCons (mK (.int 40)) mNil))) mNil)))))) (E X0 X1 (some V2) none none) s = .ok false s := ne_v (x := V2) (y := V2) rfl rfl (ne_Ts _ (by decide +kernel))
  let V4 : Dv := .lst [.int 0, .int 2, .non]
  have a4 : mAsg (mLst (mCons (mCall (g_soonest) (mCons (mVar 0) (mCons (mVar 1) (mCons (mK (.int 100)) (mCons (mK (.int 110)) mNil))))) (mCons (mCall (g_soonest) (mCons (mVar 0) (mCons (mVar 1) (mCons (mK (.int 100)) (mCons (mK (.int 171)) mNil))))) (mCons (mCall (g_soonest) (mCons (mVar 0) (mCons (mVar 1) (mCons (mK (.int 20)) (mCons (mK (.int 111)) mNil))))) mNil)))) (gN 2) (E X0 X1 (some V2) none none) s = .nx (E X0 X1 (some V4) none none) s :=
    asg_v (w := V4) (lst_v (cons_v (so_v (rs := T) (ns := F) (some 0) rfl (by decide +kernel) (by decide +kernel)) (cons_v (so_v (rs := T) (ns := F) (some 2) rfl (by decide +kernel) (by decide +kernel)) (cons_v (so_v (rs := T) (ns := F) none rfl (by decide +kernel) (by decide +kernel)) nil_ev))) (by show 3 ≤ 1000000; decide))
  have p4 := pl_lst (pls_cons (pl_small (i := 0) (by decide)) (pls_cons (pl_small (i := 2) (by decide)) (pls_cons pl_non (pls_nil (k := 0)))))
  have a5 : mTest (mBin neD (mVar 2) (mLst (mCons (mK (.int 0)) (mCons (mK (.int 2)) (mCons (mK .non) mNil))))) (E X0 X1 (some V4) none none) s = .ok false s := ne_v (x := V4) (y := V4) rfl rfl (ne_of_eq (eq_l_refl p4 (by decide)))
  have a6 : mTest (mBin neD (mCall (g_soonest) (mCons (mVar 0) (mCons (mVar 1) (mCons (mK (.int 0)) (mCons (mUn negD (mK (.int 5))) mNil))))) (mK (.int 0))) (E X0 X1 (some V4) none none) s = .ok false s := ne_v (x := .int 0) (y := .int 0) (so_v (rs := T) (ns := F) (g := -5) (some 0) rfl (by decide +kernel) (by decide +kernel)) rfl ne_iiE
  let V7 : Dv := .lst ([[-4, 3], [3], [-10, 10]].map tI)
  have a7 : mAsg (mLst (mCons (mCall (g_reach) (mCons (mTup (mCons (mK (.int 2)) (mCons (mUn negD (mK (.int 1))) mNil))) (mCons (mTup (mCons (mK (.int 7)) (mCons (mK (.int 3)) mNil))) (mCons (mK (.int 10)) (mCons (mK (.int 1)) mNil))))) (mCons (mCall (g_greatest_way) (mCons (mTup (mCons (mK (.int 2)) (mCons (mUn negD (mK (.int 1))) mNil))) (mCons (mTup (mCons (mK (.int 7)) (mCons (mK (.int 3)) mNil))) (mCons (mK (.int 10)) (mCons (mK (.int 1)) mNil))))) (mCons (mCall (g_reach) (mCons (mTup (mCons (mK (.int 2)) (mCons (mUn negD (mK (.int 1))) mNil))) (mCons (mTup (mCons (mK (.int 7)) (mCons (mK (.int 3)) mNil))) (mCons (mK (.int 10)) (mCons (mK (.int 2)) mNil))))) mNil)))) (gN 2) (E X0 X1 (some V4) none none) s = .nx (E X0 X1 (some V7) none none) s :=
    asg_v (w := V7) (lst_v (cons_v (re_v (rs := [2, -1]) (ns := [7, 3]) (n := 1) (-4) 3 rfl (by decide +kernel) (by decide +kernel)) (cons_v (wa_v (rs := [2, -1]) (ns := [7, 3]) (n := 1) [3] rfl (by decide +kernel) (by decide +kernel)) (cons_v (re_v (rs := [2, -1]) (ns := [7, 3]) (n := 2) (-10) 10 rfl (by decide +kernel) (by decide +kernel)) nil_ev))) (by show 3 ≤ 1000000; decide))
  have a8 : mTest (mBin neD (mVar 2) (mLst (mCons (mTup (mCons (mUn negD (mK (.int 4))) (mCons (mK (.int 3)) mNil))) (mCons (mTup (mCons (mK (.int 3)) mNil)) (mCons (mTup (mCons (mUn negD (mK (.int 10))) (mCons (mK (.int 10)) mNil))) mNil))))) (E X0 X1 (some V7) none none) s = .ok false s := ne_v (x := V7) (y := V7) rfl rfl (ne_Ts _ (by decide +kernel))
  let S6 : List Int := [1, 1, 1, 1, 1, 1]
  let F2 : List Int := [5, 9, 2, 7, 4, 6]
  let X3 : Option Dv := some (tI S6)
  let Y1 : Option Dv := some (tI F2)
  have m6 : ∀ {ρ : Env} {c : Int} {k : Nat}, k ≤ 1000 → mBin mulD (mTup (mCons (mK (.int c)) mNil)) (mK (.int (k : Int))) ρ s = .ok (tI (List.replicate k c)) s := fun hk => bin_v (x := .tup [.int _]) (y := .int _) rfl k_ev (mul_one_tup hk)
  have a9 : mAsg (mTup (mCons (mBin mulD (mTup (mCons (mK (.int 1)) mNil)) (mK (.int 6))) (mCons (mTup (mCons (mK (.int 5)) (mCons (mK (.int 9)) (mCons (mK (.int 2)) (mCons (mK (.int 7)) (mCons (mK (.int 4)) (mCons (mK (.int 6)) mNil))))))) mNil))) (gT 2 (gsC (gN 3) (gsC (gN 1) gs0))) (E X0 X1 (some V7) none none) s = .nx (E X0 Y1 (some V7) X3 none) s :=
    asg_gv (w := .tup [tI S6, tI F2]) (tup_v (cons_v (m6 (k := 6) (by decide)) (cons_v (w := tI F2) rfl nil_ev)) (by show 2 ≤ 1000000; decide)) rfl
  let V10 : Dv := .lst ([.inl 6, .inl 5, .inl 6, .inl 5, .inl 6].map itD)
  have a10 : mAsg (mLst (mCons (mCall (g_rise) (mCons (mVar 3) (mCons (mK (.int 6)) mNil))) (mCons (mCall (g_rise) (mCons (mVar 3) (mCons (mK (.int 5)) mNil))) (mCons (mCall (g_fall) (mCons (mVar 3) (mCons (mK (.int 6)) mNil))) (mCons (mCall (g_fall) (mCons (mVar 3) (mCons (mK (.int 5)) mNil))) (mCons (mCall (g_soonest) (mCons (mVar 3) (mCons (mBin mulD (mTup (mCons (mK (.int 0)) mNil)) (mK (.int 6))) (mCons (mK (.int 1)) (mCons (mK (.int 6)) mNil))))) mNil)))))) (gN 2) (E X0 Y1 (some V7) X3 none) s = .nx (E X0 Y1 (some V10) X3 none) s :=
    asg_v (w := V10) (lst_v (cons_v (ri_v (rs := S6) (n := 6) 6 hs rfl (by decide +kernel) (by decide) (by decide +kernel)) (cons_v (ri_v (rs := S6) (n := 5) 5 hs rfl (by decide +kernel) (by decide) (by decide +kernel)) (cons_v (fa_v (rs := S6) (n := 6) 6 hs rfl (by decide +kernel) (by decide) (by decide +kernel)) (cons_v (fa_v (rs := S6) (n := 5) 5 hs rfl (by decide +kernel) (by decide) (by decide +kernel)) (cons_v (so_v (rs := S6) (ns := List.replicate 6 0) (m := 1) (g := 6) (some 6) (cons_v rfl (cons_v (m6 (k := 6) (by decide)) rfl)) (by decide +kernel) (by decide +kernel)) nil_ev))))) (by show 5 ≤ 1000000; decide))
  have a11 : mTest (mBin neD (mVar 2) (mLst (mCons (mK (.int 6)) (mCons (mK (.int 5)) (mCons (mK (.int 6)) (mCons (mK (.int 5)) (mCons (mK (.int 6)) mNil))))))) (E X0 Y1 (some V10) X3 none) s = .ok false s := ne_v (x := V10) (y := V10) rfl rfl (ne_Is _ (by decide +kernel))
  have a12 : mTest (mBin neD (mCall (g_soonest) (mCons (mTup (mCons (mK (.int 0)) (mCons (mK (.int 0)) (mCons (mK (.int 0)) (mCons (mK (.int 0)) (mCons (mK (.int 1)) mNil)))))) (mCons (mBin mulD (mTup (mCons (mK (.int 0)) mNil)) (mK (.int 5))) (mCons (mK (.int 3)) (mCons (mK (.int 3)) mNil))))) (mK (.int 1))) (E X0 Y1 (some V10) X3 none) s = .ok false s :=
    ne_v (x := .int 1) (y := .int 1) (so_v (rs := [0, 0, 0, 0, 1]) (ns := List.replicate 5 0) (m := 3) (g := 3) (some 1) (cons_v rfl (cons_v (m6 (k := 5) (by decide)) rfl)) (by decide +kernel) (by decide +kernel)) rfl ne_iiE
  let V13 : Dv := .lst ([[22, 22], [17, 23], [0, 24]].map tI)
  have c13 := comp_mapA (vs := [4]) (g := ct__law_hand_right_1) (elt := ce__law_hand_right_1) (f := cF__law_hand_right_1) (ρ := E X0 Y1 (some V10) X3 none) (s := s) (l := ([0, 2, 6] : List Nat)) (e := fun n : Nat => Dv.int (n : Int)) (fun n : Nat => reD (reF [0, 0, 0, 1, 1, 1] F2 8 n)) rfl (by show 3 ≤ lim; unfold lim; decide) fun n hn => ⟨E X0 Y1 (some V10) X3 (some (.int (n : Int))), rfl, by
    have h200 : n ≤ 200 := by
      simp only [List.mem_cons, List.mem_nil_iff, or_false] at hn
      omega
    exact call_v (fa := mCons _ (mCons (mVar 1) (mCons (mK (.int 8)) (mCons (mVar 4) mNil)))) (cons_v (w := tI [0, 0, 0, 1, 1, 1]) rfl (cons_v (w := tI F2) rfl (cons_v (w := .int 8) k_ev (cons_v (w := .int (n : Int)) rfl nil_ev)))) (reach_ok (RuC.ok (by decide +kernel)) ⟨by decide, by decide +kernel⟩ (by decide) (by decide) (by decide) h200)⟩
  have e13 : ([0, 2, 6] : List Nat).map (fun n : Nat => reD (reF [0, 0, 0, 1, 1, 1] F2 8 n)) = [[22, 22], [17, 23], [0, 24]].map tI := by
    have h1 : reF [0, 0, 0, 1, 1, 1] F2 8 0 = (22, 22) := by decide +kernel
    have h2 : reF [0, 0, 0, 1, 1, 1] F2 8 2 = (17, 23) := by decide +kernel
    have h3 : reF [0, 0, 0, 1, 1, 1] F2 8 6 = (0, 24) := by decide +kernel
    rw [List.map_cons, List.map_cons, List.map_cons, h1, h2, h3]
    rfl
  rw [e13] at c13
  have a13 : mTest (mBin neD (mComp cF__law_hand_right_1 [4] ct__law_hand_right_1 ci__law_hand_right_1 ce__law_hand_right_1) (mLst (mCons (mTup (mCons (mK (.int 22)) (mCons (mK (.int 22)) mNil))) (mCons (mTup (mCons (mK (.int 17)) (mCons (mK (.int 23)) mNil))) (mCons (mTup (mCons (mK (.int 0)) (mCons (mK (.int 24)) mNil))) mNil))))) (E X0 Y1 (some V10) X3 none) s = .ok false s := ne_v (x := V13) (y := V13) c13 rfl (ne_Ts _ (by decide +kernel))
  let V14 : Dv := .lst ([.inl 1, .inl 1, .inr [0, 0, 0, 0, 1], .inr [0, 0, 0, 0, 1, 1], .inl 0, .inr [0, 0, 1]].map itD)
  have a14 : mAsg (mLst (mCons (mCall (g_rise) (mCons (mVar 0) (mCons (mK (.int 1)) mNil))) (mCons (mCall (g_fall) (mCons (mVar 0) (mCons (mK (.int 1)) mNil))) (mCons (mCall (g_rise_row) (mCons (mVar 0) (mCons (mK (.int 1)) mNil))) (mCons (mCall (g_rise_row) (mCons (mVar 0) (mCons (mK (.int 2)) mNil))) (mCons (mCall (g_rise) (mCons (mVar 0) (mCons (mK (.int 0)) mNil))) (mCons (mCall (g_rise_row) (mCons (mTup (mCons (mK (.int 3)) mNil)) (mCons (mK (.int 2)) mNil))) mNil))))))) (gN 2) (E X0 Y1 (some V10) X3 none) s = .nx (E X0 Y1 (some V14) X3 none) s :=
    asg_v (w := V14) (lst_v (cons_v (ri_v (rs := T) (n := 1) 1 hs rfl (by decide +kernel) (by decide) (by decide +kernel)) (cons_v (fa_v (rs := T) (n := 1) 1 hs rfl (by decide +kernel) (by decide) (by decide +kernel)) (cons_v (rr_v (rs := T) (n := 1) [0, 0, 0, 0, 1] hs rfl (by decide +kernel) (by decide) (by decide +kernel)) (cons_v (rr_v (rs := T) (n := 2) [0, 0, 0, 0, 1, 1] hs rfl (by decide +kernel) (by decide) (by decide +kernel)) (cons_v (ri_v (rs := T) (n := 0) 0 hs rfl (by decide +kernel) (by decide) (by decide +kernel)) (cons_v (rr_v (rs := [3]) (n := 2) [0, 0, 1] hs rfl (by decide +kernel) (by decide) (by decide +kernel)) nil_ev)))))) (by show 6 ≤ 1000000; decide))
  have a15 : mTest (mBin neD (mVar 2) (mLst (mCons (mK (.int 1)) (mCons (mK (.int 1)) (mCons (mTup (mCons (mK (.int 0)) (mCons (mK (.int 0)) (mCons (mK (.int 0)) (mCons (mK (.int 0)) (mCons (mK (.int 1)) mNil)))))) (mCons (mTup (mCons (mK (.int 0)) (mCons (mK (.int 0)) (mCons (mK (.int 0)) (mCons (mK (.int 0)) (mCons (mK (.int 1)) (mCons (mK (.int 1)) mNil))))))) (mCons (mK (.int 0)) (mCons (mTup (mCons (mK (.int 0)) (mCons (mK (.int 0)) (mCons (mK (.int 1)) mNil)))) mNil)))))))) (E X0 Y1 (some V14) X3 none) s = .ok false s := ne_v (x := V14) (y := V14) rfl rfl (ne_Is _ (by decide +kernel))
  let V16 : Dv := .lst ([.inl 4, .inl 4, .inr [1, 0, 0]].map itD)
  have a16 : mBin eqD (mLst (mCons (mCall (g_rise) (mCons (mTup (mCons (mK (.int 1)) (mCons (mUn negD (mK (.int 4))) mNil))) (mCons (mK (.int 1)) mNil))) (mCons (mCall (g_fall) (mCons (mTup (mCons (mK (.int 1)) (mCons (mUn negD (mK (.int 4))) mNil))) (mCons (mK (.int 1)) mNil))) (mCons (mCall (g_rise_row) (mCons (mTup (mCons (mK (.int 1)) (mCons (mUn negD (mK (.int 4))) mNil))) (mCons (mK (.int 1)) mNil))) mNil)))) (mLst (mCons (mK (.int 4)) (mCons (mK (.int 4)) (mCons (mTup (mCons (mK (.int 1)) (mCons (mK (.int 0)) (mCons (mK (.int 0)) mNil)))) mNil)))) (E X0 Y1 (some V14) X3 none) s = .ok (.bl true) s :=
    bin_v (x := V16) (y := V16) (three_v (ri_v (rs := [1, -4]) (n := 1) 4 hs rfl (by decide +kernel) (by decide) (by decide +kernel)) (fa_v (rs := [1, -4]) (n := 1) 4 hs rfl (by decide +kernel) (by decide) (by decide +kernel)) (rr_v (rs := [1, -4]) (n := 1) [1, 0, 0] hs rfl (by decide +kernel) (by decide) (by decide +kernel))) rfl (eq_Is _ (by decide +kernel))
  have a17 : mBin eqD (mCall (g_rise_row) (mCons (mTup (mCons (mK (.int 1)) mNil)) (mCons (mK (.int 0)) mNil))) (mTup (mCons (mK (.int 0)) mNil)) (E X0 Y1 (some V14) X3 none) s = .ok (.bl true) s :=
    bin_v (x := tI [0]) (y := tI [0]) (rr_v (rs := [1]) (n := 0) [0] hs rfl (by decide +kernel) (by decide) (by decide +kernel)) rfl (eq_tI_refl fun i hi => smN (by rw [List.mem_singleton.mp hi]; decide))
  unfold g__law_hand_right d__law_hand_right
  rw [den_ev, e0]
  refine fin_nx a1 (fin_nx a2 (fin_nx (if_no a3) (fin_nx a4 (fin_nx (if_no (or_f a5 a6)) (fin_nx a7 (fin_nx (if_no a8) (fin_nx a9 (fin_nx a10 (fin_nx (if_no (or_f a11 a12)) (fin_nx (if_no a13) (fin_nx a14 (fin_nx (if_no a15) ?_))))))))))))
  exact (congrArg (finC _) (ret_v (and_yes a16 a17))).trans finC_rt
end
end MP.K45
set_option Elab.async false
set_option linter.all false
set_option maxRecDepth 100000
set_option maxHeartbeats 1000000
namespace MP.K45
open PySem PySem.Spec MP MP.PG
open PyProof.Rows hiding St
open L2 hiding St r1
theorem fact (ns : List Int) (hn : ns.length ≤ 63) : ∃ s', g_law [.sq (ns.map .int)] [] = .ok (.bl true) s' := by
  let S0 : Sto := []
  let Sc : Option Dv := some (.sq (ns.map .int))
  let E (x1 x2 x3 : Option Dv) : Env := [Sc, x1, x2, x3]
  have e0 : startD 4 [.sq (ns.map .int)] = E none none none := rfl
  obtain ⟨ρ', s', f1, hcl, x1, x2, x3, rfl⟩ := for_ix (F := F_law_1) (g := t_law_1) (body := b_law_1) (ρ := E none none none) (s := S0) (s1 := S0) (xs := rng 0 (3 + min ns.length 5))
    (fun i ρ s => Cl s ∧ ∃ x1 x2 x3, ρ = E x1 x2 x3) (by
      refine range1_ok (j := ((3 + min ns.length 5 : Nat) : Int)) (cons_v (bin_v (x := .int 3) (y := .int ((min ns.length 5 : Nat) : Int)) k_ev (blt_v (cons_v (w := .int (ns.length : Int)) (blt_v (cons_v (w := .sq (ns.map .int)) rfl nil_ev) (by rw [len_sq, List.length_map])) (cons_v (w := .int 5) k_ev nil_ev)) ?_) ?_) nil_ev) (okR_s (by omega) (by omega))
      · show some (Dv.int (if (5 : Int) < (ns.length : Int) then 5 else (ns.length : Int))) = _
        congr 2
        split <;> omega
      · rw [add_ii, Int.natCast_add]
        rfl) ⟨fun _ => rfl, _, _, _, rfl⟩ fun i x ρ s hx ⟨hcl, x1, x2, x3, hρ⟩ => by
      subst hρ
      obtain ⟨hi, rfl⟩ := rng_get hx
      have hi9 : i < 3 + min ns.length 5 := hi
      rw [Int.zero_add]
      let K : Option Dv := some (.int (i : Int))
      have ho : ClP s [] := fun n => ⟨hcl n, rfl⟩
      obtain ⟨l0, hb⟩ := begun_ok (pre := s) (ns := ns) (k := i) hn (by omega)
      generalize hcs : cellsOf ns i ++ [37 * (i : Int) + 11] = cs at hb
      have hc : cs ≠ [] := by rw [← hcs]; simp
      let M : Option Dv := some (.ref s.length)
      have a1 : mAsg (mCall (g__law_begun) (mCons (mVar 0) (mCons (mVar 1) mNil))) (gN 2) (E K x2 x3) s = .nx (E K M x3) (St s [] cs l0 0) :=
        asg_v (w := .ref s.length) (call_v (cons_v (w := .sq (ns.map .int)) rfl (cons_v (w := .int (i : Int)) rfl nil_ev)) hb)
      obtain ⟨rs, l1, p1, t1, r1, r2, r3, q10, q11⟩ := tune_ok (pre := s) (cs := cs) (l := l0) (p := 0) (m := 3) hc (by decide) (by decide) (by decide) (by decide)
      have hr : Rule rs := ⟨r1, by omega, fun i hi => by have := r3 i hi; omega⟩
      have a2 : mAsg (mCall (g__law_tune) (mCons (mVar 2) (mCons (mK (.int 3)) mNil))) (gN 3) (E K M x3) (St s [] cs l0 0) = .nx (E K M (some (tI rs))) (St s [] cs l1 p1) :=
        asg_v (w := tI rs) (call_v (cons_v (w := .ref s.length) rfl (cons_v (w := .int ((3 : Nat) : Int)) rfl nil_ev)) t1)
      obtain ⟨l2, p2, g2, q20, q21⟩ := right_ok (pre := s) (cs := cs) (l := l1) (p := p1) ho hc q10 (by omega) hr r2
      obtain ⟨l3, p3, g3, q30, q31⟩ := many_right_ok (pre := s) (cs := cs) (l := l2) (p := p2) ho hc q20 (by omega) hr
      have w2 : mTest (mCall (g__law_right) (mCons (mVar 2) (mCons (mVar 3) mNil))) (E K M (some (tI rs))) (St s [] cs l1 p1) = .ok true (St s [] cs l2 p2) := test_v (call_v (cons_v (w := .ref s.length) rfl (cons_v (w := tI rs) rfl nil_ev)) g2)
      have w3 : mTest (mCall (g__law_many_right) (mCons (mVar 2) (mCons (mVar 3) mNil))) (E K M (some (tI rs))) (St s [] cs l2 p2) = .ok true (St s [] cs l3 p3) := test_v (call_v (cons_v (w := .ref s.length) rfl (cons_v (w := tI rs) rfl nil_ev)) g3)
      refine ⟨E K x2 x3, E K M (some (tI rs)), St s [] cs l3 p3, rfl, .inl ?_, fun n => St_clean ho, _, _, _, rfl⟩
      unfold b_law_1
      refine seq_nx a1 (seq_nx a2 ?_)
      rw [ifS_f (or_f (not_vt w2) (not_vt w3))]
      rfl
  have fin : finC S0.length (mRet (mCall g__law_hand_right mNil) (E x1 x2 x3) s') = finC S0.length (.rt (.bl true) s') := congrArg (finC _) (ret_v (w := .bl true) (call_v (fa := mNil) (ws := []) nil_ev (hand_ok hcl)))
  have hlast : ∃ s2, finC S0.length (.rt (.bl true) s') = .ok (.bl true) s2 := by
    show ∃ s2, finW S0.length (.bl true) s' = .ok (.bl true) s2
    unfold finW
    split
    · exact ⟨_, rfl⟩
    · rw [if_pos (by
        have := hcl S0.length
        exact List.all_eq_true.mpr fun o ho => List.all_eq_true.mp this o (List.mem_of_mem_take ho))]
      exact ⟨_, rfl⟩
  obtain ⟨s2, h2⟩ := hlast
  refine ⟨s2, ?_⟩
  unfold g_law d_law
  rw [den_ev, e0]
  exact fin_nx f1 (fin.trans h2)
end MP.K45
set_option Elab.async false
set_option linter.all false
set_option maxRecDepth 100000
open PySem PySem.W PyProof.Rows
set_option maxHeartbeats 0 in
theorem PySem.Challenge.cw_bestoflast_k45_whole_indexes_to_come_holds : PySem.Challenge.rw_bestoflast_k45_whole_indexes_to_come.Holds := by
  w_on; o_law; k_head; (case hw => w_witness2)
  k_fill
  refine MP.walk_GTs (l := PySem.Challenge.rw_bestoflast_k45_whole_indexes_to_come) (n := 63) (k := 8) (x := "script") (ys := []) (qs := []) rfl (by decide) rfl ⟨rfl, by decide, by decide⟩ (fun w h Y => PySem.W.kIn_of Y) ?Y ?F
  case Y =>
    intro y hy
    exact absurd hy (by simp)
  case F =>
    intro w mg fa h KX G hmg
    refine' MP.K45.all_mk KX G hmg ?a0 ?l0 ?c0 ?k0 ?a1 ?l1 ?c1 ?k1 ?a2 ?l2 ?c2 ?k2 ?a3 ?l3 ?c3 ?k3 ?a4 ?l4 ?c4 ?k4 ?a5 ?l5 ?c5 ?k5 ?a6 ?l6 ?c6 ?k6 ?a7 ?l7 ?c7 ?k7 ?a8 ?l8 ?c8 ?k8 ?a9 ?l9 ?c9 ?k9 ?a10 ?l10 ?c10 ?k10 ?a11 ?l11 ?c11 ?k11 ?a12 ?l12 ?c12 ?k12 ?a13 ?l13 ?c13 ?k13 ?a14 ?l14 ?c14 ?k14 ?a15 ?l15 ?c15 ?k15 ?a16 ?l16 ?c16 ?k16 ?a17 ?l17 ?c17 ?k17 ?a18 ?l18 ?c18 ?k18 ?a19 ?l19 ?c19 ?k19 ?a20 ?l20 ?c20 ?k20 ?a21 ?l21 ?c21 ?k21 ?a22 ?l22 ?c22 ?k22 ?a23 ?l23 ?c23 ?k23 ?a24 ?l24 ?c24 ?k24 ?a25 ?l25 ?c25 ?k25 ?a26 ?l26 ?c26 ?k26 ?a27 ?l27 ?c27 ?k27 ?a28 ?l28 ?c28 ?k28 ?a29 ?l29 ?c29 ?k29 ?a30 ?l30 ?c30 ?k30 ?a31 ?l31 ?c31 ?k31 ?a32 ?l32 ?c32 ?k32 ?a33 ?l33 ?c33 ?k33 ?a34 ?l34 ?c34 ?k34 ?a35 ?l35 ?c35 ?k35 ?a36 ?l36 ?c36 ?k36 ?z0 ?z1 ?z2 ?z3 ?z4 ?z5 ?z6 ?z7 ?z8 ?z9 ?z10 ?z11 ?z12 ?z13 ?z14 ?v0 ?v1 ?v2 ?v3  MP.K45.fact
    (case a0 => k_is)
    (case l0 => k_is)
    (case c0 => k_is)
    (case k0 => k_is)
    (case a1 => k_is)
    (case l1 => k_is)
    (case c1 => k_is)
    (case k1 => k_is)
    (case a2 => k_is)
    (case l2 => k_is)
    (case c2 => k_is)
    (case k2 => k_is)
    (case a3 => k_is)
    (case l3 => k_is)
    (case c3 => k_is)
    (case k3 => k_is)
    (case a4 => k_is)
    (case l4 => k_is)
    (case c4 => k_is)
    (case k4 => k_is)
    (case a5 => k_is)
    (case l5 => k_is)
    (case c5 => k_is)
    (case k5 => k_is)
    (case a6 => k_is)
    (case l6 => k_is)
    (case c6 => k_is)
    (case k6 => k_is)
    (case a7 => k_is)
    (case l7 => k_is)
    (case c7 => k_is)
    (case k7 => k_is)
    (case a8 => k_is)
    (case l8 => k_is)
    (case c8 => k_is)
    (case k8 => k_is)
    (case a9 => k_is)
    (case l9 => k_is)
    (case c9 => k_is)
    (case k9 => k_is)
    (case a10 => k_is)
    (case l10 => k_is)
    (case c10 => k_is)
    (case k10 => k_is)
    (case a11 => k_is)
    (case l11 => k_is)
    (case c11 => k_is)
    (case k11 => k_is)
    (case a12 => k_is)
    (case l12 => k_is)
    (case c12 => k_is)
    (case k12 => k_is)
    (case a13 => k_is)
    (case l13 => k_is)
    (case c13 => k_is)
    (case k13 => k_is)
    (case a14 => k_is)
    (case l14 => k_is)
    (case c14 => k_is)
    (case k14 => k_is)
    (case a15 => k_is)
    (case l15 => k_is)
    (case c15 => k_is)
    (case k15 => k_is)
    (case a16 => k_is)
    (case l16 => k_is)
    (case c16 => k_is)
    (case k16 => k_is)
    (case a17 => k_is)
    (case l17 => k_is)
    (case c17 => k_is)
    (case k17 => k_is)
    (case a18 => k_is)
    (case l18 => k_is)
    (case c18 => k_is)
    (case k18 => k_is)
    (case a19 => k_is)
    (case l19 => k_is)
    (case c19 => k_is)
    (case k19 => k_is)
    (case a20 => k_is)
    (case l20 => k_is)
    (case c20 => k_is)
    (case k20 => k_is)
    (case a21 => k_is)
    (case l21 => k_is)
    (case c21 => k_is)
    (case k21 => k_is)
    (case a22 => k_is)
    (case l22 => k_is)
    (case c22 => k_is)
    (case k22 => k_is)
    (case a23 => k_is)
    (case l23 => k_is)
    (case c23 => k_is)
    (case k23 => k_is)
    (case a24 => k_is)
    (case l24 => k_is)
    (case c24 => k_is)
    (case k24 => k_is)
    (case a25 => k_is)
    (case l25 => k_is)
    (case c25 => k_is)
    (case k25 => k_is)
    (case a26 => k_is)
    (case l26 => k_is)
    (case c26 => k_is)
    (case k26 => k_is)
    (case a27 => k_is)
    (case l27 => k_is)
    (case c27 => k_is)
    (case k27 => k_is)
    (case a28 => k_is)
    (case l28 => k_is)
    (case c28 => k_is)
    (case k28 => k_is)
    (case a29 => k_is)
    (case l29 => k_is)
    (case c29 => k_is)
    (case k29 => k_is)
    (case a30 => k_is)
    (case l30 => k_is)
    (case c30 => k_is)
    (case k30 => k_is)
    (case a31 => k_is)
    (case l31 => k_is)
    (case c31 => k_is)
    (case k31 => k_is)
    (case a32 => k_is)
    (case l32 => k_is)
    (case c32 => k_is)
    (case k32 => k_is)
    (case a33 => k_is)
    (case l33 => k_is)
    (case c33 => k_is)
    (case k33 => k_is)
    (case a34 => k_is)
    (case l34 => k_is)
    (case c34 => k_is)
    (case k34 => k_is)
    (case a35 => k_is)
    (case l35 => k_is)
    (case c35 => k_is)
    (case k35 => k_is)
    (case a36 => k_is)
    (case l36 => k_is)
    (case c36 => k_is)
    (case k36 => k_is)
    (case z0 => k_is)
    (case z1 => k_is)
    (case z2 => k_is)
    (case z3 => k_is)
    (case z4 => k_is)
    (case z5 => k_is)
    (case z6 => k_is)
    (case z7 => k_is)
    (case z8 => k_is)
    (case z9 => k_is)
    (case z10 => k_is)
    (case z11 => k_is)
    (case z12 => k_is)
    (case z13 => k_is)
    (case z14 => k_is)
    (case v0 => k_is)
    (case v1 => k_is)
    (case v2 => k_is)
    (case v3 => k_is)
