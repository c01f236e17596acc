import PyProof.Rows.All
import Wide.All
import OpenK.AllK
import Wide.FinOn
import HandS.ForMost
import HandS.ForExc
import HandS.WideBits
import HandS.Wide
import HandS.TupAny
import HandS.IsInst
import HandS.SortInts
import HandS.CallSlots
import HandS.MakeKw
import HandS.Flow
import HandS.ExcInit
import HandS.ExcValue
import HandS.Lambda
import KE.KDictKeyed
import HandS.TupMul
import KE.GoesNew
import KE.GoesMore
import KE.GoesEnum
import HandS.SetFor
import HandS.Strs
import HandS.Style
import KE.DataMinMax
import HandS.SortKw
import HandS.Zip
import KE.KDictZip
import HandS.ExcIs
import HandS.ExcField
import KE.KExcIs
import HandS.TryMany
import KE.KDflt
import HandS.EndTab
import HandS.TryOnly
import PyProof.EqAt
import PyProof.NeKinds
import HandS.StrMore
import HandS.FStr
import HandS.RaiseMore
import KE.GoesEnumKw
import HandS.Text
import PyProof.StrLaws
import PyProof.StrLawsRepr
import PyProof.StrBlock2
import KE.KExcInit
import HandS.Property
import HandS.Star
import HandS.MakeKwOnly
import OpenK.KOps
import OpenK.KMeth
import HandS.Conv
import HandS.RevRange
import HandS.Dict
import HandS.Flt
import HandS.Deep
import KE.KDictCopyH
import KE.KEqDict
import KE.KDictPairs
import HandS.TupSets
import HandS.Gcd
import KE.SortData
import HandS.Finally
import HandS.HotCalls
import KE.KWithOwn
import KE.KIsAll
import PyProof.InstEq
import HandS.ReplaceLit
import HandS.ReplaceDef
import KE.KTabLook
import HandS.Defaults
import HandS.HeadWalk
import HandS.HeadEnd
import PySem.Challenge.RW_bestoflast_k44_whole_rules_beside
set_option Elab.async false
set_option linter.all false
set_option maxRecDepth 100000
set_option maxHeartbeats 4000000
namespace MP
open PySem PySem.Spec PyProof.Rows L2
inductive Dv where
  | non | bl (b : Bool) | int (i : Int) | str (x : Str) | ty (n : String) | cl (c : Nat) | ref (n : Nat)
  | tup (ws : List Dv) | lst (ws : List Dv) | sq (ws : List Dv) | dct (ks : List Key) (ws : List Dv) | dtt (kd ws : List Dv) | exc (c : Nat) (f : Str) (w : Dv) | exn (c : Nat) | clo (a c : Addr) (q : Str) (ws : List Dv) (vs : List V)
  deriving Inhabited
inductive Ob where
  | lst (ws : List Dv) | dct (kws : List (Key × Dv)) | dtt (fr : Bool) (kws : List (Dv × Dv)) | obj (c : Nat) (fs : List (Str × Dv)) | tab (n : Nat) (q : Str)
  deriving Inhabited
abbrev Sto := List Ob
abbrev Env := List (Option Dv)
mutual
/-- an int, a tuple of ints and such tuples: as a key of a dict -/
def nk : Dv → Option PySem.NestedKey
  | .int i => some (.num i)
  | .tup ws => (nks ws).map .tup
  | _ => none
def nks : List Dv → Option (List PySem.NestedKey)
  | [] => some []
  | w :: ws => match nk w, nks ws with
    | some k, some ks => some (k :: ks)
    | _, _ => none
end
/-- what a dict's object tells: its keys, each with what stands for it, and its values -/
def DTf (a : Addr) (kvs : List (PySem.NestedKey × V × V)) : Heap → Prop := fun h => (a == sysModules) = false ∧ kvs.length ≤ sizeLine ∧ (∀ p ∈ kvs, p.1.depth ≤ 8) ∧
  ∃ xs : List (PySem.NestedKey × Addr × Value), Paired (fun (p : PySem.NestedKey × V × V) (q : PySem.NestedKey × Addr × Value) => p.1 = q.1 ∧ p.2.1 = .ref q.2.1 ∧ RelV p.2.2 q.2.2) kvs xs ∧
    ∃ (o : Obj) (es : Array DictEntry) (ep : Nat), h.get? a = some o ∧ o.ExactDict ∧ o.data = .dict es ep ∧ (∀ (P : Program) (w : World), es.toList = xs.map (entryOfKey (nestedKind P w))) ∧ (xs.map (·.1)).Nodup
abbrev DTO (a : Addr) (kvs : List (PySem.NestedKey × V × V)) : HO := .ext (DTf a kvs)
/-- such a dict stands at a, to be written or not any more -/
def HD (H : Hp) (a : Addr) (fr : Bool) (kvs : List (PySem.NestedKey × V × V)) : Prop := if fr = true then ∃ od, H a = some (.frz od (DTO a kvs)) else H a = some (DTO a kvs)
theorem HD.eq {H H' : Hp} {a : Addr} {fr : Bool} {kvs : List (PySem.NestedKey × V × V)} (h : HD H a fr kvs) (e : H' a = H a) : HD H' a fr kvs := by
  unfold HD at *
  rw [e]
  exact h
theorem HD.some {H : Hp} {a : Addr} {fr : Bool} {kvs : List (PySem.NestedKey × V × V)} (h : HD H a fr kvs) : H a ≠ none := by
  unfold HD at h
  split at h
  · obtain ⟨od, h⟩ := h
    rw [h]
    intro z; cases z
  · rw [h]
    intro z; cases z
/-- keys and values, told by data -/
def KVs (kd ws : List Dv) (kvs : List (PySem.NestedKey × V × V)) : Prop := kd.map nk = kvs.map (fun p => Option.some p.1) ∧ ws.length = kvs.length
structure Ex where
  c : Nat
  f : Str
  w : Dv
inductive R (α : Type) where
  | ok (a : α) (s : Sto) | er (x : Ex) (s : Sto) | no
def R.bind {α β : Type} (r : R α) (k : α → Sto → R β) : R β := match r with
  | .ok a s => k a s | .er x s => .er x s | .no => .no
inductive C where
  | nx (ρ : Env) (s : Sto) | rt (w : Dv) (s : Sto) | bk (ρ : Env) (s : Sto) | ct (ρ : Env) (s : Sto) | er (x : Ex) (ρ : Env) (s : Sto) | no
abbrev FE := Env → Sto → R Dv
abbrev FT := Env → Sto → R Bool
abbrev FA := Env → Sto → R (List Dv)
abbrev FS := Env → Sto → C
abbrev Fn := List Dv → Sto → R Dv
def lim : Nat := 16000000
abbrev Mu := Nat → Option Addr
/-- what is fixed: the written part, the classes of exceptions, the tables of code objects -/
structure Ct where
  K : PySem.W.Frag
  cls : Nat → Addr
  tb : Nat → Addr
abbrev Zs := Addr → Prop
def Fz (μ : Mu) (Z : Zs) (a : Addr) : Prop := (∀ n, μ n ≠ some a) ∧ ¬ Z a
def KL (K : PySem.W.Frag) (a : Addr) (xs : List V) : Prop := ∃ (o : Obj) (its : Array Value) (n : Nat), K.lookup a = some o ∧ o.cls = .type "list" ∧ o.dict = none ∧ o.data = .seq its n ∧ its.size ≤ sizeLine ∧ Vals xs its.toList
def KT (K : PySem.W.Frag) (a : Addr) (xs : List V) : Prop := ∃ (o : Obj) (its : Array Value) (n : Nat), K.lookup a = some o ∧ o.cls = .type "tuple" ∧ o.data = .seq its n ∧ its.size ≤ sizeLine ∧ Vals xs its.toList
def AtL (K : PySem.W.Frag) (H : Hp) (μ : Mu) (Z : Zs) (a : Addr) (xs : List V) : Prop := (Rd H a (.lst xs) ∧ Fz μ Z a) ∨ KL K a xs
def AtT (K : PySem.W.Frag) (H : Hp) (μ : Mu) (Z : Zs) (a : Addr) (xs : List V) : Prop := (Rd H a (.tup xs) ∧ Fz μ Z a) ∨ KT K a xs
theorem AtL.sq {K : PySem.W.Frag} {H : Hp} {μ : Mu} {Z : Zs} {a : Addr} {xs : List V} (h : AtL K H μ Z a xs) : SqL K H a xs := h.elim (fun z => .inl z.1) .inr
theorem AtT.sq {K : PySem.W.Frag} {H : Hp} {μ : Mu} {Z : Zs} {a : Addr} {xs : List V} (h : AtT K H μ Z a xs) : SqT K H a xs := h.elim (fun z => .inl z.1) .inr
structure Evo (H : Hp) (μ : Mu) (H' : Hp) (μ' : Mu) : Prop where
  keep : ∀ a o, H a = some o → (∀ n, μ n ≠ some a) → H' a = some o
  mu : ∀ n a, μ n = some a → μ' n = some a
  new : ∀ n a, μ' n = some a → μ n = some a ∨ H a = none
  stay : ∀ n a, μ n = some a → H a ≠ none → H' a ≠ none
section
variable {H H1 H' : Hp} {μ μ1 μ' : Mu} {Z : Zs} {a : Addr} {o : HO} {xs : List V} {K : PySem.W.Frag}
theorem Evo.refl : Evo H μ H μ := ⟨fun _ _ h _ => h, fun _ _ h => h, fun _ _ h => .inl h, fun _ _ _ h => h⟩
theorem Evo.alive (e : Evo H μ H' μ') (h : H a ≠ none) : H' a ≠ none := by
  by_cases hm : ∃ n, μ n = some a
  · obtain ⟨n, hn⟩ := hm
    exact e.stay n a hn h
  · cases q : H a with
    | none => exact absurd q h
    | some o => rw [e.keep a o q (fun n hn => hm ⟨n, hn⟩)]; intro z; cases z
theorem Evo.fz (e : Evo H μ H' μ') (h : H a ≠ none) (f : Fz μ Z a) : Fz μ' Z a := ⟨fun n hn => by
  rcases e.new n a hn with q | q
  · exact f.1 n q
  · exact h q, f.2⟩
theorem Evo.trans (e : Evo H μ H1 μ1) (f : Evo H1 μ1 H' μ') : Evo H μ H' μ' where
  keep := fun a o h hn => by
    have h1 := e.keep a o h hn
    exact f.keep a o h1 fun n q => by
      rcases e.new n a q with z | z
      · exact hn n z
      · rw [h] at z; cases z
  mu := fun n a h => f.mu n a (e.mu n a h)
  new := fun n a h => by
    rcases f.new n a h with q | q
    · exact e.new n a q
    · right
      cases z : H a with
      | none => rfl
      | some o => exact absurd q (e.alive (by rw [z]; intro y; cases y))
  stay := fun n a h q => f.alive (e.alive q)
theorem Rd.alive (h : Rd H a o) : H a ≠ none := by
  rcases h with h | ⟨_, h⟩ <;> (rw [h]; intro z; cases z)
theorem Rd.evo (e : Evo H μ H' μ') (h : Rd H a o) (f : Fz μ Z a) : Rd H' a o := by
  rcases h with h | ⟨u, h⟩
  · exact .inl (e.keep _ _ h f.1)
  · exact .inr ⟨u, e.keep _ _ h f.1⟩
theorem AtL.mono (e : Evo H μ H' μ') (h : AtL K H μ Z a xs) : AtL K H' μ' Z a xs := h.elim (fun ⟨r, f⟩ => .inl ⟨Rd.evo e r f, e.fz (Rd.alive r) f⟩) .inr
theorem AtT.mono (e : Evo H μ H' μ') (h : AtT K H μ Z a xs) : AtT K H' μ' Z a xs := h.elim (fun ⟨r, f⟩ => .inl ⟨Rd.evo e r f, e.fz (Rd.alive r) f⟩) .inr
/-- a new object -/
theorem Evo.laid {p : Addr} (hp : H p = none) : Evo H μ (upd H p o) μ where
  keep := fun a o h _ => by rw [upd_ne (ne_of_none h hp)]; exact h
  mu := fun _ _ h => h
  new := fun _ _ h => .inl h
  stay := fun n a _ h => by
    by_cases e : a = p
    · subst e; exact absurd hp h
    · rw [upd_ne e]; exact h
end
/-- an exception of the class at C, held as a value; its dict is at dx -/
def ExK (a C dx : Addr) : HO := .ext fun h => ∃ (oe : Obj) (vs : Array Value), h.get? a = some oe ∧ Zc (.ref C) (some dx) oe ∧ oe.data = .fields vs
mutual
def RV (Γ : Ct) (H : Hp) (μ : Mu) (Z : Zs) : Dv → V → Prop
  | .non, v => v = .non
  | .bl b, v => v = .bl b
  | .int i, v => v = .int i
  | .str x, v => v = .str x
  | .ty n, v => v = .ty n
  | .cl c, v => v = .ref (Γ.cls c)
  | .ref n, v => ∃ a, v = .ref a ∧ μ n = some a
  | .tup ws, v => ∃ a xs, v = .ref a ∧ AtT Γ.K H μ Z a xs ∧ RVs Γ H μ Z ws xs
  | .lst ws, v => ∃ a xs, v = .ref a ∧ H a = some (.lst xs) ∧ Fz μ Z a ∧ RVs Γ H μ Z ws xs
  | .sq ws, v => ∃ a xs, v = .ref a ∧ AtL Γ.K H μ Z a xs ∧ RVs Γ H μ Z ws xs
  | .dct ks ws, v => ∃ a kvs, v = .ref a ∧ H a = some (.dK kvs) ∧ Fz μ Z a ∧ kvs.map (·.1) = ks ∧ RVs Γ H μ Z ws (kvs.map (·.2))
  | .dtt kd ws, v => ∃ a kvs, v = .ref a ∧ HD H a true kvs ∧ Fz μ Z a ∧ KVs kd ws kvs ∧ RVs Γ H μ Z kd (kvs.map (·.2.1)) ∧ RVs Γ H μ Z ws (kvs.map (·.2.2))
  | .exc c f w, v => ∃ a dx x, v = .ref a ∧ H a = some (ExK a (Γ.cls c) dx) ∧ Fz μ Z a ∧ H dx = some (.xd [(f, x)]) ∧ Fz μ Z dx ∧ RV Γ H μ Z w x
  | .exn c, v => ∃ a, v = .ref a ∧ H a = some (ExO (.ref (Γ.cls c)) a) ∧ Fz μ Z a
  | .clo a c q ws vs, v => v = .ref a ∧ H c = some (LamX.CodeO c q) ∧ Fz μ Z c ∧ RVs Γ H μ Z ws vs
def RVs (Γ : Ct) (H : Hp) (μ : Mu) (Z : Zs) : List Dv → List V → Prop
  | [], vs => vs = []
  | w :: ws, vs => ∃ x xs, vs = x :: xs ∧ RV Γ H μ Z w x ∧ RVs Γ H μ Z ws xs
end
section
variable {Γ : Ct} {H H1 H' : Hp} {μ μ1 μ' : Mu} {Z Z' : Zs}
mutual
theorem RV.mono (e : Evo H μ H' μ') : ∀ (w : Dv) {v : V}, RV Γ H μ Z w v → RV Γ H' μ' Z w v
  | .non, _, h => h
  | .bl _, _, h => h
  | .int _, _, h => h
  | .str _, _, h => h
  | .ty _, _, h => h
  | .cl _, _, h => h
  | .ref n, _, h => by
    obtain ⟨a, h1, h2⟩ := h
    exact ⟨a, h1, e.mu n a h2⟩
  | .tup ws, _, h => by
    obtain ⟨a, xs, h1, h2, h3⟩ := h
    exact ⟨a, xs, h1, h2.mono e, RVs.mono e ws h3⟩
  | .lst ws, _, h => by
    obtain ⟨a, xs, h1, h2, h3, h4⟩ := h
    exact ⟨a, xs, h1, e.keep _ _ h2 h3.1, e.fz (by rw [h2]; intro z; cases z) h3, RVs.mono e ws h4⟩
  | .sq ws, _, h => by
    obtain ⟨a, xs, h1, h2, h3⟩ := h
    exact ⟨a, xs, h1, h2.mono e, RVs.mono e ws h3⟩
  | .dct ks ws, _, h => by
    obtain ⟨a, kvs, h1, h2, h3, h4, h5⟩ := h
    exact ⟨a, kvs, h1, e.keep _ _ h2 h3.1, e.fz (by rw [h2]; intro z; cases z) h3, h4, RVs.mono e ws h5⟩
  | .dtt kd ws, _, h => by
    obtain ⟨a, kvs, h1, h2, h3, h4, h5, h6⟩ := h
    exact ⟨a, kvs, h1, let ⟨od, z⟩ := h2; ⟨od, e.keep _ _ z h3.1⟩, e.fz h2.some h3, h4, RVs.mono e kd h5, RVs.mono e ws h6⟩
  | .exc c f w, _, h => by
    obtain ⟨a, dx, x, h1, h2, h3, h4, h5, h6⟩ := h
    exact ⟨a, dx, x, h1, e.keep _ _ h2 h3.1, e.fz (by rw [h2]; intro z; cases z) h3, e.keep _ _ h4 h5.1, e.fz (by rw [h4]; intro z; cases z) h5, RV.mono e w h6⟩
  | .exn c, _, h => by
    obtain ⟨a, h1, h2, h3⟩ := h
    exact ⟨a, h1, e.keep _ _ h2 h3.1, e.fz (by rw [h2]; intro z; cases z) h3⟩
  | .clo a c q ws vs, _, h => by
    obtain ⟨h1, h2, h3, h4⟩ := h
    exact ⟨h1, e.keep _ _ h2 h3.1, e.fz (by rw [h2]; intro z; cases z) h3, RVs.mono e ws h4⟩
theorem RVs.mono (e : Evo H μ H' μ') : ∀ (ws : List Dv) {vs : List V}, RVs Γ H μ Z ws vs → RVs Γ H' μ' Z ws vs
  | [], _, h => h
  | w :: ws, _, h => by
    obtain ⟨x, xs, h1, h2, h3⟩ := h
    exact ⟨x, xs, h1, RV.mono e w h2, RVs.mono e ws h3⟩
end
/-- what is hidden may change -/
structure EvoZ (Z : Zs) (H : Hp) (μ : Mu) (H' : Hp) (μ' : Mu) : Prop where
  keep : ∀ a o, H a = some o → (∀ n, μ n ≠ some a) → ¬ Z a → H' a = some o
  mu : ∀ n a, μ n = some a → μ' n = some a
  new : ∀ n a, μ' n = some a → μ n = some a ∨ H a = none
  live : ∀ a, H a ≠ none → H' a ≠ none
theorem Evo.z {H H' : Hp} {μ μ' : Mu} {Z : Zs} (e : Evo H μ H' μ') : EvoZ Z H μ H' μ' := ⟨fun a o h hn _ => e.keep a o h hn, e.mu, e.new, fun _ h => e.alive h⟩
theorem EvoZ.more {H H' : Hp} {μ μ' : Mu} {Z Z' : Zs} (h : ∀ a, Z a → Z' a) (e : EvoZ Z H μ H' μ') : EvoZ Z' H μ H' μ' := ⟨fun a o q hn z => e.keep a o q hn fun y => z (h a y), e.mu, e.new, e.live⟩
theorem EvoZ.trans {H H1 H' : Hp} {μ μ1 μ' : Mu} {Z : Zs} (e : EvoZ Z H μ H1 μ1) (f : EvoZ Z H1 μ1 H' μ') : EvoZ Z H μ H' μ' where
  keep := fun a o h hn z => by
    have h1 := e.keep a o h hn z
    exact f.keep a o h1 (fun n q => by
      rcases e.new n a q with y | y
      · exact hn n y
      · rw [h] at y; cases y) z
  mu := fun n a h => f.mu n a (e.mu n a h)
  new := fun n a h => by
    rcases f.new n a h with q | q
    · exact e.new n a q
    · right
      cases z : H a with
      | none => rfl
      | some o => exact absurd q (e.live a (by rw [z]; intro y; cases y))
  live := fun a h => f.live a (e.live a h)
theorem EvoZ.fz {H H' : Hp} {μ μ' : Mu} {Z : Zs} {a : Addr} (e : EvoZ Z H μ H' μ') (h : H a ≠ none) (f : Fz μ Z a) : Fz μ' Z a := ⟨fun n hn => by
  rcases e.new n a hn with q | q
  · exact f.1 n q
  · exact h q, f.2⟩
theorem Rd.evoZ {H H' : Hp} {μ μ' : Mu} {Z : Zs} {a : Addr} {o : HO} (e : EvoZ Z H μ H' μ') (h : Rd H a o) (f : Fz μ Z a) : Rd H' a o := by
  rcases h with h | ⟨u, h⟩
  · exact .inl (e.keep _ _ h f.1 f.2)
  · exact .inr ⟨u, e.keep _ _ h f.1 f.2⟩
theorem AtL.monoZ {K : PySem.W.Frag} {H H' : Hp} {μ μ' : Mu} {Z : Zs} {a : Addr} {xs : List V} (e : EvoZ Z H μ H' μ') (h : AtL K H μ Z a xs) : AtL K H' μ' Z a xs := h.elim (fun ⟨r, f⟩ => .inl ⟨Rd.evoZ e r f, e.fz (Rd.alive r) f⟩) .inr
theorem AtT.monoZ {K : PySem.W.Frag} {H H' : Hp} {μ μ' : Mu} {Z : Zs} {a : Addr} {xs : List V} (e : EvoZ Z H μ H' μ') (h : AtT K H μ Z a xs) : AtT K H' μ' Z a xs := h.elim (fun ⟨r, f⟩ => .inl ⟨Rd.evoZ e r f, e.fz (Rd.alive r) f⟩) .inr
mutual
theorem RV.monoZ (e : EvoZ Z H μ H' μ') : ∀ (w : Dv) {v : V}, RV Γ H μ Z w v → RV Γ H' μ' Z w v
  | .non, _, h => h
  | .bl _, _, h => h
  | .int _, _, h => h
  | .str _, _, h => h
  | .ty _, _, h => h
  | .cl _, _, h => h
  | .ref n, _, h => by
    obtain ⟨a, h1, h2⟩ := h
    exact ⟨a, h1, e.mu n a h2⟩
  | .tup ws, _, h => by
    obtain ⟨a, xs, h1, h2, h3⟩ := h
    exact ⟨a, xs, h1, h2.monoZ e, RVs.monoZ e ws h3⟩
  | .lst ws, _, h => by
    obtain ⟨a, xs, h1, h2, h3, h4⟩ := h
    exact ⟨a, xs, h1, e.keep _ _ h2 h3.1 h3.2, e.fz (by rw [h2]; intro z; cases z) h3, RVs.monoZ e ws h4⟩
  | .sq ws, _, h => by
    obtain ⟨a, xs, h1, h2, h3⟩ := h
    exact ⟨a, xs, h1, h2.monoZ e, RVs.monoZ e ws h3⟩
  | .dct ks ws, _, h => by
    obtain ⟨a, kvs, h1, h2, h3, h4, h5⟩ := h
    exact ⟨a, kvs, h1, e.keep _ _ h2 h3.1 h3.2, e.fz (by rw [h2]; intro z; cases z) h3, h4, RVs.monoZ e ws h5⟩
  | .dtt kd ws, _, h => by
    obtain ⟨a, kvs, h1, h2, h3, h4, h5, h6⟩ := h
    exact ⟨a, kvs, h1, let ⟨od, z⟩ := h2; ⟨od, e.keep _ _ z h3.1 h3.2⟩, e.fz h2.some h3, h4, RVs.monoZ e kd h5, RVs.monoZ e ws h6⟩
  | .exc c f w, _, h => by
    obtain ⟨a, dx, x, h1, h2, h3, h4, h5, h6⟩ := h
    exact ⟨a, dx, x, h1, e.keep _ _ h2 h3.1 h3.2, e.fz (by rw [h2]; intro z; cases z) h3, e.keep _ _ h4 h5.1 h5.2, e.fz (by rw [h4]; intro z; cases z) h5, RV.monoZ e w h6⟩
  | .exn c, _, h => by
    obtain ⟨a, h1, h2, h3⟩ := h
    exact ⟨a, h1, e.keep _ _ h2 h3.1 h3.2, e.fz (by rw [h2]; intro z; cases z) h3⟩
  | .clo a c q ws vs, _, h => by
    obtain ⟨h1, h2, h3, h4⟩ := h
    exact ⟨h1, e.keep _ _ h2 h3.1 h3.2, e.fz (by rw [h2]; intro z; cases z) h3, RVs.monoZ e ws h4⟩
theorem RVs.monoZ (e : EvoZ Z H μ H' μ') : ∀ (ws : List Dv) {vs : List V}, RVs Γ H μ Z ws vs → RVs Γ H' μ' Z ws vs
  | [], _, h => h
  | w :: ws, _, h => by
    obtain ⟨x, xs, h1, h2, h3⟩ := h
    exact ⟨x, xs, h1, RV.monoZ e w h2, RVs.monoZ e ws h3⟩
end
theorem Fz.weak {a : Addr} (h : ∀ a, Z a → Z' a) (f : Fz μ Z' a) : Fz μ Z a := ⟨f.1, fun z => f.2 (h a z)⟩
mutual
theorem RV.weak (h : ∀ a, Z a → Z' a) : ∀ (w : Dv) {v : V}, RV Γ H μ Z' w v → RV Γ H μ Z w v
  | .non, _, q => q
  | .bl _, _, q => q
  | .int _, _, q => q
  | .str _, _, q => q
  | .ty _, _, q => q
  | .cl _, _, q => q
  | .ref n, _, q => q
  | .tup ws, _, q => by
    obtain ⟨a, xs, h1, h2, h3⟩ := q
    exact ⟨a, xs, h1, h2.elim (fun z => .inl ⟨z.1, z.2.weak h⟩) .inr, RVs.weak h ws h3⟩
  | .lst ws, _, q => by
    obtain ⟨a, xs, h1, h2, h3, h4⟩ := q
    exact ⟨a, xs, h1, h2, h3.weak h, RVs.weak h ws h4⟩
  | .sq ws, _, q => by
    obtain ⟨a, xs, h1, h2, h3⟩ := q
    exact ⟨a, xs, h1, h2.elim (fun z => .inl ⟨z.1, z.2.weak h⟩) .inr, RVs.weak h ws h3⟩
  | .dct ks ws, _, q => by
    obtain ⟨a, kvs, h1, h2, h3, h4, h5⟩ := q
    exact ⟨a, kvs, h1, h2, h3.weak h, h4, RVs.weak h ws h5⟩
  | .dtt kd ws, _, q => by
    obtain ⟨a, kvs, h1, h2, h3, h4, h5, h6⟩ := q
    exact ⟨a, kvs, h1, h2, h3.weak h, h4, RVs.weak h kd h5, RVs.weak h ws h6⟩
  | .exc c f w, _, q => by
    obtain ⟨a, dx, x, h1, h2, h3, h4, h5, h6⟩ := q
    exact ⟨a, dx, x, h1, h2, h3.weak h, h4, h5.weak h, RV.weak h w h6⟩
  | .exn c, _, q => by
    obtain ⟨a, h1, h2, h3⟩ := q
    exact ⟨a, h1, h2, h3.weak h⟩
  | .clo a c _ ws vs, _, q => by
    obtain ⟨h1, h2, h3, h4⟩ := q
    exact ⟨h1, h2, h3.weak h, RVs.weak h ws h4⟩
theorem RVs.weak (h : ∀ a, Z a → Z' a) : ∀ (ws : List Dv) {vs : List V}, RVs Γ H μ Z' ws vs → RVs Γ H μ Z ws vs
  | [], _, q => q
  | w :: ws, _, q => by
    obtain ⟨x, xs, h1, h2, h3⟩ := q
    exact ⟨x, xs, h1, RV.weak h w h2, RVs.weak h ws h3⟩
end
/-- under a reserved address all may change -/
theorem Fz.evoZ {p a : Addr} (f : Fz μ (fun b => b = p ∨ Z b) a) : a ≠ p := fun e => f.2 (.inl e)
mutual
theorem RV.updZ {p : Addr} {o : HO} : ∀ (w : Dv) {v : V}, RV Γ H μ (fun b => b = p ∨ Z b) w v → RV Γ (upd H p o) μ (fun b => b = p ∨ Z b) w v
  | .non, _, q => q
  | .bl _, _, q => q
  | .int _, _, q => q
  | .str _, _, q => q
  | .ty _, _, q => q
  | .cl _, _, q => q
  | .ref n, _, q => q
  | .tup ws, _, q => by
    obtain ⟨a, xs, h1, h2, h3⟩ := q
    refine ⟨a, xs, h1, ?_, RVs.updZ ws h3⟩
    rcases h2 with ⟨h2, f⟩ | h2
    · refine .inl ⟨?_, f⟩
      unfold Rd
      rw [upd_ne f.evoZ]
      exact h2
    · exact .inr h2
  | .lst ws, _, q => by
    obtain ⟨a, xs, h1, h2, h3, h4⟩ := q
    exact ⟨a, xs, h1, by rw [upd_ne h3.evoZ]; exact h2, h3, RVs.updZ ws h4⟩
  | .sq ws, _, q => by
    obtain ⟨a, xs, h1, h2, h3⟩ := q
    refine ⟨a, xs, h1, ?_, RVs.updZ ws h3⟩
    rcases h2 with ⟨h2, f⟩ | h2
    · refine .inl ⟨?_, f⟩
      unfold Rd
      rw [upd_ne f.evoZ]
      exact h2
    · exact .inr h2
  | .dct ks ws, _, q => by
    obtain ⟨a, kvs, h1, h2, h3, h4, h5⟩ := q
    exact ⟨a, kvs, h1, by rw [upd_ne h3.evoZ]; exact h2, h3, h4, RVs.updZ ws h5⟩
  | .dtt kd ws, _, q => by
    obtain ⟨a, kvs, h1, h2, h3, h4, h5, h6⟩ := q
    exact ⟨a, kvs, h1, h2.eq (upd_ne h3.evoZ), h3, h4, RVs.updZ kd h5, RVs.updZ ws h6⟩
  | .exc c f w, _, q => by
    obtain ⟨a, dx, x, h1, h2, h3, h4, h5, h6⟩ := q
    exact ⟨a, dx, x, h1, by rw [upd_ne h3.evoZ]; exact h2, h3, by rw [upd_ne h5.evoZ]; exact h4, h5, RV.updZ w h6⟩
  | .exn c, _, q => by
    obtain ⟨a, h1, h2, h3⟩ := q
    exact ⟨a, h1, by rw [upd_ne h3.evoZ]; exact h2, h3⟩
  | .clo a c _ ws vs, _, q => by
    obtain ⟨h1, h2, h3, h4⟩ := q
    exact ⟨h1, by rw [upd_ne h3.evoZ]; exact h2, h3, RVs.updZ ws h4⟩
theorem RVs.updZ {p : Addr} {o : HO} : ∀ (ws : List Dv) {vs : List V}, RVs Γ H μ (fun b => b = p ∨ Z b) ws vs → RVs Γ (upd H p o) μ (fun b => b = p ∨ Z b) ws vs
  | [], _, q => q
  | w :: ws, _, q => by
    obtain ⟨x, xs, h1, h2, h3⟩ := q
    exact ⟨x, xs, h1, RV.updZ w h2, RVs.updZ ws h3⟩
end
theorem RVs.nil : RVs Γ H μ Z [] [] := rfl
theorem RVs.cons {w : Dv} {ws : List Dv} {x : V} {xs : List V} (h : RV Γ H μ Z w x) (t : RVs Γ H μ Z ws xs) : RVs Γ H μ Z (w :: ws) (x :: xs) := ⟨x, xs, rfl, h, t⟩
theorem RVs.len : ∀ {ws : List Dv} {xs : List V}, RVs Γ H μ Z ws xs → xs.length = ws.length
  | [], _, h => by rw [show _ = [] from h]; rfl
  | w :: ws, _, h => by
    obtain ⟨x, xs, rfl, _, h3⟩ := h
    rw [List.length_cons, List.length_cons, RVs.len h3]
theorem RVs.get : ∀ {ws : List Dv} {xs : List V} {i : Nat} {w : Dv}, RVs Γ H μ Z ws xs → ws[i]? = some w → ∃ x, xs[i]? = some x ∧ RV Γ H μ Z w x
  | [], _, _, _, _, e => by cases e
  | a :: ws, _, 0, w, h, e => by
    obtain ⟨x, xs, rfl, h2, _⟩ := h
    cases e
    exact ⟨x, rfl, h2⟩
  | a :: ws, _, i + 1, w, h, e => by
    obtain ⟨x, xs, rfl, _, h3⟩ := h
    obtain ⟨y, e1, e2⟩ := RVs.get (i := i) (w := w) h3 (by simpa using e)
    exact ⟨y, by simpa using e1, e2⟩
theorem RVs.append : ∀ {ws us : List Dv} {xs ys : List V}, RVs Γ H μ Z ws xs → RVs Γ H μ Z us ys → RVs Γ H μ Z (ws ++ us) (xs ++ ys)
  | [], _, _, _, h, q => by rw [show _ = [] from h]; exact q
  | a :: ws, _, _, _, h, q => by
    obtain ⟨x, xs, rfl, h2, h3⟩ := h
    exact RVs.cons h2 (RVs.append h3 q)
theorem RVs.drop : ∀ {ws : List Dv} {xs : List V} (n : Nat), RVs Γ H μ Z ws xs → RVs Γ H μ Z (ws.drop n) (xs.drop n)
  | _, _, 0, h => h
  | [], _, _ + 1, h => by rw [show _ = [] from h]; exact rfl
  | _ :: ws, _, n + 1, h => by
    obtain ⟨x, xs, rfl, _, h3⟩ := h
    exact RVs.drop n h3
theorem RVs.take : ∀ {ws : List Dv} {xs : List V} (n : Nat), RVs Γ H μ Z ws xs → RVs Γ H μ Z (ws.take n) (xs.take n)
  | _, _, 0, _ => rfl
  | [], _, _ + 1, h => by rw [show _ = [] from h]; exact rfl
  | _ :: ws, _, n + 1, h => by
    obtain ⟨x, xs, rfl, h2, h3⟩ := h
    exact RVs.cons h2 (RVs.take n h3)
theorem RVs.ints : ∀ {ns : List Int} {xs : List V}, RVs Γ H μ Z (ns.map .int) xs → xs = ns.map .int
  | [], _, h => h
  | n :: ns, _, h => by
    obtain ⟨x, xs, rfl, h2, h3⟩ := h
    rw [show x = V.int n from h2, RVs.ints h3]
    rfl
theorem RVs.of_ints : ∀ (ns : List Int), RVs Γ H μ Z (ns.map .int) (ns.map .int)
  | [] => rfl
  | n :: ns => RVs.cons rfl (RVs.of_ints ns)
theorem RVs.rep {ws : List Dv} {xs : List V} (h : RVs Γ H μ Z ws xs) : ∀ k : Nat, RVs Γ H μ Z (List.replicate k ws).flatten (List.replicate k xs).flatten
  | 0 => rfl
  | k + 1 => by
    rw [List.replicate_succ, List.replicate_succ, List.flatten_cons, List.flatten_cons]
    exact RVs.append h (RVs.rep h k)
end
def RO (Γ : Ct) (H : Hp) (μ : Mu) (Z : Zs) (a : Addr) : Ob → Prop
  | .lst ws => ∃ xs, H a = some (.lst xs) ∧ RVs Γ H μ Z ws xs
  | .dct kws => ∃ kvs, H a = some (.dK kvs) ∧ kvs.map (·.1) = kws.map (·.1) ∧ RVs Γ H μ Z (kws.map (·.2)) (kvs.map (·.2))
  | .dtt fr kws => ∃ kvs, HD H a fr kvs ∧ KVs (kws.map (·.1)) (kws.map (·.2)) kvs ∧ RVs Γ H μ Z (kws.map (·.1)) (kvs.map (·.2.1)) ∧ RVs Γ H μ Z (kws.map (·.2)) (kvs.map (·.2.2))
  | .obj c fs => ∃ dx kvs, H a = some (.ins (Γ.cls c) dx kvs) ∧ kvs.map (·.1) = fs.map (·.1) ∧ RVs Γ H μ Z (fs.map (·.2)) (kvs.map (·.2))
  | .tab n q => a = Γ.tb n ∧ ∃ ps : Array Value, H a = some (.tbl ps) ∧ TriplesOk ps.toList ∧ ∀ (pos : Pos) (cv : Value), codeAmong pos ps.toList = some cv → ∃ c, cv = .ref c ∧ H c = some (LamX.CodeO c q) ∧ Fz μ Z c
theorem tab_imp {H H' : Hp} {μ μ' : Mu} {Z Z' : Zs} {a : Addr} {q : Str} (hH : H' a = H a) (k : ∀ c, H c = some (LamX.CodeO c q) → Fz μ Z c → H' c = some (LamX.CodeO c q) ∧ Fz μ' Z' c)
    (h : ∃ ps : Array Value, H a = some (.tbl ps) ∧ TriplesOk ps.toList ∧ ∀ (pos : Pos) (cv : Value), codeAmong pos ps.toList = some cv → ∃ c, cv = .ref c ∧ H c = some (LamX.CodeO c q) ∧ Fz μ Z c) :
    ∃ ps : Array Value, H' a = some (.tbl ps) ∧ TriplesOk ps.toList ∧ ∀ (pos : Pos) (cv : Value), codeAmong pos ps.toList = some cv → ∃ c, cv = .ref c ∧ H' c = some (LamX.CodeO c q) ∧ Fz μ' Z' c := by
  obtain ⟨ps, h1, h2, h3⟩ := h
  refine ⟨ps, hH.trans h1, h2, fun pos cv e => ?_⟩
  obtain ⟨c, e1, e2, e3⟩ := h3 pos cv e
  exact ⟨c, e1, k c e2 e3⟩
structure Rep (Γ : Ct) (H : Hp) (μ : Mu) (Z : Zs) (s : Sto) : Prop where
  «at» : ∀ (n : Nat) (o : Ob), s[n]? = some o → ∃ a, μ n = some a ∧ ¬ Z a ∧ RO Γ H μ Z a o
  inj : ∀ n m a, μ n = some a → μ m = some a → n = m
  dom : ∀ n a, μ n = some a → n < s.length
  za : ∀ a, Z a → H a ≠ none
def RE (Γ : Ct) (H : Hp) (μ : Mu) (Z : Zs) (ρ : Env) (σ : L2.St) : Prop := ρ.length = σ.length ∧ ∀ (i : Nat) (w : Dv), ρ[i]? = some (some w) → ∃ v, σ[i]? = some (some v) ∧ RV Γ H μ Z w v
/-- an exception on its way: its class, its dict -/
def RX (Γ : Ct) (H : Hp) (μ : Mu) (Z : Zs) (x : Ex) (cls : Value) (d : Option Addr) : Prop := (x.c = 99 ∧ cls = .type "KeyError") ∨ (x.c ≠ 99 ∧ cls = .ref (Γ.cls x.c) ∧ ∃ dd v, d = some dd ∧ H dd = some (.xd [(x.f, v)]) ∧ Fz μ Z dd ∧ RV Γ H μ Z x.w v)
section
variable {Γ : Ct} {H H1 H' : Hp} {μ μ1 μ' : Mu} {Z Z' : Zs} {ρ : Env} {σ : L2.St} {s : Sto} {p : Addr} {o : HO}
theorem RE.mono (e : Evo H μ H' μ') (h : RE Γ H μ Z ρ σ) : RE Γ H' μ' Z ρ σ := ⟨h.1, fun i w q => by
  obtain ⟨v, h1, h2⟩ := h.2 i w q
  exact ⟨v, h1, h2.mono e⟩⟩
theorem RE.set {w : Dv} {v : V} (i : Nat) (h : RE Γ H μ Z ρ σ) (r : RV Γ H μ Z w v) : RE Γ H μ Z (ρ.set i (some w)) (σ.set i (some v)) := by
  refine ⟨by rw [List.length_set, List.length_set]; exact h.1, fun j u q => ?_⟩
  by_cases e : i = j
  · subst e
    have hl : i < ρ.length := by
      have := (List.getElem?_eq_some_iff.mp q).1
      simpa using this
    rw [List.getElem?_set_self hl] at q
    cases q
    exact ⟨v, List.getElem?_set_self (by rw [← h.1]; exact hl), r⟩
  · rw [List.getElem?_set_ne e] at q
    rw [List.getElem?_set_ne e]
    exact h.2 j u q
theorem RE.del (i : Nat) (h : RE Γ H μ Z ρ σ) : RE Γ H μ Z (ρ.set i none) (σ.set i none) := by
  refine ⟨by rw [List.length_set, List.length_set]; exact h.1, fun j u q => ?_⟩
  by_cases e : i = j
  · subst e
    have hl : i < ρ.length := by
      have := (List.getElem?_eq_some_iff.mp q).1
      simpa using this
    rw [List.getElem?_set_self hl] at q
    cases q
  · rw [List.getElem?_set_ne e] at q
    rw [List.getElem?_set_ne e]
    exact h.2 j u q
theorem RE.weak (h : ∀ a, Z a → Z' a) (r : RE Γ H μ Z' ρ σ) : RE Γ H μ Z ρ σ := ⟨r.1, fun i w q => by
  obtain ⟨v, h1, h2⟩ := r.2 i w q
  exact ⟨v, h1, h2.weak h⟩⟩
theorem RX.mono {x : Ex} {cls : Value} {d : Option Addr} (e : Evo H μ H' μ') (h : RX Γ H μ Z x cls d) : RX Γ H' μ' Z x cls d := by
  rcases h with h | ⟨h0, h1, dd, v, h2, h3, h4, h5⟩
  · exact .inl h
  · exact .inr ⟨h0, h1, dd, v, h2, e.keep _ _ h3 h4.1, e.fz (by rw [h3]; intro z; cases z) h4, h5.mono e⟩
/-- the store's objects stay where the heap grows beside them -/
theorem Rep.keep (R : Rep Γ H μ Z s) (e : Evo H μ H' μ) (h : ∀ n a, μ n = some a → H' a = H a) : Rep Γ H' μ Z s := ⟨fun n o q => by
  obtain ⟨a, h1, h2, h3⟩ := R.at n o q
  refine ⟨a, h1, h2, ?_⟩
  cases o with
  | lst ws =>
    obtain ⟨xs, h4, h5⟩ := h3
    exact ⟨xs, (h n a h1).trans h4, h5.mono e⟩
  | dct kws =>
    obtain ⟨kvs, h4, h5, h6⟩ := h3
    exact ⟨kvs, (h n a h1).trans h4, h5, h6.mono e⟩
  | dtt fr kws =>
    obtain ⟨kvs, h4, h5, h6, h7⟩ := h3
    exact ⟨kvs, h4.eq (h n a h1), h5, h6.mono e, h7.mono e⟩
  | obj c fs =>
    obtain ⟨dx, kvs, h4, h5, h6⟩ := h3
    exact ⟨dx, kvs, (h n a h1).trans h4, h5, h6.mono e⟩
  | tab m q => exact ⟨h3.1, tab_imp (h n a h1) (fun c e1 e2 => ⟨e.keep _ _ e1 e2.1, e.fz (by rw [e1]; intro z; cases z) e2⟩) h3.2⟩, R.inj, R.dom, fun a q => e.alive (R.za a q)⟩
theorem RO.alive {a : Addr} {o : Ob} (h : RO Γ H μ Z a o) : H a ≠ none := by
  cases o with
  | lst ws => obtain ⟨_, h, _⟩ := h; rw [h]; intro z; cases z
  | dct kws => obtain ⟨_, h, _⟩ := h; rw [h]; intro z; cases z
  | dtt fr kws => obtain ⟨_, h, _⟩ := h; exact h.some
  | obj c fs => obtain ⟨_, _, h, _⟩ := h; rw [h]; intro z; cases z
  | tab m q => obtain ⟨_, _, h, _⟩ := h; rw [h]; intro z; cases z
theorem Rep.alive (R : Rep Γ H μ Z s) {n : Nat} {a : Addr} (h : μ n = some a) : H a ≠ none := by
  have hl := R.dom n a h
  obtain ⟨b, h1, _, h3⟩ := R.at n _ (List.getElem?_eq_getElem hl)
  rw [h] at h1
  cases h1
  exact h3.alive
theorem Rep.notZ (R : Rep Γ H μ Z s) {n : Nat} {a : Addr} (h : μ n = some a) : ¬ Z a := by
  have hl := R.dom n a h
  obtain ⟨b, h1, h2, h3⟩ := R.at n _ (List.getElem?_eq_getElem hl)
  rw [h] at h1
  cases h1
  exact h2
theorem Rep.laid (R : Rep Γ H μ Z s) (hp : H p = none) : Rep Γ (upd H p o) μ Z s := R.keep (Evo.laid hp) fun n a h => upd_ne fun e => R.alive h (e ▸ hp)
theorem Rep.fz (R : Rep Γ H μ Z s) (hp : H p = none) : Fz μ Z p := ⟨fun n h => R.alive h hp, fun z => R.za p z hp⟩
end
end MP
set_option Elab.async false
set_option linter.all false
set_option maxRecDepth 100000
set_option maxHeartbeats 4000000
namespace MP
open PySem PySem.Spec PyProof.Rows L2
section
variable (Γ : Ct) (W : WX) (H : Hp) (μ : Mu) (Z : Zs) (σ : L2.St)
def PostE (Q : VK) : R Dv → Prop
  | .ok w s' => ∀ v H' μ', Evo H μ H' μ' → Rep Γ H' μ' Z s' → RV Γ H' μ' Z w v → Q v H'
  | .er x s' => ∀ cls d H' μ', Evo H μ H' μ' → Rep Γ H' μ' Z s' → RX Γ H' μ' Z x cls d → W cls d σ H'
  | .no => False
def PostT (Q : Bool → Hp → Prop) : R Bool → Prop
  | .ok b s' => ∀ H' μ', Evo H μ H' μ' → Rep Γ H' μ' Z s' → Q b H'
  | .er x s' => ∀ cls d H' μ', Evo H μ H' μ' → Rep Γ H' μ' Z s' → RX Γ H' μ' Z x cls d → W cls d σ H'
  | .no => False
def PostA (Q : List V → Hp → Prop) : R (List Dv) → Prop
  | .ok ws s' => ∀ vs H' μ', Evo H μ H' μ' → Rep Γ H' μ' Z s' → RVs Γ H' μ' Z ws vs → Q vs H'
  | .er x s' => ∀ cls d H' μ', Evo H μ H' μ' → Rep Γ H' μ' Z s' → RX Γ H' μ' Z x cls d → W cls d σ H'
  | .no => False
def PostS (D : Ends) : C → Prop
  | .nx ρ' s' => ∀ σ' H' μ', Evo H μ H' μ' → Rep Γ H' μ' Z s' → RE Γ H' μ' Z ρ' σ' → D.nx σ' H'
  | .bk ρ' s' => ∀ σ' H' μ', Evo H μ H' μ' → Rep Γ H' μ' Z s' → RE Γ H' μ' Z ρ' σ' → D.bk σ' H'
  | .ct ρ' s' => ∀ σ' H' μ', Evo H μ H' μ' → Rep Γ H' μ' Z s' → RE Γ H' μ' Z ρ' σ' → D.ct σ' H'
  | .rt w s' => ∀ v H' μ', Evo H μ H' μ' → Rep Γ H' μ' Z s' → RV Γ H' μ' Z w v → D.rt v H'
  | .er x ρ' s' => ∀ cls d σ' H' μ', Evo H μ H' μ' → Rep Γ H' μ' Z s' → RE Γ H' μ' Z ρ' σ' → RX Γ H' μ' Z x cls d → W cls d σ' H'
  | .no => False
end
def rdE (Γ : Ct) (W : WX) (f : FE) : TE := fun σ H Q => ∃ μ Z ρ s, RE Γ H μ Z ρ σ ∧ Rep Γ H μ Z s ∧ PostE Γ W H μ Z σ Q (f ρ s)
def rdT (Γ : Ct) (W : WX) (f : FT) : TT := fun σ H Q => ∃ μ Z ρ s, RE Γ H μ Z ρ σ ∧ Rep Γ H μ Z s ∧ PostT Γ W H μ Z σ Q (f ρ s)
def rdA (Γ : Ct) (W : WX) (f : FA) : TA := fun σ H Q => ∃ μ Z ρ s, RE Γ H μ Z ρ σ ∧ Rep Γ H μ Z s ∧ PostA Γ W H μ Z σ Q (f ρ s)
def rdS (Γ : Ct) (W : WX) (f : FS) : TS := fun D σ H => ∃ μ Z ρ s, RE Γ H μ Z ρ σ ∧ Rep Γ H μ Z s ∧ PostS Γ W H μ Z D (f ρ s)
def ME (X : Cx) (Γ : Ct) (W : WX) (e : Expr) (f : FE) : Prop := PE X e (rdE Γ W f)
def MT (X : Cx) (Γ : Ct) (W : WX) (e : Expr) (f : FT) : Prop := PT X e (rdT Γ W f)
def MW (X : Cx) (Γ : Ct) (W : WX) (e : Expr) (f : FT) : Prop := PW X e (rdT Γ W f)
def MA (X : Cx) (Γ : Ct) (W : WX) (es : List Expr) (f : FA) : Prop := PA X es (rdA Γ W f)
def MS (X : Cx) (Γ : Ct) (W : WX) (st : Stmt) (f : FS) : Prop := PS X st (rdS Γ W f)
def MB (X : Cx) (Γ : Ct) (W : WX) (st : List Stmt) (f : FS) : Prop := PSs X st (rdS Γ W f)
theorem PE.imp {X : Cx} {e : Expr} {t t' : TE} (h : PE X e t) (k : ∀ σ H Q, t' σ H Q → t σ H Q) : PE X e t' := ⟨fun pins s σ H Q I q => h.run pins s σ H Q I (k σ H Q q)⟩
theorem PT.imp {X : Cx} {e : Expr} {t t' : TT} (h : PT X e t) (k : ∀ σ H Q, t' σ H Q → t σ H Q) : PT X e t' := ⟨fun pins s σ H Q I q => h.run pins s σ H Q I (k σ H Q q)⟩
theorem PW.imp {X : Cx} {e : Expr} {t t' : TT} (h : PW X e t) (k : ∀ σ H Q, t' σ H Q → t σ H Q) : PW X e t' := ⟨fun wh pins s σ H Q I q => h.run wh pins s σ H Q I (k σ H Q q)⟩
theorem PA.imp {X : Cx} {e : List Expr} {t t' : TA} (h : PA X e t) (k : ∀ σ H Q, t' σ H Q → t σ H Q) : PA X e t' := ⟨fun pos pins s σ H Q I q => h.run pos pins s σ H Q I (k σ H Q q)⟩
theorem PS.imp {X : Cx} {e : Stmt} {t t' : TS} (h : PS X e t) (k : ∀ D σ H, t' D σ H → t D σ H) : PS X e t' := ⟨fun pins s σ H D I q => h.run pins s σ H D I (k D σ H q)⟩
theorem PSs.imp {X : Cx} {e : List Stmt} {t t' : TS} (h : PSs X e t) (k : ∀ D σ H, t' D σ H → t D σ H) : PSs X e t' := ⟨fun pins s σ H D I q => h.run pins s σ H D I (k D σ H q)⟩
theorem PE.or {X : Cx} {e : Expr} {t t' : TE} (h : PE X e t) (h' : PE X e t') : PE X e (fun σ H Q => t σ H Q ∨ t' σ H Q) := ⟨fun pins s σ H Q I q => q.elim (h.run pins s σ H Q I) (h'.run pins s σ H Q I)⟩
theorem OpR.or2 {X : Cx} {f : Value → Value → Sem Value} {r r' : R2} (h : OpR X f r) (h' : OpR X f r') : OpR X f (fun x y H Q => r x y H Q ∨ r' x y H Q) := fun pins s σ H x y v u Q I rx ry q => q.elim (h pins s σ H x y v u Q I rx ry) (h' pins s σ H x y v u Q I rx ry)
theorem CallR.or2 {X : Cx} {f : Value} {r r' : List V → Hp → VK → Prop} (h : CallR X f r) (h' : CallR X f r') : CallR X f (fun x H Q => r x H Q ∨ r' x H Q) := fun pins s σ H x v Q I rx q => q.elim (h pins s σ H x v Q I rx) (h' pins s σ H x v Q I rx)
def R.thenC {α : Type} (r : R α) (ρ : Env) (k : α → Sto → C) : C := match r with
  | .ok a s => k a s | .er x s => .er x ρ s | .no => .no
def R.of {α : Type} (o : Option α) (s : Sto) : R α := match o with
  | some a => .ok a s | none => .no
section
variable {Γ : Ct} {W : WX} {H H1 : Hp} {μ μ1 : Mu} {Z : Zs} {σ : L2.St} {ρ : Env} {s : Sto}
theorem PostE.evo {Q : VK} {r : R Dv} (e : Evo H μ H1 μ1) (h : PostE Γ W H μ Z σ Q r) : PostE Γ W H1 μ1 Z σ Q r := by
  cases r with
  | ok w s' => exact fun v H' μ' e' => h v H' μ' (e.trans e')
  | er x s' => exact fun c d H' μ' e' => h c d H' μ' (e.trans e')
  | no => exact h
theorem PostT.evo {Q : Bool → Hp → Prop} {r : R Bool} (e : Evo H μ H1 μ1) (h : PostT Γ W H μ Z σ Q r) : PostT Γ W H1 μ1 Z σ Q r := by
  cases r with
  | ok w s' => exact fun H' μ' e' => h H' μ' (e.trans e')
  | er x s' => exact fun c d H' μ' e' => h c d H' μ' (e.trans e')
  | no => exact h
theorem PostA.evo {Q : List V → Hp → Prop} {r : R (List Dv)} (e : Evo H μ H1 μ1) (h : PostA Γ W H μ Z σ Q r) : PostA Γ W H1 μ1 Z σ Q r := by
  cases r with
  | ok w s' => exact fun v H' μ' e' => h v H' μ' (e.trans e')
  | er x s' => exact fun c d H' μ' e' => h c d H' μ' (e.trans e')
  | no => exact h
theorem PostS.evo {D : Ends} {r : C} (e : Evo H μ H1 μ1) (h : PostS Γ W H μ Z D r) : PostS Γ W H1 μ1 Z D r := by
  cases r with
  | nx ρ' s' => exact fun v H' μ' e' => h v H' μ' (e.trans e')
  | bk ρ' s' => exact fun v H' μ' e' => h v H' μ' (e.trans e')
  | ct ρ' s' => exact fun v H' μ' e' => h v H' μ' (e.trans e')
  | rt w s' => exact fun v H' μ' e' => h v H' μ' (e.trans e')
  | er x ρ' s' => exact fun c d σ' H' μ' e' => h c d σ' H' μ' (e.trans e')
  | no => exact h
theorem eE {f : FE} {k : Dv → Sto → R Dv} {Q Q' : VK} (hE : RE Γ H μ Z ρ σ) (hR : Rep Γ H μ Z s) (h : PostE Γ W H μ Z σ Q ((f ρ s).bind k))
    (hk : ∀ x s1 v H1 μ1, Evo H μ H1 μ1 → RE Γ H1 μ1 Z ρ σ → Rep Γ H1 μ1 Z s1 → RV Γ H1 μ1 Z x v → PostE Γ W H1 μ1 Z σ Q (k x s1) → Q' v H1) : rdE Γ W f σ H Q' := by
  refine ⟨μ, Z, ρ, s, hE, hR, ?_⟩
  cases e : f ρ s with
  | ok x s1 =>
    rw [e] at h
    exact fun v H1 μ1 ev R1 r1 => hk x s1 v H1 μ1 ev (hE.mono ev) R1 r1 (PostE.evo ev h)
  | er x s1 => rw [e] at h; exact h
  | no => rw [e] at h; exact h.elim
theorem eT {f : FE} {k : Dv → Sto → R Bool} {Q : Bool → Hp → Prop} {Q' : VK} (hE : RE Γ H μ Z ρ σ) (hR : Rep Γ H μ Z s) (h : PostT Γ W H μ Z σ Q ((f ρ s).bind k))
    (hk : ∀ x s1 v H1 μ1, Evo H μ H1 μ1 → RE Γ H1 μ1 Z ρ σ → Rep Γ H1 μ1 Z s1 → RV Γ H1 μ1 Z x v → PostT Γ W H1 μ1 Z σ Q (k x s1) → Q' v H1) : rdE Γ W f σ H Q' := by
  refine ⟨μ, Z, ρ, s, hE, hR, ?_⟩
  cases e : f ρ s with
  | ok x s1 =>
    rw [e] at h
    exact fun v H1 μ1 ev R1 r1 => hk x s1 v H1 μ1 ev (hE.mono ev) R1 r1 (PostT.evo ev h)
  | er x s1 => rw [e] at h; exact h
  | no => rw [e] at h; exact h.elim
theorem eA {f : FE} {k : Dv → Sto → R (List Dv)} {Q : List V → Hp → Prop} {Q' : VK} (hE : RE Γ H μ Z ρ σ) (hR : Rep Γ H μ Z s) (h : PostA Γ W H μ Z σ Q ((f ρ s).bind k))
    (hk : ∀ x s1 v H1 μ1, Evo H μ H1 μ1 → RE Γ H1 μ1 Z ρ σ → Rep Γ H1 μ1 Z s1 → RV Γ H1 μ1 Z x v → PostA Γ W H1 μ1 Z σ Q (k x s1) → Q' v H1) : rdE Γ W f σ H Q' := by
  refine ⟨μ, Z, ρ, s, hE, hR, ?_⟩
  cases e : f ρ s with
  | ok x s1 =>
    rw [e] at h
    exact fun v H1 μ1 ev R1 r1 => hk x s1 v H1 μ1 ev (hE.mono ev) R1 r1 (PostA.evo ev h)
  | er x s1 => rw [e] at h; exact h
  | no => rw [e] at h; exact h.elim
theorem eS {f : FE} {k : Dv → Sto → C} {D : Ends} {Q' : VK} (hE : RE Γ H μ Z ρ σ) (hR : Rep Γ H μ Z s) (h : PostS Γ W H μ Z D ((f ρ s).thenC ρ k))
    (hk : ∀ x s1 v H1 μ1, Evo H μ H1 μ1 → RE Γ H1 μ1 Z ρ σ → Rep Γ H1 μ1 Z s1 → RV Γ H1 μ1 Z x v → PostS Γ W H1 μ1 Z D (k x s1) → Q' v H1) : rdE Γ W f σ H Q' := by
  refine ⟨μ, Z, ρ, s, hE, hR, ?_⟩
  cases e : f ρ s with
  | ok x s1 =>
    rw [e] at h
    exact fun v H1 μ1 ev R1 r1 => hk x s1 v H1 μ1 ev (hE.mono ev) R1 r1 (PostS.evo ev h)
  | er x s1 => rw [e] at h; exact fun c d H' μ' ev R' rx => h c d σ H' μ' ev R' (hE.mono ev) rx
  | no => rw [e] at h; exact h.elim
theorem tE {f : FT} {k : Bool → Sto → R Dv} {Q : VK} {Q' : Bool → Hp → Prop} (hE : RE Γ H μ Z ρ σ) (hR : Rep Γ H μ Z s) (h : PostE Γ W H μ Z σ Q ((f ρ s).bind k))
    (hk : ∀ b s1 H1 μ1, Evo H μ H1 μ1 → RE Γ H1 μ1 Z ρ σ → Rep Γ H1 μ1 Z s1 → PostE Γ W H1 μ1 Z σ Q (k b s1) → Q' b H1) : rdT Γ W f σ H Q' := by
  refine ⟨μ, Z, ρ, s, hE, hR, ?_⟩
  cases e : f ρ s with
  | ok x s1 =>
    rw [e] at h
    exact fun H1 μ1 ev R1 => hk x s1 H1 μ1 ev (hE.mono ev) R1 (PostE.evo ev h)
  | er x s1 => rw [e] at h; exact h
  | no => rw [e] at h; exact h.elim
theorem tT {f : FT} {k : Bool → Sto → R Bool} {Q Q' : Bool → Hp → Prop} (hE : RE Γ H μ Z ρ σ) (hR : Rep Γ H μ Z s) (h : PostT Γ W H μ Z σ Q ((f ρ s).bind k))
    (hk : ∀ b s1 H1 μ1, Evo H μ H1 μ1 → RE Γ H1 μ1 Z ρ σ → Rep Γ H1 μ1 Z s1 → PostT Γ W H1 μ1 Z σ Q (k b s1) → Q' b H1) : rdT Γ W f σ H Q' := by
  refine ⟨μ, Z, ρ, s, hE, hR, ?_⟩
  cases e : f ρ s with
  | ok x s1 =>
    rw [e] at h
    exact fun H1 μ1 ev R1 => hk x s1 H1 μ1 ev (hE.mono ev) R1 (PostT.evo ev h)
  | er x s1 => rw [e] at h; exact h
  | no => rw [e] at h; exact h.elim
theorem tS {f : FT} {k : Bool → Sto → C} {D : Ends} {Q' : Bool → Hp → Prop} (hE : RE Γ H μ Z ρ σ) (hR : Rep Γ H μ Z s) (h : PostS Γ W H μ Z D ((f ρ s).thenC ρ k))
    (hk : ∀ b s1 H1 μ1, Evo H μ H1 μ1 → RE Γ H1 μ1 Z ρ σ → Rep Γ H1 μ1 Z s1 → PostS Γ W H1 μ1 Z D (k b s1) → Q' b H1) : rdT Γ W f σ H Q' := by
  refine ⟨μ, Z, ρ, s, hE, hR, ?_⟩
  cases e : f ρ s with
  | ok x s1 =>
    rw [e] at h
    exact fun H1 μ1 ev R1 => hk x s1 H1 μ1 ev (hE.mono ev) R1 (PostS.evo ev h)
  | er x s1 => rw [e] at h; exact fun c d H' μ' ev R' rx => h c d σ H' μ' ev R' (hE.mono ev) rx
  | no => rw [e] at h; exact h.elim
theorem aE {f : FA} {k : List Dv → Sto → R Dv} {Q : VK} {Q' : List V → Hp → Prop} (hE : RE Γ H μ Z ρ σ) (hR : Rep Γ H μ Z s) (h : PostE Γ W H μ Z σ Q ((f ρ s).bind k))
    (hk : ∀ ws s1 vs H1 μ1, Evo H μ H1 μ1 → RE Γ H1 μ1 Z ρ σ → Rep Γ H1 μ1 Z s1 → RVs Γ H1 μ1 Z ws vs → PostE Γ W H1 μ1 Z σ Q (k ws s1) → Q' vs H1) : rdA Γ W f σ H Q' := by
  refine ⟨μ, Z, ρ, s, hE, hR, ?_⟩
  cases e : f ρ s with
  | ok x s1 =>
    rw [e] at h
    exact fun v H1 μ1 ev R1 r1 => hk x s1 v H1 μ1 ev (hE.mono ev) R1 r1 (PostE.evo ev h)
  | er x s1 => rw [e] at h; exact h
  | no => rw [e] at h; exact h.elim
theorem aA {f : FA} {k : List Dv → Sto → R (List Dv)} {Q : List V → Hp → Prop} {Q' : List V → Hp → Prop} (hE : RE Γ H μ Z ρ σ) (hR : Rep Γ H μ Z s) (h : PostA Γ W H μ Z σ Q ((f ρ s).bind k))
    (hk : ∀ ws s1 vs H1 μ1, Evo H μ H1 μ1 → RE Γ H1 μ1 Z ρ σ → Rep Γ H1 μ1 Z s1 → RVs Γ H1 μ1 Z ws vs → PostA Γ W H1 μ1 Z σ Q (k ws s1) → Q' vs H1) : rdA Γ W f σ H Q' := by
  refine ⟨μ, Z, ρ, s, hE, hR, ?_⟩
  cases e : f ρ s with
  | ok x s1 =>
    rw [e] at h
    exact fun v H1 μ1 ev R1 r1 => hk x s1 v H1 μ1 ev (hE.mono ev) R1 r1 (PostA.evo ev h)
  | er x s1 => rw [e] at h; exact h
  | no => rw [e] at h; exact h.elim
theorem aS {f : FA} {k : List Dv → Sto → C} {D : Ends} {Q' : List V → Hp → Prop} (hE : RE Γ H μ Z ρ σ) (hR : Rep Γ H μ Z s) (h : PostS Γ W H μ Z D ((f ρ s).thenC ρ k))
    (hk : ∀ ws s1 vs H1 μ1, Evo H μ H1 μ1 → RE Γ H1 μ1 Z ρ σ → Rep Γ H1 μ1 Z s1 → RVs Γ H1 μ1 Z ws vs → PostS Γ W H1 μ1 Z D (k ws s1) → Q' vs H1) : rdA Γ W f σ H Q' := by
  refine ⟨μ, Z, ρ, s, hE, hR, ?_⟩
  cases e : f ρ s with
  | ok x s1 =>
    rw [e] at h
    exact fun v H1 μ1 ev R1 r1 => hk x s1 v H1 μ1 ev (hE.mono ev) R1 r1 (PostS.evo ev h)
  | er x s1 => rw [e] at h; exact fun c d H' μ' ev R' rx => h c d σ H' μ' ev R' (hE.mono ev) rx
  | no => rw [e] at h; exact h.elim
theorem okE {w : Dv} {Q : VK} {v : V} (hR : Rep Γ H μ Z s) (r : RV Γ H μ Z w v) (h : PostE Γ W H μ Z σ Q (.ok w s)) : Q v H := h v H μ .refl hR r
theorem okT {b : Bool} {Q : Bool → Hp → Prop} (hR : Rep Γ H μ Z s) (h : PostT Γ W H μ Z σ Q (.ok b s)) : Q b H := h H μ .refl hR
/-- a value at a new address -/
theorem newE {w : Dv} {Q : VK} {p : Addr} {o : HO} (hR : Rep Γ H μ Z s) (hp : H p = none) (r : RV Γ (upd H p o) μ Z w (.ref p)) (h : PostE Γ W H μ Z σ Q (.ok w s)) : Q (.ref p) (upd H p o) := h _ _ μ (Evo.laid hp) (hR.laid hp) r
end
section
variable {X : Cx} {Γ : Ct} {W : WX}
def mVar (i : Nat) : FE := fun ρ s => match ρ[i]? with
  | some (some w) => .ok w s
  | _ => .no
def mK (w : Dv) : FE := fun _ s => .ok w s
theorem me_var {i : Nat} {e : Expr} (h : PE X e (tVar i)) : ME X Γ W e (mVar i) := PE.imp h fun σ H Q ⟨μ, Z, ρ, s, hE, hR, q⟩ => by
  unfold mVar at q
  split at q
  · rename_i w e
    obtain ⟨v, h1, h2⟩ := hE.2 i w e
    exact ⟨v, h1, okE hR h2 q⟩
  · exact q.elim
theorem me_int {i : Int} {j pos} : ME X Γ W (.Constant (.int i) j pos) (mK (.int i)) := PE.imp pe_int fun σ H Q ⟨μ, Z, ρ, s, hE, hR, q⟩ => okE (w := .int i) hR rfl q
theorem me_bl {i : Bool} {j pos} : ME X Γ W (.Constant (.bool i) j pos) (mK (.bl i)) := PE.imp pe_bl fun σ H Q ⟨μ, Z, ρ, s, hE, hR, q⟩ => okE (w := .bl i) hR rfl q
theorem me_str {i : Str} {j pos} : ME X Γ W (.Constant (.str i) j pos) (mK (.str i)) := PE.imp pe_str fun σ H Q ⟨μ, Z, ρ, s, hE, hR, q⟩ => okE (w := .str i) hR rfl q
theorem me_non {j pos} : ME X Γ W (.Constant .none j pos) (mK .non) := PE.imp pe_non fun σ H Q ⟨μ, Z, ρ, s, hE, hR, q⟩ => okE (w := .non) hR rfl q
/-- a module's constant: an int, a class -/
theorem me_globI {x : Str} {i : Int} {t : Tok} {pos : Pos} (hg : Gl X x) (hm : X.mg x = some (.int i t)) (hd : (x == ("__debug__" : Str)) = false := by decide) : ME X Γ W (.Name x pos) (mK (.int i)) :=
  PE.imp (pe_glob (v := .int i) hg hm ⟨t, rfl⟩ hd) fun σ H Q ⟨μ, Z, ρ, s, hE, hR, q⟩ => okE (w := .int i) hR rfl q
theorem me_ty {x : Str} {n : String} {pos : Pos} (hg : Gl X x) (hm : X.mg x = none) (hv : bootBuiltins x = some (.type n)) (hn : x ≠ "__name__" := by decide) (hd : (x == ("__debug__" : Str)) = false := by decide) : ME X Γ W (.Name x pos) (mK (.ty n)) :=
  PE.imp (pe_bltn (v := .ty n) hg hm hv rfl hn hd) fun σ H Q ⟨μ, Z, ρ, s, hE, hR, q⟩ => okE (w := .ty n) hR rfl q
abbrev O2 := Sto → Dv → Dv → Option Dv
abbrev O1 := Sto → Dv → Option Dv
def mBin (op : O2) (f g : FE) : FE := fun ρ s => (f ρ s).bind fun x s1 => (g ρ s1).bind fun y s2 => R.of (op s2 x y) s2
def mUn (op : O1) (f : FE) : FE := fun ρ s => (f ρ s).bind fun x s1 => R.of (op s1 x) s1
/-- what an operator gives: its rule r is met -/
def Op2 (Γ : Ct) (r : R2) (op : O2) : Prop := ∀ (H : Hp) (μ : Mu) (Z : Zs) (s : Sto) (x y w : Dv) (u v : V) (Q : VK), Rep Γ H μ Z s → RV Γ H μ Z x u → RV Γ H μ Z y v → op s x y = some w →
  (∀ v' H', Evo H μ H' μ → Rep Γ H' μ Z s → RV Γ H' μ Z w v' → Q v' H') → r u v H Q
def Op1 (Γ : Ct) (r : V → Hp → VK → Prop) (op : O1) : Prop := ∀ (H : Hp) (μ : Mu) (Z : Zs) (s : Sto) (x w : Dv) (u : V) (Q : VK), Rep Γ H μ Z s → RV Γ H μ Z x u → op s x = some w →
  (∀ v' H', Evo H μ H' μ → Rep Γ H' μ Z s → RV Γ H' μ Z w v' → Q v' H') → r u H Q
theorem ofE {H : Hp} {μ : Mu} {Z : Zs} {σ : L2.St} {s : Sto} {o : Option Dv} {Q : VK} (h : PostE Γ W H μ Z σ Q (R.of o s)) : ∃ w, o = some w ∧ ∀ v' H', Evo H μ H' μ → Rep Γ H' μ Z s → RV Γ H' μ Z w v' → Q v' H' := by
  cases o with
  | none => exact h.elim
  | some w => exact ⟨w, rfl, fun v' H' e R r => h v' H' μ e R r⟩
variable {a b c : Expr} {f g h' : FE} {pos : Pos}
theorem me_op {op : Operator} {r : R2} {o : O2} (ho : OpR X (binaryOp op) r) (hs : Op2 Γ r o) (ha : ME X Γ W a f) (hb : ME X Γ W b g) : ME X Γ W (.BinOp a op b pos) (mBin o f g) :=
  PE.imp (pe_op ho ha hb) fun σ H Q ⟨μ, Z, ρ, s, hE, hR, q⟩ => eE hE hR q fun x s1 u H1 μ1 e1 hE1 R1 r1 q1 => eE hE1 R1 q1 fun y s2 v H2 μ2 e2 hE2 R2 r2 q2 => by
    obtain ⟨w, hw, k⟩ := ofE q2
    exact hs H2 μ2 Z s2 x y w u v Q R2 (r1.mono e2) r2 hw k
theorem me_cmp {op : CmpOp} {r : R2} {o : O2} (ho : OpR X (compareOp op) r) (hs : Op2 Γ r o) (hm : behindInMarks op b = false) (ha : ME X Γ W a f) (hb : ME X Γ W b g) : ME X Γ W (.Compare a [op] [b] pos) (mBin o f g) :=
  PE.imp (pe_cmpR ho ha hb hm) fun σ H Q ⟨μ, Z, ρ, s, hE, hR, q⟩ => eE hE hR q fun x s1 u H1 μ1 e1 hE1 R1 r1 q1 => eE hE1 R1 q1 fun y s2 v H2 μ2 e2 hE2 R2 r2 q2 => by
    obtain ⟨w, hw, k⟩ := ofE q2
    exact hs H2 μ2 Z s2 x y w u v Q R2 (r1.mono e2) r2 hw k
theorem me_un {op : UnaryOp} {r : V → Hp → VK → Prop} {o : O1} (ho : UnR X (unaryOp op) r) (hs : Op1 Γ r o) (ha : ME X Γ W a f) : ME X Γ W (.UnaryOp op a pos) (mUn o f) :=
  PE.imp (pe_un ho ha) fun σ H Q ⟨μ, Z, ρ, s, hE, hR, q⟩ => eE hE hR q fun x s1 u H1 μ1 e1 hE1 R1 r1 q1 => by
    obtain ⟨w, hw, k⟩ := ofE q1
    exact hs H1 μ1 Z s1 x w u Q R1 r1 hw k
/-- a < b < c -/
def mChain (o o' : O2) (f g h : FE) : FE := fun ρ s => (f ρ s).bind fun x s1 => (g ρ s1).bind fun y s2 => match o s2 x y with
  | some (.bl true) => (h ρ s2).bind fun z s3 => R.of (o' s3 y z) s3
  | some (.bl false) => .ok (.bl false) s2
  | _ => .no
theorem me_chain {op op' : CmpOp} {r r' : R2} {o o' : O2} (ho : OpR X (compareOp op) r) (ho' : OpR X (compareOp op') r') (hs : Op2 Γ r o) (hs' : Op2 Γ r' o') (hm : lastMarks [op, op'] [b, c] = false)
    (ha : ME X Γ W a f) (hb : ME X Γ W b g) (hc : ME X Γ W c h') : ME X Γ W (.Compare a [op, op'] [b, c] pos) (mChain o o' f g h') :=
  PE.imp (pe_chain ho ho' ha hb hc hm) fun σ H Q ⟨μ, Z, ρ, s, hE, hR, q⟩ => eE hE hR q fun x s1 u H1 μ1 e1 hE1 R1 r1 q1 => eE hE1 R1 q1 fun y s2 v H2 μ2 e2 hE2 R2 r2 q2 => by
    cases hw : o s2 x y with
    | none => rw [hw] at q2; exact q2.elim
    | some w =>
      rw [hw] at q2
      refine hs H2 μ2 Z s2 x y w u v _ R2 (r1.mono e2) r2 hw fun z H3 e3 R3 r3 => ?_
      cases w with
      | bl k =>
        refine ⟨k, r3, ?_⟩
        cases k with
        | true =>
          rw [if_pos rfl]
          exact eE (hE2.mono e3) R3 (PostE.evo e3 q2) fun z' s3 v3 H4 μ4 e4 hE4 R4 r4 q4 => by
            obtain ⟨w', hw', k'⟩ := ofE q4
            exact hs' H4 μ4 Z s3 y z' w' v v3 Q R4 ((r2.mono e3).mono e4) r4 hw' k'
        | false =>
          rw [if_neg Bool.false_ne_true]
          exact okE R3 (w := .bl false) rfl (PostE.evo e3 q2)
      | _ => exact q2.elim
def mTest (f : FE) : FT := fun ρ s => (f ρ s).bind fun x s1 => match x with
  | .bl b => .ok b s1
  | _ => .no
theorem mt_of {e : Expr} (h : ∀ (t : TE), PE X e t → PT X e (tTest t)) (ha : ME X Γ W e f) : MT X Γ W e (mTest f) :=
  PT.imp (h _ ha) fun σ H Q ⟨μ, Z, ρ, s, hE, hR, q⟩ => eT hE hR q fun x s1 u H1 μ1 e1 hE1 R1 r1 q1 => by
    cases x with
    | bl b => exact ⟨b, r1, okT R1 q1⟩
    | _ => exact q1.elim
theorem mt_val {e : Expr} (ha : ME X Γ W e f) (he : ∀ whole, isTrue e X.env whole = (do let v ← whole; standAt e.pos; holding [v] (truthy v)) := by intro _; rfl) : MT X Γ W e (mTest f) :=
  mt_of (fun t h => pt_val h he) ha
theorem mt_cmp {op : CmpOp} {r : R2} {o : O2} (ho : OpR X (compareOp op) r) (hs : Op2 Γ r o) (hm : behindInMarks op b = false) (ha : ME X Γ W a f) (hb : ME X Γ W b g) : MT X Γ W (.Compare a [op] [b] pos) (mTest (mBin o f g)) :=
  PT.imp (pt_cmpR ho ha hb hm) fun σ H Q ⟨μ, Z, ρ, s, hE, hR, q⟩ => by
    have q' : PostT Γ W H μ Z σ Q ((f ρ s).bind fun x s1 => (g ρ s1).bind fun y s2 => (R.of (o s2 x y) s2).bind fun x s1 => match x with
      | .bl b => .ok b s1
      | _ => .no) := by
      unfold mTest mBin at q
      revert q
      cases f ρ s with
      | ok x s1 =>
        dsimp only [R.bind]
        cases g ρ s1 <;> exact id
      | er x s1 => exact id
      | no => exact id
    exact eT hE hR q' fun x s1 u H1 μ1 e1 hE1 R1 r1 q1 => eT hE1 R1 q1 fun y s2 v H2 μ2 e2 hE2 R2 r2 q2 => by
      cases hw : o s2 x y with
      | none => rw [hw] at q2; exact q2.elim
      | some w =>
        rw [hw] at q2
        refine hs H2 μ2 Z s2 x y w u v _ R2 (r1.mono e2) r2 hw fun z H3 e3 R3 r3 => ?_
        cases w with
        | bl k => exact ⟨k, r3, okT R3 (PostT.evo e3 q2)⟩
        | _ => exact q2.elim
def mAnd (t u : FT) : FT := fun ρ s => (t ρ s).bind fun c s1 => if c = true then u ρ s1 else .ok false s1
def mOr (t u : FT) : FT := fun ρ s => (t ρ s).bind fun c s1 => if c = true then .ok true s1 else u ρ s1
def mNot (t : FT) : FT := fun ρ s => (t ρ s).bind fun c s1 => .ok (!c) s1
variable {t u : FT} {rest : List Expr}
theorem mw_and1 (ha : MT X Γ W a t) : MW X Γ W (.BoolOp .And [a] pos) t := pw_and1 ha
theorem mw_or1 (ha : MT X Γ W a t) : MW X Γ W (.BoolOp .Or [a] pos) t := pw_or1 ha
theorem ifT {H : Hp} {μ : Mu} {Z : Zs} {σ : L2.St} {ρ : Env} {s : Sto} {Q : Bool → Hp → Prop} {v : FT} (hE : RE Γ H μ Z ρ σ) (hR : Rep Γ H μ Z s) (q : PostT Γ W H μ Z σ Q (v ρ s)) : rdT Γ W v σ H Q := ⟨μ, Z, ρ, s, hE, hR, q⟩
theorem ifE {H : Hp} {μ : Mu} {Z : Zs} {σ : L2.St} {ρ : Env} {s : Sto} {Q : VK} {v : FE} (hE : RE Γ H μ Z ρ σ) (hR : Rep Γ H μ Z s) (q : PostE Γ W H μ Z σ Q (v ρ s)) : rdE Γ W v σ H Q := ⟨μ, Z, ρ, s, hE, hR, q⟩
theorem mw_and (ha : MT X Γ W a t) (hb : MW X Γ W (.BoolOp .And (b :: rest) pos) u) : MW X Γ W (.BoolOp .And (a :: b :: rest) pos) (mAnd t u) :=
  PW.imp (pw_and ha hb) fun σ H Q ⟨μ, Z, ρ, s, hE, hR, q⟩ => tT hE hR q fun c s1 H1 μ1 e1 hE1 R1 q1 => by
    cases c with
    | true => rw [if_pos rfl] at q1 ⊢; exact ifT hE1 R1 q1
    | false => rw [if_neg Bool.false_ne_true] at q1 ⊢; exact okT R1 q1
theorem mw_or (ha : MT X Γ W a t) (hb : MW X Γ W (.BoolOp .Or (b :: rest) pos) u) : MW X Γ W (.BoolOp .Or (a :: b :: rest) pos) (mOr t u) :=
  PW.imp (pw_or ha hb) fun σ H Q ⟨μ, Z, ρ, s, hE, hR, q⟩ => tT hE hR q fun c s1 H1 μ1 e1 hE1 R1 q1 => by
    cases c with
    | true => rw [if_pos rfl] at q1 ⊢; exact okT R1 q1
    | false => rw [if_neg Bool.false_ne_true] at q1 ⊢; exact ifT hE1 R1 q1
theorem mt_w {e : Expr} (h : MW X Γ W e t) : MT X Γ W e t := PW.pt h
theorem mt_not (ha : MT X Γ W a t) : MT X Γ W (.UnaryOp .Not a pos) (mNot t) :=
  PT.imp (pt_not ha) fun σ H Q ⟨μ, Z, ρ, s, hE, hR, q⟩ => tT hE hR q fun c s1 H1 μ1 e1 hE1 R1 q1 => okT R1 q1
/-- and, or, not as values: bools -/
def mAndV (f g : FE) : FE := fun ρ s => (f ρ s).bind fun x s1 => match x with
  | .bl true => g ρ s1
  | .bl false => .ok (.bl false) s1
  | _ => .no
def mOrV (f g : FE) : FE := fun ρ s => (f ρ s).bind fun x s1 => match x with
  | .bl false => g ρ s1
  | .bl true => .ok (.bl true) s1
  | _ => .no
def mNotV (f : FE) : FE := fun ρ s => (f ρ s).bind fun x s1 => match x with
  | .bl c => .ok (.bl (!c)) s1
  | _ => .no
theorem me_one {op} (h : ME X Γ W a f) : ME X Γ W (.BoolOp op [a] pos) f := pe_one h
theorem me_and (ha : ME X Γ W a f) (hb : ME X Γ W (.BoolOp .And (b :: rest) pos) g) : ME X Γ W (.BoolOp .And (a :: b :: rest) pos) (mAndV f g) :=
  PE.imp (pe_and ha hb) fun σ H Q ⟨μ, Z, ρ, s, hE, hR, q⟩ => eE hE hR q fun x s1 u H1 μ1 e1 hE1 R1 r1 q1 => by
    cases x with
    | bl c =>
      refine ⟨c, r1, ?_⟩
      cases c with
      | true => rw [if_pos rfl]; exact ifE hE1 R1 q1
      | false => rw [if_neg Bool.false_ne_true]; exact okE (w := .bl false) R1 rfl q1
    | _ => exact q1.elim
def mIf (t : FT) (f g : FE) : FE := fun ρ s => (t ρ s).bind fun c s1 => if c = true then f ρ s1 else g ρ s1
theorem me_if {c : Expr} (hc : MT X Γ W c t) (ha : ME X Γ W a f) (hb : ME X Γ W b g) : ME X Γ W (.IfExp c a b pos) (mIf t f g) :=
  PE.imp (pe_ifExp hc ha hb) fun σ H Q ⟨μ, Z, ρ, s, hE, hR, q⟩ => tE hE hR q fun c s1 H1 μ1 e1 hE1 R1 q1 => by
    cases c with
    | true => rw [if_pos rfl] at q1 ⊢; exact ifE hE1 R1 q1
    | false => rw [if_neg Bool.false_ne_true] at q1 ⊢; exact ifE hE1 R1 q1
def mNil : FA := fun _ s => .ok [] s
def mCons (f : FE) (g : FA) : FA := fun ρ s => (f ρ s).bind fun x s1 => (g ρ s1).bind fun xs s2 => .ok (x :: xs) s2
theorem ma_nil : MA X Γ W [] mNil := PA.imp pa_nil fun σ H Q ⟨μ, Z, ρ, s, hE, hR, q⟩ => q _ H μ .refl hR rfl
theorem ma_cons {e : Expr} {es : List Expr} {g : FA} (ha : ME X Γ W e f) (hr : MA X Γ W es g) (hs : starEach (e :: es) X.env = (false, eval e X.env) :: starEach es X.env := by rfl) : MA X Γ W (e :: es) (mCons f g) :=
  PA.imp (pa_cons ha hr hs) fun σ H Q ⟨μ, Z, ρ, s, hE, hR, q⟩ => eA hE hR q fun x s1 u H1 μ1 e1 hE1 R1 r1 q1 => aA hE1 R1 q1 fun ws s2 vs H2 μ2 e2 hE2 R2 r2 q2 =>
    q2 _ H2 μ2 .refl R2 (RVs.cons (r1.mono e2) r2)
def mTup (g : FA) : FE := fun ρ s => (g ρ s).bind fun ws s1 => if ws.length ≤ lim then .ok (.tup ws) s1 else .no
def mLst (g : FA) : FE := fun ρ s => (g ρ s).bind fun ws s1 => if ws.length ≤ lim then .ok (.lst ws) s1 else .no
/-- a list that will be changed: an object of the store -/
def mLstM (g : FA) : FE := fun ρ s => (g ρ s).bind fun ws s1 => if ws.length ≤ lim then .ok (.ref s1.length) (s1 ++ [.lst ws]) else .no
theorem lim_ok {n : Nat} (h : n ≤ lim) : n ≤ sizeLine := Nat.le_trans h (by rw [sizeLine_eq]; decide)
theorem lim_lt {n : Nat} (h : n ≤ lim) : n < sizeLine := Nat.lt_of_le_of_lt h (by rw [sizeLine_eq]; decide)
section
variable {H : Hp} {μ : Mu} {Z : Zs} {s : Sto} {p : Addr} {ws : List Dv} {vs : List V}
theorem new_tup (hR : Rep Γ H μ Z s) (hp : H p = none) (r : RVs Γ H μ Z ws vs) : RV Γ (upd H p (.tup vs)) μ Z (.tup ws) (.ref p) :=
  ⟨p, vs, rfl, .inl ⟨.inl upd_same, hR.fz hp⟩, r.mono (Evo.laid hp)⟩
theorem new_lst (hR : Rep Γ H μ Z s) (hp : H p = none) (r : RVs Γ H μ Z ws vs) : RV Γ (upd H p (.lst vs)) μ Z (.lst ws) (.ref p) :=
  ⟨p, vs, rfl, upd_same, hR.fz hp, r.mono (Evo.laid hp)⟩
/-- a new object of the store -/
def ext (μ : Mu) (n : Nat) (p : Addr) : Mu := fun m => if m = n then some p else μ m
theorem Evo.ext {o : HO} (hp : H p = none) (hn : μ n = none) : Evo H μ (upd H p o) (ext μ n p) where
  keep := fun a o h _ => by rw [upd_ne (ne_of_none h hp)]; exact h
  mu := fun m a h => by
    unfold MP.ext
    rw [if_neg fun e => by rw [e, hn] at h; cases h]
    exact h
  new := fun m a h => by
    unfold MP.ext at h
    split at h
    · cases h; exact .inr hp
    · exact .inl h
  stay := fun m a h q => by
    by_cases e : a = p
    · subst e; exact absurd hp q
    · rw [upd_ne e]; exact q
theorem Rep.mu_new (hR : Rep Γ H μ Z s) : μ s.length = none := by
  cases e : μ s.length with
  | none => rfl
  | some a => exact absurd (hR.dom _ _ e) (Nat.lt_irrefl _)
theorem RO.mono' {a : Addr} {o : Ob} {H' : Hp} {μ' : Mu} (e : Evo H μ H' μ') (q : H' a = H a) (h : RO Γ H μ Z a o) : RO Γ H' μ' Z a o := by
  cases o with
  | lst ws =>
    obtain ⟨xs, h4, h5⟩ := h
    exact ⟨xs, q.trans h4, h5.mono e⟩
  | dct kws =>
    obtain ⟨kvs, h4, h5, h6⟩ := h
    exact ⟨kvs, q.trans h4, h5, h6.mono e⟩
  | dtt fr kws =>
    obtain ⟨kvs, h4, h5, h6, h7⟩ := h
    exact ⟨kvs, h4.eq q, h5, h6.mono e, h7.mono e⟩
  | obj c fs =>
    obtain ⟨dx, kvs, h4, h5, h6⟩ := h
    exact ⟨dx, kvs, q.trans h4, h5, h6.mono e⟩
  | tab m y => exact ⟨h.1, tab_imp q (fun c e1 e2 => ⟨e.keep _ _ e1 e2.1, e.fz (by rw [e1]; intro z; cases z) e2⟩) h.2⟩
theorem Rep.push (hR : Rep Γ H μ Z s) (hp : H p = none) {o : HO} {ob : Ob} (ho : RO Γ (upd H p o) (MP.ext μ s.length p) Z p ob) : Rep Γ (upd H p o) (MP.ext μ s.length p) Z (s ++ [ob]) := by
  have ev : Evo H μ (upd H p o) (MP.ext μ s.length p) := Evo.ext hp hR.mu_new
  refine ⟨fun n o' q => ?_, fun n m a h1 h2 => ?_, fun n a h => ?_, fun a q => ev.alive (hR.za a q)⟩
  · by_cases hn : n = s.length
    · subst hn
      rw [List.getElem?_append_right (Nat.le_refl _)] at q
      simp at q
      subst q
      exact ⟨p, by unfold MP.ext; rw [if_pos rfl], fun z => hR.za p z hp, ho⟩
    · have hl : n < s.length := by
        have := (List.getElem?_eq_some_iff.mp q).1
        rw [List.length_append, List.length_singleton] at this
        omega
      rw [List.getElem?_append_left hl] at q
      obtain ⟨a, h1, h2, h3⟩ := hR.at n o' q
      exact ⟨a, ev.mu _ _ h1, h2, h3.mono' ev (upd_ne fun e => hR.alive h1 (e ▸ hp))⟩
  · unfold MP.ext at h1 h2
    split at h1 <;> split at h2
    · rename_i e1 e2; rw [e1, e2]
    · cases h1; exact absurd hp (hR.alive h2)
    · cases h2; exact absurd hp (hR.alive h1)
    · exact hR.inj _ _ _ h1 h2
  · unfold MP.ext at h
    rw [List.length_append, List.length_singleton]
    split at h
    · omega
    · have := hR.dom _ _ h
      omega
end
theorem me_tup {es : List Expr} {g : FA} {x1} (h : MA X Γ W es g) : ME X Γ W (.Tuple es x1 pos) (mTup g) :=
  PE.imp (pe_tup h) fun σ H Q ⟨μ, Z, ρ, s, hE, hR, q⟩ => aE hE hR q fun ws s1 vs H1 μ1 e1 hE1 R1 r1 q1 => by
    split at q1
    · rename_i hl
      exact ⟨by rw [r1.len]; exact lim_ok hl, fun p hp => newE R1 hp (new_tup R1 hp r1) q1⟩
    · exact q1.elim
theorem me_lst {es : List Expr} {g : FA} (h : MA X Γ W es g) : ME X Γ W (.List es pos) (mLst g) :=
  PE.imp (pe_lst h) fun σ H Q ⟨μ, Z, ρ, s, hE, hR, q⟩ => aE hE hR q fun ws s1 vs H1 μ1 e1 hE1 R1 r1 q1 => by
    split at q1
    · rename_i hl
      exact ⟨by rw [r1.len]; exact lim_ok hl, fun p hp => newE R1 hp (new_lst R1 hp r1) q1⟩
    · exact q1.elim
theorem me_lstM {es : List Expr} {g : FA} (h : MA X Γ W es g) : ME X Γ W (.List es pos) (mLstM g) :=
  PE.imp (pe_lst h) fun σ H Q ⟨μ, Z, ρ, s, hE, hR, q⟩ => aE hE hR q fun ws s1 vs H1 μ1 e1 hE1 R1 r1 q1 => by
    split at q1
    · rename_i hl
      refine ⟨by rw [r1.len]; exact lim_ok hl, fun p hp => ?_⟩
      have ev : Evo H1 μ1 (upd H1 p (.lst vs)) (ext μ1 s1.length p) := Evo.ext hp R1.mu_new
      exact q1 _ _ _ ev (R1.push hp ⟨vs, upd_same, r1.mono ev⟩) ⟨p, rfl, by unfold ext; rw [if_pos rfl]⟩
    · exact q1.elim
end
end MP
set_option Elab.async false
set_option linter.all false
set_option maxRecDepth 100000
set_option maxHeartbeats 4000000
namespace MP
open PySem PySem.Spec PyProof.Rows L2
theorem tuple_mul1 (l : Addr) (items : Array Value) (n : Nat) (dd : Option Addr) (sl : Array (Option Value)) (x : Int) (u : Tok) (c0 : (decide (x < -(2 ^ 63)) || decide (x ≥ 2 ^ 63)) = false) (c1 : (items.isEmpty || x == 1) = true) :
    Meets (Builtin.«tuple.__mul__» ⟨[.ref l, .int x u], []⟩) (fun _ R s => s.heap.get? l = some { cls := .type "tuple", dict := dd, data := .seq items n, slots := sl } ∧
      R (.ok (.ret (Value.ref l))) s) :=
  .of_wp fun prog w A R s h => by
    obtain ⟨hp, g, d, tk, os⟩ := s
    obtain ⟨hl, h⟩ := h
    have f1 := AutoSeq1.idx_int
    wp_walk using wpAny_loadPart' hl
    repeat (first
      | (refine wpAny_ite_false (decide_eq_false (by rw [c0]; exact Bool.false_ne_true)) ?_; wp_walk using wpAny_loadPart' hl)
      | (refine wpAny_ite_true (decide_eq_true c1) ?_; wp_walk using wpAny_loadPart' hl))
    exact ⟨_, rfl, h⟩
theorem tuple_mul0 (l : Addr) (items : Array Value) (n : Nat) (dd : Option Addr) (sl : Array (Option Value)) (x : Int) (u : Tok) (c0 : (decide (x < -(2 ^ 63)) || decide (x ≥ 2 ^ 63)) = false) (c1 : (items.isEmpty || x == 1) = false) (c2 : (decide (x ≤ 0) || items.isEmpty) = true) :
    Meets (Builtin.«tuple.__mul__» ⟨[.ref l, .int x u], []⟩) (fun _ R s => s.heap.get? l = some { cls := .type "tuple", dict := dd, data := .seq items n, slots := sl } ∧
      R (.ok (.ret (Value.ref s.heap.objs.size))) { s with heap := s.heap.push { cls := Value.type "tuple", data := Data.seq #[] } }) :=
  .of_wp fun prog w A R s h => by
    obtain ⟨hp, g, d, tk, os⟩ := s
    obtain ⟨hl, h⟩ := h
    have f1 := AutoSeq1.idx_int
    wp_walk using wpAny_loadPart' hl
    repeat (first
      | (refine wpAny_ite_false (decide_eq_false (by rw [c0]; exact Bool.false_ne_true)) ?_; wp_walk using wpAny_loadPart' hl)
      | (refine wpAny_ite_false (decide_eq_false (by rw [c1]; exact Bool.false_ne_true)) ?_; wp_walk using wpAny_loadPart' hl)
      | (refine wpAny_ite_true (decide_eq_true c2) ?_; wp_walk using wpAny_loadPart' hl))
    exact ⟨_, rfl, h⟩
theorem tuple_mulN (l : Addr) (items : Array Value) (n : Nat) (dd : Option Addr) (sl : Array (Option Value)) (x : Int) (u : Tok) (c0 : (decide (x < -(2 ^ 63)) || decide (x ≥ 2 ^ 63)) = false) (c1 : (items.isEmpty || x == 1) = false) (c2 : (decide (x ≤ 0) || items.isEmpty) = false)
    (c3 : ¬ ((items.size : Nat) : Int) * x > (2 ^ 63 - 1) / 8) (c4 : Builtin.Tuple.tupleTooMany (((items.size : Nat) : Int) * x) = false) (hsz : (List.foldl (fun x1 x2 => x1 ++ x2) #[] (List.replicate x.toNat items)).size ≤ sizeLine) :
    Meets (Builtin.«tuple.__mul__» ⟨[.ref l, .int x u], []⟩) (fun _ R s => s.heap.get? l = some { cls := .type "tuple", dict := dd, data := .seq items n, slots := sl } ∧
      R (.ok (.ret (Value.ref s.heap.objs.size))) { s with heap := s.heap.push { cls := Value.type "tuple", data := Data.seq (List.foldl (fun x1 x2 => x1 ++ x2) #[] (List.replicate x.toNat items)) }, toks := s.toks }) := L2.tuple_mulW l items n dd sl x u c0 c1 c2 c3 c4 hsz
def rRepA (K : PySem.W.Frag) : R2 := fun x y H Q => ∃ l k xs, x = .ref l ∧ y = .int k ∧ SqT K H l xs ∧ -(2 ^ 63) ≤ k ∧ k < 2 ^ 63 ∧ xs.length * k.toNat ≤ 16000000 ∧
  (xs = [] ∨ k = 1 → Q (.ref l) H) ∧ (¬ (xs = [] ∨ k = 1) → ∀ p, H p = none → Q (.ref p) (upd H p (.tup (List.replicate k.toNat xs).flatten)))
section
variable {X : Cx}
theorem op_repA : OpR X (binaryOp .Mult) (rRepA X.K) := by
  intro pins s σ H x y v u Q I rx ry h
  obtain ⟨l, k, xs, rfl, rfl, hT, h1, h2, hz, qs, qn⟩ := h
  cases rx
  obtain ⟨t, rfl⟩ := ry
  obtain ⟨its, r, ⟨⟨cls, dd, data, sl⟩, ho, hc, n, hd⟩, hs⟩ := I.tuple hT
  simp only at hc hd
  subst hc hd
  have hle : its.length = xs.length := r.length.symm
  have hsz0 : its.toArray.size = xs.length := by rw [List.size_toArray, hle]
  have he : (its.toArray.isEmpty = true) ↔ xs = [] := by
    rw [← List.length_eq_zero_iff (l := xs), ← hle]
    clear hT r ho hs hle hsz0 qs qn hz
    cases its with
    | nil => exact ⟨fun _ => rfl, fun _ => rfl⟩
    | cons a b => exact ⟨fun z => (Bool.false_ne_true z).elim, fun z => (Nat.succ_ne_zero _ z).elim⟩
  have c0 : (decide (k < -(2 ^ 63)) || decide (k ≥ 2 ^ 63)) = false := by
    clear he qs qn
    rw [decide_eq_false (Int.not_lt.mpr h1), decide_eq_false (Int.not_le.mpr h2)] <;> rfl
  by_cases hsame : xs = [] ∨ k = 1
  · have c1 : (its.toArray.isEmpty || k == 1) = true := by
      rw [Bool.or_eq_true]
      rcases hsame with z | z
      · exact .inl (he.mpr z)
      · exact .inr (beq_iff_eq.mpr z)
    refine wpAny_binaryOp_repeat_ref (T := "tuple") (U := "int") (by decide) ⟨_, ho, rfl⟩ (fun s' => typeIs_int s' k t) noFill_tuple_mul F.fills_int_mul F.slot_int_rmul repeat_tuple F.slot_int_index.lookup
      (call_meets F.slot_int_rmul (typeIs_int s k t) F.entry_int_rmul (F.args_int_rmul_2 _ _) (int_rmul_tuple k t l its.toArray n dd sl)
        ⟨ho, rfl, ⟨_, ho, rfl⟩, call_meets F.slot_tuple_mul ⟨_, ho, rfl⟩ F.entry_tuple_mul (F.args_tuple_mul_2 _ _) (tuple_mul1 l its.toArray n dd sl k t c0 c1) ⟨ho, ?_⟩⟩)
    exact ⟨.ref l, H, I, rfl, qs hsame⟩
  · have hx : xs ≠ [] := fun z => hsame (.inl z)
    have hk : k ≠ 1 := fun z => hsame (.inr z)
    have hi : its.toArray.isEmpty = false := by
      cases e : its.toArray.isEmpty with
      | false => rfl
      | true => exact absurd (he.mp e) hx
    have c1 : (its.toArray.isEmpty || k == 1) = false := by
      rw [hi, Bool.false_or]
      exact beq_eq_false_iff_ne.mpr hk
    by_cases hk0 : k ≤ 0
    · have c2 : (decide (k ≤ 0) || its.toArray.isEmpty) = true := by rw [decide_eq_true hk0, Bool.true_or]
      have q := qn hsame
      have hk' : k.toNat = 0 := by omega
      rw [hk'] at q
      refine wpAny_binaryOp_repeat_ref (T := "tuple") (U := "int") (by decide) ⟨_, ho, rfl⟩ (fun s' => typeIs_int s' k t) noFill_tuple_mul F.fills_int_mul F.slot_int_rmul repeat_tuple F.slot_int_index.lookup
        (call_meets F.slot_int_rmul (typeIs_int s k t) F.entry_int_rmul (F.args_int_rmul_2 _ _) (int_rmul_tuple k t l its.toArray n dd sl)
          ⟨ho, rfl, ⟨_, ho, rfl⟩, call_meets F.slot_tuple_mul ⟨_, ho, rfl⟩ F.entry_tuple_mul (F.args_tuple_mul_2 _ _) (tuple_mul0 l its.toArray n dd sl k t c0 c1 c2) ⟨ho, ?_⟩⟩)
      refine ⟨.ref s.heap.objs.size, _, I.laid (t' := s.toks) (o := .tup []) (fun b ob q => Heap.get?_push_of_some _ q) (Nat.le_refl _) ?_, rfl, q _ (I.hok.fresh (Nat.le_refl _))⟩
      exact ⟨Nat.zero_le _, [], .nil, IsTup.new _ _⟩
    · have c2 : (decide (k ≤ 0) || its.toArray.isEmpty) = false := by
        rw [hi, Bool.or_false]
        exact decide_eq_false hk0
      have hkk : (k.toNat : Int) = k := Int.toNat_of_nonneg (by omega)
      have hm : ((its.toArray.size : Nat) : Int) * k ≤ 16000000 := by
        have z1 : ((xs.length * k.toNat : Nat) : Int) ≤ ((16000000 : Nat) : Int) := Int.ofNat_le.mpr hz
        rw [Int.natCast_mul, hkk] at z1
        rw [hsz0]
        exact z1
      have c4 : Builtin.Tuple.tupleTooMany (((its.toArray.size : Nat) : Int) * k) = false := by
        unfold Builtin.Tuple.tupleTooMany
        rw [sizeLine_eq]
        exact decide_eq_false (by omega)
      have flen : (List.replicate k.toNat its).flatten.length ≤ sizeLine := by
        rw [PyProof.Rows.lm_len_rep_flat, hle, sizeLine_eq, Nat.mul_comm]
        omega
      refine wpAny_binaryOp_repeat_ref (T := "tuple") (U := "int") (by decide) ⟨_, ho, rfl⟩ (fun s' => typeIs_int s' k t) noFill_tuple_mul F.fills_int_mul F.slot_int_rmul repeat_tuple F.slot_int_index.lookup
        (call_meets F.slot_int_rmul (typeIs_int s k t) F.entry_int_rmul (F.args_int_rmul_2 _ _) (int_rmul_tuple k t l its.toArray n dd sl)
          ⟨ho, rfl, ⟨_, ho, rfl⟩, call_meets F.slot_tuple_mul ⟨_, ho, rfl⟩ F.entry_tuple_mul (F.args_tuple_mul_2 _ _) (tuple_mulN l its.toArray n dd sl k t c0 c1 c2 (by omega) c4 (by rw [size_rep, List.size_toArray]; exact flen)) ⟨ho, ?_⟩⟩)
      rw [size_rep]
      refine ⟨.ref s.heap.objs.size, _, I.laid (t' := s.toks) (o := .tup (List.replicate k.toNat xs).flatten) (fun b ob q => Heap.get?_push_of_some _ q) (Nat.le_refl _) ?_, rfl, qn hsame _ (I.hok.fresh (Nat.le_refl _))⟩
      exact ⟨by rw [PyProof.Rows.lm_len_rep_flat, sizeLine_eq, Nat.mul_comm]; omega, _, r.rep k.toNat, IsTup.new _ _⟩
end
def lstOf (s : Sto) : Dv → Option (List Dv)
  | .lst ws => some ws
  | .ref n => match s[n]? with
    | some (.lst ws) => some ws
    | _ => none
  | _ => none
/-- a sequence that is read -/
def seqOf (s : Sto) : Dv → Option (List Dv)
  | .tup ws => some ws
  | .sq ws => some ws
  | w => lstOf s w
def tupOf : Dv → Option (List Dv)
  | .tup ws => some ws
  | _ => none
def flat : Dv → Option V
  | .non => some .non | .bl b => some (.bl b) | .int i => some (.int i) | .str x => some (.str x)
  | _ => none
mutual
def toD0 : Dv → Option PyData
  | .non => some .none | .bl b => some (.bool b) | .int i => some (.int i) | .str x => some (.str x)
  | .tup ws => (toDs ws).map .tuple
  | .lst ws => (toDs ws).map .list
  | .sq ws => (toDs ws).map .list
  | _ => none
def toDs : List Dv → Option (List PyData)
  | [] => some []
  | w :: ws => match toD0 w, toDs ws with
    | some d, some ds => some (d :: ds)
    | _, _ => none
end
def toD (s : Sto) : Dv → Option PyData
  | .ref n => match s[n]? with
    | some (.lst ws) => (toDs ws).map .list
    | _ => none
  | w => toD0 w
section
variable {Γ : Ct} {H : Hp} {μ : Mu} {Z : Zs} {s : Sto}
theorem lstOf_ok {w : Dv} {v : V} {ws : List Dv} (hR : Rep Γ H μ Z s) (r : RV Γ H μ Z w v) (e : lstOf s w = some ws) : ∃ a xs, v = .ref a ∧ H a = some (.lst xs) ∧ RVs Γ H μ Z ws xs := by
  cases w with
  | lst us =>
    cases e
    obtain ⟨a, xs, h1, h2, _, h4⟩ := r
    exact ⟨a, xs, h1, h2, h4⟩
  | ref n =>
    simp only [lstOf] at e
    split at e
    · rename_i us q
      cases e
      obtain ⟨a, h1, h2⟩ := r
      obtain ⟨b, h3, _, xs, h4, h5⟩ := hR.at n _ q
      rw [h2] at h3
      cases h3
      exact ⟨a, xs, h1, h4, h5⟩
    · cases e
  | _ => cases e
theorem seqOf_ok {w : Dv} {v : V} {ws : List Dv} (hR : Rep Γ H μ Z s) (r : RV Γ H μ Z w v) (e : seqOf s w = some ws) : ∃ a xs, v = .ref a ∧ (SqL Γ.K H a xs ∨ SqT Γ.K H a xs) ∧ RVs Γ H μ Z ws xs := by
  cases w with
  | tup us =>
    cases e
    obtain ⟨a, xs, h1, h2, h3⟩ := r
    exact ⟨a, xs, h1, .inr h2.sq, h3⟩
  | sq us =>
    cases e
    obtain ⟨a, xs, h1, h2, h3⟩ := r
    exact ⟨a, xs, h1, .inl h2.sq, h3⟩
  | lst us =>
    obtain ⟨a, xs, h1, h2, h3⟩ := lstOf_ok hR r (show lstOf s (.lst us) = some ws from e)
    exact ⟨a, xs, h1, .inl (SqL.of h2), h3⟩
  | ref n =>
    obtain ⟨a, xs, h1, h2, h3⟩ := lstOf_ok hR r (show lstOf s (.ref n) = some ws from e)
    exact ⟨a, xs, h1, .inl (SqL.of h2), h3⟩
  | _ => cases e
theorem flat_ok {w : Dv} {v u : V} (r : RV Γ H μ Z w v) (e : flat w = some u) : v = u := by
  cases w <;> first
    | (cases e; exact r)
    | cases e
mutual
theorem toD0_ok : ∀ (w : Dv) {v : V} {d : PyData}, RV Γ H μ Z w v → toD0 w = some d → Dp Γ.K H v d
  | .non, _, _, r, e => by cases e; rw [show _ = _ from r]; exact .non
  | .bl b, _, _, r, e => by cases e; rw [show _ = _ from r]; exact .bl b
  | .int b, _, _, r, e => by cases e; rw [show _ = _ from r]; exact .int b
  | .str b, _, _, r, e => by cases e; rw [show _ = _ from r]; exact .str b
  | .tup ws, _, d, r, e => by
    obtain ⟨a, xs, rfl, h2, h3⟩ := r
    simp only [toD0] at e
    cases q : toDs ws with
    | none => rw [q] at e; cases e
    | some ds => rw [q] at e; cases e; exact .tup h2.sq (toDs_ok ws h3 q)
  | .sq ws, _, d, r, e => by
    obtain ⟨a, xs, rfl, h2, h3⟩ := r
    simp only [toD0] at e
    cases q : toDs ws with
    | none => rw [q] at e; cases e
    | some ds => rw [q] at e; cases e; exact .lst h2.sq (toDs_ok ws h3 q)
  | .lst ws, _, d, r, e => by
    obtain ⟨a, xs, rfl, h2, _, h3⟩ := r
    simp only [toD0] at e
    cases q : toDs ws with
    | none => rw [q] at e; cases e
    | some ds => rw [q] at e; cases e; exact .lst (SqL.of h2) (toDs_ok ws h3 q)
  | .ty _, _, _, _, e => by cases e
  | .cl _, _, _, _, e => by cases e
  | .ref _, _, _, _, e => by cases e
  | .dct _ _, _, _, _, e => by cases e
  | .dtt _ _, _, _, _, e => by cases e
  | .exc _ _ _, _, _, _, e => by cases e
  | .exn _, _, _, _, e => by cases e
  | .clo _ _ _ _ _, _, _, _, e => by cases e
theorem toDs_ok : ∀ (ws : List Dv) {vs : List V} {ds : List PyData}, RVs Γ H μ Z ws vs → toDs ws = some ds → DpAll Γ.K H vs ds
  | [], _, _, r, e => by cases e; rw [show _ = _ from r]; exact .nil
  | w :: ws, _, _, r, e => by
    obtain ⟨x, xs, rfl, h2, h3⟩ := r
    simp only [toDs] at e
    split at e
    · rename_i d ds q1 q2
      cases e
      exact .cons (toD0_ok w h2 q1) (toDs_ok ws h3 q2)
    · cases e
end
theorem toD_ok {w : Dv} {v : V} {d : PyData} (hR : Rep Γ H μ Z s) (r : RV Γ H μ Z w v) (e : toD s w = some d) : Dp Γ.K H v d := by
  cases w with
  | ref n =>
    simp only [toD] at e
    split at e
    · rename_i us q
      obtain ⟨a, h1, h2⟩ := r
      obtain ⟨b, h3, _, xs, h4, h5⟩ := hR.at n _ q
      rw [h2] at h3
      cases h3
      subst h1
      cases q2 : toDs us with
      | none => rw [q2] at e; cases e
      | some ds => rw [q2] at e; cases e; exact .lst (SqL.of h4) (toDs_ok us h5 q2)
    · cases e
  | _ => exact toD0_ok _ r e
end
def cm (i j : Int) : Bool := decide ((-(2 ^ 64) < i ∧ i < 2 ^ 64) ∨ (-(2 ^ 64) < j ∧ j < 2 ^ 64))
theorem cm_ok {i j : Int} (h : cm i j = true) : CMul i j := (of_decide_eq_true h : (-(2 ^ 64) < i ∧ i < 2 ^ 64) ∨ (-(2 ^ 64) < j ∧ j < 2 ^ 64))
def addD : O2 := fun s x y => match x, y with
  | .int i, .int j => some (.int (i + j))
  | .str a, .str b => if a.length + b.length ≤ lim then some (.str (a ++ b)) else none
  | .tup a, .tup b => if a.length + b.length ≤ lim then some (.tup (a ++ b)) else none
  | x, y => match lstOf s x, lstOf s y with
    | some a, some b => if a.length + b.length ≤ lim then some (.lst (a ++ b)) else none
    | _, _ => none
def subD : O2 := fun _ x y => match x, y with
  | .int i, .int j => some (.int (i - j))
  | _, _ => none
def mulD : O2 := fun s x y => match x, y with
  | .int i, .int j => if cm i j = true then some (.int (i * j)) else none
  | .tup a, .int k => if -(2 ^ 63) ≤ k ∧ k < 2 ^ 63 ∧ a.length * k.toNat ≤ lim then some (.tup (List.replicate k.toNat a).flatten) else none
  | x, .int k => match lstOf s x with
    | some a => if -(2 ^ 63) ≤ k ∧ k < 2 ^ 63 ∧ a.length * k.toNat ≤ lim then some (.lst (List.replicate k.toNat a).flatten) else none
    | none => none
  | _, _ => none
def modD : O2 := fun _ x y => match x, y with
  | .int i, .int j => if 0 < j then some (.int (i % j)) else none
  | _, _ => none
def divD : O2 := fun _ x y => match x, y with
  | .int i, .int j => if 0 < j ∧ j < 1073741824 then some (.int (i / j)) else none
  | _, _ => none
def powD : O2 := fun _ x y => match x, y with
  | .int i, .int j => if 0 ≤ j ∧ j ≤ 1000000 ∧ i.natAbs < 2 ^ 64 then some (.int (i ^ j.toNat)) else none
  | _, _ => none
def negD : O1 := fun _ x => match x with
  | .int i => some (.int (-i))
  | _ => none
def cmpD (p : Int → Int → Bool) : O2 := fun _ x y => match x, y with
  | .int i, .int j => some (.bl (p i j))
  | _, _ => none
abbrev ltD : O2 := cmpD fun i j => decide (i < j)
abbrev leD : O2 := cmpD fun i j => decide (i ≤ j)
abbrev gtD : O2 := cmpD fun i j => decide (j < i)
abbrev geD : O2 := cmpD fun i j => decide (j ≤ i)
def eqB (s : Sto) (x y : Dv) : Option Bool := match flat x, flat y with
  | some a, some b => if scal a b = true then some (decide (a = b)) else none
  | _, _ => match toD s x, toD s y with
    | some d, some e => if SeqAt.shaped d = true ∧ SeqAt.shaped e = true then some (PyData.eqv d e) else none
    | _, _ => none
def eqD : O2 := fun s x y => (eqB s x y).map .bl
def neD : O2 := fun s x y => (eqB s x y).map fun b => .bl (!b)
def isN : Dv → Option Bool
  | .non => some true
  | .bl _ => some false | .int _ => some false | .str _ => some false | .tup _ => some false | .lst _ => some false | .sq _ => some false | .dct _ _ => some false | .dtt _ _ => some false | .exc _ _ _ => some false | .exn _ => some false | .ref _ => some false | .ty _ => some false | .cl _ => some false | .clo _ _ _ _ _ => some false
def isBl (c : Bool) : Dv → Bool
  | .bl b => b == c
  | _ => false
def isD : O2 := fun _ x y => match y with
  | .non => (isN x).map .bl
  | .bl c => some (.bl (isBl c x))
  | _ => none
def isntD : O2 := fun _ x y => match y with
  | .non => (isN x).map fun b => .bl (!b)
  | .bl c => some (.bl (!isBl c x))
  | _ => none
section
variable {Γ : Ct} {X : Cx}
abbrev rAdd (K : PySem.W.Frag) : R2 := fun x y H Q => ((rI0 fun i j => .int (i + j)) x y H Q ∨ (∃ i j, x = .str i ∧ y = .str j ∧ i.length + j.length ≤ sizeLine ∧ Q (.str (i ++ j)) H)) ∨ (rCatA K x y H Q ∨ rCat x y H Q)
theorem opAdd : OpR X (binaryOp .Add) (rAdd X.K) := OpR.or2 (OpR.or2 op_add op_add_str) (OpR.or2 op_catA op_cat)
theorem sAdd : Op2 Γ (rAdd Γ.K) addD := fun H μ Z s x y w u v Q hR r1 r2 e k => by
  unfold addD at e
  split at e
  · cases e
    exact .inl (.inl ⟨_, _, r1, r2, k _ H .refl hR rfl⟩)
  · rename_i a b
    split at e
    · rename_i hl
      cases e
      exact .inl (.inr ⟨_, _, r1, r2, lim_ok hl, k _ H .refl hR rfl⟩)
    · cases e
  · rename_i a b
    split at e
    · rename_i hl
      cases e
      obtain ⟨p, xs, h1, h2, h3⟩ := id r1
      obtain ⟨p', ys, g1, g2, g3⟩ := id r2
      refine .inr (.inl ⟨p, p', xs, ys, h1, g1, h2.sq, g2.sq, by rw [h3.len, g3.len]; exact lim_ok hl, fun z => ?_, fun z z' => ?_, fun z z' q hq => ?_⟩)
      · have hn : a = [] := by
          have := h3.len
          rw [z] at this
          exact List.eq_nil_of_length_eq_zero this.symm
        rw [hn, List.nil_append] at k
        exact k _ H .refl hR (g1 ▸ r2)
      · have hn : b = [] := by
          have := g3.len
          rw [z'] at this
          exact List.eq_nil_of_length_eq_zero this.symm
        rw [hn, List.append_nil] at k
        exact k _ H .refl hR (h1 ▸ r1)
      · exact k _ _ (Evo.laid hq) (hR.laid hq) (new_tup hR hq (h3.append g3))
    · cases e
  · split at e
    · rename_i a b q1 q2
      split at e
      · rename_i hl
        cases e
        obtain ⟨p, xs, h1, h2, h3⟩ := lstOf_ok hR r1 q1
        obtain ⟨p', ys, g1, g2, g3⟩ := lstOf_ok hR r2 q2
        exact .inr (.inr ⟨p, p', xs, ys, h1, g1, h2, g2, by rw [h3.len, g3.len]; exact lim_ok hl, fun q hq => k _ _ (Evo.laid hq) (hR.laid hq) (new_lst hR hq (h3.append g3))⟩)
      · cases e
    · cases e
theorem sSub : Op2 Γ (rI0 fun i j => .int (i - j)) subD := fun H μ Z s x y w u v Q hR r1 r2 e k => by
  unfold subD at e
  split at e
  · cases e
    exact ⟨_, _, r1, r2, k _ H .refl hR rfl⟩
  · cases e
abbrev rMul (K : PySem.W.Frag) : R2 := fun x y H Q => (rI CMul fun i j => .int (i * j)) x y H Q ∨ (rRepA K x y H Q ∨ rRep x y H Q)
theorem opMul : OpR X (binaryOp .Mult) (rMul X.K) := OpR.or2 op_mul (OpR.or2 op_repA op_rep)
theorem flat_one {α : Type} (l : List α) : (List.replicate 1 l).flatten = l := by simp
theorem flat_nil {α : Type} (n : Nat) : (List.replicate n ([] : List α)).flatten = [] := by
  induction n with
  | zero => rfl
  | succ n ih => rw [List.replicate_succ, List.flatten_cons, ih]; rfl
theorem sMul : Op2 Γ (rMul Γ.K) mulD := fun H μ Z s x y w u v Q hR r1 r2 e k => by
  unfold mulD at e
  split at e
  · split at e
    · rename_i hc
      cases e
      exact .inl ⟨_, _, r1, r2, cm_ok hc, k _ H .refl hR rfl⟩
    · cases e
  · rename_i a n
    split at e
    · rename_i hl
      cases e
      obtain ⟨p, xs, h1, h2, h3⟩ := id r1
      refine .inr (.inl ⟨p, n, xs, h1, r2, h2.sq, hl.1, hl.2.1, by rw [h3.len]; exact hl.2.2, fun z => ?_, fun z q hq => ?_⟩)
      · have hn : (List.replicate n.toNat a).flatten = a := by
          rcases z with z | z
          · have h0 : a = [] := by
              have := h3.len
              rw [z] at this
              exact List.eq_nil_of_length_eq_zero this.symm
            rw [h0, flat_nil]
          · rw [z]
            exact flat_one a
        rw [hn] at k
        exact k _ H .refl hR (h1 ▸ r1)
      · exact k _ _ (Evo.laid hq) (hR.laid hq) (new_tup hR hq (h3.rep _))
    · cases e
  · rename_i n _ _
    split at e
    · rename_i a q1
      split at e
      · rename_i hl
        cases e
        obtain ⟨p, xs, h1, h2, h3⟩ := lstOf_ok hR r1 q1
        exact .inr (.inr ⟨p, n, xs, h1, r2, h2, hl.1, hl.2.1, by rw [h3.len]; exact lim_ok hl.2.2, fun q hq => k _ _ (Evo.laid hq) (hR.laid hq) (new_lst hR hq (h3.rep _))⟩)
      · cases e
    · cases e
  · cases e
theorem sMod : Op2 Γ (rI (fun _ j => 0 < j) fun i j => .int (i % j)) modD := fun H μ Z s x y w u v Q hR r1 r2 e k => by
  unfold modD at e
  split at e
  · split at e
    · rename_i hc
      cases e
      exact ⟨_, _, r1, r2, hc, k _ H .refl hR rfl⟩
    · cases e
  · cases e
theorem sDiv : Op2 Γ (rI CDiv fun i j => .int (i / j)) divD := fun H μ Z s x y w u v Q hR r1 r2 e k => by
  unfold divD at e
  split at e
  · split at e
    · rename_i hc
      cases e
      exact ⟨_, _, r1, r2, hc, k _ H .refl hR rfl⟩
    · cases e
  · cases e
theorem sPow : Op2 Γ (rI CPow fun i j => .int (i ^ j.toNat)) powD := fun H μ Z s x y w u v Q hR r1 r2 e k => by
  unfold powD at e
  split at e
  · split at e
    · rename_i hc
      cases e
      exact ⟨_, _, r1, r2, hc, k _ H .refl hR rfl⟩
    · cases e
  · cases e
theorem sNeg : Op1 Γ (rU fun i => .int (-i)) negD := fun H μ Z s x w u Q hR r1 e k => by
  unfold negD at e
  split at e
  · cases e
    exact ⟨_, r1, k _ H .refl hR rfl⟩
  · cases e
theorem sCmp {p : Int → Int → Bool} : Op2 Γ (rI0 fun i j => .bl (p i j)) (cmpD p) := fun H μ Z s x y w u v Q hR r1 r2 e k => by
  unfold cmpD at e
  split at e
  · cases e
    exact ⟨_, _, r1, r2, k _ H .refl hR rfl⟩
  · cases e
abbrev rEqM (K : PySem.W.Frag) : R2 := fun x y H Q => rEq x y H Q ∨ rEqD K x y H Q
abbrev rNeM (K : PySem.W.Frag) : R2 := fun x y H Q => rNe x y H Q ∨ rNeD K x y H Q
theorem opEq (hu : X.A.units + 64 < cLine) : OpR X (compareOp .Eq) (rEqM X.K) := OpR.or2 op_eq (op_eqD hu)
theorem opNe (hu : X.A.units + 64 < cLine) : OpR X (compareOp .NotEq) (rNeM X.K) := OpR.or2 op_ne (op_neD hu)
theorem sEq : Op2 Γ (rEqM Γ.K) eqD := fun H μ Z s x y w u v Q hR r1 r2 e k => by
  unfold eqD eqB at e
  split at e
  · rename_i a b q1 q2
    split at e
    · rename_i hs
      cases e
      rw [flat_ok r1 q1, flat_ok r2 q2]
      exact .inl ⟨hs, k _ H .refl hR rfl⟩
    · cases e
  · split at e
    · rename_i d d' q1 q2
      split at e
      · rename_i hs
        cases e
        exact .inr ⟨d, d', toD_ok hR r1 q1, toD_ok hR r2 q2, hs.1, hs.2, k _ H .refl hR rfl⟩
      · cases e
    · cases e
theorem sNe : Op2 Γ (rNeM Γ.K) neD := fun H μ Z s x y w u v Q hR r1 r2 e k => by
  unfold neD eqB at e
  split at e
  · rename_i a b q1 q2
    split at e
    · rename_i hs
      cases e
      rw [flat_ok r1 q1, flat_ok r2 q2]
      exact .inl ⟨hs, k _ H .refl hR rfl⟩
    · cases e
  · split at e
    · rename_i d d' q1 q2
      split at e
      · rename_i hs
        cases e
        exact .inr ⟨d, d', toD_ok hR r1 q1, toD_ok hR r2 q2, hs.1, hs.2, k _ H .refl hR rfl⟩
      · cases e
    · cases e
theorem isN_ok {H : Hp} {μ : Mu} {Z : Zs} {w : Dv} {v : V} {b : Bool} (r : RV Γ H μ Z w v) (e : isN w = some b) : decide (v = V.non) = b := by
  cases w with
  | non => cases e; rw [show v = _ from r]; rfl
  | bl _ => cases e; rw [show v = _ from r]; rfl
  | int _ => cases e; rw [show v = _ from r]; rfl
  | str _ => cases e; rw [show v = _ from r]; rfl
  | ty _ => cases e; rw [show v = _ from r]; rfl
  | cl _ => cases e; rw [show v = _ from r]; rfl
  | ref n => cases e; obtain ⟨_, h, _⟩ := r; rw [h]; rfl
  | tup _ => cases e; obtain ⟨_, _, h, _⟩ := r; rw [h]; rfl
  | lst _ => cases e; obtain ⟨_, _, h, _⟩ := r; rw [h]; rfl
  | sq _ => cases e; obtain ⟨_, _, h, _⟩ := r; rw [h]; rfl
  | dct _ _ => cases e; obtain ⟨_, _, h, _⟩ := r; rw [h]; rfl
  | dtt _ _ => cases e; obtain ⟨_, _, h, _⟩ := r; rw [h]; rfl
  | exc _ _ _ => cases e; obtain ⟨_, _, _, h, _⟩ := r; rw [h]; rfl
  | exn _ => cases e; obtain ⟨_, h, _⟩ := r; rw [h]; rfl
  | clo _ _ _ _ _ => cases e; rw [show v = _ from r.1]; rfl
theorem isBl_ok {H : Hp} {μ : Mu} {Z : Zs} {w : Dv} {v : V} {c : Bool} (r : RV Γ H μ Z w v) : decide (v = V.bl c) = isBl c w := by
  cases w with
  | non => rw [show v = _ from r]; rfl
  | bl b => rw [show v = _ from r]; cases b <;> cases c <;> rfl
  | int _ => rw [show v = _ from r]; rfl
  | str _ => rw [show v = _ from r]; rfl
  | ty _ => rw [show v = _ from r]; rfl
  | cl _ => rw [show v = _ from r]; rfl
  | ref n => obtain ⟨_, h, _⟩ := r; rw [h]; rfl
  | tup _ => obtain ⟨_, _, h, _⟩ := r; rw [h]; rfl
  | lst _ => obtain ⟨_, _, h, _⟩ := r; rw [h]; rfl
  | sq _ => obtain ⟨_, _, h, _⟩ := r; rw [h]; rfl
  | dct _ _ => obtain ⟨_, _, h, _⟩ := r; rw [h]; rfl
  | dtt _ _ => obtain ⟨_, _, h, _⟩ := r; rw [h]; rfl
  | exc _ _ _ => obtain ⟨_, _, _, h, _⟩ := r; rw [h]; rfl
  | exn _ => obtain ⟨_, h, _⟩ := r; rw [h]; rfl
  | clo _ _ _ _ _ => rw [show v = _ from r.1]; rfl
/-- x is c, c one of None, True, False -/
def rIsC (n : Bool) : R2 := fun x y H Q => (y = .non ∨ ∃ b, y = .bl b) ∧ Q (.bl (decide (x = y) != n)) H
theorem rel_bl {x : V} {v : Value} (r : RelV x v) (b : Bool) : plainIs v (.bool b) = true ∧ (v == Value.bool b) = decide (x = V.bl b) := by
  cases x with
  | bl c => cases r; cases b <;> cases c <;> exact ⟨rfl, rfl⟩
  | ref a => cases r; exact ⟨rfl, rfl⟩
  | non => cases r; exact ⟨rfl, rfl⟩
  | int i => obtain ⟨t, rfl⟩ := r; exact ⟨rfl, rfl⟩
  | str x => obtain ⟨t, rfl⟩ := r; exact ⟨rfl, rfl⟩
  | byt x => obtain ⟨t, rfl⟩ := r; exact ⟨rfl, rfl⟩
  | flt x => obtain ⟨t, rfl⟩ := r; exact ⟨rfl, rfl⟩
  | ty n => cases r; exact ⟨rfl, rfl⟩
theorem op_isC : OpR X (compareOp .Is) (rIsC false) := by
  intro pins s σ H x y v u Q I rx ry h
  obtain ⟨hy | ⟨b, hy⟩, q⟩ := h
  · subst hy
    exact op_isN pins s σ H x .non v u Q I rx ry ⟨rfl, by simpa using q⟩
  · subst hy
    cases ry
    obtain ⟨h1, h2⟩ := rel_bl rx b
    exact wpAny_is_plain h1 (fin_bl I q (by rw [h2]; simp))
theorem op_notC : OpR X (compareOp .IsNot) (rIsC true) := by
  intro pins s σ H x y v u Q I rx ry h
  obtain ⟨hy | ⟨b, hy⟩, q⟩ := h
  · subst hy
    exact op_notN pins s σ H x .non v u Q I rx ry ⟨rfl, by simpa using q⟩
  · subst hy
    cases ry
    obtain ⟨h1, h2⟩ := rel_bl rx b
    exact wpAny_isNot_plain h1 (fin_bl I q (by rw [h2]; simp))
theorem sIsC : Op2 Γ (rIsC false) isD := fun H μ Z s x y w u v Q hR r1 r2 e k => by
  unfold isD at e
  split at e
  · cases q : isN x with
    | none => rw [q] at e; cases e
    | some b =>
      rw [q] at e
      cases e
      refine ⟨.inl r2, k _ H .refl hR ?_⟩
      rw [show v = _ from r2, isN_ok r1 q]
      simp [RV]
  · rename_i c
    cases e
    refine ⟨.inr ⟨c, r2⟩, k _ H .refl hR ?_⟩
    rw [show v = _ from r2, isBl_ok r1]
    simp [RV]
  · cases e
theorem sIsntC : Op2 Γ (rIsC true) isntD := fun H μ Z s x y w u v Q hR r1 r2 e k => by
  unfold isntD at e
  split at e
  · cases q : isN x with
    | none => rw [q] at e; cases e
    | some b =>
      rw [q] at e
      cases e
      refine ⟨.inl r2, k _ H .refl hR ?_⟩
      rw [show v = _ from r2, isN_ok r1 q]
      simp [RV]
  · rename_i c
    cases e
    refine ⟨.inr ⟨c, r2⟩, k _ H .refl hR ?_⟩
    rw [show v = _ from r2, isBl_ok r1]
    simp [RV]
  · cases e
end
end MP
set_option Elab.async false
set_option linter.all false
set_option maxRecDepth 100000
set_option maxHeartbeats 4000000
namespace MP
open PySem PySem.Spec PyProof.Rows L2
section
variable {X : Cx} {Γ : Ct} {W : WX} {st : Stmt} {rest : List Stmt} {e : Expr} {f : FE} {c c' : FS} {t : FT} {pos : Pos}
def mNext : FS := fun ρ s => .nx ρ s
def mSeq (c c' : FS) : FS := fun ρ s => match c ρ s with
  | .nx ρ' s' => c' ρ' s'
  | r => r
theorem mb_nil : MB X Γ W [] mNext := PSs.imp pss_nil fun D σ H ⟨μ, Z, ρ, s, hE, hR, q⟩ => q σ H μ .refl hR hE
theorem goS {H : Hp} {μ : Mu} {Z : Zs} {σ : L2.St} {ρ : Env} {s : Sto} {D : Ends} (hE : RE Γ H μ Z ρ σ) (hR : Rep Γ H μ Z s) (q : PostS Γ W H μ Z D (c ρ s)) : rdS Γ W c D σ H := ⟨μ, Z, ρ, s, hE, hR, q⟩
/-- a statement, then what goes on -/
theorem sS {H : Hp} {μ : Mu} {Z : Zs} {σ : L2.St} {ρ : Env} {s : Sto} {D : Ends} {nx : L2.St → Hp → Prop} (hE : RE Γ H μ Z ρ σ) (hR : Rep Γ H μ Z s) (h : PostS Γ W H μ Z D (mSeq c c' ρ s))
    (hk : ∀ ρ1 s1 σ1 H1 μ1, Evo H μ H1 μ1 → RE Γ H1 μ1 Z ρ1 σ1 → Rep Γ H1 μ1 Z s1 → PostS Γ W H1 μ1 Z D (c' ρ1 s1) → nx σ1 H1) : rdS Γ W c { D with nx := nx } σ H := by
  refine ⟨μ, Z, ρ, s, hE, hR, ?_⟩
  unfold mSeq at h
  cases q : c ρ s with
  | nx ρ1 s1 =>
    rw [q] at h
    exact fun σ1 H1 μ1 ev R1 E1 => hk ρ1 s1 σ1 H1 μ1 ev E1 R1 (PostS.evo ev h)
  | bk ρ1 s1 => rw [q] at h; exact h
  | ct ρ1 s1 => rw [q] at h; exact h
  | rt w s1 => rw [q] at h; exact h
  | er x ρ1 s1 => rw [q] at h; exact h
  | no => rw [q] at h; exact h
theorem mb_cons (h1 : MS X Γ W st c) (h2 : MB X Γ W rest c') : MB X Γ W (st :: rest) (mSeq c c') :=
  PSs.imp (pss_cons h1 h2) fun D σ H ⟨μ, Z, ρ, s, hE, hR, q⟩ => sS hE hR q fun ρ1 s1 σ1 H1 μ1 _ E1 R1 q1 => goS E1 R1 q1
theorem mb_one (h1 : MS X Γ W st c) : MB X Γ W [st] c := pss_one h1
def mExpr (f : FE) : FS := fun ρ s => (f ρ s).thenC ρ fun _ s1 => .nx ρ s1
theorem ms_expr (he : ME X Γ W e f) (hs : swapsWith e none pos.line X.env = pure false := by rfl) : MS X Γ W (.Expr e pos) (mExpr f) :=
  PS.imp (ps_expr he hs) fun D σ H ⟨μ, Z, ρ, s, hE, hR, q⟩ => eS hE hR q fun x s1 v H1 μ1 _ E1 R1 _ q1 => q1 σ H1 μ1 .refl R1 E1
def mRet (f : FE) : FS := fun ρ s => (f ρ s).thenC ρ fun w s1 => .rt w s1
theorem ms_ret (he : ME X Γ W e f) : MS X Γ W (.Return (some e) pos) (mRet f) :=
  PS.imp (ps_ret he) fun D σ H ⟨μ, Z, ρ, s, hE, hR, q⟩ => eS hE hR q fun x s1 v H1 μ1 _ E1 R1 r1 q1 => q1 v H1 μ1 .refl R1 r1
def mIfS (t : FT) (c c' : FS) : FS := fun ρ s => (t ρ s).thenC ρ fun b s1 => if b = true then c ρ s1 else c' ρ s1
theorem ms_if {cond : Expr} {a b : List Stmt} (hc : MT X Γ W cond t) (ha : MB X Γ W a c) (hb : MB X Γ W b c') : MS X Γ W (.If cond a b pos) (mIfS t c c') :=
  PS.imp (ps_if hc ha hb) fun D σ H ⟨μ, Z, ρ, s, hE, hR, q⟩ => tS hE hR q fun b s1 H1 μ1 _ E1 R1 q1 => by
    cases b with
    | true => rw [if_pos rfl] at q1 ⊢; exact goS E1 R1 q1
    | false => rw [if_neg Bool.false_ne_true] at q1 ⊢; exact goS E1 R1 q1
abbrev FG := Dv → Env → Sto → Option Env
/-- a target: what it does to the names -/
def GOk (Γ : Ct) (g : TG) (fg : FG) : Prop := ∀ (H : Hp) (μ : Mu) (Z : Zs) (ρ ρ' : Env) (s : Sto) (σ : L2.St) (w : Dv) (v : V) (Q : L2.St → Hp → Prop), RE Γ H μ Z ρ σ → Rep Γ H μ Z s → RV Γ H μ Z w v → fg w ρ s = some ρ' →
  (∀ σ', RE Γ H μ Z ρ' σ' → Q σ' H) → g v σ H Q
def GsOk (Γ : Ct) (g : TGs) (fg : List Dv → Env → Sto → Option Env) : Prop := ∀ (H : Hp) (μ : Mu) (Z : Zs) (ρ ρ' : Env) (s : Sto) (σ : L2.St) (ws : List Dv) (vs : List V) (Q : L2.St → Hp → Prop), RE Γ H μ Z ρ σ → Rep Γ H μ Z s → RVs Γ H μ Z ws vs → fg ws ρ s = some ρ' →
  (∀ σ', RE Γ H μ Z ρ' σ' → Q σ' H) → g vs σ H Q
def MG (X : Cx) (Γ : Ct) (tg : Expr) (g : TG) (fg : FG) : Prop := PG X tg g ∧ GOk Γ g fg
def MGs (X : Cx) (Γ : Ct) (tg : List Expr) (g : TGs) (fg : List Dv → Env → Sto → Option Env) : Prop := PGs X tg g ∧ GsOk Γ g fg
def gN (i : Nat) : FG := fun w ρ _ => some (ρ.set i (some w))
theorem mg_name {tg : Expr} {i : Nat} (h : PG X tg (gName i)) : MG X Γ tg (gName i) (gN i) := ⟨h, fun H μ Z ρ ρ' s σ w v Q hE hR r e k => by
  cases e
  exact k _ (hE.set i r)⟩
def gs0 : List Dv → Env → Sto → Option Env := fun ws ρ _ => match ws with
  | [] => some ρ
  | _ => none
def gsC (g : FG) (gs : List Dv → Env → Sto → Option Env) : List Dv → Env → Sto → Option Env := fun ws ρ s => match ws with
  | w :: r => (g w ρ s).bind fun ρ1 => gs r ρ1 s
  | [] => none
theorem mgs_nil : MGs X Γ [] gNil gs0 := ⟨pgs_nil, fun H μ Z ρ ρ' s σ ws vs Q hE hR r e k => by
  cases ws with
  | nil => cases e; exact ⟨r, k σ hE⟩
  | cons _ _ => cases e⟩
theorem mgs_cons {tg : Expr} {tgs : List Expr} {g : TG} {gs : TGs} {fg : FG} {fgs : List Dv → Env → Sto → Option Env} (h1 : MG X Γ tg g fg) (h2 : MGs X Γ tgs gs fgs) (h : PGs X (tg :: tgs) (gCons g gs)) : MGs X Γ (tg :: tgs) (gCons g gs) (gsC fg fgs) := ⟨h, fun H μ Z ρ ρ' s σ ws vs Q hE hR r e k => by
  cases ws with
  | nil => cases e
  | cons w ws =>
    obtain ⟨x, xs, rfl, r1, r2⟩ := r
    simp only [gsC] at e
    cases q : fg w ρ s with
    | none => rw [q] at e; cases e
    | some ρ1 =>
      rw [q] at e
      exact ⟨x, xs, rfl, h1.2 H μ Z ρ ρ1 s σ w x _ hE hR r1 q fun σ1 E1 => h2.2 H μ Z ρ1 ρ' s σ1 ws xs Q E1 hR r2 e k⟩⟩
def gT (n : Nat) (gs : List Dv → Env → Sto → Option Env) : FG := fun w ρ s => match tupOf w with
  | some ws => if ws.length = n then gs ws ρ s else none
  | none => none
theorem mg_tup {tg : Expr} {K : PySem.W.Frag} {n : Nat} {gs : TGs} {fgs : List Dv → Env → Sto → Option Env} (hK : K = Γ.K) (h : PG X tg (gTup K n gs)) (h2 : GsOk Γ gs fgs) : MG X Γ tg (gTup K n gs) (gT n fgs) := ⟨h, fun H μ Z ρ ρ' s σ w v Q hE hR r e k => by
  subst hK
  unfold gT at e
  split at e
  · rename_i ws q
    split at e
    · rename_i hl
      cases w with
      | tup us =>
        cases q
        obtain ⟨a, xs, h1, h3, h4⟩ := r
        exact ⟨a, xs, h1, h3.sq, by rw [h4.len]; exact hl, h2 H μ Z ρ ρ' s σ _ xs Q hE hR h4 e k⟩
      | _ => cases q
    · cases e
  · cases e⟩
/-- g = e -/
def mAsg (f : FE) (g : FG) : FS := fun ρ s => (f ρ s).thenC ρ fun w s1 => match g w ρ s1 with
  | some ρ' => .nx ρ' s1
  | none => .no
theorem asg_ok {g : TG} {fg : FG} {D : Ends} {σ : L2.St} {H : Hp} (hg : GOk Γ g fg) (h : rdS Γ W (mAsg f fg) D σ H) : tAsg (rdE Γ W f) g D σ H := by
  obtain ⟨μ, Z, ρ, s, hE, hR, q⟩ := h
  exact eS hE hR q fun w s1 v H1 μ1 _ E1 R1 r1 q1 => by
    split at q1
    · rename_i ρ' e
      exact hg H1 μ1 Z ρ ρ' s1 σ w v _ E1 R1 r1 e fun σ' E' => q1 σ' H1 μ1 .refl R1 E'
    · exact q1.elim
theorem ms_asg {g : TG} {fg : FG} (h : PS X st (tAsg (rdE Γ W f) g)) (hg : GOk Γ g fg) : MS X Γ W st (mAsg f fg) := PS.imp h fun D σ H => asg_ok hg
/-- the walk J yields these items -/
def Walks (Γ : Ct) (Z : Zs) (H : Hp) (μ : Mu) (ow : Option (Nat × List Dv)) (J : It) (ws : List Dv) : Prop := ∀ (H' : Hp) (μ' : Mu) (Z' : Zs) (s' : Sto), EvoZ Z H μ H' μ' → Rep Γ H' μ' Z' s' → (∀ a, Z a → Z' a) → (∀ a, Z' a → Z a ∨ H a = none) → (∀ n us, ow = some (n, us) → s'[n]? = some (.lst us)) →
  J.stop ws.length H' ∧ ∀ i w, ws[i]? = some w → J.go i H' ∧ ∀ x H'', J.yld i H' x H'' → Evo H' μ' H'' μ' ∧ Rep Γ H'' μ' Z' s' ∧ RV Γ H'' μ' Z' w x
structure Src where
  ws : List Dv
  ow : Option (Nat × List Dv) := none
abbrev FI := Env → Sto → R Src
def PostI (Γ : Ct) (W : WX) (H : Hp) (μ : Mu) (Z : Zs) (σ : L2.St) (Q : It → Hp → Prop) : R Src → Prop
  | .ok r s' => ∀ J H' μ', Evo H μ H' μ' → Rep Γ H' μ' Z s' → Walks Γ Z H' μ' r.ow J r.ws → Q J H'
  | .er x s' => ∀ cls d H' μ', Evo H μ H' μ' → Rep Γ H' μ' Z s' → RX Γ H' μ' Z x cls d → W cls d σ H'
  | .no => False
def rdI (Γ : Ct) (W : WX) (f : FI) : TI := fun σ H Q => ∃ μ Z ρ s, RE Γ H μ Z ρ σ ∧ Rep Γ H μ Z s ∧ PostI Γ W H μ Z σ Q (f ρ s)
def MI (X : Cx) (Γ : Ct) (W : WX) (tg iter : Expr) (f : FI) : Prop := PI X tg iter (rdI Γ W f)
theorem PI.imp {tg iter : Expr} {t t' : TI} (h : PI X tg iter t) (k : ∀ σ H Q, t' σ H Q → t σ H Q) : PI X tg iter t' := ⟨fun pins s σ H Q I q => h.run pins s σ H Q I (k σ H Q q)⟩
theorem PI.or {tg iter : Expr} {t t' : TI} (h : PI X tg iter t) (h' : PI X tg iter t') : PI X tg iter (fun σ H Q => t σ H Q ∨ t' σ H Q) := ⟨fun pins s σ H Q I q => q.elim (h.run pins s σ H Q I) (h'.run pins s σ H Q I)⟩
def srcOf (s : Sto) : Dv → Option Src
  | .tup ws => some { ws := ws }
  | .lst ws => some { ws := ws }
  | .sq ws => some { ws := ws }
  | .ref n => match s[n]? with
    | some (.lst ws) => some { ws := ws, ow := some (n, ws) }
    | _ => none
  | _ => none
def iSeq (f : FE) : FI := fun ρ s => (f ρ s).bind fun w s1 => R.of (srcOf s1 w) s1
mutual
theorem RV.strong {H : Hp} {μ : Mu} {Z Z' : Zs} (h : ∀ a, Z' a → Z a ∨ H a = none) : ∀ (w : Dv) {v : V}, RV Γ H μ Z w v → RV Γ H μ Z' w v
  | .non, _, q => q
  | .bl _, _, q => q
  | .int _, _, q => q
  | .str _, _, q => q
  | .ty _, _, q => q
  | .cl _, _, q => q
  | .ref n, _, q => q
  | .tup ws, _, q => by
    obtain ⟨a, xs, h1, h2, h3⟩ := q
    refine ⟨a, xs, h1, ?_, RVs.strong h ws h3⟩
    rcases h2 with ⟨h2, f⟩ | h2
    · exact .inl ⟨h2, f.1, fun z => (h a z).elim f.2 (Rd.alive h2)⟩
    · exact .inr h2
  | .sq ws, _, q => by
    obtain ⟨a, xs, h1, h2, h3⟩ := q
    refine ⟨a, xs, h1, ?_, RVs.strong h ws h3⟩
    rcases h2 with ⟨h2, f⟩ | h2
    · exact .inl ⟨h2, f.1, fun z => (h a z).elim f.2 (Rd.alive h2)⟩
    · exact .inr h2
  | .lst ws, _, q => by
    obtain ⟨a, xs, h1, h2, h3, h4⟩ := q
    exact ⟨a, xs, h1, h2, ⟨h3.1, fun z => (h a z).elim h3.2 (by rw [h2]; intro y; cases y)⟩, RVs.strong h ws h4⟩
  | .dct ks ws, _, q => by
    obtain ⟨a, kvs, h1, h2, h3, h4, h5⟩ := q
    exact ⟨a, kvs, h1, h2, ⟨h3.1, fun z => (h a z).elim h3.2 (by rw [h2]; intro y; cases y)⟩, h4, RVs.strong h ws h5⟩
  | .dtt kd ws, _, q => by
    obtain ⟨a, kvs, h1, h2, h3, h4, h5, h6⟩ := q
    exact ⟨a, kvs, h1, h2, ⟨h3.1, fun z => (h a z).elim h3.2 h2.some⟩, h4, RVs.strong h kd h5, RVs.strong h ws h6⟩
  | .exc c f w, _, q => by
    obtain ⟨a, dx, x, h1, h2, h3, h4, h5, h6⟩ := q
    exact ⟨a, dx, x, h1, h2, ⟨h3.1, fun z => (h a z).elim h3.2 (by rw [h2]; intro y; cases y)⟩, h4, ⟨h5.1, fun z => (h dx z).elim h5.2 (by rw [h4]; intro y; cases y)⟩, RV.strong h w h6⟩
  | .exn c, _, q => by
    obtain ⟨a, h1, h2, h3⟩ := q
    exact ⟨a, h1, h2, ⟨h3.1, fun z => (h a z).elim h3.2 (by rw [h2]; intro y; cases y)⟩⟩
  | .clo a c _ ws vs, _, q => by
    obtain ⟨h1, h2, h3, h4⟩ := q
    exact ⟨h1, h2, ⟨h3.1, fun z => (h c z).elim h3.2 (by rw [h2]; intro y; cases y)⟩, RVs.strong h ws h4⟩
theorem RVs.strong {H : Hp} {μ : Mu} {Z Z' : Zs} (h : ∀ a, Z' a → Z a ∨ H a = none) : ∀ (ws : List Dv) {vs : List V}, RVs Γ H μ Z ws vs → RVs Γ H μ Z' ws vs
  | [], _, q => q
  | w :: ws, _, q => by
    obtain ⟨x, xs, h1, h2, h3⟩ := q
    exact ⟨x, xs, h1, RV.strong h w h2, RVs.strong h ws h3⟩
end
/-- a list, a tuple: walked -/
theorem walk_l {H : Hp} {μ : Mu} {Z : Zs} {a : Addr} {xs : List V} {ws : List Dv} (h : ∀ H' μ', EvoZ Z H μ H' μ' → SqL Γ.K H' a xs) (r : RVs Γ H μ Z ws xs) : Walks Γ Z H μ none (Itl Γ.K a) ws := fun H' μ' Z' s' ev hR hy hz _ => by
  have q := h H' μ' ev
  refine ⟨⟨xs, q, by rw [r.len]; exact Nat.le_refl _⟩, fun i w e => ?_⟩
  obtain ⟨x, e1, e2⟩ := r.get e
  refine ⟨⟨xs, x, q, e1⟩, fun y H'' hq => ?_⟩
  obtain ⟨rfl, hq⟩ := hq
  have e3 := hq xs q
  rw [e1] at e3
  cases e3
  exact ⟨.refl, hR, (RV.strong hz w e2).monoZ (ev.more hy)⟩
theorem walk_t {H : Hp} {μ : Mu} {Z : Zs} {a : Addr} {xs : List V} {ws : List Dv} (h : ∀ H' μ', EvoZ Z H μ H' μ' → SqT Γ.K H' a xs) (r : RVs Γ H μ Z ws xs) : Walks Γ Z H μ none (Itt Γ.K a) ws := fun H' μ' Z' s' ev hR hy hz _ => by
  have q := h H' μ' ev
  refine ⟨⟨xs, q, by rw [r.len]; exact Nat.le_refl _⟩, fun i w e => ?_⟩
  obtain ⟨x, e1, e2⟩ := r.get e
  refine ⟨⟨xs, x, q, e1⟩, fun y H'' hq => ?_⟩
  obtain ⟨rfl, hq⟩ := hq
  have e3 := hq xs q
  rw [e1] at e3
  cases e3
  exact ⟨.refl, hR, (RV.strong hz w e2).monoZ (ev.more hy)⟩
/-- a list of the store: walked while it stands -/
theorem walk_m {H : Hp} {μ : Mu} {Z : Zs} {a : Addr} {n : Nat} {xs : List V} {ws : List Dv} (hn : μ n = some a) (hH : H a = some (.lst xs)) (r : RVs Γ H μ Z ws xs) : Walks Γ Z H μ (some (n, ws)) (Itl Γ.K a) ws := fun H' μ' Z' s' ev hR hy hz ho => by
  obtain ⟨b, h1, _, ys, h3, h4⟩ := hR.at n _ (ho n ws rfl)
  rw [ev.mu n a hn] at h1
  cases h1
  have q : SqL Γ.K H' a ys := SqL.of h3
  refine ⟨⟨ys, q, by rw [h4.len]; exact Nat.le_refl _⟩, fun i w e => ?_⟩
  obtain ⟨x, e1, e2⟩ := h4.get e
  refine ⟨⟨ys, x, q, e1⟩, fun y H'' hq => ?_⟩
  obtain ⟨rfl, hq⟩ := hq
  have e3 := hq ys q
  rw [e1] at e3
  cases e3
  exact ⟨.refl, hR, e2⟩
theorem iA {H : Hp} {μ : Mu} {Z : Zs} {σ : L2.St} {ρ : Env} {s : Sto} {f : FA} {k : List Dv → Sto → R Src} {Q : It → Hp → Prop} {Q' : List V → Hp → Prop} (hE : RE Γ H μ Z ρ σ) (hR : Rep Γ H μ Z s) (h : PostI Γ W H μ Z σ Q ((f ρ s).bind k))
    (hk : ∀ x s1 v H1 μ1, Evo H μ H1 μ1 → RE Γ H1 μ1 Z ρ σ → Rep Γ H1 μ1 Z s1 → RVs Γ H1 μ1 Z x v → PostI Γ W H1 μ1 Z σ Q (k x s1) → Q' v H1) : rdA Γ W f σ H Q' := by
  refine ⟨μ, Z, ρ, s, hE, hR, ?_⟩
  cases e : f ρ s with
  | ok x s1 =>
    rw [e] at h
    refine fun v H1 μ1 ev R1 r1 => hk x s1 v H1 μ1 ev (hE.mono ev) R1 r1 ?_
    have h' : PostI Γ W H μ Z σ Q (k x s1) := h
    cases q : k x s1 with
    | ok r s' => rw [q] at h'; exact fun J H' μ' e' => h' J H' μ' (ev.trans e')
    | er y s' => rw [q] at h'; exact fun c d H' μ' e' => h' c d H' μ' (ev.trans e')
    | no => rw [q] at h'; exact h'.elim
  | er x s1 => rw [e] at h; exact h
  | no => rw [e] at h; exact h.elim
theorem mi_seq {tg l : Expr} {f : FE} (hK : Γ.K = X.K) (hl : ME X Γ W l f) : MI X Γ W tg l (iSeq f) :=
  PI.imp (PI.or (pi_list hl) (pi_tup hl)) fun σ H Q ⟨μ, Z, ρ, s, hE, hR, q⟩ => by
    rw [← hK]
    unfold iSeq at q
    cases e : f ρ s with
    | no => rw [e] at q; exact q.elim
    | er x s1 => rw [e] at q; exact .inl ⟨μ, Z, ρ, s, hE, hR, by rw [e]; exact q⟩
    | ok x s1 =>
      rw [e] at q
      have q' : PostI Γ W H μ Z σ Q (R.of (srcOf s1 x) s1) := q
      cases x with
      | tup ws =>
        refine .inr ⟨μ, Z, ρ, s, hE, hR, ?_⟩
        rw [e]
        rintro v H1 μ1 e1 R1 ⟨a, xs, h1, h2, h3⟩
        exact ⟨a, h1, ⟨xs, h2.sq⟩, q' _ _ _ e1 R1 (walk_t (fun H' μ' ev => (h2.monoZ ev).sq) h3)⟩
      | sq ws =>
        refine .inl ⟨μ, Z, ρ, s, hE, hR, ?_⟩
        rw [e]
        rintro v H1 μ1 e1 R1 ⟨a, xs, h1, h2, h3⟩
        exact ⟨a, h1, ⟨xs, h2.sq⟩, q' _ _ _ e1 R1 (walk_l (fun H' μ' ev => (h2.monoZ ev).sq) h3)⟩
      | lst ws =>
        refine .inl ⟨μ, Z, ρ, s, hE, hR, ?_⟩
        rw [e]
        rintro v H1 μ1 e1 R1 ⟨a, xs, h1, h2, h3, h4⟩
        exact ⟨a, h1, ⟨xs, SqL.of h2⟩, q' _ _ _ e1 R1 (walk_l (fun H' μ' ev => SqL.of (ev.keep _ _ h2 h3.1 h3.2)) h4)⟩
      | ref n =>
        simp only [srcOf] at q'
        split at q'
        · rename_i us e2
          refine .inl ⟨μ, Z, ρ, s, hE, hR, ?_⟩
          rw [e]
          rintro v H1 μ1 e1 R1 ⟨a, h1, h2⟩
          obtain ⟨b, g1, _, xs, g3, g4⟩ := R1.at n _ e2
          rw [h2] at g1
          cases g1
          exact ⟨a, h1, ⟨xs, SqL.of g3⟩, q' _ _ _ e1 R1 (walk_m h2 g3 g4)⟩
        · exact q'.elim
      | _ => exact q'.elim
/-- range(n), range(a, b) -/
def rng (lo : Int) (n : Nat) : List Dv := (List.range n).map fun (i : Nat) => .int (lo + i)
theorem rng_get {lo : Int} {n i : Nat} {w : Dv} (h : (rng lo n)[i]? = some w) : i < n ∧ w = .int (lo + i) := by
  unfold rng at h
  rw [List.getElem?_map] at h
  cases e : (List.range n)[i]? with
  | none => rw [e] at h; cases h
  | some j =>
    rw [e] at h
    cases h
    obtain ⟨h1, h2⟩ := List.getElem?_eq_some_iff.mp e
    rw [List.length_range] at h1
    rw [List.getElem_range] at h2
    exact ⟨h1, by rw [h2]⟩
theorem rng_len (lo : Int) (n : Nat) : (rng lo n).length = n := by unfold rng; rw [List.length_map, List.length_range]
theorem walk_r {H : Hp} {μ : Mu} {Z : Zs} {lo : Int} {n : Nat} : Walks Γ Z H μ none (Itr lo n) (rng lo n) := fun H' μ' Z' s' ev hR hy hz _ => by
  refine ⟨by rw [rng_len]; exact Nat.le_refl n, fun i w e => ?_⟩
  obtain ⟨h1, rfl⟩ := rng_get e
  refine ⟨h1, fun x H'' hq => ?_⟩
  obtain ⟨rfl, rfl⟩ := hq
  exact ⟨.refl, hR, rfl⟩
def okR (i : Int) : Bool := decide (-(2 ^ 62) ≤ i ∧ i < 2 ^ 62)
def iRange1 (fa : FA) : FI := fun ρ s => (fa ρ s).bind fun ws s1 => match ws with
  | [.int j] => if okR j = true then .ok { ws := rng 0 j.toNat } s1 else .no
  | _ => .no
theorem mi_range1 {tg a : Expr} {fa : FA} {p pos : Pos} (hg : Gl X "range") (hm : X.mg "range" = none) (ha : MA X Γ W [a] fa) (hs : starEach [a] X.env = [(false, eval a X.env)] := by rfl) : MI X Γ W tg (.Call (.Name "range" p) [a] [] pos) (iRange1 fa) :=
  PI.imp (pi_range1 hg hm ha hs) fun σ H Q ⟨μ, Z, ρ, s, hE, hR, q⟩ => iA hE hR q fun ws s1 vs H1 μ1 e1 E1 R1 r1 q1 => by
    split at q1
    · rename_i j
      split at q1
      · rename_i hj
        have hj' : -(2 ^ 62) ≤ j ∧ j < 2 ^ 62 := of_decide_eq_true hj
        obtain ⟨x, xs, rfl, g1, g2⟩ := r1
        rw [show x = .int j from g1, show xs = [] from g2]
        exact ⟨j, rfl, hj'.1, hj'.2, q1 _ _ _ .refl R1 walk_r⟩
      · exact q1.elim
    · exact q1.elim
/-- whether the list that is walked stands as it did -/
def still (s : Sto) (r : Option (Nat × List Dv)) : Prop := ∀ n us, r = some (n, us) → s[n]? = some (.lst us)
open Classical in
noncomputable def stB (s : Sto) (r : Option (Nat × List Dv)) : Bool := decide (still s r)
noncomputable def forL (ow : Option (Nat × List Dv)) (g : FG) (body : FS) : List Dv → FS
  | [], ρ, s => if ow.isNone = true ∨ stB s ow = true then .nx ρ s else .no
  | w :: ws, ρ, s => if ow.isNone = true ∨ stB s ow = true then match g w ρ s with
    | none => .no
    | some ρ1 => match body ρ1 s with
      | .nx ρ2 s2 => forL ow g body ws ρ2 s2
      | .ct ρ2 s2 => forL ow g body ws ρ2 s2
      | .bk ρ2 s2 => .nx ρ2 s2
      | .rt v s2 => .rt v s2
      | .er x ρ2 s2 => .er x ρ2 s2
      | .no => .no
    else .no
noncomputable def mFor (f : FI) (g : FG) (body : FS) : FS := fun ρ s => (f ρ s).thenC ρ fun r s1 => forL r.ow g body r.ws ρ s1
open Classical in
theorem st_of {s : Sto} {ow : Option (Nat × List Dv)} (h : ow.isNone = true ∨ stB s ow = true) : still s ow := by
  rcases h with h | h
  · intro n us e
    rw [e] at h
    cases h
  · unfold stB at h
    exact of_decide_eq_true h
theorem iS {H : Hp} {μ : Mu} {Z : Zs} {σ : L2.St} {ρ : Env} {s : Sto} {f : FI} {k : Src → Sto → C} {D : Ends} {Q' : It → Hp → Prop} (hE : RE Γ H μ Z ρ σ) (hR : Rep Γ H μ Z s) (h : PostS Γ W H μ Z D ((f ρ s).thenC ρ k))
    (hk : ∀ r s1 J H1 μ1, Evo H μ H1 μ1 → RE Γ H1 μ1 Z ρ σ → Rep Γ H1 μ1 Z s1 → Walks Γ Z H1 μ1 r.ow J r.ws → PostS Γ W H1 μ1 Z D (k r s1) → Q' J H1) : rdI Γ W f σ H Q' := by
  refine ⟨μ, Z, ρ, s, hE, hR, ?_⟩
  cases e : f ρ s with
  | ok r s1 => rw [e] at h; exact fun J H1 μ1 ev R1 w => hk r s1 J H1 μ1 ev (hE.mono ev) R1 w (PostS.evo ev h)
  | er x s1 => rw [e] at h; exact fun c d H' μ' ev R' rx => h c d σ H' μ' ev R' (hE.mono ev) rx
  | no => rw [e] at h; exact h.elim
theorem for_ok {H : Hp} {μ : Mu} {Z : Zs} {σ : L2.St} {ρ : Env} {s : Sto} {D : Ends} {g : TG} {fg : FG} {body : FS} {ow : Option (Nat × List Dv)} {ws : List Dv} {J : It} (hg : GOk Γ g fg) (hE : RE Γ H μ Z ρ σ) (hR : Rep Γ H μ Z s) (hw : Walks Γ Z H μ ow J ws)
    (q : PostS Γ W H μ Z D (forL ow fg body ws ρ s)) :
    ∃ Wn : Nat → Nat → L2.St → Hp → Prop, (∃ m, Wn 0 m σ H) ∧ ∀ i m σ H, Wn i m σ H → (J.stop i H ∧ D.nx σ H) ∨ (J.go i H ∧ ∃ N : L2.St → Hp → Prop, (∀ σ' H', N σ' H' → ∃ m', m' < m ∧ Wn (i + 1) m' σ' H') ∧
      ∀ x H', J.yld i H x H' → g x σ H' fun σ2 H2 => rdS Γ W body { D with nx := N, ct := N, bk := D.nx } σ2 H2) := by
  let P : Nat → L2.St → Hp → Prop := fun i σ1 H1 => ∃ μ1 ρ1 s1, Evo H μ H1 μ1 ∧ RE Γ H1 μ1 Z ρ1 σ1 ∧ Rep Γ H1 μ1 Z s1 ∧ PostS Γ W H1 μ1 Z D (forL ow fg body (ws.drop i) ρ1 s1)
  refine ⟨fun i m σ1 H1 => m = ws.length - i ∧ i ≤ ws.length ∧ P i σ1 H1, ⟨ws.length, by omega, Nat.zero_le _, μ, ρ, s, .refl, hE, hR, q⟩, ?_⟩
  rintro i m σ1 H1 ⟨rfl, hi, μ1, ρ1, s1, ev, E1, R1, q1⟩
  by_cases hl : i < ws.length
  · have hd : ws.drop i = ws[i] :: ws.drop (i + 1) := List.drop_eq_getElem_cons hl
    rw [hd] at q1
    simp only [forL] at q1
    split at q1
    · rename_i hst
      obtain ⟨_, hgo⟩ := hw H1 μ1 Z s1 ev.z R1 (fun _ z => z) (fun a z => .inl z) (st_of hst)
      obtain ⟨h1, h2⟩ := hgo i ws[i] (List.getElem?_eq_getElem hl)
      refine .inr ⟨h1, P (i + 1), fun σ' H' p => ⟨_, by omega, rfl, hl, p⟩, fun x H' hy => ?_⟩
      obtain ⟨e2, R2, r2⟩ := h2 x H' hy
      cases eg : fg ws[i] ρ1 s1 with
      | none => rw [eg] at q1; exact q1.elim
      | some ρ2 =>
        rw [eg] at q1
        dsimp only at q1
        refine hg H' μ1 Z ρ1 ρ2 s1 σ1 ws[i] x _ (E1.mono e2) R2 r2 eg fun σ2 E2 => ⟨μ1, Z, ρ2, s1, E2, R2, ?_⟩
        cases eb : body ρ2 s1 with
        | nx ρ3 s3 => rw [eb] at q1; exact fun σ3 H3 μ3 e3 R3 E3 => ⟨μ3, ρ3, s3, (ev.trans e2).trans e3, E3, R3, PostS.evo (e2.trans e3) q1⟩
        | ct ρ3 s3 => rw [eb] at q1; exact fun σ3 H3 μ3 e3 R3 E3 => ⟨μ3, ρ3, s3, (ev.trans e2).trans e3, E3, R3, PostS.evo (e2.trans e3) q1⟩
        | bk ρ3 s3 => rw [eb] at q1; exact fun σ3 H3 μ3 e3 R3 E3 => q1 σ3 H3 μ3 (e2.trans e3) R3 E3
        | rt v s3 => rw [eb] at q1; exact fun v3 H3 μ3 e3 R3 r3 => q1 v3 H3 μ3 (e2.trans e3) R3 r3
        | er x3 ρ3 s3 => rw [eb] at q1; exact fun c d σ3 H3 μ3 e3 R3 E3 r3 => q1 c d σ3 H3 μ3 (e2.trans e3) R3 E3 r3
        | no => rw [eb] at q1; exact q1.elim
    · exact q1.elim
  · have he : i = ws.length := by omega
    subst he
    rw [List.drop_length] at q1
    simp only [forL] at q1
    split at q1
    · rename_i hst
      obtain ⟨hs, _⟩ := hw H1 μ1 Z s1 ev.z R1 (fun _ z => z) (fun a z => .inl z) (st_of hst)
      exact .inl ⟨hs, q1 σ1 H1 μ1 .refl R1 E1⟩
    · exact q1.elim
theorem ms_for {tg iter : Expr} {bd : List Stmt} {f : FI} {g : TG} {fg : FG} {body : FS} (hp : PassesOwn (model X.prog X.w) X.A X.env X.xe) (hc : X.calm = true) (hi : MI X Γ W tg iter f) (hg : MG X Γ tg g fg) (hb : MB X Γ W bd body)
    (hs : ∀ x, foldedSetIterable iter X.env x = pure x := by intro _; rfl) : MS X Γ W (.For tg iter bd [] pos) (mFor f fg body) :=
  PS.imp (ps_for hp hc hi hg.1 hb hs) fun D σ H ⟨μ, Z, ρ, s, hE, hR, q⟩ => iS hE hR q fun r s1 J H1 μ1 e1 E1 R1 w1 q1 => for_ok hg.2 E1 R1 w1 q1
def whL (t : FT) (body : FS) : Nat → FS
  | 0, _, _ => .no
  | n + 1, ρ, s => (t ρ s).thenC ρ fun b s1 => if b = true then match body ρ s1 with
      | .nx ρ2 s2 => whL t body n ρ2 s2
      | .ct ρ2 s2 => whL t body n ρ2 s2
      | .bk ρ2 s2 => .nx ρ2 s2
      | .rt v s2 => .rt v s2
      | .er x ρ2 s2 => .er x ρ2 s2
      | .no => .no
    else .nx ρ s1
theorem ms_while {cond : Expr} {bd : List Stmt} {body : FS} (n : Nat) (hp : PassesOwn (model X.prog X.w) X.A X.env X.xe) (hc : MT X Γ W cond t) (hb : MB X Γ W bd body) : MS X Γ W (.While cond bd [] pos) (whL t body n) :=
  PS.imp (ps_while hp hc hb) fun D σ H ⟨μ, Z, ρ, s, hE, hR, q⟩ => by
    refine ⟨fun m σ1 H1 => ∃ μ1 ρ1 s1, RE Γ H1 μ1 Z ρ1 σ1 ∧ Rep Γ H1 μ1 Z s1 ∧ PostS Γ W H1 μ1 Z D (whL t body m ρ1 s1), ⟨n, μ, ρ, s, hE, hR, q⟩, ?_⟩
    rintro m σ1 H1 ⟨μ1, ρ1, s1, E1, R1, q1⟩
    cases m with
    | zero => exact q1.elim
    | succ m =>
      refine tS E1 R1 q1 fun b s2 H2 μ2 e2 E2 R2 q2 => ?_
      cases b with
      | false =>
        rw [if_neg Bool.false_ne_true] at q2 ⊢
        exact q2 σ1 H2 μ2 .refl R2 E2
      | true =>
        rw [if_pos rfl] at q2 ⊢
        refine ⟨fun σ3 H3 => ∃ μ1 ρ1 s1, RE Γ H3 μ1 Z ρ1 σ3 ∧ Rep Γ H3 μ1 Z s1 ∧ PostS Γ W H3 μ1 Z D (whL t body m ρ1 s1), fun σ' H' p => ⟨m, Nat.lt_succ_self m, p⟩, μ2, Z, ρ1, s2, E2, R2, ?_⟩
        cases eb : body ρ1 s2 with
        | nx ρ3 s3 => rw [eb] at q2; exact fun σ3 H3 μ3 e3 R3 E3 => ⟨μ3, ρ3, s3, E3, R3, PostS.evo e3 q2⟩
        | ct ρ3 s3 => rw [eb] at q2; exact fun σ3 H3 μ3 e3 R3 E3 => ⟨μ3, ρ3, s3, E3, R3, PostS.evo e3 q2⟩
        | bk ρ3 s3 => rw [eb] at q2; exact fun σ3 H3 μ3 e3 R3 E3 => q2 σ3 H3 μ3 e3 R3 E3
        | rt v s3 => rw [eb] at q2; exact fun v3 H3 μ3 e3 R3 r3 => q2 v3 H3 μ3 e3 R3 r3
        | er x3 ρ3 s3 => rw [eb] at q2; exact fun c d σ3 H3 μ3 e3 R3 E3 r3 => q2 c d σ3 H3 μ3 e3 R3 E3 r3
        | no => rw [eb] at q2; exact q2.elim
end
end MP
set_option Elab.async false
set_option linter.all false
set_option maxRecDepth 100000
set_option maxHeartbeats 4000000
namespace MP
open PySem PySem.Spec PyProof.Rows L2
/-- nothing is raised here -/
abbrev W0 : WX := fun _ _ _ _ => False
section
variable {X : Cx} {Γ : Ct} {W : WX} {H H1 H' : Hp} {μ μ1 μ' : Mu} {Z Z' : Zs} {ρ : Env} {σ : L2.St} {s : Sto} {p : Addr} {o : HO}
abbrev hid (p : Addr) (Z : Zs) : Zs := fun b => b = p ∨ Z b
theorem RO.strong {a : Addr} {ob : Ob} (h : ∀ a, Z' a → Z a ∨ H a = none) (r : RO Γ H μ Z a ob) : RO Γ H μ Z' a ob := by
  cases ob with
  | lst ws =>
    obtain ⟨xs, h4, h5⟩ := r
    exact ⟨xs, h4, RVs.strong h ws h5⟩
  | dct kws =>
    obtain ⟨kvs, h4, h5, h6⟩ := r
    exact ⟨kvs, h4, h5, RVs.strong h _ h6⟩
  | dtt fr kws =>
    obtain ⟨kvs, h4, h5, h6, h7⟩ := r
    exact ⟨kvs, h4, h5, RVs.strong h _ h6, RVs.strong h _ h7⟩
  | obj c fs =>
    obtain ⟨dx, kvs, h4, h5, h6⟩ := r
    exact ⟨dx, kvs, h4, h5, RVs.strong h _ h6⟩
  | tab m q => exact ⟨r.1, tab_imp rfl (fun c e1 e2 => ⟨e1, e2.1, fun z => (h c z).elim e2.2 (by rw [e1]; intro y; cases y)⟩) r.2⟩
theorem RO.weak {a : Addr} {ob : Ob} (h : ∀ a, Z a → Z' a) (r : RO Γ H μ Z' a ob) : RO Γ H μ Z a ob := by
  cases ob with
  | lst ws =>
    obtain ⟨xs, h4, h5⟩ := r
    exact ⟨xs, h4, RVs.weak h ws h5⟩
  | dct kws =>
    obtain ⟨kvs, h4, h5, h6⟩ := r
    exact ⟨kvs, h4, h5, RVs.weak h _ h6⟩
  | dtt fr kws =>
    obtain ⟨kvs, h4, h5, h6, h7⟩ := r
    exact ⟨kvs, h4, h5, RVs.weak h _ h6, RVs.weak h _ h7⟩
  | obj c fs =>
    obtain ⟨dx, kvs, h4, h5, h6⟩ := r
    exact ⟨dx, kvs, h4, h5, RVs.weak h _ h6⟩
  | tab m q => exact ⟨r.1, tab_imp rfl (fun c e1 e2 => ⟨e1, e2.weak h⟩) r.2⟩
theorem Rep.weak (h : ∀ a, Z a → Z' a) (hR : Rep Γ H μ Z' s) : Rep Γ H μ Z s := ⟨fun n ob q => by
  obtain ⟨a, h1, h2, h3⟩ := hR.at n ob q
  exact ⟨a, h1, fun z => h2 (h a z), h3.weak h⟩, hR.inj, hR.dom, fun a z => hR.za a (h a z)⟩
/-- a fresh object, hidden -/
theorem Rep.hide (hR : Rep Γ H μ Z s) (hp : H p = none) : Rep Γ (upd H p o) μ (hid p Z) s := by
  have hz : ∀ a, hid p Z a → Z a ∨ H a = none := fun a z => z.elim (fun e => .inr (e ▸ hp)) .inl
  have ev : Evo H μ (upd H p o) μ := Evo.laid hp
  refine ⟨fun n ob q => ?_, hR.inj, hR.dom, fun a z => ?_⟩
  · obtain ⟨a, h1, h2, h3⟩ := hR.at n ob q
    have hne : a ≠ p := fun e => hR.alive h1 (e ▸ hp)
    exact ⟨a, h1, fun z => z.elim hne h2, (h3.strong hz).mono' ev (upd_ne hne)⟩
  · by_cases e : a = p
    · rw [e, upd_same]; intro y; cases y
    · rw [upd_ne e]
      exact hR.za a (z.resolve_left e)
theorem RE.hide (hE : RE Γ H μ Z ρ σ) (hp : H p = none) : RE Γ (upd H p o) μ (hid p Z) ρ σ := ⟨hE.1, fun i w q => by
  obtain ⟨v, h1, h2⟩ := hE.2 i w q
  exact ⟨v, h1, (RV.strong (fun a z => z.elim (fun e => .inr (e ▸ hp)) .inl) w h2).mono (Evo.laid hp)⟩⟩
theorem Evo.hid (e : Evo H μ H1 μ1) (hp : H p = none) : Evo H μ (upd H1 p o) μ1 where
  keep := fun a ob h hn => by rw [upd_ne (ne_of_none h hp)]; exact e.keep a ob h hn
  mu := e.mu
  new := e.new
  stay := fun n a h q => by
    rw [upd_ne (fun z : a = p => q (by rw [z]; exact hp))]
    exact e.stay n a h q
theorem RO.updZ {a : Addr} {ob : Ob} (hne : a ≠ p) (r : RO Γ H μ (MP.hid p Z) a ob) : RO Γ (upd H p o) μ (MP.hid p Z) a ob := by
  cases ob with
  | lst ws =>
    obtain ⟨xs, h4, h5⟩ := r
    exact ⟨xs, by rw [upd_ne hne]; exact h4, RVs.updZ ws h5⟩
  | dct kws =>
    obtain ⟨kvs, h4, h5, h6⟩ := r
    exact ⟨kvs, by rw [upd_ne hne]; exact h4, h5, RVs.updZ _ h6⟩
  | dtt fr kws =>
    obtain ⟨kvs, h4, h5, h6, h7⟩ := r
    exact ⟨kvs, h4.eq (upd_ne hne), h5, RVs.updZ _ h6, RVs.updZ _ h7⟩
  | obj c fs =>
    obtain ⟨dx, kvs, h4, h5, h6⟩ := r
    exact ⟨dx, kvs, by rw [upd_ne hne]; exact h4, h5, RVs.updZ _ h6⟩
  | tab m q => exact ⟨r.1, tab_imp (upd_ne hne) (fun c e1 e2 => ⟨by rw [upd_ne e2.evoZ]; exact e1, e2⟩) r.2⟩
theorem Rep.updZ (hR : Rep Γ H μ (MP.hid p Z) s) : Rep Γ (upd H p o) μ (MP.hid p Z) s := ⟨fun n ob q => by
  obtain ⟨a, h1, h2, h3⟩ := hR.at n ob q
  exact ⟨a, h1, h2, h3.updZ fun e => h2 (.inl e)⟩, hR.inj, hR.dom, fun a z => by
    by_cases e : a = p
    · rw [e, upd_same]; intro y; cases y
    · rw [upd_ne e]; exact hR.za a z⟩
theorem RE.wipe (hE : RE Γ H μ Z ρ σ) : ∀ vs : List Nat, RE Γ H μ Z (vs.foldr (fun v r => r.set v none) ρ) (L2.wipe σ vs)
  | [] => hE
  | v :: vs => (RE.wipe hE vs).del v
end
def wipeD (ρ : Env) (vs : List Nat) : Env := vs.foldr (fun v r => r.set v none) ρ
noncomputable def compL (ow : Option (Nat × List Dv)) (vs : List Nat) (g : FG) (tt : FT) (elt : FE) (ρ : Env) : List Dv → Sto → Option (List Dv × Sto)
  | [], s => if ow.isNone = true ∨ stB s ow = true then some ([], s) else none
  | w :: ws, s => if ow.isNone = true ∨ stB s ow = true then match g w (wipeD ρ vs) s with
    | none => none
    | some ρ1 => match tt ρ1 s with
      | .ok true s2 => match elt ρ1 s2 with
        | .ok y s3 => (compL ow vs g tt elt ρ ws s3).map fun r => (y :: r.1, r.2)
        | _ => none
      | .ok false s2 => compL ow vs g tt elt ρ ws s2
      | _ => none
    else none
noncomputable def mComp (f : FI) (vs : List Nat) (g : FG) (tt : FT) (elt : FE) : FE := fun ρ s => (f ρ s).bind fun r s1 => match compL r.ow vs g tt elt ρ r.ws s1 with
  | some (ws, s2) => if ws.length ≤ lim then .ok (.lst ws) s2 else .no
  | none => .no
def mYes : FT := fun _ s => .ok true s
/-- a target within the block's own names -/
def GWk (Γ : Ct) (g : TG) (fg : FG) (vs : List Nat) : Prop := ∀ (H : Hp) (μ : Mu) (Z : Zs) (ρ ρ' : Env) (s : Sto) (σ : L2.St) (w : Dv) (v : V) (Q : L2.St → Hp → Prop), RE Γ H μ Z ρ σ → Rep Γ H μ Z s → RV Γ H μ Z w v → fg w ρ s = some ρ' →
  (∀ σ', RE Γ H μ Z ρ' σ' → L2.wipe σ' vs = L2.wipe σ vs → Q σ' H) → g v σ H Q
def GsWk (Γ : Ct) (g : TGs) (fg : List Dv → Env → Sto → Option Env) (vs : List Nat) : Prop := ∀ (H : Hp) (μ : Mu) (Z : Zs) (ρ ρ' : Env) (s : Sto) (σ : L2.St) (ws : List Dv) (xs : List V) (Q : L2.St → Hp → Prop), RE Γ H μ Z ρ σ → Rep Γ H μ Z s → RVs Γ H μ Z ws xs → fg ws ρ s = some ρ' →
  (∀ σ', RE Γ H μ Z ρ' σ' → L2.wipe σ' vs = L2.wipe σ vs → Q σ' H) → g xs σ H Q
theorem wipe_set (σ : L2.St) (i : Nat) (v : Option V) : ∀ vs : List Nat, i ∈ vs → L2.wipe (σ.set i v) vs = L2.wipe σ vs
  | [], h => nomatch h
  | j :: vs, h => by
    show (L2.wipe (σ.set i v) vs).set j none = (L2.wipe σ vs).set j none
    by_cases hm : i ∈ vs
    · rw [wipe_set σ i v vs hm]
    · have e : i = j := (List.mem_cons.mp h).resolve_right hm
      subst e
      have comm : ∀ (us : List Nat), i ∉ us → L2.wipe (σ.set i v) us = (L2.wipe σ us).set i v := fun us => by
        induction us with
        | nil => intro _; rfl
        | cons k us ih =>
          intro hk
          show (L2.wipe (σ.set i v) us).set k none = ((L2.wipe σ us).set k none).set i v
          rw [ih fun z => hk (List.mem_cons_of_mem _ z)]
          exact List.set_comm _ _ fun z => hk (by rw [z]; exact List.mem_cons_self)
      rw [comm vs hm, List.set_set]
theorem wipe_wipe (σ : L2.St) (vs : List Nat) : L2.wipe (L2.wipe σ vs) vs = L2.wipe σ vs := by
  have key : ∀ (us : List Nat), (∀ i ∈ us, i ∈ vs) → L2.wipe (L2.wipe σ us) vs = L2.wipe σ vs := fun us => by
    induction us with
    | nil => intro _; rfl
    | cons j us ih =>
      intro h
      show L2.wipe ((L2.wipe σ us).set j none) vs = _
      rw [wipe_set _ j none vs (h j List.mem_cons_self)]
      exact ih fun i hi => h i (List.mem_cons_of_mem _ hi)
  exact key vs fun _ h => h
section
variable {X : Cx} {Γ : Ct} {W : WX}
theorem gw_name {i : Nat} {vs : List Nat} (h : i ∈ vs) : GWk Γ (gName i) (gN i) vs := fun H μ Z ρ ρ' s σ w v Q hE hR r e k => by
  cases e
  exact k _ (hE.set i r) (wipe_set σ i (some v) vs h)
theorem gws_nil {vs : List Nat} : GsWk Γ gNil gs0 vs := fun H μ Z ρ ρ' s σ ws xs Q hE hR r e k => by
  cases ws with
  | nil => cases e; exact ⟨r, k σ hE rfl⟩
  | cons _ _ => cases e
theorem gws_cons {g : TG} {gs : TGs} {fg : FG} {fgs : List Dv → Env → Sto → Option Env} {vs : List Nat} (h1 : GWk Γ g fg vs) (h2 : GsWk Γ gs fgs vs) : GsWk Γ (gCons g gs) (gsC fg fgs) vs := fun H μ Z ρ ρ' s σ ws xs Q hE hR r e k => by
  cases ws with
  | nil => cases e
  | cons w ws =>
    obtain ⟨x, xs, rfl, r1, r2⟩ := r
    simp only [gsC] at e
    cases q : fg w ρ s with
    | none => rw [q] at e; cases e
    | some ρ1 =>
      rw [q] at e
      exact ⟨x, xs, rfl, h1 H μ Z ρ ρ1 s σ w x _ hE hR r1 q fun σ1 E1 hw => h2 H μ Z ρ1 ρ' s σ1 ws xs Q E1 hR r2 e fun σ' E' hw' => k σ' E' (hw'.trans hw)⟩
theorem gw_tup {K : PySem.W.Frag} {n : Nat} {gs : TGs} {fgs : List Dv → Env → Sto → Option Env} {vs : List Nat} (hK : K = Γ.K) (h2 : GsWk Γ gs fgs vs) : GWk Γ (gTup K n gs) (gT n fgs) vs := fun H μ Z ρ ρ' s σ w v Q hE hR r e k => by
  subst hK
  unfold gT at e
  split at e
  · rename_i ws q
    split at e
    · rename_i hl
      cases w with
      | tup us =>
        cases q
        obtain ⟨a, xs, h1, h3, h4⟩ := r
        exact ⟨a, xs, h1, h3.sq, by rw [h4.len]; exact hl, h2 H μ Z ρ ρ' s σ _ xs Q hE hR h4 e k⟩
      | _ => cases q
    · cases e
  · cases e
theorem iE {H : Hp} {μ : Mu} {Z : Zs} {σ : L2.St} {ρ : Env} {s : Sto} {f : FI} {k : Src → Sto → R Dv} {Q : VK} {Q' : It → Hp → Prop} (hE : RE Γ H μ Z ρ σ) (hR : Rep Γ H μ Z s) (h : PostE Γ W H μ Z σ Q ((f ρ s).bind k))
    (hk : ∀ r s1 J H1 μ1, Evo H μ H1 μ1 → RE Γ H1 μ1 Z ρ σ → Rep Γ H1 μ1 Z s1 → Walks Γ Z H1 μ1 r.ow J r.ws → PostE Γ W H1 μ1 Z σ Q (k r s1) → Q' J H1) : rdI Γ W f σ H Q' := by
  refine ⟨μ, Z, ρ, s, hE, hR, ?_⟩
  cases e : f ρ s with
  | ok r s1 => rw [e] at h; exact fun J H1 μ1 ev R1 w => hk r s1 J H1 μ1 ev (hE.mono ev) R1 w (PostE.evo ev h)
  | er x s1 => rw [e] at h; exact h
  | no => rw [e] at h; exact h.elim
/-- the walk of a comprehension -/
theorem comp_ok {H1 : Hp} {μ1 : Mu} {Z : Zs} {σ : L2.St} {ρ : Env} {s1 s2 : Sto} {g : TG} {fg : FG} {tt : FT} {elt : FE} {vs : List Nat} {ow : Option (Nat × List Dv)} {ws tot : List Dv} {J : It} {Qd : Hp → Prop} {D : Addr} (hg : GWk Γ g fg vs) (hE : RE Γ H1 μ1 Z ρ σ) (hR : Rep Γ H1 μ1 Z s1) (hw : Walks Γ Z H1 μ1 ow J ws) (hD : H1 D = none)
    (q : compL ow vs fg tt elt ρ ws s1 = some (tot, s2)) (hl : tot.length ≤ lim)
    (fin : ∀ H μ acc, Evo H1 μ1 H μ → Rep Γ H μ (hid D Z) s2 → H D = some (.lst acc) → RVs Γ H μ (hid D Z) tot acc → Qd H) :
    ∃ Wn : Nat → Nat → Hp → Prop, (∃ m, Wn 0 m (upd H1 D (.lst []))) ∧ ∀ i m H, Wn i m H → (J.stop i H ∧ Qd H) ∨ (J.go i H ∧ ∃ Nx : Hp → Prop, (∀ H', Nx H' → ∃ m', m' < m ∧ Wn (i + 1) m' H') ∧
      ∀ x H', J.yld i H x H' → g x (L2.wipe σ vs) H' fun σ2 H2 => L2.wipe σ2 vs = L2.wipe σ vs ∧ rdT Γ W0 tt σ2 H2 fun b H3 =>
        if b = true then rdE Γ W0 elt σ2 H3 fun y H4 => ∃ acc, H4 D = some (.lst acc) ∧ acc.length < sizeLine ∧ Nx (upd H4 D (.lst (acc ++ [y]))) else Nx H3) := by
  let P : Nat → Hp → Prop := fun i H => ∃ μ s wa acc r, Evo H1 μ1 H μ ∧ Rep Γ H μ (hid D Z) s ∧ H D = some (.lst acc) ∧ RVs Γ H μ (hid D Z) wa acc ∧ compL ow vs fg tt elt ρ (ws.drop i) s = some (r, s2) ∧ wa ++ r = tot
  refine ⟨fun i m H => m = ws.length - i ∧ i ≤ ws.length ∧ P i H, ⟨ws.length, by omega, Nat.zero_le _, μ1, s1, [], [], tot, Evo.laid hD, hR.hide hD, upd_same, rfl, q, rfl⟩, ?_⟩
  rintro i m H ⟨rfl, hi, μ, s, wa, acc, r, ev, R, hH, ra, qr, ht⟩
  have hz : ∀ a, hid D Z a → Z a ∨ H1 a = none := fun a z => z.elim (fun e => .inr (e ▸ hD)) .inl
  have E : RE Γ H μ (hid D Z) ρ σ := ⟨hE.1, fun j w e => by
    obtain ⟨v, g1, g2⟩ := hE.2 j w e
    exact ⟨v, g1, (RV.strong hz w g2).mono ev⟩⟩
  by_cases hlt : i < ws.length
  · have hd : ws.drop i = ws[i] :: ws.drop (i + 1) := List.drop_eq_getElem_cons hlt
    rw [hd] at qr
    simp only [compL] at qr
    split at qr
    · rename_i hst
      obtain ⟨_, hgo⟩ := hw H μ (hid D Z) s ev.z R (fun a z => .inr z) hz (st_of hst)
      obtain ⟨h1, h2⟩ := hgo i ws[i] (List.getElem?_eq_getElem hlt)
      refine .inr ⟨h1, P (i + 1), fun H' p => ⟨_, by omega, rfl, hlt, p⟩, fun x H' hy => ?_⟩
      obtain ⟨e2, R2, r2⟩ := h2 x H' hy
      cases eg : fg ws[i] (wipeD ρ vs) s with
      | none => rw [eg] at qr; cases qr
      | some ρ2 =>
        rw [eg] at qr
        dsimp only at qr
        refine hg H' μ (hid D Z) (wipeD ρ vs) ρ2 s (L2.wipe σ vs) ws[i] x _ ((E.mono e2).wipe vs) R2 r2 eg fun σ2 E2 hwp => ⟨hwp.trans (wipe_wipe σ vs), μ, hid D Z, ρ2, s, E2, R2, ?_⟩
        cases et : tt ρ2 s with
        | no => rw [et] at qr; cases qr
        | er x3 s3 => rw [et] at qr; cases qr
        | ok b s3 =>
          rw [et] at qr
          intro H3 μ3 e3 R3
          have hH3 : H3 D = some (.lst acc) := e3.keep _ _ (e2.keep _ _ hH fun n hn => R.notZ hn (.inl rfl)) fun n hn => R2.notZ hn (.inl rfl)
          have ra3 : RVs Γ H3 μ3 (hid D Z) wa acc := (ra.mono e2).mono e3
          cases b with
          | false =>
            rw [if_neg Bool.false_ne_true]
            exact ⟨μ3, s3, wa, acc, r, (ev.trans e2).trans e3, R3, hH3, ra3, qr, ht⟩
          | true =>
            rw [if_pos rfl]
            dsimp only at qr
            refine ⟨μ3, hid D Z, ρ2, s3, E2.mono e3, R3, ?_⟩
            cases ee : elt ρ2 s3 with
            | no => rw [ee] at qr; cases qr
            | er x4 s4 => rw [ee] at qr; cases qr
            | ok y s4 =>
              rw [ee] at qr
              dsimp only at qr
              intro v H4 μ4 e4 R4 r4
              cases ec : compL ow vs fg tt elt ρ (ws.drop (i + 1)) s4 with
              | none => rw [ec] at qr; cases qr
              | some rr =>
                rw [ec] at qr
                obtain ⟨r', s''⟩ := rr
                cases qr
                have hH4 : H4 D = some (.lst acc) := e4.keep _ _ hH3 fun n hn => R3.notZ hn (.inl rfl)
                have hlen : acc.length < sizeLine := by
                  have := ra.len
                  rw [← ht, List.length_append] at hl
                  exact lim_lt (by omega)
                refine ⟨acc, hH4, hlen, μ4, s4, wa ++ [y], acc ++ [v], r', (((ev.trans e2).trans e3).trans e4).hid hD, R4.updZ, upd_same, RVs.append (RVs.updZ wa (ra3.mono e4)) (RVs.cons (RV.updZ y r4) rfl), ec, ?_⟩
                rw [← ht]
                simp
    · cases qr
  · have he : i = ws.length := by omega
    subst he
    rw [List.drop_length] at qr
    simp only [compL] at qr
    split at qr
    · rename_i hst
      cases qr
      obtain ⟨hs, _⟩ := hw H μ (hid D Z) _ ev.z R (fun a z => .inr z) hz (st_of hst)
      rw [List.append_nil] at ht
      subst ht
      exact .inl ⟨hs, fin H μ acc ev R hH ra⟩
    · cases qr
theorem PTs.imp {ifs : List Expr} {t t' : TT} (h : PTs X ifs t) (k : ∀ σ H Q, t' σ H Q → t σ H Q) : PTs X ifs t' := ⟨fun pins s σ H Q I q => h.run pins s σ H Q I (k σ H Q q)⟩
def MTs (X : Cx) (Γ : Ct) (ifs : List Expr) (t : FT) : Prop := PTs X ifs (rdT Γ W0 t)
theorem mts_nil : MTs X Γ [] mYes := PTs.imp pts_nil fun σ H Q ⟨μ, Z, ρ, s, hE, hR, q⟩ => q H μ .refl hR
theorem mts_one {c : Expr} {t : FT} (h : MT X Γ W0 c t) : MTs X Γ [c] t := pts_one h
theorem fin_lst {H1 H : Hp} {μ1 μ : Mu} {Z : Zs} {σ : L2.St} {s1 s2 : Sto} {tot : List Dv} {acc : List V} {D : Addr} {Q : VK} (hR1 : Rep Γ H1 μ1 Z s1) (hD : H1 D = none) (ev : Evo H1 μ1 H μ) (R : Rep Γ H μ (hid D Z) s2) (hH : H D = some (.lst acc)) (ra : RVs Γ H μ (hid D Z) tot acc)
    (q : PostE Γ W H1 μ1 Z σ Q (.ok (.lst tot) s2)) : Q (.ref D) H :=
  q _ H μ ev (R.weak fun a z => .inr z) ⟨D, acc, rfl, hH, ⟨fun n hn => R.notZ hn (.inl rfl), fun z => hR1.za D z hD⟩, RVs.weak (fun a z => .inr z) tot ra⟩
theorem me_comp {elt tg iter : Expr} {ifs : List Expr} {scope : Scope} {own : List (Str × Nat)} {pos : Pos} {f : FI} {g : TG} {fg : FG} {tt : FT} {fe : FE} (hc : X.calm = true) (hN : X.N.Nodup) (hi : MI X Γ W tg iter f) (ok : BlkOk X.N X.env.scope scope own)
    (hg : ∀ (s : Shared) (H : Hp) (C : Addr) (cl : List (Str × Addr)) (fp : List Addr), PG (X.blk s H scope (compEnvC scope cl C X.env) fp) tg g) (hw : GWk Γ g fg (own.map (·.2)))
    (ht : ∀ (s : Shared) (H : Hp) (C : Addr) (cl : List (Str × Addr)) (fp : List Addr), MTs (X.blk s H scope (compEnvC scope cl C X.env) fp) Γ ifs tt)
    (he : ∀ (s : Shared) (H : Hp) (C : Addr) (cl : List (Str × Addr)) (fp : List Addr), ME (X.blk s H scope (compEnvC scope cl C X.env) fp) Γ W0 elt fe) (hs : ∀ x, foldedSetIterable iter X.env x = pure x := by intro _; rfl) :
    ME X Γ W (.ListComp elt [⟨tg, iter, ifs, 0⟩] scope pos) (mComp f (own.map (·.2)) fg tt fe) :=
  PE.imp (pe_lc hc hN hi ok hg ht he hs) fun σ H Q ⟨μ, Z, ρ, s, hE, hR, q⟩ => iE hE hR q fun r s1 J H1 μ1 e1 E1 R1 w1 q1 D hD => by
    cases e : compL r.ow (own.map (·.2)) fg tt fe ρ r.ws s1 with
    | none => rw [e] at q1; exact q1.elim
    | some p =>
      obtain ⟨tot, s2⟩ := p
      rw [e] at q1
      dsimp only at q1
      split at q1
      · rename_i hl
        exact comp_ok hw E1 R1 w1 hD e hl fun H2 μ2 acc ev R2 hH ra => fin_lst R1 hD ev R2 hH ra q1
      · exact q1.elim
theorem asg_post {H : Hp} {μ : Mu} {Z : Zs} {σ : L2.St} {ρ : Env} {s : Sto} {f : FE} {i : Nat} {D : Ends} (hE : RE Γ H μ Z ρ σ) (q : PostS Γ W H μ Z D (mAsg f (gN i) ρ s)) : PostE Γ W H μ Z σ (fun x H1 => D.nx (σ.set i (some x)) H1) (f ρ s) := by
  unfold mAsg at q
  cases e : f ρ s with
  | ok w s1 => rw [e] at q; exact fun v H1 μ1 ev R1 r1 => q _ H1 μ1 ev R1 ((hE.mono ev).set i r1)
  | er x s1 => rw [e] at q; exact fun c d H1 μ1 ev R1 r1 => q c d σ H1 μ1 ev R1 (hE.mono ev) r1
  | no => rw [e] at q; exact q
/-- name = [..] on one line -/
theorem ms_setComp {i : Nat} {y : Str} {py : Pos} {elt tg iter : Expr} {ifs : List Expr} {scope : Scope} {own : List (Str × Nat)} {pos spos : Pos} {f : FI} {g : TG} {fg : FG} {tt : FT} {fe : FE} (hc : X.calm = true) (hN : X.N.Nodup) (hy : X.N[i]? = some y) (hyl : X.env.scope.names.lookup y = some .local)
    (hsw : swapsWith (.ListComp elt [⟨tg, iter, ifs, 0⟩] scope pos) (some (.Name y py)) spos.line X.env = pure true) (hi : MI X Γ W tg iter f) (ok : BlkOk X.N X.env.scope scope own)
    (hg : ∀ (s : Shared) (H : Hp) (C : Addr) (cl : List (Str × Addr)) (fp : List Addr), PG (X.blk s H scope (compEnvC scope cl C X.env) fp) tg g) (hw : GWk Γ g fg (own.map (·.2)))
    (ht : ∀ (s : Shared) (H : Hp) (C : Addr) (cl : List (Str × Addr)) (fp : List Addr), MTs (X.blk s H scope (compEnvC scope cl C X.env) fp) Γ ifs tt)
    (he : ∀ (s : Shared) (H : Hp) (C : Addr) (cl : List (Str × Addr)) (fp : List Addr), ME (X.blk s H scope (compEnvC scope cl C X.env) fp) Γ W0 elt fe) (hs : ∀ x, foldedSetIterable iter X.env x = pure x := by intro _; rfl) :
    MS X Γ W (.Assign [.Name y py] (.ListComp elt [⟨tg, iter, ifs, 0⟩] scope pos) spos) (mAsg (mComp f (own.map (·.2)) fg tt fe) (gN i)) :=
  PS.imp (ps_setLc hc hN hy hyl hsw hi ok hg ht he hs) fun D σ H h => by
    obtain ⟨μ, Z, ρ, s, hE, hR, q⟩ := h
    replace q := asg_post hE q
    exact iE hE hR q fun r s1 J H1 μ1 e1 E1 R1 w1 q1 D hD => by
      cases e : compL r.ow (own.map (·.2)) fg tt fe ρ r.ws s1 with
      | none => rw [e] at q1; exact q1.elim
      | some p =>
        obtain ⟨tot, s2⟩ := p
        rw [e] at q1
        dsimp only at q1
        split at q1
        · rename_i hl
          exact comp_ok hw E1 R1 w1 hD e hl fun H2 μ2 acc ev R2 hH ra => fin_lst R1 hD ev R2 hH ra q1
        · exact q1.elim
end
mutual
def clean (n : Nat) : Dv → Bool
  | .ref k => decide (k < n)
  | .tup ws => cleans n ws
  | .lst ws => cleans n ws
  | .sq ws => cleans n ws
  | .dct _ ws => cleans n ws
  | .dtt kd ws => cleans n kd && cleans n ws
  | .exc _ _ w => clean n w
  | .clo _ _ _ ws _ => cleans n ws
  | _ => true
def cleans (n : Nat) : List Dv → Bool
  | [] => true
  | w :: ws => clean n w && cleans n ws
end
def Ob.clean (n : Nat) : Ob → Bool
  | .lst ws => cleans n ws
  | .dct kws => cleans n (kws.map (·.2))
  | .dtt _ kws => cleans n (kws.map (·.1)) && cleans n (kws.map (·.2))
  | .obj _ fs => cleans n (fs.map (·.2))
  | .tab _ _ => true
def mapO {α β : Type} (f : α → Option β) : List α → Option (List β)
  | [] => some []
  | a :: r => match f a, mapO f r with
    | some b, some bs => some (b :: bs)
    | _, _ => none
/-- lists of the callee's own are handed out as they stand -/
def fz : Nat → Sto → Nat → Dv → Option Dv
  | 0, _, n, w => if clean n w = true then some w else none
  | f + 1, s, n, w => if clean n w = true then some w else match w with
    | .tup ws => (mapO (fz f s n) ws).map .tup
    | .lst ws => (mapO (fz f s n) ws).map .lst
    | .ref k => match s[k]? with
      | some (.lst ws) => (mapO (fz f s n) ws).map .lst
      | some (.dtt true kws) => if cleans n (kws.map (·.1)) = true then (mapO (fz f s n) (kws.map (·.2))).map (.dtt (kws.map (·.1))) else none
      | _ => none
    | _ => none
/-- a def's end: what it made and nobody holds is forgotten -/
def finW (n : Nat) (w : Dv) (s : Sto) : R Dv :=
  if s.length ≤ n then .ok w s else if (s.take n).all (Ob.clean n) = true then match fz 4 s n w with
    | some w' => .ok w' (s.take n)
    | none => .ok w s
  else .ok w s
def finX (n : Nat) (x : Ex) (s : Sto) : R Dv :=
  if s.length ≤ n then .er x s else if (s.take n).all (Ob.clean n) = true then match fz 4 s n x.w with
    | some w' => .er { x with w := w' } (s.take n)
    | none => .er x s
  else .er x s
def finC (n : Nat) : C → R Dv
  | .nx _ s => finW n .non s
  | .rt w s => finW n w s
  | .er x _ s => finX n x s
  | _ => .no
def res (n : Nat) (μ : Mu) : Mu := fun m => if m < n then μ m else none
section
variable {Γ : Ct} {H : Hp} {μ : Mu} {Z : Zs} {s : Sto} {n : Nat}
theorem res_some {m : Nat} {a : Addr} (h : res n μ m = some a) : m < n ∧ μ m = some a := by
  unfold res at h
  split at h
  · exact ⟨by assumption, h⟩
  · cases h
theorem res_lt {m : Nat} {a : Addr} (h : m < n) (q : μ m = some a) : res n μ m = some a := by
  unfold res
  rw [if_pos h, q]
theorem Fz.res {a : Addr} (f : Fz μ Z a) : Fz (res n μ) Z a := ⟨fun m h => f.1 m (res_some h).2, f.2⟩
mutual
theorem RV.res : ∀ (w : Dv) {v : V}, clean n w = true → RV Γ H μ Z w v → RV Γ H (MP.res n μ) Z w v
  | .non, _, _, q => q
  | .bl _, _, _, q => q
  | .int _, _, _, q => q
  | .str _, _, _, q => q
  | .ty _, _, _, q => q
  | .cl _, _, _, q => q
  | .ref k, _, c, q => by
    obtain ⟨a, h1, h2⟩ := q
    exact ⟨a, h1, res_lt (of_decide_eq_true c) h2⟩
  | .tup ws, _, c, q => by
    obtain ⟨a, xs, h1, h2, h3⟩ := q
    exact ⟨a, xs, h1, h2.elim (fun z => .inl ⟨z.1, z.2.res⟩) .inr, RVs.res ws c h3⟩
  | .sq ws, _, c, q => by
    obtain ⟨a, xs, h1, h2, h3⟩ := q
    exact ⟨a, xs, h1, h2.elim (fun z => .inl ⟨z.1, z.2.res⟩) .inr, RVs.res ws c h3⟩
  | .lst ws, _, c, q => by
    obtain ⟨a, xs, h1, h2, h3, h4⟩ := q
    exact ⟨a, xs, h1, h2, h3.res, RVs.res ws c h4⟩
  | .dct ks ws, _, c, q => by
    obtain ⟨a, kvs, h1, h2, h3, h4, h5⟩ := q
    exact ⟨a, kvs, h1, h2, h3.res, h4, RVs.res ws c h5⟩
  | .dtt kd ws, _, c, q => by
    obtain ⟨a, kvs, h1, h2, h3, h4, h5, h6⟩ := q
    have c' : cleans n kd = true ∧ cleans n ws = true := Bool.and_eq_true_iff.mp c
    exact ⟨a, kvs, h1, h2, h3.res, h4, RVs.res kd c'.1 h5, RVs.res ws c'.2 h6⟩
  | .exc cc f w, _, c, q => by
    obtain ⟨a, dx, x, h1, h2, h3, h4, h5, h6⟩ := q
    exact ⟨a, dx, x, h1, h2, h3.res, h4, h5.res, RV.res w c h6⟩
  | .exn cc, _, c, q => by
    obtain ⟨a, h1, h2, h3⟩ := q
    exact ⟨a, h1, h2, h3.res⟩
  | .clo a b _ ws vs, _, c, q => by
    obtain ⟨h1, h2, h3, h4⟩ := q
    exact ⟨h1, h2, h3.res, RVs.res ws c h4⟩
theorem RVs.res : ∀ (ws : List Dv) {vs : List V}, cleans n ws = true → RVs Γ H μ Z ws vs → RVs Γ H (MP.res n μ) Z ws vs
  | [], _, _, q => q
  | w :: ws, _, c, q => by
    obtain ⟨x, xs, h1, h2, h3⟩ := q
    have c' : clean n w = true ∧ cleans n ws = true := Bool.and_eq_true_iff.mp c
    exact ⟨x, xs, h1, RV.res w c'.1 h2, RVs.res ws c'.2 h3⟩
end
theorem mapO_ok {f : Dv → Option Dv} (hf : ∀ w w' v, f w = some w' → RV Γ H μ Z w v → RV Γ H (res n μ) Z w' v) : ∀ (ws ws' : List Dv) (vs : List V), mapO f ws = some ws' → RVs Γ H μ Z ws vs → RVs Γ H (res n μ) Z ws' vs
  | [], _, _, e, q => by cases e; exact q
  | w :: ws, _, _, e, q => by
    obtain ⟨x, xs, rfl, h2, h3⟩ := q
    simp only [mapO] at e
    split at e
    · rename_i b bs e1 e2
      cases e
      exact RVs.cons (hf _ _ _ e1 h2) (mapO_ok hf ws bs xs e2 h3)
    · cases e
theorem fz_ok (hR : Rep Γ H μ Z s) : ∀ (f : Nat) (w w' : Dv) (v : V), fz f s n w = some w' → RV Γ H μ Z w v → RV Γ H (res n μ) Z w' v := fun f => by
  induction f with
  | zero =>
    intro w w' v e q
    simp only [fz] at e
    split at e
    · cases e; exact q.res w (by assumption)
    · cases e
  | succ f ih =>
    intro w w' v e q
    simp only [fz] at e
    split at e
    · cases e; exact q.res w (by assumption)
    · rename_i hc
      split at e
      · rename_i ws
        cases em : mapO (fz f s n) ws with
        | none => rw [em] at e; cases e
        | some us =>
          rw [em] at e
          cases e
          obtain ⟨a, xs, h1, h2, h3⟩ := q
          exact ⟨a, xs, h1, h2.elim (fun z => .inl ⟨z.1, z.2.res⟩) .inr, mapO_ok (fun w w' v => ih w w' v) _ _ _ em h3⟩
      · rename_i ws
        cases em : mapO (fz f s n) ws with
        | none => rw [em] at e; cases e
        | some us =>
          rw [em] at e
          cases e
          obtain ⟨a, xs, h1, h2, h3, h4⟩ := q
          exact ⟨a, xs, h1, h2, h3.res, mapO_ok (fun w w' v => ih w w' v) _ _ _ em h4⟩
      · rename_i k
        split at e
        · rename_i ws es
          cases em : mapO (fz f s n) ws with
          | none => rw [em] at e; cases e
          | some us =>
            rw [em] at e
            cases e
            obtain ⟨a, h1, h2⟩ := q
            obtain ⟨b, g1, g2, xs, g3, g4⟩ := hR.at k _ es
            rw [h2] at g1
            cases g1
            refine ⟨a, xs, h1, g3, ⟨fun m hm => ?_, g2⟩, mapO_ok (fun w w' v => ih w w' v) _ _ _ em g4⟩
            obtain ⟨m1, m2⟩ := res_some hm
            have := hR.inj _ _ _ m2 h2
            subst this
            exact hc (decide_eq_true m1)
        · rename_i kws es
          split at e
          · rename_i hck
            cases em : mapO (fz f s n) (kws.map (·.2)) with
            | none => rw [em] at e; cases e
            | some us =>
              rw [em] at e
              cases e
              obtain ⟨a, h1, h2⟩ := q
              obtain ⟨b, g1, g2, kvs, g3, g4, g5, g6⟩ := hR.at k _ es
              rw [h2] at g1
              cases g1
              have r6 := mapO_ok (fun w w' v => ih w w' v) _ _ _ em g6
              refine ⟨a, kvs, h1, g3, ⟨fun m hm => ?_, g2⟩, ⟨g4.1, ?_⟩, RVs.res _ hck g5, r6⟩
              · obtain ⟨m1, m2⟩ := res_some hm
                have := hR.inj _ _ _ m2 h2
                subst this
                exact hc (decide_eq_true m1)
              · have l6 := r6.len
                rw [List.length_map] at l6
                exact l6.symm
          · cases e
        · cases e
      · cases e
theorem RO.res {a : Addr} {ob : Ob} (c : ob.clean n = true) (h : RO Γ H μ Z a ob) : RO Γ H (MP.res n μ) Z a ob := by
  cases ob with
  | lst ws =>
    obtain ⟨xs, h1, h2⟩ := h
    exact ⟨xs, h1, h2.res ws c⟩
  | dct kws =>
    obtain ⟨kvs, h1, h2, h3⟩ := h
    exact ⟨kvs, h1, h2, h3.res _ c⟩
  | dtt fr kws =>
    obtain ⟨kvs, h1, h2, h3, h4⟩ := h
    have c' : cleans n (kws.map (·.1)) = true ∧ cleans n (kws.map (·.2)) = true := Bool.and_eq_true_iff.mp c
    exact ⟨kvs, h1, h2, h3.res _ c'.1, h4.res _ c'.2⟩
  | obj c fs =>
    obtain ⟨dx, kvs, h1, h2, h3⟩ := h
    exact ⟨dx, kvs, h1, h2, h3.res _ c⟩
  | tab m q => exact ⟨h.1, tab_imp rfl (fun c e1 e2 => ⟨e1, e2.res⟩) h.2⟩
theorem Rep.res (hR : Rep Γ H μ Z s) (hn : n ≤ s.length) (c : (s.take n).all (Ob.clean n) = true) : Rep Γ H (MP.res n μ) Z (s.take n) := ⟨fun m ob q => by
  have hm : m < n := by
    have := (List.getElem?_eq_some_iff.mp q).1
    rw [List.length_take] at this
    omega
  have q' : s[m]? = some ob := by rw [List.getElem?_take_of_lt hm] at q; exact q
  obtain ⟨a, h1, h2, h3⟩ := hR.at m ob q'
  exact ⟨a, res_lt hm h1, h2, h3.res (List.all_eq_true.mp c ob (List.mem_of_getElem? q))⟩,
  fun m k a h1 h2 => hR.inj _ _ _ (res_some h1).2 (res_some h2).2, fun m a h => by rw [List.length_take]; have := (res_some h).1; omega, hR.za⟩
theorem Evo.res {H0 : Hp} {μ0 : Mu} (e : Evo H0 μ0 H μ) (hd : ∀ m a, μ0 m = some a → m < n) : Evo H0 μ0 H (MP.res n μ) :=
  ⟨e.keep, fun m a h => res_lt (hd m a h) (e.mu m a h), fun m a h => e.new m a (res_some h).2, e.stay⟩
end
/-- what a def promises -/
def spM (Γ : Ct) (ps : List Str) (den : Fn) : Sp := fun vs H Q E => vs.length = ps.length ∧ ∃ μ Z s ws, Rep Γ H μ Z s ∧ RVs Γ H μ Z ws vs ∧ PostE Γ (fun c d _ H => E c d H) H μ Z [] Q (den ws s)
structure FnG (P : Program) (w : World) (mg : Str → Option Value) (base : Heap) (Γ : Ct) (k : Nat) (f : Addr) (fd : FuncData) (ps : List Str) (den : Fn) : Prop where
  run : ∀ (A : Around) (outer : List PySem.Env) (s : Shared) (H : Hp) (args : Args) (us : List Value) (vs : List V) (Q : VK) (E : XK), Room k A → A.guards = some [] → Env0 P w Γ.K mg base A outer s H → BindsTo s fd args (ps.zip us) → Vals vs us → spM Γ ps den vs H Q E →
    codeAny (model P w) A (.call (.ref f) args) (CR (L2.CX P w) outer P w H s Q E) s
def startD (n : Nat) (ws : List Dv) : Env := ws.map some ++ List.replicate (n - ws.length) none
def denOf (n : Nat) (body : FS) : Fn := fun ws s => finC s.length (body (startD n ws) s)
theorem re_start {Γ : Ct} {H : Hp} {μ : Mu} {Z : Zs} {N : List Str} {ws : List Dv} {vs : List V} (r : RVs Γ H μ Z ws vs) : RE Γ H μ Z (startD N.length ws) (L2.start N vs) := by
  have hl := r.len
  refine ⟨?_, fun i w q => ?_⟩
  · unfold startD L2.start
    rw [List.length_append, List.length_append, List.length_map, List.length_map, List.length_replicate, List.length_replicate, hl]
  · unfold startD at q
    unfold L2.start
    by_cases hi : i < ws.length
    · rw [List.getElem?_append_left (by rw [List.length_map]; exact hi), List.getElem?_map] at q
      rw [List.getElem?_append_left (by rw [List.length_map, hl]; exact hi), List.getElem?_map]
      cases e : ws[i]? with
      | none => rw [e] at q; cases q
      | some u =>
        rw [e] at q
        cases q
        obtain ⟨x, h1, h2⟩ := r.get e
        exact ⟨x, by rw [h1]; rfl, h2⟩
    · rw [List.getElem?_append_right (by rw [List.length_map]; omega), List.getElem?_replicate] at q
      split at q <;> cases q
end MP
set_option Elab.async false
set_option linter.all false
set_option maxRecDepth 100000
set_option maxHeartbeats 4000000
namespace MP
open PySem PySem.Spec PyProof.Rows L2
/-- the end of a body is the end of its def -/
theorem body_end {Γ : Ct} {H : Hp} {μ : Mu} {Z : Zs} {s : Sto} {Q : VK} {E : XK} {c : C} (hR : Rep Γ H μ Z s) (q : PostE Γ (fun c d _ H => E c d H) H μ Z [] Q (finC s.length c)) :
    PostS Γ (fun c d _ H => E c d H) H μ Z { nx := fun _ H' => Q .non H', rt := Q } c := by
  have key : ∀ (w : Dv) (s' : Sto), PostE Γ (fun c d _ H => E c d H) H μ Z [] Q (finW s.length w s') → ∀ v H' μ', Evo H μ H' μ' → Rep Γ H' μ' Z s' → RV Γ H' μ' Z w v → Q v H' := fun w s' q v H' μ' ev R' r' => by
    unfold finW at q
    split at q
    · exact q v H' μ' ev R' r'
    · rename_i hl
      split at q
      · rename_i hc
        split at q
        · rename_i w' e
          exact q v H' _ (ev.res hR.dom) (R'.res (by omega) hc) (fz_ok R' 4 w w' v e r')
        · exact q v H' μ' ev R' r'
      · exact q v H' μ' ev R' r'
  cases c with
  | nx ρ' s' => exact fun σ' H' μ' ev R' _ => key .non s' q .non H' μ' ev R' rfl
  | rt w s' => exact fun v H' μ' ev R' r' => key w s' q v H' μ' ev R' r'
  | bk ρ' s' => exact q.elim
  | ct ρ' s' => exact q.elim
  | no => exact q.elim
  | er x ρ' s' =>
    intro c d σ' H' μ' ev R' _ rx
    unfold finC finX at q
    dsimp only at q
    split at q
    · exact q c d H' μ' ev R' rx
    · rename_i hl
      split at q
      · rename_i hc
        split at q
        · rename_i w' e
          rcases rx with rx | ⟨h0, h1, dd, v, h2, h3, h4, h5⟩
          · exact q c d H' _ (ev.res hR.dom) (R'.res (by omega) hc) (.inl rx)
          · exact q c d H' _ (ev.res hR.dom) (R'.res (by omega) hc) (.inr ⟨h0, h1, dd, v, h2, h3, h4.res, fz_ok R' 4 _ w' v e h5⟩)
        · exact q c d H' μ' ev R' rx
      · exact q c d H' μ' ev R' rx
abbrev envF (qual : Str) (st : Stmt) (s : Shared) (f : Addr) (cdv : Value) : PySem.Env := envOfC qual (defScope st) s.heap.objs.size f cdv
abbrev cxF (Γ : Ct) (P : Program) (w : World) (mg : Str → Option Value) (base : Heap) (N : List Str) (qual : Str) (st : Stmt) (f : Addr) (cdv : Value) (A : Around) (outer : List PySem.Env) (s : Shared) (H : Hp) (E : XK) : Cx :=
  cxOf (L2.CX P w) P w Γ.K mg base N qual (defScope st) f cdv A outer s H E
/-- A def keeps what its body's reading says -/
theorem ok_fn {P : Program} {w : World} {mg : Str → Option Value} {base : Heap} {Γ : Ct} {x qual : Str} {st : Stmt} {f : Addr} {fd : FuncData} {N ps : List Str} {k : Nat} {c : FS} (F : Fun Γ.K x qual st f fd) (S : FnScope N ps (defScope st))
    (hbody : ∀ (cdv : Value) (A : Around) (outer : List PySem.Env) (s : Shared) (H : Hp) (E : XK) (W : WX), Room k (A.deeper (envF qual st s f cdv)) → (A.deeper (envF qual st s f cdv)).guards = some [] → Takes (cxF Γ P w mg base N qual st f cdv A outer s H E) W →
      MB (cxF Γ P w mg base N qual st f cdv A outer s H E) Γ W (defBody st) c) : FnG P w mg base Γ (k + 1) f fd ps (denOf N.length c) := by
  obtain ⟨oc, od, kV, doc, pm, an, cdv, ct, osl, rfl, lk, hcd⟩ := F.ex
  refine ⟨fun A outer s H args us vs Q E room guards e0 binds rel ⟨hlen, μ, Z, st0, ws, hR, rws, post⟩ => ?_⟩
  have stays : ∀ b o, base.get? b = some o → s.heap.get? b = some o := fun b o e => (e0.bs b o e).1
  have inK : Γ.K.In s.heap := e0.mod.kin.keeps stays
  have kinds : ∀ y ∈ ps.zip us, (defScope st).names.lookup y.1 = some .local ∨ ((defScope st).names.lookup y.1 = some .cell ∧ ((cellsFrom (s.heap.objs.size + 1) (defScope st).names []).lookup y.1).isSome = true) := by
    rintro ⟨n, v⟩ hy
    exact (S.par n (List.of_mem_zip hy).1).imp id fun q => ⟨q, PySem.W.cellsFrom_some _ _ _ (.inl q)⟩
  refine codeAny_call_function room.depth (inK _ _ lk) rfl S.co S.gen rfl (PySem.W.codeRec_of inK hcd) (binds _ _ _ _ ?_)
  refine wpAny_newFunctionEnv_cells S.kind kinds fun env he s1 entered => ?_
  subst he
  refine ⟨(e0.mod.nolimit.keeps stays).keeps entered.toInCall.keep, codeAny_func ?_⟩
  have I := inv_start (CX := L2.CX P w) (E := E) (cd := cdv) S room.hd e0 hlen rel entered
  have tk : Takes (cxF Γ P w mg base N qual st f cdv A outer s H E) (fun cls d _ H' => E cls d H') := takes_of rfl rfl rfl rfl
  have run := (hbody cdv A outer s H E _ (room.deeper _) (by show (A.deeper _).guards = _; rw [← guards]; rfl) tk).run [] s1 (L2.start N vs) H { nx := fun _ H' => Q .non H', rt := Q } I
    ⟨μ, Z, startD N.length ws, st0, re_start rws, hR, body_end hR post⟩
  refine wpAny_mono run (fun fl s' hs => ?_) fun e s' hs => hs
  cases fl with
  | ret u =>
    obtain ⟨v, σ', H', J, rv, q⟩ := hs
    exact ⟨v, H', J.os, J.bare, J.base, J.hok, rv, q⟩
  | next =>
    obtain ⟨σ', H', J, q⟩ := hs
    exact ⟨V.non, H', J.os, J.bare, J.base, J.hok, rfl, q⟩
  | brk => exact hs.elim fun _ z => z.elim fun _ z => z.2.elim
  | cont => exact hs.elim fun _ z => z.elim fun _ z => z.2.elim
section
variable {X : Cx} {Γ : Ct} {W : WX} {k : Nat} {f : Addr} {fd : FuncData} {ps : List Str} {den : Fn} {x : Str} {p pos : Pos} {e : Expr} {es : List Expr} {fa : FA}
def mCall (den : Fn) (fa : FA) : FE := fun ρ s => (fa ρ s).bind den
theorem post_call {H : Hp} {μ : Mu} {Z : Zs} {σ : L2.St} {Q : VK} {r : R Dv} (h : PostE Γ W H μ Z σ Q r) : PostE Γ (fun c d _ H' => WE W σ c d H') H μ Z [] Q r := by
  cases r with
  | ok w s => exact h
  | er x s => exact h
  | no => exact h
theorem run_G {pins : List (Addr × Obj)} {σ : L2.St} {H : Hp} {s : Shared} {Q : VK} {us : List Value} {ds : List Value} {vs dvs : List V} (F : FnG X.prog X.w X.mg X.base Γ k f fd ps den) (hK : Γ.K = X.K) (hr : Room k X.A) (hg : X.A.guards = some []) (hb : Binds X.K fd ps ds) (hd : Vals dvs ds) (tk : Takes X W)
    (I : Inv X pins σ H s) (r : Vals vs us) (h : spM Γ ps den (vs ++ dvs) H Q (WE W σ)) : wpAny (model X.prog X.w) X.A (call (.ref f) us) (EP X pins σ Q) X.xe s := by
  have r2 : Vals (vs ++ dvs) (us ++ ds) := r.append hd
  have hl : (us ++ ds).length = ps.length := r2.length.symm.trans h.1
  refine wpAny_call (codeAny_mono (F.run X.A X.stack s H ⟨us, []⟩ (us ++ ds) (vs ++ dvs) Q (WE W σ) hr hg (by rw [hK]; exact I.env0) (hb s us I.kIn hl) r2 h) fun r' s' hq => ?_)
  cases r' with
  | error e => exact passAt tk σ pins H s e s' I hq
  | ok fl =>
    cases fl with
    | ret u => exact I.after hq
    | next => exact hq.elim
    | brk => exact hq.elim
    | cont => exact hq.elim
/-- f(e, ..), f a def of the text; ds its defaults -/
theorem me_call {ds : List Value} {dvs : List V} {dws : List Dv} (F : FnG X.prog X.w X.mg X.base Γ k f fd ps den) (hK : Γ.K = X.K) (hr : Room k X.A) (hg : X.A.guards = some []) (hgl : Gl X x) (hm : X.mg x = some (.ref f)) (hk : PySem.W.keepIn X.K (.ref f) = true) (hb : Binds X.K fd ps ds) (hd : Vals dvs ds)
    (hdw : ∀ H μ Z, RVs Γ H μ Z dws dvs) (n : Nat) (hn : n + dws.length = ps.length) (hnl : (e :: es).length = n) (tk : Takes X W) (ha : MA X Γ W (e :: es) fa) (hlen : ∀ ρ s ws s', fa ρ s = .ok ws s' → ws.length = n) (hdb : (x == ("__debug__" : Str)) = false := by decide)
    (he : starEach (e :: es) X.env = (false, eval e X.env) :: starEach es X.env := by rfl) (hpl : (backTo pos (starEach es X.env)).any (·.1) = false := by rfl) :
    ME X Γ W (.Call (.Name x p) (e :: es) [] pos) (mCall (fun ws => den (ws ++ dws)) fa) := by
  refine ⟨fun pins s σ H Q I ⟨μ, Z, ρ, s0, hE, hR, q⟩ => ?_⟩
  refine wpAny_Call_Name_kw (ld_glob I hgl hm ?_ hdb)
  have q' : rdA Γ W fa σ H fun vs H1 => spM Γ ps den (vs ++ dvs) H1 Q (WE W σ) := by
    refine ⟨μ, Z, ρ, s0, hE, hR, ?_⟩
    unfold mCall at q
    cases e1 : fa ρ s0 with
    | ok ws s1 =>
      rw [e1] at q
      have q2 : PostE Γ W H μ Z σ Q (den (ws ++ dws) s1) := q
      intro vs H1 μ1 ev R1 r1
      refine ⟨?_, μ1, Z, s1, ws ++ dws, R1, r1.append (hdw H1 μ1 Z), post_call (PostE.evo ev q2)⟩
      rw [List.length_append, r1.len, hlen _ _ _ _ e1, (hdw H1 μ1 Z).len, hn]
    | er x1 s1 => rw [e1] at q; exact q
    | no => rw [e1] at q; exact q
  refine PySem.W.callWith_K (h₀ := X.base) I.ok.mod.kin hk (thn (ha.run pos pins s σ H _ I q') fun us s1 ⟨vs, H1, I1, r, z⟩ => ⟨I1.kIn, ?_⟩) he hpl
  exact run_G F hK hr hg hb hd tk I1 r z
end
end MP
set_option Elab.async false
set_option linter.all false
set_option maxRecDepth 100000
set_option maxHeartbeats 4000000
namespace MP
open PySem PySem.Spec PyProof.Rows L2
abbrev ON := Sto → List Dv → Option Dv
def OpN (Γ : Ct) (r : List V → Hp → VK → Prop) (op : ON) : Prop := ∀ (H : Hp) (μ : Mu) (Z : Zs) (s : Sto) (xs : List Dv) (w : Dv) (vs : List V) (Q : VK), Rep Γ H μ Z s → RVs Γ H μ Z xs vs → op s xs = some w →
  (∀ v' H', Evo H μ H' μ → Rep Γ H' μ Z s → RV Γ H' μ Z w v' → Q v' H') → r vs H Q
def mBlt (op : ON) (fa : FA) : FE := fun ρ s => (fa ρ s).bind fun ws s1 => R.of (op s1 ws) s1
section
variable {X : Cx} {Γ : Ct} {W : WX} {x : Str} {p pos : Pos} {e : Expr} {es : List Expr} {fa : FA} {id T : String} {r r' : List V → Hp → VK → Prop} {op op' : ON}
theorem blt_ok {t : TE} {ta : TA} (ht : t = tCB r (rdA Γ W fa)) (hs : OpN Γ r op) (h : PE X e t) : ME X Γ W e (mBlt op fa) := by
  subst ht
  exact PE.imp h fun σ H Q ⟨μ, Z, ρ, s, hE, hR, q⟩ => aE hE hR q fun ws s1 vs H1 μ1 e1 E1 R1 r1 q1 => by
    obtain ⟨w, hw, k⟩ := ofE q1
    exact hs H1 μ1 Z s1 ws w vs Q R1 r1 hw k
theorem me_callB (hc : CallR X (.builtin id) r) (hs : OpN Γ r op) (hg : Gl X x) (hm : X.mg x = none) (hv : bootBuiltins x = some (.builtin id)) (ha : MA X Γ W (e :: es) fa) (hn : x ≠ "__name__" := by decide) (hdb : (x == ("__debug__" : Str)) = false := by decide)
    (he : starEach (e :: es) X.env = (false, eval e X.env) :: starEach es X.env := by rfl) (hpl : (backTo pos (starEach es X.env)).any (·.1) = false := by rfl) : ME X Γ W (.Call (.Name x p) (e :: es) [] pos) (mBlt op fa) :=
  blt_ok (ta := rdA Γ W fa) rfl hs (pe_callB hc hg hm hv ha hn hdb he hpl)
theorem me_callTy (hc : CallR X (.type T) r) (hs : OpN Γ r op) (hg : Gl X x) (hm : X.mg x = none) (hv : bootBuiltins x = some (.type T)) (ha : MA X Γ W (e :: es) fa) (hn : x ≠ "__name__" := by decide) (hdb : (x == ("__debug__" : Str)) = false := by decide)
    (he : starEach (e :: es) X.env = (false, eval e X.env) :: starEach es X.env := by rfl) (hpl : (backTo pos (starEach es X.env)).any (·.1) = false := by rfl) : ME X Γ W (.Call (.Name x p) (e :: es) [] pos) (mBlt op fa) :=
  blt_ok (ta := rdA Γ W fa) rfl hs (pe_callTy hc hg hm hv ha hn hdb he hpl)
theorem OpN.or (h : OpN Γ r op) (h' : OpN Γ r' op') : OpN Γ (fun x H Q => r x H Q ∨ r' x H Q) (fun s xs => match op s xs with
    | some w => some w
    | none => op' s xs) := fun H μ Z s xs w vs Q hR rx e k => by
  dsimp only at e
  split at e
  · rename_i w' e'
    cases e
    exact .inl (h H μ Z s xs _ vs Q hR rx e' k)
  · exact .inr (h' H μ Z s xs w vs Q hR rx e k)
/-- len -/
def lenD : ON := fun s xs => match xs with
  | [.str x] => if x.length ≤ lim then some (.int x.length) else none
  | [x] => (seqOf s x).map fun ws => .int ws.length
  | _ => none
theorem one {H : Hp} {μ : Mu} {Z : Zs} {x : Dv} {vs : List V} (r : RVs Γ H μ Z [x] vs) : ∃ v, vs = [v] ∧ RV Γ H μ Z x v := by
  obtain ⟨v, xs, rfl, h1, h2⟩ := r
  exact ⟨v, by rw [show xs = [] from h2], h1⟩
theorem two {H : Hp} {μ : Mu} {Z : Zs} {x y : Dv} {vs : List V} (r : RVs Γ H μ Z [x, y] vs) : ∃ v u, vs = [v, u] ∧ RV Γ H μ Z x v ∧ RV Γ H μ Z y u := by
  obtain ⟨v, xs, rfl, h1, u, ys, rfl, h2, h3⟩ := r
  exact ⟨v, u, by rw [show ys = [] from h3], h1, h2⟩
theorem sLen (hK : Γ.K = X.K) : OpN Γ (fun xs H Q => ∃ x n, xs = [x] ∧ LenV X.K x H n ∧ Q (.int n) H) lenD := fun H μ Z s xs w vs Q hR rx e k => by
  rw [← hK]
  unfold lenD at e
  split at e
  · rename_i y
    split at e
    · rename_i hl
      cases e
      obtain ⟨v, rfl, r1⟩ := one rx
      exact ⟨v, _, rfl, by rw [show v = .str y from r1]; exact ⟨lim_ok hl, rfl⟩, k _ H .refl hR rfl⟩
    · cases e
  · rename_i y _
    cases q : seqOf s y with
    | none => rw [q] at e; cases e
    | some ws =>
      rw [q] at e
      cases e
      obtain ⟨v, rfl, r1⟩ := one rx
      obtain ⟨a, ys, rfl, h2, h3⟩ := seqOf_ok hR r1 q
      refine ⟨_, ws.length, rfl, ?_, k _ H .refl hR rfl⟩
      rcases h2 with h2 | h2
      · exact .inl ⟨ys, h2, h3.len.symm⟩
      · exact .inr ⟨ys, h2, h3.len.symm⟩
  · cases e
/-- tuple(xs), list(xs) -/
def tupleD : ON := fun s xs => match xs with
  | [.tup ws] => some (.tup ws)
  | [.sq ws] => some (.tup ws)
  | [x] => (lstOf s x).map .tup
  | _ => none
theorem sTuple (hK : Γ.K = X.K) : OpN Γ (fun xs H Q => ∃ p ys, xs = [.ref p] ∧ ((SqL X.K H p ys ∧ ∀ l, H l = none → Q (.ref l) (upd H l (.tup ys))) ∨ (SqT X.K H p ys ∧ Q (.ref p) H))) tupleD := fun H μ Z s xs w vs Q hR rx e k => by
  rw [← hK]
  unfold tupleD at e
  split at e
  · cases e
    obtain ⟨v, rfl, a, ys, rfl, h2, h3⟩ := one rx
    exact ⟨a, ys, rfl, .inr ⟨h2.sq, k _ H .refl hR ⟨a, ys, rfl, h2, h3⟩⟩⟩
  · cases e
    obtain ⟨v, rfl, a, ys, rfl, h2, h3⟩ := one rx
    exact ⟨a, ys, rfl, .inl ⟨h2.sq, fun l hl => k _ _ (Evo.laid hl) (hR.laid hl) (new_tup hR hl h3)⟩⟩
  · rename_i y _ _
    cases q : lstOf s y with
    | none => rw [q] at e; cases e
    | some ws =>
      rw [q] at e
      cases e
      obtain ⟨v, rfl, r1⟩ := one rx
      obtain ⟨a, ys, rfl, h2, h3⟩ := lstOf_ok hR r1 q
      exact ⟨a, ys, rfl, .inl ⟨SqL.of h2, fun l hl => k _ _ (Evo.laid hl) (hR.laid hl) (new_tup hR hl h3)⟩⟩
  · cases e
/-- ints of a list -/
def intOf : Dv → Option Int
  | .int i => some i
  | _ => none
def intsOf (ws : List Dv) : Option (List Int) := mapO intOf ws
theorem intsOf_ok : ∀ {ws : List Dv} {ns : List Int}, intsOf ws = some ns → ws = ns.map .int
  | [], ns, e => by cases e; rfl
  | w :: ws, ns, e => by
    unfold intsOf at e
    simp only [mapO] at e
    split at e
    · rename_i b bs e1 e2
      cases e
      rw [intsOf_ok (ws := ws) (ns := bs) e2]
      cases w with
      | int i => cases e1; rfl
      | _ => cases e1
    · cases e
theorem intsOf_map : ∀ ns : List Int, intsOf (ns.map .int) = some ns
  | [] => rfl
  | n :: ns => by
    have := intsOf_map ns
    unfold intsOf at this ⊢
    rw [List.map_cons, mapO, this]
    rfl
/-- sorting by insertion -/
def ins (a : Int) : List Int → List Int
  | [] => [a]
  | b :: r => if a ≤ b then a :: b :: r else b :: ins a r
def srt : List Int → List Int
  | [] => []
  | a :: r => ins a (srt r)
theorem ins_perm (a : Int) : ∀ l : List Int, (ins a l).Perm (a :: l)
  | [] => .refl _
  | b :: r => by
    unfold ins
    split
    · exact .refl _
    · exact ((ins_perm a r).cons b).trans (.swap a b r)
theorem srt_perm : ∀ l : List Int, (srt l).Perm l
  | [] => .refl _
  | a :: r => (ins_perm a (srt r)).trans ((srt_perm r).cons a)
theorem ins_sorted (a : Int) : ∀ l : List Int, l.Pairwise (· ≤ ·) → (ins a l).Pairwise (· ≤ ·)
  | [], _ => List.pairwise_singleton _ _
  | b :: r, h => by
    unfold ins
    obtain ⟨h1, h2⟩ := List.pairwise_cons.mp h
    split
    · rename_i hab
      refine List.pairwise_cons.mpr ⟨fun c hc => ?_, h⟩
      rcases List.mem_cons.mp hc with e | e
      · rw [e]; exact hab
      · exact Int.le_trans hab (h1 c e)
    · rename_i hab
      refine List.pairwise_cons.mpr ⟨fun c hc => ?_, ins_sorted a r h2⟩
      rcases List.mem_cons.mp ((ins_perm a r).mem_iff.mp hc) with e | e
      · rw [e]; omega
      · exact h1 c e
theorem srt_sorted : ∀ l : List Int, (srt l).Pairwise (· ≤ ·)
  | [] => .nil
  | a :: r => ins_sorted a _ (srt_sorted r)
theorem sorted_eq : ∀ {l l' : List Int}, l.Perm l' → l.Pairwise (· ≤ ·) → l'.Pairwise (· ≤ ·) → l = l'
  | [], l', p, _, _ => (List.nil_perm.mp p).symm
  | a :: r, [], p, _, _ => (List.cons_ne_nil a r (List.perm_nil.mp p)).elim
  | a :: r, b :: t, p, h, h' => by
    obtain ⟨h1, h2⟩ := List.pairwise_cons.mp h
    obtain ⟨g1, g2⟩ := List.pairwise_cons.mp h'
    have hab : a = b := by
      have ha : a ∈ b :: t := p.mem_iff.mp List.mem_cons_self
      have hb : b ∈ a :: r := p.mem_iff.mpr List.mem_cons_self
      rcases List.mem_cons.mp ha with e | e
      · exact e
      · rcases List.mem_cons.mp hb with e' | e'
        · exact e'.symm
        · exact Int.le_antisymm (h1 b e') (g1 a e)
    subst hab
    rw [sorted_eq (List.perm_cons a |>.mp p) h2 g2]
theorem srt_uniq {l l' : List Int} (p : l'.Perm l) (h : l'.Pairwise (· ≤ ·)) : l' = srt l := sorted_eq (p.trans (srt_perm l).symm) h (srt_sorted l)
def sortedD : ON := fun s xs => match xs with
  | [x] => match lstOf s x with
    | some ws => (intsOf ws).map fun ns => .lst ((srt ns).map .int)
    | none => none
  | _ => none
theorem sSorted (hK : Γ.K = X.K) : OpN Γ (rSortedI X.K) sortedD := fun H μ Z s xs w vs Q hR rx e k => by
  rw [← hK]
  unfold sortedD at e
  split at e
  · rename_i y
    split at e
    · rename_i ws q
      cases q2 : intsOf ws with
      | none => rw [q2] at e; cases e
      | some ns =>
        rw [q2] at e
        cases e
        obtain ⟨v, rfl, r1⟩ := one rx
        obtain ⟨a, ys, rfl, h2, h3⟩ := lstOf_ok hR r1 q
        rw [intsOf_ok q2] at h3
        have h4 := h3.ints
        subst h4
        refine ⟨a, ns, rfl, SqL.of h2, fun ns' p hp hs hn => ?_⟩
        rw [srt_uniq hp hs]
        exact k _ _ (Evo.laid hn) (hR.laid hn) (new_lst hR hn (RVs.of_ints _))
    · cases e
  · cases e
def sumD : ON := fun s xs => match xs with
  | [x] => match lstOf s x with
    | some ws => (intsOf ws).map fun ns => .int ns.sum
    | none => none
  | _ => none
theorem sSum (hK : Γ.K = X.K) : OpN Γ (rSum X.K) sumD := fun H μ Z s xs w vs Q hR rx e k => by
  rw [← hK]
  unfold sumD at e
  split at e
  · rename_i y
    split at e
    · rename_i ws q
      cases q2 : intsOf ws with
      | none => rw [q2] at e; cases e
      | some ns =>
        rw [q2] at e
        cases e
        obtain ⟨v, rfl, r1⟩ := one rx
        obtain ⟨a, ys, rfl, h2, h3⟩ := lstOf_ok hR r1 q
        rw [intsOf_ok q2] at h3
        have h4 := h3.ints
        subst h4
        exact ⟨a, ns, rfl, SqL.of h2, k _ H .refl hR rfl⟩
    · cases e
  · cases e
def min2D : ON := fun _ xs => match xs with
  | [.int i, .int j] => some (.int (if j < i then j else i))
  | _ => none
theorem sMin2 : OpN Γ (fun xs H Q => ∃ i j, xs = [.int i, .int j] ∧ Q (.int (if j < i then j else i)) H) min2D := fun H μ Z s xs w vs Q hR rx e k => by
  unfold min2D at e
  split at e
  · rename_i i j
    cases e
    obtain ⟨v, u, rfl, r1, r2⟩ := two rx
    exact ⟨i, j, by rw [show v = _ from r1, show u = _ from r2], k _ H .refl hR rfl⟩
  · cases e
def max2D : ON := fun _ xs => match xs with
  | [.int i, .int j] => some (.int (if j > i then j else i))
  | _ => none
theorem sMax2 : OpN Γ (fun xs H Q => ∃ i j, xs = [.int i, .int j] ∧ Q (.int (if j > i then j else i)) H) max2D := fun H μ Z s xs w vs Q hR rx e k => by
  unfold max2D at e
  split at e
  · rename_i i j
    cases e
    obtain ⟨v, u, rfl, r1, r2⟩ := two rx
    exact ⟨i, j, by rw [show v = _ from r1, show u = _ from r2], k _ H .refl hR rfl⟩
  · cases e
def absD : ON := fun _ xs => match xs with
  | [.int i] => some (.int (if i < 0 then -i else i))
  | _ => none
theorem sAbs : OpN Γ (fun xs H Q => ∃ i, xs = [.int i] ∧ Q (.int (if i < 0 then -i else i)) H) absD := fun H μ Z s xs w vs Q hR rx e k => by
  unfold absD at e
  split at e
  · rename_i i
    cases e
    obtain ⟨v, rfl, r1⟩ := one rx
    exact ⟨i, by rw [show v = _ from r1], k _ H .refl hR rfl⟩
  · cases e
def intD : ON := fun _ xs => match xs with
  | [.int i] => some (.int i)
  | [.bl b] => some (.int (if b then 1 else 0))
  | _ => none
theorem sInt : OpN Γ (fun xs H Q => (∃ i, xs = [.int i] ∧ Q (.int i) H) ∨ ∃ k, xs = [.bl k] ∧ Q (.int (if k then 1 else 0)) H) intD := fun H μ Z s xs w vs Q hR rx e k => by
  unfold intD at e
  split at e
  · rename_i i
    cases e
    obtain ⟨v, rfl, r1⟩ := one rx
    exact .inl ⟨i, by rw [show v = _ from r1], k _ H .refl hR rfl⟩
  · rename_i b
    cases e
    obtain ⟨v, rfl, r1⟩ := one rx
    exact .inr ⟨b, by rw [show v = _ from r1], k _ H .refl hR rfl⟩
  · cases e
/-- isinstance of a built-in class -/
def tyName : Dv → Option String
  | .non => some "NoneType" | .bl _ => some "bool" | .int _ => some "int" | .str _ => some "str" | .tup _ => some "tuple" | .lst _ => some "list" | .dct _ _ => some "dict"
  | _ => none
def sub (a b : String) : Option Bool := match a, b with
  | "NoneType", "int" => some false | "NoneType", "bool" => some false | "NoneType", "tuple" => some false | "NoneType", "str" => some false | "NoneType", "list" => some false
  | "bool", "int" => some true | "bool", "bool" => some true | "bool", "tuple" => some false | "bool", "str" => some false | "bool", "list" => some false
  | "int", "int" => some true | "int", "bool" => some false | "int", "tuple" => some false | "int", "str" => some false | "int", "list" => some false
  | "str", "int" => some false | "str", "bool" => some false | "str", "tuple" => some false | "str", "str" => some true | "str", "list" => some false
  | "tuple", "int" => some false | "tuple", "bool" => some false | "tuple", "tuple" => some true | "tuple", "str" => some false | "tuple", "list" => some false
  | "list", "int" => some false | "list", "bool" => some false | "list", "tuple" => some false | "list", "str" => some false | "list", "list" => some true
  | "dict", "int" => some false | "dict", "bool" => some false | "dict", "tuple" => some false | "dict", "str" => some false | "dict", "list" => some false
  | _, _ => none
theorem sub_ok {a b : String} {r : Bool} (h : sub a b = some r) : kitB a b = some r := by
  unfold sub at h
  split at h <;> first
    | (cases h; decide +kernel)
    | cases h
def isiD : ON := fun _ xs => match xs with
  | [x, .ty n] => match tyName x with
    | some t => (sub t n).map .bl
    | none => none
  | _ => none
theorem tyName_ok {H : Hp} {μ : Mu} {Z : Zs} {x : Dv} {v : V} {t : String} (r : RV Γ H μ Z x v) (e : tyName x = some t) : TyX Γ.K H v (.type t) := by
  cases x with
  | non => cases e; rw [show v = _ from r]; exact .base .non
  | bl b => cases e; rw [show v = _ from r]; exact .base (.bl b)
  | int b => cases e; rw [show v = _ from r]; exact .base (.int b)
  | str b => cases e; rw [show v = _ from r]; exact .base (.str b)
  | tup ws =>
    cases e
    obtain ⟨a, xs, rfl, h2, h3⟩ := r
    rcases h2 with ⟨h2 | ⟨o, h2⟩, _⟩ | ⟨o, its, n, h2, h4, _⟩
    · exact .base (.tup h2)
    · exact .fTuple h2
    · exact .kTuple h2 h4
  | lst ws =>
    cases e
    obtain ⟨a, xs, rfl, h2, h3⟩ := r
    exact .base (.lst h2)
  | dct ks ws =>
    cases e
    obtain ⟨a, kvs, rfl, h2, h3⟩ := r
    exact .base (.dK h2)
  | _ => cases e
theorem sIsi (hK : Γ.K = X.K) : OpN Γ (rIsi X.K) isiD := fun H μ Z s xs w vs Q hR rx e k => by
  rw [← hK]
  unfold isiD at e
  split at e
  · rename_i y n
    split at e
    · rename_i t q
      cases q2 : sub t n with
      | none => rw [q2] at e; cases e
      | some b =>
        rw [q2] at e
        cases e
        obtain ⟨v, u, rfl, r1, r2⟩ := two rx
        exact ⟨v, u, .type t, .type n, b, rfl, by rw [show u = _ from r2]; exact .ty n, tyName_ok r1 q, kit_ty (sub_ok q2), k _ H .refl hR rfl⟩
    · cases e
  · cases e
def rRepr (K : PySem.W.Frag) : List V → Hp → VK → Prop := fun xs H Q => ∃ (x : V) (a : Addr) (d : PyData), xs = [x] ∧ x = .ref a ∧ Dp K H x d ∧ d.showable = true ∧ d.hasDict = false ∧ d.depth ≤ 60 ∧ d.shown.length ≤ sizeLine ∧ Q (.str d.shown) H
theorem call_repr (hg : X.A.guards = some []) (hu : X.A.units + 64 < cLine) : CallR X (.builtin "repr") (rRepr X.K) := by
  intro pins s σ H xs us Q I r h
  obtain ⟨x, a, d, rfl, rfl, hd, h1, h2, h3, h4, q⟩ := h
  obtain ⟨us', e, _⟩ : ∃ u, us = [u] ∧ RelV (.ref a) u := by
    cases r with
    | cons ru rn => cases rn; exact ⟨_, rfl, ru⟩
  subst e
  have er : us' = Value.ref a := by
    cases r with
    | cons ru rn => exact ru
  subst er
  obtain ⟨as, rd⟩ := hd.reads I d _ _ rfl
  exact repr_of_reads' rd h1 (fun z => by rw [h2] at z; cases z) hg (by omega) (fun _ _ z => z) (fun h' u tk k => ⟨.str d.shown, H, I.kept (t' := tk) k, ⟨u, rfl⟩, q⟩) h4
end
end MP
set_option Elab.async false
set_option linter.all false
set_option maxRecDepth 100000
set_option maxHeartbeats 4000000
namespace MP
open PySem PySem.Spec PyProof.Rows L2
section
variable {X : Cx} {Γ : Ct} {W : WX} {a b e : Expr} {f g : FE} {pos : Pos}
def orO (o o' : O2) : O2 := fun s x y => match o s x y with
  | some w => some w
  | none => o' s x y
theorem bin_or {o o' : O2} (h : ME X Γ W e (mBin o f g)) (h' : ME X Γ W e (mBin o' f g)) : ME X Γ W e (mBin (orO o o') f g) :=
  PE.imp (PE.or h h') fun σ H Q ⟨μ, Z, ρ, s, hE, hR, q⟩ => by
    have key : PostE Γ W H μ Z σ Q (mBin o f g ρ s) ∨ PostE Γ W H μ Z σ Q (mBin o' f g ρ s) := by
      unfold mBin at q ⊢
      revert q
      cases f ρ s with
      | no => exact .inl
      | er x s1 => exact .inl
      | ok x s1 =>
        dsimp only [R.bind]
        cases g ρ s1 with
        | no => exact .inl
        | er y s2 => exact .inl
        | ok y s2 =>
          dsimp only
          intro q
          unfold orO at q
          cases e1 : o s2 x y with
          | some w => rw [e1] at q; exact .inl q
          | none => rw [e1] at q; exact .inr q
    exact key.imp (fun z => ⟨μ, Z, ρ, s, hE, hR, z⟩) fun z => ⟨μ, Z, ρ, s, hE, hR, z⟩
theorem RVs.at {H : Hp} {μ : Mu} {Z : Zs} {ws : List Dv} {xs : List V} {i : Int} {w : Dv} (r : RVs Γ H μ Z ws xs) (e : atI ws i = some w) : ∃ x, atI xs i = some x ∧ RV Γ H μ Z w x := by
  unfold atI at e ⊢
  rw [r.len]
  cases q : ixN ws.length i with
  | none => rw [q] at e; cases e
  | some j =>
    rw [q] at e
    exact r.get e
def lstOrSq (s : Sto) : Dv → Option (List Dv)
  | .sq ws => some ws
  | w => lstOf s w
def ixL : O2 := fun s x y => match y with
  | .int i => (lstOrSq s x).bind fun ws => atI ws i
  | _ => none
def ixT : O2 := fun _ x y => match y with
  | .int i => (tupOf x).bind fun ws => atI ws i
  | _ => none
theorem lstOrSq_ok {H : Hp} {μ : Mu} {Z : Zs} {s : Sto} {w : Dv} {v : V} {ws : List Dv} (hR : Rep Γ H μ Z s) (r : RV Γ H μ Z w v) (e : lstOrSq s w = some ws) : ∃ a xs, v = .ref a ∧ SqL Γ.K H a xs ∧ RVs Γ H μ Z ws xs := by
  unfold lstOrSq at e
  split at e
  · cases e
    obtain ⟨a, xs, h1, h2, h3⟩ := r
    exact ⟨a, xs, h1, h2.sq, h3⟩
  · obtain ⟨a, xs, h1, h2, h3⟩ := lstOf_ok hR r e
    exact ⟨a, xs, h1, SqL.of h2, h3⟩
theorem tupOf_ok {H : Hp} {μ : Mu} {Z : Zs} {w : Dv} {v : V} {ws : List Dv} (r : RV Γ H μ Z w v) (e : tupOf w = some ws) : ∃ a xs, v = .ref a ∧ SqT Γ.K H a xs ∧ RVs Γ H μ Z ws xs := by
  cases w with
  | tup us =>
    cases e
    obtain ⟨a, xs, h1, h2, h3⟩ := r
    exact ⟨a, xs, h1, h2.sq, h3⟩
  | _ => cases e
theorem sIxL : Op2 Γ (rIxL Γ.K) ixL := fun H μ Z s x y w u v Q hR r1 r2 e k => by
  unfold ixL at e
  split at e
  · rename_i i
    cases q : lstOrSq s x with
    | none => rw [q] at e; cases e
    | some ws =>
      rw [q] at e
      obtain ⟨p, xs, h1, h2, h3⟩ := lstOrSq_ok hR r1 q
      obtain ⟨z, g1, g2⟩ := h3.at e
      exact ⟨p, xs, i, z, h1, r2, h2, g1, k _ H .refl hR g2⟩
  · cases e
theorem sIxT : Op2 Γ (rIxT Γ.K) ixT := fun H μ Z s x y w u v Q hR r1 r2 e k => by
  unfold ixT at e
  split at e
  · rename_i i
    cases q : tupOf x with
    | none => rw [q] at e; cases e
    | some ws =>
      rw [q] at e
      obtain ⟨p, xs, h1, h2, h3⟩ := tupOf_ok r1 q
      obtain ⟨z, g1, g2⟩ := h3.at e
      exact ⟨p, xs, i, z, h1, r2, h2, g1, k _ H .refl hR g2⟩
  · cases e
/-- dicts of the store -/
def keyOf : Dv → Option Key
  | .int i => some (.inl i)
  | .str x => some (.inr x)
  | _ => none
def valD (kws : List (Key × Dv)) (k : Key) : Option Dv := (kws.find? fun p => decide (p.1 = k)).map (·.2)
def putD (kws : List (Key × Dv)) (k : Key) (w : Dv) : List (Key × Dv) :=
  if (kws.any fun p => decide (p.1 = k)) = true then kws.map (fun p => if p.1 = k then (p.1, w) else p) else kws ++ [(k, w)]
def dctOf (s : Sto) : Dv → Option (List (Key × Dv))
  | .ref n => match s[n]? with
    | some (.dct kws) => some kws
    | _ => none
  | _ => none
def ixD : O2 := fun s x y => match dctOf s x, keyOf y with
  | some kws, some k => valD kws k
  | _, _ => none
theorem keyOf_ok {H : Hp} {μ : Mu} {Z : Zs} {w : Dv} {v : V} {k : Key} (r : RV Γ H μ Z w v) (e : keyOf w = some k) : v = kV k := by
  cases w with
  | int i => cases e; exact r
  | str x => cases e; exact r
  | _ => cases e
theorem valD_ok {H : Hp} {μ : Mu} {Z : Zs} {k : Key} {w : Dv} : ∀ {kws : List (Key × Dv)} {kvs : List (Key × V)}, kvs.map (·.1) = kws.map (·.1) → RVs Γ H μ Z (kws.map (·.2)) (kvs.map (·.2)) → valD kws k = some w → ∃ v, valV kvs k = some v ∧ RV Γ H μ Z w v
  | [], kvs, _, _, e => by cases e
  | p :: kws, [], h, _, e => by cases h
  | p :: kws, q :: kvs, h, r, e => by
    obtain ⟨h1, h2⟩ := List.cons.inj h
    obtain ⟨x, xs, h3, r1, r2⟩ := r
    obtain ⟨h4, h5⟩ := List.cons.inj h3
    subst h4
    by_cases hk : p.1 = k
    · have e1 : valD (p :: kws) k = some p.2 := by simp [valD, List.find?_cons, hk]
      rw [e1] at e
      cases e
      exact ⟨q.2, valV_pos (show q.1 = k from h1.trans hk), r1⟩
    · have e1 : valD (p :: kws) k = valD kws k := by simp [valD, List.find?_cons, hk]
      rw [e1] at e
      obtain ⟨v, g1, g2⟩ := valD_ok (kvs := kvs) h2 (h5 ▸ r2) e
      exact ⟨v, by rw [valV_neg (show ¬ q.1 = k from fun z => hk (h1.symm.trans z))]; exact g1, g2⟩
theorem putD_ok {H : Hp} {μ : Mu} {Z : Zs} {k : Key} {w : Dv} {v : V} (rw' : RV Γ H μ Z w v) {kws : List (Key × Dv)} {kvs : List (Key × V)} (h : kvs.map (·.1) = kws.map (·.1)) (r : RVs Γ H μ Z (kws.map (·.2)) (kvs.map (·.2))) :
    (putK kvs k v).map (·.1) = (putD kws k w).map (·.1) ∧ RVs Γ H μ Z ((putD kws k w).map (·.2)) ((putK kvs k v).map (·.2)) := by
  have hany : ∀ (kws : List (Key × Dv)) (kvs : List (Key × V)), kvs.map (·.1) = kws.map (·.1) → (kvs.any fun p => decide (p.1 = k)) = (kws.any fun p => decide (p.1 = k)) := fun kws => by
    induction kws with
    | nil => intro kvs h; cases kvs with
      | nil => rfl
      | cons _ _ => cases h
    | cons p kws ih => intro kvs h; cases kvs with
      | nil => cases h
      | cons q kvs =>
        obtain ⟨h1, h2⟩ := List.cons.inj h
        have h1' : q.1 = p.1 := h1
        rw [List.any_cons, List.any_cons, ih kvs h2, h1']
  have hmap : ∀ (kws : List (Key × Dv)) (kvs : List (Key × V)), kvs.map (·.1) = kws.map (·.1) → RVs Γ H μ Z (kws.map (·.2)) (kvs.map (·.2)) →
      (kvs.map (fun p => if p.1 = k then (p.1, v) else p)).map (·.1) = (kws.map (fun p => if p.1 = k then (p.1, w) else p)).map (·.1) ∧ RVs Γ H μ Z ((kws.map (fun p => if p.1 = k then (p.1, w) else p)).map (·.2)) ((kvs.map (fun p => if p.1 = k then (p.1, v) else p)).map (·.2)) := fun kws => by
    induction kws with
    | nil => intro kvs h r; cases kvs with
      | nil => exact ⟨rfl, rfl⟩
      | cons _ _ => cases h
    | cons p kws ih => intro kvs h r; cases kvs with
      | nil => cases h
      | cons q kvs =>
        obtain ⟨h1, h2⟩ := List.cons.inj h
        obtain ⟨x, xs, h3, r1, r2⟩ := r
        obtain ⟨h4, h5⟩ := List.cons.inj h3
        have h1' : q.1 = p.1 := h1
        subst h4
        obtain ⟨i1, i2⟩ := ih kvs h2 (h5 ▸ r2)
        by_cases hk : p.1 = k
        · have e1 : (if q.1 = k then (q.1, v) else q) = (q.1, v) := if_pos (h1'.trans hk)
          have e2 : (if p.1 = k then (p.1, w) else p) = (p.1, w) := if_pos hk
          have m1 : ((q :: kvs).map fun p => if p.1 = k then (p.1, v) else p) = (q.1, v) :: kvs.map fun p => if p.1 = k then (p.1, v) else p := by rw [List.map_cons, e1]
          have m2 : ((p :: kws).map fun p => if p.1 = k then (p.1, w) else p) = (p.1, w) :: kws.map fun p => if p.1 = k then (p.1, w) else p := by rw [List.map_cons, e2]
          rw [m1, m2]
          exact ⟨by rw [List.map_cons, List.map_cons, i1, h1'], RVs.cons rw' i2⟩
        · have e1 : (if q.1 = k then (q.1, v) else q) = q := if_neg fun z => hk (h1'.symm.trans z)
          have e2 : (if p.1 = k then (p.1, w) else p) = p := if_neg hk
          have m1 : ((q :: kvs).map fun p => if p.1 = k then (p.1, v) else p) = q :: kvs.map fun p => if p.1 = k then (p.1, v) else p := by rw [List.map_cons, e1]
          have m2 : ((p :: kws).map fun p => if p.1 = k then (p.1, w) else p) = p :: kws.map fun p => if p.1 = k then (p.1, w) else p := by rw [List.map_cons, e2]
          rw [m1, m2]
          exact ⟨by rw [List.map_cons, List.map_cons, i1, h1'], RVs.cons r1 i2⟩
  unfold putK putD
  rw [hany kws kvs h]
  split
  · exact hmap kws kvs h r
  · rw [List.map_append, List.map_append, List.map_append, List.map_append, h]
    exact ⟨rfl, r.append (RVs.cons rw' rfl)⟩
theorem dctOf_ok {H : Hp} {μ : Mu} {Z : Zs} {s : Sto} {w : Dv} {v : V} {kws : List (Key × Dv)} (hR : Rep Γ H μ Z s) (r : RV Γ H μ Z w v) (e : dctOf s w = some kws) : ∃ a kvs, v = .ref a ∧ H a = some (.dK kvs) ∧ kvs.map (·.1) = kws.map (·.1) ∧ RVs Γ H μ Z (kws.map (·.2)) (kvs.map (·.2)) := by
  cases w with
  | ref n =>
    simp only [dctOf] at e
    split at e
    · rename_i us q
      cases e
      obtain ⟨a, h1, h2⟩ := r
      obtain ⟨b', h3, _, kvs, h4, h5, h6⟩ := hR.at n _ q
      rw [h2] at h3
      cases h3
      exact ⟨a, kvs, h1, h4, h5, h6⟩
    · cases e
  | _ => cases e
theorem sIxD : Op2 Γ (fun x y H Q => ∃ a v, x = .ref a ∧ DGet H a y (some v) ∧ Q v H) ixD := fun H μ Z s x y w u v Q hR r1 r2 e k => by
  unfold ixD at e
  split at e
  · rename_i kws kk q1 q2
    obtain ⟨p, kvs, h1, h2, h3, h4⟩ := dctOf_ok hR r1 q1
    obtain ⟨z, g1, g2⟩ := valD_ok h3 h4 e
    refine ⟨p, z, h1, ?_, k _ H .refl hR g2⟩
    rw [keyOf_ok r2 q2, ← g1]
    exact DGet.k h2
  · cases e
theorem me_ixL (hK : Γ.K = X.K) (ha : ME X Γ W a f) (hb : ME X Γ W b g) (hs : PlainIx b) : ME X Γ W (.Subscript a b pos) (mBin ixL f g) :=
  PE.imp (pe_ix ix_list ha hb hs) fun σ H Q ⟨μ, Z, ρ, s, hE, hR, q⟩ => eE hE hR q fun x s1 u H1 μ1 e1 hE1 R1 r1 q1 => eE hE1 R1 q1 fun y s2 v H2 μ2 e2 hE2 R2 r2 q2 => by
    obtain ⟨w, hw, k⟩ := ofE q2
    rw [← hK]
    exact sIxL H2 μ2 Z s2 x y w u v Q R2 (r1.mono e2) r2 hw k
theorem me_ixT (hK : Γ.K = X.K) (ha : ME X Γ W a f) (hb : ME X Γ W b g) (hs : PlainIx b) : ME X Γ W (.Subscript a b pos) (mBin ixT f g) :=
  PE.imp (pe_ix ix_tup ha hb hs) fun σ H Q ⟨μ, Z, ρ, s, hE, hR, q⟩ => eE hE hR q fun x s1 u H1 μ1 e1 hE1 R1 r1 q1 => eE hE1 R1 q1 fun y s2 v H2 μ2 e2 hE2 R2 r2 q2 => by
    obtain ⟨w, hw, k⟩ := ofE q2
    rw [← hK]
    exact sIxT H2 μ2 Z s2 x y w u v Q R2 (r1.mono e2) r2 hw k
theorem me_ixD (hu : X.A.units + 1 < cLine) (ha : ME X Γ W a f) (hb : ME X Γ W b g) (hs : NoSl b) : ME X Γ W (.Subscript a b pos) (mBin ixD f g) :=
  PE.imp (pe_dget hu ha hb hs) fun σ H Q ⟨μ, Z, ρ, s, hE, hR, q⟩ => eE hE hR q fun x s1 u H1 μ1 e1 hE1 R1 r1 q1 => eE hE1 R1 q1 fun y s2 v H2 μ2 e2 hE2 R2 r2 q2 => by
    obtain ⟨w, hw, k⟩ := ofE q2
    exact sIxD H2 μ2 Z s2 x y w u v Q R2 (r1.mono e2) r2 hw k
/-- a[b]: of a list, a tuple, a dict -/
def ixA : O2 := orO (orO ixL ixT) ixD
theorem me_ix (hK : Γ.K = X.K) (hu : X.A.units + 1 < cLine) (ha : ME X Γ W a f) (hb : ME X Γ W b g) (hs : PlainIx b) (hs' : NoSl b) : ME X Γ W (.Subscript a b pos) (mBin ixA f g) :=
  bin_or (bin_or (me_ixL hK ha hb hs) (me_ixT hK ha hb hs)) (me_ixD hu ha hb hs')
abbrev FO := Env → Sto → R (Option Int)
def PostO (Γ : Ct) (W : WX) (H : Hp) (μ : Mu) (Z : Zs) (σ : L2.St) (Q : Option Int → Hp → Prop) : R (Option Int) → Prop
  | .ok b s' => ∀ H' μ', Evo H μ H' μ' → Rep Γ H' μ' Z s' → Q b H'
  | .er x s' => ∀ cls d H' μ', Evo H μ H' μ' → Rep Γ H' μ' Z s' → RX Γ H' μ' Z x cls d → W cls d σ H'
  | .no => False
def rdO (Γ : Ct) (W : WX) (f : FO) : TO := fun σ H Q => ∃ μ Z ρ s, RE Γ H μ Z ρ σ ∧ Rep Γ H μ Z s ∧ PostO Γ W H μ Z σ Q (f ρ s)
def MO (X : Cx) (Γ : Ct) (W : WX) (e : Option Expr) (f : FO) : Prop := PO X e (rdO Γ W f)
theorem PO.imp {e : Option Expr} {t t' : TO} (h : PO X e t) (k : ∀ σ H Q, t' σ H Q → t σ H Q) : PO X e t' := ⟨fun pins s σ H Q I q => h.run pins s σ H Q I (k σ H Q q)⟩
def mPart (f : FE) : FO := fun ρ s => (f ρ s).bind fun x s1 => match x with
  | .int i => .ok (some i) s1
  | _ => .no
def mNoPart : FO := fun _ s => .ok none s
theorem mo_none : MO X Γ W none mNoPart := PO.imp po_none fun σ H Q ⟨μ, Z, ρ, s, hE, hR, q⟩ => q H μ .refl hR
theorem mo_some (h : ME X Γ W e f) : MO X Γ W (some e) (mPart f) := PO.imp (po_some h) fun σ H Q ⟨μ, Z, ρ, s, hE, hR, q⟩ => by
  refine ⟨μ, Z, ρ, s, hE, hR, ?_⟩
  unfold mPart at q
  cases e1 : f ρ s with
  | no => rw [e1] at q; exact q.elim
  | er x s1 => rw [e1] at q; exact q
  | ok x s1 =>
    rw [e1] at q
    intro v H1 μ1 ev R1 r1
    cases x with
    | int i => exact ⟨i, r1, q H1 μ1 ev R1⟩
    | _ => exact q.elim
abbrev OS := Sto → Dv → Option Int → Option Int → Option Dv
def mSl (op : OS) (f : FE) (lo hi : FO) : FE := fun ρ s => (f ρ s).bind fun x s1 => (lo ρ s1).bind fun l s2 => (hi ρ s2).bind fun u s3 => R.of (op s3 x l u) s3
theorem oE {H : Hp} {μ : Mu} {Z : Zs} {σ : L2.St} {ρ : Env} {s : Sto} {fo : FO} {k : Option Int → Sto → R Dv} {Q : VK} {Q' : Option Int → Hp → Prop} (hE : RE Γ H μ Z ρ σ) (hR : Rep Γ H μ Z s) (h : PostE Γ W H μ Z σ Q ((fo ρ s).bind k))
    (hk : ∀ b s1 H1 μ1, Evo H μ H1 μ1 → RE Γ H1 μ1 Z ρ σ → Rep Γ H1 μ1 Z s1 → PostE Γ W H1 μ1 Z σ Q (k b s1) → Q' b H1) : rdO Γ W fo σ H Q' := by
  refine ⟨μ, Z, ρ, s, hE, hR, ?_⟩
  cases e : fo ρ s with
  | ok x s1 =>
    rw [e] at h
    exact fun H1 μ1 ev R1 => hk x s1 H1 μ1 ev (hE.mono ev) R1 (PostE.evo ev h)
  | er x s1 => rw [e] at h; exact h
  | no => rw [e] at h; exact h.elim
def cutD (ws : List Dv) (lo hi : Option Int) : List Dv := (ws.drop (HT.sIx ws.length 0 lo)).take (HT.sIx ws.length ws.length hi - HT.sIx ws.length 0 lo)
theorem cut_ok {H : Hp} {μ : Mu} {Z : Zs} {ws : List Dv} {xs : List V} (r : RVs Γ H μ Z ws xs) (lo hi : Option Int) : RVs Γ H μ Z (cutD ws lo hi) (cutV xs lo hi) := by
  unfold cutD cutV
  rw [r.len]
  exact (r.drop _).take _
def slL : OS := fun s x lo hi => (lstOrSq s x).map fun ws => .lst (cutD ws lo hi)
def slT : OS := fun _ x lo hi => (tupOf x).map fun ws => .tup (cutD ws lo hi)
variable {lo hi : Option Expr} {flo fhi : FO} {p2 : Pos}
theorem me_slL (hK : Γ.K = X.K) (ha : ME X Γ W e f) (hl : MO X Γ W lo flo) (hh : MO X Γ W hi fhi) : ME X Γ W (.Subscript e (.Slice lo hi none p2) pos) (mSl slL f flo fhi) :=
  PE.imp (pe_slice sl_list ha hl hh) fun σ H Q ⟨μ, Z, ρ, s, hE, hR, q⟩ => eE hE hR q fun x s1 u H1 μ1 e1 hE1 R1 r1 q1 => oE hE1 R1 q1 fun l s2 H2 μ2 e2 hE2 R2 q2 => oE hE2 R2 q2 fun h s3 H3 μ3 e3 hE3 R3 q3 => by
    obtain ⟨w, hw, k⟩ := ofE q3
    unfold slL at hw
    cases q : lstOrSq s3 x with
    | none => rw [q] at hw; cases hw
    | some ws =>
      rw [q] at hw
      cases hw
      obtain ⟨p, xs, h1, h2, h3⟩ := lstOrSq_ok R3 ((r1.mono e2).mono e3) q
      exact ⟨p, xs, h1, hK ▸ h2, fun l' hl' => k _ _ (Evo.laid hl') (R3.laid hl') (new_lst R3 hl' (cut_ok h3 l h))⟩
theorem cut_all {ws : List Dv} {lo hi : Option Int} (h1 : HT.sIx ws.length 0 lo = 0) (h2 : HT.sIx ws.length ws.length hi = ws.length) : cutD ws lo hi = ws := by
  unfold cutD
  rw [h1, h2, List.drop_zero, Nat.sub_zero, List.take_length]
theorem me_slT (hK : Γ.K = X.K) (ha : ME X Γ W e f) (hl : MO X Γ W lo flo) (hh : MO X Γ W hi fhi) : ME X Γ W (.Subscript e (.Slice lo hi none p2) pos) (mSl slT f flo fhi) :=
  PE.imp (pe_slice sl_tupA ha hl hh) fun σ H Q ⟨μ, Z, ρ, s, hE, hR, q⟩ => eE hE hR q fun x s1 u H1 μ1 e1 hE1 R1 r1 q1 => oE hE1 R1 q1 fun l s2 H2 μ2 e2 hE2 R2 q2 => oE hE2 R2 q2 fun h s3 H3 μ3 e3 hE3 R3 q3 => by
    obtain ⟨w, hw, k⟩ := ofE q3
    unfold slT at hw
    have r3 := (r1.mono e2).mono e3
    cases q : tupOf x with
    | none => rw [q] at hw; cases hw
    | some ws =>
      rw [q] at hw
      cases hw
      have hx : x = .tup ws := by cases x <;> cases q <;> rfl
      subst hx
      obtain ⟨p, xs, h1, h2, h3⟩ := id r3
      refine ⟨p, xs, h1, hK ▸ h2.sq, fun ⟨z1, z2⟩ => ?_, fun _ l' hl' => k _ _ (Evo.laid hl') (R3.laid hl') (new_tup R3 hl' (cut_ok h3 l h))⟩
      rw [h3.len] at z1 z2
      refine k _ H3 .refl R3 ?_
      show RV Γ H3 μ3 Z (.tup (cutD ws l h)) _
      rw [cut_all z1 z2, ← h1]
      exact r3
def orS (o o' : OS) : OS := fun s x l u => match o s x l u with
  | some w => some w
  | none => o' s x l u
theorem sl_or {o o' : OS} (h : ME X Γ W e (mSl o f flo fhi)) (h' : ME X Γ W e (mSl o' f flo fhi)) : ME X Γ W e (mSl (orS o o') f flo fhi) :=
  PE.imp (PE.or h h') fun σ H Q ⟨μ, Z, ρ, s, hE, hR, q⟩ => by
    have key : PostE Γ W H μ Z σ Q (mSl o f flo fhi ρ s) ∨ PostE Γ W H μ Z σ Q (mSl o' f flo fhi ρ s) := by
      unfold mSl at q ⊢
      revert q
      cases f ρ s with
      | no => exact .inl
      | er x s1 => exact .inl
      | ok x s1 =>
        dsimp only [R.bind]
        cases flo ρ s1 with
        | no => exact .inl
        | er y s2 => exact .inl
        | ok y s2 =>
          dsimp only
          cases fhi ρ s2 with
          | no => exact .inl
          | er y s3 => exact .inl
          | ok z s3 =>
            dsimp only
            intro q
            unfold orS at q
            cases e1 : o s3 x y z with
            | some w => rw [e1] at q; exact .inl q
            | none => rw [e1] at q; exact .inr q
    exact key.imp (fun z => ⟨μ, Z, ρ, s, hE, hR, z⟩) fun z => ⟨μ, Z, ρ, s, hE, hR, z⟩
def slA : OS := orS slL slT
theorem me_sl (hK : Γ.K = X.K) (ha : ME X Γ W e f) (hl : MO X Γ W lo flo) (hh : MO X Γ W hi fhi) : ME X Γ W (.Subscript e (.Slice lo hi none p2) pos) (mSl slA f flo fhi) := sl_or (me_slL hK ha hl hh) (me_slT hK ha hl hh)
theorem Evo.put {H : Hp} {μ : Mu} {n : Nat} {p : Addr} {o : HO} (hn : μ n = some p) : Evo H μ (upd H p o) μ where
  keep := fun a ob h hm => by rw [upd_ne (fun z : a = p => hm n (by rw [z]; exact hn))]; exact h
  mu := fun _ _ h => h
  new := fun _ _ h => .inl h
  stay := fun m a h q => by
    by_cases z : a = p
    · rw [z, upd_same]; intro y; cases y
    · rw [upd_ne z]; exact q
theorem Rep.put {H : Hp} {μ : Mu} {Z : Zs} {s : Sto} {n : Nat} {p : Addr} {o : HO} {ob : Ob} (hR : Rep Γ H μ Z s) (hn : μ n = some p) (ho : RO Γ (upd H p o) μ Z p ob) : Rep Γ (upd H p o) μ Z (s.set n ob) := by
  have ev : Evo H μ (upd H p o) μ := Evo.put hn
  refine ⟨fun m ob' q => ?_, hR.inj, fun m a h => by rw [List.length_set]; exact hR.dom m a h, fun a z => ev.alive (hR.za a z)⟩
  by_cases hm : n = m
  · subst hm
    have hl : n < s.length := hR.dom n p hn
    rw [List.getElem?_set_self hl] at q
    cases q
    exact ⟨p, hn, hR.notZ hn, ho⟩
  · rw [List.getElem?_set_ne hm] at q
    obtain ⟨a, h1, h2, h3⟩ := hR.at m ob' q
    exact ⟨a, h1, h2, h3.mono' ev (upd_ne (fun z : a = p => hm (hR.inj n m p hn (by rw [← z]; exact h1))))⟩
/-- xs.append(e) -/
def mApp (f g : FE) : FE := fun ρ s => (f ρ s).bind fun x s1 => match x with
  | .ref n => match s1[n]? with
    | some (.lst _) => (g ρ s1).bind fun y s2 => match s2[n]? with
      | some (.lst ws) => if ws.length < lim then .ok .non (s2.set n (.lst (ws ++ [y]))) else .no
      | _ => .no
    | _ => .no
  | _ => .no
theorem me_app (h : PE X e (tBM Γ.K "list" rAppend (rdE Γ W f) (tCons (rdE Γ W g) tNil))) : ME X Γ W e (mApp f g) :=
  PE.imp h fun σ H Q ⟨μ, Z, ρ, s, hE, hR, q⟩ => eE hE hR q fun x s1 u H1 μ1 e1 hE1 R1 r1 q1 => by
    cases x with
    | ref n =>
      dsimp only at q1
      split at q1
      · rename_i us q0
        obtain ⟨p, h1, h2⟩ := r1
        obtain ⟨p', g1, _, xs, g3, g4⟩ := R1.at n _ q0
        rw [h2] at g1
        cases g1
        subst h1
        refine ⟨.inl ⟨rfl, xs, SqL.of g3⟩, ?_⟩
        refine eE hE1 R1 q1 fun y s2 v H2 μ2 e2 hE2 R2 r2 q2 => ?_
        split at q2
        · rename_i ws q3
          split at q2
          · rename_i hl
            obtain ⟨p'', k1, _, ys, k3, k4⟩ := R2.at n _ q3
            rw [e2.mu _ _ h2] at k1
            cases k1
            refine ⟨p, ys, v, rfl, rfl, k3, by rw [k4.len]; exact Nat.lt_of_lt_of_le hl (lim_ok (Nat.le_refl _)), ?_⟩
            have ev : Evo H2 μ2 (upd H2 p (.lst (ys ++ [v]))) μ2 := Evo.put (e2.mu _ _ h2)
            exact q2 .non _ μ2 ev (R2.put (e2.mu _ _ h2) ⟨_, upd_same, (k4.append (RVs.cons r2 RVs.nil)).mono ev⟩) rfl
          · exact q2.elim
        · exact q2.elim
      · exact q1.elim
    | _ => exact q1.elim
/-- d[k] = e -/
def mDPut (fo fi fv : FE) : FS := fun ρ s => (fv ρ s).thenC ρ fun v s1 => (fo ρ s1).thenC ρ fun x s2 => (fi ρ s2).thenC ρ fun y s3 => match x, keyOf y with
  | .ref n, some k => match s3[n]? with
    | some (.dct kws) => if kws.length < lim then .nx ρ (s3.set n (.dct (putD kws k v))) else .no
    | _ => .no
  | _, _ => .no
theorem map_len {α β γ : Type} {l : List (α × β)} {l' : List (α × γ)} (h : l.map (·.1) = l'.map (·.1)) : l.length = l'.length := by
  have := congrArg List.length h
  rw [List.length_map, List.length_map] at this
  exact this
theorem ms_dput {o i value : Expr} {pos' : Pos} {fo fi fv : FE} (hu : X.A.units + 1 < cLine) (ho : ME X Γ W o fo) (hi : ME X Γ W i fi) (hv : ME X Γ W value fv) (hs : swapsWith value (some (.Subscript o i pos')) pos.line X.env = pure false) :
    MS X Γ W (.Assign [.Subscript o i pos'] value pos) (mDPut fo fi fv) :=
  PS.imp (ps_dput hu ho hi hv hs) fun D σ H ⟨μ, Z, ρ, s, hE, hR, q⟩ => eS hE hR q fun v s1 uv H1 μ1 e1 hE1 R1 r1 q1 => eS hE1 R1 q1 fun x s2 ux H2 μ2 e2 hE2 R2 r2 q2 => eS hE2 R2 q2 fun y s3 uy H3 μ3 e3 hE3 R3 r3 q3 => by
    split at q3
    · rename_i n k hk
      split at q3
      · rename_i kws q0
        split at q3
        · rename_i hl
          obtain ⟨p, h1, h2⟩ := r2.mono e3
          obtain ⟨p', g1, _, kvs, g3, g4, g5⟩ := R3.at n _ q0
          rw [h2] at g1
          cases g1
          have rv := (r1.mono e2).mono e3
          obtain ⟨k1, k2⟩ := putD_ok (k := k) rv g4 g5
          have ev : Evo H3 μ3 (upd H3 p (.dK (putK kvs k uv))) μ3 := Evo.put h2
          refine ⟨p, upd H3 p (.dK (putK kvs k uv)), h1, .inl ⟨kvs, k, g3, keyOf_ok r3 hk, by rw [map_len g4]; exact Nat.lt_of_lt_of_le hl (lim_ok (Nat.le_refl _)), rfl⟩, ?_⟩
          exact q3 σ _ μ3 ev (R3.put h2 ⟨_, upd_same, k1, k2.mono ev⟩) (hE3.mono ev)
        · exact q3.elim
      · exact q3.elim
    · exact q3.elim
end
end MP
set_option Elab.async false
set_option linter.all false
set_option maxRecDepth 100000
set_option maxHeartbeats 4000000
namespace MP
open PySem PySem.Spec PyProof.Rows L2
end MP
set_option Elab.async false
set_option linter.all false
set_option maxRecDepth 100000
set_option maxHeartbeats 4000000
namespace MP
open PySem PySem.Spec PyProof.Rows L2
def SqX (K : PySem.W.Frag) (H : Hp) (t : Bool) (a : Addr) (xs : List V) : Prop := if t = true then SqT K H a xs else SqL K H a xs
def ItX (h : Heap) (t : Bool) (it a : Addr) (i : Nat) : Prop := if t = true then h.IsTupleIter it a i else h.IsListIter it a i
def HasX (h : Heap) (t : Bool) (a : Addr) (its : Array Value) : Prop := if t = true then h.IsTuple a its else h.IsList a its
theorem ItX.at {h h' : Heap} {t : Bool} {it a : Addr} {i : Nat} (x : ItX h t it a i) (k : ∀ o, h.get? it = some o → h'.get? it = some o) : ItX h' t it a i := by
  unfold ItX at x ⊢
  cases t with
  | true => rw [if_pos rfl] at x ⊢; exact x.at k
  | false => rw [if_neg Bool.false_ne_true] at x ⊢; exact x.at k
theorem ItX.obj {h : Heap} {t : Bool} {it a : Addr} {i : Nat} (x : ItX h t it a i) : ∃ o, h.get? it = some o ∧ ∀ v, o.data ≠ .cell v := by
  unfold ItX at x
  cases t with
  | true => rw [if_pos rfl] at x; obtain ⟨o, e, _, d⟩ := x; exact ⟨o, e, fun v q => by rw [d] at q; cases q⟩
  | false => rw [if_neg Bool.false_ne_true] at x; obtain ⟨o, e, _, d⟩ := x; exact ⟨o, e, fun v q => by rw [d] at q; cases q⟩
theorem drawsX {prog : Program} {w : World} {A : Around} (hh : A.handled = none) (t : Bool) (it a : Addr) (hne : a ≠ it) (items : Array Value) :
    Draws prog w A it [it, a] items.size (fun i v => items[i]? = some v) (fun i h => ItX h t it a i ∧ HasX h t a items) := by
  unfold ItX HasX
  cases t with
  | true => exact Draws.tuple hh it a hne items
  | false => exact Draws.list hh it a hne items
theorem beginsX (t : Bool) (a : Addr) (items : Array Value) : Begins (.ref a) { cls := .type (if t = true then "tuple_iterator" else "list_iterator"), data := .fields #[.ref a, .int 0 0] } fun h => HasX h t a items := by
  unfold HasX
  cases t with
  | true => exact begins_tuple a items
  | false => exact begins_list a items
theorem SqX.has {X : Cx} {pins : List (Addr × Obj)} {σ : L2.St} {H : Hp} {s : Shared} {t : Bool} {a : Addr} {xs : List V} (I : Inv X pins σ H s) (h : SqX X.K H t a xs) : ∃ its : List Value, Vals xs its ∧ HasX s.heap t a its.toArray ∧ a < s.heap.objs.size := by
  unfold SqX at h
  unfold HasX
  cases t with
  | true =>
    rw [if_pos rfl] at h
    obtain ⟨its, r, p, _⟩ := I.tuple h
    exact ⟨its, r, p, p.lt⟩
  | false =>
    rw [if_neg Bool.false_ne_true] at h
    obtain ⟨its, r, p, _⟩ := I.list h
    exact ⟨its, r, p.isList, p.lt⟩
theorem SqX.inj {X : Cx} {pins : List (Addr × Obj)} {σ : L2.St} {H : Hp} {s : Shared} {t : Bool} {a : Addr} {xs ys : List V} (I : Inv X pins σ H s) (h : SqX X.K H t a xs) (h' : SqX X.K H t a ys) : xs = ys := by
  unfold SqX at h h'
  cases t with
  | true => rw [if_pos rfl] at h h'; exact I.tuple_inj h h'
  | false => rw [if_neg Bool.false_ne_true] at h h'; exact I.list_inj h h'
/-- an iterator of new tuples, by the library's own walk: a turn of ours -/
theorem turn_item {X : Cx} {tg : Expr} {it : Addr} {fp fp' wr : List Addr} {n i : Nat} {Y : Nat → Heap → Value → Heap → Prop} {St tn : Nat → Heap → Prop} {pins : List (Addr × Obj)} {s : Shared} {σ : L2.St} {H : Hp} {E : Value → Shared → Prop} {J : It} (I : Inv X pins σ H s) (hf : ∀ b ∈ fp, FpOk X pins H b) (live : ∀ b ∈ fp, b < s.heap.objs.size)
    (G : GoesN X.prog X.w X.A tg it fp' wr n Y St) (hi : i < n) (hst : St i s.heap) (hw : ∀ b ∈ wr, b ∈ fp) (next : ∀ h', (∀ b o, b ∉ wr → s.heap.get? b = some o → h'.get? b = some o) → St (i + 1) h' → tn (i + 1) h')
    (yl : ∀ v h', Y i s.heap v h' → ∃ T vals us, v = .ref T ∧ s.heap.objs.size ≤ T ∧ h'.IsTuple T us ∧ Vals vals us.toList ∧ vals.length ≤ sizeLine ∧ J.yld i H (.ref T) (upd H T (.tup vals))) :
    wpAny (model X.prog X.w) X.A (pyNext (.ref it)) (fun r s1 => ∃ u, r = some u ∧
      wpAny (model X.prog X.w) X.A (letOwnedTupleGo tg (.ref it) u) (fun _ s2 => ∃ x H', Inv X pins σ H' s2 ∧ RelV x u ∧ J.yld i H x H' ∧ tn (i + 1) s2.heap ∧ ∀ b ∈ fp, H' b = none) E s1) E s := by
  refine G.goes i s (fun u s2 => ∃ x H', Inv X pins σ H' s2 ∧ RelV x u ∧ J.yld i H x H' ∧ tn (i + 1) s2.heap ∧ ∀ b ∈ fp, H' b = none) E hi hst fun v h' tk hY st' hk _ => ?_
  obtain ⟨T, vals, us, rfl, hT, ht, rv, hl, hy⟩ := yl v h' hY
  have new : ObjOk X.prog X.w (upd H T (.tup vals)) h' T (.tup vals) := ⟨hl, us.toList, rv, by rw [Array.toArray_toList]; exact ht⟩
  have J1 : Inv X pins σ (upd H T (.tup vals)) { s with heap := h', toks := tk } := I.turnedNew (ch := fp) (fun b o hb q => hk b o (fun z => hb (hw b z)) q) hf hT new
  refine ⟨.ref T, _, J1, rfl, hy, next h' hk st', fun b hb => ?_⟩
  rw [upd_ne (Nat.ne_of_lt (Nat.lt_of_lt_of_le (live b hb) hT))]
  exact (hf b hb).1
def JZip (K : PySem.W.Frag) (t u : Bool) (a b : Addr) : It :=
  ⟨fun i H => ∃ (xs ys : List V) (x y : V), SqX K H t a xs ∧ SqX K H u b ys ∧ xs[i]? = some x ∧ ys[i]? = some y,
   fun i H v H' => ∃ T x y, v = .ref T ∧ H T = none ∧ H' = upd H T (.tup [x, y]) ∧ (∀ xs, SqX K H t a xs → xs[i]? = some x) ∧ ∀ ys, SqX K H u b ys → ys[i]? = some y,
   fun i H => ∃ xs ys : List V, SqX K H t a xs ∧ SqX K H u b ys ∧ min xs.length ys.length = i⟩
def ZipTn (t u : Bool) (a b : Addr) (N : Nat) (i : Nat) (h : Heap) : Prop := IsZip h (N + 4) (N + 2) (N + 3) .none ∧ IsTupOf2 h (N + 2) (.ref N) (.ref (N + 1)) ∧ (∃ x y, IsTupOf2 h (N + 3) x y) ∧ ItX h t N a i ∧ ItX h u (N + 1) b i
theorem turn_zipX {P : Program} {w : World} {K : PySem.W.Frag} {elts : List Expr} {kk : Nat} {tpos : Pos} {t u : Bool} {a b : Addr} {N : Nat} (la : a < N) (lb : b < N) :
    Turn P w K (.Tuple elts kk tpos) (JZip K t u a b) [N + 4, N + 2, N + 3, N, N + 1] (N + 4) (ZipTn t u a b N) where
  mem := by simp
  obj := fun i h st c hc => by
    obtain ⟨hz, hTI, ⟨x, y, hTO⟩, h1, h2⟩ := st
    have e : c = N + 4 ∨ c = N + 2 ∨ c = N + 3 ∨ c = N ∨ c = N + 1 := by simpa using hc
    rcases e with q | q | q | q | q
    · rw [q]; exact ⟨_, hz, fun v q => nomatch q⟩
    · rw [q]; exact ⟨_, hTI, fun v q => nomatch q⟩
    · rw [q]; exact ⟨_, hTO, fun v q => nomatch q⟩
    · rw [q]; exact h1.obj
    · rw [q]; exact h2.obj
  keep := fun i h h' st k => by
    obtain ⟨hz, hTI, ⟨x, y, hTO⟩, h1, h2⟩ := st
    exact ⟨k _ (by simp) _ hz, k _ (by simp) _ hTI, ⟨x, y, k _ (by simp) _ hTO⟩, h1.at fun o q => k N (by simp) o q, h2.at fun o q => k (N + 1) (by simp) o q⟩
  item := by
    intro X hP hw hK hc i pins s σ H E I hf st hg
    subst hP hw hK
    obtain ⟨xs, ys, x, y, hqx, hqy, hx, hy⟩ := hg
    obtain ⟨its, rv, p, _⟩ := hqx.has I
    obtain ⟨its2, rv2, p2, _⟩ := hqy.has I
    obtain ⟨v1, hv1, r1⟩ := rv.get hx
    obtain ⟨v2, hv2, r2⟩ := rv2.get hy
    have hh : X.A.in1.handled = none := I.ok.hd hc
    have sep := zip_sep2 (N := N) (fp1 := [a]) (fp2 := [b]) (by simpa using la) (by simpa using lb)
    have G := GoesN.zip2 (prog := X.prog) (w := X.w) (A := X.A) (elts := elts) (x1 := kk) (pos := tpos) sep (drawsX hh t N a (Nat.ne_of_lt la) its.toArray) (drawsX hh u (N + 1) b (Nat.ne_of_lt (Nat.lt_succ_of_lt lb)) its2.toArray)
    obtain ⟨hz, hTI, hTO, h1, h2⟩ := id st
    have l1 := (List.getElem?_eq_some_iff.mp hv1).1
    have l2 := (List.getElem?_eq_some_iff.mp hv2).1
    have liveX : ∀ c ∈ [N + 4, N + 2, N + 3, N, N + 1], c < s.heap.objs.size := fun c hc => by
      have hN : N + 4 < s.heap.objs.size := Heap.lt_size hz
      have e : c = N + 4 ∨ c = N + 2 ∨ c = N + 3 ∨ c = N ∨ c = N + 1 := by simpa using hc
      omega
    refine turn_item (tn := ZipTn t u a b N) I hf liveX G (by simp; omega) ⟨hz, hTI, hTO, ⟨h1, p⟩, h2, p2⟩ (fun c hc => by
      have e : c = N + 4 ∨ c = N + 3 ∨ c = N ∨ c = N + 1 := by simpa using hc
      rcases e with q | q | q | q <;> (rw [q]; simp)) (fun h' _ st' => show ZipTn t u a b N (i + 1) h' from ⟨st'.1, st'.2.1, st'.2.2.1, st'.2.2.2.1.1, st'.2.2.2.2.1⟩) fun v h' hY => ?_
    obtain ⟨T, c1, c2, rfl, hT, e1, e2, ht⟩ := hY
    have e1' : its[i]? = some c1 := by simpa using e1
    have e2' : its2[i]? = some c2 := by simpa using e2
    rw [hv1] at e1'
    rw [hv2] at e2'
    cases e1'
    cases e2'
    exact ⟨T, [x, y], #[v1, v2], rfl, hT, ht, .cons r1 (.cons r2 .nil), (show 2 ≤ sizeLine by rw [sizeLine_eq]; decide), T, x, y, rfl, I.hok.fresh hT, rfl, fun l hl => by rw [SqX.inj I hl hqx]; exact hx, fun l hl => by rw [SqX.inj I hl hqy]; exact hy⟩
  done := by
    intro X hP hw hK hc i pins s σ H E I hf st hg
    subst hP hw hK
    obtain ⟨xs, ys, hqx, hqy, hend⟩ := hg
    obtain ⟨its, rv, p, _⟩ := hqx.has I
    obtain ⟨its2, rv2, p2, _⟩ := hqy.has I
    have hh : X.A.in1.handled = none := I.ok.hd hc
    have sep := zip_sep2 (N := N) (fp1 := [a]) (fp2 := [b]) (by simpa using la) (by simpa using lb)
    have G := GoesN.zip2 (prog := X.prog) (w := X.w) (A := X.A) (elts := elts) (x1 := kk) (pos := tpos) sep (drawsX hh t N a (Nat.ne_of_lt la) its.toArray) (drawsX hh u (N + 1) b (Nat.ne_of_lt (Nat.lt_succ_of_lt lb)) its2.toArray)
    obtain ⟨hz, hTI, hTO, h1, h2⟩ := id st
    have l1 := rv.length
    have l2 := rv2.length
    have hn : min its.toArray.size its2.toArray.size = i := by simp; omega
    rw [hn] at G
    exact G.stops s (fun s1 => Inv X pins σ H s1) E ⟨hz, hTI, hTO, ⟨h1, p⟩, h2, p2⟩ fun h' tk hk _ => I.turnedL (ch := [N + 4, N + 2, N + 3, N, N + 1]) (fun c o hb q => hk c o (fun z => hb (by
      have e : c = N + 4 ∨ c = N + 3 ∨ c = N ∨ c = N + 1 := by simpa using z
      rcases e with q | q | q | q <;> (rw [q]; simp))) q) hf
  self := fun A i s Q E st h => wpAny_pyIter_zip st.1 h
def JEnum (K : PySem.W.Frag) (t : Bool) (a : Addr) : It :=
  ⟨fun i H => ∃ (xs : List V) (x : V), SqX K H t a xs ∧ xs[i]? = some x,
   fun i H v H' => ∃ T x, v = .ref T ∧ H T = none ∧ H' = upd H T (.tup [.int (i : Nat), x]) ∧ ∀ xs, SqX K H t a xs → xs[i]? = some x,
   fun i H => ∃ xs : List V, SqX K H t a xs ∧ xs.length = i⟩
def EnumTn (t : Bool) (a : Addr) (N : Nat) (i : Nat) (h : Heap) : Prop := (∃ old, IsEnum h (N + 1) N ((0 : Int) + (i : Int)) old) ∧ ItX h t N a i
theorem turn_enumX {P : Program} {w : World} {K : PySem.W.Frag} {elts : List Expr} {kk : Nat} {tpos : Pos} {t : Bool} {a : Addr} {N : Nat} (la : a < N) :
    Turn P w K (.Tuple elts kk tpos) (JEnum K t a) [N + 1, N] (N + 1) (EnumTn t a N) where
  mem := by simp
  obj := fun i h st c hc => by
    obtain ⟨⟨old, he⟩, h1⟩ := st
    have e : c = N + 1 ∨ c = N := by simpa using hc
    rcases e with q | q
    · rw [q]; exact ⟨_, he, fun v q => nomatch q⟩
    · rw [q]; exact h1.obj
  keep := fun i h h' st k => by
    obtain ⟨⟨old, he⟩, h1⟩ := st
    exact ⟨⟨old, k _ (by simp) _ he⟩, h1.at fun o q => k N (by simp) o q⟩
  item := by
    intro X hP hw hK hc i pins s σ H E I hf st hg
    subst hP hw hK
    obtain ⟨xs, x, hqx, hx⟩ := hg
    obtain ⟨its, rv, p, _⟩ := hqx.has I
    obtain ⟨v1, hv1, r1⟩ := rv.get hx
    have hh : X.A.in1.handled = none := I.ok.hd hc
    have nf : N + 1 ∉ [N, a] := fun m => by
      rcases List.mem_cons.mp m with e | e
      · exact Nat.succ_ne_self N e
      · exact Nat.lt_irrefl a (Nat.lt_trans la ((List.mem_singleton.mp e) ▸ Nat.lt_succ_self N))
    have G := GoesN.enumFrom (prog := X.prog) (w := X.w) (A := X.A) (elts := elts) (x1 := kk) (pos := tpos) 0 (drawsX hh t N a (Nat.ne_of_lt la) its.toArray) (N + 1) (Nat.succ_ne_self N) nf (by simp)
    obtain ⟨⟨old, he⟩, h1⟩ := id st
    have l1 := (List.getElem?_eq_some_iff.mp hv1).1
    have liveX : ∀ c ∈ [N + 1, N], c < s.heap.objs.size := fun c hc => by
      have hN : N + 1 < s.heap.objs.size := Heap.lt_size he
      have e : c = N + 1 ∨ c = N := by simpa using hc
      omega
    refine turn_item (tn := EnumTn t a N) I hf liveX G (by simpa using l1) ⟨⟨old, he⟩, h1, p⟩ (fun c hc => hc) (fun h' _ st' => show EnumTn t a N (i + 1) h' from ⟨st'.1, st'.2.1⟩) fun v h' hY => ?_
    obtain ⟨T, tt, c1, rfl, hT, e1, ht⟩ := hY
    have e1' : its[i]? = some c1 := by simpa using e1
    rw [hv1] at e1'
    cases e1'
    rw [Int.zero_add] at ht
    exact ⟨T, [.int (i : Nat), x], #[.int (i : Nat) tt, v1], rfl, hT, ht, .cons ⟨tt, rfl⟩ (.cons r1 .nil), (show 2 ≤ sizeLine by rw [sizeLine_eq]; decide), T, x, rfl, I.hok.fresh hT, rfl, fun l hl => by rw [SqX.inj I hl hqx]; exact hx⟩
  done := by
    intro X hP hw hK hc i pins s σ H E I hf st hg
    subst hP hw hK
    obtain ⟨xs, hqx, hend⟩ := hg
    obtain ⟨its, rv, p, _⟩ := hqx.has I
    have hh : X.A.in1.handled = none := I.ok.hd hc
    have nf : N + 1 ∉ [N, a] := fun m => by
      rcases List.mem_cons.mp m with e | e
      · exact Nat.succ_ne_self N e
      · exact Nat.lt_irrefl a (Nat.lt_trans la ((List.mem_singleton.mp e) ▸ Nat.lt_succ_self N))
    have G := GoesN.enumFrom (prog := X.prog) (w := X.w) (A := X.A) (elts := elts) (x1 := kk) (pos := tpos) 0 (drawsX hh t N a (Nat.ne_of_lt la) its.toArray) (N + 1) (Nat.succ_ne_self N) nf (by simp)
    obtain ⟨⟨old, he⟩, h1⟩ := id st
    have l1 := rv.length
    have hn : its.toArray.size = i := by simp; omega
    rw [hn] at G
    exact G.stops s (fun s1 => Inv X pins σ H s1) E ⟨⟨old, he⟩, h1, p⟩ fun h' tk hk _ => I.turnedL (ch := [N + 1, N]) (fun c o hb q => hk c o hb q) hf
  self := fun A i s Q E st h => let ⟨⟨_, he⟩, _⟩ := st; wpAny_pyIter_enum he h
section
variable {X : Cx} {Γ : Ct} {W : WX}
def iZipG (K : PySem.W.Frag) (ta : TA) : TI := fun σ H R => ta σ H fun vs H1 => ∃ t u a b xs ys, vs = [.ref a, .ref b] ∧ SqX K H1 t a xs ∧ SqX K H1 u b ys ∧ R (JZip K t u a b) H1
theorem pi_zipG {e e2 : Expr} {ta : TA} {p pos tpos : Pos} {elts : List Expr} {kk : Nat} (hg : Gl X "zip") (hm : X.mg "zip" = none) (ha : PA X [e, e2] ta) (hs : starEach [e, e2] X.env = (false, eval e X.env) :: starEach [e2] X.env := by rfl) (hpl : (backTo pos (starEach [e2] X.env)).any (·.1) = false := by rfl) :
    PI X (.Tuple elts kk tpos) (.Call (.Name "zip" p) [e, e2] [] pos) (iZipG X.K ta) := by
  refine ⟨fun pins s σ H R I h => ?_⟩
  refine Call_ (ld_blt I hg hm boot_zip (callWith_type1 (thn (ha.run pos pins s σ H _ I h) fun us s1 ⟨vs, H1, I1, r1, q1⟩ => ?_) hs hpl))
  obtain ⟨t, u, a, b, xs, ys, rfl, hqx, hqy, q⟩ := q1
  obtain ⟨v, us', rfl, rfl⟩ : ∃ v us', us = v :: us' ∧ v = Value.ref a := by cases r1 with | cons r rr => exact ⟨_, _, rfl, r⟩
  obtain ⟨v', rfl, rfl⟩ : ∃ v', us' = [v'] ∧ v' = Value.ref b := by
    cases r1 with
    | cons r rr => cases rr with
      | cons r' rr' => cases rr'; exact ⟨_, rfl, r'⟩
  obtain ⟨its, rv, p1, la⟩ := hqx.has I1
  obtain ⟨its2, rv2, p2, lb⟩ := hqy.has I1
  refine zip_begins2 (beginsX t a its.toArray) (beginsX u b its2.toArray) p1 p2 fun h' hz hTI hTO h1 h2 _ hk => wpAny_pyIter_zip hz ?_
  have I2 : Inv X pins σ H1 { s1 with heap := h' } := I1.kept (t' := s1.toks) hk
  refine ⟨_, [s1.heap.objs.size + 4, s1.heap.objs.size + 2, s1.heap.objs.size + 3, s1.heap.objs.size, s1.heap.objs.size + 1], _, _, H1, rfl, I2, turn_zipX la lb, ⟨hz, hTI, ⟨_, _, hTO⟩, ?_, ?_⟩, fun c hc => ?_, q⟩
  · unfold ItX
    cases t with
    | true => exact ⟨_, h1, rfl, rfl⟩
    | false => exact ⟨_, h1, rfl, rfl⟩
  · unfold ItX
    cases u with
    | true => exact ⟨_, h2, rfl, rfl⟩
    | false => exact ⟨_, h2, rfl, rfl⟩
  · have e' : c = s1.heap.objs.size + 4 ∨ c = s1.heap.objs.size + 2 ∨ c = s1.heap.objs.size + 3 ∨ c = s1.heap.objs.size ∨ c = s1.heap.objs.size + 1 := by simpa using hc
    have hle : s1.heap.objs.size ≤ c := by rcases e' with z | z | z | z | z <;> (rw [z]; first | exact Nat.le_refl _ | exact Nat.le_add_right _ _)
    exact I1.fpOk hle (I1.hok.fresh hle)
def zipD : List Dv → List Dv → List Dv
  | a :: r, b :: t => .tup [a, b] :: zipD r t
  | _, _ => []
theorem zipD_len : ∀ (l m : List Dv), (zipD l m).length = min l.length m.length
  | [], _ => by simp [zipD]
  | _ :: _, [] => by simp [zipD]
  | a :: r, b :: t => by simp [zipD, zipD_len r t]
theorem zipD_get : ∀ {l m : List Dv} {i : Nat} {w : Dv}, (zipD l m)[i]? = some w → ∃ x y, l[i]? = some x ∧ m[i]? = some y ∧ w = .tup [x, y]
  | [], _, _, _, h => by simp [zipD] at h
  | _ :: _, [], _, _, h => by simp [zipD] at h
  | a :: r, b :: t, 0, w, h => by simp [zipD] at h; exact ⟨a, b, rfl, rfl, h.symm⟩
  | a :: r, b :: t, i + 1, w, h => by
    have h' : (zipD r t)[i]? = some w := by simpa [zipD] using h
    obtain ⟨x, y, h1, h2, h3⟩ := zipD_get h'
    exact ⟨x, y, by simpa using h1, by simpa using h2, h3⟩
/-- a plain sequence, not of the store -/
def plainOf : Dv → Option (Bool × List Dv)
  | .tup ws => some (true, ws)
  | .lst ws => some (false, ws)
  | .sq ws => some (false, ws)
  | _ => none
theorem plain_ok {H : Hp} {μ : Mu} {Z : Zs} {w : Dv} {v : V} {t : Bool} {ws : List Dv} (r : RV Γ H μ Z w v) (e : plainOf w = some (t, ws)) : ∃ a xs, v = .ref a ∧ RVs Γ H μ Z ws xs ∧ ∀ H' μ', EvoZ Z H μ H' μ' → SqX Γ.K H' t a xs := by
  cases w with
  | tup us =>
    cases e
    obtain ⟨a, xs, h1, h2, h3⟩ := r
    exact ⟨a, xs, h1, h3, fun H' μ' ev => (h2.monoZ ev).sq⟩
  | sq us =>
    cases e
    obtain ⟨a, xs, h1, h2, h3⟩ := r
    exact ⟨a, xs, h1, h3, fun H' μ' ev => (h2.monoZ ev).sq⟩
  | lst us =>
    cases e
    obtain ⟨a, xs, h1, h2, h3, h4⟩ := r
    exact ⟨a, xs, h1, h4, fun H' μ' ev => SqL.of (ev.keep _ _ h2 h3.1 h3.2)⟩
  | _ => cases e
def iZip2 (fa : FA) : FI := fun ρ s => (fa ρ s).bind fun ws s1 => match ws with
  | [x, y] => match plainOf x, plainOf y with
    | some (_, a), some (_, b) => .ok { ws := zipD a b } s1
    | _, _ => .no
  | _ => .no
theorem mi_zip {e e2 : Expr} {fa : FA} {p pos tpos : Pos} {elts : List Expr} {kk : Nat} (hK : Γ.K = X.K) (hg : Gl X "zip") (hm : X.mg "zip" = none) (ha : MA X Γ W [e, e2] fa) (hs : starEach [e, e2] X.env = (false, eval e X.env) :: starEach [e2] X.env := by rfl) (hpl : (backTo pos (starEach [e2] X.env)).any (·.1) = false := by rfl) :
    MI X Γ W (.Tuple elts kk tpos) (.Call (.Name "zip" p) [e, e2] [] pos) (iZip2 fa) :=
  PI.imp (pi_zipG hg hm ha hs hpl) fun σ H Q ⟨μ, Z, ρ, s, hE, hR, q⟩ => iA hE hR q fun ws s1 vs H1 μ1 e1 E1 R1 r1 q1 => by
    split at q1
    · rename_i x y
      split at q1
      · rename_i t a u b qx qy
        obtain ⟨v, v', rfl, rx, ry⟩ := two r1
        obtain ⟨pa, xs, rfl, r2, k2⟩ := plain_ok rx qx
        obtain ⟨pb, ys, rfl, r3, k3⟩ := plain_ok ry qy
        rw [← hK]
        refine ⟨t, u, pa, pb, xs, ys, rfl, k2 _ _ Evo.refl.z, k3 _ _ Evo.refl.z, q1 _ _ _ .refl R1 fun H' μ' Z' s' ev hR' hy hz _ => ⟨⟨xs, ys, k2 _ _ ev, k3 _ _ ev, by rw [zipD_len, r2.len, r3.len]⟩, fun i w hi => ?_⟩⟩
        obtain ⟨x', y', g1, g2, rfl⟩ := zipD_get hi
        obtain ⟨ux, h1, h2⟩ := r2.get g1
        obtain ⟨uy, h3, h4⟩ := r3.get g2
        refine ⟨⟨xs, ys, ux, uy, k2 _ _ ev, k3 _ _ ev, h1, h3⟩, fun z H'' hq => ?_⟩
        obtain ⟨T, zx, zy, rfl, hT, rfl, j1, j2⟩ := hq
        have e3 := j1 xs (k2 _ _ ev)
        have e4 := j2 ys (k3 _ _ ev)
        rw [h1] at e3
        rw [h3] at e4
        cases e3
        cases e4
        exact ⟨Evo.laid hT, hR'.laid hT, new_tup hR' hT (RVs.cons ((RV.strong hz _ h2).monoZ (ev.more hy)) (RVs.cons ((RV.strong hz _ h4).monoZ (ev.more hy)) RVs.nil))⟩
      · exact q1.elim
    · exact q1.elim
def iEnumG (K : PySem.W.Frag) (ta : TA) : TI := fun σ H R => ta σ H fun vs H1 => ∃ t a xs, vs = [.ref a] ∧ SqX K H1 t a xs ∧ R (JEnum K t a) H1
def enumD : Nat → List Dv → List Dv
  | _, [] => []
  | n, a :: r => .tup [.int (n : Nat), a] :: enumD (n + 1) r
theorem enumD_len : ∀ (n : Nat) (l : List Dv), (enumD n l).length = l.length
  | _, [] => rfl
  | n, a :: r => by simp [enumD, enumD_len (n + 1) r]
theorem enumD_get : ∀ {l : List Dv} {n i : Nat} {w : Dv}, (enumD n l)[i]? = some w → ∃ x, l[i]? = some x ∧ w = .tup [.int ((n + i : Nat) : Int), x]
  | [], _, _, _, h => by simp [enumD] at h
  | a :: r, n, 0, w, h => by simp [enumD] at h; exact ⟨a, rfl, h.symm⟩
  | a :: r, n, i + 1, w, h => by
    have h' : (enumD (n + 1) r)[i]? = some w := by simpa [enumD] using h
    obtain ⟨x, h1, h2⟩ := enumD_get h'
    exact ⟨x, by simpa using h1, by rw [h2]; simp; omega⟩
def iEnum1 (fa : FA) : FI := fun ρ s => (fa ρ s).bind fun ws s1 => match ws with
  | [x] => match plainOf x with
    | some (_, a) => .ok { ws := enumD 0 a } s1
    | none => .no
  | _ => .no
end
end MP
set_option Elab.async false
set_option linter.all false
set_option maxRecDepth 100000
set_option maxHeartbeats 4000000
namespace MP
open PySem PySem.Spec PyProof.Rows L2
theorem enum_new {v : Value} {o : Obj} {Hh : Heap → Prop} (B : Begins v o Hh) : Meets (Builtin.«enumerate.__new__» ⟨[.type "enumerate", v], []⟩) (fun _ R s => Hh s.heap ∧
    R (.ok (.ret (.ref (s.heap.push o).objs.size))) { s with heap := (s.heap.push o).push { cls := .type "enumerate", data := .fields #[.none, .bool false, .ref s.heap.objs.size, rawInt 0, .none, .none] } }) :=
  .of_wp fun prog w A R s h => by
    obtain ⟨hp, g, d, tk, os⟩ := s
    obtain ⟨h1, h⟩ := h
    have hsub := sub_enumerate
    have it : ∀ {A' : Around} {E Q : Value → Shared → Prop}, Q (.ref hp.objs.size) ⟨hp.push o, g, d, tk, os⟩ → wpAny (model prog w) A' (pyIter v) Q E ⟨hp, g, d, tk, os⟩ := fun q => B.iter prog w _ _ ⟨hp, g, d, tk, os⟩ _ h1 q
    wp_walk using it
    refine wpAny_stack_any fun st => wpAny_pure ?_
    split
    · rename_i c _ _ _ _ _
      cases (c == Value.type "enumerate") <;> (wp_walk using it; exact ⟨_, rfl, h⟩)
    · wp_walk using it
      exact ⟨_, rfl, h⟩
section
variable {prog : Program} {w : World} {A : Around} {E : Value → Shared → Prop} {s : Shared}
theorem enum_call {v : Value} {o : Obj} {Hh : Heap → Prop} {Q : Value → Shared → Prop} (B : Begins v o Hh) (h1 : Hh s.heap)
    (h : ∀ h', IsEnum h' (s.heap.objs.size + 1) s.heap.objs.size 0 .none → h'.get? s.heap.objs.size = some o → (∀ b o, s.heap.get? b = some o → h'.get? b = some o) → Q (.ref (s.heap.objs.size + 1)) { s with heap := h' }) :
    wpAny (model prog w) A (call (.type "enumerate") [v]) Q E s := by
  refine callType_new F.called_enumerate (by decide) (F.typeCall_enumerate_1 _) (F.newCall_enumerate_1 _) (fun obj => F.args_object_init_2 obj _) F.entry_enumerate_new (enum_new B) ⟨h1, ?_⟩
  have sz : (s.heap.push o).objs.size = s.heap.objs.size + 1 := Heap.size_push ..
  show _ ∧ _
  rw [sz]
  have e := Heap.get?_push_size (s.heap.push o) (o := { cls := .type "enumerate", data := .fields #[.none, .bool false, .ref s.heap.objs.size, rawInt 0, .none, .none] }) rfl
  rw [sz] at e
  exact ⟨⟨_, e, rfl⟩, h _ e (Heap.get?_push_of_some _ (Heap.get?_push_size _ B.free)) fun b o x => Heap.get?_push_of_some _ (Heap.get?_push_of_some _ x)⟩
end
section
variable {X : Cx} {Γ : Ct} {W : WX}
theorem pi_enumG {e : Expr} {ta : TA} {p pos tpos : Pos} {elts : List Expr} {kk : Nat} (hg : Gl X "enumerate") (hm : X.mg "enumerate" = none) (ha : PA X [e] ta) (hs : starEach [e] X.env = [(false, eval e X.env)] := by rfl) :
    PI X (.Tuple elts kk tpos) (.Call (.Name "enumerate" p) [e] [] pos) (iEnumG X.K ta) := by
  refine ⟨fun pins s σ H R I h => ?_⟩
  refine Call_ (ld_blt I hg hm boot_enumerate (callWith_type1 (thn (ha.run pos pins s σ H _ I h) fun us s1 ⟨vs, H1, I1, r1, q1⟩ => ?_) hs rfl))
  obtain ⟨t, a, xs, rfl, hqx, q⟩ := q1
  obtain ⟨v, rfl, rfl⟩ : ∃ v, us = [v] ∧ v = Value.ref a := by
    cases r1 with
    | cons r rr => cases rr; exact ⟨_, rfl, r⟩
  obtain ⟨its, rv, p1, la⟩ := hqx.has I1
  refine enum_call (beginsX t a its.toArray) p1 fun h' he h1 hk => wpAny_pyIter_enum he ?_
  have I2 : Inv X pins σ H1 { s1 with heap := h' } := I1.kept (t' := s1.toks) hk
  refine ⟨_, [s1.heap.objs.size + 1, s1.heap.objs.size], _, _, H1, rfl, I2, turn_enumX la, ⟨⟨.none, he⟩, ?_⟩, fun c hc => ?_, q⟩
  · unfold ItX
    cases t with
    | true => exact ⟨_, h1, rfl, rfl⟩
    | false => exact ⟨_, h1, rfl, rfl⟩
  · have e' : c = s1.heap.objs.size + 1 ∨ c = s1.heap.objs.size := by simpa using hc
    have hle : s1.heap.objs.size ≤ c := by rcases e' with z | z <;> (rw [z]; first | exact Nat.le_refl _ | exact Nat.le_add_right _ _)
    exact I1.fpOk hle (I1.hok.fresh hle)
theorem mi_enum {e : Expr} {fa : FA} {p pos tpos : Pos} {elts : List Expr} {kk : Nat} (hK : Γ.K = X.K) (hg : Gl X "enumerate") (hm : X.mg "enumerate" = none) (ha : MA X Γ W [e] fa) (hs : starEach [e] X.env = [(false, eval e X.env)] := by rfl) :
    MI X Γ W (.Tuple elts kk tpos) (.Call (.Name "enumerate" p) [e] [] pos) (iEnum1 fa) :=
  PI.imp (pi_enumG hg hm ha hs) fun σ H Q ⟨μ, Z, ρ, s, hE, hR, q⟩ => iA hE hR q fun ws s1 vs H1 μ1 e1 E1 R1 r1 q1 => by
    split at q1
    · rename_i x
      split at q1
      · rename_i t a qx
        obtain ⟨v, rfl, rx⟩ := one r1
        obtain ⟨pa, xs, rfl, r2, k2⟩ := plain_ok rx qx
        rw [← hK]
        refine ⟨t, pa, xs, rfl, k2 _ _ Evo.refl.z, q1 _ _ _ .refl R1 fun H' μ' Z' s' ev hR' hy hz _ => ⟨⟨xs, k2 _ _ ev, by rw [enumD_len, r2.len]⟩, fun i w hi => ?_⟩⟩
        obtain ⟨x', g1, rfl⟩ := enumD_get hi
        obtain ⟨ux, h1, h2⟩ := r2.get g1
        refine ⟨⟨xs, ux, k2 _ _ ev, h1⟩, fun z H'' hq => ?_⟩
        obtain ⟨T, zx, rfl, hT, rfl, j1⟩ := hq
        have e3 := j1 xs (k2 _ _ ev)
        rw [h1] at e3
        cases e3
        rw [Nat.zero_add]
        exact ⟨Evo.laid hT, hR'.laid hT, new_tup hR' hT (RVs.cons (w := .int (i : Nat)) rfl (RVs.cons ((RV.strong hz _ h2).monoZ (ev.more hy)) RVs.nil))⟩
      · exact q1.elim
    · exact q1.elim
def disp : Dv → Bool
  | .tup _ => true | .lst _ => true | .sq _ => true | .ref _ => true
  | _ => false
def reprD : ON := fun s xs => match xs with
  | [x] => if disp x = true then match toD s x with
      | some d => if d.showable = true ∧ d.hasDict = false ∧ d.depth ≤ 60 ∧ d.shown.length ≤ lim then some (.str d.shown) else none
      | none => none
    else none
  | _ => none
theorem sRepr (hK : Γ.K = X.K) : OpN Γ (rRepr X.K) reprD := fun H μ Z s xs w vs Q hR rx e k => by
  rw [← hK]
  unfold reprD at e
  split at e
  · rename_i x
    split at e
    · rename_i hd
      split at e
      · rename_i d q
        split at e
        · rename_i hc
          cases e
          obtain ⟨v, rfl, r1⟩ := one rx
          have hv : ∃ a, v = .ref a := by
            cases x with
            | tup _ => obtain ⟨a, _, h, _⟩ := r1; exact ⟨a, h⟩
            | lst _ => obtain ⟨a, _, h, _⟩ := r1; exact ⟨a, h⟩
            | sq _ => obtain ⟨a, _, h, _⟩ := r1; exact ⟨a, h⟩
            | ref _ => obtain ⟨a, h, _⟩ := r1; exact ⟨a, h⟩
            | _ => cases hd
          obtain ⟨a, rfl⟩ := hv
          exact ⟨_, a, d, rfl, rfl, toD_ok hR r1 q, hc.1, hc.2.1, hc.2.2.1, lim_ok hc.2.2.2, k _ H .refl hR rfl⟩
        · cases e
      · cases e
    · cases e
  · cases e
def mPairs : List (FE × FE) → Env → Sto → R (List (Dv × Dv))
  | [], _, s => .ok [] s
  | (f, g) :: r, ρ, s => (f ρ s).bind fun x s1 => (g ρ s1).bind fun y s2 => (mPairs r ρ s2).bind fun ps s3 => .ok ((x, y) :: ps) s3
def keysOf : List (Dv × Dv) → Option (List (Key × Dv))
  | [] => some []
  | (x, y) :: r => match keyOf x, keysOf r with
    | some k, some l => some ((k, y) :: l)
    | _, _ => none
def mDctM (ps : List (FE × FE)) : FE := fun ρ s => match mPairs ps ρ s with
  | .ok l s1 => match keysOf l with
    | some kws => if kws.length ≤ 15 then .ok (.ref s1.length) (s1 ++ [.dct (kws.foldl (fun acc kv => putD acc kv.1 kv.2) [])]) else .no
    | none => .no
  | _ => .no
theorem pairs_ok {Z : Zs} {σ : L2.St} {ρ : Env} : ∀ {ps : List (FE × FE)} {H : Hp} {μ : Mu} {s s' : Sto} {l : List (Dv × Dv)} {Q' : List (V × V) → Hp → Prop}, RE Γ H μ Z ρ σ → Rep Γ H μ Z s → mPairs ps ρ s = .ok l s' →
    (∀ vs H1 μ1, Evo H μ H1 μ1 → Rep Γ H1 μ1 Z s' → RVs Γ H1 μ1 Z (l.map (·.1)) (vs.map (·.1)) → RVs Γ H1 μ1 Z (l.map (·.2)) (vs.map (·.2)) → Q' vs H1) →
    tPairs (ps.map fun p => (rdE Γ W p.1, rdE Γ W p.2)) σ H Q'
  | [], H, μ, s, s', l, Q', hE, hR, q, hk => by
    cases q
    exact hk [] H μ .refl hR rfl rfl
  | (f, g) :: r, H, μ, s, s', l, Q', hE, hR, q, hk => by
    simp only [mPairs] at q
    cases e1 : f ρ s with
    | no => rw [e1] at q; cases q
    | er x s1 => rw [e1] at q; cases q
    | ok x s1 =>
      rw [e1] at q
      dsimp only [R.bind] at q
      cases e2 : g ρ s1 with
      | no => rw [e2] at q; cases q
      | er y s2 => rw [e2] at q; cases q
      | ok y s2 =>
        rw [e2] at q
        dsimp only at q
        cases e3 : mPairs r ρ s2 with
        | no => rw [e3] at q; cases q
        | er y s2 => rw [e3] at q; cases q
        | ok l' s3 =>
          rw [e3] at q
          cases q
          refine ⟨μ, Z, ρ, s, hE, hR, ?_⟩
          show PostE Γ W H μ Z σ _ (f ρ s)
          rw [e1]
          intro u H1 μ1 v1 R1 r1
          refine ⟨μ1, Z, ρ, s1, hE.mono v1, R1, ?_⟩
          show PostE Γ W H1 μ1 Z σ _ (g ρ s1)
          rw [e2]
          intro v H2 μ2 v2 R2 r2
          exact pairs_ok ((hE.mono v1).mono v2) R2 e3 fun vs H3 μ3 v3 R3 g1 g2 => hk ((u, v) :: vs) H3 μ3 ((v1.trans v2).trans v3) R3 (RVs.cons ((r1.mono v2).mono v3) g1) (RVs.cons (r2.mono v3) g2)
theorem keysOf_ok {H : Hp} {μ : Mu} {Z : Zs} : ∀ {l : List (Dv × Dv)} {vs : List (V × V)} {kws : List (Key × Dv)}, RVs Γ H μ Z (l.map (·.1)) (vs.map (·.1)) → RVs Γ H μ Z (l.map (·.2)) (vs.map (·.2)) → keysOf l = some kws →
    ∃ kvs : List (Key × V), vs = kvs.map (fun kv => (kV kv.1, kv.2)) ∧ kvs.map (·.1) = kws.map (·.1) ∧ RVs Γ H μ Z (kws.map (·.2)) (kvs.map (·.2))
  | [], vs, _, h1, _, e => by
    cases e
    cases vs with
    | nil => exact ⟨[], rfl, rfl, rfl⟩
    | cons _ _ => cases h1
  | (x, y) :: l, vs, kws, h1, h2, e => by
    cases vs with
    | nil => obtain ⟨_, _, z, _⟩ := h1; cases z
    | cons p vs =>
      obtain ⟨u, us, z1, r1, r2⟩ := h1
      obtain ⟨v, ws, z2, r3, r4⟩ := h2
      obtain ⟨a1, a2⟩ := List.cons.inj z1
      obtain ⟨b1, b2⟩ := List.cons.inj z2
      simp only [keysOf] at e
      split at e
      · rename_i k l' e1 e2
        cases e
        obtain ⟨kvs, c1, c2, c3⟩ := keysOf_ok (a2 ▸ r2) (b2 ▸ r4) e2
        refine ⟨(k, v) :: kvs, ?_, by rw [List.map_cons, List.map_cons, c2], RVs.cons r3 c3⟩
        rw [List.map_cons, ← c1]
        have p1 : p.1 = u := a1
        have p2 : p.2 = v := b1
        show p :: vs = (kV k, v) :: vs
        rw [← keyOf_ok r1 e1, ← p1, ← p2]
      · cases e
theorem merge_ok {H : Hp} {μ : Mu} {Z : Zs} : ∀ {kws acc : List (Key × Dv)} {kvs bcc : List (Key × V)}, kvs.map (·.1) = kws.map (·.1) → RVs Γ H μ Z (kws.map (·.2)) (kvs.map (·.2)) → bcc.map (·.1) = acc.map (·.1) → RVs Γ H μ Z (acc.map (·.2)) (bcc.map (·.2)) →
    (mergeK bcc kvs).map (·.1) = (kws.foldl (fun acc kv => putD acc kv.1 kv.2) acc).map (·.1) ∧ RVs Γ H μ Z ((kws.foldl (fun acc kv => putD acc kv.1 kv.2) acc).map (·.2)) ((mergeK bcc kvs).map (·.2))
  | [], acc, kvs, bcc, h1, _, h3, h4 => by
    cases kvs with
    | nil => exact ⟨h3, h4⟩
    | cons _ _ => cases h1
  | p :: kws, acc, kvs, bcc, h1, h2, h3, h4 => by
    cases kvs with
    | nil => cases h1
    | cons q kvs =>
      obtain ⟨a1, a2⟩ := List.cons.inj h1
      obtain ⟨v, vs, z, r1, r2⟩ := h2
      obtain ⟨b1, b2⟩ := List.cons.inj z
      subst b1
      have a1' : q.1 = p.1 := a1
      obtain ⟨c1, c2⟩ := putD_ok (k := p.1) r1 h3 h4
      have := merge_ok (kws := kws) (acc := putD acc p.1 p.2) (kvs := kvs) (bcc := putK bcc p.1 q.2) a2 (b2 ▸ r2) c1 c2
      show (mergeK (putK bcc q.1 q.2) kvs).map (·.1) = _ ∧ RVs Γ H μ Z _ ((mergeK (putK bcc q.1 q.2) kvs).map (·.2))
      rw [a1']
      exact this
theorem ext_fz {μ : Mu} {Z : Zs} {n : Nat} {p a : Addr} (f : Fz μ (hid p Z) a) : Fz (MP.ext μ n p) Z a := ⟨fun m h => by
  unfold MP.ext at h
  split at h
  · cases h; exact f.2 (.inl rfl)
  · exact f.1 m h, fun z => f.2 (.inr z)⟩
theorem ext_mu {μ : Mu} {n m : Nat} {p a : Addr} (hn : μ n = none) (h : μ m = some a) : MP.ext μ n p m = some a := by
  unfold MP.ext
  rw [if_neg fun z => by rw [z, hn] at h; cases h]
  exact h
mutual
theorem RV.adopt {H : Hp} {μ : Mu} {Z : Zs} {n : Nat} {p : Addr} (hn : μ n = none) : ∀ (w : Dv) {v : V}, RV Γ H μ (hid p Z) w v → RV Γ H (MP.ext μ n p) Z w v
  | .non, _, q => q
  | .bl _, _, q => q
  | .int _, _, q => q
  | .str _, _, q => q
  | .ty _, _, q => q
  | .cl _, _, q => q
  | .ref n, _, q => by
    obtain ⟨a, h1, h2⟩ := q
    exact ⟨a, h1, ext_mu hn h2⟩
  | .tup ws, _, q => by
    obtain ⟨a, xs, h1, h2, h3⟩ := q
    exact ⟨a, xs, h1, h2.elim (fun z => .inl ⟨z.1, ext_fz z.2⟩) .inr, RVs.adopt hn ws h3⟩
  | .sq ws, _, q => by
    obtain ⟨a, xs, h1, h2, h3⟩ := q
    exact ⟨a, xs, h1, h2.elim (fun z => .inl ⟨z.1, ext_fz z.2⟩) .inr, RVs.adopt hn ws h3⟩
  | .lst ws, _, q => by
    obtain ⟨a, xs, h1, h2, h3, h4⟩ := q
    exact ⟨a, xs, h1, h2, ext_fz h3, RVs.adopt hn ws h4⟩
  | .dct ks ws, _, q => by
    obtain ⟨a, kvs, h1, h2, h3, h4, h5⟩ := q
    exact ⟨a, kvs, h1, h2, ext_fz h3, h4, RVs.adopt hn ws h5⟩
  | .dtt kd ws, _, q => by
    obtain ⟨a, kvs, h1, h2, h3, h4, h5, h6⟩ := q
    exact ⟨a, kvs, h1, h2, ext_fz h3, h4, RVs.adopt hn kd h5, RVs.adopt hn ws h6⟩
  | .exc c f w, _, q => by
    obtain ⟨a, dx, x, h1, h2, h3, h4, h5, h6⟩ := q
    exact ⟨a, dx, x, h1, h2, ext_fz h3, h4, ext_fz h5, RV.adopt hn w h6⟩
  | .exn c, _, q => by
    obtain ⟨a, h1, h2, h3⟩ := q
    exact ⟨a, h1, h2, ext_fz h3⟩
  | .clo a c _ ws vs, _, q => by
    obtain ⟨h1, h2, h3, h4⟩ := q
    exact ⟨h1, h2, ext_fz h3, RVs.adopt hn ws h4⟩
theorem RVs.adopt {H : Hp} {μ : Mu} {Z : Zs} {n : Nat} {p : Addr} (hn : μ n = none) : ∀ (ws : List Dv) {vs : List V}, RVs Γ H μ (hid p Z) ws vs → RVs Γ H (MP.ext μ n p) Z ws vs
  | [], _, q => q
  | w :: ws, _, q => by
    obtain ⟨x, xs, h1, h2, h3⟩ := q
    exact ⟨x, xs, h1, RV.adopt hn w h2, RVs.adopt hn ws h3⟩
end
theorem RO.adopt {H : Hp} {μ : Mu} {Z : Zs} {n : Nat} {p a : Addr} {ob : Ob} (hn : μ n = none) (r : RO Γ H μ (hid p Z) a ob) : RO Γ H (MP.ext μ n p) Z a ob := by
  cases ob with
  | lst ws =>
    obtain ⟨xs, h4, h5⟩ := r
    exact ⟨xs, h4, h5.adopt hn⟩
  | dct kws =>
    obtain ⟨kvs, h4, h5, h6⟩ := r
    exact ⟨kvs, h4, h5, h6.adopt hn⟩
  | dtt fr kws =>
    obtain ⟨kvs, h4, h5, h6, h7⟩ := r
    exact ⟨kvs, h4, h5, h6.adopt hn, h7.adopt hn⟩
  | obj c fs =>
    obtain ⟨dx, kvs, h4, h5, h6⟩ := r
    exact ⟨dx, kvs, h4, h5, h6.adopt hn⟩
  | tab m q => exact ⟨r.1, tab_imp rfl (fun c e1 e2 => ⟨e1, ext_fz e2⟩) r.2⟩
/-- what was hidden becomes an object of the store -/
theorem Rep.adoptO {H : Hp} {μ : Mu} {Z : Zs} {s : Sto} {D : Addr} {ob : Ob} (R : Rep Γ H μ (hid D Z) s) (hz : ¬ Z D) (ro : RO Γ H μ (hid D Z) D ob) : Rep Γ H (MP.ext μ s.length D) Z (s ++ [ob]) := by
  have nm := R.mu_new
  have noD : ∀ {m : Nat} {a : Addr}, μ m = some a → a ≠ D := fun h e => R.notZ h (.inl e)
  refine ⟨fun n o' q => ?_, fun n m a h1 h2 => ?_, fun n a h => ?_, fun a z => R.za a (.inr z)⟩
  · by_cases hn : n = s.length
    · subst hn
      rw [List.getElem?_append_right (Nat.le_refl _)] at q
      simp at q
      subst q
      exact ⟨D, by unfold MP.ext; rw [if_pos rfl], hz, ro.adopt nm⟩
    · have hl : n < s.length := by
        have := (List.getElem?_eq_some_iff.mp q).1
        rw [List.length_append, List.length_singleton] at this
        omega
      rw [List.getElem?_append_left hl] at q
      obtain ⟨a, h1, h2, h3⟩ := R.at n o' q
      exact ⟨a, ext_mu nm h1, fun z => h2 (.inr z), h3.adopt nm⟩
  · unfold MP.ext at h1 h2
    split at h1 <;> split at h2
    · rename_i e1 e2; rw [e1, e2]
    · cases h1; exact absurd rfl (noD h2)
    · cases h2; exact absurd rfl (noD h1)
    · exact R.inj _ _ _ h1 h2
  · unfold MP.ext at h
    rw [List.length_append, List.length_singleton]
    split at h
    · omega
    · have := R.dom _ _ h
      omega
theorem Evo.adopt {H H1 : Hp} {μ μ1 : Mu} {n : Nat} {p : Addr} (e : Evo H μ H1 μ1) (hp : H p = none) (hn : μ1 n = none) : Evo H μ H1 (MP.ext μ1 n p) :=
  ⟨e.keep, fun m a h => ext_mu hn (e.mu m a h), fun m a h => by
    unfold MP.ext at h
    split at h
    · cases h; exact .inr hp
    · exact e.new m a h, e.stay⟩
theorem me_dctM {pos : Pos} {keys : List (Option Expr)} {values : List Expr} {ps : List (FE × FE)} (h : PPs X pos keys values (ps.map fun p => (rdE Γ W p.1, rdE Γ W p.2))) (hall : keys.all (·.isSome) = true) (hl : keys.length = values.length) (h0 : keys ≠ []) (h15 : keys.length ≤ 15) :
    ME X Γ W (.Dict keys values pos) (mDctM ps) :=
  PE.imp (pe_disp h hall hl h0 h15) fun σ H Q ⟨μ, Z, ρ, s, hE, hR, q⟩ p hp => by
    unfold mDctM at q
    cases e : mPairs ps ρ s with
    | no => rw [e] at q; exact q.elim
    | er x s1 => rw [e] at q; exact q.elim
    | ok l s1 =>
      rw [e] at q
      dsimp only at q
      split at q
      · rename_i kws ek
        split at q
        · rename_i h15'
          refine pairs_ok (hE.hide hp) (hR.hide hp) e fun vs H1 μ1 ev R1 g1 g2 => ?_
          obtain ⟨kvs, c1, c2, c3⟩ := keysOf_ok g1 g2 ek
          have hH : H1 p = some (.dK []) := ev.keep p _ upd_same fun n hn => hR.alive hn hp
          refine ⟨hH, kvs, c1, by rw [map_len c2]; exact h15', ?_⟩
          obtain ⟨d1, d2⟩ := merge_ok (Γ := Γ) (H := upd H1 p (.dK (mergeK [] kvs))) (μ := μ1) (Z := hid p Z) (acc := []) (bcc := []) c2 (RVs.updZ _ c3) rfl rfl
          have R2 : Rep Γ (upd H1 p (.dK (mergeK [] kvs))) μ1 (hid p Z) s1 := R1.updZ
          have nz : ¬ Z p := fun z => hR.za p z hp
          have e0 : Evo H μ (upd H1 p (.dK (mergeK [] kvs))) μ1 := ((Evo.laid hp).trans ev).hid hp
          exact q (.ref p) _ _ (e0.adopt hp R1.mu_new) (R2.adoptO nz ⟨_, upd_same, d1, d2⟩) ⟨p, rfl, by unfold MP.ext; rw [if_pos rfl]⟩
        · exact q.elim
      · exact q.elim
end
end MP
set_option Elab.async false
set_option linter.all false
set_option maxRecDepth 100000
set_option maxHeartbeats 4000000
namespace MP
open PySem PySem.Spec PyProof.Rows L2
section
variable {X : Cx} {Γ : Ct} {W : WX} {a b c e : Expr} {f g h h' : FE} {pos : Pos} {x y : Str} {i j : Nat}
/-- a < b < c as a test -/
theorem mt_chain {op op' : CmpOp} {r r' : R2} {o o' : O2} (ho : OpR X (compareOp op) r) (ho' : OpR X (compareOp op') r') (hs : Op2 Γ r o) (hs' : Op2 Γ r' o') (hm : lastMarks [op, op'] [b, c] = false)
    (ha : ME X Γ W a f) (hb : ME X Γ W b g) (hc : ME X Γ W c h') : MT X Γ W (.Compare a [op, op'] [b, c] pos) (mTest (mChain o o' f g h')) := by
  have key : ∀ σ H (Q : VK), rdE Γ W (mChain o o' f g h') σ H Q → tChain r r' (rdE Γ W f) (rdE Γ W g) (rdE Γ W h') σ H Q := fun σ H Q ⟨μ, Z, ρ, s, hE, hR, q⟩ => eE hE hR q fun x s1 u H1 μ1 e1 hE1 R1 r1 q1 => eE hE1 R1 q1 fun y s2 v H2 μ2 e2 hE2 R2 r2 q2 => by
    cases hw : o s2 x y with
    | none => rw [hw] at q2; exact q2.elim
    | some w =>
      rw [hw] at q2
      refine hs H2 μ2 Z s2 x y w u v _ R2 (r1.mono e2) r2 hw fun z H3 e3 R3 r3 => ?_
      cases w with
      | bl k =>
        refine ⟨k, r3, ?_⟩
        cases k with
        | true =>
          rw [if_pos rfl]
          exact eE (hE2.mono e3) R3 (PostE.evo e3 q2) fun z' s3 v3 H4 μ4 e4 hE4 R4 r4 q4 => by
            obtain ⟨w', hw', k'⟩ := ofE q4
            exact hs' H4 μ4 Z s3 y z' w' v v3 Q R4 ((r2.mono e3).mono e4) r4 hw' k'
        | false =>
          rw [if_neg Bool.false_ne_true]
          exact okE R3 (w := .bl false) rfl (PostE.evo e3 q2)
      | _ => exact q2.elim
  refine PT.imp (pt_chain ho ho' ha hb hc hm) fun σ H Q ⟨μ, Z, ρ, s, hE, hR, q⟩ => key σ H _ ?_
  refine ⟨μ, Z, ρ, s, hE, hR, ?_⟩
  have q' : PostT Γ W H μ Z σ Q ((mChain o o' f g h' ρ s).bind fun x s1 => match x with
      | .bl b => .ok b s1
      | _ => .no) := q
  revert q'
  cases mChain o o' f g h' ρ s with
  | ok w s1 =>
    intro q' v H' μ' ev R' rv
    cases w with
    | bl b => exact ⟨b, rv, okT R' (PostT.evo ev q')⟩
    | _ => exact q'.elim
  | er x s1 => exact id
  | no => exact id
def mPar (i j : Nat) (fa : FA) : FS := fun ρ s => (fa ρ s).thenC ρ fun ws s1 => match ws with
  | [v, w] => .nx ((ρ.set i (some v)).set j (some w)) s1
  | _ => .no
theorem ms_par {px py pt : Pos} {kt k2 pt2} {fa : FA} (hc : X.calm = true) (hN : X.N.Nodup) (hi : X.N[i]? = some x) (hj : X.N[j]? = some y) (hij : i ≠ j)
    (hx : X.env.scope.names.lookup x = some .local) (hy : X.env.scope.names.lookup y = some .local) (ha : MA X Γ W [a, b] fa)
    (hw : swappedStores [.Tuple [.Name x px, .Name y py] kt pt] (.Tuple [a, b] k2 pt2) X.env = pure (some [x, y]))
    (hs : swapsWithSole [.Tuple [.Name x px, .Name y py] kt pt] (.Tuple [a, b] k2 pt2) pos.line X.env = pure false := by rfl) :
    MS X Γ W (.Assign [.Tuple [.Name x px, .Name y py] kt pt] (.Tuple [a, b] k2 pt2) pos) (mPar i j fa) :=
  PS.imp (ps_par hc hN hi hj hij hx hy ha hw hs) fun D σ H ⟨μ, Z, ρ, s, hE, hR, q⟩ => aS hE hR q fun ws s1 vs H1 μ1 ev E1 R1 r1 q1 => by
    match ws, q1, r1 with
    | [v, w], q1, r1 =>
      obtain ⟨x1, xs, rfl, ra, rb⟩ := r1
      obtain ⟨x2, xs, rfl, rb, rfl⟩ := rb
      exact ⟨x1, x2, rfl, q1 _ H1 μ1 .refl R1 ((E1.set i ra).set j rb)⟩
    | [], q1, _ => exact q1.elim
    | [_], q1, _ => exact q1.elim
    | _ :: _ :: _ :: _, q1, _ => exact q1.elim
def mStuck : FS := fun _ _ => .no
theorem ms_stuck {st : Stmt} : MS X Γ W st mStuck := PS.imp ps_never fun D σ H ⟨μ, Z, ρ, s, hE, hR, q⟩ => q.elim
theorem tk0 {X : Cx} : Takes X W0 := fun u s' ⟨_, _, _, _, _, _, _, _, _, _, _, _, _, _, _, _, w⟩ => w.elim
theorem me_globJ {x : Str} {i : Int} {pos : Pos} (hg : Gl X x) (hm : ∃ t, X.mg x = some (.int i t)) (hd : (x == ("__debug__" : Str)) = false := by decide) : ME X Γ W (.Name x pos) (mK (.int i)) := by
  obtain ⟨t, h⟩ := hm
  exact me_globI hg h hd
theorem go_name {i : Nat} : GOk Γ (gName i) (gN i) := fun H μ Z ρ ρ' s σ w v Q hE hR r e k => by
  cases e
  exact k _ (hE.set i r)
theorem ms_set {i : Nat} {x : Str} {pos' : Pos} (hN : X.N.Nodup) (hi : X.N[i]? = some x) (hx : Loc X.env.scope x) (he : ME X Γ W e f) (hs : swapsWith e (some (.Name x pos')) pos.line X.env = pure false := by rfl) (hf : X.fn x = true ∨ X.env.scope.names.lookup x = some .local := by first | exact .inl rfl | exact .inr rfl | assumption) :
    MS X Γ W (.Assign [.Name x pos'] e pos) (mAsg f (gN i)) := ms_asg (ps_set hN hi hx he hs hf) go_name
theorem mgs_cons' {tg : Expr} {tgs : List Expr} {g : TG} {gs : TGs} {fg : FG} {fgs : List Dv → Env → Sto → Option Env} (h1 : MG X Γ tg g fg) (h2 : MGs X Γ tgs gs fgs)
    (hs : (assignEach (tg :: tgs) X.env).map (·.2) = assign tg X.env :: (assignEach tgs X.env).map (·.2) := by rfl) : MGs X Γ (tg :: tgs) (gCons g gs) (gsC fg fgs) := mgs_cons h1 h2 (pgs_cons h1.1 h2.1 hs)
theorem mg_tup' {tgs : List Expr} {kk n : Nat} {gs : TGs} {fgs : List Dv → Env → Sto → Option Env} (hK : Γ.K = X.K) (hc : X.calm = true) (h : MGs X Γ tgs gs fgs)
    (hn : (assignEach tgs X.env).length = n := by rfl) (hst : (assignEach tgs X.env).findIdx? (·.1) = none := by rfl) : MG X Γ (.Tuple tgs kk pos) (gTup X.K n gs) (gT n fgs) := mg_tup hK.symm (pg_tup hc h.1 hn hst) h.2
theorem ms_setT {tg e : Expr} {g : TG} {fg : FG} (he : ME X Γ W e f) (hg : MG X Γ tg g fg) (hs : swapsWithSole [tg] e pos.line X.env = pure false := by rfl) (hw : swappedStores [tg] e X.env = pure none := by rfl)
    (h1 : (assignEach [tg] X.env).map (·.2) = [assign tg X.env] := by rfl) : MS X Γ W (.Assign [tg] e pos) (mAsg f fg) := ms_asg (ps_asg he hg.1 hs hw h1) hg.2
def FA.Len (fa : FA) (n : Nat) : Prop := ∀ ρ s ws s', fa ρ s = .ok ws s' → ws.length = n
theorem len_nil : FA.Len mNil 0 := fun ρ s ws s' q => by cases q; rfl
theorem len_cons {fa : FA} {n : Nat} (q : fa.Len n) : FA.Len (mCons f fa) (n + 1) := fun ρ s ws s' p => by
  unfold mCons at p
  cases h1 : f ρ s with
  | ok w s1 =>
    rw [h1] at p
    have p2 : (fa ρ s1).bind (fun xs s2 => R.ok (w :: xs) s2) = .ok ws s' := p
    cases h2 : fa ρ s1 with
    | ok xs s2 =>
      rw [h2] at p2
      cases p2
      rw [List.length_cons, q ρ s1 xs _ h2]
    | er z s2 => rw [h2] at p2; cases p2
    | no => rw [h2] at p2; cases p2
  | er z s1 => rw [h1] at p; cases p
  | no => rw [h1] at p; cases p
end
/-- what a call of x must know -/
def Cal (P : Program) (w : World) (mg : Str → Option Value) (base : Heap) (Γ : Ct) (k : Nat) (x : Str) (ps : List Str) (den : Fn) : Prop :=
  ∃ (f : Addr) (fd : FuncData), FnG P w mg base Γ k f fd ps den ∧ mg x = some (.ref f) ∧ PySem.W.keepIn Γ.K (.ref f) = true ∧ Binds Γ.K fd ps []
section
variable {X : Cx} {Γ : Ct} {W : WX} {k k' : Nat} {ps : List Str} {den : Fn} {x : Str} {p pos : Pos} {e : Expr} {es : List Expr} {fa : FA}
theorem me_cal (C : Cal X.prog X.w X.mg X.base Γ k x ps den) (hK : Γ.K = X.K) (hr : Room k X.A) (hg : X.A.guards = some []) (tk : Takes X W) (hgl : Gl X x) (ha : MA X Γ W (e :: es) fa) (n : Nat) (hl : FA.Len fa n) (hn : n = ps.length) (hnl : (e :: es).length = n) (hdb : (x == ("__debug__" : Str)) = false := by decide)
    (he : starEach (e :: es) X.env = (false, eval e X.env) :: starEach es X.env := by rfl) (hpl : (backTo pos (starEach es X.env)).any (·.1) = false := by rfl) :
    ME X Γ W (.Call (.Name x p) (e :: es) [] pos) (mCall den fa) := by
  obtain ⟨f, fd, F, hm, hk, hb⟩ := C
  have := me_call (ds := []) (dvs := []) (dws := []) (pos := pos) (p := p) F hK hr hg hgl hm (hK ▸ hk) (hK ▸ hb) .nil (fun _ _ _ => rfl) n (by simpa using hn) hnl tk ha hl hdb he hpl
  have e1 : mCall (fun ws => den (ws ++ [])) fa = mCall den fa := by
    congr 1
    funext ws
    rw [List.append_nil]
  rwa [e1] at this
end
end MP
set_option Elab.async false
set_option linter.all false
set_option maxRecDepth 100000
set_option maxHeartbeats 4000000
namespace MP
open PySem PySem.Spec PyProof.Rows L2
abbrev bare : Obj := seqObj "list" #[] 0
abbrev grown (h : Heap) (vs : List Value) : Heap := (h.push bare).update h.objs.size (Obj.mapSeq (· ++ vs.toArray))
section
variable {P : Program} {w : World} {A : Around} {E : Value → Shared → Prop} {s : Shared} {t : Addr} {vs : List Value}
theorem gather_tup {Q : List Value → Shared → Prop} (ht : IsTup s.heap t vs.toArray) (hz : vs.length ≤ sizeLine) (h : Q vs { s with heap := grown s.heap vs }) : wpAny (model P w) A (collect (.ref t)) Q E s := by
  obtain ⟨o, e1, e2, n, e3⟩ := id ht
  have m1 : (s.heap.push bare).get? s.heap.objs.size = some bare := Heap.get?_push_size _ rfl
  have m2 : (s.heap.push bare).get? t = some o := Heap.get?_push_of_some _ e1
  unfold collect
  apply wpAny_bind
  apply wpAny_runValue
  apply codeAny_builtin entry_proto_collect'
  apply wpAny_bind
  apply wpAny_newList (h := ?_) (Nat.zero_le _)
  refine wpAny_pure ⟨Code.quiet_builtin _ (by decide +kernel), codeAny_builtin entry_list_iadd' ?_⟩
  show wpAny _ _ (Builtin.List.listExtendWith _ _ _) _ _ _
  unfold Builtin.List.listExtendWith
  apply wpAny_bind
  refine wpAny_typeOf (T := "tuple") ⟨o, m2, e2⟩ ?_
  have tt : (Value.type "tuple" == Value.type "tuple") = true := by rfl
  rw [if_pos (by rw [tt, Bool.or_true])]
  apply wpAny_bind
  apply listItems_at m2 e3
  apply wpAny_bind
  apply listItems_at (xs := #[]) (n := 0) m1 rfl
  rw [if_neg (fun z => by simp at z)]
  apply wpAny_bind
  refine listUpdate_at (xs := #[]) (n := 0) m1 rfl (wpAny_pure ?_) (Nat.zero_le _) (by simp only [Array.size_append, List.size_toArray, List.length_nil]; omega)
  dsimp only
  apply wpAny_bind
  refine wpAny_load (get?_update_seq m1 _) ?_
  refine wpAny_pure (cast ?_ h)
  congr 1
  simp
theorem sorted_tup {lt : Value → Value → Bool} {Q : Value → Shared → Prop} (O : SrtO.Swo lt) (ht : IsTup s.heap t vs.toArray) (hz : vs.length ≤ sizeLine)
    (hS : 2 ≤ vs.length → ∀ (h1 : Heap) (a : Addr), SrtO.SortableO P w A.in1.in1 { s with heap := h1 } a vs lt)
    (h : ∀ out : List Value, SrtO.Srtd lt out → SrtO.Stb lt out vs → Q (.ref (s.heap.objs.size + 1)) { s with heap := sortedAll s.heap vs out.toArray }) :
    wpAny (model P w) A (call (.builtin "sorted") [.ref t]) Q E s := by
  apply Calls.call_function_entry kind_sorted plain_sorted entry_sorted (args_sorted1 _)
  unfold Builtin.«sorted»
  apply wpAny_bind (m := checkCount "sorted" 1 1 _)
  apply wpAny_pure
  apply wpAny_bind
  apply gather_tup ht hz
  apply wpAny_bind
  refine wpAny_newList ?_ hz
  have n1 : (grown s.heap vs).objs.size = s.heap.objs.size + 1 := (Heap.size_update _ _ _).trans (size_push' _ _)
  dsimp only
  rw [n1]
  have n2 : ((grown s.heap vs).push (seqObj "list" vs.toArray 0)).get? (s.heap.objs.size + 1) = some (seqObj "list" vs.toArray 0) := n1 ▸ Heap.get?_push_size _ rfl
  apply wpAny_bind
  apply wpAny_holding
  refine wpAny_call_entry slot_list_sort ⟨_, n2, rfl⟩ entry_list_sort ?_ (args_list_sort _)
  exact SrtO.list_sort_ord O n2 hz (fun h2 => hS h2 _ _) fun out a b => ⟨_, rfl, wpAny_pure ⟨_, rfl, h out a b⟩⟩
end
section
variable {X : Cx} {Γ : Ct}
def rSortedTI (K : PySem.W.Frag) : List V → Hp → VK → Prop := fun vs H Q => ∃ (a : Addr) (ns : List Int), vs = [V.ref a] ∧ SqT K H a (ns.map V.int) ∧
  ∀ (ms : List Int) (p : Addr), ms.Perm ns → ms.Pairwise (· ≤ ·) → H p = none → Q (.ref p) (upd H p (.lst (ms.map V.int)))
theorem cr_sortedTI : CallR X (.builtin "sorted") (rSortedTI X.K) := by
  intro pins s σ H vs us Q I r h
  obtain ⟨a, ns, rfl, ht, q⟩ := h
  obtain ⟨its, rv, it, hz⟩ := I.tuple ht
  rw [Vals.ref1 r]
  have ia := rv.ints
  have hz' : its.length ≤ sizeLine := by rw [← rv.length]; exact hz
  refine sorted_tup SrtO.swo_int it hz' (fun h2 _ _ => SrtO.ints_sortable ia h2) fun out h1 h2 => ?_
  obtain ⟨k1, k2, k3⟩ := SrtO.ints_out ia h1 h2
  obtain ⟨ep, at1⟩ := sortedAll_at s.heap its out.toArray
  have hl : ((out.map SrtO.iv).map V.int).length ≤ sizeLine := by
    rw [List.length_map] at hz ⊢
    rwa [k2.length_eq]
  refine ⟨.ref _, upd H (s.heap.objs.size + 1) (.lst ((out.map SrtO.iv).map V.int)), I.laid (t' := s.toks) (fun _ _ e => sortedAll_old e) (Nat.le_succ _) ?_, rfl, q _ _ k2 k3 (I.hok.fresh (Nat.le_succ _))⟩
  exact ⟨hl, out, ep, vals_of_ints k1, at1⟩
theorem IsTup.isTuple {h : Heap} {a : Addr} {xs : Array Value} (x : IsTup h a xs) : h.IsTuple a xs := by
  obtain ⟨o, e1, e2, n, e3⟩ := x
  exact ⟨o, e1, e2, n, e3⟩
theorem cr_sumT (hc : X.calm = true) : CallR X (.builtin "sum") (fun vs H Q => ∃ (a : Addr) (ns : List Int), vs = [V.ref a] ∧ SqT X.K H a (ns.map V.int) ∧ Q (.int ns.sum) H) := by
  intro pins s σ H vs us Q I r h
  obtain ⟨a, ns, rfl, ht, q⟩ := h
  obtain ⟨its, rv, it, hz⟩ := I.tuple ht
  rw [Vals.ref1 r]
  obtain ⟨xs, e⟩ := rv.ints.allInts.items
  have hn : numsOf (intItems xs).toList = ns := by rw [← e]; exact rv.ints.numsOf
  rw [nums_intItems] at hn
  rw [e] at it
  refine PySem.call_sum_walkG ?_
  have tu := IsTup.isTuple it
  obtain ⟨_, e0, _⟩ := id tu
  have lt := Heap.lt_size e0
  refine wpAny_pyIter_tuple tu ⟨s.heap.objs.size, _, _, _, _, _, numAt xs, rfl, Walks.tuple (A := X.A.in1) (I.ok.hd hc) _ a (Nat.ne_of_lt lt) (intItems xs), ⟨⟨_, Heap.get?_push_size _ rfl, rfl, rfl⟩, tu.push _⟩, fun b hb => ?_, fun _ _ => intItems_at, fun h' tk t' hk => ?_⟩
  · have : (s.heap.push { cls := .type "tuple_iterator", data := .fields #[.ref a, .int 0 0] }).objs.size = s.heap.objs.size + 1 := Heap.size_push _ _
    dsimp only
    rw [this]
    rcases List.mem_cons.mp hb with rfl | hb
    · exact Nat.lt_succ_self _
    · rw [List.mem_singleton.mp hb]; exact Nat.lt_succ_of_lt lt
  · refine ⟨.int _, H, I.kept (t' := tk) (h' := h') fun b o eb => hk b o (fun z => ?_) (Heap.get?_push_of_some _ eb), ⟨_, rfl⟩, ?_⟩
    · rw [List.mem_singleton.mp z] at eb
      exact Nat.lt_irrefl _ (Heap.lt_size eb)
    · have hs : (intItems xs).size = xs.size := by simp [intItems]
      rw [hs, preSum_eq, List.take_of_length_le (by simp), hn]
      exact q
def orN (o o' : ON) : ON := fun s xs => match o s xs with
  | some w => some w
  | none => o' s xs
def sortTD : ON := fun _ xs => match xs with
  | [.tup ws] => (intsOf ws).map fun ns => .lst ((srt ns).map .int)
  | _ => none
def sumTD : ON := fun _ xs => match xs with
  | [.tup ws] => (intsOf ws).map fun ns => .int ns.sum
  | _ => none
def sortedA : ON := orN sortedD sortTD
def sumA : ON := orN sumD sumTD
theorem sSortT (hK : Γ.K = X.K) : OpN Γ (rSortedTI X.K) sortTD := fun H μ Z s xs w vs Q hR rx e k => by
  rw [← hK]
  unfold sortTD at e
  split at e
  · rename_i ws
    cases q2 : intsOf ws with
    | none => rw [q2] at e; cases e
    | some ns =>
      rw [q2] at e
      cases e
      obtain ⟨v, rfl, a, ys, rfl, h2, h3⟩ := one rx
      rw [intsOf_ok q2] at h3
      have h4 := h3.ints
      subst h4
      refine ⟨a, ns, rfl, h2.sq, fun ms p hp hs hn => ?_⟩
      rw [srt_uniq hp hs]
      exact k _ _ (Evo.laid hn) (hR.laid hn) (new_lst hR hn (RVs.of_ints _))
  · cases e
theorem sSumT (hK : Γ.K = X.K) : OpN Γ (fun vs H Q => ∃ (a : Addr) (ns : List Int), vs = [V.ref a] ∧ SqT X.K H a (ns.map V.int) ∧ Q (.int ns.sum) H) sumTD := fun H μ Z s xs w vs Q hR rx e k => by
  rw [← hK]
  unfold sumTD at e
  split at e
  · rename_i ws
    cases q2 : intsOf ws with
    | none => rw [q2] at e; cases e
    | some ns =>
      rw [q2] at e
      cases e
      obtain ⟨v, rfl, a, ys, rfl, h2, h3⟩ := one rx
      rw [intsOf_ok q2] at h3
      have h4 := h3.ints
      subst h4
      exact ⟨a, ns, rfl, h2.sq, k _ H .refl hR rfl⟩
  · cases e
theorem cr_sortedA : CallR X (.builtin "sorted") (fun x H Q => rSortedI X.K x H Q ∨ rSortedTI X.K x H Q) := CallR.or2 cr_sortedI cr_sortedTI
theorem sSortedA (hK : Γ.K = X.K) : OpN Γ (fun x H Q => rSortedI X.K x H Q ∨ rSortedTI X.K x H Q) sortedA := OpN.or (sSorted hK) (sSortT hK)
def rSumA (K : PySem.W.Frag) : List V → Hp → VK → Prop := fun x H Q => rSum K x H Q ∨ ∃ (a : Addr) (ns : List Int), x = [V.ref a] ∧ SqT K H a (ns.map V.int) ∧ Q (.int ns.sum) H
theorem cr_sumA (hc : X.calm = true) : CallR X (.builtin "sum") (rSumA X.K) := CallR.or2 (cr_sum hc) (cr_sumT hc)
theorem sSumA (hK : Γ.K = X.K) : OpN Γ (rSumA X.K) sumA := OpN.or (sSum hK) (sSumT hK)
end
end MP
set_option Elab.async false
set_option linter.all false
set_option maxRecDepth 100000
set_option maxHeartbeats 4000000
namespace MP
open PySem PySem.Spec PyProof.Rows L2
section
variable {α β : Type} {a : α} {s s1 s2 : Sto} {ρ : Env} {x : Ex} {w v : Dv} {f g h : FE} {t u : FT} {c c' : FS} {fa : FA} {b : Bool} {o o' : O2}
@[simp] theorem bind_ok {k : α → Sto → R β} : (R.ok a s).bind k = k a s := rfl
@[simp] theorem bind_er {k : α → Sto → R β} : (R.er x s : R α).bind k = .er x s := rfl
@[simp] theorem bind_no {k : α → Sto → R β} : (R.no : R α).bind k = .no := rfl
@[simp] theorem then_ok {k : α → Sto → C} : (R.ok a s).thenC ρ k = k a s := rfl
@[simp] theorem then_er {k : α → Sto → C} : (R.er x s : R α).thenC ρ k = .er x ρ s := rfl
@[simp] theorem then_no {k : α → Sto → C} : (R.no : R α).thenC ρ k = .no := rfl
@[simp] theorem of_some : R.of (some a) s = .ok a s := rfl
@[simp] theorem of_none : (R.of none s : R α) = .no := rfl
@[simp] theorem var_0 : mVar 0 (some w :: ρ) s = .ok w s := rfl
@[simp] theorem var_s {y : Option Dv} {i : Nat} : mVar (i + 1) (y :: ρ) s = mVar i ρ s := by unfold mVar; rw [List.getElem?_cons_succ]
@[simp] theorem k_ev : mK w ρ s = .ok w s := rfl
@[simp] theorem bin_ev : mBin o f g ρ s = (f ρ s).bind fun x s1 => (g ρ s1).bind fun y s2 => R.of (o s2 x y) s2 := rfl
@[simp] theorem un_ev {o : O1} : mUn o f ρ s = (f ρ s).bind fun x s1 => R.of (o s1 x) s1 := rfl
@[simp] theorem blt_ev {o : ON} : mBlt o fa ρ s = (fa ρ s).bind fun ws s1 => R.of (o s1 ws) s1 := rfl
@[simp] theorem call_ev {d : Fn} : mCall d fa ρ s = (fa ρ s).bind d := rfl
@[simp] theorem nil_ev : mNil ρ s = .ok [] s := rfl
@[simp] theorem cons_ev : mCons f fa ρ s = (f ρ s).bind fun x s1 => (fa ρ s1).bind fun xs s2 => .ok (x :: xs) s2 := rfl
def chainK (o : Option Dv) (s : Sto) (k : R Dv) : R Dv := match o with
  | some (.bl true) => k
  | some (.bl false) => .ok (.bl false) s
  | _ => .no
@[simp] theorem chainK_bl {k : R Dv} : chainK (some (.bl b)) s k = if b = true then k else .ok (.bl false) s := by cases b <;> rfl
@[simp] theorem chain_ev : mChain o o' f g h ρ s = (f ρ s).bind fun x s1 => (g ρ s1).bind fun y s2 => chainK (o s2 x y) s2 ((h ρ s2).bind fun z s3 => R.of (o' s3 y z) s3) := rfl
def andK (d : Dv) (s : Sto) (k : R Dv) : R Dv := match d with
  | .bl true => k
  | .bl false => .ok (.bl false) s
  | _ => .no
@[simp] theorem andK_bl {k : R Dv} : andK (.bl b) s k = if b = true then k else .ok (.bl false) s := by cases b <;> rfl
@[simp] theorem andV_ev : mAndV f g ρ s = (f ρ s).bind fun x s1 => andK x s1 (g ρ s1) := rfl
def orK (d : Dv) (s : Sto) (k : R Dv) : R Dv := match d with
  | .bl true => .ok (.bl true) s
  | .bl false => k
  | _ => .no
@[simp] theorem orK_bl {k : R Dv} : orK (.bl b) s k = if b = true then .ok (.bl true) s else k := by cases b <;> rfl
@[simp] theorem orV_ev : mOrV f g ρ s = (f ρ s).bind fun x s1 => orK x s1 (g ρ s1) := by
  unfold mOrV
  congr 1
  funext x s1
  cases x with
  | bl b => cases b <;> rfl
  | _ => rfl
def notK (d : Dv) (s : Sto) : R Dv := match d with
  | .bl b => .ok (.bl (!b)) s
  | _ => .no
@[simp] theorem notK_bl : notK (.bl b) s = .ok (.bl (!b)) s := rfl
@[simp] theorem notV_ev : mNotV f ρ s = (f ρ s).bind notK := rfl
def testK (d : Dv) (s : Sto) : R Bool := match d with
  | .bl b => .ok b s
  | _ => .no
@[simp] theorem testK_bl : testK (.bl b) s = .ok b s := rfl
@[simp] theorem test_ev : mTest f ρ s = (f ρ s).bind testK := rfl
@[simp] theorem and_ev : mAnd t u ρ s = (t ρ s).bind fun c s1 => if c = true then u ρ s1 else .ok false s1 := rfl
@[simp] theorem or_ev : mOr t u ρ s = (t ρ s).bind fun c s1 => if c = true then .ok true s1 else u ρ s1 := rfl
@[simp] theorem not_ev : mNot t ρ s = (t ρ s).bind fun c s1 => .ok (!c) s1 := rfl
@[simp] theorem if_ev : mIf t f g ρ s = (t ρ s).bind fun c s1 => if c = true then f ρ s1 else g ρ s1 := rfl
@[simp] theorem tup_ev : mTup fa ρ s = (fa ρ s).bind fun ws s1 => if ws.length ≤ lim then .ok (.tup ws) s1 else .no := rfl
@[simp] theorem lst_ev : mLst fa ρ s = (fa ρ s).bind fun ws s1 => if ws.length ≤ lim then .ok (.lst ws) s1 else .no := rfl
@[simp] theorem lstM_ev : mLstM fa ρ s = (fa ρ s).bind fun ws s1 => if ws.length ≤ lim then .ok (.ref s1.length) (s1 ++ [.lst ws]) else .no := rfl
/-- what follows -/
def seqK (c : C) (k : FS) : C := match c with
  | .nx ρ s => k ρ s
  | c => c
@[simp] theorem seqK_nx {k : FS} : seqK (.nx ρ s) k = k ρ s := rfl
@[simp] theorem seqK_rt {k : FS} : seqK (.rt w s) k = .rt w s := rfl
@[simp] theorem seqK_bk {k : FS} : seqK (.bk ρ s) k = .bk ρ s := rfl
@[simp] theorem seqK_ct {k : FS} : seqK (.ct ρ s) k = .ct ρ s := rfl
@[simp] theorem seqK_er {k : FS} : seqK (.er x ρ s) k = .er x ρ s := rfl
@[simp] theorem seqK_no {k : FS} : seqK .no k = .no := rfl
@[simp] theorem seq_ev : mSeq c c' ρ s = seqK (c ρ s) c' := by
  unfold mSeq seqK
  cases c ρ s <;> rfl
@[simp] theorem next_ev : mNext ρ s = .nx ρ s := rfl
@[simp] theorem ret_ev : mRet f ρ s = (f ρ s).thenC ρ fun w s1 => .rt w s1 := rfl
@[simp] theorem expr_ev : mExpr f ρ s = (f ρ s).thenC ρ fun _ s1 => .nx ρ s1 := rfl
@[simp] theorem ifS_ev : mIfS t c c' ρ s = (t ρ s).thenC ρ fun b s1 => if b = true then c ρ s1 else c' ρ s1 := rfl
@[simp] theorem asgN_ev {i : Nat} : mAsg f (gN i) ρ s = (f ρ s).thenC ρ fun w s1 => .nx (ρ.set i (some w)) s1 := rfl
@[simp] theorem par_ev {i j : Nat} : mPar i j (mCons f (mCons g mNil)) ρ s = (f ρ s).thenC ρ fun v s1 => (g ρ s1).thenC ρ fun w s2 => .nx ((ρ.set i (some v)).set j (some w)) s2 := by
  unfold mPar mCons mNil
  cases f ρ s with
  | ok v s1 =>
    simp only [bind_ok, then_ok]
    cases g ρ s1 <;> rfl
  | er _ _ => rfl
  | no => rfl
theorem finW_le {n : Nat} (hn : s.length ≤ n) : finW n w s = .ok w s := by unfold finW; rw [if_pos hn]
@[simp] theorem finC_rt : finC s.length (.rt w s) = .ok w s := finW_le (Nat.le_refl _)
@[simp] theorem finC_nx : finC s.length (.nx ρ s) = .ok .non s := finW_le (Nat.le_refl _)
@[simp] theorem den_ev {n : Nat} {d : FS} {ws : List Dv} : denOf n d ws s = finC s.length (d (startD n ws) s) := rfl
@[simp] theorem start_ev {n : Nat} {ws : List Dv} : startD n ws = ws.map some ++ List.replicate (n - ws.length) none := rfl
@[simp] theorem cmp_ev {p : Int → Int → Bool} {i j : Int} : cmpD p s (.int i) (.int j) = some (.bl (p i j)) := rfl
@[simp] theorem sub_ev {i j : Int} : subD s (.int i) (.int j) = some (.int (i - j)) := rfl
@[simp] theorem neg_ev {i : Int} : negD s (.int i) = some (.int (-i)) := rfl
@[simp] theorem isi_ii {i : Int} : isiD s [.int i, .ty "int"] = some (.bl true) := rfl
@[simp] theorem isi_ib {i : Int} : isiD s [.int i, .ty "bool"] = some (.bl false) := rfl
@[simp] theorem isi_tt {ws : List Dv} : isiD s [.tup ws, .ty "tuple"] = some (.bl true) := rfl
@[simp] theorem isi_it {i : Int} : isiD s [.int i, .ty "tuple"] = some (.bl false) := rfl
@[simp] theorem len_tup {ws : List Dv} : lenD s [.tup ws] = some (.int ws.length) := rfl
@[simp] theorem len_lst {ws : List Dv} : lenD s [.lst ws] = some (.int ws.length) := rfl
@[simp] theorem len_sq {ws : List Dv} : lenD s [.sq ws] = some (.int ws.length) := rfl
abbrev tI (ns : List Int) : Dv := .tup (ns.map .int)
abbrev lI (ns : List Int) : Dv := .lst (ns.map .int)
section
variable {s : Sto} {ns ms : List Int} {ρ : Env} {ws : List Dv} {i j : Int} {f : FE}
@[simp] theorem sorted_TI : sortedA s [.tup (ns.map .int)] = some (.lst ((srt ns).map .int)) := by
  show (match sortedD s [.tup (ns.map .int)] with | some w => some w | none => sortTD s [.tup (ns.map .int)]) = _
  rw [show sortedD s [.tup (ns.map .int)] = none from rfl]
  show (intsOf (ns.map .int)).map _ = _
  rw [intsOf_map]
  rfl
@[simp] theorem sorted_LI : sortedA s [.lst (ns.map .int)] = some (.lst ((srt ns).map .int)) := by
  have : sortedD s [.lst (ns.map .int)] = some (.lst ((srt ns).map .int)) := by
    show (intsOf (ns.map .int)).map _ = _
    rw [intsOf_map]
    rfl
  show (match sortedD s [.lst (ns.map .int)] with | some w => some w | none => sortTD s [.lst (ns.map .int)]) = _
  rw [this]
@[simp] theorem sum_LI : sumA s [.lst (ns.map .int)] = some (.int ns.sum) := by
  have : sumD s [.lst (ns.map .int)] = some (.int ns.sum) := by
    show (intsOf (ns.map .int)).map _ = _
    rw [intsOf_map]
    rfl
  show (match sumD s [.lst (ns.map .int)] with | some w => some w | none => sumTD s [.lst (ns.map .int)]) = _
  rw [this]
@[simp] theorem sum_TI : sumA s [.tup (ns.map .int)] = some (.int ns.sum) := by
  show (match sumD s [.tup (ns.map .int)] with | some w => some w | none => sumTD s [.tup (ns.map .int)]) = _
  rw [show sumD s [.tup (ns.map .int)] = none from rfl]
  show (intsOf (ns.map .int)).map _ = _
  rw [intsOf_map]
  rfl
@[simp] theorem sl_tup {lo hi : Option Int} : slA s (.tup ws) lo hi = some (.tup (cutD ws lo hi)) := rfl
@[simp] theorem sl_lst {lo hi : Option Int} : slA s (.lst ws) lo hi = some (.lst (cutD ws lo hi)) := rfl
theorem cut_to {k : Nat} : cutD ws none (some (k : Int)) = ws.take k := by
  unfold cutD
  rw [HT.sIx_none, HT.sIx_nat, Nat.sub_zero, List.drop_zero, ← List.take_take, List.take_length]
theorem cut_mid {a b : Nat} (ha : a ≤ ws.length) (hb : b ≤ ws.length) : cutD ws (some (a : Int)) (some (b : Int)) = (ws.drop a).take (b - a) := by
  unfold cutD
  rw [HT.sIx_nat, HT.sIx_nat, Nat.min_eq_left ha, Nat.min_eq_left hb]
@[simp] theorem part_ev : mPart f ρ s = (f ρ s).bind fun x s1 => match x with
  | .int i => .ok (some i) s1
  | _ => .no := rfl
@[simp] theorem nopart_ev : mNoPart ρ s = .ok none s := rfl
@[simp] theorem sl_ev {op : OS} {lo hi : FO} : mSl op f lo hi ρ s = (f ρ s).bind fun x s1 => (lo ρ s1).bind fun l s2 => (hi ρ s2).bind fun u s3 => R.of (op s3 x l u) s3 := rfl
@[simp] theorem add_ii : addD s (.int i) (.int j) = some (.int (i + j)) := rfl
theorem mul_ii (h : cm i j = true) : mulD s (.int i) (.int j) = some (.int (i * j)) := by
  show (if cm i j = true then _ else _) = _
  rw [if_pos h]
theorem cm_l (h : -(2 ^ 64) < i ∧ i < 2 ^ 64) : cm i j = true := decide_eq_true (.inl h)
theorem cm_r (h : -(2 ^ 64) < j ∧ j < 2 ^ 64) : cm i j = true := decide_eq_true (.inr h)
@[simp] theorem int_i : intD s [.int i] = some (.int i) := rfl
@[simp] theorem int_b {b : Bool} : intD s [.bl b] = some (.int (if b then 1 else 0)) := rfl
theorem range1_ok {fa : FA} {s1 : Sto} (h : fa ρ s = .ok [.int j] s1) (hj : okR j = true) : iRange1 fa ρ s = .ok { ws := rng 0 j.toNat } s1 := by
  unfold iRange1
  rw [h, bind_ok]
  exact if_pos hj
theorem rng_ev {lo : Int} {n : Nat} : rng lo n = (List.range n).map fun i : Nat => Dv.int (lo + (i : Int)) := by unfold rng; rfl
theorem okR_s {i : Int} (h : -1000000 ≤ i) (h2 : i ≤ 1000000) : okR i = true := decide_eq_true ⟨by omega, by omega⟩
@[simp] theorem tuple_lst : tupleD s [.lst ws] = some (.tup ws) := rfl
@[simp] theorem tuple_tup : tupleD s [.tup ws] = some (.tup ws) := rfl
theorem ix_tup {k : Nat} {w : Dv} (h : ws[k]? = some w) : ixA s (.tup ws) (.int (k : Int)) = some w := by
  have e : ixT s (.tup ws) (.int (k : Int)) = some w := atI_nat h
  show (match (match ixL s (.tup ws) (.int (k : Int)) with | some w => some w | none => ixT s (.tup ws) (.int (k : Int))) with | some w => some w | none => ixD s (.tup ws) (.int (k : Int))) = _
  rw [show ixL s (.tup ws) (.int (k : Int)) = none from rfl, e]
theorem ix_lst {k : Nat} {w : Dv} (h : ws[k]? = some w) : ixA s (.lst ws) (.int (k : Int)) = some w := by
  have e : ixL s (.lst ws) (.int (k : Int)) = some w := atI_nat h
  show (match (match ixL s (.lst ws) (.int (k : Int)) with | some w => some w | none => ixT s (.lst ws) (.int (k : Int))) with | some w => some w | none => ixD s (.lst ws) (.int (k : Int))) = _
  rw [e]
theorem zip_ints : ∀ (ns ms : List Int), zipD (ns.map .int) (ms.map .int) = (ns.zip ms).map fun p => .tup [.int p.1, .int p.2]
  | [], _ => by simp [zipD]
  | _ :: _, [] => by simp [zipD]
  | a :: r, b :: t => by simp [zipD, zip_ints r t]
end
section
open Classical
variable {vs : List Nat} {g : FG} {tt : FT} {elt : FE} {ρ : Env} {s : Sto}
@[simp] theorem yes_ev : mYes ρ s = .ok true s := rfl
theorem comp_mapA {α : Type} {f : FI} {l : List α} {e : α → Dv} (φ : α → Dv) (hf : f ρ s = .ok { ws := l.map e } s) (hl : l.length ≤ lim) (h : ∀ a ∈ l, ∃ ρ1, g (e a) (wipeD ρ vs) s = some ρ1 ∧ elt ρ1 s = .ok (φ a) s) : mComp f vs g mYes elt ρ s = .ok (.lst (l.map φ)) s := by
  have key : ∀ {l : List α}, (∀ a ∈ l, ∃ ρ1, g (e a) (wipeD ρ vs) s = some ρ1 ∧ elt ρ1 s = .ok (φ a) s) → compL none vs g mYes elt ρ (l.map e) s = some (l.map φ, s) := fun {l} => by
    induction l with
    | nil => intro _; rw [List.map_nil]; simp [compL]
    | cons a l ih =>
      intro h
      obtain ⟨ρ1, h1, h2⟩ := h a List.mem_cons_self
      rw [List.map_cons]
      unfold compL
      rw [if_pos (.inl rfl), h1]
      simp only [yes_ev, h2]
      rw [ih fun b hb => h b (List.mem_cons_of_mem _ hb)]
      rfl
  unfold mComp
  rw [hf, bind_ok]
  dsimp only
  rw [key h]
  dsimp only
  rw [if_pos (by rw [List.length_map]; exact hl)]
/-- a comprehension, turn by turn: J i acc stands when i turns are done -/
theorem compL_ix {xs : List Dv} (J : Nat → List Dv → Sto → Prop) (h : ∀ i x acc s, xs[i]? = some x → J i acc s → ∃ ρ1 y s2, g x (wipeD ρ vs) s = some ρ1 ∧ elt ρ1 s = .ok y s2 ∧ J (i + 1) (acc ++ [y]) s2) :
    ∀ {k : Nat} {ys acc : List Dv} {s : Sto}, ys = xs.drop k → k ≤ xs.length → J k acc s → ∃ zs s', compL none vs g mYes elt ρ ys s = some (zs, s') ∧ zs.length = ys.length ∧ J xs.length (acc ++ zs) s'
  | k, [], acc, s, e, hk, j => by
    have : k = xs.length := by
      have := congrArg List.length e
      rw [List.length_drop, List.length_nil] at this
      omega
    subst this
    exact ⟨[], s, by unfold compL; rw [if_pos (.inl rfl)], rfl, by rw [List.append_nil]; exact j⟩
  | k, x :: ys, acc, s, e, hk, j => by
    have hx : xs[k]? = some x := by
      have := congrArg (·[0]?) e
      simpa using this.symm
    have hy : ys = xs.drop (k + 1) := by
      have := congrArg List.tail e
      simpa using this
    have hlt : k < xs.length := (List.getElem?_eq_some_iff.mp hx).1
    obtain ⟨ρ1, y, s2, h1, h2, h3⟩ := h k x acc s hx j
    obtain ⟨zs, s', h4, h5, h6⟩ := compL_ix J h hy hlt h3
    refine ⟨y :: zs, s', ?_, by rw [List.length_cons, h5, List.length_cons], ?_⟩
    · unfold compL
      rw [if_pos (.inl rfl), h1]
      simp only [yes_ev, h2, h4]
      rfl
    · rw [List.append_assoc] at h6
      exact h6
theorem comp_ix {f : FI} {xs : List Dv} {s1 : Sto} (J : Nat → List Dv → Sto → Prop) (hf : f ρ s = .ok { ws := xs } s1) (hl : xs.length ≤ lim) (j : J 0 [] s1)
    (h : ∀ i x acc s, xs[i]? = some x → J i acc s → ∃ ρ1 y s2, g x (wipeD ρ vs) s = some ρ1 ∧ elt ρ1 s = .ok y s2 ∧ J (i + 1) (acc ++ [y]) s2) : ∃ zs s', mComp f vs g mYes elt ρ s = .ok (.lst zs) s' ∧ zs.length = xs.length ∧ J xs.length zs s' := by
  obtain ⟨zs, s', h1, h2, h3⟩ := compL_ix J h (k := 0) (ys := xs) (acc := []) rfl (Nat.zero_le _) j
  refine ⟨zs, s', ?_, h2, h3⟩
  unfold mComp
  rw [hf, bind_ok]
  dsimp only
  rw [h1]
  dsimp only
  rw [if_pos (by rw [h2]; exact hl)]
/-- a loop, turn by turn: J i stands when i turns are done -/
theorem forL_ix {body : FS} {xs : List Dv} (J : Nat → Env → Sto → Prop) (h : ∀ i x ρ s, xs[i]? = some x → J i ρ s → ∃ ρ1 ρ2 s2, g x ρ s = some ρ1 ∧ (body ρ1 s = .nx ρ2 s2 ∨ body ρ1 s = .ct ρ2 s2) ∧ J (i + 1) ρ2 s2) :
    ∀ {k : Nat} {ys : List Dv} {ρ : Env} {s : Sto}, ys = xs.drop k → k ≤ xs.length → J k ρ s → ∃ ρ' s', forL none g body ys ρ s = .nx ρ' s' ∧ J xs.length ρ' s'
  | k, [], ρ, s, e, hk, j => by
    have : k = xs.length := by
      have := congrArg List.length e
      rw [List.length_drop, List.length_nil] at this
      omega
    subst this
    exact ⟨ρ, s, by unfold forL; rw [if_pos (.inl rfl)], j⟩
  | k, x :: ys, ρ, s, e, hk, j => by
    have hx : xs[k]? = some x := by
      have := congrArg (·[0]?) e
      simpa using this.symm
    have hy : ys = xs.drop (k + 1) := by
      have := congrArg List.tail e
      simpa using this
    have hlt : k < xs.length := (List.getElem?_eq_some_iff.mp hx).1
    obtain ⟨ρ1, ρ2, s2, h1, h2, h3⟩ := h k x ρ s hx j
    obtain ⟨ρ', s', h4, h5⟩ := forL_ix J h hy hlt h3
    refine ⟨ρ', s', ?_, h5⟩
    unfold forL
    rw [if_pos (.inl rfl), h1]
    rcases h2 with h2 | h2 <;> (simp only [h2]; exact h4)
theorem for_ix {F : FI} {body : FS} {xs : List Dv} {s1 : Sto} (J : Nat → Env → Sto → Prop) (hF : F ρ s = .ok { ws := xs } s1) (j : J 0 ρ s1) (h : ∀ i x ρ s, xs[i]? = some x → J i ρ s → ∃ ρ1 ρ2 s2, g x ρ s = some ρ1 ∧ (body ρ1 s = .nx ρ2 s2 ∨ body ρ1 s = .ct ρ2 s2) ∧ J (i + 1) ρ2 s2) :
    ∃ ρ' s', mFor F g body ρ s = .nx ρ' s' ∧ J xs.length ρ' s' := by
  obtain ⟨ρ', s', h1, h2⟩ := forL_ix J h (k := 0) (ys := xs) rfl (Nat.zero_le _) j
  refine ⟨ρ', s', ?_, h2⟩
  unfold mFor
  rw [hF]
  exact h1
end
end
end MP
set_option Elab.async false
set_option linter.all false
set_option maxRecDepth 100000
set_option maxHeartbeats 400000
namespace MP
open PySem PySem.Spec PyProof.Rows L2
def dot (rs ls : List Int) : Int := ((rs.zip ls).map fun p => p.1 * p.2).sum
theorem dot_nil {ls : List Int} : dot [] ls = 0 := by simp [dot]
theorem dot_nil' : ∀ {rs : List Int}, dot rs [] = 0 := by intro rs; simp [dot]
theorem dot_cons {a b : Int} {rs ls : List Int} : dot (a :: rs) (b :: ls) = a * b + dot rs ls := by simp [dot]
def at1 (lev n : Int) : Int := if lev ≤ n then 1 else 0
/-- the levels of an ascending row, each with how far it is above the one ahead -/
def lv : Int → List Int → List (Int × Int)
  | _, [] => []
  | b, a :: r => (a, a - b) :: lv a r
theorem sum_map_mul {α : Type} (k : Int) (f : α → Int) : ∀ l : List α, (l.map fun a => k * f a).sum = k * (l.map f).sum
  | [] => by simp
  | a :: l => by simp [sum_map_mul k f l, Int.mul_add]
theorem sum_map_add {α : Type} (f g : α → Int) : ∀ l : List α, (l.map fun a => f a + g a).sum = (l.map f).sum + (l.map g).sum
  | [] => by simp
  | a :: l => by simp [sum_map_add f g l]; omega
theorem sum_zero {α : Type} : ∀ l : List α, (l.map fun _ => (0 : Int)).sum = 0
  | [] => rfl
  | _ :: l => by simp [sum_zero l]
/-- each result is what its levels tell; so is each sum of them -/
theorem dot_levels {L : List (Int × Int)} : ∀ {rs ls : List Int}, (∀ n ∈ ls, (L.map fun p => p.2 * at1 p.1 n).sum = n) → (L.map fun p => p.2 * dot rs (ls.map (at1 p.1))).sum = dot rs ls
  | [], ls, _ => by
    simp only [dot_nil, Int.mul_zero]
    exact sum_zero L
  | a :: rs, [], _ => by
    simp only [List.map_nil, dot_nil', Int.mul_zero]
    exact sum_zero L
  | a :: rs, b :: ls, h => by
    have ih := dot_levels (L := L) (rs := rs) (ls := ls) fun n hn => h n (List.mem_cons_of_mem _ hn)
    have hb := h b List.mem_cons_self
    simp only [List.map_cons, dot_cons]
    rw [show (fun p : Int × Int => p.2 * (a * at1 p.1 b + dot rs (ls.map (at1 p.1)))) = fun p => a * (p.2 * at1 p.1 b) + p.2 * dot rs (ls.map (at1 p.1)) from funext fun p => by rw [Int.mul_add, Int.mul_left_comm]]
    rw [sum_map_add, sum_map_mul, hb, ih]
theorem at1_mono {lev a b : Int} (h : a ≤ b) : at1 lev a ≤ at1 lev b := by unfold at1; split <;> split <;> omega
theorem srt_at1 (lev : Int) (ns : List Int) : srt (ns.map (at1 lev)) = (srt ns).map (at1 lev) := by
  refine (srt_uniq (l := ns.map (at1 lev)) ((srt_perm ns).map _) ?_).symm
  rw [List.pairwise_map]
  exact (srt_sorted ns).imp fun h => at1_mono h
end MP
namespace MP
end MP
set_option Elab.async false
set_option linter.all false
set_option maxRecDepth 100000
set_option maxHeartbeats 400000
namespace MP
open PySem PySem.Spec PyProof.Rows L2
/-- a thing of at most n parts, at most k deep -/
structure Pl (n k : Nat) (w : Dv) (d : PyData) : Prop where
  to : toD0 w = some d
  lay : d.canLay0 = true
  shw : d.showable = true
  nod : d.hasDict = false
  deep : d.depth ≤ k
  len : d.shown.length + 2 ≤ 2000 * n
structure Pls (n k : Nat) (ws : List Dv) (ds : List PyData) : Prop where
  to : toDs ws = some ds
  lay : PyData.canLayAll0 ds = true
  shw : PyData.showableAll ds = true
  nod : PyData.hasDictAll ds = false
  deep : PyData.depthAll ds ≤ k
  len : piled (PyData.shownAll ds) ≤ 2000 * n
def Sm (i : Int) : Prop := i.natAbs < 2 ^ 300
theorem Sm.of {i : Int} (h : -1000000000000 ≤ i) (h2 : i ≤ 1000000000000) : Sm i := by
  have h3 : i.natAbs ≤ 1000000000000 := by omega
  exact Nat.lt_of_le_of_lt h3 (Nat.lt_of_lt_of_le (by decide : 1000000000000 < 2 ^ 40) (Nat.pow_le_pow_right (by decide) (by decide)))
theorem Sm.log {i : Int} (h : Sm i) : i.natAbs.log2 < 1920 := by
  by_cases h0 : i.natAbs = 0
  · rw [h0]; decide
  · exact (Nat.log2_lt h0).mpr (Nat.lt_of_lt_of_le h (Nat.pow_le_pow_right (by decide) (by decide)))
variable {n m k j : Nat} {w : Dv} {d : PyData} {ws us : List Dv} {ds es : List PyData} {i : Int} {ns : List Int} {s : Sto}
theorem pl_int (h : Sm i) : Pl 1 0 (.int i) (.int i) where
  to := rfl
  lay := by simp only [PyData.canLay0]
  shw := by
    simp only [PyData.showable]
    exact decide_eq_true h.log
  nod := by simp only [PyData.hasDict]
  deep := by simp only [PyData.depth]; exact Nat.le_refl _
  len := by
    have := int_text_len_1921 h.log
    simp only [PyData.shown]
    exact Nat.le_trans (Nat.add_le_add_right this 2) (by decide)
theorem pls_nil : Pls 0 k [] [] where
  to := rfl
  lay := by simp only [PyData.canLayAll0]
  shw := by simp only [PyData.showableAll]
  nod := by simp only [PyData.hasDictAll]
  deep := by simp only [PyData.depthAll]; exact Nat.zero_le _
  len := by simp only [PyData.shownAll, piled_nil]; exact Nat.zero_le _
theorem pls_cons (h : Pl n k w d) (t : Pls m k ws ds) : Pls (n + m) k (w :: ws) (d :: ds) where
  to := by simp only [toDs, h.to, t.to]
  lay := by simp only [PyData.canLayAll0, h.lay, t.lay]; rfl
  shw := by simp only [PyData.showableAll, h.shw, t.shw]; rfl
  nod := by simp only [PyData.hasDictAll, h.nod, t.nod]; rfl
  deep := by simp only [PyData.depthAll]; exact Nat.max_le.mpr ⟨h.deep, t.deep⟩
  len := by
    have h1 := h.len
    have h2 := t.len
    simp only [PyData.shownAll, piled_cons]
    omega
theorem Pl.mono (h : Pl n k w d) (hn : n ≤ m) (hk : k ≤ j) : Pl m j w d := ⟨h.to, h.lay, h.shw, h.nod, Nat.le_trans h.deep hk, Nat.le_trans h.len (Nat.mul_le_mul_left _ hn)⟩
theorem Pls.mono (h : Pls n k ws ds) (hn : n ≤ m) (hk : k ≤ j) : Pls m j ws ds := ⟨h.to, h.lay, h.shw, h.nod, Nat.le_trans h.deep hk, Nat.le_trans h.len (Nat.mul_le_mul_left _ hn)⟩
theorem listText_len : ∀ ts : List Str, (listText ts).length ≤ piled ts + 2
  | [] => by decide
  | t :: r => by
    unfold listText
    rw [strLen_append]
    show (textFrom 1 (("[" : Str) ++ ("" : String) ++ t) r).length + 1 ≤ _
    rw [textFrom_length_pos _ _ _ (by decide), strLen_append, strLen_append, piled_cons]
    show 1 + 0 + t.length + piled r + 1 ≤ _
    omega
theorem tupleText_len (ts : List Str) : (tupleText ts).length ≤ piled ts + 3 := by
  unfold tupleText
  rw [strLen_append, strLen_append]
  have e1 : ((("(" : String) : Str)).length = 1 := rfl
  have e3 : (((if ts.length == 1 then ",)" else ")" : String) : Str)).length ≤ 2 := by split <;> decide
  rw [e1]
  by_cases h : ts = []
  · subst h
    show 1 + 0 + _ ≤ _
    omega
  · have := join_length_add ts h
    omega
theorem pl_lst (h : Pls n k ws ds) : Pl (n + 1) (k + 1) (.lst ws) (.list ds) where
  to := by simp only [toD0, h.to]; rfl
  lay := by simp only [PyData.canLay0, h.lay]
  shw := by simp only [PyData.showable, h.shw]
  nod := by simp only [PyData.hasDict, h.nod]
  deep := by simp only [PyData.depth]; exact Nat.succ_le_succ h.deep
  len := by
    have h1 := h.len
    have h2 := listText_len (PyData.shownAll ds)
    simp only [PyData.shown]
    omega
theorem pl_tup (h : Pls n k ws ds) : Pl (n + 1) (k + 1) (.tup ws) (.tuple ds) where
  to := by simp only [toD0, h.to]; rfl
  lay := by simp only [PyData.canLay0, h.lay]
  shw := by simp only [PyData.showable, h.shw]
  nod := by simp only [PyData.hasDict, h.nod]
  deep := by simp only [PyData.depth]; exact Nat.succ_le_succ h.deep
  len := by
    have h1 := h.len
    have h2 := tupleText_len (PyData.shownAll ds)
    simp only [PyData.shown]
    omega
theorem pls_ints : ∀ {ns : List Int}, (∀ i ∈ ns, Sm i) → Pls ns.length 0 (ns.map .int) (ns.map .int)
  | [], _ => pls_nil
  | a :: ns, h => by
    have := pls_cons (pl_int (h a List.mem_cons_self)) (pls_ints fun i hi => h i (List.mem_cons_of_mem _ hi))
    rw [Nat.add_comm] at this
    exact this
theorem pl_tI (h : ∀ i ∈ ns, Sm i) : Pl (ns.length + 1) 1 (tI ns) (.tuple (ns.map .int)) := pl_tup (pls_ints h)
theorem repr_pl (hd : disp w = true) (ht : toD s w = toD0 w) (h : Pl n k w d) (hn : n ≤ 8000) (hk : k ≤ 60) : reprD s [w] = some (.str d.shown) := by
  show (if disp w = true then match toD s w with
      | some d => if d.showable = true ∧ d.hasDict = false ∧ d.depth ≤ 60 ∧ d.shown.length ≤ lim then some (Dv.str d.shown) else none
      | none => none
    else none) = _
  rw [if_pos hd, ht, h.to]
  have h1 := h.len
  exact if_pos ⟨h.shw, h.nod, Nat.le_trans h.deep hk, by unfold lim; omega⟩
theorem repr_lst (h : Pl n k (.lst ws) d) (hn : n ≤ 8000) (hk : k ≤ 60) : reprD s [.lst ws] = some (.str d.shown) := repr_pl rfl rfl h hn hk
theorem ne_ss {a b : Str} : neD s (.str a) (.str b) = some (.bl (!decide (a = b))) := by
  have e : decide (V.str a = V.str b) = decide (a = b) := by
    by_cases h : a = b
    · rw [h, decide_eq_true rfl, decide_eq_true rfl]
    · rw [decide_eq_false h, decide_eq_false fun z => h (V.str.inj z)]
  show (some (decide (V.str a = V.str b))).map (fun b => Dv.bl (!b)) = _
  rw [e]
  rfl
theorem ne_refl_ss {a : Str} : neD s (.str a) (.str a) = some (.bl false) := by rw [ne_ss, decide_eq_true rfl]; rfl
/-- ints of any size -/
theorem toDs_ints : ∀ ns : List Int, toDs (ns.map .int) = some (ns.map .int)
  | [] => rfl
  | a :: ns => by
    rw [List.map_cons]
    simp only [toDs, toD0, toDs_ints ns]
    rfl
theorem lay_ints : ∀ ns : List Int, PyData.canLayAll0 (ns.map .int) = true
  | [] => by simp only [List.map_nil, PyData.canLayAll0]
  | a :: ns => by simp only [List.map_cons, PyData.canLayAll0, PyData.canLay0, lay_ints ns]; rfl
theorem deep_ints : ∀ ns : List Int, PyData.depthAll (ns.map .int) = 0
  | [] => by simp only [List.map_nil, PyData.depthAll]
  | a :: ns => by simp only [List.map_cons, PyData.depthAll, PyData.depth, deep_ints ns]; rfl
theorem shaped_list_ints : SeqAt.shaped (.list (ns.map .int)) = true := by
  unfold SeqAt.shaped
  simp only [PyData.canLay0, lay_ints, PyData.depth, deep_ints]
  rfl
theorem eqv_ints : ∀ ns ms : List Int, PyData.eqvAll (ns.map .int) (ms.map .int) = decide (ns = ms)
  | [], [] => by simp [PyData.eqvAll]
  | [], _ :: _ => by simp [PyData.eqvAll]
  | _ :: _, [] => by simp [PyData.eqvAll]
  | a :: ns, b :: ms => by
    rw [List.map_cons, List.map_cons]
    simp only [PyData.eqvAll, PyData.eqv, eqv_ints ns ms]
    by_cases h : a = b <;> by_cases h2 : ns = ms <;> simp [h, h2]
theorem eqB_lI {ms : List Int} : eqB s (lI ns) (lI ms) = some (decide (ns = ms)) := by
  have e1 : toD s (lI ns) = some (.list (ns.map .int)) := by
    show (toDs (ns.map .int)).map PyData.list = _
    rw [toDs_ints]; rfl
  have e2 : toD s (lI ms) = some (.list (ms.map .int)) := by
    show (toDs (ms.map .int)).map PyData.list = _
    rw [toDs_ints]; rfl
  show (match toD s (lI ns), toD s (lI ms) with
    | some d, some e => if SeqAt.shaped d = true ∧ SeqAt.shaped e = true then some (PyData.eqv d e) else none
    | _, _ => none) = _
  rw [e1, e2]
  dsimp only
  rw [if_pos ⟨shaped_list_ints, shaped_list_ints⟩]
  simp only [PyData.eqv, eqv_ints]
theorem ne_lI {ms : List Int} : neD s (lI ns) (lI ms) = some (.bl (!decide (ns = ms))) := by
  unfold neD
  rw [eqB_lI]
  rfl
theorem repr_ne {f g : FE} {ρ : Env} {s1 s2 : Sto} {t : Str} {w' : Dv} (h1 : f ρ s = .ok w s1) (h2 : g ρ s1 = .ok w' s2) (r1 : reprD s1 [w] = some (.str t)) (r2 : reprD s2 [w'] = some (.str t)) : mTest (mBin neD (mBlt reprD (mCons f mNil)) (mBlt reprD (mCons g mNil))) ρ s = .ok false s2 := by
  rw [test_ev, bin_ev, blt_ev, cons_ev, h1, bind_ok, nil_ev, bind_ok, bind_ok, r1, of_some, bind_ok, blt_ev, cons_ev, h2, bind_ok, nil_ev, bind_ok, bind_ok, r2, of_some, bind_ok, ne_refl_ss, of_some, bind_ok, testK_bl]
/-- the branch that is not taken -/
theorem ifS_f {t : FT} {c c' : FS} {ρ : Env} {s1 : Sto} (h : t ρ s = .ok false s1) : mIfS t c c' ρ s = c' ρ s1 := by
  rw [ifS_ev, h, then_ok, if_neg (by decide)]
theorem ifS_t {t : FT} {c c' : FS} {ρ : Env} {s1 : Sto} (h : t ρ s = .ok true s1) : mIfS t c c' ρ s = c ρ s1 := by
  rw [ifS_ev, h, then_ok, if_pos rfl]
theorem lst_v {fa : FA} {ρ : Env} {s1 : Sto} {ws : List Dv} (h : fa ρ s = .ok ws s1) (hl : ws.length ≤ 1000000) : mLst fa ρ s = .ok (.lst ws) s1 := by
  rw [lst_ev, h, bind_ok, if_pos (by unfold lim; omega)]
theorem tup_v {fa : FA} {ρ : Env} {s1 : Sto} {ws : List Dv} (h : fa ρ s = .ok ws s1) (hl : ws.length ≤ 1000000) : mTup fa ρ s = .ok (.tup ws) s1 := by
  rw [tup_ev, h, bind_ok, if_pos (by unfold lim; omega)]
theorem cons_v {f : FE} {fa : FA} {ρ : Env} {s1 s2 : Sto} {w : Dv} {ws : List Dv} (h : f ρ s = .ok w s1) (h2 : fa ρ s1 = .ok ws s2) : mCons f fa ρ s = .ok (w :: ws) s2 := by
  rw [cons_ev, h, bind_ok, h2, bind_ok]
theorem call_v {d : Fn} {fa : FA} {ρ : Env} {s1 : Sto} {ws : List Dv} {r : R Dv} (h : fa ρ s = .ok ws s1) (h2 : d ws s1 = r) : mCall d fa ρ s = r := by
  rw [call_ev, h, bind_ok, h2]
theorem bin_v {o : O2} {f g : FE} {ρ : Env} {s1 s2 : Sto} {x y z : Dv} (h : f ρ s = .ok x s1) (h2 : g ρ s1 = .ok y s2) (h3 : o s2 x y = some z) : mBin o f g ρ s = .ok z s2 := by
  rw [bin_ev, h, bind_ok, h2, bind_ok, h3, of_some]
theorem blt_v {o : ON} {fa : FA} {ρ : Env} {s1 : Sto} {ws : List Dv} {z : Dv} (h : fa ρ s = .ok ws s1) (h3 : o s1 ws = some z) : mBlt o fa ρ s = .ok z s1 := by
  rw [blt_ev, h, bind_ok, h3, of_some]
theorem asg_v {f : FE} {i : Nat} {ρ : Env} {s1 : Sto} {w : Dv} (h : f ρ s = .ok w s1) : mAsg f (gN i) ρ s = .nx (ρ.set i (some w)) s1 := by
  rw [asgN_ev, h, then_ok]
theorem ret_v {f : FE} {ρ : Env} {s1 : Sto} {w : Dv} (h : f ρ s = .ok w s1) : mRet f ρ s = .rt w s1 := by
  rw [ret_ev, h, then_ok]
theorem seq_nx {c c' : FS} {ρ ρ1 : Env} {s1 : Sto} {r : C} (h : c ρ s = .nx ρ1 s1) (h2 : c' ρ1 s1 = r) : mSeq c c' ρ s = r := by
  rw [seq_ev, h, seqK_nx, h2]
theorem test_v {f : FE} {ρ : Env} {s1 : Sto} {b : Bool} (h : f ρ s = .ok (.bl b) s1) : mTest f ρ s = .ok b s1 := by
  rw [test_ev, h, bind_ok, testK_bl]
section
open Classical
variable {vs : List Nat} {g : FG} {tt : FT} {elt : FE} {ρ : Env}
/-- a comprehension with a test that changes nothing -/
theorem comp_filt {α : Type} {f : FI} {l : List α} {e : α → Dv} (φ : α → Dv) (t : α → Bool) (hf : f ρ s = .ok { ws := l.map e } s) (hl : l.length ≤ lim) (h : ∀ a ∈ l, ∃ ρ1, g (e a) (wipeD ρ vs) s = some ρ1 ∧ tt ρ1 s = .ok (t a) s ∧ (t a = true → elt ρ1 s = .ok (φ a) s)) : mComp f vs g tt elt ρ s = .ok (.lst ((l.filter t).map φ)) s := by
  have key : ∀ {l : List α}, (∀ a ∈ l, ∃ ρ1, g (e a) (wipeD ρ vs) s = some ρ1 ∧ tt ρ1 s = .ok (t a) s ∧ (t a = true → elt ρ1 s = .ok (φ a) s)) → compL none vs g tt elt ρ (l.map e) s = some ((l.filter t).map φ, s) := fun {l} => by
    induction l with
    | nil => intro _; rw [List.map_nil]; simp [compL]
    | cons a l ih =>
      intro h
      obtain ⟨ρ1, h1, h2, h3⟩ := h a List.mem_cons_self
      rw [List.map_cons]
      unfold compL
      rw [if_pos (.inl rfl), h1]
      simp only [h2]
      cases q : t a with
      | true =>
        rw [List.filter_cons_of_pos q]
        simp only [h3 q]
        rw [ih fun b hb => h b (List.mem_cons_of_mem _ hb)]
        rfl
      | false =>
        rw [List.filter_cons_of_neg (by rw [q]; decide)]
        exact ih fun b hb => h b (List.mem_cons_of_mem _ hb)
  unfold mComp
  rw [hf, bind_ok]
  dsimp only
  rw [key h]
  dsimp only
  rw [if_pos (by rw [List.length_map]; exact Nat.le_trans (List.length_filter_le _ _) hl)]
end
end MP
set_option Elab.async false
set_option linter.all false
set_option maxRecDepth 100000
set_option maxHeartbeats 4000000
namespace MP
open PySem PySem.Spec PyProof.Rows L2
def maxO (d : Int) : List Int → Int
  | [] => d
  | n :: ns => ns.foldl max n
end MP
set_option Elab.async false
set_option linter.all false
set_option maxRecDepth 100000
set_option maxHeartbeats 4000000
namespace MPZ
open PySem PySem.W
section
variable {prog : Program} {w : World} {A : Around} {E : Value → Shared → Prop} {s : Shared} {z TI TO T i1 i2 l1 l2 : Addr} {f : Bool} {oT : Obj} {k1 k2 : Nat} {xs ys : Array Value}
/-- a zip that goes on while its last tuple is still held -/
structure On (h : Heap) (z TI i1 i2 l1 l2 : Addr) (k1 k2 : Nat) (xs ys : Array Value) : Prop where
  tI : PySem.IsPair h TI (.ref i1) (.ref i2)
  a : h.IsTupleIter i1 l1 k1
  b : h.IsTupleIter i2 l2 k2
  la : h.IsTuple l1 xs
  lb : h.IsTuple l2 ys
/-- where a zip of two tuples stands -/
structure Zst (h : Heap) (z TI TO i1 i2 l1 l2 S : Addr) (k : Nat) (xs ys : Array Value) : Prop where
  on : On h z TI i1 i2 l1 l2 k k xs ys
  st : (PySem.IsZip h z TI TO .none ∧ PySem.IsPair h TO .none .none) ∨ ∃ T f oT, IsZipHeld h z TI TO T f ∧ h.get? T = some oT ∧ T ≠ z ∧ T ≠ i1 ∧ T ≠ i2 ∧ T ≠ S
variable {S : Addr} {k : Nat}
/-- the pairs, as new tuples above lo -/
structure Prs (xs ys : Array Value) (lo : Addr) (h : Heap) (as : List Addr) : Prop where
  rise : as.Pairwise (· < ·)
  over : ∀ a ∈ as, lo < a
  pair : ∀ (j : Nat) (a : Addr), as[j]? = some a → ∃ x y, xs[j]? = some x ∧ ys[j]? = some y ∧ PySem.IsPair h a x y
theorem Prs.low {lo lo' : Addr} {h : Heap} {as : List Addr} (p : Prs xs ys lo h as) (hl : lo' ≤ lo) : Prs xs ys lo' h as := ⟨p.rise, fun a ha => Nat.lt_of_le_of_lt hl (p.over a ha), p.pair⟩
theorem Prs.keep {lo : Addr} {h g : Heap} {as : List Addr} (p : Prs xs ys lo h as) (hk : ∀ b u, lo < b → h.get? b = some u → g.get? b = some u) : Prs xs ys lo g as :=
  ⟨p.rise, p.over, fun j a q => let ⟨x, y, e1, e2, e3⟩ := p.pair j a q; ⟨x, y, e1, e2, hk a _ (p.over a (List.mem_of_getElem? q)) e3⟩⟩
end
section
variable {prog : Program} {w : World} {A : Around} {s : Shared} {R : Result → Shared → Prop} {z TI TO i1 i2 l1 l2 S : Addr} {xs ys : Array Value}
theorem Zst.ty {h : Heap} {k : Nat} (zs : Zst h z TI TO i1 i2 l1 l2 S k xs ys) {s : Shared} (e : s.heap = h) : s.TypeIs (.ref z) "zip" := by
  subst e
  rcases zs.st with ⟨hz, _⟩ | ⟨_, _, _, hz, _⟩
  · exact ⟨_, hz, rfl⟩
  · exact ⟨_, hz, rfl⟩
end
end MPZ
set_option Elab.async false
set_option linter.all false
set_option maxRecDepth 100000
set_option maxHeartbeats 4000000
namespace MP
open PySem PySem.Spec PyProof.Rows L2
theorem Un.more {fs ex : List Addr} {H H1 : Hp} {h h' : Heap} {a : Addr} {o : HO} (u : Un fs ex H H1 h h') (hp : h.objs.size ≤ a) (hn : H1 a = none) : Un fs ex H (upd H1 a o) h h' where
  keep := u.keep
  slot := u.slot
  free := fun b ob q n hx => by rw [upd_ne (Nat.ne_of_lt (Nat.lt_of_lt_of_le (Heap.lt_size q) hp))]; exact u.free b ob q n hx
  there := u.there
  tups := fun b xs q => by rw [upd_ne (ne_of_none (u.tups b xs q) hn)]; exact u.tups b xs q
  frzs := fun b ob xs q => by rw [upd_ne (ne_of_none (u.frzs b ob xs q) hn)]; exact u.frzs b ob xs q
  tbls := fun b ps q => by
    obtain ⟨m, e⟩ := u.tbls b ps q
    exact ⟨m, by rw [upd_ne (ne_of_none e hn)]; exact e⟩
theorem HOk.more {P : Program} {w : World} {H : Hp} {h : Heap} {a : Addr} {o : HO} (x : HOk P w H h) (hn : H a = none) (new : ObjOk P w (upd H a o) h a o) : HOk P w (upd H a o) h := fun b u e => by
  by_cases hb : b = a
  · subst hb
    rw [upd_same] at e
    cases e
    exact new
  · rw [upd_ne hb] at e
    exact (x b u e).stay (fun _ _ _ q => q) (fun c q => (upd_ne (ne_of_none q hn)).trans q) fun c ps q => (upd_ne (ne_of_none q hn)).trans q
end MP
set_option Elab.async false
set_option linter.all false
set_option maxRecDepth 100000
set_option maxHeartbeats 4000000
namespace MP
open PySem PySem.Spec PyProof.Rows L2
def under (c j : Nat) : Bool := decide (c = j) || (decide (j = 0) && decide (c ≤ 7))
def underT (c : Nat) (n : String) : Option Bool := if n = "ValueError" then some (decide (c ≤ 7)) else if n = "LookupError" then some (decide (c = 8)) else none
def exCls : Dv → Option Nat
  | .exc c _ _ => if c < 9 then some c else none
  | .exn c => if c < 9 then some c else none
  | _ => none
def isxD : ON := fun _ xs => match xs with
  | [x, .cl j] => match exCls x with
    | some c => if j < 9 then some (.bl (under c j)) else none
    | none => none
  | [x, .ty n] => match exCls x with
    | some c => (underT c n).map .bl
    | none => none
  | _ => none
section
variable {X : Cx} {Γ : Ct}
/-- isinstance, of data and of exceptions -/
def isiA : ON := fun s xs => match isiD s xs with
  | some w => some w
  | none => isxD s xs
end
end MP
set_option Elab.async false
set_option linter.all false
set_option maxRecDepth 100000
set_option maxHeartbeats 4000000
namespace MP
open PySem PySem.Spec PyProof.Rows L2
/-- raise C(e) -/
def mRaise (c : Nat) (f : Str) (g : FE) : FS := fun ρ s => (g ρ s).thenC ρ fun w s1 => .er ⟨c, f, w⟩ ρ s1
end MP
set_option Elab.async false
set_option linter.all false
set_option maxRecDepth 100000
set_option maxHeartbeats 4000000
namespace MP
open PySem PySem.Spec PyProof.Rows L2
end MP
set_option Elab.async false
set_option linter.all false
set_option maxRecDepth 100000
set_option maxHeartbeats 4000000
namespace MP
open PySem PySem.Spec PyProof.Rows L2
end MP
set_option Elab.async false
set_option linter.all false
set_option maxRecDepth 100000
set_option maxHeartbeats 4000000
namespace MP
open PySem PySem.Spec PyProof.Rows L2
/-- the names of a lambda: captured ones, globals, and of its own none but what its maker has not -/
structure LamN (N : List Str) (sc scope : Scope) : Prop where
  kind : scope.kind = .function
  co : scope.isCoroutine = false
  gen : scope.isGenerator = false
  cell : ∀ y ∈ scope.names, y.2 ≠ .cell
  own : ∀ y ∈ scope.names, y.2 = .local → y.1 ∉ N
  free : ∀ y ∈ scope.names, y.2 = .free → sc.names.lookup y.1 = some .cell ∨ sc.names.lookup y.1 = some .free
theorem LamN.has {N : List Str} {X : Cx} {scope : Scope} (L : LamN N X.env.scope scope) (ok : X.Ok) : ∀ y ∈ scope.names, y.2 = .free → ∃ c, X.env.cells.lookup y.1 = some c := fun y hy e => ok.has _ (L.free y hy e)
end MP
set_option Elab.async false
set_option linter.all false
set_option maxRecDepth 100000
set_option maxHeartbeats 4000000
namespace MP
open PySem PySem.Spec PyProof.Rows L2
abbrev lamFd (q : Str) (params : Arguments) (body : Expr) (scope : Scope) (cl : List (Str × Addr)) (dV doc pm : Value) (c' : Addr) (ctv : Value) : FuncData := PySem.W.kdv_fn "<lambda>" q params (.expr body) scope cl dV doc pm (.ref c') ctv
abbrev lamObj (q : Str) (params : Arguments) (body : Expr) (scope : Scope) (cl : List (Str × Addr)) (dV doc pm : Value) (c' : Addr) (ctv : Value) : Obj := { cls := .type "function", data := .func (lamFd q params body scope cl dV doc pm c' ctv) }
/-- a lambda on its way, made ahead of the state s0 under the frames outer: what holds of it and what its call does -/
structure Thk (P : Program) (w : World) (Γ : Ct) (mg : Str → Option Value) (base : Heap) (kk : Nat) (outer : List PySem.Env) (s0 : Shared) (H0 : Hp) (f c' : Addr) (q : Str) (ws : List Dv) (vs : List V) (g : Sto → R Dv) : Prop where
  fn : ∀ (s1 : Shared) (HZ : Hp), Un (frs outer) [] H0 HZ s0.heap s1.heap → HOk P w HZ s1.heap → PySem.W.FnAt f s1.heap
  run : ∀ (A : Around) (outer1 : List PySem.Env) (s1 : Shared) (HZ : Hp) (Q : VK) (E : XK) (μ : Mu) (Z : Zs) (st : Sto), Room kk A → A.guards = some [] → Env0 P w Γ.K mg base A outer1 s1 HZ → Un (frs outer) [] H0 HZ s0.heap s1.heap →
    HZ c' = some (LamX.CodeO c' q) → RVs Γ HZ μ Z ws vs → Rep Γ HZ μ Z st → PostE Γ (fun c d _ H => E c d H) HZ μ Z [] Q (g st) → codeAny (model P w) A (.call (.ref f) ⟨[], []⟩) (CR (L2.CX P w) outer1 P w HZ s1 Q E) s1
theorem un_comp {fs : List Addr} {L : Addr} {H H1 H2 : Hp} {h h1 h2 : Heap} (u : Un fs [] H H1 h h1) (v : Un (L :: fs) [] H1 H2 h1 h2) (hL : h.objs.size ≤ L) : Un fs [] H H2 h h2 where
  keep := fun b o q n hb hx => v.keep b o (u.keep b o q n hb hx) (u.free b o q n hx) (fun z => (List.mem_cons.mp z).elim (fun e => Nat.lt_irrefl _ (Nat.lt_of_lt_of_le (Heap.lt_size q) (by rw [e]; exact hL))) hb) hx
  slot := fun b o q n hb hx => by
    obtain ⟨sl, e1⟩ := u.slot b o q n hb hx
    obtain ⟨sl2, e2⟩ := v.slot b _ e1 (u.free b o q n hx) (List.mem_cons_of_mem _ hb) hx
    exact ⟨sl2, e2⟩
  free := fun b o q n hx => by
    obtain ⟨o1, e1⟩ := u.there b o q hx
    exact v.free b o1 e1 (u.free b o q n hx) hx
  there := fun b o q hx => by
    obtain ⟨o1, e1⟩ := u.there b o q hx
    exact v.there b o1 e1 hx
  tups := fun b xs q => v.tups b xs (u.tups b xs q)
  frzs := fun b o xs q => v.frzs b o xs (u.frzs b o xs q)
  tbls := fun b ps q => by
    obtain ⟨m1, e1⟩ := u.tbls b ps q
    obtain ⟨m2, e2⟩ := v.tbls b _ e1
    exact ⟨m1 ++ m2, by rw [e2, Array.append_assoc]⟩
/-- one frame deeper -/
theorem Thk.deeper {P : Program} {w : World} {Γ : Ct} {mg : Str → Option Value} {base : Heap} {kk : Nat} {outer : List PySem.Env} {s0 s' : Shared} {H0 H' : Hp} {f c' : Addr} {q : Str} {ws : List Dv} {vs : List V} {g : Sto → R Dv} {env : PySem.Env} {L : Addr}
    (T : Thk P w Γ mg base kk outer s0 H0 f c' q ws vs g) (hf : env.frame = some L) (hL : s0.heap.objs.size ≤ L) (u : Un (frs outer) [] H0 H' s0.heap s'.heap) : Thk P w Γ mg base kk (env :: outer) s' H' f c' q ws vs g := by
  have e : frs (env :: outer) = L :: frs outer := by unfold frs; rw [List.filterMap_cons, hf]
  exact ⟨fun s1 HZ v ok => T.fn s1 HZ (un_comp u (e ▸ v) hL) ok, fun A outer1 s1 HZ Q E μ Z st h1 h2 h3 v => T.run A outer1 s1 HZ Q E μ Z st h1 h2 h3 (un_comp u (e ▸ v) hL)⟩
end MP
set_option Elab.async false
set_option linter.all false
set_option maxRecDepth 100000
set_option maxHeartbeats 4000000
namespace MP
open PySem PySem.Spec PyProof.Rows L2
end MP
set_option Elab.async false
set_option linter.all false
set_option maxRecDepth 100000
set_option maxHeartbeats 4000000
namespace MP
open PySem PySem.Spec PyProof.Rows L2
section
variable {X : Cx} {Γ : Ct} {W : WX} {k kk : Nat} {f : Addr} {fd : FuncData} {ps : List Str} {den : (Sto → R Dv) → Fn} {x a : Str} {i : Nat} {p p1 p2 pos lpos : Pos} {es : List Expr} {fa : FA}
open Classical in
/-- a(): the lambda that the name holds -/
noncomputable def mThk (i : Nat) (cl : Dv) (g : Sto → R Dv) : FE := fun ρ s => if ρ[i]? = some (some cl) then g s else .no
open Classical in
/-- x(a, ..): the lambda is handed on -/
noncomputable def mPass (cl : Dv) (g : Sto → R Dv) (den : (Sto → R Dv) → Fn) (fa : FA) : FE := fun ρ s => (fa ρ s).bind fun ws s1 => match ws with
  | w :: wa => if w = cl then den g wa s1 else .no
  | [] => .no
end
end MP
set_option Elab.async false
set_option linter.all false
set_option maxRecDepth 100000
set_option maxHeartbeats 4000000
namespace MP
open PySem PySem.Spec PyProof.Rows L2
end MP
set_option Elab.async false
set_option linter.all false
set_option maxRecDepth 100000
set_option maxHeartbeats 4000000
namespace MP
open PySem PySem.Spec PyProof.Rows L2
end MP
set_option Elab.async false
set_option linter.all false
set_option maxRecDepth 100000
set_option maxHeartbeats 4000000
namespace MP
open PySem PySem.Spec PyProof.Rows L2
end MP
set_option Elab.async false
set_option linter.all false
set_option maxRecDepth 100000
set_option maxHeartbeats 4000000
namespace MP
open PySem PySem.Spec PyProof.Rows L2
section
variable {s s1 : Sto} {ρ : Env} {w v : Dv} {f g : FE} {fa : FA} {c su : FS} {ws : List Dv} {i n : Nat} {j : Int} {b : Bool} {y : Str} {ks : List Key}
@[simp] theorem isA_ii : isiA s [.int j, .ty "int"] = some (.bl true) := rfl
@[simp] theorem isA_ib : isiA s [.int j, .ty "bool"] = some (.bl false) := rfl
@[simp] theorem isA_it : isiA s [.int j, .ty "tuple"] = some (.bl false) := rfl
@[simp] theorem isA_bi : isiA s [.bl b, .ty "int"] = some (.bl true) := rfl
@[simp] theorem isA_bb : isiA s [.bl b, .ty "bool"] = some (.bl true) := rfl
@[simp] theorem isA_bt : isiA s [.bl b, .ty "tuple"] = some (.bl false) := rfl
@[simp] theorem isA_ni : isiA s [.non, .ty "int"] = some (.bl false) := rfl
@[simp] theorem isA_nt : isiA s [.non, .ty "tuple"] = some (.bl false) := rfl
@[simp] theorem isA_si : isiA s [.str y, .ty "int"] = some (.bl false) := rfl
@[simp] theorem isA_st : isiA s [.str y, .ty "tuple"] = some (.bl false) := rfl
@[simp] theorem isA_tt : isiA s [.tup ws, .ty "tuple"] = some (.bl true) := rfl
@[simp] theorem isA_ti : isiA s [.tup ws, .ty "int"] = some (.bl false) := rfl
@[simp] theorem isA_lt : isiA s [.lst ws, .ty "tuple"] = some (.bl false) := rfl
@[simp] theorem isA_li : isiA s [.lst ws, .ty "int"] = some (.bl false) := rfl
@[simp] theorem raise_ev {k : Nat} : mRaise k y f ρ s = (f ρ s).thenC ρ fun w s1 => .er ⟨k, y, w⟩ ρ s1 := rfl
@[simp] theorem finC_er {x : Ex} : finC s.length (.er x ρ s) = .er x s := by
  show finX s.length x s = _
  unfold finX
  rw [if_pos (Nat.le_refl _)]
@[simp] theorem thk_ev {cl : Dv} {t : Sto → R Dv} : mThk 0 cl t (some cl :: ρ) s = t s := by unfold mThk; exact if_pos rfl
@[simp] theorem pass_ev {cl : Dv} {t : Sto → R Dv} {den : (Sto → R Dv) → Fn} : mPass cl t den (mCons (mVar 0) fa) (some cl :: ρ) s = (fa (some cl :: ρ) s).bind fun wa s1 => den t wa s1 := by
  unfold mPass mCons
  rw [var_0, bind_ok]
  cases fa (some cl :: ρ) s with
  | ok wa s1 => exact if_pos rfl
  | er _ _ => rfl
  | no => rfl
end
end MP
set_option Elab.async false
set_option linter.all false
set_option maxRecDepth 100000
set_option maxHeartbeats 4000000
namespace MP
open PySem PySem.Spec PyProof.Rows L2
mutual
def toX : Dv → Option PyData
  | .non => some .none | .bl b => some (.bool b) | .int i => some (.int i) | .str x => some (.str x)
  | .tup ws => (toXs ws).map .tuple
  | .dct ks ws => match ks, ws with
    | [], [] => some (.dict [])
    | _, _ => none
  | _ => none
def toXs : List Dv → Option (List PyData)
  | [] => some []
  | w :: ws => match toX w, toXs ws with
    | some d, some ds => some (d :: ds)
    | _, _ => none
end
end MP
set_option Elab.async false
set_option linter.all false
set_option maxRecDepth 100000
set_option maxHeartbeats 4000000
namespace MP
open PySem PySem.Spec PyProof.Rows L2
/-- a table: where the code object of its def stands, where the table, the lambdas' name -/
structure Tb where
  c : Addr
  T : Addr
  q : Str
def tabsOf : Nat → List Tb → Sto
  | _, [] => []
  | i, t :: r => .tab i t.q :: tabsOf (i + 1) r
theorem tabsOf_len : ∀ (i : Nat) (r : List Tb), (tabsOf i r).length = r.length
  | _, [] => rfl
  | i, t :: r => by simp [tabsOf, tabsOf_len (i + 1) r]
theorem tabsOf_get : ∀ {i n : Nat} {r : List Tb} {o : Ob}, (tabsOf i r)[n]? = some o → ∃ t, r[n]? = some t ∧ o = .tab (i + n) t.q
  | i, n, [], o, h => by simp [tabsOf] at h
  | i, 0, t :: r, o, h => by
    simp [tabsOf] at h
    exact ⟨t, rfl, h.symm⟩
  | i, n + 1, t :: r, o, h => by
    have h' : (tabsOf (i + 1) r)[n]? = some o := by simpa [tabsOf] using h
    obtain ⟨t', h1, h2⟩ := tabsOf_get h'
    exact ⟨t', by simpa using h1, by rw [h2]; congr 1; omega⟩
def Ts (tabs : List Tb) : List Addr := tabs.map (·.T)
section
variable {P : Program} {w : World} {Γ : Ct} {mg mb : Str → Option Value} {k : Nat} {fa a : Addr} {fd : FuncData} {x : Str} {den : Fn} {s₁ : Shared} {vs : List Value} {ns : List Int} {tabs : List Tb}
theorem law_GTs (KX : Γ.K.In s₁.heap) (hns : s₁.heap.Ns mainGlobals mg) (hb : s₁.heap.Ns builtinsNs mb) (hbb : ∀ x : Str, x ≠ "__name__" → mb x = bootBuiltins x) (hlim : s₁.heap.NoLimit) (hg : s₁.gens = #[])
    (hT : ∀ t ∈ tabs, s₁.heap.get? t.T = some { cls := .none, data := .fields #[] } ∧ Γ.K.lookup t.T = none ∧ PySem.W.CodeHd s₁.heap t.c t.T) (hΓ : ∀ (i : Nat) (t : Tb), tabs[i]? = some t → Γ.tb i = t.T) (nd : (Ts tabs).Nodup)
    (hbm : ∃ (bm : Addr) (ob : Obj), mg "__builtins__" = some (.ref bm) ∧ bm ≠ builtinsNs ∧ s₁.heap.get? bm = some ob ∧ ob.cls = .type "module" ∧ ob.dict = some builtinsNs ∧ ob.data = .plain)
    (ha : s₁.heap.get? a = some { cls := .type "list", data := .seq vs.toArray }) (hi : IntsAre vs ns) (hl : ns.length ≤ sizeLine) (hr : Room k callerA)
    (F : ∀ base : Heap, Γ.K.In base → base.Ns mainGlobals mg → (∀ t ∈ tabs, LamX.TabB base mg t.c t.T) → FnG P w mg base Γ k fa fd [x] den) (hbind : ∀ (s : Shared) (u : Value), BindsTo s fd ⟨[u], []⟩ [(x, u)])
    (hden : ∃ s', den [.sq (ns.map .int)] (tabsOf 0 tabs) = .ok (.bl true) s') :
    codeAny (model P w) callerA (.call (.ref fa) ⟨[.ref a], []⟩) (fun r s' => r = .ok (.ret (.bool true)) ∧ OldK s₁.heap s'.heap ∧ s'.os = s₁.os ∧ AllBare s'.gens) s₁ := by
  have rv : Vals (ns.map V.int) vs := vals_ints hi
  have rl := hi.length
  let ob : Obj := { cls := .type "list", data := .seq vs.toArray }
  let tr : HO := .frz ob (.lst (ns.map V.int))
  let H : Hp := fun b => if b = a ∧ Γ.K.lookup a = none then some tr else if b ∈ Ts tabs then some (.tbl #[]) else none
  have inT : ∀ {b : Addr}, b ∈ Ts tabs → ∃ t ∈ tabs, t.T = b := fun h => List.mem_map.mp h
  have atT : ∀ {b : Addr}, b ∈ Ts tabs → s₁.heap.get? b = some { cls := .none, data := .fields #[] } := fun h => by
    obtain ⟨t, h1, rfl⟩ := inT h
    exact (hT t h1).1
  have nT : ∀ {b : Addr}, b ∈ Ts tabs → Γ.K.lookup b = none := fun h => by
    obtain ⟨t, h1, rfl⟩ := inT h
    exact (hT t h1).2.1
  have naT : ∀ {b : Addr}, b ∈ Ts tabs → a ≠ b := fun h z => by rw [z, atT h] at ha; cases ha
  have HT : ∀ {b : Addr}, b ∈ Ts tabs → H b = some (.tbl #[]) := fun {b} h => by
    show (if b = a ∧ Γ.K.lookup a = none then some tr else if b ∈ Ts tabs then some (HO.tbl #[]) else none) = _
    rw [if_neg (fun z => naT h z.1.symm), if_pos h]
  have Hin : ∀ b o, H b = some o → ((b = a ∧ Γ.K.lookup a = none) ∧ o = tr) ∨ (b ∈ Ts tabs ∧ o = .tbl #[]) := fun b o e => by
    have e' : (if b = a ∧ Γ.K.lookup a = none then some tr else if b ∈ Ts tabs then some (HO.tbl #[]) else none) = some o := e
    split at e'
    · exact .inl ⟨by assumption, (Option.some.inj e').symm⟩
    · split at e'
      · exact .inr ⟨by assumption, (Option.some.inj e').symm⟩
      · cases e'
  have free : ∀ b, ¬ (b = a ∧ Γ.K.lookup a = none) → b ∉ Ts tabs → H b = none := fun b c d => (if_neg c).trans (if_neg d)
  have hok : HOk P w H s₁.heap := fun b o e => by
    rcases Hin b o e with ⟨⟨rfl, _⟩, rfl⟩ | ⟨h, rfl⟩
    · exact ⟨ha, by rw [List.length_map]; exact hl, vs, _, rv, ha⟩
    · exact atT h
  let base := hidT s₁.heap H
  have keeps : ∀ {b : Addr} {o : Obj}, s₁.heap.get? b = some o → (∀ (u : Array Value) (n : Nat), o.data ≠ .seq u n) → o.cls ≠ .none → base.get? b = some o := fun {b o} e h1 h2 => hidT_get e (free b (fun z => by
    rw [z.1, ha] at e
    cases e
    exact h1 _ _ rfl) fun z => by
    rw [atT z] at e
    cases e
    exact h2 rfl)
  have dictIn : ∀ {b : Addr} {m : Str → Option Value}, s₁.heap.Ns b m → base.Ns b m := fun {b m} ⟨o, es, ep, e, d, r⟩ => by
    refine ⟨o, es, ep, hidT_get e (free b (fun z => ?_) fun z => ?_), d, r⟩
    · rw [z.1, ha] at e
      cases e
      cases d
    · rw [atT z] at e
      cases e
      cases d
  have kIn : Γ.K.In base := fun b o e => hidT_get (KX b o e) (free b (fun z => by
    rw [z.1, z.2] at e
    cases e) fun z => by
    rw [nT z] at e
    cases e)
  have gM : base.Ns mainGlobals mg := dictIn hns
  have md : Mod Γ.K mg base := ⟨kIn, gM, ⟨mb, dictIn hb, hbb⟩, let ⟨mc, h1, h2⟩ := hlim; ⟨mc, dictIn h1, h2⟩⟩
  have gT : ∀ {b : Addr}, b ∈ Ts tabs → mainGlobals ≠ b := fun h z => by
    obtain ⟨o, es, ep, e, d, _⟩ := hns
    rw [z, atT h] at e
    cases e
    cases d
  have TB : ∀ t ∈ tabs, LamX.TabB base mg t.c t.T := fun t ht => by
    have htT : t.T ∈ Ts tabs := List.mem_map.mpr ⟨t, ht, rfl⟩
    refine ⟨?_, ?_, gT htT⟩
    · obtain ⟨o, us, file, tf, flags, tg, inF, text, tt, e1, r1, r2, r⟩ := (hT t ht).2.2
      exact ⟨o, us, file, tf, flags, tg, inF, text, tt, keeps e1 (fun u n z => by rw [r2] at z; cases z) (fun z => by rw [r1] at z; cases z), r1, r2, r⟩
    · obtain ⟨bm, o, b1, b2, b3, b4, b5, b6⟩ := hbm
      refine ⟨bm, o, b1, b2, fun z => ?_, fun z => ?_, keeps b3 (fun u n z => by rw [b6] at z; cases z) (fun z => by rw [b4] at z; cases z), b4, b5, b6⟩
      · obtain ⟨o2, es, ep, e, d, _⟩ := hns
        rw [z, e] at b3
        cases b3
        rw [b6] at d
        cases d
      · rw [z, atT htT] at b3
        cases b3
        cases b6
  have e0 : Env0 P w Γ.K mg base callerA [] s₁ H :=
    { frames := rfl, mod := md, bs := fun b o e => of_hidT e, bsz := Nat.le_of_eq (hidT_size _ _), funs := trivial, frf := fun b hb => (nomatch hb), hok := hok, bare := .of_eq hg }
  obtain ⟨s', hd⟩ := hden
  let μ : Mu := fun n => (Ts tabs)[n]?
  have μin : ∀ {n : Nat} {b : Addr}, μ n = some b → b ∈ Ts tabs := fun {n b} z => List.mem_of_getElem? z
  have rs : RV Γ H μ (fun _ => False) (.sq (ns.map .int)) (.ref a) := by
    refine ⟨a, _, rfl, ?_, RVs.of_ints ns⟩
    cases hk : Γ.K.lookup a with
    | none => exact .inl ⟨.inr ⟨ob, if_pos ⟨rfl, hk⟩⟩, ⟨fun n z => naT (μin z) rfl, id⟩⟩
    | some o =>
      have e := KX a o hk
      rw [ha] at e
      cases e
      exact .inr ⟨_, vs.toArray, _, hk, rfl, rfl, rfl, by rw [List.size_toArray, rl]; exact hl, by simpa using rv⟩
  have rep : Rep Γ H μ (fun _ => False) (tabsOf 0 tabs) := ⟨fun n o e => by
    obtain ⟨t, h1, rfl⟩ := tabsOf_get e
    have h2 : t.T ∈ Ts tabs := List.mem_map.mpr ⟨t, List.mem_of_getElem? h1, rfl⟩
    refine ⟨t.T, ?_, id, ?_, #[], HT h2, trivial, fun pos cv z => by simp [codeAmong] at z⟩
    · show (Ts tabs)[n]? = some t.T
      unfold Ts
      rw [List.getElem?_map, h1]
      rfl
    · rw [Nat.zero_add]
      exact (hΓ n t h1).symm, fun n m b e1 e2 => by
      have h1 := (List.getElem?_eq_some_iff.mp e1)
      have h2 := (List.getElem?_eq_some_iff.mp e2)
      obtain ⟨l1, g1⟩ := h1
      obtain ⟨l2, g2⟩ := h2
      exact (List.getElem_inj nd).mp (g1.trans g2.symm), fun n b e => by
      obtain ⟨l1, _⟩ := List.getElem?_eq_some_iff.mp e
      rw [tabsOf_len]
      unfold Ts at l1
      rw [List.length_map] at l1
      exact l1, fun b z => z.elim⟩
  refine codeAny_mono ((F base kIn gM TB).run callerA [] s₁ H ⟨[.ref a], []⟩ [.ref a] [.ref a] (fun v _ => v = .bl true) (fun _ _ _ => False) hr rfl e0 (hbind s₁ (.ref a)) (.cons rfl .nil)
    ⟨rfl, μ, _, _, [.sq (ns.map .int)], rep, RVs.cons rs rfl, by rw [hd]; exact fun v H' μ' _ _ r => r⟩) fun r s2 h => ?_
  cases r with
  | error e =>
    obtain ⟨_, _, _, _, _, _, _, _, _, _, _, _, z⟩ := h
    exact z.elim
  | ok fl =>
    cases fl with
    | next => exact h.elim
    | brk => exact h.elim
    | cont => exact h.elim
    | ret u =>
      obtain ⟨v, H', os, bare, un, hok', rv', q'⟩ := h
      obtain rfl : v = .bl true := q'
      obtain rfl : u = Value.bool true := rv'
      have key : ∀ b o, b ∉ Ts tabs → s₁.heap.get? b = some o → s2.heap.get? b = some o := fun b o nb e => by
        cases qb : H b with
        | none => exact un.keep b o e qb (fun z => nomatch z) (fun z => nomatch z)
        | some u =>
          rcases Hin b u qb with ⟨⟨rfl, _⟩, rfl⟩ | ⟨z, _⟩
          · obtain ⟨e2, _⟩ := hok' b _ (un.frzs b ob _ qb)
            rw [ha] at e
            cases e
            exact e2
          · exact absurd z nb
      have grown : ∀ b, b ∈ Ts tabs → ∃ more, s2.heap.get? b = some { cls := .none, data := .fields (#[] ++ more) } := fun b h => by
        obtain ⟨more, z⟩ := un.tbls b #[] (HT h)
        exact ⟨more, hok' b _ z⟩
      refine ⟨rfl, ⟨fun b o e => ?_, fun b o e => ?_⟩, os, bare⟩
      · by_cases h : b ∈ Ts tabs
        · obtain ⟨t, ht, rfl⟩ := inT h
          obtain ⟨more, g⟩ := grown _ h
          rw [atT h] at e
          cases e
          exact .inr (.inl ⟨((hT t ht).2.2.tab (hT t ht).1).isCodeTable, rfl, #[], more, rfl, g⟩)
        · exact .inl (key b o h e)
      · by_cases h : b ∈ Ts tabs
        · obtain ⟨more, g⟩ := grown _ h
          exact ⟨_, g⟩
        · exact ⟨o, key b o h e⟩
/-- what the head leaves to be shown; ys: the defs that make lambdas -/
theorem walk_GTs {l : PySem.W.OpenLaw} {n k : Nat} {q : Program} {loose : List Str} {XP : (Str → Option Value) → Heap → Prop} {YP : World → Heap → Prop} {d : DefRec} {Kf : Params → PySem.W.Frag} {x : Str} {ys qs : List Str} (hn : l.most = some n) (hn2 : n ≤ sizeLine) (hdf : d.params.defaults = []) (hr : Room k callerA)
    (hY : ∀ (w : World) (h : Heap), YP w h → (Kf w.params).In h) (hy : ∀ y ∈ ys, ∃ dy, (recsOf q).find? (fun e => e.name == y) = some dy)
    (F : ∀ (w : World) (mg : Str → Option Value) (fa : Addr) (h : Heap), (Kf w.params).In h → h.Ns mainGlobals mg → mg d.name = some (.ref fa) →
      ∃ (Γ : Ct) (fd : FuncData) (den : Fn) (tabs : List Tb), Γ.K = Kf w.params ∧ (∀ (i : Nat) (t : Tb), tabs[i]? = some t → Γ.tb i = t.T) ∧ (Ts tabs).Nodup ∧ (∀ t ∈ tabs, ∃ y ∈ ys, PySem.W.tabIn Γ.K y = some (t.c, t.T) ∧ Γ.K.lookup t.T = none) ∧ tabs.map (·.q) = qs ∧ (∀ (s : Shared) (u : Value), BindsTo s fd ⟨[u], []⟩ [(x, u)]) ∧
        (∀ base : Heap, Γ.K.In base → base.Ns mainGlobals mg → (∀ t ∈ tabs, LamX.TabB base mg t.c t.T) → FnG l.prog w mg base Γ k fa fd [x] den) ∧
        ∀ ns : List Int, ns.length ≤ n → ∃ s', den [.sq (ns.map .int)] (tabsOf 0 (qs.map fun q => ⟨0, 0, q⟩)) = .ok (.bl true) s') :
    PySem.W.WalkO q loose XP YP l.row.toRowW d [] (fun f vs => PySem.call f vs) := by
  refine Att.attach_call hn hdf fun w s₀ s₁ mg mb fa o pm cd doc a vs ns G Y ho hd hcd hmg hobj hints hlen hg => ?_
  have KX := hY w _ Y
  obtain ⟨Γ, fd, den, tabs, hK, hΓ, nd, ht, hq, hb, hF, hden⟩ := F w mg fa _ KX G.T.g hmg
  have et : ∀ (i : Nat) (r : List Tb), tabsOf i ((r.map (·.q)).map fun q => ⟨0, 0, q⟩) = tabsOf i r := fun i r => by
    induction r generalizing i with
    | nil => rfl
    | cons t r ih => simp only [List.map_cons, tabsOf, ih]
  refine law_GTs (hK ▸ KX) G.T.g G.T.b G.T.builtins G.T.nolimit hg (fun t h => ?_) hΓ nd G.T.bmain hobj hints (Nat.le_trans hlen hn2) hr hF hb (by
    obtain ⟨s', e⟩ := hden ns hlen
    rw [← hq, et] at e
    exact ⟨s', e⟩)
  obtain ⟨y, hy1, h1, h2⟩ := ht t h
  obtain ⟨dy, hy2⟩ := hy y hy1
  obtain ⟨hC, hT⟩ := PySem.W.tab_of G.T (hK ▸ KX) hy2 h1
  exact ⟨hT, h2, hC⟩
end
end MP
set_option Elab.async false
set_option linter.all false
set_option maxRecDepth 100000
set_option maxHeartbeats 4000000
namespace MP
open PySem PySem.Spec PyProof.Rows L2
end MP
set_option Elab.async false
set_option linter.all false
set_option maxRecDepth 100000
set_option maxHeartbeats 400000
namespace MP
open PySem PySem.Spec PyProof.Rows L2
structure PlX (n k : Nat) (w : Dv) (d : PyData) : Prop where
  to : toX w = some d
  shw : d.showable = true
  deep : d.depth ≤ k
  len : d.shown.length + 2 ≤ 2000 * n
structure PlsX (n k : Nat) (ws : List Dv) (ds : List PyData) : Prop where
  to : toXs ws = some ds
  shw : PyData.showableAll ds = true
  deep : PyData.depthAll ds ≤ k
  len : piled (PyData.shownAll ds) ≤ 2000 * n
variable {n m k j : Nat} {w : Dv} {d : PyData} {ws us : List Dv} {ds es : List PyData} {i : Int} {ns : List Int} {s : Sto}
theorem PlX.mono (h : PlX n k w d) (hn : n ≤ m) (hk : k ≤ j) : PlX m j w d := ⟨h.to, h.shw, Nat.le_trans h.deep hk, Nat.le_trans h.len (Nat.mul_le_mul_left _ hn)⟩
theorem PlsX.mono (h : PlsX n k ws ds) (hn : n ≤ m) (hk : k ≤ j) : PlsX m j ws ds := ⟨h.to, h.shw, Nat.le_trans h.deep hk, Nat.le_trans h.len (Nat.mul_le_mul_left _ hn)⟩
end MP
set_option Elab.async false
set_option linter.all false
set_option maxRecDepth 100000
set_option maxHeartbeats 400000
namespace MP
open PySem PySem.Spec PyProof.Rows L2
section
variable {s s1 s2 s3 : Sto} {ρ : Env} {f g : FE} {fa : FA} {lo hi : FO} {x w y : Dv} {ws us : List Dv} {a b : Option Int} {i j : Int} {k : Nat} {t : FT} {bb : Bool}
theorem sl_v {op : OS} (h : f ρ s = .ok x s1) (hl : lo ρ s1 = .ok a s2) (hh : hi ρ s2 = .ok b s3) (e : op s3 x a b = some w) : mSl op f lo hi ρ s = .ok w s3 := by
  rw [sl_ev, h, bind_ok, hl, bind_ok, hh, bind_ok, e, of_some]
theorem part_v (h : f ρ s = .ok (.int i) s1) : mPart f ρ s = .ok (some i) s1 := by rw [part_ev, h, bind_ok]
theorem cut_from : cutD ws (some (k : Int)) none = ws.drop k := by
  unfold cutD
  rw [HT.sIx_nat, HT.sIx_none]
  by_cases h : k ≤ ws.length
  · rw [Nat.min_eq_left h]
    exact List.take_of_length_le (by rw [List.length_drop]; omega)
  · rw [Nat.min_eq_right (by omega), List.drop_length, List.drop_of_length_le (by omega)]
    simp
theorem add_tup (h : ws.length + us.length ≤ 1000000) : addD s (.tup ws) (.tup us) = some (.tup (ws ++ us)) := by
  show (if ws.length + us.length ≤ lim then some (Dv.tup (ws ++ us)) else none) = _
  rw [if_pos (by unfold lim; omega)]
theorem add_lst (h : ws.length + us.length ≤ 1000000) : addD s (.lst ws) (.lst us) = some (.lst (ws ++ us)) := by
  show (if ws.length + us.length ≤ lim then some (Dv.lst (ws ++ us)) else none) = _
  rw [if_pos (by unfold lim; omega)]
theorem un_v {o : O1} (h : f ρ s = .ok x s1) (e : o s1 x = some w) : mUn o f ρ s = .ok w s1 := by rw [un_ev, h, bind_ok, e, of_some]
theorem if_vt {g' : FE} {r : R Dv} (h : t ρ s = .ok true s1) (h2 : f ρ s1 = r) : mIf t f g' ρ s = r := by rw [if_ev, h, bind_ok, if_pos rfl, h2]
theorem if_vf {g' : FE} {r : R Dv} (h : t ρ s = .ok false s1) (h2 : f ρ s1 = r) : mIf t g' f ρ s = r := by rw [if_ev, h, bind_ok, if_neg Bool.false_ne_true, h2]
theorem not_v (h : t ρ s = .ok bb s1) : mNot t ρ s = .ok (!bb) s1 := by rw [not_ev, h, bind_ok]
theorem ne_of_eq {x y : Dv} {c : Bool} (h : eqD s x y = some (.bl c)) : neD s x y = some (.bl (!c)) := by
  unfold neD
  unfold eqD at h
  cases q : eqB s x y with
  | none => rw [q] at h; cases h
  | some c' => rw [q] at h; cases h; rfl
end
end MP
namespace MP
open PySem PySem.Spec PyProof.Rows L2
section
variable {n m k j : Nat} {w v : Dv} {d e : PyData} {s : Sto} {ws us : List Dv}
theorem shaped_pl (h : Pl n k w d) (hk : k ≤ 64) : SeqAt.shaped d = true := by
  unfold SeqAt.shaped
  rw [h.lay, decide_eq_true (Nat.le_trans h.deep hk)]
  rfl
/-- == of two rows or lists -/
theorem eq_pl (hw : flat w = none) (ht : toD s w = toD0 w) (hv : toD s v = toD0 v) (h : Pl n k w d) (h2 : Pl m j v e) (hk : k ≤ 64) (hj : j ≤ 64) : eqD s w v = some (.bl (PyData.eqv d e)) := by
  unfold eqD eqB
  rw [hw]
  dsimp only
  rw [ht, hv, h.to, h2.to]
  dsimp only
  rw [if_pos ⟨shaped_pl h hk, shaped_pl h2 hj⟩]
  rfl
theorem pls_len {ds : List PyData} : ∀ {ws : List Dv}, toDs ws = some ds → ds.length = ws.length
  | [], h => by cases h; rfl
  | w :: ws, h => by
    unfold toDs at h
    split at h
    · rename_i d ds' q1 q2
      cases h
      rw [List.length_cons, List.length_cons, pls_len q2]
    · cases h
end
end MP
namespace MP
open PySem PySem.Spec PyProof.Rows L2
section
variable {n : Nat} {c c' : FS} {ρ ρ1 : Env} {s s1 : Sto} {r : R Dv} {w : Dv} {x : Ex}
theorem fin_nx (h : c ρ s = .nx ρ1 s1) (k : finC n (c' ρ1 s1) = r) : finC n (mSeq c c' ρ s) = r := by rw [seq_nx h rfl]; exact k
end
end MP
namespace MP
open PySem PySem.Spec PyProof.Rows L2
section
variable {t u : FT} {ρ : Env} {s s1 : Sto} {r : R Bool}
theorem or_t (h : t ρ s = .ok true s1) : mOr t u ρ s = .ok true s1 := by unfold mOr; rw [h, bind_ok]; exact if_pos rfl
theorem or_f (h : t ρ s = .ok false s1) (h2 : u ρ s1 = r) : mOr t u ρ s = r := by unfold mOr; rw [h, bind_ok, if_neg Bool.false_ne_true, h2]
theorem and_t (h : t ρ s = .ok true s1) (h2 : u ρ s1 = r) : mAnd t u ρ s = r := by unfold mAnd; rw [h, bind_ok, if_pos rfl, h2]
theorem and_f (h : t ρ s = .ok false s1) : mAnd t u ρ s = .ok false s1 := by unfold mAnd; rw [h, bind_ok]; exact if_neg Bool.false_ne_true
theorem not_vt (h : t ρ s = .ok true s1) : mNot t ρ s = .ok false s1 := not_v h
end
end MP
namespace MP
open PySem PySem.Spec PyProof.Rows L2
section
variable {ρ : Env} {s s1 s2 : Sto} {f : FE} {fa : FA} {x : Ex} {d : Fn} {o : ON} {g : FG} {w : Dv} {k : Nat}
theorem expr_v (h : f ρ s = .ok w s1) : mExpr f ρ s = .nx ρ s1 := by unfold mExpr; rw [h]; rfl
theorem asg_gv {ρ' : Env} (h : f ρ s = .ok w s1) (h2 : g w ρ s1 = some ρ') : mAsg f g ρ s = .nx ρ' s1 := by unfold mAsg; rw [h, then_ok, h2]
end
end MP
set_option Elab.async false
set_option linter.all false
set_option maxRecDepth 100000
set_option maxHeartbeats 4000000
namespace MP
open PySem PySem.Spec PyProof.Rows L2
end MP
set_option Elab.async false
set_option linter.all false
set_option maxRecDepth 100000
set_option maxHeartbeats 4000000
namespace MP
open PySem PySem.Spec PyProof.Rows L2
end MP
set_option Elab.async false
set_option linter.all false
set_option maxRecDepth 100000
set_option maxHeartbeats 4000000
namespace MP
open PySem PySem.Spec PyProof.Rows L2
end MP
namespace MP
open PySem PySem.Spec PyProof.Rows L2
end MP
set_option Elab.async false
set_option linter.all false
set_option maxRecDepth 100000
set_option maxHeartbeats 400000
namespace MP
open PySem PySem.Spec PyProof.Rows L2 TL PySem.NumText
end MP
set_option Elab.async false
set_option linter.all false
set_option maxRecDepth 100000
set_option maxHeartbeats 400000
namespace MP
open PySem PySem.Spec PyProof.Rows L2
end MP
set_option Elab.async false
set_option linter.all false
set_option maxRecDepth 100000
set_option maxHeartbeats 4000000
namespace MP
open PySem PySem.Spec PyProof.Rows L2
open Sem (wp)
end MP
set_option Elab.async false
set_option linter.all false
set_option maxRecDepth 100000
set_option maxHeartbeats 4000000
namespace MP
open PySem PySem.Spec PyProof.Rows L2
section
variable {X : Cx} {Γ : Ct} {W : WX}
theorem RX.weak {H : Hp} {μ : Mu} {Z Z' : Zs} {x : Ex} {c : Value} {d : Option Addr} (h : ∀ a, Z a → Z' a) (r : RX Γ H μ Z' x c d) : RX Γ H μ Z x c d := by
  rcases r with r | ⟨h0, h1, dd, v, h2, h3, h4, h5⟩
  · exact .inl r
  · exact .inr ⟨h0, h1, dd, v, h2, h3, h4.weak h, RV.weak h x.w h5⟩
end
end MP
set_option Elab.async false
set_option linter.all false
set_option maxRecDepth 100000
set_option maxHeartbeats 400000
namespace MP
open PySem PySem.Spec PyProof.Rows L2 TL PySem.NumText
structure Tx (n : Nat) (x : Str) : Prop where
  low : ∀ c ∈ tl x, c < 128
  len : x.length ≤ n
theorem Tx.mono {n m : Nat} {x : Str} (h : Tx n x) (k : n ≤ m) : Tx m x := ⟨h.low, Nat.le_trans h.len k⟩
end MP
set_option Elab.async false
set_option linter.all false
set_option maxRecDepth 100000
set_option maxHeartbeats 4000000
namespace MP.Raw
open PySem Builtin Builtin.ObjectAttr
end MP.Raw
namespace MP
open PySem PySem.Spec PyProof.Rows L2
end MP
set_option Elab.async false
set_option linter.all false
set_option maxRecDepth 100000
set_option maxHeartbeats 4000000
namespace MP
open PySem PySem.Spec PyProof.Rows L2
end MP
set_option Elab.async false
set_option linter.all false
set_option maxRecDepth 100000
set_option maxHeartbeats 4000000
namespace MP
open PySem PySem.Spec PyProof.Rows L2
end MP
set_option Elab.async false
set_option linter.all false
set_option maxRecDepth 100000
set_option maxHeartbeats 4000000
namespace MP
open PySem PySem.Spec PyProof.Rows L2
end MP
namespace MP
open PySem PySem.Spec PyProof.Rows L2
end MP
set_option Elab.async false
set_option linter.all false
set_option maxRecDepth 100000
set_option maxHeartbeats 4000000
namespace MP.Raw
open PySem
end MP.Raw
set_option Elab.async false
set_option linter.all false
set_option maxRecDepth 100000
set_option maxHeartbeats 4000000
namespace MP.Raw
open PySem
end MP.Raw
set_option Elab.async false
set_option linter.all false
set_option maxRecDepth 100000
set_option maxHeartbeats 4000000
namespace MP.Raw
open PySem
end MP.Raw
namespace MP
open PySem PySem.Spec PyProof.Rows L2
end MP
set_option Elab.async false
set_option linter.all false
set_option maxRecDepth 100000
set_option maxHeartbeats 4000000
namespace MP
open PySem PySem.Spec PyProof.Rows L2 MP.Raw
end MP
set_option Elab.async false
set_option linter.all false
set_option maxRecDepth 100000
set_option maxHeartbeats 4000000
namespace MP
open PySem PySem.Spec PyProof.Rows L2
section
variable {X : Cx} {pins : List (Addr × Obj)} {σ : L2.St} {H : Hp} {s : Shared}
abbrev Fzn (o : Obj) : HO := .frz o (.own 0)
end
/-- a lambda, as it is written -/
structure LamW where
  params : Arguments
  body : Expr
  scope : Scope
/-- at f: that lambda, made by the def at hand -/
def LamAt (X : Cx) (L : LamW) (H : Hp) (μ : Mu) (Z : Zs) (f : Addr) : Prop := ∃ (c' : Addr) (dV doc ctv : Value) (tl : List (Addr × Obj)),
  H f = some (Fzn (lamObj (X.env.qual ++ "<lambda>") L.params L.body L.scope (cloFrom X.env.cells L.scope.names []) dV doc ((X.mg "__name__").getD .none) c' ctv)) ∧ Fz μ Z f ∧ H c' = some (LamX.CodeO c' (X.env.qual ++ "<lambda>")) ∧ Fz μ Z c' ∧
  (∀ p ∈ tl, H p.1 = some (Fzn p.2) ∧ Fz μ Z p.1) ∧
  ∀ s1 : Shared, (∀ p ∈ tl, s1.heap.get? p.1 = some p.2) → ∃ binds, BindsTo s1 (lamFd (X.env.qual ++ "<lambda>") L.params L.body L.scope (cloFrom X.env.cells L.scope.names []) dV doc ((X.mg "__name__").getD .none) c' ctv) ⟨[], []⟩ binds ∧ ∀ y ∈ binds, L.scope.names.lookup y.1 = some .local
theorem LamAt.mono {X : Cx} {L : LamW} {H H' : Hp} {μ μ' : Mu} {Z : Zs} {f : Addr} (e : Evo H μ H' μ') (h : LamAt X L H μ Z f) : LamAt X L H' μ' Z f := by
  obtain ⟨c', dV, doc, ctv, tl, h1, h2, h3, h4, h5, h6⟩ := h
  have al : ∀ {a : Addr} {o : HO}, H a = some o → H a ≠ none := fun q z => by rw [q] at z; cases z
  exact ⟨c', dV, doc, ctv, tl, e.keep _ _ h1 h2.1, e.fz (al h1) h2, e.keep _ _ h3 h4.1, e.fz (al h3) h4, fun p hp => ⟨e.keep _ _ (h5 p hp).1 (h5 p hp).2.1, e.fz (al (h5 p hp).1) (h5 p hp).2⟩, h6⟩
end MP
set_option Elab.async false
set_option linter.all false
set_option maxRecDepth 100000
set_option maxHeartbeats 4000000
namespace MP
open PySem PySem.Spec PyProof.Rows L2
mutual
def KRV (K : PySem.W.Frag) : Dv → Value → Prop
  | .int i, u => ∃ t, u = .int i t
  | .str x, u => ∃ t, u = .str x t
  | .tup ws, u => ∃ (a : Addr) (o : Obj) (its : Array Value) (n : Nat), u = .ref a ∧ K.lookup a = some o ∧ o.cls = .type "tuple" ∧ o.data = .seq its n ∧ its.size ≤ sizeLine ∧ KRVs K ws its.toList
  | _, _ => False
def KRVs (K : PySem.W.Frag) : List Dv → List Value → Prop
  | [], us => us = []
  | w :: ws, us => ∃ u r, us = u :: r ∧ KRV K w u ∧ KRVs K ws r
end
mutual
theorem krv_ok {Γ : Ct} {H : Hp} {μ : Mu} {Z : Zs} : ∀ (w : Dv) {u : Value}, KRV Γ.K w u → ∃ v, RelV v u ∧ RV Γ H μ Z w v
  | .int i, _, h => ⟨.int i, h, rfl⟩
  | .str x, _, h => ⟨.str x, h, rfl⟩
  | .tup ws, _, h => by
    obtain ⟨a, o, its, n, rfl, h1, h2, h3, h4, h5⟩ := h
    obtain ⟨vs, g1, g2⟩ := krvs_ok (Γ := Γ) (H := H) (μ := μ) (Z := Z) ws h5
    exact ⟨.ref a, rfl, a, vs, rfl, .inr ⟨o, its, n, h1, h2, h3, h4, g1⟩, g2⟩
  | .non, _, h => h.elim
  | .bl _, _, h => h.elim
  | .ty _, _, h => h.elim
  | .cl _, _, h => h.elim
  | .ref _, _, h => h.elim
  | .lst _, _, h => h.elim
  | .sq _, _, h => h.elim
  | .dct _ _, _, h => h.elim
  | .dtt _ _, _, h => h.elim
  | .exc _ _ _, _, h => h.elim
  | .exn _, _, h => h.elim
  | .clo _ _ _ _ _, _, h => h.elim
theorem krvs_ok {Γ : Ct} {H : Hp} {μ : Mu} {Z : Zs} : ∀ (ws : List Dv) {us : List Value}, KRVs Γ.K ws us → ∃ vs, Vals vs us ∧ RVs Γ H μ Z ws vs
  | [], _, h => by rw [show _ = [] from h]; exact ⟨[], .nil, rfl⟩
  | w :: ws, _, h => by
    obtain ⟨u, r, rfl, h1, h2⟩ := h
    obtain ⟨v, g1, g2⟩ := krv_ok (Γ := Γ) (H := H) (μ := μ) (Z := Z) w h1
    obtain ⟨vs, g3, g4⟩ := krvs_ok (Γ := Γ) (H := H) (μ := μ) (Z := Z) ws h2
    exact ⟨v :: vs, .cons g1 g3, RVs.cons g2 g4⟩
end
mutual
def krvB (K : PySem.W.Frag) : Dv → Value → Bool
  | .int i, .int j _ => decide (i = j)
  | .str x, .str y _ => decide (x = y)
  | .tup ws, .ref a => match K.lookup a with
    | some ⟨.type T, _, .seq its _, _⟩ => decide (T = "tuple") && (decide (its.size ≤ 1000) && krvsB K ws its.toList)
    | _ => false
  | _, _ => false
def krvsB (K : PySem.W.Frag) : List Dv → List Value → Bool
  | [], [] => true
  | w :: ws, u :: us => krvB K w u && krvsB K ws us
  | _, _ => false
end
mutual
theorem krvB_ok {K : PySem.W.Frag} : ∀ (w : Dv) {u : Value}, krvB K w u = true → KRV K w u
  | .int i, u, h => by
    cases u <;> first | (exact ⟨_, by rw [of_decide_eq_true h]⟩) | (simp [krvB] at h)
  | .str x, u, h => by
    cases u <;> first | (exact ⟨_, by rw [of_decide_eq_true h]⟩) | (simp [krvB] at h)
  | .tup ws, u, h => by
    cases u with
    | ref a =>
      unfold krvB at h
      split at h
      · rename_i T od its n sl e
        rw [Bool.and_eq_true, Bool.and_eq_true] at h
        obtain ⟨h1, h2, h3⟩ := h
        exact ⟨a, _, its, n, rfl, e, by rw [of_decide_eq_true h1], rfl, Nat.le_trans (of_decide_eq_true h2) (by rw [sizeLine_eq]; decide), krvsB_ok ws h3⟩
      · cases h
    | _ => simp [krvB] at h
  | .non, u, h => by cases u <;> simp [krvB] at h
  | .bl _, u, h => by cases u <;> simp [krvB] at h
  | .ty _, u, h => by cases u <;> simp [krvB] at h
  | .cl _, u, h => by cases u <;> simp [krvB] at h
  | .ref _, u, h => by cases u <;> simp [krvB] at h
  | .lst _, u, h => by cases u <;> simp [krvB] at h
  | .sq _, u, h => by cases u <;> simp [krvB] at h
  | .dct _ _, u, h => by cases u <;> simp [krvB] at h
  | .dtt _ _, u, h => by cases u <;> simp [krvB] at h
  | .exc _ _ _, u, h => by cases u <;> simp [krvB] at h
  | .exn _, u, h => by cases u <;> simp [krvB] at h
  | .clo _ _ _ _ _, u, h => by cases u <;> simp [krvB] at h
theorem krvsB_ok {K : PySem.W.Frag} : ∀ (ws : List Dv) {us : List Value}, krvsB K ws us = true → KRVs K ws us
  | [], us, h => by
    cases us with
    | nil => rfl
    | cons _ _ => simp [krvsB] at h
  | w :: ws, us, h => by
    cases us with
    | nil => simp [krvsB] at h
    | cons u r =>
      simp only [krvsB, Bool.and_eq_true] at h
      exact ⟨u, r, rfl, krvB_ok w h.1, krvsB_ok ws h.2⟩
end
theorem me_globT {X : Cx} {Γ : Ct} {W : WX} {x : Str} {w : Dv} {pos : Pos} (hK : Γ.K = X.K) (hg : Gl X x) (hm : ∃ u, X.mg x = some u ∧ KRV Γ.K w u) (hd : (x == ("__debug__" : Str)) = false := by decide) : ME X Γ W (.Name x pos) (mK w) := by
  obtain ⟨u, h, hk⟩ := hm
  refine ⟨fun pins s σ H Q I ⟨μ, Z, ρ, st, hE, hR, q⟩ => ?_⟩
  obtain ⟨v, g1, g2⟩ := krv_ok (Γ := Γ) (H := H) (μ := μ) (Z := Z) w hk
  exact ld_glob I hg h ⟨v, H, I, g1, okE hR g2 q⟩ hd
end MP
namespace MP
open PySem PySem.Spec PyProof.Rows L2
theorem me_cal0 {X : Cx} {Γ : Ct} {W : WX} {k : Nat} {den : Fn} {x : Str} {p pos : Pos} (C : Cal X.prog X.w X.mg X.base Γ k x [] den) (hK : Γ.K = X.K) (hr : Room k X.A) (hg : X.A.guards = some []) (tk : Takes X W) (hgl : Gl X x) (hdb : (x == ("__debug__" : Str)) = false := by decide) :
    ME X Γ W (.Call (.Name x p) [] [] pos) (mCall den mNil) := by
  obtain ⟨f, fd, F, hm, hk, hb⟩ := C
  refine ⟨fun pins s σ H Q I ⟨μ, Z, ρ, s0, hE, hR, q⟩ => ?_⟩
  refine wpAny_Call_Name_kw (ld_glob I hgl hm ?_ hdb)
  exact PySem.W.callWith_K0 I.kIn (hK ▸ hk) (run_G (us := []) (vs := []) (ds := []) (dvs := []) F hK hr hg (hK ▸ hb) .nil tk I .nil ⟨rfl, μ, Z, s0, [], hR, rfl, post_call q⟩)
end MP
set_option Elab.async false
set_option linter.all false
set_option maxRecDepth 100000
set_option maxHeartbeats 4000000
namespace MP
open PySem PySem.Spec PyProof.Rows L2
end MP
namespace MP
open PySem PySem.Spec PyProof.Rows L2
end MP
set_option Elab.async false
set_option linter.all false
set_option maxRecDepth 100000
set_option maxHeartbeats 4000000
namespace MP
open PySem PySem.Spec PyProof.Rows L2
/-- the callee below the running body, at any Around -/
theorem run_GA {X : Cx} {Γ : Ct} {E : XK} {k : Nat} {f : Addr} {fd : FuncData} {ps : List Str} {den : Fn} {A : Around} {pins : List (Addr × Obj)} {σ : L2.St} {H : Hp} {s : Shared} {Q : VK} {args : Args} {us : List Value} {vs : List V} {Rr : Result → Shared → Prop}
    (F : FnG X.prog X.w X.mg X.base Γ k f fd ps den) (hr : Room k A) (hg : A.guards = some []) (e0 : Env0 X.prog X.w Γ.K X.mg X.base A X.stack s H) (hb : BindsTo s fd args (ps.zip us)) (I : Inv X pins σ H s) (r : Vals vs us) (h : spM Γ ps den vs H Q E)
    (h1 : ∀ u s', EP X pins σ Q u s' → Rr (.ok (.ret u)) s') (h2 : ∀ e s', L2.CX X.prog X.w X.stack H s E e s' → Rr (.error e) s') : codeAny (model X.prog X.w) A (.call (.ref f) args) Rr s := by
  refine codeAny_mono (F.run A X.stack s H args us vs Q E hr hg e0 hb r h) fun r' s' hq => ?_
  cases r' with
  | error e => exact h2 e s' hq
  | ok fl =>
    cases fl with
    | ret u => exact h1 u s' (I.after hq)
    | next => exact hq.elim
    | brk => exact hq.elim
    | cont => exact hq.elim
end MP
set_option Elab.async false
set_option linter.all false
set_option maxRecDepth 100000
set_option maxHeartbeats 4000000
namespace MP
open PySem PySem.Spec PyProof.Rows L2
/-- the values of keywords -/
def MK (X : Cx) (Γ : Ct) (W : WX) (kws : List Keyword) (fa : FA) : Prop := PK X kws (rdA Γ W fa)
section
variable {X : Cx} {Γ : Ct} {W : WX} {c k n : Nat} {g : Addr} {m : Str} {ps ks : List Str} {den : Fn} {o e : Expr} {es : List Expr} {fo f : FE} {fa : FA} {pos apos p : Pos} {kws : List Keyword} {nm : Option Str} {kpos : Pos}
theorem mk_nil : MK X Γ W [] mNil := ⟨fun pos pins s σ H Q I ⟨μ, Z, ρ, s0, hE, hR, q⟩ => pk_nil.run pos pins s σ H Q I (q _ H μ .refl hR rfl)⟩
theorem mk_cons (ha : ME X Γ W e f) (hr : MK X Γ W kws fa) : MK X Γ W (⟨nm, e, kpos⟩ :: kws) (mCons f fa) :=
  ⟨fun pos pins s σ H Q I h => (pk_cons ha hr).run pos pins s σ H Q I (by
    obtain ⟨μ, Z, ρ, s0, hE, hR, q⟩ := h
    exact eA hE hR q fun x s1 u H1 μ1 e1 hE1 R1 r1 q1 => aA hE1 R1 q1 fun ws s2 vs H2 μ2 e2 hE2 R2 r2 q2 => q2 _ H2 μ2 .refl R2 (RVs.cons (r1.mono e2) r2))⟩
/-- the callee, by a call whose arguments are bound so -/
theorem run_GM {pins : List (Addr × Obj)} {σ : L2.St} {H : Hp} {s : Shared} {Q : VK} {us : List Value} {kw : List (Str × Value)} {bs : List Value} {vs : List V} {fd : FuncData} (F : FnG X.prog X.w X.mg X.base Γ k g fd ps den) (hK : Γ.K = X.K) (hr : Room k X.A) (hg : X.A.guards = some []) (hb : BindsTo s fd ⟨us, kw⟩ (ps.zip bs)) (tk : Takes X W)
    (I : Inv X pins σ H s) (r : Vals vs bs) (h : spM Γ ps den vs H Q (WE W σ)) : wpAny (model X.prog X.w) X.A (call (.ref g) us kw) (EP X pins σ Q) X.xe s :=
  wpAny_call (run_GA F hr hg (by rw [hK]; exact I.env0) hb I r h (fun u s' h => h) fun e s' hq => passAt tk σ pins H s e s' I hq)
theorem Binds.at {K : PySem.W.Frag} {fd : FuncData} {s : Shared} {us : List Value} (hb : Binds K fd ps []) (hk : K.In s.heap) (hl : us.length = ps.length) : BindsTo s fd ⟨us, []⟩ (ps.zip us) := by
  have := hb s us hk (by rw [List.append_nil]; exact hl)
  rwa [List.append_nil] at this
end
end MP
set_option Elab.async false
set_option linter.all false
set_option maxRecDepth 100000
set_option maxHeartbeats 4000000
namespace MP
open PySem PySem.Spec PyProof.Rows L2
end MP
set_option Elab.async false
set_option linter.all false
set_option maxRecDepth 100000
set_option maxHeartbeats 4000000
namespace MP
open PySem PySem.Spec PyProof.Rows L2
end MP
set_option Elab.async false
set_option linter.all false
set_option maxRecDepth 100000
set_option maxHeartbeats 4000000
namespace MP
open PySem PySem.Spec PyProof.Rows L2
end MP
set_option Elab.async false
set_option linter.all false
set_option maxRecDepth 100000
set_option maxHeartbeats 4000000
namespace MP
open PySem PySem.Spec PyProof.Rows L2
section
variable {prog : Program} {w : World} {A : Around} {E : Value → Shared → Prop} {s : Shared}
theorem sliceApplied_rev {sl : Addr} {vs : Value} {n : Nat} {Q : Int × Int × Nat → Shared → Prop} (hs : s.heap.IsSliceOf sl .none .none vs) (ps : IsPart vs (some (-1)))
    (h : Q ((n : Int) - 1, -1, n) s) : wpAny (model prog w) A (Builtin.Slice.sliceApplied (.ref sl) (pure (n : Int))) Q E s := by
  obtain ⟨os, hos, hcs, hds⟩ := id hs
  unfold Builtin.Slice.sliceApplied Builtin.Slice.sliceFields
  refine wpAny_bind (wpAny_bind (wpAny_field hos hds (x := .none) rfl (wpAny_bind (wpAny_field hos hds (x := .none) rfl (wpAny_bind (wpAny_field hos hds (x := vs) rfl (wpAny_pure ?_)))))))
  refine wpAny_bind (HT.slicePart_ ps ?_)
  show wpAny _ _ (if ((-1 : Int) == 0) = true then _ else _) _ _ s
  rw [if_neg (by decide)]
  refine wpAny_bind (HT.slicePart_ .none (wpAny_bind (HT.slicePart_ .none (wpAny_bind (wpAny_pure ?_)))))
  have e1 : Builtin.Slice.sliceAdjust none none (-1) (n : Int) = ((n : Int) - 1, -1) := by
    unfold Builtin.Slice.sliceAdjust
    rfl
  have e2 : Builtin.Slice.slicePlaces ((n : Int) - 1) (-1) (-1) = n := by
    unfold Builtin.Slice.slicePlaces
    rw [if_neg (by decide)]
    by_cases h0 : (n : Int) - 1 > -1
    · rw [if_pos h0, show (-(-1) : Int) = 1 from rfl, Int.ediv_one]
      omega
    · rw [if_neg h0]
      show 0 = n
      omega
  show wpAny _ _ (match Builtin.Slice.sliceAdjust none none (-1) (n : Int) with | (lo, hi) => pure (lo, (-1 : Int), Builtin.Slice.slicePlaces lo hi (-1))) _ _ s
  rw [e1]
  show wpAny _ _ (pure ((n : Int) - 1, (-1 : Int), Builtin.Slice.slicePlaces ((n : Int) - 1) (-1) (-1))) _ _ s
  rw [e2]
  exact wpAny_pure h
theorem pick_rev (xs : Array Value) : ((List.range xs.size).filterMap fun (m : Nat) => xs[(((xs.size : Int) - 1) + (m : Int) * (-1)).toNat]?).toArray = xs.toList.reverse.toArray := by
  have e : ((List.range xs.size).filterMap fun (m : Nat) => xs[(((xs.size : Int) - 1) + (m : Int) * (-1)).toNat]?) = ((List.range xs.size).map (fun k => xs.size - 1 - k)).filterMap (xs[·]?) := by
    rw [List.filterMap_map]
    congr 1
    funext m
    show xs[(((xs.size : Int) - 1) + (m : Int) * (-1)).toNat]? = xs[xs.size - 1 - m]?
    rw [show (((xs.size : Int) - 1) + (m : Int) * (-1)).toNat = xs.size - 1 - m by omega]
  rw [e, PySem.W.krv_range, List.filterMap_reverse, PySem.W.krv_all]
theorem getItem_tuple_rev {t sl : Addr} {items : Array Value} {vs : Value} {Q : Value → Shared → Prop} (ht : IsTup s.heap t items) (hs : s.heap.IsSliceOf sl .none .none vs) (ps : IsPart vs (some (-1)))
    (h : Q (.ref s.heap.objs.size) { s with heap := s.heap.push { cls := .type "tuple", data := .seq items.toList.reverse.toArray } })
    (hsz : items.size ≤ sizeLine) : wpAny (model prog w) A (getItem (.ref t) (.ref sl)) Q E s := by
  have htake : sizeOk (.seq items.toList.reverse.toArray) := by
    show items.toList.reverse.toArray.size ≤ sizeLine
    rw [List.size_toArray, List.length_reverse, Array.length_toList]
    omega
  obtain ⟨os, hos, hcs, hds⟩ := id hs
  have hTs : s.TypeIs (.ref sl) "slice" := ⟨os, hos, hcs⟩
  unfold getItem
  try with_reducible refine wpAny_holding ?_
  first | refine wpAny_bind (wpAny_pure ?_) | skip
  refine wpAny_bind (wpAny_sequenceKey ht.typeIs (by decide) ?_)
  refine wpAny_bind (wpAny_callSpecial?_slot (name := Str.ofString "__getitem__") ht.typeIs PyProof.Rows.slot_tuple_getitem
    (wpAny_call_entry PyProof.Rows.slot_tuple_getitem ht.typeIs entry_tuple_getitem ?_ (args_tuple_getitem _ _)))
  show wpAny _ _ (Builtin.Tuple.tupleItemsOf (.ref t) >>= _) _ _ s
  refine wpAny_bind (PyProof.Rows.tupleItemsOf_ ht ?_)
  refine wpAny_bind (wpAny_typeOf hTs ?_)
  rw [if_pos (by decide)]
  refine wpAny_bind (sliceApplied_rev hs ps ?_)
  have hno : ¬ ((((items.size : Int) - 1 == 0 && (-1 : Int) == 1 && items.size == items.size)) = true) := by
    rw [show ((-1 : Int) == 1) = false from rfl, Bool.and_false, Bool.false_and]
    exact Bool.false_ne_true
  show wpAny _ _ (if (((items.size : Int) - 1 == 0 && (-1 : Int) == 1 && items.size == items.size)) = true then _ else _) _ _ s
  rw [if_neg hno, pick_rev]
  first
    | exact wpAny_bind (m := Builtin.Tuple.tupleExact _) (wpAny_newObj_type (wpAny_pure ⟨_, rfl, wpAny_pure h⟩) htake)
    | exact wpAny_bind (m := Builtin.Tuple.tupleExact _) (wpAny_newObj_type (wpAny_bind (wpAny_pure (wpAny_pure ⟨_, rfl, wpAny_pure h⟩))) htake)
    | exact wpAny_bind (wpAny_bind (m := Builtin.Tuple.tupleExact _) (wpAny_newObj_type (wpAny_pure (wpAny_pure ⟨_, rfl, wpAny_pure h⟩)) htake))
    | exact wpAny_bind (wpAny_bind (m := Builtin.Tuple.tupleExact _) (wpAny_newObj_type (wpAny_pure ⟨_, rfl, wpAny_pure h⟩) htake))
end
section
variable {X : Cx} {e : Expr} {te : TE}
def tRevT (K : PySem.W.Frag) (te : TE) : TE := fun σ H Q => te σ H fun x H1 => ∃ a xs, x = .ref a ∧ SqT K H1 a xs ∧ ∀ p, H1 p = none → Q (.ref p) (upd H1 p (.tup xs.reverse))
theorem pe_revT {k : Nat} {p1 p2 p3 pos : Pos} (he : PE X e te) : PE X (.Subscript e (.Slice none none (some (.UnaryOp .USub (.Constant (.int 1) k p1) p2)) p3) pos) (tRevT X.K te) := by
  refine ⟨fun pins s σ H Q I h => ?_⟩
  refine Subscript_ (thn (he.run pins s σ H _ I h) fun v s1 ⟨x, H1, I1, r1, q1⟩ => ?_)
  obtain ⟨a, xs, ex, hx, q⟩ := q1
  subst ex
  cases r1
  have hst : PO X (some (.UnaryOp .USub (.Constant (.int 1) k p1) p2)) (tPart (tUn (rU fun i => .int (-i)) (tC (.int 1)))) := po_some (pe_un un_neg pe_int)
  refine wpAny_Slice ?_
  rw [evalPart_none]
  refine wpAny_pure (wpAny_pure ?_)
  refine thn (hst.run pins s1 σ H1 (fun o H4 => o = some (-1) ∧ H4 = H1) I1 ⟨1, rfl, -1, rfl, rfl, rfl⟩) fun vs s4 ⟨o, H4, I4, ps, eo, e4⟩ => ?_
  subst eo e4
  have I5 : Inv X pins σ H4 { s4 with heap := s4.heap.push { cls := .type "slice", data := .fields #[.none, .none, vs] } } := I4.kept (t' := s4.toks) fun b ob q => Heap.get?_push_of_some _ q
  obtain ⟨its, r, ht, hz⟩ := I5.tuple hx
  have hlen := r.length
  show wpAny (model X.prog X.w) X.A (subscriptTail e (.Slice none none (some (.UnaryOp .USub (.Constant (.int 1) k p1) p2)) p3) (.ref a) (.ref s4.heap.objs.size)) (EP X pins σ Q) X.xe { s4 with heap := s4.heap.push { cls := .type "slice", data := .fields #[.none, .none, vs] } }
  refine tail_any (ops := [.ref a, .ref s4.heap.objs.size]) ht.typeIs (PyProof.Rows.slot_tuple_getitem.lookup) ?_ (by with_unfolding_all rfl)
  refine getItem_tuple_rev ht (Heap.IsSliceOf.new _ .none .none vs) ps ?_ (by rw [List.size_toArray]; omega)
  refine ⟨.ref _, _, I5.laid (t' := s4.toks) (o := .tup xs.reverse) (fun b ob q => Heap.get?_push_of_some _ q) (Nat.le_refl _) ?_, rfl, q _ (I5.hok.fresh (Nat.le_refl _))⟩
  exact ⟨by rw [List.length_reverse]; exact hz, _, r.reverse, IsTup.new _ _⟩
end
section
variable {X : Cx} {Γ : Ct} {W : WX} {e a b : Expr} {f g : FE} {pos : Pos}
theorem RVs.rev {H : Hp} {μ : Mu} {Z : Zs} : ∀ {ws : List Dv} {xs : List V}, RVs Γ H μ Z ws xs → RVs Γ H μ Z ws.reverse xs.reverse
  | [], _, h => by rw [show _ = [] from h]; exact rfl
  | w :: ws, _, h => by
    obtain ⟨x, xs, rfl, h2, h3⟩ := h
    rw [List.reverse_cons, List.reverse_cons]
    exact RVs.append (RVs.rev h3) (RVs.cons h2 RVs.nil)
/-- e[::-1] -/
def revD (s : Sto) (x : Dv) : Option Dv := match lstOrSq s x with
  | some ws => some (.lst ws.reverse)
  | none => match x with
    | .tup ws => some (.tup ws.reverse)
    | _ => none
def mRev (f : FE) : FE := fun ρ s => (f ρ s).bind fun x s1 => R.of (revD s1 x) s1
theorem me_rev {k : Nat} {p1 p2 p3 : Pos} (hK : Γ.K = X.K) (he : ME X Γ W e f) : ME X Γ W (.Subscript e (.Slice none none (some (.UnaryOp .USub (.Constant (.int 1) k p1) p2)) p3) pos) (mRev f) :=
  PE.imp (PE.or (pe_revL he) (pe_revT he)) fun σ H Q ⟨μ, Z, ρ, s, hE, hR, q⟩ => by
    have key : (∃ μ Z ρ s, RE Γ H μ Z ρ σ ∧ Rep Γ H μ Z s ∧ PostE Γ W H μ Z σ Q ((f ρ s).bind fun x s1 => R.of ((lstOrSq s1 x).map fun ws => Dv.lst ws.reverse) s1)) ∨ (∃ μ Z ρ s, RE Γ H μ Z ρ σ ∧ Rep Γ H μ Z s ∧ PostE Γ W H μ Z σ Q ((f ρ s).bind fun x s1 => R.of (match x with | .tup ws => some (.tup ws.reverse) | _ => none) s1)) := by
      have q0 : PostE Γ W H μ Z σ Q ((f ρ s).bind fun x s1 => R.of (revD s1 x) s1) := q
      cases e1 : f ρ s with
      | no => rw [e1] at q0; exact q0.elim
      | er x s1 => rw [e1] at q0; exact .inl ⟨μ, Z, ρ, s, hE, hR, by rw [e1]; exact q0⟩
      | ok x s1 =>
        rw [e1, bind_ok] at q0
        cases e2 : lstOrSq s1 x with
        | some ws => exact .inl ⟨μ, Z, ρ, s, hE, hR, by rw [e1, bind_ok, e2]; unfold revD at q0; rw [e2] at q0; exact q0⟩
        | none => exact .inr ⟨μ, Z, ρ, s, hE, hR, by rw [e1, bind_ok]; unfold revD at q0; rw [e2] at q0; exact q0⟩
    rcases key with ⟨μ, Z, ρ, s, hE, hR, q⟩ | ⟨μ, Z, ρ, s, hE, hR, q⟩
    · refine .inl (eE hE hR q fun x s1 u H1 μ1 e1 hE1 R1 r1 q1 => ?_)
      cases e2 : lstOrSq s1 x with
      | none => rw [e2] at q1; exact q1.elim
      | some ws =>
        rw [e2] at q1
        obtain ⟨p, xs, h1, h2, h3⟩ := lstOrSq_ok R1 r1 e2
        refine ⟨p, xs, h1, hK ▸ h2, fun t ht => ?_⟩
        obtain ⟨w, hw, k⟩ := ofE q1
        cases hw
        exact k _ _ (Evo.laid ht) (R1.laid ht) (new_lst R1 ht h3.rev)
    · refine .inr (eE hE hR q fun x s1 u H1 μ1 e1 hE1 R1 r1 q1 => ?_)
      cases x with
      | tup ws =>
        obtain ⟨p, xs, h1, h2, h3⟩ := r1
        refine ⟨p, xs, h1, hK ▸ h2.sq, fun t ht => ?_⟩
        obtain ⟨w, hw, k⟩ := ofE q1
        cases hw
        exact k _ _ (Evo.laid ht) (R1.laid ht) (new_tup R1 ht h3.rev)
      | _ => exact q1.elim
end
end MP
set_option Elab.async false
set_option linter.all false
set_option maxRecDepth 100000
set_option maxHeartbeats 4000000
namespace MP
open PySem PySem.Spec PyProof.Rows L2
section
variable {X : Cx} {Γ : Ct} {W : WX} {e a b : Expr} {f g : FE} {pos : Pos}
def divmodD : ON := fun _ xs => match xs with
  | [.int i, .int j] => if 0 < j ∧ j < 1073741824 then some (.tup [.int (i / j), .int (i % j)]) else none
  | _ => none
theorem sDivmod : OpN Γ (fun xs H Q => ∃ i j, xs = [.int i, .int j] ∧ CDiv i j ∧ ∀ p, H p = none → Q (.ref p) (upd H p (.tup [.int (i / j), .int (i % j)]))) divmodD := fun H μ Z s xs w vs Q hR rx e k => by
  unfold divmodD at e
  split at e
  · rename_i i j
    split at e
    · rename_i hc
      cases e
      obtain ⟨x, t, rfl, r1, y, t2, rfl, r2, r3⟩ := rx
      refine ⟨i, j, by rw [show x = .int i from r1, show y = .int j from r2, show t2 = [] from r3], hc, fun p hp => ?_⟩
      exact k _ _ (Evo.laid hp) (hR.laid hp) (new_tup hR hp (RVs.cons rfl (RVs.cons rfl rfl)))
    · cases e
  · cases e
end
end MP
set_option Elab.async false
set_option linter.all false
set_option maxRecDepth 100000
set_option maxHeartbeats 4000000
namespace MP
open PySem PySem.Spec PyProof.Rows L2
end MP
set_option Elab.async false
set_option linter.all false
set_option maxRecDepth 100000
set_option maxHeartbeats 4000000
namespace MP
open PySem PySem.Spec PyProof.Rows L2
end MP
set_option Elab.async false
set_option linter.all false
set_option maxRecDepth 100000
set_option maxHeartbeats 4000000
namespace MP
open PySem PySem.Spec PyProof.Rows L2
section
variable {X : Cx} {Γ : Ct} {W : WX}
def anyD (neg : Bool) (d : PyData) (ds : List PyData) : Bool := if neg = true then !(ds.any fun z => PyData.eqv z d) else ds.any fun z => PyData.eqv z d
def inT (neg : Bool) : O2 := fun s x y => match toD s x, toD s y with
  | some d, some (.tuple ds) => if SeqAt.shaped d = true ∧ SeqAt.shaped (.tuple ds) = true ∧ d.depth ≤ 60 then some (.bl (anyD neg d ds)) else none
  | _, _ => none
end
end MP
set_option Elab.async false
set_option linter.all false
set_option maxRecDepth 100000
set_option maxHeartbeats 4000000
namespace MP
open PySem PySem.Spec PyProof.Rows L2
section
variable {X : Cx} {Γ : Ct} {pins : List (Addr × Obj)} {σ : L2.St} {H : Hp} {s : Shared} {μ : Mu} {Z : Zs}
abbrev R3 (p : NestedKey × V × V) (q : NestedKey × Addr × Value) : Prop := p.1 = q.1 ∧ p.2.1 = .ref q.2.1 ∧ RelV p.2.2 q.2.2
end
end MP
set_option Elab.async false
set_option linter.all false
set_option maxRecDepth 100000
set_option maxHeartbeats 4000000
namespace MP
open PySem PySem.Spec PyProof.Rows L2
end MP
set_option Elab.async false
set_option linter.all false
set_option maxRecDepth 100000
set_option maxHeartbeats 4000000
namespace MP
open PySem PySem.Spec PyProof.Rows L2
end MP
set_option Elab.async false
set_option linter.all false
set_option maxRecDepth 100000
set_option maxHeartbeats 4000000
namespace MP
open PySem PySem.Spec PyProof.Rows L2
end MP
set_option Elab.async false
set_option linter.all false
set_option maxRecDepth 100000
set_option maxHeartbeats 4000000
namespace MPV
open PySem PySem.W MPZ
section
variable {prog : Program} {w : World} {A : Around} {E : Value → Shared → Prop} {s : Shared} {z TI TO T i1 i2 S : Addr} {f : Bool} {oT : Obj} {k n : Nat} {fp1 fp2 : List Addr} {P1 P2 : Nat → Value → Prop} {St1 St2 : Nat → Heap → Prop}
/-- the pairs, as new tuples above lo -/
structure Prs (P1 P2 : Nat → Value → Prop) (lo : Addr) (h : Heap) (as : List Addr) : Prop where
  rise : as.Pairwise (· < ·)
  over : ∀ a ∈ as, lo < a
  pair : ∀ (j : Nat) (a : Addr), as[j]? = some a → ∃ x y, P1 j x ∧ P2 j y ∧ IsTupOf2 h a x y
theorem Prs.keep {lo : Addr} {h g : Heap} {as : List Addr} (p : Prs P1 P2 lo h as) (hk : ∀ b u, lo < b → h.get? b = some u → g.get? b = some u) : Prs P1 P2 lo g as :=
  ⟨p.rise, p.over, fun j a q => let ⟨x, y, e1, e2, e3⟩ := p.pair j a q; ⟨x, y, e1, e2, hk a _ (p.over a (List.mem_of_getElem? q)) e3⟩⟩
end
end MPV
set_option Elab.async false
set_option linter.all false
set_option maxRecDepth 100000
set_option maxHeartbeats 4000000
namespace MP
open PySem PySem.Spec PyProof.Rows L2
end MP
set_option Elab.async false
set_option linter.all false
set_option maxRecDepth 100000
set_option maxHeartbeats 4000000
namespace MP
open PySem PySem.Spec PyProof.Rows L2
end MP
set_option Elab.async false
set_option linter.all false
set_option maxRecDepth 100000
set_option maxHeartbeats 4000000
namespace MP
open PySem PySem.Spec PyProof.Rows L2
/-- few different keys -/
def Few (ks : List (Addr × List Int)) : Prop := ∀ M : List (List Int), (∀ k ∈ M, ∃ p ∈ ks, p.2 = k) → M.Nodup → M.length < 63
theorem got_few {ks L : List (Addr × List Int)} {i : Nat} (hf : Few ks) (g : Got ks i L) (nd : (L.map (·.2)).Nodup) : L.length + 1 < 64 := by
  have z := hf (L.map (·.2)) (fun k hk => by
    obtain ⟨p, hp, rfl⟩ := List.mem_map.mp hk
    exact ⟨p, List.mem_of_mem_take (g.sub p hp), rfl⟩) nd
  rw [List.length_map] at z
  omega
/-- a new set -/
abbrev set0 (w : World) : Obj := { cls := .type "set", dict := none, data := .set #[] 0 (.fresh 0 0 (!w.params.followText "set-order")) }
section
variable {P : Program} {w : World} {A : Around} {E : Value → Shared → Prop} {s : Shared}
/-- its loop over what it is made of -/
theorem loop_few {I D : Addr} {fp wr : List Addr} {G : Array GenState → Array GenState → Prop} {n : Nat} {Pv : Nat → Value → Prop} {St : Nat → Shared → Prop} {Z : Result → Shared → Prop}
    (W : WalksS P w A.in1 I fp wr G n Pv St) (nD : D ∉ fp) {ks : List (Addr × List Int)} (hn : n = ks.length) (hf : Few ks) (hv : ∀ i v, Pv i v → ∃ p, ks[i]? = some p ∧ v = .ref p.1)
    {h0 : Heap} (hk : ∀ p ∈ ks, IsT P w h0 p.2 p.1) (fD : h0.get? D = none) (fw : ∀ b ∈ wr, h0.get? b = none) (hu : A.in1.units < cLine) (left : Nat) :
    ∀ (i : Nat) (s : Shared), n = i + left → St i s → (∀ b o, h0.get? b = some o → s.heap.get? b = some o) → (∃ L es ep t, SetTR P w s.heap D L es ep t ∧ Got ks i L) →
      (∀ s' L es ep t, Moved (D :: wr) G s s' → SetTR P w s'.heap D L es ep t → Got ks n L → (∀ b o, h0.get? b = some o → s'.heap.get? b = some o) → Z (.ok (.ret .none)) s') →
      codeAny (model P w) A (.builtin "set.update.loop" ⟨[.ref D, .ref I], []⟩) Z s := by
  have nW : D ∉ wr := fun h => nD (W.sub _ h)
  have inW : ∀ b ∈ wr, b ∈ D :: wr := fun b => List.mem_cons_of_mem _
  have still : ∀ {u u' : Shared}, Moved wr G u u' → (∀ b o, h0.get? b = some o → u.heap.get? b = some o) → ∀ b o, h0.get? b = some o → u'.heap.get? b = some o := fun m k b o e =>
    m.heap b o (fun z => nomatch (fw b z).symm.trans e) (k b o e)
  induction left with
  | zero =>
    intro i s hi hst kp ⟨L, es, ep, t, S, g⟩ hZ
    obtain rfl : n = i := hi
    refine codeAny_builtin F.entry_set_update_loop ?_
    rw [F.plain_set_update_loop |> fun e => Around.under_plainId e _]
    show wpAny _ A.in1 (pyNext (.ref I) >>= _) _ _ s
    refine wpAny_bind (W.done s _ _ hst fun s1 m => ?_)
    show wpAny _ A.in1 (ret Value.none) _ _ s1
    have k1 := still m kp
    exact wpAny_pure (hZ s1 L es ep t (m.mono inW) (S.keep (fun o => m.heap D o nW) fun p hp => isT_keep (hk p (List.mem_of_mem_take (g.sub p hp))) k1) g k1)
  | succ left ih =>
    intro i s hi hst kp ⟨L, es, ep, t, S, g⟩ hZ
    have lt : i < n := by omega
    refine codeAny_builtin F.entry_set_update_loop ?_
    rw [F.plain_set_update_loop |> fun e => Around.under_plainId e _]
    show wpAny _ A.in1 (pyNext (.ref I) >>= _) _ _ s
    refine wpAny_bind (W.item i s _ _ lt hst fun v s1 hP st1 m => ?_)
    obtain ⟨p, hp, rfl⟩ := hv i v hP
    have k1 := still m kp
    have S1 : SetTR P w s1.heap D L es ep t := S.keep (fun o => m.heap D o nW) fun q hq => isT_keep (hk q (List.mem_of_mem_take (g.sub q hq))) k1
    have x1 : IsT P w s1.heap p.2 p.1 := isT_keep (hk p (List.mem_of_getElem? hp)) k1
    show wpAny _ A.in1 (holding [Value.ref p.1] (setAdd D (.ref p.1)) >>= _) _ _ s1
    refine wpAny_bind (wpAny_holding ?_)
    unfold setAdd
    refine wpAny_holding (wpAny_bind (wpAny_pyHash_tuple hu x1 (add_at (s := { s1 with toks := s1.toks + (p.2.length + 1) }) S1 x1 hu (got_few hf g S1.nd) fun b h2 L2 es2 ep2 t2 sb S2 c1 c2 => ?_)))
    have g2 : Got ks (i + 1) L2 := by
      by_cases c : p.2 ∈ L.map (·.2)
      · exact (c1 c) ▸ g.same hp c
      · exact g.more hp (c2 c)
    have k2 : ∀ b o, h0.get? b = some o → h2.get? b = some o := fun b o e => (sb.2 b (fun z => by rw [z, fD] at e; cases e)).trans (k1 b o e)
    refine wpAny_pure ⟨plainId_quiet F.plain_set_update_loop _, ih (i + 1) _ (by omega) (W.frame _ s1 _ _ st1 (Nat.le_add_right _ _) fun b hb o e => (sb.2 b fun z => nD (z ▸ hb)).trans e) k2 ⟨L2, es2, ep2, t2, S2, g2⟩ fun s3 L3 es3 ep3 t3 m3 S3 g3 k3 => ?_⟩
    exact hZ s3 L3 es3 ep3 t3 (Moved.trans W.gtrans ((m.mono inW).then_heap (Nat.le_add_right _ _) fun b o hb e => (sb.2 b fun z => hb (z ▸ List.mem_cons_self)).trans e) m3) S3 g3 k3
/-- set(xs), xs a list of tuples of ints, few of them different -/
theorem set_few {l : Addr} {items : Array Value} {ks : List (Addr × List Int)} {Q : Value → Shared → Prop} (hh : A.handled = none) (hl : s.heap.IsList l items) (hit : items.toList = ks.map fun p => Value.ref p.1)
    (hk : ∀ p ∈ ks, IsT P w s.heap p.2 p.1) (hf : Few ks) (hu : A.units + 3 < cLine)
    (q : ∀ (h' : Heap) (tk : Nat) L es ep t, SetTR P w h' s.heap.objs.size L es ep t → Got ks ks.length L → (∀ b o, s.heap.get? b = some o → h'.get? b = some o) → Q (.ref s.heap.objs.size) { s with heap := h', toks := tk }) :
    wpAny (model P w) A (call (.type "set") [.ref l]) Q E s := by
  let N := s.heap.objs.size
  have len : items.size = ks.length := by
    have z := congrArg List.length hit
    simpa using z
  obtain ⟨c, tl, mro⟩ := F.called_set.mro
  have made := F.called_set.made
  have sub := F.called_set.sub
  have notType := F.called_set.notType
  have canC := F.called_set.canCreate
  have tyC := F.typeCall_set_1 (.ref l)
  refine wpAny_call (codeAny_of_tree (show wpAny _ _ (callAny (.type "set") _) _ _ _ from ?_))
  refine wpAny_pure ⟨Code.quiet_builtin _ (by decide +kernel),
    codeAny_builtin F.entry_type_call ?_⟩
  rw [weight_type_call_type "set" [.ref l] [] |> fun e => Around.under_plain e rfl]
  repeat (any_goals (first | assumption | wp_step))
  refine codeAny_mono (code_set_led1 (.ref l) (E := E) (Q₁ := fun obj u => obj = .ref N ∧ u = { s with heap := s.heap.push (set0 w) }) ⟨rfl, rfl⟩) fun r u hr => ?_
  match r, hr with
  | .error e, hr => exact hr
  | .ok (.ret obj), ⟨e1, e2⟩ =>
    subst e1 e2
    have hS : (s.heap.push (set0 w)).get? N = some (set0 w) := Heap.get?_push_size _ rfl
    have hT : Shared.TypeIs { s with heap := s.heap.push (set0 w) } (.ref N) "set" := ⟨_, hS, rfl⟩
    have look := F.called_set.init.lookup
    have bnd := F.called_set.init.bind (.ref N)
    repeat (any_goals (first | assumption | wp_step))
    refine codeAny_mono (codeAny_call_builtin (R := wants (fun r u => r = .none ∧ ∃ h' tk L es ep t, u = { s with heap := h', toks := tk } ∧ SetTR P w h' N L es ep t ∧ Got ks ks.length L ∧ (∀ b o, s.heap.get? b = some o → h'.get? b = some o)) E)
      F.called_set.init.plain F.entry_set_init (check_set_init_1 hT ?_)) fun r2 u2 hr2 => ?_
    · obtain ⟨⟨ocl, odi, oda, osl⟩, hol, hc, nl, hd⟩ := hl
      have hc' : ocl = .type "list" := hc
      have hd' : oda = .seq items nl := hd
      subst hc' hd'
      have hl1 : (s.heap.push (set0 w)).IsList l items := ⟨_, Heap.get?_push_of_some _ hol, rfl, nl, rfl⟩
      have sub1 := F.sub_list_set
      have sub2 := F.sub_list_frozenset
      have no : (Value.type "list" == Value.type "dict") = false := by decide
      have hol1 := Heap.get?_push_of_some (set0 w) hol
      unfold Builtin.«set.__init__» noKeywords Builtin.Frozenset.updateFrom
      generalize pI : pyIter = PI
      wp_walk
      subst pI
      refine wpAny_pyIter_list hl1 (wpAny_bind (wpAny_runValue ?_))
      have lt : l < N := Heap.lt_size hol
      have sz : (s.heap.push (set0 w)).objs.size = N + 1 := Heap.size_push ..
      have gone : ∀ b, N ≤ b → s.heap.get? b = none := fun b hb => by
        cases z : s.heap.get? b with
        | none => rfl
        | some o => exact absurd (Heap.lt_size z) (Nat.not_lt.mpr hb)
      refine loop_few (D := N) (ks := ks) ((Walks.list (by simp [hh]) _ l (by rw [sz]; exact Nat.ne_of_lt (Nat.lt_succ_of_lt lt)) items).toS) ?_ len hf (fun i v hv => ?_) hk (gone _ (Nat.le_refl _)) (fun b hb => gone b ?_) hu items.size 0 _ (by omega)
        ⟨⟨_, Heap.get?_push_size _ rfl, rfl, rfl⟩, hl1.push _⟩ (fun b o e => Heap.get?_push_of_some _ (Heap.get?_push_of_some _ e)) ⟨[], #[], 0, _, setTR_fresh (Heap.get?_push_of_some _ hS), Got.zero ks⟩ fun u L es ep t m S g k => ?_
      · simp only [sz, List.mem_cons, List.mem_nil_iff, or_false, not_or]
        exact ⟨Nat.ne_of_lt (Nat.lt_succ_self _), Nat.ne_of_gt lt⟩
      · have z : items.toList[i]? = some v := Array.getElem?_toList.trans hv
        rw [hit, List.getElem?_map] at z
        cases y : ks[i]? with
        | none => rw [y] at z; cases z
        | some p => rw [y] at z; exact ⟨p, rfl, (Option.some.inj z).symm⟩
      · rw [List.mem_singleton.mp hb, sz]
        exact Nat.le_succ _
      · obtain ⟨h2, g2, d2, tk2, os2⟩ := u
        obtain rfl : g2 = s.gens := m.gens
        obtain rfl : d2 = s.drawn := m.drawn
        obtain rfl : os2 = s.os := m.os
        rw [len] at g
        exact wpAny_pure (show wpAny _ _ (ret Value.none) _ _ _ from wpAny_pure ⟨rfl, h2, tk2, L, es, ep, t, rfl, S, g, k⟩)
    · match r2, hr2 with
      | .error e, hr => exact hr
      | .ok (.ret v), ⟨ev, h', tk, L, es, ep, t, eu, S, g, k⟩ =>
        subst ev eu
        repeat (any_goals (first | assumption | wp_step))
        exact q _ _ _ _ _ _ S g k
      | .ok .next, hr => exact hr.elim
  | .ok .next, hr => exact hr.elim
theorem perm_back {α β : Type} (f : α → β) {xs ys : List β} (h : xs.Perm ys) : ∀ L : List α, ys = L.map f → ∃ L1 : List α, L1.Perm L ∧ xs = L1.map f := by
  induction h with
  | nil => exact fun L e => ⟨L, .refl _, e⟩
  | cons x _ ih =>
    intro L e
    cases L with
    | nil => cases e
    | cons p L =>
      rw [List.map_cons] at e
      injection e with e1 e2
      obtain ⟨L1, h1, h2⟩ := ih L e2
      exact ⟨p :: L1, h1.cons p, by rw [List.map_cons, e1, h2]⟩
  | swap x y l =>
    intro L e
    match L, e with
    | [], e => cases e
    | [_], e => cases e
    | p :: q :: L, e =>
      simp only [List.map_cons, List.cons.injEq] at e
      obtain ⟨e1, e2, e3⟩ := e
      exact ⟨q :: p :: L, .swap _ _ _, by rw [List.map_cons, List.map_cons, e1, e2, e3]⟩
  | trans _ _ ih1 ih2 =>
    intro L e
    obtain ⟨L2, h1, h2⟩ := ih2 L e
    obtain ⟨L3, h3, h4⟩ := ih1 L2 h2
    exact ⟨L3, h3.trans h1, h4⟩
theorem reads_ints {h : Heap} : ∀ {vs : List Value} {k : List Int}, IntsAre vs k → ReadsAll h vs (k.map .int) []
  | _, _, .nil => .nil
  | _, _, .cons n t r => .cons (as := []) (bs := []) (.int n t) (reads_ints r)
theorem reads_tup {h : Heap} {k : List Int} {b : Addr} (x : IsT P w h k b) : Reads h (.ref b) (.tuple (k.map .int)) [] := by
  obtain ⟨c, items, e, ⟨o, ho, hc, n, hd⟩, hi⟩ := tupInts_of x
  cases e
  exact .tuple ho hc hd (reads_ints hi)
/-- the pairs' order -/
def leP (p q : Int × Int) : Bool := decide (p.1 < q.1 ∨ (p.1 = q.1 ∧ p.2 ≤ q.2))
def kp (k : List Int) : Int × Int := (k.getD 0 0, k.getD 1 0)
def encT (b : Addr × List Int) : PyData := .tuple [.int (kp b.2).1, .int (kp b.2).2]
theorem leP_trans : ∀ a b c : Int × Int, leP a b = true → leP b c = true → leP a c = true := fun a b c h1 h2 => by
  simp only [leP, decide_eq_true_eq] at *
  omega
theorem leP_total : ∀ a b : Int × Int, (leP a b || leP b a) = true := fun a b => by
  simp only [leP, Bool.or_eq_true, decide_eq_true_eq]
  omega
/-- sorted(a set of pairs of ints) -/
theorem sorted_few {a : Addr} {L : List (Addr × List Int)} {es : Array (Int × Value)} {ep : Nat} {t : SetTable} {Q : Value → Shared → Prop} (S : SetTR P w s.heap a L es ep t) (ne : ∀ p ∈ L, ∃ x y, p.2 = [x, y]) (hh : A.handled = none) (hu : A.units + 10 < cLine)
    (q : ∀ s' p (out : Array Value) (c : Nat) (L' : List (Addr × List Int)), (∀ b o, s.heap.get? b = some o → s'.heap.get? b = some o) → s'.gens = s.gens → s'.os = s.os → s.heap.objs.size ≤ p →
      s'.heap.get? p = some (seqObj "list" out c) → out.toList = L'.map (fun q => Value.ref q.1) → L'.Perm L → L'.Pairwise (fun p q => leP (kp p.2) (kp q.2) = true) → Q (.ref p) s') :
    wpAny (model P w) A (call (.builtin "sorted") [.ref a]) Q E s := by
  obtain ⟨o, ho, hex, hd⟩ := S.ob
  have few := S.few
  have size := S.size
  refine Calls.call_function_entry kind_sorted plain_sorted entry_sorted (args_sorted1 _) (show wpAny _ _ (Builtin.«sorted» _) _ _ _ from ?_)
  unfold Builtin.«sorted»
  refine wpAny_bind (m := checkCount "sorted" 1 1 _) (wpAny_pure (wpAny_bind (collect_set (A := A.in1) hh ⟨o, ho, hex.1, hd⟩ S.fits (by unfold scanBound; omega) S.tab.ris S.led fun s1 vs k1 hz g1 o1 pm => ?_)))
  have es2 : es.toList.map (·.2) = L.map fun p => Value.ref p.1 := by
    rw [S.rows]
    unfold rowsOf
    rw [List.map_map] <;> rfl
  obtain ⟨L1, pL, ev⟩ := perm_back (fun p : Addr × List Int => Value.ref p.1) pm L es2
  have l1 : L1.length < 64 := by rw [pL.length_eq]; exact few
  have lv : vs.length = L1.length := by rw [ev, List.length_map]
  refine wpAny_bind (wpAny_newList ?_ (by rw [sizeLine_eq]; omega))
  have hoL : (s1.heap.push (seqObj "list" vs.toArray 0)).get? s1.heap.objs.size = some (seqObj "list" vs.toArray 0) := Heap.get?_push_size _ rfl
  have each : ∀ M : List (Addr × List Int), PySem.W.EachIs (fun (v : Value) (b : Addr × List Int) => v = .ref b.1) (M.map fun p => Value.ref p.1) M := fun M => by
    induction M with
    | nil => exact .nil
    | cons p M ih => exact .cons rfl ih
  have read : ∀ M : List (Addr × List Int), (∀ p ∈ M, p ∈ L) → PySem.W.EachIs (fun v b => ∃ as, Reads (s1.heap.push (seqObj "list" vs.toArray 0)) v (encT b) as ∧ s1.heap.objs.size ∉ as) (M.map fun p => Value.ref p.1) M := fun M hM => by
    induction M with
    | nil => exact .nil
    | cons p M ih =>
      have r := reads_tup (P := P) (w := w) (isT_keep (S.tup p (hM p List.mem_cons_self)) fun b u e => Heap.get?_push_of_some (seqObj "list" vs.toArray 0) (k1 b u e))
      obtain ⟨x, y, e⟩ := ne p (hM p List.mem_cons_self)
      refine .cons ⟨[], ?_, fun z => nomatch z⟩ (ih fun q hq => hM q (List.mem_cons_of_mem _ hq))
      unfold encT
      rw [e] at r ⊢
      exact r
  have mL : ∀ p ∈ L1, p ∈ L := fun p hp => pL.mem_iff.mp hp
  refine wpAny_bind (wpAny_holding (PySem.W.list_sort_data (s := { s1 with heap := s1.heap.push (seqObj "list" vs.toArray 0) }) (bs := L1) (enc := encT) hoL (ev ▸ each L1) (ev ▸ read L1 mL) ?_ (PySem.W.Sortable.tuples fun _ => ⟨_, _, rfl⟩) (by rw [sizeLine_eq]; omega) (fun b hb => ?_) fun out ol oe => ?_))
  · exact PySem.W.AllAlike.of fun _ _ => by simp [PySem.W.alike, PySem.W.alikeAll, encT]
  · have e : A.in1.units = A.units + 1 := rfl
    have y : (encT b).depth = 1 := by simp [encT, PyData.depth, PyData.depthAll]
    omega
  · obtain ⟨c, hc⟩ := sortedHeap_at (vs := vs) (out := out.toArray) hoL
    have e1 : ∀ {vs : List Value} {M : List (Addr × List Int)}, PySem.W.EachIs (fun (v : Value) (b : Addr × List Int) => v = .ref b.1) vs M → vs = M.map fun p => Value.ref p.1 := fun h => by
      induction h with
      | nil => rfl
      | cons h1 _ ih => rw [List.map_cons, h1, ih]
    refine wpAny_pure ⟨_, rfl, q _ s1.heap.objs.size out.toArray c _ (fun b u e => ?_) g1 o1 hz hc (by simpa using e1 oe) ((List.mergeSort_perm _ _).trans pL) ?_⟩
    · have z := k1 b u e
      have lt := Heap.lt_size z
      show (sortedHeap (s1.heap.push (seqObj "list" vs.toArray 0)) s1.heap.objs.size vs out.toArray).get? b = some u
      rw [sortedHeap_old (Nat.ne_of_lt lt) (by rw [size_push']; exact Nat.lt_succ_of_lt lt)]
      exact Heap.get?_push_of_some _ z
    · have e : PySem.W.dataLe false encT = fun p q => leP (kp p.2) (kp q.2) := PySem.W.dataLe_ii (fun b : Addr × List Int => (kp b.2).1) (fun b => (kp b.2).2)
      rw [e]
      exact List.pairwise_mergeSort (le := fun p q : Addr × List Int => leP (kp p.2) (kp q.2)) (fun a b c => leP_trans (kp a.2) (kp b.2) (kp c.2)) (fun a b => leP_total (kp a.2) (kp b.2)) _
end
section
variable {X : Cx}
def rSetF (K : PySem.W.Frag) (P : Program) (w : World) : List V → Hp → VK → Prop := fun xs H Q => ∃ (l : Addr) (ks : List (Addr × List Int)), xs = [V.ref l] ∧ SqL K H l (ks.map fun p => V.ref p.1) ∧ (∀ p ∈ ks, SqT K H p.1 (p.2.map V.int)) ∧ Few ks ∧
  ∀ a L, H a = none → (∀ p ∈ L, p ∈ ks) → (∀ p ∈ ks, p.2 ∈ L.map (·.2)) → (L.map (·.2)).Nodup → Q (.ref a) (upd H a (SetTO P w a L))
theorem cr_setF (hc : X.calm = true) (hu : X.A.units + 64 < cLine) : CallR X (.type "set") (rSetF X.K X.prog X.w) := by
  intro pins s σ H xs us Q I r h
  obtain ⟨l, ks, rfl, hl, hk, hf, q⟩ := h
  rw [Vals.ref1 r]
  obtain ⟨its, rv, pl, hz⟩ := I.list hl
  have hn : H s.heap.objs.size = none := I.hok.fresh (Nat.le_refl _)
  refine set_few (P := X.prog) (w := X.w) (ks := ks) (I.ok.hd hc) pl.isList (by simpa using refs_of_vals rv) (fun p hp => I.isT (hk p hp)) hf (by omega) fun h' tk L es ep t R g k => ?_
  exact ⟨.ref s.heap.objs.size, upd H s.heap.objs.size (SetTO X.prog X.w s.heap.objs.size L), I.laid (t' := tk) k (Nat.le_refl _) (setTO_new R.t0), rfl,
    q _ L hn (fun p hp => List.mem_of_mem_take (g.sub p hp)) (fun p hp => g.all p (by rw [List.take_length]; exact hp)) R.nd⟩
def rSortedF (K : PySem.W.Frag) (P : Program) (w : World) : List V → Hp → VK → Prop := fun vs H Q => ∃ (a : Addr) (L : List (Addr × List Int)), vs = [V.ref a] ∧ H a = some (SetTO P w a L) ∧ (∀ p ∈ L, SqT K H p.1 (p.2.map V.int)) ∧ (∀ p ∈ L, ∃ x y, p.2 = [x, y]) ∧
  ∀ (L' : List (Addr × List Int)) (p : Addr), L'.Perm L → L'.Pairwise (fun p q => leP (kp p.2) (kp q.2) = true) → H p = none → Q (.ref p) (upd H p (.lst (L'.map fun q => V.ref q.1)))
theorem cr_sortedF (hc : X.calm = true) (hu : X.A.units + 64 < cLine) : CallR X (.builtin "sorted") (rSortedF X.K X.prog X.w) := by
  intro pins s σ H vs us Q I r h
  obtain ⟨a, L, rfl, ha, hk, hd, q⟩ := h
  have R0 : SetT0 X.prog X.w s.heap a L := (I.hok a _ ha).1
  obtain ⟨es, ep, t, R⟩ := R0.full fun p hp => I.isT (hk p hp)
  rw [Vals.ref1 r]
  refine sorted_few R hd (I.ok.hd hc) (by omega) fun s' p out c L' k g o hp hg hout pm pw => ?_
  have hfew : L'.length < 64 := by rw [pm.length_eq]; exact R.few
  have hlen : (L'.map fun q => V.ref q.1).length ≤ sizeLine := by rw [List.length_map, sizeLine_eq]; omega
  have hn : H p = none := I.hok.fresh hp
  have hv : Vals (L'.map fun q => V.ref q.1) out.toList := hout ▸ vals_of_refs L'
  have J : Inv X pins σ (upd H p (.lst (L'.map fun q => V.ref q.1))) { s with heap := s'.heap, gens := s'.gens, drawn := s'.drawn, toks := s'.toks } :=
    I.call (ch := []) (Un.laid k hp hn) (I.hok.laid k hp ⟨hlen, out.toList, c, hv, hg⟩) (g.symm ▸ I.bare) (fun _ z => nomatch z)
  have e : s' = { s with heap := s'.heap, gens := s'.gens, drawn := s'.drawn, toks := s'.toks } := by
    obtain ⟨s1, s2, s3, s4, s5⟩ := s'
    obtain ⟨t1, t2, t3, t4, t5⟩ := s
    cases o
    rfl
  rw [e]
  exact ⟨.ref p, _, J, rfl, q L' p pm pw hn⟩
end
def pairOf : Dv → Option (Int × Int)
  | .tup [.int x, .int y] => some (x, y)
  | _ => none
def pairsOf : List Dv → Option (List (Int × Int))
  | [] => some []
  | w :: ws => match pairOf w, pairsOf ws with
    | some p, some ps => some (p :: ps)
    | _, _ => none
def tP (p : Int × Int) : Dv := .tup [.int p.1, .int p.2]
theorem pairOf_eq {w : Dv} {p : Int × Int} (h : pairOf w = some p) : w = tP p := by
  unfold pairOf at h
  split at h
  · cases h
    rfl
  · cases h
theorem pairsOf_eq : ∀ {ws : List Dv} {ps : List (Int × Int)}, pairsOf ws = some ps → ws = ps.map tP
  | [], ps, h => by
    cases h
    rfl
  | w :: ws, ps, h => by
    unfold pairsOf at h
    cases e1 : pairOf w with
    | none => rw [e1] at h; cases h
    | some p =>
      cases e2 : pairsOf ws with
      | none => rw [e1, e2] at h; cases h
      | some qs =>
        rw [e1, e2] at h
        cases h
        rw [List.map_cons, ← pairOf_eq e1, ← pairsOf_eq e2]
theorem pairsOf_map : ∀ ps : List (Int × Int), pairsOf (ps.map tP) = some ps
  | [] => rfl
  | p :: ps => by
    rw [List.map_cons]
    unfold pairsOf
    rw [pairsOf_map ps]
    rfl
/-- each pair once -/
def ddP : List (Int × Int) → List (Int × Int)
  | [] => []
  | p :: ps => if p ∈ ddP ps then ddP ps else p :: ddP ps
theorem mem_ddP {q : Int × Int} : ∀ {ps : List (Int × Int)}, q ∈ ddP ps ↔ q ∈ ps
  | [] => Iff.rfl
  | p :: ps => by
    unfold ddP
    split
    · rename_i h
      rw [mem_ddP, List.mem_cons]
      constructor
      · exact .inr
      · rintro (rfl | h2)
        · exact mem_ddP.mp h
        · exact h2
    · rw [List.mem_cons, List.mem_cons, mem_ddP]
theorem nodup_ddP : ∀ {ps : List (Int × Int)}, (ddP ps).Nodup
  | [] => List.nodup_nil
  | p :: ps => by
    unfold ddP
    split
    · exact nodup_ddP
    · rename_i h
      exact List.nodup_cons.mpr ⟨h, nodup_ddP⟩
/-- each pair once, in their order -/
def sortP (ps : List (Int × Int)) : List (Int × Int) := (ddP ps).mergeSort leP
theorem mem_sortP {ps : List (Int × Int)} {p : Int × Int} : p ∈ sortP ps ↔ p ∈ ps := by
  unfold sortP
  rw [List.mem_mergeSort, mem_ddP]
def sortedSetP : ON := fun _ xs => match xs with
  | [.lst ws] => match pairsOf ws with
    | some ps => if (ddP ps).length < 63 then some (.lst ((sortP ps).map tP)) else none
    | none => none
  | _ => none
theorem nodup_le {α : Type} [BEq α] [LawfulBEq α] : ∀ {M N : List α}, M.Nodup → (∀ x ∈ M, x ∈ N) → M.length ≤ N.length
  | [], _, _, _ => Nat.zero_le _
  | x :: M, N, nd, h => by
    obtain ⟨n1, n2⟩ := List.nodup_cons.mp nd
    have hx : x ∈ N := h x List.mem_cons_self
    have z := nodup_le (N := N.erase x) n2 fun y hy => by
      refine (List.mem_erase_of_ne ?_).mpr (h y (List.mem_cons_of_mem _ hy))
      intro e
      exact n1 (e ▸ hy)
    rw [List.length_erase_of_mem hx] at z
    have := List.length_pos_of_mem hx
    rw [List.length_cons]
    omega
section
variable {Γ : Ct} {H : Hp} {μ : Mu} {Z : Zs}
theorem rvs_pairs : ∀ {ps : List (Int × Int)} {xs : List V}, RVs Γ H μ Z (ps.map tP) xs → ∃ ks : List (Addr × List Int), xs = ks.map (fun p => V.ref p.1) ∧ ks.map (·.2) = ps.map (fun p => [p.1, p.2]) ∧ ∀ p ∈ ks, AtT Γ.K H μ Z p.1 (p.2.map V.int)
  | [], xs, h => ⟨[], h, rfl, fun p hp => nomatch hp⟩
  | p :: ps, xs, h => by
    obtain ⟨x, ys, e, h1, h2⟩ := h
    obtain ⟨ks, e1, e2, h3⟩ := rvs_pairs h2
    obtain ⟨a, zs, e3, h4, h5⟩ := h1
    have e4 : zs = [V.int p.1, V.int p.2] := by
      obtain ⟨x1, r1, f1, f2, f3⟩ := h5
      obtain ⟨x2, r2, f4, f5, f6⟩ := f3
      have f2' : x1 = V.int p.1 := f2
      have f5' : x2 = V.int p.2 := f5
      have f6' : r2 = [] := f6
      rw [f1, f4, f2', f5', f6']
    subst e4
    refine ⟨(a, [p.1, p.2]) :: ks, by rw [e, e3, e1]; rfl, by rw [List.map_cons, List.map_cons, e2], fun q hq => ?_⟩
    rcases List.mem_cons.mp hq with rfl | hq
    · exact h4
    · exact h3 q hq
theorem rvs_of : ∀ {L : List (Addr × List Int)}, (∀ p ∈ L, AtT Γ.K H μ Z p.1 (p.2.map V.int)) → (∀ p ∈ L, ∃ x y, p.2 = [x, y]) → RVs Γ H μ Z (L.map fun p => tP (kp p.2)) (L.map fun p => V.ref p.1)
  | [], _, _ => rfl
  | p :: L, h, g => by
    obtain ⟨x, y, e⟩ := g p List.mem_cons_self
    have h1 := h p List.mem_cons_self
    refine ⟨_, _, rfl, ?_, rvs_of (fun q hq => h q (List.mem_cons_of_mem _ hq)) fun q hq => g q (List.mem_cons_of_mem _ hq)⟩
    show RV Γ H μ Z (tP (kp p.2)) (.ref p.1)
    rw [e] at h1 ⊢
    exact ⟨p.1, _, rfl, h1, _, _, rfl, rfl, _, _, rfl, rfl, rfl⟩
end
theorem me_sortedSetP {X : Cx} {Γ : Ct} {W : WX} {e : Expr} {fa : FA} {p p2 pos pos2 : Pos} (hK : Γ.K = X.K) (hc : X.calm = true) (hu : X.A.units + 64 < cLine) (hg : Gl X "sorted") (hm : X.mg "sorted" = none) (hg2 : Gl X "set") (hm2 : X.mg "set" = none) (ha : MA X Γ W [e] fa)
    (he : starEach [e] X.env = (false, eval e X.env) :: starEach [] X.env := by rfl) (hpl : (backTo pos2 (starEach [] X.env)).any (·.1) = false := by rfl)
    (he' : starEach [.Call (.Name "set" p2) [e] [] pos2] X.env = (false, eval (.Call (.Name "set" p2) [e] [] pos2) X.env) :: starEach [] X.env := by rfl) (hpl' : (backTo pos (starEach [] X.env)).any (·.1) = false := by rfl) :
    ME X Γ W (.Call (.Name "sorted" p) [.Call (.Name "set" p2) [e] [] pos2] [] pos) (mBlt sortedSetP fa) :=
  PE.imp (pe_callB (cr_sortedF hc hu) hg hm (by decide +kernel) (pa_cons (pe_callTy (cr_setF hc hu) hg2 hm2 (by decide +kernel) ha (by decide) (by decide) he hpl) pa_nil he') (by decide) (by decide) he' hpl') fun σ H Q ⟨μ, Z, ρ, s, hE, hR, q⟩ => by
    refine aE hE hR q fun ws s1 vs H1 μ1 e1 E1 R1 r1 q1 => ?_
    obtain ⟨w, hw, k⟩ := ofE q1
    unfold sortedSetP at hw
    split at hw
    · rename_i us
      split at hw
      · rename_i ps qi
        split at hw
        · rename_i hl
          cases hw
          obtain ⟨v, rfl, hv⟩ := one r1
          obtain ⟨a, xs, rfl, hH, hF, h3⟩ := hv
          have eu := pairsOf_eq qi
          subst eu
          obtain ⟨ks, rfl, e2, hA⟩ := rvs_pairs h3
          have pr : ∀ p ∈ ks, ∃ x y, p.2 = [x, y] ∧ (x, y) ∈ ps := fun p hp => by
            have z : p.2 ∈ ps.map (fun p => [p.1, p.2]) := e2 ▸ List.mem_map_of_mem hp
            obtain ⟨q, hq, e⟩ := List.mem_map.mp z
            exact ⟨q.1, q.2, e.symm, hq⟩
          have mk : ∀ q ∈ ps, [q.1, q.2] ∈ ks.map (·.2) := fun q hq => e2 ▸ List.mem_map_of_mem (f := fun p : Int × Int => [p.1, p.2]) hq
          refine ⟨a, ks, rfl, .inl (.inl hH), fun p hp => hK ▸ (hA p hp).sq, fun M hM nd => ?_, fun b L hb sub all nd => ?_⟩
          · have nd2 : (M.map kp).Nodup := by
              refine List.pairwise_map.mpr (List.Pairwise.imp_of_mem (fun {c d} hc hd ne e => ne ?_) nd)
              obtain ⟨p, hp, rfl⟩ := hM c hc
              obtain ⟨q, hq, rfl⟩ := hM d hd
              obtain ⟨x, y, ep, _⟩ := pr p hp
              obtain ⟨x', y', eq, _⟩ := pr q hq
              rw [ep, eq] at e ⊢
              have e' : (x, y) = (x', y') := e
              cases e'
              rfl
            have z := nodup_le (N := (ddP ps)) nd2 fun c hc => by
              obtain ⟨k, hk, rfl⟩ := List.mem_map.mp hc
              obtain ⟨p, hp, rfl⟩ := hM k hk
              obtain ⟨x, y, ep, hin⟩ := pr p hp
              rw [ep]
              exact mem_ddP.mpr hin
            rw [List.length_map] at z
            omega
          · have hks : ∀ p ∈ L, ∃ x y, p.2 = [x, y] := fun p hp => by
              obtain ⟨x, y, e, _⟩ := pr p (sub p hp)
              exact ⟨x, y, e⟩
            have kept : ∀ {o : HO} {H2 : Hp} {b : Addr}, H2 b = none → ∀ {c : Addr} {xs : List V}, AtT Γ.K H2 μ1 Z c xs → AtT Γ.K (upd H2 b o) μ1 Z c xs := fun hb => AtT.mono (Evo.laid hb)
            refine ⟨b, L, rfl, upd_same, fun p hp => hK ▸ (AtT.mono (Evo.laid hb) (hA p (sub p hp))).sq, hks, fun L' c pm pw hc => ?_⟩
            have R2 := R1.laid (o := SetTO X.prog X.w b L) hb
            have hk2 : ∀ p ∈ L', ∃ x y, p.2 = [x, y] := fun p hp => hks p (pm.mem_iff.mp hp)
            have es : L'.map (fun p => kp p.2) = sortP ps := by
              have inj : ∀ p ∈ L', ∀ q ∈ L', kp p.2 = kp q.2 → p.2 = q.2 := fun p hp q hq e => by
                obtain ⟨x, y, ep⟩ := hk2 p hp
                obtain ⟨x', y', eq⟩ := hk2 q hq
                rw [ep, eq] at e ⊢
                have e' : (x, y) = (x', y') := e
                cases e'
                rfl
              have nd' : (L'.map (fun p => kp p.2)).Nodup := by
                have n1 : (L'.map (·.2)).Nodup := (pm.map (·.2)).nodup_iff.mpr nd
                rw [show (L'.map fun p => kp p.2) = L'.map (fun p => kp p.2) from rfl]
                refine List.pairwise_map.mpr (List.Pairwise.imp_of_mem (fun {p q} hp hq ne e => ne (inj p hp q hq e)) (List.pairwise_map.mp n1))
              refine List.Perm.eq_of_pairwise (le := fun a b => leP a b = true) (fun a b _ _ h1 h2 => ?_) (List.pairwise_map.mpr pw) (List.pairwise_mergeSort leP_trans leP_total _) ?_
              · simp only [leP, decide_eq_true_eq] at h1 h2
                exact Prod.ext (by omega) (by omega)
              · refine (List.perm_ext_iff_of_nodup nd' ((List.mergeSort_perm _ _).nodup_iff.mpr nodup_ddP)).mpr fun a => ?_
                rw [show (a ∈ (ddP ps).mergeSort leP ↔ a ∈ ps) from mem_sortP]
                constructor
                · intro h
                  obtain ⟨p, hp, rfl⟩ := List.mem_map.mp h
                  obtain ⟨x, y, e, hin⟩ := pr p (sub p (pm.mem_iff.mp hp))
                  rw [e]
                  exact hin
                · intro h
                  obtain ⟨p, hp, e⟩ := List.mem_map.mp (mk a h)
                  obtain ⟨q, hq, e'⟩ := List.mem_map.mp (all p hp)
                  refine List.mem_map.mpr ⟨q, pm.mem_iff.mpr hq, ?_⟩
                  rw [e', e]
                  rfl
            have rv : RVs Γ (upd H1 b (SetTO X.prog X.w b L)) μ1 Z ((sortP ps).map tP) (L'.map fun p => V.ref p.1) := by
              rw [← es, List.map_map]
              exact rvs_of (fun p hp => AtT.mono (Evo.laid hb) (hA p (sub p (pm.mem_iff.mp hp)))) hk2
            exact k _ _ ((Evo.laid hb).trans (Evo.laid hc)) (R2.laid hc) (new_lst R2 hc rv)
        · cases hw
      · cases hw
    · cases hw
def gcdD : ON := fun _ xs => match xs with
  | [.int i, .int j] => some (.int ((Nat.gcd i.natAbs j.natAbs : Nat) : Int))
  | _ => none
theorem sGcd {Γ : Ct} : OpN Γ rGcd gcdD := fun H μ Z s xs w vs Q hR rx e k => by
  unfold gcdD at e
  split at e
  · rename_i i j
    cases e
    obtain ⟨x, y, rfl, r1, r2⟩ := two rx
    exact ⟨i, j, by rw [show x = .int i from r1, show y = .int j from r2], k _ H .refl hR rfl⟩
  · cases e
theorem me_gcd {X : Cx} {Γ : Ct} {W : WX} {x : Str} {e : Expr} {es : List Expr} {fa : FA} {p pos : Pos} (hg : Gl X x) (hm : X.mg x = some (.builtin "math.gcd")) (ha : MA X Γ W (e :: es) fa) (hdb : (x == ("__debug__" : Str)) = false := by decide)
    (he : starEach (e :: es) X.env = (false, eval e X.env) :: starEach es X.env := by rfl) (hpl : (backTo pos (starEach es X.env)).any (·.1) = false := by rfl) : ME X Γ W (.Call (.Name x p) (e :: es) [] pos) (mBlt gcdD fa) :=
  blt_ok (ta := rdA Γ W fa) rfl sGcd (pe_callBfun cr_gcd hg hm ha hdb he hpl)
end MP
set_option Elab.async false
set_option linter.all false
set_option maxRecDepth 100000
set_option maxHeartbeats 4000000
namespace MP
open PySem PySem.Spec PyProof.Rows L2
/-- such a lambda on its way -/
structure Thk1 (P : Program) (w : World) (Γ : Ct) (mg : Str → Option Value) (base : Heap) (kk : Nat) (outer : List PySem.Env) (s0 : Shared) (H0 : Hp) (f c' : Addr) (q : Str) (ws : List Dv) (vs : List V) (g : Dv → Sto → R Dv) : Prop where
  fn : ∀ (s1 : Shared) (HZ : Hp), Un (frs outer) [] H0 HZ s0.heap s1.heap → PySem.W.FnAt f s1.heap
  run : ∀ (A : Around) (outer1 : List PySem.Env) (s1 : Shared) (HZ : Hp) (Q : VK) (E : XK) (μ : Mu) (Z : Zs) (st : Sto) (wd : Dv) (v : V) (u : Value), Room kk A → A.guards = some [] → Env0 P w Γ.K mg base A outer1 s1 HZ → Un (frs outer) [] H0 HZ s0.heap s1.heap →
    HZ c' = some (LamX.CodeO c' q) → RVs Γ HZ μ Z ws vs → Rep Γ HZ μ Z st → L2.RelV v u → RV Γ HZ μ Z wd v → PostE Γ (fun c d _ H => E c d H) HZ μ Z [] Q (g wd st) → codeAny (model P w) A (.call (.ref f) ⟨[u], []⟩) (CR (L2.CX P w) outer1 P w HZ s1 Q E) s1
theorem Thk1.deeper {P : Program} {w : World} {Γ : Ct} {mg : Str → Option Value} {base : Heap} {kk : Nat} {outer : List PySem.Env} {s0 s' : Shared} {H0 H' : Hp} {f c' : Addr} {q : Str} {ws : List Dv} {vs : List V} {g : Dv → Sto → R Dv} {env : PySem.Env} {L : Addr}
    (T : Thk1 P w Γ mg base kk outer s0 H0 f c' q ws vs g) (hf : env.frame = some L) (hL : s0.heap.objs.size ≤ L) (u : Un (frs outer) [] H0 H' s0.heap s'.heap) : Thk1 P w Γ mg base kk (env :: outer) s' H' f c' q ws vs g := by
  have e : frs (env :: outer) = L :: frs outer := by unfold frs; rw [List.filterMap_cons, hf]
  exact ⟨fun s1 HZ v => T.fn s1 HZ (un_comp u (e ▸ v) hL), fun A outer1 s1 HZ Q E μ Z st wd x y h1 h2 h3 v => T.run A outer1 s1 HZ Q E μ Z st wd x y h1 h2 h3 (un_comp u (e ▸ v) hL)⟩
end MP
set_option Elab.async false
set_option linter.all false
set_option maxRecDepth 100000
set_option maxHeartbeats 4000000
namespace MP
open PySem PySem.Spec PyProof.Rows L2
end MP
set_option Elab.async false
set_option linter.all false
set_option maxRecDepth 100000
set_option maxHeartbeats 4000000
namespace MP
open PySem PySem.Spec PyProof.Rows L2
end MP
set_option Elab.async false
set_option linter.all false
set_option maxRecDepth 100000
set_option maxHeartbeats 4000000
namespace MP
open PySem PySem.Spec PyProof.Rows L2
end MP
set_option Elab.async false
set_option linter.all false
set_option maxRecDepth 100000
set_option maxHeartbeats 4000000
namespace MP
open PySem PySem.Spec PyProof.Rows L2
open PyProof.Rows.KTD (TabOf datumAt inKeys isSome_datumAt)
/-- R, kept by a heap that keeps -/
def TabAt (Γ : Ct) (h : Heap) (a : Addr) (D : List (Str × Nat)) : Prop := TabOf (fun j v => v = .ref (Γ.cls j)) h a D
section
variable {prog : Program} {w : World} {A : Around} {E : Value → Shared → Prop} {s : Shared} {a : Addr} {D : List (Str × Nat)} {k : Str} {tk : Tok} {Γ : Ct}
theorem TabAt.keep {h h' : Heap} (T : TabAt Γ h a D) (hk : ∀ b o, h.get? b = some o → h'.get? b = some o) : TabAt Γ h' a D := KTD.TabOf.keep T hk fun _ _ x => x
theorem TabAt.typeIs (T : TabAt Γ s.heap a D) : s.TypeIs (.ref a) "dict" := let ⟨_, o, _, _, ho, hc, _⟩ := T; ⟨o, ho, hc.1⟩
end
end MP
set_option Elab.async false
set_option linter.all false
set_option maxRecDepth 100000
set_option maxHeartbeats 4000000
namespace MP
open PySem PySem.Spec PyProof.Rows L2
end MP
set_option Elab.async false
set_option linter.all false
set_option maxRecDepth 100000
set_option maxHeartbeats 4000000
namespace MP
open PySem PySem.Spec PyProof.Rows L2
end MP
set_option Elab.async false
set_option linter.all false
set_option maxRecDepth 100000
set_option maxHeartbeats 4000000
namespace MP
open PySem PySem.Spec PyProof.Rows L2
theorem ok_fnD {P : Program} {w : World} {mg : Str → Option Value} {base : Heap} {Γ : Ct} {x qual : Str} {st : Stmt} {f : Addr} {fd : FuncData} {dvs : List V} {kws : List (Str × V)} {N ps : List Str} {k : Nat} {c : FS} (F : FunD Γ.K x qual (defArgs st) (defBody st) (defScope st) dvs kws f fd) (S : FnScope N ps (defScope st))
    (hbody : ∀ (cdv : Value) (A : Around) (outer : List PySem.Env) (s : Shared) (H : Hp) (E : XK) (W : WX), Room k (A.deeper (envF qual st s f cdv)) → (A.deeper (envF qual st s f cdv)).guards = some [] → Takes (cxF Γ P w mg base N qual st f cdv A outer s H E) W →
      MB (cxF Γ P w mg base N qual st f cdv A outer s H E) Γ W (defBody st) c) : FnG P w mg base Γ (k + 1) f fd ps (denOf N.length c) := by
  obtain ⟨oc, od, dV, kV, doc, pm, an, cdv, ct, osl, rfl, lk, hcd, _, _⟩ := F.ex
  refine ⟨fun A outer s H args us vs Q E room guards e0 binds rel ⟨hlen, μ, Z, st0, ws, hR, rws, post⟩ => ?_⟩
  have stays : ∀ b o, base.get? b = some o → s.heap.get? b = some o := fun b o e => (e0.bs b o e).1
  have inK : Γ.K.In s.heap := e0.mod.kin.keeps stays
  have kinds : ∀ y ∈ ps.zip us, (defScope st).names.lookup y.1 = some .local ∨ ((defScope st).names.lookup y.1 = some .cell ∧ ((cellsFrom (s.heap.objs.size + 1) (defScope st).names []).lookup y.1).isSome = true) := by
    rintro ⟨n, v⟩ hy
    exact (S.par n (List.of_mem_zip hy).1).imp id fun q => ⟨q, PySem.W.cellsFrom_some _ _ _ (.inl q)⟩
  refine codeAny_call_function room.depth (inK _ _ lk) rfl S.co S.gen rfl (PySem.W.codeRec_of inK hcd) (binds _ _ _ _ ?_)
  refine wpAny_newFunctionEnv_cells S.kind kinds fun env he s1 entered => ?_
  subst he
  refine ⟨(e0.mod.nolimit.keeps stays).keeps entered.toInCall.keep, codeAny_func ?_⟩
  have I := inv_start (CX := L2.CX P w) (E := E) (cd := cdv) S room.hd e0 hlen rel entered
  have tk : Takes (cxF Γ P w mg base N qual st f cdv A outer s H E) (fun cls d _ H' => E cls d H') := takes_of rfl rfl rfl rfl
  have run := (hbody cdv A outer s H E _ (room.deeper _) (by show (A.deeper _).guards = _; rw [← guards]; rfl) tk).run [] s1 (L2.start N vs) H { nx := fun _ H' => Q .non H', rt := Q } I
    ⟨μ, Z, startD N.length ws, st0, re_start rws, hR, body_end hR post⟩
  refine wpAny_mono run (fun fl s' hs => ?_) fun e s' hs => hs
  cases fl with
  | ret u =>
    obtain ⟨v, σ', H', J, rv, q⟩ := hs
    exact ⟨v, H', J.os, J.bare, J.base, J.hok, rv, q⟩
  | next =>
    obtain ⟨σ', H', J, q⟩ := hs
    exact ⟨V.non, H', J.os, J.bare, J.base, J.hok, rfl, q⟩
  | brk => exact hs.elim fun _ z => z.elim fun _ z => z.2.elim
  | cont => exact hs.elim fun _ z => z.elim fun _ z => z.2.elim
/-- such a def: its names, its last one's default -/
def CalD (P : Program) (w : World) (mg : Str → Option Value) (base : Heap) (Γ : Ct) (k : Nat) (x : Str) (ps : List Str) (key : Str) (d : Int) (den : Fn) : Prop :=
  ∃ (f : Addr) (fd : FuncData), FnG P w mg base Γ k f fd ps den ∧ mg x = some (.ref f) ∧ PySem.W.keepIn Γ.K (.ref f) = true ∧ Binds Γ.K fd ps [] ∧ (∃ ds, Vals [V.int d] ds ∧ Binds Γ.K fd ps ds) ∧
    ∀ (s : Shared) (us : List Value) (u : Value), Γ.K.In s.heap → us.length + 1 = ps.length → BindsTo s fd ⟨us, [(key, u)]⟩ (ps.zip (us ++ [u]))
section
variable {X : Cx} {Γ : Ct} {W : WX} {k n : Nat} {ps : List Str} {key : Str} {d : Int} {den : Fn} {x : Str} {p pos : Pos} {e : Expr} {es : List Expr} {fa fk : FA} {kws : List Keyword}
theorem me_calDA (C : CalD X.prog X.w X.mg X.base Γ k x ps key d den) (hK : Γ.K = X.K) (hr : Room k X.A) (hg : X.A.guards = some []) (tk : Takes X W) (hgl : Gl X x) (ha : MA X Γ W (e :: es) fa) (n : Nat) (hl : FA.Len fa n) (hn : n = ps.length) (hnl : (e :: es).length = n) (hdb : (x == ("__debug__" : Str)) = false := by decide)
    (he : starEach (e :: es) X.env = (false, eval e X.env) :: starEach es X.env := by rfl) (hpl : (backTo pos (starEach es X.env)).any (·.1) = false := by rfl) :
    ME X Γ W (.Call (.Name x p) (e :: es) [] pos) (mCall den fa) := by
  obtain ⟨f, fd, F, hm, hk, hb, _⟩ := C
  exact me_cal ⟨f, fd, F, hm, hk, hb⟩ hK hr hg tk hgl ha n hl hn hnl hdb he hpl
def mCallD (d : Int) (den : Fn) (fa : FA) : FE := mCall (fun ws => den (ws ++ [.int d])) fa
theorem me_calD (C : CalD X.prog X.w X.mg X.base Γ k x ps key d den) (hK : Γ.K = X.K) (hr : Room k X.A) (hg : X.A.guards = some []) (tk : Takes X W) (hgl : Gl X x) (ha : MA X Γ W (e :: es) fa) (n : Nat) (hl : FA.Len fa n) (hn : n + 1 = ps.length) (hnl : (e :: es).length = n) (hdb : (x == ("__debug__" : Str)) = false := by decide)
    (he : starEach (e :: es) X.env = (false, eval e X.env) :: starEach es X.env := by rfl) (hpl : (backTo pos (starEach es X.env)).any (·.1) = false := by rfl) :
    ME X Γ W (.Call (.Name x p) (e :: es) [] pos) (mCallD d den fa) := by
  obtain ⟨f, fd, F, hm, hk, _, ⟨ds, rd, hb⟩, _⟩ := C
  exact me_call (dws := [.int d]) F hK hr hg hgl hm (hK ▸ hk) (hK ▸ hb) rd (fun _ _ _ => RVs.cons rfl rfl) n hn hnl tk ha hl hdb he hpl
def mCallK (den : Fn) (fa fk : FA) : FE := fun ρ s => (fa ρ s).bind fun ws s1 => (fk ρ s1).bind fun zs s2 => den (ws ++ zs) s2
theorem me_calDK (C : CalD X.prog X.w X.mg X.base Γ k x ps key d den) (hK : Γ.K = X.K) (hr : Room k X.A) (hg : X.A.guards = some []) (tk : Takes X W) (hgl : Gl X x) (ha : MA X Γ W (e :: es) fa) (n : Nat) (hl : FA.Len fa n) (hn : n + 1 = ps.length) (hkw : MK X Γ W kws fk) (hl2 : FA.Len fk 1) (hdb : (x == ("__debug__" : Str)) = false := by decide)
    (hall : (backToKw pos (keywordEach kws X.env)).all (·.1.isSome) = true := by rfl) (hks : (backToKw pos (keywordEach kws X.env)).filterMap (·.1) = [key] := by rfl)
    (he : starEach (e :: es) X.env = (false, eval e X.env) :: starEach es X.env := by rfl) (hpl : ((backTo pos (starEach (e :: es) X.env)).any (·.1) || (backToKw pos (keywordEach kws X.env)).any (·.1.isNone)) = false := by rfl) :
    ME X Γ W (.Call (.Name x p) (e :: es) kws pos) (mCallK den fa fk) := by
  obtain ⟨f, fd, F, hm, hk, _, _, hb⟩ := C
  refine ⟨fun pins s σ H Q I ⟨μ, Z, ρ, s0, hE, hR, q⟩ => ?_⟩
  refine wpAny_Call_Name_kw (ld_glob I hgl hm ?_ hdb)
  have q' : rdA Γ W fa σ H fun vs H1 => rdA Γ W fk σ H1 fun zs H2 => vs.length = n ∧ zs.length = 1 ∧ spM Γ ps den (vs ++ zs) H2 Q (WE W σ) := by
    refine ⟨μ, Z, ρ, s0, hE, hR, ?_⟩
    unfold mCallK at q
    cases e1 : fa ρ s0 with
    | er x1 s1 => rw [e1] at q; exact q
    | no => rw [e1] at q; exact q
    | ok ws s1 =>
      rw [e1] at q
      have q1 : PostE Γ W H μ Z σ Q ((fk ρ s1).bind fun zs s2 => den (ws ++ zs) s2) := q
      intro vs H1 μ1 ev R1 r1
      refine ⟨μ1, Z, ρ, s1, hE.mono ev, R1, ?_⟩
      cases e2 : fk ρ s1 with
      | er x1 s1 => rw [e2] at q1; exact PostE.evo ev q1
      | no => rw [e2] at q1; exact q1
      | ok zs s2 =>
        rw [e2] at q1
        have q2 : PostE Γ W H μ Z σ Q (den (ws ++ zs) s2) := q1
        intro us H2 μ2 ev2 R2 r2
        have h1 : vs.length = n := by rw [r1.len]; exact hl _ _ _ _ e1
        have h2 : us.length = 1 := by rw [r2.len]; exact hl2 _ _ _ _ e2
        exact ⟨h1, h2, by rw [List.length_append, h1, h2, hn], μ2, Z, s2, ws ++ zs, R2, (r1.mono ev2).append r2, post_call (PostE.evo (ev.trans ev2) q2)⟩
  refine PySem.W.callWith_KW (h₀ := X.base) I.ok.mod.kin (hK ▸ hk) hall (thn (ha.run pos pins s σ H _ I q') fun us s1 ⟨vs, H1, I1, r, q1⟩ => ?_) hpl he
  refine thn (hkw.run pos pins s1 σ H1 _ I1 q1) fun ws s2 ⟨zs, H2, I2, rz, l1, l2, q2⟩ => ⟨I2.kIn, ?_⟩
  rw [hks]
  have l3 : ws.length = 1 := by rw [← rz.length, l2]
  obtain ⟨u, rfl⟩ : ∃ u, ws = [u] := by
    match ws, l3 with
    | [u], _ => exact ⟨u, rfl⟩
  exact run_GM (us := us) (bs := us ++ [u]) (vs := vs ++ zs) F hK hr hg (hb s2 us u (hK ▸ I2.kIn) (by rw [← r.length, l1, hn])) tk I2 (r.append rz) q2
/-- such a def, from its function object -/
theorem calD_of {P : Program} {w : World} {mg : Str → Option Value} {base : Heap} {qual : Str} {st : Stmt} {f : Addr} {fd : FuncData} (G : FnG P w mg base Γ k f fd ps den) (hm : mg x = some (.ref f)) (F : FunD Γ.K x qual (defArgs st) (defBody st) (defScope st) [V.int d] [] f fd) (hps : n + 1 = ps.length)
    (h1 : ∀ (T : Addr) (kV doc pm : Value) (an : Option Addr) (cdv ct : Value) (us its : List Value), us.length = n → its.length = 1 →
      ∃ k, bindArgs (PySem.W.fnOf x qual (defArgs st) (defBody st) (defScope st) (.ref T) kV doc pm an cdv ct) ⟨us, []⟩ = seqItems? (.ref T) >>= k ∧ k (some its.toArray) = pure (ps.zip (us ++ its.drop 0)))
    (h0 : ∀ (T : Addr) (kV doc pm : Value) (an : Option Addr) (cdv ct : Value) (us its : List Value), us.length = n + 1 → its.length = 1 →
      ∃ k, bindArgs (PySem.W.fnOf x qual (defArgs st) (defBody st) (defScope st) (.ref T) kV doc pm an cdv ct) ⟨us, []⟩ = seqItems? (.ref T) >>= k ∧ k (some its.toArray) = pure (ps.zip (us ++ its.drop 1)))
    (h2 : ∀ (T : Addr) (kV doc pm : Value) (an : Option Addr) (cdv ct : Value) (us its : List Value) (u : Value), us.length = n → its.length = 1 →
      ∃ k, bindArgs (PySem.W.fnOf x qual (defArgs st) (defBody st) (defScope st) (.ref T) kV doc pm an cdv ct) ⟨us, [(key, u)]⟩ = seqItems? (.ref T) >>= k ∧ k (some its.toArray) = pure (ps.zip (us ++ [u]))) :
    CalD P w mg base Γ k x ps key d den := by
  obtain ⟨ds, rd, hb⟩ := F.binds1 (ps := ps) n 0 (by intro z; cases z) (by simpa using hps) fun T kV doc pm an cdv ct us its l1 l2 => h1 T kV doc pm an cdv ct us its l1 l2
  obtain ⟨ds0, rd0, hb0⟩ := F.binds1 (ps := ps) (n + 1) 1 (by intro z; cases z) (by simpa using hps) fun T kV doc pm an cdv ct us its l1 l2 => h0 T kV doc pm an cdv ct us its l1 l2
  cases rd0
  refine ⟨f, fd, G, hm, F.kp, hb0, ⟨ds, rd, hb⟩, fun s us u X l => ?_⟩
  obtain ⟨oc, od, dV, kV, doc, pm, an, cdv, ct, osl, rfl, lk, hcd, hD, hK⟩ := F.ex
  rcases hD with ⟨z, _⟩ | ⟨_, T, o, its, m, rfl, lT, oT, rT⟩
  · cases z
  · obtain ⟨k, e1, e2⟩ := h2 T kV doc pm an cdv ct us its u (by omega) rT.length.symm
    refine BindsTo.of_looks fun M => ?_
    rw [e1]
    exact looks_items X lT oT (.of_pure e2)
end
end MP
set_option Elab.async false
set_option linter.all false
set_option maxRecDepth 100000
set_option maxHeartbeats 4000000
namespace MP.PG
open PySem PySem.Spec PyProof.Rows L2 MP
noncomputable def d_is_int : FS := (mRet (mAndV (mBlt isiD (mCons (mVar 0) (mCons (mK (.ty "int")) mNil))) (mAndV (mBin isntD (mVar 0) (mK (.bl true))) (mBin isntD (mVar 0) (mK (.bl false))))))
noncomputable def g_is_int : Fn := denOf 1 d_is_int
noncomputable def d_is_int_within : FS := (mRet (mAndV (mCall (g_is_int) (mCons (mVar 0) mNil)) (mChain leD leD (mVar 1) (mVar 0) (mVar 2))))
noncomputable def g_is_int_within : Fn := denOf 3 d_is_int_within
noncomputable def d_is_tuple : FS := (mRet (mAndV (mBlt isiD (mCons (mVar 0) (mCons (mK (.ty "tuple")) mNil))) (mChain leD leD (mVar 1) (mBlt lenD (mCons (mVar 0) mNil)) (mVar 2))))
noncomputable def g_is_tuple : Fn := denOf 3 d_is_tuple
noncomputable def F_first_outside_1 : FI := (iEnum1 (mCons (mVar 0) mNil))
noncomputable def t_first_outside_1 : FG := (gT 2 (gsC (gN 3) (gsC (gN 4) gs0)))
noncomputable def b_first_outside_1 : FS := (mIfS (mOr (mNot (mTest (mBlt isiD (mCons (mVar 4) (mCons (mK (.ty "int")) mNil))))) (mOr (mTest (mBin isD (mVar 4) (mK (.bl true)))) (mOr (mTest (mBin isD (mVar 4) (mK (.bl false)))) (mNot (mTest (mChain leD leD (mVar 1) (mVar 4) (mVar 2))))))) (mRet (mVar 3)) mNext)
noncomputable def d_first_outside : FS := (mSeq (mFor F_first_outside_1 t_first_outside_1 b_first_outside_1)
  (mRet (mK .non)))
noncomputable def g_first_outside : Fn := denOf 5 d_first_outside
noncomputable def d_need_rule : FS := (mSeq (mIfS (mNot (mTest (mCall (g_is_tuple) (mCons (mVar 0) (mCons (mK (.int 1)) (mCons (mK (.int 6)) mNil)))))) mStuck mNext)
  (mSeq (mAsg (mCall (g_first_outside) (mCons (mVar 0) (mCons (mUn negD (mK (.int 20))) (mCons (mK (.int 20)) mNil)))) (gN 1))
  (mSeq (mIfS (mTest (mBin isntD (mVar 1) (mK .non))) mStuck mNext)
  (mRet (mVar 0)))))
noncomputable def g_need_rule : Fn := denOf 2 d_need_rule
noncomputable def F_indexes_by_ones_1 : FI := (iSeq (mRev (mVar 0)))
noncomputable def t_indexes_by_ones_1 : FG := (gN 2)
noncomputable def b_indexes_by_ones_1 : FS := (mExpr (mApp (mVar 1) (mBin addD (mBin ixA (mVar 1) (mUn negD (mK (.int 1)))) (mVar 2))))
noncomputable def d_indexes_by_ones : FS := (mSeq (mAsg (mLstM (mCons (mK (.int 0)) mNil)) (gN 1))
  (mSeq (mFor F_indexes_by_ones_1 t_indexes_by_ones_1 b_indexes_by_ones_1)
  (mRet (mVar 1))))
noncomputable def g_indexes_by_ones : Fn := denOf 3 d_indexes_by_ones
noncomputable def F_many_of_1 : FI := (iRange1 (mCons (mVar 1) mNil))
noncomputable def t_many_of_1 : FG := (gN 3)
noncomputable def b_many_of_1 : FS := (mAsg (mBin mulD (mVar 0) (mVar 2)) (gN 2))
noncomputable def d_many_of : FS := (mSeq (mAsg (mK (.int 1)) (gN 2))
  (mSeq (mFor F_many_of_1 t_many_of_1 b_many_of_1)
  (mRet (mVar 2))))
noncomputable def g_many_of : Fn := denOf 4 d_many_of
noncomputable def F_signs_of_1 : FI := (iRange1 (mCons (mVar 2) mNil))
noncomputable def t_signs_of_1 : FG := (gN 4)
noncomputable def b_signs_of_1 : FS := (mSeq (mAsg (mBlt divmodD (mCons (mVar 0) (mCons (mBlt lenD (mCons (mVar 1) mNil)) mNil))) (gT 2 (gsC (gN 0) (gsC (gN 5) gs0))))
  (mExpr (mApp (mVar 3) (mBin ixA (mVar 1) (mVar 5)))))
noncomputable def d_signs_of : FS := (mSeq (mAsg (mLstM mNil) (gN 3))
  (mSeq (mFor F_signs_of_1 t_signs_of_1 b_signs_of_1)
  (mRet (mBlt tupleD (mCons (mRev (mVar 3)) mNil)))))
noncomputable def g_signs_of : Fn := denOf 6 d_signs_of
noncomputable def cF_ones_of_1 : FI := (iSeq (mVar 1))
noncomputable def ct_ones_of_1 : FG := (gN 3)
noncomputable def ci_ones_of_1 : FT := mYes
noncomputable def ce_ones_of_1 : FE := (mBin addD (mVar 3) (mK (.int 1)))
noncomputable def F_ones_of_1 : FI := (iRange1 (mCons (mVar 0) mNil))
noncomputable def t_ones_of_1 : FG := (gN 2)
noncomputable def b_ones_of_1 : FS := (mAsg (mBin addD (mVar 1) (mComp cF_ones_of_1 [3] ct_ones_of_1 ci_ones_of_1 ce_ones_of_1)) (gN 1))
noncomputable def d_ones_of : FS := (mSeq (mAsg (mLst (mCons (mK (.int 0)) mNil)) (gN 1))
  (mSeq (mFor F_ones_of_1 t_ones_of_1 b_ones_of_1)
  (mRet (mVar 1))))
noncomputable def g_ones_of : Fn := denOf 4 d_ones_of
noncomputable def d_reduced : FS := (mSeq (mAsg (mBlt gcdD (mCons (mVar 0) (mCons (mVar 1) mNil))) (gN 2))
  (mRet (mTup (mCons (mBin divD (mVar 0) (mVar 2)) (mCons (mBin divD (mVar 1) (mVar 2)) mNil)))))
noncomputable def g_reduced : Fn := denOf 3 d_reduced
noncomputable def d_need_pair : FS := (mSeq (mExpr (mCall (g_need_rule) (mCons (mVar 0) mNil)))
  (mSeq (mExpr (mCall (g_need_rule) (mCons (mVar 1) mNil)))
  (mIfS (mNot (mTest (mCall (g_is_int_within) (mCons (mVar 2) (mCons (mK (.int 0)) (mCons (mK (.int 6)) mNil)))))) mStuck mNext)))
noncomputable def g_need_pair : Fn := denOf 3 d_need_pair
noncomputable def cF_indexes_beside_1 : FI := (iRange1 (mCons (mBin mulD (mBlt lenD (mCons (mVar 5) mNil)) (mVar 8)) mNil))
noncomputable def ct_indexes_beside_1 : FG := (gN 9)
noncomputable def ci_indexes_beside_1 : FT := mYes
noncomputable def ce_indexes_beside_1 : FE := (mTup (mCons (mBin ixA (mVar 3) (mBin ixA (mVar 5) (mBin modD (mBin divD (mVar 9) (mVar 8)) (mVar 6)))) (mCons (mBin ixA (mVar 4) (mBin ixA (mVar 5) (mBin modD (mVar 9) (mVar 7)))) mNil)))
noncomputable def d_indexes_beside : FS := (mSeq (mAsg (mTup (mCons (mCall (g_indexes_by_ones) (mCons (mVar 0) mNil)) (mCons (mCall (g_indexes_by_ones) (mCons (mVar 1) mNil)) mNil))) (gT 2 (gsC (gN 3) (gsC (gN 4) gs0))))
  (mSeq (mAsg (mCall (g_ones_of) (mCons (mBlt max2D (mCons (mBlt lenD (mCons (mVar 0) mNil)) (mCons (mBlt lenD (mCons (mVar 1) mNil)) mNil))) mNil)) (gN 5))
  (mSeq (mAsg (mTup (mCons (mCall (g_many_of) (mCons (mK (.int 2)) (mCons (mBlt lenD (mCons (mVar 0) mNil)) mNil))) (mCons (mCall (g_many_of) (mCons (mK (.int 2)) (mCons (mBlt lenD (mCons (mVar 1) mNil)) mNil))) mNil))) (gT 2 (gsC (gN 6) (gsC (gN 7) gs0))))
  (mSeq (mAsg (mCall (g_many_of) (mCons (mK (.int 2)) (mCons (mVar 2) mNil))) (gN 8))
  (mRet (mComp cF_indexes_beside_1 [9] ct_indexes_beside_1 ci_indexes_beside_1 ce_indexes_beside_1))))))
noncomputable def g_indexes_beside : Fn := denOf 10 d_indexes_beside
noncomputable def F_above_row_1 : FI := (iEnum1 (mCons (mCall (g_indexes_beside) (mCons (mVar 0) (mCons (mVar 1) (mCons (mVar 2) mNil)))) mNil))
noncomputable def t_above_row_1 : FG := (gT 2 (gsC (gN 4) (gsC (gT 2 (gsC (gN 5) (gsC (gN 6) gs0))) gs0)))
noncomputable def b_above_row_1 : FS := (mIfS (mTest (mBin gtD (mVar 5) (mVar 6))) (mRet (mCall (g_signs_of) (mCons (mVar 4) (mCons (mK (.tup [.int 0, .int 1])) (mCons (mVar 3) mNil))))) mNext)
noncomputable def d_above_row : FS := (mSeq (mExpr (mCall (g_need_pair) (mCons (mVar 0) (mCons (mVar 1) (mCons (mVar 2) mNil)))))
  (mSeq (mAsg (mBin addD (mBlt max2D (mCons (mBlt lenD (mCons (mVar 0) mNil)) (mCons (mBlt lenD (mCons (mVar 1) mNil)) mNil))) (mVar 2)) (gN 3))
  (mSeq (mFor F_above_row_1 t_above_row_1 b_above_row_1)
  (mRet (mK .non)))))
noncomputable def g_above_row : Fn := denOf 7 d_above_row
noncomputable def d_never_above : FS := (mRet (mBin isD (mCall g_above_row (mCons (mVar 0) (mCons (mVar 1) (mCons (mVar 2) mNil)))) (mK .non)))
noncomputable def g_never_above : Fn := denOf 3 d_never_above
noncomputable def d_is_less : FS := (mRet (mBin ltD (mBin mulD (mBin ixA (mVar 0) (mK (.int 0))) (mBin ixA (mVar 1) (mK (.int 1)))) (mBin mulD (mBin ixA (mVar 1) (mK (.int 0))) (mBin ixA (mVar 0) (mK (.int 1))))))
noncomputable def g_is_less : Fn := denOf 2 d_is_less
noncomputable def F_suits_1 : FI := (iSeq (mBlt sortedSetP (mCons (mCall (g_indexes_beside) (mCons (mVar 0) (mCons (mVar 1) (mCons (mVar 2) mNil)))) mNil)))
noncomputable def t_suits_1 : FG := (gT 2 (gsC (gN 5) (gsC (gN 6) gs0)))
noncomputable def b_suits_1 : FS := (mSeq (mIfS (mAnd (mTest (mBin eqD (mVar 6) (mK (.int 0)))) (mTest (mBin ltD (mVar 5) (mK (.int 0))))) (mRet (mK .non)) mNext)
  (mSeq (mIfS (mTest (mBin gtD (mVar 6) (mK (.int 0)))) (mSeq (mAsg (mCall (g_reduced) (mCons (mVar 5) (mCons (mVar 6) mNil))) (gN 7))
  (mIfS (mOr (mTest (mBin isD (mVar 4) (mK .non))) (mTest (mCall (g_is_less) (mCons (mVar 7) (mCons (mVar 4) mNil))))) (mAsg (mVar 7) (gN 4)) mNext)) mNext)
  (mIfS (mTest (mBin ltD (mVar 6) (mK (.int 0)))) (mSeq (mAsg (mCall (g_reduced) (mCons (mUn negD (mVar 5)) (mCons (mUn negD (mVar 6)) mNil))) (gN 7))
  (mIfS (mOr (mTest (mBin isD (mVar 3) (mK .non))) (mTest (mCall (g_is_less) (mCons (mVar 3) (mCons (mVar 7) mNil))))) (mAsg (mVar 7) (gN 3)) mNext)) mNext)))
noncomputable def d_suits : FS := (mSeq (mExpr (mCall (g_need_pair) (mCons (mVar 0) (mCons (mVar 1) (mCons (mVar 2) mNil)))))
  (mSeq (mAsg (mTup (mCons (mK .non) (mCons (mK .non) mNil))) (gT 2 (gsC (gN 3) (gsC (gN 4) gs0))))
  (mSeq (mFor F_suits_1 t_suits_1 b_suits_1)
  (mSeq (mIfS (mAnd (mTest (mBin isntD (mVar 3) (mK .non))) (mAnd (mTest (mBin isntD (mVar 4) (mK .non))) (mTest (mCall (g_is_less) (mCons (mVar 4) (mCons (mVar 3) mNil)))))) (mRet (mK .non)) mNext)
  (mRet (mTup (mCons (mVar 3) (mCons (mVar 4) mNil))))))))
noncomputable def g_suits : Fn := denOf 8 d_suits
noncomputable def cF__law_begun_1 : FI := (iSeq (mVar 2))
noncomputable def ct__law_begun_1 : FG := (gN 5)
noncomputable def ci__law_begun_1 : FT := (mTest (mBin geD (mVar 5) (mBin powD (mK (.int 10)) (mK (.int 18)))))
noncomputable def ce__law_begun_1 : FE := (mVar 5)
noncomputable def F__law_begun_1 : FI := (iSeq (mVar 2))
noncomputable def t__law_begun_1 : FG := (gN 5)
noncomputable def b__law_begun_1 : FS := (mAsg (mBin modD (mBlt intD (mCons (mBin addD (mBin mulD (mVar 4) (mK (.int 48271))) (mVar 5)) mNil)) (mK (.int 2147483647))) (gN 4))
noncomputable def d__law_begun : FS := (mSeq (mAsg (mBin addD (mSl slA (mVar 0) (mPart (mVar 1)) mNoPart) (mSl slA (mVar 0) mNoPart (mPart (mVar 1)))) (gN 2))
  (mSeq (mAsg (mComp cF__law_begun_1 [5] ct__law_begun_1 ci__law_begun_1 ce__law_begun_1) (gN 3))
  (mSeq (mAsg (mBin addD (mK (.int 103)) (mVar 1)) (gN 4))
  (mSeq (mFor F__law_begun_1 t__law_begun_1 b__law_begun_1)
  (mRet (mDctM [((mK (.str "left")), (mIf (mTest (mBin neD (mVar 3) (mLst mNil))) (mBin ixA (mVar 3) (mK (.int 0))) (mK (.int 0)))), ((mK (.str "seed")), (mVar 4)), ((mK (.str "cells")), (mBin addD (mVar 2) (mLst (mCons (mBin addD (mBin mulD (mK (.int 37)) (mVar 1)) (mK (.int 11))) mNil)))), ((mK (.str "spot")), (mK (.int 0)))]))))))
noncomputable def g__law_begun : Fn := denOf 6 d__law_begun
noncomputable def d__law_draw : FS := (mSeq (mIfS (mTest (mBin gtD (mBin ixA (mVar 0) (mK (.str "left"))) (mK (.int 0)))) (mSeq (mAsg (mBin modD (mBlt intD (mCons (mBin ixA (mVar 0) (mK (.str "left"))) mNil)) (mVar 1)) (gN 2))
  (mSeq (mDPut (mVar 0) (mK (.str "left")) (mBin divD (mBin ixA (mVar 0) (mK (.str "left"))) (mVar 1)))
  (mRet (mVar 2)))) mNext)
  (mSeq (mAsg (mBin ixA (mVar 0) (mK (.str "spot"))) (gN 3))
  (mSeq (mDPut (mVar 0) (mK (.str "spot")) (mBin addD (mVar 3) (mK (.int 1))))
  (mSeq (mPar 4 5 (mCons (mBin ixA (mVar 0) (mK (.str "cells"))) (mCons (mBin addD (mBin ixA (mVar 0) (mK (.str "seed"))) (mBin mulD (mBin mulD (mK (.int 40503)) (mVar 3)) (mVar 3))) mNil)))
  (mSeq (mAsg (mBin ixA (mVar 4) (mBin modD (mBlt intD (mCons (mVar 3) mNil)) (mBlt lenD (mCons (mVar 4) mNil)))) (gN 6))
  (mSeq (mAsg (mBin modD (mBlt intD (mCons (mBin addD (mBin mulD (mVar 6) (mBin addD (mBin mulD (mK (.int 2)) (mVar 3)) (mK (.int 3)))) (mVar 5)) mNil)) (mK (.int 2147483647))) (gN 7))
  (mSeq (mAsg (mBin modD (mBlt intD (mCons (mBin addD (mBin addD (mBin mulD (mVar 7) (mVar 7)) (mBin mulD (mK (.int 69621)) (mVar 3))) (mBin ixA (mVar 0) (mK (.str "seed")))) mNil)) (mK (.int 2147483629))) (gN 7))
  (mRet (mBin modD (mBin divD (mBin modD (mBlt intD (mCons (mBin addD (mBin mulD (mVar 7) (mK (.int 48271))) (mVar 3)) mNil)) (mK (.int 2147483647))) (mK (.int 11))) (mVar 1))))))))))
noncomputable def g__law_draw : Fn := denOf 8 d__law_draw
noncomputable def d__law_of : FS := (mRet (mBin ixA (mVar 1) (mCall (g__law_draw) (mCons (mVar 0) (mCons (mBlt lenD (mCons (mVar 1) mNil)) mNil)))))
noncomputable def g__law_of : Fn := denOf 2 d__law_of
noncomputable def cF__law_tune_1 : FI := (iRange1 (mCons (mBin addD (mK (.int 1)) (mCall (g__law_draw) (mCons (mVar 0) (mCons (mVar 1) mNil)))) mNil))
noncomputable def ct__law_tune_1 : FG := (gN 2)
noncomputable def ci__law_tune_1 : FT := mYes
noncomputable def ce__law_tune_1 : FE := (mBin subD (mCall (g__law_draw) (mCons (mVar 0) (mCons (mK (.int 9)) mNil))) (mK (.int 3)))
noncomputable def d__law_tune : FS := (mRet (mBlt tupleD (mCons (mComp cF__law_tune_1 [2] ct__law_tune_1 ci__law_tune_1 ce__law_tune_1) mNil)))
noncomputable def g__law_tune : Fn := denOf 3 d__law_tune
noncomputable def cF__law_sum_1 : FI := (iZip2 (mCons (mVar 0) (mCons (mBlt sortedA (mCons (mVar 1) mNil)) mNil)))
noncomputable def ct__law_sum_1 : FG := (gT 2 (gsC (gN 2) (gsC (gN 3) gs0)))
noncomputable def ci__law_sum_1 : FT := mYes
noncomputable def ce__law_sum_1 : FE := (mBin mulD (mVar 2) (mVar 3))
noncomputable def d__law_sum : FS := (mRet (mBlt sumA (mCons (mComp cF__law_sum_1 [2, 3] ct__law_sum_1 ci__law_sum_1 ce__law_sum_1) mNil)))
noncomputable def g__law_sum : Fn := denOf 4 d__law_sum
noncomputable def cF__law_all_1 : FI := (iSeq (mVar 0))
noncomputable def ct__law_all_1 : FG := (gN 6)
noncomputable def ci__law_all_1 : FT := mYes
noncomputable def ce__law_all_1 : FE := (mBin addD (mVar 5) (mTup (mCons (mVar 6) mNil)))
noncomputable def F__law_all_1 : FI := (iSeq (mVar 2))
noncomputable def t__law_all_1 : FG := (gN 5)
noncomputable def b__law_all_1 : FS := (mAsg (mBin addD (mVar 4) (mComp cF__law_all_1 [6] ct__law_all_1 ci__law_all_1 ce__law_all_1)) (gN 4))
noncomputable def F__law_all_2 : FI := (iRange1 (mCons (mVar 1) mNil))
noncomputable def t__law_all_2 : FG := (gN 3)
noncomputable def b__law_all_2 : FS := (mSeq (mAsg (mLst mNil) (gN 4))
  (mSeq (mFor F__law_all_1 t__law_all_1 b__law_all_1)
  (mAsg (mVar 4) (gN 2))))
noncomputable def d__law_all : FS := (mSeq (mAsg (mLst (mCons (mTup mNil) mNil)) (gN 2))
  (mSeq (mFor F__law_all_2 t__law_all_2 b__law_all_2)
  (mRet (mVar 2))))
noncomputable def g__law_all : Fn := denOf 7 d__law_all
end MP.PG
set_option Elab.async false
set_option linter.all false
set_option maxRecDepth 100000
set_option maxHeartbeats 400000
namespace MP.PG
open PySem PySem.Spec PyProof.Rows L2 MP
@[simp] theorem isI_t {s : Sto} {i : Int} {b : Bool} : isD s (.int i) (.bl b) = some (.bl false) := rfl
@[simp] theorem isntI_t {s : Sto} {i : Int} {b : Bool} : isntD s (.int i) (.bl b) = some (.bl true) := rfl
theorem is_int_int (i : Int) (s : Sto) : g_is_int [.int i] s = .ok (.bl true) s := by
  simp [g_is_int, d_is_int]
theorem is_int_within_int (i a b : Int) (s : Sto) : g_is_int_within [.int i, .int a, .int b] s = .ok (.bl (decide (a ≤ i) && decide (i ≤ b))) s := by
  by_cases h : a ≤ i <;> simp [g_is_int_within, d_is_int_within, is_int_int, h]
theorem is_tuple_tup (ws : List Dv) (a b : Int) (s : Sto) : g_is_tuple [.tup ws, .int a, .int b] s = .ok (.bl (decide (a ≤ ws.length) && decide (ws.length ≤ b))) s := by
  by_cases h : a ≤ ws.length <;> simp [g_is_tuple, d_is_tuple, h]
theorem first_in (ns : List Int) (a b : Int) (s : Sto) (h : ∀ i ∈ ns, a ≤ i ∧ i ≤ b) : g_first_outside [tI ns, .int a, .int b] s = .ok .non s := by
  obtain ⟨ρ', s', h1, h2⟩ := for_ix (g := t_first_outside_1) (body := b_first_outside_1) (F := F_first_outside_1) (ρ := [some (tI ns), some (.int a), some (.int b), none, none]) (s := s) (s1 := s) (xs := enumD 0 (ns.map .int))
    (fun _ ρ s' => s' = s ∧ ∃ x y, ρ = [some (tI ns), some (.int a), some (.int b), x, y]) rfl ⟨rfl, _, _, rfl⟩ (fun i x ρ s' hx hJ => by
      obtain ⟨rfl, y, z, rfl⟩ := hJ
      obtain ⟨w, hw, rfl⟩ := enumD_get hx
      rw [List.getElem?_map] at hw
      cases hn : ns[i]? with
      | none => rw [hn] at hw; cases hw
      | some n =>
        rw [hn] at hw
        cases hw
        have hb := h n (List.mem_of_getElem? hn)
        refine ⟨[some (tI ns), some (.int a), some (.int b), some (.int (0 + i : Nat)), some (.int n)], [some (tI ns), some (.int a), some (.int b), some (.int (0 + i : Nat)), some (.int n)], s', rfl, .inl ?_, rfl, _, _, rfl⟩
        simp [b_first_outside_1, hb.1, hb.2])
  obtain ⟨rfl, x, y, rfl⟩ := h2
  simp [g_first_outside, d_first_outside, h1]
structure Rule (rs : List Int) : Prop where
  one : 1 ≤ rs.length
  six : rs.length ≤ 6
  ok : ∀ i ∈ rs, -20 ≤ i ∧ i ≤ 20
structure Row (ns : List Int) : Prop where
  most : ns.length ≤ 200
  ok : ∀ i ∈ ns, 0 ≤ i ∧ i ≤ 1000000
@[simp] theorem isnt_nn {s : Sto} : isntD s .non .non = some (.bl false) := rfl
@[simp] theorem is_nn {s : Sto} : isD s .non .non = some (.bl true) := rfl
theorem need_rule_ok {rs : List Int} (h : Rule rs) (s : Sto) : g_need_rule [tI rs] s = .ok (tI rs) s := by
  have h1 := h.one
  have h6 := h.six
  simp [g_need_rule, d_need_rule, is_tuple_tup, first_in rs _ _ _ h.ok, h6, show (1 : Int) ≤ rs.length by omega, show (rs.length : Int) ≤ 6 by omega]
end MP.PG
set_option Elab.async false
set_option linter.all false
set_option maxRecDepth 100000
set_option maxHeartbeats 400000
namespace MP.PG
open PySem PySem.Spec PyProof.Rows L2 MP
abbrev kCells : Key := .inr (Str.ofString "cells")
abbrev kLeft : Key := .inr (Str.ofString "left")
abbrev kSeed : Key := .inr (Str.ofString "seed")
abbrev kSpot : Key := .inr (Str.ofString "spot")
/-- the seed, told back from the cells -/
def sdOf (cs : List Int) : Int := cs.dropLast.foldl (fun sd c => (sd * 48271 + c) % 2147483647) (103 + (cs.getLastD 0 - 11) / 37)
abbrev Dc (cs : List Int) (l p : Int) : Ob := .dct [(kLeft, .int l), (kSeed, .int (sdOf cs)), (kCells, .lst (cs.map .int)), (kSpot, .int p)]
/-- the store: what stands ahead, the state of the draws, what came behind -/
def St (pre tl : Sto) (cs : List Int) (l p : Int) : Sto := pre ++ Dc cs l p :: tl
section
variable {pre tl : Sto} {cs : List Int} {l p l' p' : Int}
theorem St_at : (St pre tl cs l p)[pre.length]? = some (Dc cs l p) := by
  unfold St
  rw [List.getElem?_append_right (Nat.le_refl _), Nat.sub_self]
  rfl
theorem St_dct : dctOf (St pre tl cs l p) (.ref pre.length) = some [(kLeft, .int l), (kSeed, .int (sdOf cs)), (kCells, .lst (cs.map .int)), (kSpot, .int p)] := by
  unfold dctOf
  dsimp only
  rw [St_at]
theorem St_set : (St pre tl cs l p).set pre.length (Dc cs l' p') = St pre tl cs l' p' := by
  unfold St
  rw [List.set_append_right _ _ (Nat.le_refl _), Nat.sub_self]
  rfl
theorem St_len : (St pre tl cs l p).length = pre.length + (1 + tl.length) := by
  unfold St
  rw [List.length_append, List.length_cons]
  omega
theorem ix_dct {s : Sto} {n : Nat} {kws : List (Key × Dv)} {x : Str} (h : dctOf s (.ref n) = some kws) (hn : ∀ ws, s[n]? ≠ some (.lst ws)) : ixA s (.ref n) (.str x) = valD kws (.inr x) := by
  show (match (match ixL s (.ref n) (.str x) with | some w => some w | none => ixT s (.ref n) (.str x)) with | some w => some w | none => ixD s (.ref n) (.str x)) = _
  rw [show ixL s (.ref n) (.str x) = none from rfl, show ixT s (.ref n) (.str x) = none from rfl]
  dsimp only
  unfold ixD
  rw [h]
  rfl
theorem get_left : ixA (St pre tl cs l p) (.ref pre.length) (.str "left") = some (.int l) := (ix_dct St_dct fun ws h => by rw [St_at] at h; cases h).trans rfl
theorem get_spot : ixA (St pre tl cs l p) (.ref pre.length) (.str "spot") = some (.int p) := (ix_dct St_dct fun ws h => by rw [St_at] at h; cases h).trans rfl
theorem get_cells : ixA (St pre tl cs l p) (.ref pre.length) (.str "cells") = some (.lst (cs.map .int)) := (ix_dct St_dct fun ws h => by rw [St_at] at h; cases h).trans rfl
theorem get_seed : ixA (St pre tl cs l p) (.ref pre.length) (.str "seed") = some (.int (sdOf cs)) := (ix_dct St_dct fun ws h => by rw [St_at] at h; cases h).trans rfl
theorem put_ev {f h : FE} {ρ : Env} {s : Sto} {n : Nat} {x : Str} {v : Dv} {kws : List (Key × Dv)} (h0 : f ρ s = .ok (.ref n) s) (h2 : h ρ s = .ok v s) (h3 : s[n]? = some (.dct kws)) (hl : kws.length < lim) : mDPut f (mK (.str x)) h ρ s = .nx ρ (s.set n (.dct (putD kws (.inr x) v))) := by
  unfold mDPut
  rw [h2, then_ok, h0, then_ok, k_ev, then_ok]
  show (match s[n]? with
    | some (.dct kws) => if kws.length < lim then C.nx ρ (s.set n (.dct (putD kws (.inr x) v))) else .no
    | _ => .no) = _
  rw [h3]
  exact if_pos hl
theorem fin_St {w : Dv} : finC (St pre tl cs l p).length (.rt w (St pre tl cs l' p')) = .ok w (St pre tl cs l' p') := finW_le (by rw [St_len, St_len]; exact Nat.le_refl _)
end
theorem put_left {pre tl : Sto} {cs : List Int} {l p l' : Int} {ρ : Env} {f : FE} {i : Nat} (h0 : mVar 0 ρ (St pre tl cs l p) = .ok (.ref pre.length) (St pre tl cs l p)) (h : f ρ (St pre tl cs l p) = .ok (.int l') (St pre tl cs l p)) : mDPut (mVar 0) (mK (.str "left")) f ρ (St pre tl cs l p) = .nx ρ (St pre tl cs l' p) := by
  rw [put_ev h0 h St_at (by show 4 < lim; unfold lim; decide)]
  exact congrArg (C.nx ρ) St_set
theorem put_spot {pre tl : Sto} {cs : List Int} {l p p' : Int} {ρ : Env} {f : FE} {i : Nat} (h0 : mVar 0 ρ (St pre tl cs l p) = .ok (.ref pre.length) (St pre tl cs l p)) (h : f ρ (St pre tl cs l p) = .ok (.int p') (St pre tl cs l p)) : mDPut (mVar 0) (mK (.str "spot")) f ρ (St pre tl cs l p) = .nx ρ (St pre tl cs l p') := by
  rw [put_ev h0 h St_at (by show 4 < lim; unfold lim; decide)]
  exact congrArg (C.nx ρ) St_set
theorem mod_ii {s : Sto} {i j : Int} (h : 0 < j) : modD s (.int i) (.int j) = some (.int (i % j)) := if_pos h
theorem div_ii {s : Sto} {i j : Int} (h : 0 < j) (h2 : j < 1073741824) : divD s (.int i) (.int j) = some (.int (i / j)) := if_pos ⟨h, h2⟩
structure Drawn (many : Int) (pre tl : Sto) (cs : List Int) (p : Int) (rr : R Dv) : Prop where
  ok : ∃ d l' p', rr = .ok (.int d) (St pre tl cs l' p') ∧ 0 ≤ d ∧ d < many ∧ 0 ≤ p' ∧ p' ≤ p + 1
theorem draw_ok {pre tl : Sto} {cs : List Int} {l p many : Int} (hc : cs ≠ []) (hm : 0 < many) (hm2 : many < 1073741824) (hp : 0 ≤ p) (hp2 : p < 1000000) : Drawn many pre tl cs p (g__law_draw [.ref pre.length, .int many] (St pre tl cs l p)) := by
  let E (x2 x3 x4 x5 x6 x7 : Option Dv) : Env := [some (.ref pre.length), some (.int many), x2, x3, x4, x5, x6, x7]
  have e0 : startD 8 [.ref pre.length, .int many] = E none none none none none none := rfl
  have gl : ∀ (ρ : Env) (p : Int), mBin ixA (mVar 0) (mK (.str "left")) (some (.ref pre.length) :: ρ) (St pre tl cs l p) = .ok (.int l) (St pre tl cs l p) := fun ρ p => bin_v (x := .ref pre.length) rfl k_ev get_left
  have eT : mTest (mBin gtD (mBin ixA (mVar 0) (mK (.str "left"))) (mK (.int 0))) (E none none none none none none) (St pre tl cs l p) = .ok (decide (0 < l)) (St pre tl cs l p) := test_v (bin_v (gl _ _) k_ev rfl)
  by_cases hl : 0 < l
  · refine ⟨l % many, l / many, p, ?_, Int.emod_nonneg _ (by omega), Int.emod_lt_of_pos _ hm, hp, by omega⟩
    rw [decide_eq_true hl] at eT
    have e1 : mAsg (mBin modD (mBlt intD (mCons (mBin ixA (mVar 0) (mK (.str "left"))) mNil)) (mVar 1)) (gN 2) (E none none none none none none) (St pre tl cs l p) = .nx (E (some (.int (l % many))) none none none none none) (St pre tl cs l p) :=
      (asg_v (w := .int (l % many)) (bin_v (x := .int l) (y := .int many) (blt_v (cons_v (gl _ _) nil_ev) rfl) rfl (mod_ii hm))).trans rfl
    have e2 : mDPut (mVar 0) (mK (.str "left")) (mBin divD (mBin ixA (mVar 0) (mK (.str "left"))) (mVar 1)) (E (some (.int (l % many))) none none none none none) (St pre tl cs l p) = .nx (E (some (.int (l % many))) none none none none none) (St pre tl cs (l / many) p) :=
      put_left (i := 0) rfl (bin_v (x := .int l) (y := .int many) (gl _ _) rfl (div_ii hm hm2))
    unfold g__law_draw d__law_draw
    rw [den_ev, e0]
    refine (congrArg (finC _) ?_).trans (fin_St (w := .int (l % many)) (l := l) (p := p))
    rw [seq_ev, ifS_t eT, seq_ev, e1, seqK_nx, seq_ev, e2, seqK_nx, ret_v (w := .int (l % many)) rfl]
    rfl
  · rw [decide_eq_false hl] at eT
    have hcl : 0 < cs.length := List.length_pos_iff.mpr hc
    have hx : (p % (cs.length : Int)).toNat < cs.length := by
      have h1 := Int.emod_lt_of_pos p (show (0 : Int) < cs.length by omega)
      have h2 := Int.emod_nonneg p (show (cs.length : Int) ≠ 0 by omega)
      omega
    have hy : (((p % (cs.length : Int)).toNat : Nat) : Int) = p % (cs.length : Int) := Int.toNat_of_nonneg (Int.emod_nonneg _ (by omega))
    generalize hq : (p % (cs.length : Int)).toNat = q at hx hy
    let c := cs[q]
    let sd := sdOf cs
    let ad := sd + 40503 * p * p
    let b1 := (c * (2 * p + 3) + ad) % 2147483647
    let b2 := (b1 * b1 + 69621 * p + sd) % 2147483629
    have hb1 : 0 ≤ b1 ∧ b1 < 2147483647 := ⟨Int.emod_nonneg _ (by decide), Int.emod_lt_of_pos _ (by decide)⟩
    have hb2 : 0 ≤ b2 ∧ b2 < 2147483629 := ⟨Int.emod_nonneg _ (by decide), Int.emod_lt_of_pos _ (by decide)⟩
    refine ⟨(b2 * 48271 + p) % 2147483647 / 11 % many, l, p + 1, ?_, Int.emod_nonneg _ (by omega), Int.emod_lt_of_pos _ hm, by omega, by omega⟩
    have hcq : (cs.map Dv.int)[q]? = some (.int c) := by rw [List.getElem?_map, List.getElem?_eq_getElem hx]; rfl
    let C : Dv := .lst (cs.map .int)
    have e1 : mAsg (mBin ixA (mVar 0) (mK (.str "spot"))) (gN 3) (E none none none none none none) (St pre tl cs l p) = .nx (E none (some (.int p)) none none none none) (St pre tl cs l p) :=
      (asg_v (w := .int p) (bin_v (x := .ref pre.length) rfl k_ev get_spot)).trans rfl
    have e2 : mDPut (mVar 0) (mK (.str "spot")) (mBin addD (mVar 3) (mK (.int 1))) (E none (some (.int p)) none none none none) (St pre tl cs l p) = .nx (E none (some (.int p)) none none none none) (St pre tl cs l (p + 1)) :=
      put_spot (i := 0) rfl (bin_v (x := .int p) (y := .int 1) rfl k_ev add_ii)
    have e3 : mPar 4 5 (mCons (mBin ixA (mVar 0) (mK (.str "cells"))) (mCons (mBin addD (mBin ixA (mVar 0) (mK (.str "seed"))) (mBin mulD (mBin mulD (mK (.int 40503)) (mVar 3)) (mVar 3))) mNil)) (E none (some (.int p)) none none none none) (St pre tl cs l (p + 1)) = .nx (E none (some (.int p)) (some C) (some (.int ad)) none none) (St pre tl cs l (p + 1)) := by
      have f1 : mBin ixA (mVar 0) (mK (.str "cells")) (E none (some (.int p)) none none none none) (St pre tl cs l (p + 1)) = .ok C (St pre tl cs l (p + 1)) := bin_v (x := .ref pre.length) rfl k_ev get_cells
      have f2 : mBin addD (mBin ixA (mVar 0) (mK (.str "seed"))) (mBin mulD (mBin mulD (mK (.int 40503)) (mVar 3)) (mVar 3)) (E none (some (.int p)) none none none none) (St pre tl cs l (p + 1)) = .ok (.int ad) (St pre tl cs l (p + 1)) :=
        bin_v (x := .int sd) (y := .int (40503 * p * p)) (bin_v (x := .ref pre.length) rfl k_ev get_seed) (bin_v (x := .int (40503 * p)) (y := .int p) (bin_v (x := .int 40503) (y := .int p) k_ev rfl (mul_ii (cm_l ⟨by decide, by decide⟩))) rfl (mul_ii (cm_r ⟨by omega, by omega⟩))) add_ii
      rw [par_ev, f1, then_ok, f2, then_ok]
      rfl
    have e4 : mAsg (mBin ixA (mVar 4) (mBin modD (mBlt intD (mCons (mVar 3) mNil)) (mBlt lenD (mCons (mVar 4) mNil)))) (gN 6) (E none (some (.int p)) (some C) (some (.int ad)) none none) (St pre tl cs l (p + 1)) = .nx (E none (some (.int p)) (some C) (some (.int ad)) (some (.int c)) none) (St pre tl cs l (p + 1)) := by
      refine (asg_v (w := .int c) (bin_v (x := C) (y := .int ((q : Nat) : Int)) rfl (bin_v (x := .int p) (y := .int (cs.length : Int)) (blt_v (cons_v (w := .int p) rfl nil_ev) rfl) (blt_v (cons_v (w := C) rfl nil_ev) (by rw [len_lst, List.length_map])) (by rw [mod_ii (by omega), hy])) (ix_lst hcq))).trans rfl
    have e5 : mAsg (mBin modD (mBlt intD (mCons (mBin addD (mBin mulD (mVar 6) (mBin addD (mBin mulD (mK (.int 2)) (mVar 3)) (mK (.int 3)))) (mVar 5)) mNil)) (mK (.int 2147483647))) (gN 7) (E none (some (.int p)) (some C) (some (.int ad)) (some (.int c)) none) (St pre tl cs l (p + 1)) = .nx (E none (some (.int p)) (some C) (some (.int ad)) (some (.int c)) (some (.int b1))) (St pre tl cs l (p + 1)) :=
      (asg_v (w := .int b1) (bin_v (x := .int (c * (2 * p + 3) + ad)) (y := .int 2147483647) (blt_v (cons_v (bin_v (x := .int (c * (2 * p + 3))) (y := .int ad) (bin_v (x := .int c) (y := .int (2 * p + 3)) rfl (bin_v (x := .int (2 * p)) (y := .int 3) (bin_v (x := .int 2) (y := .int p) k_ev rfl (mul_ii (cm_l ⟨by decide, by decide⟩))) k_ev add_ii) (mul_ii (cm_r ⟨by omega, by omega⟩))) rfl add_ii) nil_ev) rfl) k_ev (mod_ii (by decide)))).trans rfl
    have e6 : mAsg (mBin modD (mBlt intD (mCons (mBin addD (mBin addD (mBin mulD (mVar 7) (mVar 7)) (mBin mulD (mK (.int 69621)) (mVar 3))) (mBin ixA (mVar 0) (mK (.str "seed")))) mNil)) (mK (.int 2147483629))) (gN 7) (E none (some (.int p)) (some C) (some (.int ad)) (some (.int c)) (some (.int b1))) (St pre tl cs l (p + 1)) = .nx (E none (some (.int p)) (some C) (some (.int ad)) (some (.int c)) (some (.int b2))) (St pre tl cs l (p + 1)) :=
      (asg_v (w := .int b2) (bin_v (x := .int (b1 * b1 + 69621 * p + sd)) (y := .int 2147483629) (blt_v (cons_v (bin_v (x := .int (b1 * b1 + 69621 * p)) (y := .int sd) (bin_v (x := .int (b1 * b1)) (y := .int (69621 * p)) (bin_v (x := .int b1) (y := .int b1) rfl rfl (mul_ii (cm_l ⟨by omega, by omega⟩))) (bin_v (x := .int 69621) (y := .int p) k_ev rfl (mul_ii (cm_l ⟨by decide, by decide⟩))) add_ii) (bin_v (x := .ref pre.length) rfl k_ev get_seed) add_ii) nil_ev) rfl) k_ev (mod_ii (by decide)))).trans rfl
    have e7 : mRet (mBin modD (mBin divD (mBin modD (mBlt intD (mCons (mBin addD (mBin mulD (mVar 7) (mK (.int 48271))) (mVar 3)) mNil)) (mK (.int 2147483647))) (mK (.int 11))) (mVar 1)) (E none (some (.int p)) (some C) (some (.int ad)) (some (.int c)) (some (.int b2))) (St pre tl cs l (p + 1)) = .rt (.int ((b2 * 48271 + p) % 2147483647 / 11 % many)) (St pre tl cs l (p + 1)) :=
      ret_v (bin_v (x := .int ((b2 * 48271 + p) % 2147483647 / 11)) (y := .int many) (bin_v (x := .int ((b2 * 48271 + p) % 2147483647)) (y := .int 11) (bin_v (x := .int (b2 * 48271 + p)) (y := .int 2147483647) (blt_v (cons_v (bin_v (x := .int (b2 * 48271)) (y := .int p) (bin_v (x := .int b2) (y := .int 48271) rfl k_ev (mul_ii (cm_l ⟨by omega, by omega⟩))) rfl add_ii) nil_ev) rfl) k_ev (mod_ii (by decide))) k_ev (div_ii (by decide) (by decide))) rfl (mod_ii hm))
    unfold g__law_draw d__law_draw
    rw [den_ev, e0]
    refine (congrArg (finC _) ?_).trans (fin_St (w := .int ((b2 * 48271 + p) % 2147483647 / 11 % many)) (l := l) (p := p))
    rw [seq_ev, ifS_f eT]
    exact seq_nx e1 (seq_nx e2 (seq_nx e3 (seq_nx e4 (seq_nx e5 (seq_nx e6 e7)))))
end MP.PG
set_option Elab.async false
set_option linter.all false
set_option maxRecDepth 100000
set_option maxHeartbeats 400000
namespace MP.PG
open PySem PySem.Spec PyProof.Rows L2 MP
theorem eq_ii {s : Sto} {a b : Int} : eqD s (.int a) (.int b) = some (.bl (decide (a = b))) := by
  have e : decide (V.int a = V.int b) = decide (a = b) := by
    by_cases h : a = b
    · rw [h, decide_eq_true rfl, decide_eq_true rfl]
    · rw [decide_eq_false h, decide_eq_false fun z => h (V.int.inj z)]
  show (some (decide (V.int a = V.int b))).map Dv.bl = _
  rw [e]
  rfl
/-- one of some -/
theorem law_of_ok {pre tl : Sto} {cs : List Int} {l p : Int} {ws : List Dv} (hc : cs ≠ []) (hp : 0 ≤ p) (hp2 : p < 1000000) (hw : ws ≠ []) (hw2 : ws.length < 1000) : ∃ w l' p', w ∈ ws ∧ g__law_of [.ref pre.length, .lst ws] (St pre tl cs l p) = .ok w (St pre tl cs l' p') ∧ 0 ≤ p' ∧ p' ≤ p + 1 := by
  have hl : 0 < ws.length := List.length_pos_iff.mpr hw
  obtain ⟨k, l2, p2, d2, k0, k6, p20, p21⟩ := (draw_ok (l := l) hc (show (0 : Int) < ws.length by omega) (by omega) hp hp2).ok
  obtain ⟨j, rfl⟩ := Int.eq_ofNat_of_zero_le k0
  have hj : j < ws.length := by omega
  refine ⟨ws[j], l2, p2, List.getElem_mem hj, ?_, p20, p21⟩
  have e0 : startD 2 [.ref pre.length, .lst ws] = [some (.ref pre.length), some (.lst ws)] := rfl
  unfold g__law_of d__law_of
  rw [den_ev, e0, ret_ev, bin_ev, var_s, var_0, bind_ok, call_ev, cons_ev, var_0, bind_ok, cons_ev, blt_ev, cons_ev, var_s, var_0, bind_ok, nil_ev, bind_ok, bind_ok, len_lst, of_some, bind_ok, nil_ev, bind_ok, bind_ok, bind_ok, d2, bind_ok, ix_lst (List.getElem?_eq_getElem hj), of_some, then_ok]
  exact fin_St
end MP.PG
set_option Elab.async false
set_option linter.all false
set_option maxRecDepth 100000
set_option maxHeartbeats 400000
namespace MP.PG
open PySem PySem.Spec PyProof.Rows L2 MP
structure Term where
  rs : List Int
  a : Int
  b : Int
abbrev tm (t : Term) : Dv := .tup [tI t.rs, .int t.a, .int t.b]
abbrev bi (o : Int) (ts : List Term) : Dv := .tup [.int o, .tup (ts.map tm)]
abbrev lens (ts : List Term) : List Int := ts.map fun t => (t.rs.length : Int)
def wd (ts : List Term) : Nat := (maxO 1 (lens ts)).toNat
variable {s : Sto} {o : Int} {ts : List Term} {ns : List Int}
def seg (rs ns : List Int) (e : Nat) : List Int := (ns.drop (e - rs.length)).take rs.length
/-- the index of the results that end at e -/
def ixe (rs ns : List Int) (e : Nat) : Int := dot rs (srt (seg rs ns e))
def ps (o : Int) (ts : List Term) (ns : List Int) (e : Nat) : Int := o * ns.getD e 0 + (ts.map fun t => t.a * ixe t.rs ns e + t.b * ixe t.rs ns (e + 1)).sum
end MP.PG
set_option Elab.async false
set_option linter.all false
set_option maxRecDepth 100000
set_option maxHeartbeats 400000
namespace MP.PG
open PySem PySem.Spec PyProof.Rows L2 MP
theorem cleans_int (n : Nat) : ∀ l : List Int, cleans n (l.map .int) = true
  | [] => rfl
  | _ :: l => by
    show (true && cleans n (l.map .int)) = true
    rw [cleans_int n l]
    rfl
theorem fz_ints {s : Sto} {n k : Nat} : ∀ l : List Int, mapO (fz (k + 1) s n) (l.map .int) = some (l.map .int)
  | [] => rfl
  | a :: l => by
    have e : fz (k + 1) s n (.int a) = some (.int a) := by
      unfold fz
      exact if_pos rfl
    rw [List.map_cons]
    unfold mapO
    rw [e, fz_ints l]
/-- the place behind all -/
def r1 (pre os : Sto) : Nat := pre.length + 1 + os.length
def ClP (pre os : Sto) : Prop := ∀ n, pre.all (Ob.clean n) = true ∧ os.all (Ob.clean n) = true
theorem St_clean {n : Nat} {pre os : Sto} {cs : List Int} {l p : Int} (ho : ClP pre os) : (St pre os cs l p).all (Ob.clean n) = true := by
  unfold St
  rw [List.all_append, (ho n).1]
  show (true && ((cleans n (cs.map .int) && (true && (true && true))) && os.all (Ob.clean n))) = true
  rw [cleans_int, (ho n).2]
  rfl
theorem St_app {pre os us : Sto} {cs : List Int} {l p : Int} : St pre (os ++ us) cs l p = St pre os cs l p ++ us := by
  unfold St
  rw [List.append_assoc]
  rfl
theorem r1_len {pre os : Sto} {cs : List Int} {l p : Int} : (St pre os cs l p).length = r1 pre os := by rw [St_len]; unfold r1; omega
theorem at_end {pre os : Sto} {cs : List Int} {l p : Int} {x : Ob} : (St pre (os ++ [x]) cs l p)[r1 pre os]? = some x := by
  rw [St_app, ← r1_len (cs := cs) (l := l) (p := p), List.getElem?_append_right (Nat.le_refl _), Nat.sub_self]
  rfl
theorem take_end {pre os : Sto} {cs : List Int} {l p : Int} {x : Ob} : (St pre (os ++ [x]) cs l p).take (r1 pre os) = St pre os cs l p := by
  rw [St_app, ← r1_len (cs := cs) (l := l) (p := p), List.take_left' rfl]
theorem len_end {pre os : Sto} {cs : List Int} {l p : Int} {x : Ob} : (St pre (os ++ [x]) cs l p).length = r1 pre os + 1 := by
  rw [St_app, List.length_append, r1_len]
  rfl
/-- what is the callee's own goes out as it stands -/
theorem fin_own {pre os : Sto} (ho : ClP pre os) {cs : List Int} {l p l' p' : Int} {ob : Ob} {w w' : Dv} (h : fz 4 (St pre (os ++ [ob]) cs l' p') (r1 pre os) w = some w') : finC (St pre os cs l p).length (.rt w (St pre (os ++ [ob]) cs l' p')) = .ok w' (St pre os cs l' p') := by
  rw [r1_len]
  show finW (r1 pre os) w (St pre (os ++ [ob]) cs l' p') = _
  unfold finW
  rw [if_neg (by rw [len_end]; omega), take_end, if_pos (St_clean ho), h]
theorem fin_lst {pre os : Sto} (ho : ClP pre os) {cs : List Int} {l p l' p' : Int} {ws : List Dv} (h : mapO (fz 3 (St pre (os ++ [.lst ws]) cs l' p') (r1 pre os)) ws = some ws) : finC (St pre os cs l p).length (.rt (.ref (r1 pre os)) (St pre (os ++ [.lst ws]) cs l' p')) = .ok (.lst ws) (St pre os cs l' p') := by
  refine fin_own ho ?_
  unfold fz
  rw [if_neg (by show ¬ (decide (r1 pre os < r1 pre os) = true); simp)]
  dsimp only
  rw [at_end]
  dsimp only
  rw [h]
  rfl
theorem app_v {f g : FE} {ρ : Env} {s s1 s2 : Sto} {n : Nat} {ws us : List Dv} {y : Dv} (h : f ρ s = .ok (.ref n) s1) (h1 : s1[n]? = some (.lst us)) (h2 : g ρ s1 = .ok y s2) (h3 : s2[n]? = some (.lst ws)) (hl : ws.length < lim) : mApp f g ρ s = .ok .non (s2.set n (.lst (ws ++ [y]))) := by
  unfold mApp
  rw [h, bind_ok]
  simp only [h1, h2, bind_ok, h3, if_pos hl]
variable {s : Sto} {o : Int} {ts : List Term} {ns : List Int}
abbrev ev (r : Nat) (o : Int) (ts : List Term) (ns : List Int) (e : Nat) (w : Int) (a b c d : Option Dv) : Env := [some (bi o ts), some (tI ns), some (.ref r), some (.int e), some (.int w), a, b, c, d]
end MP.PG
set_option Elab.async false
set_option linter.all false
set_option maxRecDepth 100000
set_option maxHeartbeats 400000
namespace MP.PG
open PySem PySem.Spec PyProof.Rows L2 MP
theorem gt_ii {s : Sto} {i j : Int} : gtD s (.int i) (.int j) = some (.bl (decide (j < i))) := rfl
theorem dot_abs {M : Nat} : ∀ {rs ls : List Int}, (∀ r ∈ rs, -20 ≤ r ∧ r ≤ 20) → (∀ n ∈ ls, n.natAbs ≤ M) → (dot rs ls).natAbs ≤ rs.length * (20 * M)
  | [], ls, _, _ => by rw [dot_nil]; exact Nat.zero_le _
  | a :: rs, [], _, _ => by rw [dot_nil']; exact Nat.zero_le _
  | a :: rs, b :: ls, h1, h2 => by
    have ih := dot_abs (M := M) (rs := rs) (ls := ls) (fun r hr => h1 r (List.mem_cons_of_mem _ hr)) fun n hn => h2 n (List.mem_cons_of_mem _ hn)
    have ha := h1 a List.mem_cons_self
    have hb := h2 b List.mem_cons_self
    have h3 : (a * b).natAbs ≤ 20 * M := by
      rw [Int.natAbs_mul]
      exact Nat.mul_le_mul (by omega) hb
    rw [dot_cons, List.length_cons, Nat.succ_mul]
    omega
variable {s : Sto} {o : Int} {ts : List Term} {ns : List Int}
theorem ixe_abs {rs : List Int} {e : Nat} (h : Rule rs) (hn : Row ns) : (ixe rs ns e).natAbs ≤ 120000000 := by
  have h6 := h.six
  have := dot_abs (M := 1000000) (rs := rs) (ls := srt (seg rs ns e)) h.ok fun n hm => by
    have hm : n ∈ ns := List.mem_of_mem_drop (List.mem_of_mem_take ((srt_perm (seg rs ns e)).mem_iff.mp hm))
    have := hn.ok n hm
    omega
  have h7 : rs.length * (20 * 1000000) ≤ 6 * (20 * 1000000) := Nat.mul_le_mul_right _ h6
  exact Nat.le_trans this h7
abbrev td (t : Term) : PyData := .tuple [.tuple (t.rs.map .int), .int t.a, .int t.b]
abbrev bd (o : Int) (ts : List Term) : PyData := .tuple [.int o, .tuple (ts.map td)]
end MP.PG
set_option Elab.async false
set_option linter.all false
set_option maxRecDepth 100000
set_option maxHeartbeats 400000
namespace MP.PG
open PySem PySem.Spec PyProof.Rows L2 MP
theorem pow_ii {s : Sto} {i j : Int} (h : 0 ≤ j ∧ j ≤ 1000000 ∧ i.natAbs < 2 ^ 64) : powD s (.int i) (.int j) = some (.int (i ^ j.toNat)) := if_pos h
theorem ge_ii {s : Sto} {i j : Int} : geD s (.int i) (.int j) = some (.bl (decide (j ≤ i))) := rfl
def cellsOf (ns : List Int) (k : Nat) : List Int := ns.drop k ++ ns.take k
/-- the seed behind the cells -/
def sdF (k : Int) (xs : List Int) : Int := xs.foldl (fun sd c => (sd * 48271 + c) % 2147483647) (103 + k)
theorem sdOf_eq {xs : List Int} {k : Int} : sdOf (xs ++ [37 * k + 11]) = sdF k xs := by
  unfold sdOf sdF
  rw [List.dropLast_concat, List.getLastD_concat]
  congr 1
  omega
theorem sdF_snoc {xs : List Int} {k c : Int} : sdF k (xs ++ [c]) = (sdF k xs * 48271 + c) % 2147483647 := by
  unfold sdF
  rw [List.foldl_append]
  rfl
theorem sdF_rng (k : Nat) (hk : k ≤ 63) (xs : List Int) : 0 ≤ sdF k xs ∧ sdF k xs < 2147483647 := by
  rcases List.eq_nil_or_concat xs with rfl | ⟨ys, c, rfl⟩
  · unfold sdF
    simp only [List.foldl_nil]
    omega
  · rw [List.concat_eq_append, sdF_snoc]
    exact ⟨Int.emod_nonneg _ (by decide), Int.emod_lt_of_pos _ (by decide)⟩
/-- what is begun with -/
theorem begun_ok {pre : Sto} {ns : List Int} {k : Nat} (hn : ns.length ≤ 63) (hk : k ≤ 63) : ∃ l, g__law_begun [.sq (ns.map .int), .int (k : Int)] pre = .ok (.ref pre.length) (St pre [] (cellsOf ns k ++ [37 * (k : Int) + 11]) l 0) := by
  let cs := cellsOf ns k
  have lc : cs.length ≤ 63 := by
    show (ns.drop k ++ ns.take k).length ≤ 63
    rw [List.length_append, List.length_drop, List.length_take]
    omega
  let E (x2 x3 x4 x5 : Option Dv) : Env := [some (.sq (ns.map .int)), some (.int (k : Int)), x2, x3, x4, x5]
  have e0 : startD 6 [.sq (ns.map .int), .int (k : Int)] = E none none none none := rfl
  have p1 : ∀ x2 x3 x4 x5, mPart (mVar 1) (E x2 x3 x4 x5) pre = .ok (some (k : Int)) pre := fun _ _ _ _ => part_v rfl
  have c1 : mBin addD (mSl slA (mVar 0) (mPart (mVar 1)) mNoPart) (mSl slA (mVar 0) mNoPart (mPart (mVar 1))) (E none none none none) pre = .ok (lI cs) pre := by
    refine bin_v (s1 := pre) (x := .lst ((ns.map Dv.int).drop k)) (y := .lst ((ns.map Dv.int).take k)) ?_ ?_ ?_
    · refine sl_v (x := .sq (ns.map .int)) (a := some (k : Int)) (b := none) rfl (p1 _ _ _ _) rfl ?_
      rw [← cut_from (ws := ns.map Dv.int) (k := k)]
      rfl
    · refine sl_v (x := .sq (ns.map .int)) (a := none) (b := some (k : Int)) rfl rfl (p1 _ _ _ _) ?_
      rw [← cut_to (ws := ns.map Dv.int) (k := k)]
      rfl
    · rw [add_lst (by rw [List.length_drop, List.length_take, List.length_map]; omega), ← List.map_drop, ← List.map_take, ← List.map_append]
      rfl
  have e1 := asg_v (i := 2) (ρ := E none none none none) c1
  have f1 : mComp cF__law_begun_1 [5] ct__law_begun_1 ci__law_begun_1 ce__law_begun_1 (E (some (lI cs)) none none none) pre = .ok (lI (cs.filter fun n => decide ((10 : Int) ^ 18 ≤ n))) pre := by
    refine comp_filt (e := .int) (φ := .int) (t := fun n => decide ((10 : Int) ^ 18 ≤ n)) rfl (by unfold lim; omega) fun n _ => ⟨E (some (lI cs)) none none (some (.int n)), rfl, ?_, fun _ => rfl⟩
    unfold ci__law_begun_1
    exact test_v (bin_v (x := .int n) (y := .int ((10 : Int) ^ 18)) rfl (bin_v (x := .int 10) (y := .int 18) k_ev k_ev (pow_ii ⟨by decide, by decide, by decide⟩)) ge_ii)
  obtain ⟨gs, hg⟩ : ∃ gs, gs = cs.filter fun n => decide ((10 : Int) ^ 18 ≤ n) := ⟨_, rfl⟩
  rw [← hg] at f1
  have e2 := asg_v (i := 3) (ρ := E (some (lI cs)) none none none) f1
  have e3 : mAsg (mBin addD (mK (.int 103)) (mVar 1)) (gN 4) (E (some (lI cs)) (some (lI gs)) none none) pre = .nx (E (some (lI cs)) (some (lI gs)) (some (.int (103 + (k : Int)))) none) pre :=
    asg_v (w := .int (103 + (k : Int))) (bin_v (x := .int 103) (y := .int (k : Int)) k_ev rfl add_ii)
  obtain ⟨ρ', s', e4, z, hρ, hs⟩ := for_ix (F := F__law_begun_1) (g := t__law_begun_1) (body := b__law_begun_1) (ρ := E (some (lI cs)) (some (lI gs)) (some (.int (103 + (k : Int)))) none) (s := pre) (s1 := pre) (xs := cs.map .int)
    (fun i ρ s => ∃ z, ρ = E (some (lI cs)) (some (lI gs)) (some (.int (sdF k (cs.take i)))) z ∧ s = pre) rfl ⟨none, rfl, rfl⟩ fun i x ρ s hx ⟨z, hr, hs⟩ => by
      subst hr hs
      rw [List.getElem?_map] at hx
      obtain ⟨c, hc, rfl⟩ := Option.map_eq_some_iff.mp hx
      refine ⟨E (some (lI cs)) (some (lI gs)) (some (.int (sdF k (cs.take i)))) (some (.int c)), E (some (lI cs)) (some (lI gs)) (some (.int (sdF k (cs.take (i + 1))))) (some (.int c)), s, rfl, .inl ?_, _, rfl, rfl⟩
      have ht : cs.take (i + 1) = cs.take i ++ [c] := by rw [List.take_succ, hc]; rfl
      have hr := sdF_rng k hk (cs.take i)
      rw [ht, sdF_snoc]
      unfold b__law_begun_1
      exact asg_v (w := .int ((sdF k (cs.take i) * 48271 + c) % 2147483647)) (bin_v (x := .int (sdF k (cs.take i) * 48271 + c)) (y := .int 2147483647) (blt_v (cons_v (bin_v (x := .int (sdF k (cs.take i) * 48271)) (y := .int c) (bin_v (x := .int (sdF k (cs.take i))) (y := .int 48271) rfl k_ev (mul_ii (cm_r ⟨by decide, by decide⟩))) rfl add_ii) nil_ev) rfl) k_ev (mod_ii (by decide)))
  rw [hρ, hs, List.length_map, List.take_length] at e4
  have eG : ∃ l, mIf (mTest (mBin neD (mVar 3) (mLst mNil))) (mBin ixA (mVar 3) (mK (.int 0))) (mK (.int 0)) (E (some (lI cs)) (some (lI gs)) (some (.int (sdF k cs))) z) pre = .ok (.int l) pre := by
    have et : mTest (mBin neD (mVar 3) (mLst mNil)) (E (some (lI cs)) (some (lI gs)) (some (.int (sdF k cs))) z) pre = .ok (!decide (gs = [])) pre := by
      refine test_v (bin_v (x := lI gs) (y := lI []) rfl ?_ ?_)
      · rfl
      · exact ne_lI
    rw [if_ev, et, bind_ok]
    cases gs with
    | nil => exact ⟨0, rfl⟩
    | cons a r =>
      refine ⟨a, ?_⟩
      rw [if_pos (by simp)]
      exact bin_v (x := .lst (.int a :: r.map .int)) (y := .int ((0 : Nat) : Int)) rfl k_ev (ix_lst (w := .int a) rfl)
  obtain ⟨l, eG⟩ := eG
  have eL : mBin addD (mVar 2) (mLst (mCons (mBin addD (mBin mulD (mK (.int 37)) (mVar 1)) (mK (.int 11))) mNil)) (E (some (lI cs)) (some (lI gs)) (some (.int (sdF k cs))) z) pre = .ok (lI (cs ++ [37 * (k : Int) + 11])) pre := by
    refine bin_v (x := .lst (cs.map .int)) (y := .lst [.int (37 * (k : Int) + 11)]) rfl ?_ ?_
    · rw [lst_ev, cons_v (w := .int (37 * (k : Int) + 11)) (bin_v (x := .int (37 * (k : Int))) (y := .int 11) (bin_v (x := .int 37) (y := .int (k : Int)) k_ev rfl (mul_ii (cm_l ⟨by decide, by decide⟩))) k_ev add_ii) nil_ev]
      rfl
    · rw [add_lst (by rw [List.length_map]; show cs.length + 1 ≤ _; omega), lI, List.map_append]
      rfl
  refine ⟨l, ?_⟩
  have eD : mDctM [((mK (.str "left")), (mIf (mTest (mBin neD (mVar 3) (mLst mNil))) (mBin ixA (mVar 3) (mK (.int 0))) (mK (.int 0)))), ((mK (.str "seed")), (mVar 4)), ((mK (.str "cells")), (mBin addD (mVar 2) (mLst (mCons (mBin addD (mBin mulD (mK (.int 37)) (mVar 1)) (mK (.int 11))) mNil)))), ((mK (.str "spot")), (mK (.int 0)))] (E (some (lI cs)) (some (lI gs)) (some (.int (sdF k cs))) z) pre = .ok (.ref pre.length) (St pre [] (cs ++ [37 * (k : Int) + 11]) l 0) := by
    have : mPairs [((mK (.str "left")), (mIf (mTest (mBin neD (mVar 3) (mLst mNil))) (mBin ixA (mVar 3) (mK (.int 0))) (mK (.int 0)))), ((mK (.str "seed")), (mVar 4)), ((mK (.str "cells")), (mBin addD (mVar 2) (mLst (mCons (mBin addD (mBin mulD (mK (.int 37)) (mVar 1)) (mK (.int 11))) mNil)))), ((mK (.str "spot")), (mK (.int 0)))] (E (some (lI cs)) (some (lI gs)) (some (.int (sdF k cs))) z) pre = .ok [(.str "left", .int l), (.str "seed", .int (sdF k cs)), (.str "cells", lI (cs ++ [37 * (k : Int) + 11])), (.str "spot", .int 0)] pre := by
      unfold mPairs
      rw [k_ev, bind_ok, eG, bind_ok]
      unfold mPairs
      rw [k_ev, bind_ok, show mVar 4 (E (some (lI cs)) (some (lI gs)) (some (.int (sdF k cs))) z) pre = .ok (.int (sdF k cs)) pre from rfl, bind_ok]
      unfold mPairs
      rw [k_ev, bind_ok, eL, bind_ok]
      unfold mPairs
      rw [k_ev, bind_ok, k_ev, bind_ok]
      rfl
    unfold mDctM
    rw [this]
    unfold St Dc
    rw [sdOf_eq]
    rfl
  unfold g__law_begun d__law_begun
  rw [den_ev, e0]
  refine (congrArg (finC _) (seq_nx e1 (seq_nx e2 (seq_nx e3 (seq_nx e4 (ret_v eD)))))).trans ?_
  show finW pre.length (.ref pre.length) (St pre [] (cs ++ [37 * (k : Int) + 11]) l 0) = _
  unfold finW
  have e : fz 4 (St pre [] (cs ++ [37 * (k : Int) + 11]) l 0) pre.length (.ref pre.length) = none := by
    unfold fz
    rw [if_neg (by show ¬ (decide (pre.length < pre.length) = true); simp)]
    dsimp only
    rw [St_at]
  split
  · rfl
  · split
    · rw [e]
    · rfl
end MP.PG
set_option Elab.async false
set_option linter.all false
set_option maxRecDepth 100000
set_option maxHeartbeats 400000
namespace MP.PG
open PySem PySem.Spec MP
open PyProof.Rows hiding St
open L2 hiding St r1
theorem lt_ii {s : Sto} {i j : Int} : ltD s (.int i) (.int j) = some (.bl (decide (i < j))) := rfl
theorem fin_one {s : Sto} {w : Dv} {ob : Ob} (hs : s.all (Ob.clean s.length) = true) (hw : clean s.length w = true) : finC s.length (.rt w (s ++ [ob])) = .ok w s := by
  show finW s.length w (s ++ [ob]) = _
  unfold finW
  have e1 : (s ++ [ob]).take s.length = s := by simp
  rw [if_neg (by rw [List.length_append, List.length_singleton]; omega), e1, if_pos hs]
  have e2 : fz 4 (s ++ [ob]) s.length w = some w := by
    unfold fz
    exact if_pos hw
  rw [e2]
theorem pl_bl {b : Bool} : Pl 1 0 (.bl b) (.bool b) := by cases b <;> exact ⟨rfl, by decide +kernel, by decide +kernel, by decide +kernel, by decide +kernel, by decide +kernel⟩
theorem pl_non : Pl 1 0 .non .none := ⟨rfl, by decide +kernel, by decide +kernel, by decide +kernel, by decide +kernel, by decide +kernel⟩
end MP.PG
set_option Elab.async false
set_option linter.all false
set_option maxRecDepth 100000
set_option maxHeartbeats 400000
namespace MP.PG
open PySem PySem.Spec MP
open PyProof.Rows hiding St
open L2 hiding St r1
/-- the ints f 0 .. f (n - 1) -/
def lf (n : Nat) (f : Nat → Int) : List Int := (List.range n).map f
section
variable {n m k b : Nat} {f g : Nat → Int} {i : Nat}
theorem lf_len : (lf n f).length = n := by unfold lf; rw [List.length_map, List.length_range]
theorem lf_get (h : i < n) : (lf n f)[i]? = some (f i) := by
  unfold lf
  rw [List.getElem?_map, List.getElem?_range h]
  rfl
theorem lf_ext (h : ∀ i, i < n → f i = g i) : lf n f = lf n g := List.map_congr_left fun i hi => h i (List.mem_range.mp hi)
theorem lf_of {l : List Int} (h : l.length = n) (hg : ∀ i, i < n → l[i]? = some (f i)) : l = lf n f := by
  refine List.ext_getElem? fun i => ?_
  by_cases hi : i < n
  · rw [hg i hi, lf_get hi]
  · rw [List.getElem?_eq_none (by omega), List.getElem?_eq_none (by rw [lf_len]; omega)]
theorem lf_map {φ : Int → Int} : (lf n f).map φ = lf n fun i => φ (f i) := by unfold lf; rw [List.map_map]; rfl
theorem lf_app : lf n f ++ lf m g = lf (n + m) fun i => if i < n then f i else g (i - n) := by
  refine lf_of (by rw [List.length_append, lf_len, lf_len]) fun i hi => ?_
  by_cases h : i < n
  · rw [List.getElem?_append_left (by rw [lf_len]; exact h), lf_get h, if_pos h]
  · rw [List.getElem?_append_right (by rw [lf_len]; omega), lf_len, lf_get (by omega), if_neg h]
theorem lf_succ : lf (n + 1) f = lf n f ++ [f n] := by unfold lf; rw [List.range_succ, List.map_append]; rfl
end
section
variable {s : Sto} {ws us : List Dv} {x y : Ob} {v w w' : Dv} {ρ : Env} {f g : FE}
def Cl (s : Sto) : Prop := ∀ n, s.all (Ob.clean n) = true
theorem at_s : (s ++ [x])[s.length]? = some x := by
  rw [List.getElem?_append_right (Nat.le_refl _), Nat.sub_self]
  rfl
theorem set_s : (s ++ [x]).set s.length y = s ++ [y] := by
  rw [List.set_append_right _ _ (Nat.le_refl _), Nat.sub_self]
  rfl
theorem fin_sn {us : Sto} (hs : Cl s) (h0 : us ≠ []) (h : fz 4 (s ++ us) s.length w = some w') : finC s.length (.rt w (s ++ us)) = .ok w' s := by
  show finW s.length w (s ++ us) = _
  have hl : us.length ≠ 0 := fun z => h0 (List.length_eq_zero_iff.mp z)
  unfold finW
  rw [if_neg (by rw [List.length_append]; omega), List.take_left' rfl, if_pos (hs _), h]
theorem fz_ref {us : Sto} {i k : Nat} (h : us[i]? = some (.lst ws)) (hc : mapO (fz k (s ++ us) s.length) ws = some us') : fz (k + 1) (s ++ us) s.length (.ref (s.length + i)) = some (.lst us') := by
  unfold fz
  rw [if_neg (by show ¬ (decide (s.length + i < s.length) = true); simp)]
  have e : (s ++ us)[s.length + i]? = some (.lst ws) := by
    rw [List.getElem?_append_right (by omega), Nat.add_sub_cancel_left, h]
  dsimp only
  rw [e]
  dsimp only
  rw [hc]
  rfl
theorem fz_ref0 {us : Sto} {k : Nat} {us' : List Dv} (h : us[0]? = some (.lst ws)) (hc : mapO (fz k (s ++ us) s.length) ws = some us') : fz (k + 1) (s ++ us) s.length (.ref s.length) = some (.lst us') := fz_ref (i := 0) h hc
theorem fin_I {acc : List Int} (hs : Cl s) : finC s.length (.rt (.ref s.length) (s ++ [.lst (acc.map .int)])) = .ok (lI acc) s := fin_sn hs (by simp) (fz_ref0 rfl (fz_ints acc))
theorem app_s (hl : ws.length < 1000000) (h : f ρ (s ++ [.lst ws]) = .ok (.ref s.length) (s ++ [.lst ws])) (hg : g ρ (s ++ [.lst ws]) = .ok v (s ++ [.lst ws])) : mApp f g ρ (s ++ [.lst ws]) = .ok .non (s ++ [.lst (ws ++ [v])]) := by
  rw [app_v h at_s hg at_s (by unfold lim; omega), set_s]
theorem ixA_list (h : lstOrSq s v = some ws) {i : Int} {w : Dv} (hi : atI ws i = some w) : ixA s v (.int i) = some w := by
  have e : ixL s v (.int i) = some w := by
    show (lstOrSq s v).bind (fun ws => atI ws i) = _
    rw [h]
    exact hi
  show orO (orO ixL ixT) ixD s v (.int i) = _
  unfold orO
  rw [e]
theorem ref_list {k : Nat} (h : s[k]? = some (.lst ws)) : lstOrSq s (.ref k) = some ws := by
  show (match s[k]? with | some (.lst ws) => some ws | _ => none) = _
  rw [h]
theorem atI_nat {i : Nat} (h : ws[i]? = some w) : atI ws (i : Int) = some w := by
  have hl := (List.getElem?_eq_some_iff.mp h).1
  unfold atI ixN
  rw [if_pos (by omega), if_pos (by omega)]
  show ws[(i : Int).toNat]? = _
  rw [Int.toNat_natCast]
  exact h
end
end MP.PG
set_option Elab.async false
set_option linter.all false
set_option maxRecDepth 100000
set_option maxHeartbeats 1000000
namespace MP.PG
open PySem PySem.Spec MP
open PyProof.Rows hiding St
open L2 hiding St r1
section
variable {s : Sto} {ρ : Env}
/-- the index of bits of which so many are ones -/
def idb (rs : List Int) (k : Nat) : Int := (rs.reverse.take k).sum
theorem idb_succ {rs : List Int} {k : Nat} {w : Int} (h : rs.reverse[k]? = some w) : idb rs (k + 1) = idb rs k + w := by
  unfold idb
  rw [List.take_succ, h, List.sum_append]
  show _ + (w + 0) = _
  omega
theorem told_ok {rs : List Int} (hs : Cl s) (hr : rs.length ≤ 1000) : g_indexes_by_ones [tI rs] s = .ok (lI (lf (rs.length + 1) (idb rs))) s := by
  have e0 : startD 3 [tI rs] = [some (tI rs), none, none] := rfl
  have e1 : mAsg (mLstM (mCons (mK (.int 0)) mNil)) (gN 1) [some (tI rs), none, none] s = .nx [some (tI rs), some (.ref s.length), none] (s ++ [.lst ((lf 1 (idb rs)).map .int)]) := by
    rw [asgN_ev, lstM_ev, cons_v k_ev nil_ev, bind_ok, if_pos (by show 1 ≤ lim; unfold lim; decide), then_ok]
    rfl
  have hF : F_indexes_by_ones_1 [some (tI rs), some (.ref s.length), none] (s ++ [.lst ((lf 1 (idb rs)).map .int)]) = .ok { ws := rs.reverse.map .int } (s ++ [.lst ((lf 1 (idb rs)).map .int)]) := by
    unfold F_indexes_by_ones_1 iSeq
    have : mRev (mVar 0) [some (tI rs), some (.ref s.length), none] (s ++ [.lst ((lf 1 (idb rs)).map .int)]) = .ok (.tup (rs.map .int).reverse) (s ++ [.lst ((lf 1 (idb rs)).map .int)]) := rfl
    rw [this, bind_ok, ← List.map_reverse]
    rfl
  obtain ⟨ρ', s', f1, rfl, z, rfl⟩ := for_ix (g := t_indexes_by_ones_1) (body := b_indexes_by_ones_1)
    (fun i ρ s' => s' = s ++ [.lst ((lf (i + 1) (idb rs)).map .int)] ∧ ∃ z, ρ = [some (tI rs), some (.ref s.length), z]) hF ⟨rfl, _, rfl⟩ fun i x ρ s' hx hJ => by
      obtain ⟨rfl, z, rfl⟩ := hJ
      rw [List.getElem?_map] at hx
      cases hq : rs.reverse[i]? with
      | none => rw [hq] at hx; cases hx
      | some w =>
        rw [hq] at hx
        cases hx
        have hi : i < rs.length := by have := (List.getElem?_eq_some_iff.mp hq).1; rwa [List.length_reverse] at this
        refine ⟨[some (tI rs), some (.ref s.length), some (.int w)], [some (tI rs), some (.ref s.length), some (.int w)], s ++ [.lst ((lf (i + 1 + 1) (idb rs)).map .int)], rfl, .inl ?_, rfl, _, rfl⟩
        unfold b_indexes_by_ones_1
        have hl : mBin ixA (mVar 1) (mUn negD (mK (.int 1))) [some (tI rs), some (.ref s.length), some (.int w)] (s ++ [.lst ((lf (i + 1) (idb rs)).map .int)]) = .ok (.int (idb rs i)) (s ++ [.lst ((lf (i + 1) (idb rs)).map .int)]) := by
          refine bin_v (x := .ref s.length) (y := .int (-1)) rfl (un_v k_ev neg_ev) (ixA_list (ref_list at_s) ?_)
          rw [lf_succ, List.map_append]
          exact atI_last _ _
        rw [expr_v (app_s (v := .int (idb rs (i + 1))) (by rw [List.length_map, lf_len]; omega) rfl (bin_v hl (y := .int w) rfl (by rw [idb_succ hq]; exact add_ii))), lf_succ (n := i + 1), List.map_append]
        rfl
  rw [List.length_map, List.length_reverse] at f1
  unfold g_indexes_by_ones d_indexes_by_ones
  rw [den_ev, e0]
  refine fin_nx e1 (fin_nx f1 ?_)
  rw [ret_v (w := .ref s.length) rfl]
  exact fin_I hs
def pop : Nat → Nat
  | 0 => 0
  | n + 1 => (n + 1) % 2 + pop ((n + 1) / 2)
theorem pop_0 : pop 0 = 0 := by simp [pop]
theorem pop_eq (n : Nat) : pop n = n % 2 + pop (n / 2) := by
  cases n with
  | zero => simp [pop]
  | succ n => rw [pop]
theorem pop_top : ∀ (w : Nat) {n : Nat}, n < 2 ^ w → pop (2 ^ w + n) = pop n + 1
  | 0, n, h => by
    obtain rfl : n = 0 := by simpa using h
    simp [pop]
  | w + 1, n, h => by
    have e : 2 ^ (w + 1) = 2 * 2 ^ w := by rw [Nat.pow_succ, Nat.mul_comm]
    rw [pop_eq (2 ^ (w + 1) + n), pop_eq n, show (2 ^ (w + 1) + n) / 2 = 2 ^ w + n / 2 by omega, pop_top w (n := n / 2) (by omega)]
    omega
theorem pop_le : ∀ (w : Nat) {n : Nat}, n < 2 ^ w → pop n ≤ w
  | 0, n, h => by
    obtain rfl : n = 0 := by simpa using h
    rw [pop_0]
    exact Nat.le_refl _
  | w + 1, n, h => by
    have e : 2 ^ (w + 1) = 2 * 2 ^ w := by rw [Nat.pow_succ, Nat.mul_comm]
    rw [pop_eq n]
    have := pop_le w (n := n / 2) (by omega)
    omega
theorem ones_ok {w : Nat} (hw : w ≤ 12) : g_ones_of [.int (w : Int)] s = .ok (lI (lf (2 ^ w) fun i => pop i)) s := by
  have e0 : startD 4 [.int (w : Int)] = [some (.int w), none, none, none] := rfl
  have e1 : mAsg (mLst (mCons (mK (.int 0)) mNil)) (gN 1) [some (.int (w : Int)), none, none, none] s = .nx [some (.int (w : Int)), some (lI (lf (2 ^ 0) fun i => pop i)), none, none] s := by
    have h1 : lf (2 ^ 0) (fun i => (pop i : Int)) = [0] := by simp [lf, pop]
    rw [h1]
    exact (asg_v (lst_v (cons_v k_ev nil_ev) (by simp))).trans rfl
  have hF : F_ones_of_1 [some (.int (w : Int)), some (lI (lf (2 ^ 0) fun i => pop i)), none, none] s = .ok { ws := rng 0 w } s := by
    have := range1_ok (fa := mCons (mVar 0) mNil) (ρ := [some (.int (w : Int)), some (lI (lf (2 ^ 0) fun i => pop i)), none, none]) (s := s) (cons_v (w := .int (w : Int)) rfl nil_ev) (okR_s (by omega) (by omega))
    rw [Int.toNat_natCast] at this
    exact this
  obtain ⟨ρ', s', f1, rfl, z, z2, rfl⟩ := for_ix (g := t_ones_of_1) (body := b_ones_of_1)
    (fun i ρ s' => s' = s ∧ ∃ z z2, ρ = [some (.int (w : Int)), some (lI (lf (2 ^ i) fun i => pop i)), z, z2]) hF ⟨rfl, _, _, rfl⟩ fun i x ρ s' hx hJ => by
      obtain ⟨rfl, z, z2, rfl⟩ := hJ
      obtain ⟨hi, rfl⟩ := rng_get hx
      have hp : 2 ^ i ≤ 4096 := Nat.le_trans (Nat.pow_le_pow_right (by decide) (by omega : i ≤ 12)) (by decide)
      have hc : mComp cF_ones_of_1 [3] ct_ones_of_1 ci_ones_of_1 ce_ones_of_1 [some (.int (w : Int)), some (lI (lf (2 ^ i) fun i => pop i)), some (.int (0 + (i : Int))), z2] s' = .ok (lI ((lf (2 ^ i) fun i => (pop i : Int)).map (· + 1))) s' := by
        have := comp_mapA (vs := [3]) (g := ct_ones_of_1) (elt := ce_ones_of_1) (f := cF_ones_of_1) (ρ := [some (.int (w : Int)), some (lI (lf (2 ^ i) fun i => pop i)), some (.int (0 + (i : Int))), z2]) (s := s') (l := lf (2 ^ i) fun i => pop i) (e := .int) (fun a => .int (a + 1)) rfl (by rw [lf_len]; unfold lim; omega) fun a _ => ⟨_, rfl, bin_v (x := .int a) rfl k_ev add_ii⟩
        refine this.trans ?_
        unfold lI
        rw [List.map_map]
        rfl
      refine ⟨[some (.int (w : Int)), some (lI (lf (2 ^ i) fun i => pop i)), some (.int (0 + (i : Int))), z2], [some (.int (w : Int)), some (lI (lf (2 ^ (i + 1)) fun i => pop i)), some (.int (0 + (i : Int))), z2], s', rfl, .inl ?_, rfl, _, _, rfl⟩
      unfold b_ones_of_1
      refine (asg_v (bin_v (x := lI (lf (2 ^ i) fun i => pop i)) rfl hc (add_lst (by rw [List.length_map, List.length_map, List.length_map, lf_len]; omega)))).trans ?_
      rw [← List.map_append, lf_map, lf_app]
      have : lf (2 ^ i + 2 ^ i) (fun j => if j < 2 ^ i then (pop j : Int) else (pop (j - 2 ^ i) : Int) + 1) = lf (2 ^ (i + 1)) fun j => (pop j : Int) := by
        rw [Nat.pow_succ, Nat.mul_two]
        refine lf_ext fun j hj => ?_
        by_cases h : j < 2 ^ i
        · rw [if_pos h]
        · rw [if_neg h]
          have := pop_top i (n := j - 2 ^ i) (by omega)
          rw [show 2 ^ i + (j - 2 ^ i) = j by omega] at this
          rw [this]
          rfl
      rw [this]
      rfl
  rw [rng_len] at f1
  unfold g_ones_of d_ones_of
  rw [den_ev, e0]
  refine fin_nx e1 (fin_nx f1 ?_)
  rw [ret_v (w := lI (lf (2 ^ w) fun i => pop i)) rfl]
  exact finC_rt
end
end MP.PG
set_option Elab.async false
set_option linter.all false
set_option maxRecDepth 100000
set_option maxHeartbeats 1000000
namespace MP.PG
open PySem PySem.Spec MP
open PyProof.Rows hiding St
open L2 hiding St r1
section
variable {s : Sto} {p : Nat → Int} {N w : Nat} {fl : Nat → Nat}
def digs (b w n : Nat) : List Nat := ((List.range w).map fun i => n / b ^ i % b).reverse
theorem signs_ok {sg : List Dv} {b n w : Nat} {f : Nat → Dv} (hs : Cl s) (hb : 2 ≤ b) (hb2 : b ≤ 1000) (hw : w ≤ 1000) (hl : sg.length = b) (hf : ∀ d, d < b → sg[d]? = some (f d)) (hc : ∀ d m, clean m (f d) = true) :
    g_signs_of [.int (n : Int), .tup sg, .int (w : Int)] s = .ok (.tup ((digs b w n).map f)) s := by
  let A : Nat → Sto := fun i => s ++ [.lst ((List.range i).map fun j => f (n / b ^ j % b))]
  have e0 : startD 6 [.int (n : Int), .tup sg, .int (w : Int)] = [some (.int (n : Int)), some (.tup sg), some (.int (w : Int)), none, none, none] := rfl
  have e1 : mAsg (mLstM mNil) (gN 3) [some (.int (n : Int)), some (.tup sg), some (.int (w : Int)), none, none, none] s = .nx [some (.int (n : Int)), some (.tup sg), some (.int (w : Int)), some (.ref s.length), none, none] (A 0) := by
    rw [asgN_ev, lstM_ev, nil_ev, bind_ok, if_pos (by show 0 ≤ lim; unfold lim; decide), then_ok]
    rfl
  have hF : F_signs_of_1 [some (.int (n : Int)), some (.tup sg), some (.int (w : Int)), some (.ref s.length), none, none] (A 0) = .ok { ws := rng 0 w } (A 0) := by
    have := range1_ok (fa := mCons (mVar 2) mNil) (ρ := [some (.int (n : Int)), some (.tup sg), some (.int (w : Int)), some (.ref s.length), none, none]) (s := A 0) (cons_v (w := .int (w : Int)) rfl nil_ev) (okR_s (by omega) (by omega))
    rw [Int.toNat_natCast] at this
    exact this
  obtain ⟨ρ', s', f1, rfl, z4, z5, rfl⟩ := for_ix (g := t_signs_of_1) (body := b_signs_of_1)
    (fun i ρ s' => s' = A i ∧ ∃ z4 z5, ρ = [some (.int ((n / b ^ i : Nat) : Int)), some (.tup sg), some (.int (w : Int)), some (.ref s.length), z4, z5]) hF ⟨rfl, _, _, by rw [Nat.pow_zero, Nat.div_one]⟩ fun i x ρ s' hx hJ => by
      obtain ⟨rfl, z4, z5, rfl⟩ := hJ
      obtain ⟨hi, rfl⟩ := rng_get hx
      refine ⟨[some (.int ((n / b ^ i : Nat) : Int)), some (.tup sg), some (.int (w : Int)), some (.ref s.length), some (.int (0 + (i : Int))), z5], [some (.int ((n / b ^ (i + 1) : Nat) : Int)), some (.tup sg), some (.int (w : Int)), some (.ref s.length), some (.int (0 + (i : Int))), some (.int ((n / b ^ i % b : Nat) : Int))], A (i + 1), rfl, .inl ?_, rfl, _, _, rfl⟩
      unfold b_signs_of_1
      have c1 : mAsg (mBlt divmodD (mCons (mVar 0) (mCons (mBlt lenD (mCons (mVar 1) mNil)) mNil))) (gT 2 (gsC (gN 0) (gsC (gN 5) gs0))) [some (.int ((n / b ^ i : Nat) : Int)), some (.tup sg), some (.int (w : Int)), some (.ref s.length), some (.int (0 + (i : Int))), z5] (A i) = .nx [some (.int ((n / b ^ (i + 1) : Nat) : Int)), some (.tup sg), some (.int (w : Int)), some (.ref s.length), some (.int (0 + (i : Int))), some (.int ((n / b ^ i % b : Nat) : Int))] (A i) := by
        refine asg_gv (w := .tup [.int ((n / b ^ (i + 1) : Nat) : Int), .int ((n / b ^ i % b : Nat) : Int)]) (blt_v (cons_v (w := .int ((n / b ^ i : Nat) : Int)) rfl (cons_v (w := .int (b : Int)) (blt_v (cons_v (w := .tup sg) rfl nil_ev) (by rw [len_tup, hl])) nil_ev)) ?_) rfl
        show (if 0 < (b : Int) ∧ (b : Int) < 1073741824 then some (Dv.tup [.int (((n / b ^ i : Nat) : Int) / (b : Int)), .int (((n / b ^ i : Nat) : Int) % (b : Int))]) else none) = _
        rw [if_pos ⟨by omega, by omega⟩, Nat.pow_succ, ← Nat.div_div_eq_div_mul]
        rfl
      refine seq_nx c1 ?_
      have hd : n / b ^ i % b < b := Nat.mod_lt _ (by omega)
      rw [expr_v (app_s (v := f (n / b ^ i % b)) (by rw [List.length_map, List.length_range]; omega) rfl (bin_v (x := .tup sg) (y := .int ((n / b ^ i % b : Nat) : Int)) rfl rfl (ix_tup (hf _ hd))))]
      show C.nx _ _ = C.nx _ (s ++ [.lst ((List.range (i + 1)).map fun j => f (n / b ^ j % b))])
      rw [List.range_succ, List.map_append]
      rfl
  rw [rng_len] at f1
  unfold g_signs_of d_signs_of
  rw [den_ev, e0]
  refine fin_nx e1 (fin_nx f1 ?_)
  have hr : mBlt tupleD (mCons (mRev (mVar 3)) mNil) [some (.int ((n / b ^ w : Nat) : Int)), some (.tup sg), some (.int (w : Int)), some (.ref s.length), z4, z5] (A w) = .ok (.tup ((digs b w n).map f)) (A w) := by
    refine blt_v (cons_v (w := .lst ((digs b w n).map f)) ?_ nil_ev) tuple_lst
    unfold mRev
    rw [show mVar 3 [some (.int ((n / b ^ w : Nat) : Int)), some (.tup sg), some (.int (w : Int)), some (.ref s.length), z4, z5] (A w) = .ok (.ref s.length) (A w) from rfl, bind_ok]
    have h1 : revD (A w) (.ref s.length) = some (.lst ((List.range w).map fun j => f (n / b ^ j % b)).reverse) := by
      have := ref_list (at_s (s := s) (x := .lst ((List.range w).map fun j => f (n / b ^ j % b))))
      simp [revD, A, this]
    rw [h1]
    have h2 : ((List.range w).map fun j => f (n / b ^ j % b)).reverse = (digs b w n).map f := by
      unfold digs
      rw [List.map_reverse, List.map_map]
      rfl
    rw [h2]
    rfl
  rw [ret_v hr]
  refine fin_one (hs _) ?_
  show cleans _ _ = true
  generalize digs b w n = l
  induction l with
  | nil => rfl
  | cons a l ih =>
    show (clean s.length (f a) && cleans s.length (l.map f)) = true
    rw [hc, ih]
    rfl
end
end MP.PG
set_option Elab.async false
set_option linter.all false
set_option maxRecDepth 100000
set_option maxHeartbeats 1000000
namespace MP.PG
open PySem PySem.Spec MP
open PyProof.Rows hiding St
open L2 hiding St r1
section
abbrev toI (bs : List Nat) : List Int := bs.map fun b : Nat => (b : Int)
def Bits01 (bs : List Nat) : Prop := ∀ b ∈ bs, b < 2
/-- the number of bits, the last one ahead -/
def rnum : List Nat → Nat
  | [] => 0
  | b :: r => 2 * rnum r + b
def num (bs : List Nat) : Nat := rnum bs.reverse
theorem rnum_lt : ∀ {r : List Nat}, Bits01 r → rnum r < 2 ^ r.length
  | [], _ => by decide
  | b :: r, h => by
    have := rnum_lt (r := r) fun c hc => h c (List.mem_cons_of_mem _ hc)
    have := h b List.mem_cons_self
    rw [List.length_cons, Nat.pow_succ]
    unfold rnum
    omega
theorem rnum_app : ∀ {r t : List Nat}, rnum (r ++ t) = rnum t * 2 ^ r.length + rnum r
  | [], t => by simp [rnum]
  | b :: r, t => by
    show 2 * rnum (r ++ t) + b = _
    rw [rnum_app, List.length_cons, Nat.pow_succ]
    show _ = _ + (2 * rnum r + b)
    rw [← Nat.mul_assoc, Nat.mul_add]
    omega
theorem num_app_mod {xs ys : List Nat} (h : Bits01 ys) : num (xs ++ ys) % 2 ^ ys.length = num ys := by
  unfold num
  rw [List.reverse_append, rnum_app, List.length_reverse, Nat.mul_add_mod_self_right, Nat.mod_eq_of_lt]
  have := rnum_lt (r := ys.reverse) fun c hc => h c (List.mem_reverse.mp hc)
  rwa [List.length_reverse] at this
theorem pop_rnum : ∀ {r : List Nat}, Bits01 r → pop (rnum r) = r.sum
  | [], _ => pop_0
  | b :: r, h => by
    have h0 := h b List.mem_cons_self
    unfold rnum
    rw [pop_eq, show (2 * rnum r + b) % 2 = b by omega, show (2 * rnum r + b) / 2 = rnum r by omega, pop_rnum fun c hc => h c (List.mem_cons_of_mem _ hc), List.sum_cons]
theorem pop_num {bs : List Nat} (h : Bits01 bs) : pop (num bs) = bs.sum := by
  unfold num
  rw [pop_rnum fun c hc => h c (List.mem_reverse.mp hc), List.sum_reverse]
theorem ins_0 : ∀ {z c : Nat}, ins 0 (List.replicate z (0 : Int) ++ List.replicate c 1) = List.replicate (z + 1) 0 ++ List.replicate c 1
  | 0, 0 => rfl
  | 0, c + 1 => by
    show ins 0 (1 :: List.replicate c 1) = _
    unfold ins
    rw [if_pos (by decide)]
    rfl
  | z + 1, c => by
    show ins 0 (0 :: (List.replicate z 0 ++ List.replicate c 1)) = _
    unfold ins
    rw [if_pos (by decide)]
    rfl
theorem ins_1 : ∀ {z c : Nat}, ins 1 (List.replicate z (0 : Int) ++ List.replicate c 1) = List.replicate z 0 ++ List.replicate (c + 1) 1
  | 0, 0 => rfl
  | 0, c + 1 => by
    show ins 1 (1 :: List.replicate c 1) = _
    unfold ins
    rw [if_pos (by decide)]
    rfl
  | z + 1, c => by
    show ins 1 (0 :: (List.replicate z 0 ++ List.replicate c 1)) = _
    unfold ins
    rw [if_neg (by decide), ins_1]
    rfl
theorem srt_bits : ∀ {bs : List Nat}, Bits01 bs → srt (toI bs) = List.replicate (bs.length - bs.sum) 0 ++ List.replicate bs.sum 1 ∧ bs.sum ≤ bs.length
  | [], _ => ⟨rfl, Nat.le_refl _⟩
  | b :: bs, h => by
    obtain ⟨h1, h2⟩ := srt_bits (bs := bs) fun c hc => h c (List.mem_cons_of_mem _ hc)
    have e : srt (toI (b :: bs)) = ins (b : Int) (srt (toI bs)) := rfl
    rw [e, h1, List.length_cons, List.sum_cons]
    rcases (by have := h b List.mem_cons_self; omega : b = 0 ∨ b = 1) with rfl | rfl
    · refine ⟨?_, by omega⟩
      show ins 0 _ = _
      rw [ins_0, show bs.length + 1 - (0 + bs.sum) = bs.length - bs.sum + 1 by omega, Nat.zero_add]
    · refine ⟨?_, by omega⟩
      show ins 1 _ = _
      rw [ins_1, show bs.length + 1 - (1 + bs.sum) = bs.length - bs.sum by omega, Nat.add_comm 1]
theorem dot_01 : ∀ {rs : List Int} {z c : Nat}, rs.length = z + c → dot rs (List.replicate z 0 ++ List.replicate c 1) = (rs.drop z).sum
  | [], z, c, h => by
    have hz : z = 0 := by simp at h; omega
    have hc : c = 0 := by simp at h; omega
    subst hz hc
    rfl
  | r :: rs, 0, c, h => by
    obtain ⟨c, rfl⟩ : ∃ d, c = d + 1 := ⟨c - 1, by simp at h; omega⟩
    have ih := dot_01 (rs := rs) (z := 0) (c := c) (by simp at h; omega)
    show dot (r :: rs) (1 :: List.replicate c 1) = _
    rw [dot_cons]
    have ih' : dot rs (List.replicate c 1) = rs.sum := ih
    rw [ih', List.drop_zero, List.sum_cons]
    omega
  | r :: rs, z + 1, c, h => by
    show dot (r :: rs) (0 :: (List.replicate z 0 ++ List.replicate c 1)) = _
    rw [dot_cons, dot_01 (by simp at h; omega), List.drop_succ_cons]
    omega
theorem idb_drop {rs : List Int} {c : Nat} (h : c ≤ rs.length) : idb rs c = (rs.drop (rs.length - c)).sum := by
  unfold idb
  rw [List.take_reverse, List.sum_reverse]
/-- the index of bits -/
theorem dot_bits {rs : List Int} {bs : List Nat} (h : Bits01 bs) (hl : bs.length = rs.length) : dot rs (srt (toI bs)) = idb rs (pop (num bs)) := by
  obtain ⟨h1, h2⟩ := srt_bits h
  rw [h1, dot_01 (by omega), pop_num h, idb_drop (by omega), hl]
variable {o : Int} {ts : List Term}
theorem bits_sub {bs cs : List Nat} (h : Bits01 bs) (hs : ∀ c ∈ cs, c ∈ bs) : Bits01 cs := fun c hc => h c (hs c hc)
theorem rnum_digs : ∀ (w n : Nat), rnum ((List.range w).map fun i => n / 2 ^ i % 2) = n % 2 ^ w
  | 0, n => by rw [Nat.pow_zero, Nat.mod_one]; rfl
  | w + 1, n => by
    rw [List.range_succ_eq_map, List.map_cons, List.map_map]
    unfold rnum
    have e : (List.range w).map ((fun i => n / 2 ^ i % 2) ∘ Nat.succ) = (List.range w).map fun i => n / 2 / 2 ^ i % 2 := List.map_congr_left fun i _ => by
      show n / 2 ^ (i + 1) % 2 = _
      rw [Nat.pow_succ, Nat.mul_comm, ← Nat.div_div_eq_div_mul]
    rw [e, rnum_digs w (n / 2), Nat.pow_zero, Nat.div_one, Nat.pow_succ, Nat.mul_comm (2 ^ w) 2, Nat.mod_mul]
    omega
theorem digs_len {b w n : Nat} : (digs b w n).length = w := by unfold digs; rw [List.length_reverse, List.length_map, List.length_range]
theorem digs_bits {w n : Nat} : Bits01 (digs 2 w n) := fun c hc => by
  unfold digs at hc
  obtain ⟨i, _, rfl⟩ := List.mem_map.mp (List.mem_reverse.mp hc)
  exact Nat.mod_lt _ (by decide)
theorem seg_toI {rs : List Int} {bs : List Nat} {e : Nat} : seg rs (toI bs) e = toI ((bs.drop (e - rs.length)).take rs.length) := by
  unfold seg
  simp only [toI, List.map_take, List.map_drop]
theorem ixe_bits {rs : List Int} {bs : List Nat} {e : Nat} (hb : Bits01 bs) (h1 : rs.length ≤ e) (h2 : e ≤ bs.length) : ixe rs (toI bs) e = idb rs (pop (num (bs.take e) % 2 ^ rs.length)) := by
  have hsub : Bits01 ((bs.drop (e - rs.length)).take rs.length) := bits_sub hb fun c hc => List.mem_of_mem_drop (List.mem_of_mem_take hc)
  have hl : ((bs.drop (e - rs.length)).take rs.length).length = rs.length := by rw [List.length_take, List.length_drop]; omega
  have ht : bs.take e = bs.take (e - rs.length) ++ (bs.drop (e - rs.length)).take rs.length := by
    have : e = (e - rs.length) + rs.length := by omega
    conv => lhs; rw [this]
    rw [List.take_add]
  unfold ixe
  rw [seg_toI, dot_bits hsub hl, ht]
  have := num_app_mod (xs := bs.take (e - rs.length)) hsub
  rw [hl] at this
  rw [this]
end
end MP.PG
set_option Elab.async false
set_option linter.all false
set_option maxRecDepth 100000
set_option maxHeartbeats 1000000
namespace MP.PG
open PySem PySem.Spec MP
open PyProof.Rows hiding St
open L2 hiding St r1
section
abbrev SL (L : List (Int × Int)) (f : Int × Int → Int) : Int := (L.map fun q => q.2 * f q).sum
theorem SL_mul {L : List (Int × Int)} {c : Int} {f : Int × Int → Int} : SL L (fun q => c * f q) = c * SL L f := by
  unfold SL
  rw [← sum_map_mul]
  congr 1
  exact List.map_congr_left fun q _ => Int.mul_left_comm _ _ _
variable {o : Int} {ts : List Term} {ns : List Int}
/-- the bits of a layer -/
def lay (lev : Int) (ns : List Int) : List Int := ns.map (at1 lev)
theorem ixe_lay {L : List (Int × Int)} {rs : List Int} {e : Nat} (hL : ∀ n ∈ ns, SL L (fun q => at1 q.1 n) = n) : SL L (fun q => ixe rs (lay q.1 ns) e) = ixe rs ns e := by
  have : SL L (fun q => ixe rs (lay q.1 ns) e) = (L.map fun p => p.2 * dot rs ((srt (seg rs ns e)).map (at1 p.1))).sum := by
    unfold SL ixe
    congr 1
    refine List.map_congr_left fun q _ => ?_
    dsimp only
    have : seg rs (lay q.1 ns) e = (seg rs ns e).map (at1 q.1) := by
      unfold seg lay
      rw [← List.map_drop, ← List.map_take]
    rw [this, srt_at1]
  rw [this]
  refine dot_levels fun n hn => hL n ?_
  exact List.mem_of_mem_drop (List.mem_of_mem_take ((srt_perm (seg rs ns e)).mem_iff.mp hn))
/-- all levels up to one, each by itself -/
def ul (M : Nat) : List (Int × Int) := (List.range M).map fun i : Nat => ((i : Int) + 1, 1)
theorem ul_succ {M : Nat} {f : Int × Int → Int} : SL (ul (M + 1)) f = SL (ul M) f + f ((M : Int) + 1, 1) := by
  unfold SL ul
  rw [List.range_succ, List.map_append, List.map_append, List.sum_append]
  show _ + (1 * f ((M : Int) + 1, 1) + 0) = _
  omega
theorem ul_val : ∀ {M : Nat} {n : Int}, 0 ≤ n → SL (ul M) (fun q => at1 q.1 n) = if n ≤ M then n else M
  | 0, n, h => by
    show (0 : Int) = _
    split <;> omega
  | M + 1, n, h => by
    rw [ul_succ, ul_val h]
    unfold at1
    dsimp only
    split <;> split <;> split <;> omega
variable {p : Nat → Int} {N w : Nat}
end
end MP.PG
set_option Elab.async false
set_option linter.all false
set_option maxRecDepth 100000
set_option maxHeartbeats 1000000
namespace MP.PG
open PySem PySem.Spec MP
open PyProof.Rows hiding St
open L2 hiding St r1
section
variable {s : Sto}
theorem many_ok {b w : Nat} (hb : b ≤ 100) (hw : w ≤ 100) : g_many_of [.int (b : Int), .int (w : Int)] s = .ok (.int ((b ^ w : Nat) : Int)) s := by
  have e0 : startD 4 [.int (b : Int), .int (w : Int)] = [some (.int (b : Int)), some (.int (w : Int)), none, none] := rfl
  have c1 : mAsg (mK (.int 1)) (gN 2) [some (.int (b : Int)), some (.int (w : Int)), none, none] s = .nx [some (.int (b : Int)), some (.int (w : Int)), some (.int ((b ^ 0 : Nat) : Int)), none] s := rfl
  obtain ⟨ρ', s', h1, ⟨x, rfl⟩, rfl⟩ := for_ix (F := F_many_of_1) (g := t_many_of_1) (body := b_many_of_1) (ρ := [some (.int (b : Int)), some (.int (w : Int)), some (.int ((b ^ 0 : Nat) : Int)), none]) (s := s) (xs := rng 0 w) (s1 := s)
    (fun i ρ s' => (∃ x, ρ = [some (.int (b : Int)), some (.int (w : Int)), some (.int ((b ^ i : Nat) : Int)), x]) ∧ s' = s) (by
      have := range1_ok (fa := mCons (mVar 1) mNil) (ρ := [some (.int (b : Int)), some (.int (w : Int)), some (.int ((b ^ 0 : Nat) : Int)), none]) (s := s) (j := (w : Int)) (cons_v (w := .int (w : Int)) rfl nil_ev) (okR_s (by omega) (by omega))
      exact this) ⟨⟨none, rfl⟩, rfl⟩ fun i x ρ s' hx hJ => by
      obtain ⟨⟨y, rfl⟩, rfl⟩ := hJ
      refine ⟨_, [some (.int (b : Int)), some (.int (w : Int)), some (.int ((b ^ (i + 1) : Nat) : Int)), some x], s', rfl, .inl ?_, ⟨_, rfl⟩, rfl⟩
      unfold b_many_of_1
      refine (asg_v (w := .int ((b ^ (i + 1) : Nat) : Int)) (bin_v (x := .int (b : Int)) (y := .int ((b ^ i : Nat) : Int)) rfl rfl ?_)).trans rfl
      rw [mul_ii (cm_l ⟨by omega, by omega⟩), Nat.pow_succ, Nat.mul_comm]
      rfl
  have hl : (rng 0 w).length = w := by rw [rng_ev, List.length_map, List.length_range]
  rw [hl] at h1
  unfold g_many_of d_many_of
  rw [den_ev, e0]
  refine fin_nx c1 (fin_nx h1 ?_)
  rw [ret_v (w := .int ((b ^ w : Nat) : Int)) rfl]
  exact finC_rt
/-- ints that go into a product -/
def Fit (rs : List Int) : Prop := rs.length ≤ 1000 ∧ ∀ r ∈ rs, -1000000 ≤ r ∧ r ≤ 1000000
theorem Fit.of {rs : List Int} (h : Rule rs) : Fit rs := ⟨by have := h.six; omega, fun r hr => by have := h.ok r hr; omega⟩
theorem law_sum_ok {rs ns : List Int} (h : Fit rs) (hl : ns.length ≤ 1000) : g__law_sum [tI rs, tI ns] s = .ok (.int (dot rs (srt ns))) s := by
  have e0 : startD 4 [tI rs, tI ns] = [some (tI rs), some (tI ns), none, none] := rfl
  have hF : cF__law_sum_1 [some (tI rs), some (tI ns), none, none] s = .ok { ws := (rs.zip (srt ns)).map fun p => .tup [.int p.1, .int p.2] } s := by
    rw [← zip_ints]
    have h1 : mCons (mVar 0) (mCons (mBlt sortedA (mCons (mVar 1) mNil)) mNil) [some (tI rs), some (tI ns), none, none] s = .ok [tI rs, lI (srt ns)] s := cons_v rfl (cons_v (blt_v (cons_v (w := tI ns) rfl nil_ev) sorted_TI) nil_ev)
    show iZip2 _ _ _ = _
    unfold iZip2
    rw [h1]
    rfl
  have c1 : mComp cF__law_sum_1 [2, 3] ct__law_sum_1 ci__law_sum_1 ce__law_sum_1 [some (tI rs), some (tI ns), none, none] s = .ok (lI ((rs.zip (srt ns)).map fun p => p.1 * p.2)) s := by
    have := comp_mapA (vs := [2, 3]) (g := ct__law_sum_1) (elt := ce__law_sum_1) (fun p : Int × Int => Dv.int (p.1 * p.2)) hF (by rw [List.length_zip]; have := h.1; unfold lim; omega) fun p hp => ⟨[some (tI rs), some (tI ns), some (.int p.1), some (.int p.2)], rfl, by
      have hb := h.2 p.1 (List.of_mem_zip hp).1
      exact bin_v (x := .int p.1) (y := .int p.2) rfl rfl (mul_ii (cm_l ⟨by omega, by omega⟩))⟩
    rw [lI, List.map_map]
    exact this
  unfold g__law_sum d__law_sum
  rw [den_ev, e0, ret_v (w := .int (dot rs (srt ns))) (blt_v (cons_v c1 nil_ev) (by
    rw [lI, sum_LI]
    rfl))]
  exact finC_rt
/-- all rows of so many marks -/
def allR (marks : List Int) : Nat → List (List Int)
  | 0 => [[]]
  | n + 1 => (allR marks n).flatMap fun r => marks.map fun m => r ++ [m]
theorem allR_len {marks : List Int} : ∀ {n : Nat} {r : List Int}, r ∈ allR marks n → r.length = n
  | 0, r, h => by rw [List.mem_singleton.mp h]; rfl
  | n + 1, r, h => by
    obtain ⟨q, hq, hr⟩ := List.mem_flatMap.mp h
    obtain ⟨m, _, rfl⟩ := List.mem_map.mp hr
    rw [List.length_append, allR_len hq]
    rfl
theorem sum_const {α : Type} {c : Nat} : ∀ l : List α, (l.map fun _ => c).sum = l.length * c
  | [] => by simp
  | _ :: l => by
    rw [List.map_cons, List.sum_cons, sum_const l, List.length_cons, Nat.succ_mul, Nat.add_comm]
theorem allR_count {marks : List Int} : ∀ n, (allR marks n).length = marks.length ^ n
  | 0 => rfl
  | n + 1 => by
    show ((allR marks n).flatMap fun r => marks.map fun m => r ++ [m]).length = _
    rw [List.length_flatMap, Nat.pow_succ, ← allR_count n]
    simp only [List.length_map]
    exact sum_const _
theorem law_all_ok {marks : List Int} {n : Nat} (hm : 1 ≤ marks.length) (hb : marks.length ^ n ≤ 100000) (hn : n ≤ 1000) (M : Dv) (hM : M = tI marks ∨ M = lI marks) : g__law_all [M, .int (n : Int)] s = .ok (.lst ((allR marks n).map tI)) s := by
  let E (x2 x3 x4 x5 x6 : Option Dv) : Env := [some M, some (.int (n : Int)), x2, x3, x4, x5, x6]
  have e0 : startD 7 [M, .int (n : Int)] = E none none none none none := rfl
  have c1 : mAsg (mLst (mCons (mTup mNil) mNil)) (gN 2) (E none none none none none) s = .nx (E (some (.lst ((allR marks 0).map tI))) none none none none) s := rfl
  have cnt : ∀ i, i ≤ n → (allR marks i).length ≤ 100000 := fun i hi => by
    rw [allR_count]
    exact Nat.le_trans (Nat.pow_le_pow_right hm hi) hb
  obtain ⟨ρ', s', f1, x3, x4, x5, x6, hr, hs⟩ := for_ix (F := F__law_all_2) (g := t__law_all_2) (body := b__law_all_2) (ρ := E (some (.lst ((allR marks 0).map tI))) none none none none) (s := s) (s1 := s) (xs := rng 0 n)
    (fun i ρ s' => ∃ x3 x4 x5 x6, ρ = E (some (.lst ((allR marks i).map tI))) x3 x4 x5 x6 ∧ s' = s) (range1_ok (j := (n : Int)) (cons_v (w := .int (n : Int)) rfl nil_ev) (okR_s (by omega) (by omega))) ⟨_, _, _, _, rfl, rfl⟩ fun i x ρ s' hx ⟨x3, x4, x5, x6, hr, hs⟩ => by
      subst hr hs
      obtain ⟨hi, rfl⟩ := rng_get hx
      have hi' : i < n := by simpa using hi
      let L : Nat → List (List Int) := fun j => ((allR marks i).take j).flatMap fun r => marks.map fun m => r ++ [m]
      have b1 : mAsg (mLst mNil) (gN 4) (E (some (.lst ((allR marks i).map tI))) (some (.int (0 + (i : Int)))) x4 x5 x6) s' = .nx (E (some (.lst ((allR marks i).map tI))) (some (.int (0 + (i : Int)))) (some (.lst ((L 0).map tI))) x5 x6) s' := rfl
      obtain ⟨ρ2, s2, g1, y5, y6, hr2, hs2⟩ := for_ix (F := F__law_all_1) (g := t__law_all_1) (body := b__law_all_1) (ρ := E (some (.lst ((allR marks i).map tI))) (some (.int (0 + (i : Int)))) (some (.lst ((L 0).map tI))) x5 x6) (s := s') (s1 := s') (xs := (allR marks i).map tI)
        (fun j ρ s2 => ∃ y5 y6, ρ = E (some (.lst ((allR marks i).map tI))) (some (.int (0 + (i : Int)))) (some (.lst ((L j).map tI))) y5 y6 ∧ s2 = s') rfl ⟨_, _, rfl, rfl⟩ fun j x ρ s2 hx ⟨y5, y6, hr, hs⟩ => by
          subst hr hs
          rw [List.getElem?_map] at hx
          obtain ⟨r, hr, rfl⟩ := Option.map_eq_some_iff.mp hx
          have hrm : r ∈ allR marks i := List.mem_of_getElem? hr
          have hrl := allR_len hrm
          have hL : L (j + 1) = L j ++ marks.map fun m => r ++ [m] := by
            show ((allR marks i).take (j + 1)).flatMap _ = _
            rw [List.take_succ, hr, List.flatMap_append]
            simp [L]
          have hLl : ∀ j, (L j).length ≤ 100000 := fun j => by
            have h1 : (L j).length ≤ (allR marks (i + 1)).length := by
              show (((allR marks i).take j).flatMap _).length ≤ ((allR marks i).flatMap _).length
              rw [List.length_flatMap, List.length_flatMap]
              simp only [List.length_map]
              rw [sum_const, sum_const, List.length_take]
              exact Nat.mul_le_mul_right _ (Nat.min_le_right _ _)
            exact Nat.le_trans h1 (cnt _ hi')
          refine ⟨E (some (.lst ((allR marks i).map tI))) (some (.int (0 + (i : Int)))) (some (.lst ((L j).map tI))) (some (tI r)) y6, E (some (.lst ((allR marks i).map tI))) (some (.int (0 + (i : Int)))) (some (.lst ((L (j + 1)).map tI))) (some (tI r)) y6, s2, rfl, .inl ?_, _, _, rfl, rfl⟩
          have hc : mComp cF__law_all_1 [6] ct__law_all_1 ci__law_all_1 ce__law_all_1 (E (some (.lst ((allR marks i).map tI))) (some (.int (0 + (i : Int)))) (some (.lst ((L j).map tI))) (some (tI r)) y6) s2 = .ok (.lst (marks.map fun m => tI (r ++ [m]))) s2 := by
            refine comp_mapA (e := Dv.int) (fun m : Int => tI (r ++ [m])) ?_ ?_ fun m _ => ⟨E (some (.lst ((allR marks i).map tI))) (some (.int (0 + (i : Int)))) (some (.lst ((L j).map tI))) (some (tI r)) (some (.int m)), rfl, ?_⟩
            · rcases hM with rfl | rfl <;> rfl
            · have := hLl (j + 1)
              have h2 := Nat.le_trans (show marks.length ≤ marks.length ^ n from by
                have h3 : marks.length ^ 1 ≤ marks.length ^ n := Nat.pow_le_pow_right hm (by omega)
                rwa [Nat.pow_one] at h3) hb
              unfold lim
              omega
            · refine bin_v (x := tI r) (y := tI [m]) rfl rfl ?_
              show addD s2 (.tup (r.map .int)) (.tup [.int m]) = _
              rw [add_tup (by rw [List.length_map, hrl]; show i + 1 ≤ _; omega), tI, List.map_append]
              rfl
          have hm2 : marks.length ≤ 100000 := Nat.le_trans (by
            have h3 : marks.length ^ 1 ≤ marks.length ^ n := Nat.pow_le_pow_right hm (by omega)
            rwa [Nat.pow_one] at h3) hb
          refine asg_v (w := .lst ((L (j + 1)).map tI)) (bin_v (x := .lst ((L j).map tI)) (y := .lst (marks.map fun m => tI (r ++ [m]))) rfl hc ?_)
          rw [add_lst (by rw [List.length_map, List.length_map]; have := hLl j; omega), hL, List.map_append, List.map_map]
          rfl
      have hL1 : L (allR marks i).length = allR marks (i + 1) := by
        show ((allR marks i).take _).flatMap _ = _
        rw [List.take_length]
        rfl
      rw [hr2, hs2, List.length_map, hL1] at g1
      refine ⟨E (some (.lst ((allR marks i).map tI))) (some (.int (0 + (i : Int)))) x4 x5 x6, E (some (.lst ((allR marks (i + 1)).map tI))) (some (.int (0 + (i : Int)))) (some (.lst ((allR marks (i + 1)).map tI))) y5 y6, s', rfl, .inl ?_, _, _, _, _, rfl, rfl⟩
      unfold b__law_all_2
      exact seq_nx b1 (seq_nx g1 (asg_v (w := .lst ((allR marks (i + 1)).map tI)) rfl))
  rw [hr, hs, rng_len] at f1
  unfold g__law_all d__law_all
  rw [den_ev, e0]
  refine fin_nx c1 (fin_nx f1 ?_)
  rw [ret_v (w := .lst ((allR marks n).map tI)) rfl]
  exact finC_rt
end
end MP.PG
set_option Elab.async false
set_option linter.all false
set_option maxRecDepth 100000
set_option maxHeartbeats 1000000
namespace MP.PG
open PySem PySem.Spec MP
open PyProof.Rows hiding St
open L2 hiding St r1
def runL {α σ : Type} (step : σ → α → Dv ⊕ σ) : σ → List α → Dv ⊕ σ
  | st, [] => .inr st
  | st, a :: l => match step st a with
    | .inl w => .inl w
    | .inr st' => runL step st' l
def Ran {σ : Type} (Rel : σ → Env → Prop) (s : Sto) : Dv ⊕ σ → C → Prop
  | .inl w, c => c = .rt w s
  | .inr st, c => ∃ ρ', c = .nx ρ' s ∧ Rel st ρ'
section
variable {α σ : Type} {g : FG} {body : FS} {s : Sto}
theorem forL_run {e : α → Dv} (Rel : σ → Env → Prop) (step : σ → α → Dv ⊕ σ) : ∀ (l : List α) (st : σ) (ρ : Env), (∀ a ∈ l, ∀ st ρ, Rel st ρ → ∃ ρ1, g (e a) ρ s = some ρ1 ∧ Ran Rel s (step st a) (body ρ1 s)) → Rel st ρ → Ran Rel s (runL step st l) (forL none g body (l.map e) ρ s)
  | [], st, ρ, _, j => ⟨ρ, by unfold forL; rfl, j⟩
  | a :: l, st, ρ, h, j => by
    obtain ⟨ρ1, h1, h2⟩ := h a List.mem_cons_self st ρ j
    rw [List.map_cons]
    unfold runL forL
    rw [if_pos (.inl rfl), h1]
    cases hs : step st a with
    | inl w =>
      rw [hs] at h2
      have h3 : body ρ1 s = .rt w s := h2
      simp only [h3]
      rfl
    | inr st' =>
      rw [hs] at h2
      obtain ⟨ρ2, h3, h4⟩ := h2
      simp only [h3]
      exact forL_run Rel step l st' ρ2 (fun b hb => h b (List.mem_cons_of_mem _ hb)) h4
theorem for_run {F : FI} {l : List α} {e : α → Dv} {ρ : Env} {s0 : Sto} (Rel : σ → Env → Prop) (step : σ → α → Dv ⊕ σ) (st : σ) (hF : F ρ s0 = .ok { ws := l.map e } s) (j : Rel st ρ)
    (h : ∀ a ∈ l, ∀ st ρ, Rel st ρ → ∃ ρ1, g (e a) ρ s = some ρ1 ∧ Ran Rel s (step st a) (body ρ1 s)) : Ran Rel s (runL step st l) (mFor F g body ρ s0) := by
  unfold mFor
  rw [hF]
  exact forL_run Rel step l st ρ h j
end
section
variable {s : Sto} {rs os : List Int} {r : Nat}
theorem within_ok {i a b : Int} (h1 : a ≤ i) (h2 : i ≤ b) : g_is_int_within [.int i, .int a, .int b] s = .ok (.bl true) s := by
  rw [is_int_within_int, decide_eq_true h1, decide_eq_true h2]
  rfl
theorem need_pair_ok (h1 : Rule rs) (h2 : Rule os) (hr : r ≤ 6) : g_need_pair [tI rs, tI os, .int (r : Int)] s = .ok .non s := by
  have e0 : startD 3 [tI rs, tI os, .int (r : Int)] = [some (tI rs), some (tI os), some (.int (r : Int))] := rfl
  unfold g_need_pair d_need_pair
  rw [den_ev, e0]
  have c1 : mCall (g_need_rule) (mCons (mVar 0) mNil) [some (tI rs), some (tI os), some (.int (r : Int))] s = .ok (tI rs) s := call_v (cons_v (w := tI rs) rfl nil_ev) (need_rule_ok h1 s)
  have c2 : mCall (g_need_rule) (mCons (mVar 1) mNil) [some (tI rs), some (tI os), some (.int (r : Int))] s = .ok (tI os) s := call_v (cons_v (w := tI os) rfl nil_ev) (need_rule_ok h2 s)
  have c3 : mTest (mCall (g_is_int_within) (mCons (mVar 2) (mCons (mK (.int 0)) (mCons (mK (.int 6)) mNil)))) [some (tI rs), some (tI os), some (.int (r : Int))] s = .ok true s :=
    test_v (call_v (cons_v (w := .int (r : Int)) rfl (cons_v (w := .int 0) rfl (cons_v (w := .int 6) rfl nil_ev))) (within_ok (by omega) (by omega)))
  refine fin_nx (expr_v c1) (fin_nx (expr_v c2) ?_)
  rw [ifS_f (not_vt c3)]
  exact finC_nx
/-- the two indexes of the n-th row of bits -/
def prF (rs os : List Int) (r n : Nat) : Int × Int := (idb rs (pop (n / 2 ^ r % 2 ^ rs.length)), idb os (pop (n % 2 ^ os.length)))
def wdB (rs os : List Int) : Nat := max rs.length os.length
theorem pop_lt {w n : Nat} (h : n < 2 ^ w) : pop n ≤ w := pop_le w h
theorem max2_nat {a b : Nat} : max2D s [.int (a : Int), .int (b : Int)] = some (.int ((max a b : Nat) : Int)) := by
  show some (Dv.int (if (b : Int) > (a : Int) then (b : Int) else (a : Int))) = _
  congr 2
  split <;> omega
theorem mul_nn {a b : Nat} (h : b ≤ 1000000) : mulD s (.int (a : Int)) (.int (b : Int)) = some (.int ((a * b : Nat) : Int)) := by
  rw [mul_ii (cm_r ⟨by omega, by omega⟩), Int.natCast_mul]
theorem div_nn {a b : Nat} (h0 : 0 < b) (h : b ≤ 1000000) : divD s (.int (a : Int)) (.int (b : Int)) = some (.int ((a / b : Nat) : Int)) := by
  rw [div_ii (by omega) (by omega), Int.natCast_ediv]
theorem mod_nn {a b : Nat} (h0 : 0 < b) : modD s (.int (a : Int)) (.int (b : Int)) = some (.int ((a % b : Nat) : Int)) := by
  rw [mod_ii (by omega), Int.natCast_emod]
theorem beside_ok (hs : Cl s) (h1 : Rule rs) (h2 : Rule os) (hr : r ≤ 6) : g_indexes_beside [tI rs, tI os, .int (r : Int)] s = .ok (.lst ((List.range (2 ^ (wdB rs os + r))).map fun n => tP (prF rs os r n))) s := by
  obtain ⟨N, eN⟩ : ∃ N : Nat, N = 2 ^ (wdB rs os + r) := ⟨_, rfl⟩
  rw [← eN]
  have l1 := h1.six
  have l2 := h2.six
  have hw : wdB rs os ≤ 6 := by unfold wdB; omega
  let E (x3 x4 x5 x6 x7 x8 x9 : Option Dv) : Env := [some (tI rs), some (tI os), some (.int (r : Int)), x3, x4, x5, x6, x7, x8, x9]
  let T1 := lI (lf (rs.length + 1) (idb rs))
  let T2 := lI (lf (os.length + 1) (idb os))
  let O := lI (lf (2 ^ wdB rs os) fun i => pop i)
  let A : Option Dv := some (.int ((2 ^ rs.length : Nat) : Int))
  let B : Option Dv := some (.int ((2 ^ os.length : Nat) : Int))
  let R' : Option Dv := some (.int ((2 ^ r : Nat) : Int))
  have e0 : startD 10 [tI rs, tI os, .int (r : Int)] = E none none none none none none none := rfl
  have c1 : mAsg (mTup (mCons (mCall (g_indexes_by_ones) (mCons (mVar 0) mNil)) (mCons (mCall (g_indexes_by_ones) (mCons (mVar 1) mNil)) mNil))) (gT 2 (gsC (gN 3) (gsC (gN 4) gs0))) (E none none none none none none none) s = .nx (E (some T1) (some T2) none none none none none) s := by
    have d1 : mTup (mCons (mCall (g_indexes_by_ones) (mCons (mVar 0) mNil)) (mCons (mCall (g_indexes_by_ones) (mCons (mVar 1) mNil)) mNil)) (E none none none none none none none) s = .ok (.tup [T1, T2]) s :=
      tup_v (cons_v (w := T1) (call_v (cons_v (w := tI rs) rfl nil_ev) (told_ok hs (by omega))) (cons_v (w := T2) (call_v (cons_v (w := tI os) rfl nil_ev) (told_ok hs (by omega))) nil_ev)) (by simp)
    exact asg_gv d1 rfl
  have ln : ∀ x3 x4 x5 x6 x7 x8 x9, mBlt lenD (mCons (mVar 0) mNil) (E x3 x4 x5 x6 x7 x8 x9) s = .ok (.int (rs.length : Int)) s := fun _ _ _ _ _ _ _ => blt_v (cons_v (w := tI rs) rfl nil_ev) (by rw [tI, len_tup, List.length_map])
  have lm : ∀ x3 x4 x5 x6 x7 x8 x9, mBlt lenD (mCons (mVar 1) mNil) (E x3 x4 x5 x6 x7 x8 x9) s = .ok (.int (os.length : Int)) s := fun _ _ _ _ _ _ _ => blt_v (cons_v (w := tI os) rfl nil_ev) (by rw [tI, len_tup, List.length_map])
  have c2 : mAsg (mCall (g_ones_of) (mCons (mBlt max2D (mCons (mBlt lenD (mCons (mVar 0) mNil)) (mCons (mBlt lenD (mCons (mVar 1) mNil)) mNil))) mNil)) (gN 5) (E (some T1) (some T2) none none none none none) s = .nx (E (some T1) (some T2) (some O) none none none none) s :=
    asg_v (w := O) (call_v (cons_v (w := .int (wdB rs os : Int)) (blt_v (cons_v (ln _ _ _ _ _ _ _) (cons_v (lm _ _ _ _ _ _ _) nil_ev)) max2_nat) nil_ev) (ones_ok (by omega)))
  have c3 : mAsg (mTup (mCons (mCall (g_many_of) (mCons (mK (.int 2)) (mCons (mBlt lenD (mCons (mVar 0) mNil)) mNil))) (mCons (mCall (g_many_of) (mCons (mK (.int 2)) (mCons (mBlt lenD (mCons (mVar 1) mNil)) mNil))) mNil))) (gT 2 (gsC (gN 6) (gsC (gN 7) gs0))) (E (some T1) (some T2) (some O) none none none none) s = .nx (E (some T1) (some T2) (some O) A B none none) s := by
    have d1 : mTup (mCons (mCall (g_many_of) (mCons (mK (.int 2)) (mCons (mBlt lenD (mCons (mVar 0) mNil)) mNil))) (mCons (mCall (g_many_of) (mCons (mK (.int 2)) (mCons (mBlt lenD (mCons (mVar 1) mNil)) mNil))) mNil)) (E (some T1) (some T2) (some O) none none none none) s = .ok (.tup [.int ((2 ^ rs.length : Nat) : Int), .int ((2 ^ os.length : Nat) : Int)]) s :=
      tup_v (cons_v (call_v (cons_v (w := .int 2) rfl (cons_v (ln _ _ _ _ _ _ _) nil_ev)) (many_ok (b := 2) (by omega) (by omega))) (cons_v (call_v (cons_v (w := .int 2) rfl (cons_v (lm _ _ _ _ _ _ _) nil_ev)) (many_ok (b := 2) (by omega) (by omega))) nil_ev)) (by simp)
    exact asg_gv d1 rfl
  have c4 : mAsg (mCall (g_many_of) (mCons (mK (.int 2)) (mCons (mVar 2) mNil))) (gN 8) (E (some T1) (some T2) (some O) A B none none) s = .nx (E (some T1) (some T2) (some O) A B R' none) s :=
    asg_v (w := .int ((2 ^ r : Nat) : Int)) (call_v (cons_v (w := .int 2) rfl (cons_v (w := .int (r : Int)) rfl nil_ev)) (many_ok (b := 2) (by omega) (by omega)))
  have p0 : ∀ k : Nat, 0 < 2 ^ k := fun k => Nat.pow_pos (by omega)
  have hN : 2 ^ wdB rs os * 2 ^ r = N := by rw [eN]; exact (Nat.pow_add _ _ _).symm
  have hNl : N ≤ 4096 := by rw [eN]; exact Nat.pow_le_pow_right (show 0 < 2 by decide) (show wdB rs os + r ≤ 12 by omega)
  have c5 : mComp cF_indexes_beside_1 [9] ct_indexes_beside_1 ci_indexes_beside_1 ce_indexes_beside_1 (E (some T1) (some T2) (some O) A B R' none) s = .ok (.lst ((List.range (N)).map fun n => tP (prF rs os r n))) s := by
    have hF : cF_indexes_beside_1 (E (some T1) (some T2) (some O) A B R' none) s = .ok { ws := rng 0 (N) } s := by
      have := range1_ok (fa := mCons (mBin mulD (mBlt lenD (mCons (mVar 5) mNil)) (mVar 8)) mNil) (ρ := E (some T1) (some T2) (some O) A B R' none) (s := s) (s1 := s) (j := ((N : Nat) : Int)) (cons_v (w := .int ((N : Nat) : Int)) (bin_v (x := .int ((2 ^ wdB rs os : Nat) : Int)) (y := .int ((2 ^ r : Nat) : Int)) (blt_v (cons_v (w := O) rfl nil_ev) (by
        show lenD s [lI _] = _
        rw [lI, len_lst, List.length_map, lf_len])) rfl (by
          have b1 : 2 ^ r ≤ 2 ^ 6 := Nat.pow_le_pow_right (by omega) hr
          rw [← hN]
          exact mul_nn (Nat.le_trans b1 (by decide)))) nil_ev) (okR_s (by omega) (by omega))
      rw [Int.toNat_natCast] at this
      unfold cF_indexes_beside_1
      exact this
    have hF2 : cF_indexes_beside_1 (E (some T1) (some T2) (some O) A B R' none) s = .ok { ws := (List.range (N)).map fun n : Nat => Dv.int (n : Int) } s := by
      have e : rng 0 N = (List.range N).map fun n : Nat => Dv.int (n : Int) := by
        rw [rng_ev]
        exact List.map_congr_left fun n _ => by rw [Int.zero_add]
      rw [hF, e]
    refine comp_mapA (vs := [9]) (fun n => tP (prF rs os r n)) hF2 (by rw [List.length_range]; unfold lim; omega) fun n hn => ⟨E (some T1) (some T2) (some O) A B R' (some (.int (n : Int))), rfl, ?_⟩
    have hn' : n < N := List.mem_range.mp hn
    have q1 : n / 2 ^ r % 2 ^ rs.length < 2 ^ rs.length := Nat.mod_lt _ (p0 _)
    have q2 : n % 2 ^ os.length < 2 ^ os.length := Nat.mod_lt _ (p0 _)
    have q3 : 2 ^ rs.length ≤ 2 ^ wdB rs os := Nat.pow_le_pow_right (by omega) (Nat.le_max_left _ _)
    have q4 : 2 ^ os.length ≤ 2 ^ wdB rs os := Nat.pow_le_pow_right (by omega) (Nat.le_max_right _ _)
    have k1 := pop_lt q1
    have k2 := pop_lt q2
    have u1 : mBin modD (mBin divD (mVar 9) (mVar 8)) (mVar 6) (E (some T1) (some T2) (some O) A B R' (some (.int (n : Int)))) s = .ok (.int ((n / 2 ^ r % 2 ^ rs.length : Nat) : Int)) s := by
      have b1 : 2 ^ r ≤ 2 ^ 6 := Nat.pow_le_pow_right (by omega) hr
      refine bin_v (x := .int ((n / 2 ^ r : Nat) : Int)) (y := .int ((2 ^ rs.length : Nat) : Int)) (bin_v (x := .int (n : Int)) (y := .int ((2 ^ r : Nat) : Int)) rfl rfl ?_) rfl ?_
      · exact div_nn (p0 r) (Nat.le_trans b1 (by decide))
      · exact mod_nn (p0 rs.length)
    have u2 : mBin modD (mVar 9) (mVar 7) (E (some T1) (some T2) (some O) A B R' (some (.int (n : Int)))) s = .ok (.int ((n % 2 ^ os.length : Nat) : Int)) s := by
      exact bin_v (x := .int (n : Int)) (y := .int ((2 ^ os.length : Nat) : Int)) rfl rfl (mod_nn (p0 os.length))
    have g1 : ∀ {m : Nat} {f : Nat → Int} {i : Nat}, i < m → ixA s (lI (lf m f)) (.int (i : Int)) = some (.int (f i)) := fun hi => ix_lst (by rw [List.getElem?_map, lf_get hi]; rfl)
    have v1 : mBin ixA (mVar 3) (mBin ixA (mVar 5) (mBin modD (mBin divD (mVar 9) (mVar 8)) (mVar 6))) (E (some T1) (some T2) (some O) A B R' (some (.int (n : Int)))) s = .ok (.int (prF rs os r n).1) s :=
      bin_v (x := T1) (y := .int ((pop (n / 2 ^ r % 2 ^ rs.length) : Nat) : Int)) rfl (bin_v (x := O) (y := .int ((n / 2 ^ r % 2 ^ rs.length : Nat) : Int)) rfl u1 (g1 (Nat.lt_of_lt_of_le q1 q3))) (g1 (by omega))
    have v2 : mBin ixA (mVar 4) (mBin ixA (mVar 5) (mBin modD (mVar 9) (mVar 7))) (E (some T1) (some T2) (some O) A B R' (some (.int (n : Int)))) s = .ok (.int (prF rs os r n).2) s :=
      bin_v (x := T2) (y := .int ((pop (n % 2 ^ os.length) : Nat) : Int)) rfl (bin_v (x := O) (y := .int ((n % 2 ^ os.length : Nat) : Int)) rfl u2 (g1 (Nat.lt_of_lt_of_le q2 q4))) (g1 (by omega))
    exact tup_v (cons_v v1 (cons_v v2 nil_ev)) (by simp)
  unfold g_indexes_beside d_indexes_beside
  rw [den_ev, e0]
  refine fin_nx c1 (fin_nx c2 (fin_nx c3 (fin_nx c4 ?_)))
  rw [ret_v c5]
  exact finC_rt
end
end MP.PG
set_option Elab.async false
set_option linter.all false
set_option maxRecDepth 100000
set_option maxHeartbeats 1000000
namespace MP.PG
open PySem PySem.Spec MP
open PyProof.Rows hiding St
open L2 hiding St r1
theorem enumD_range {f : Nat → Dv} : ∀ (m k : Nat), enumD k ((List.range' k m).map f) = (List.range' k m).map fun i => .tup [.int (i : Int), f i]
  | 0, _ => rfl
  | m + 1, k => by
    rw [List.range'_succ, List.map_cons, List.map_cons]
    show .tup [.int (k : Int), f k] :: enumD (k + 1) _ = _
    rw [enumD_range m (k + 1)]
theorem enumD_rng {f : Nat → Dv} {m : Nat} : enumD 0 ((List.range m).map f) = (List.range m).map fun i => .tup [.int (i : Int), f i] := by
  rw [List.range_eq_range']
  exact enumD_range m 0
theorem runL_find {α : Type} {t : α → Bool} {f : α → Dv} : ∀ l : List α, runL (fun (_ : Unit) a => if t a = true then .inl (f a) else .inr ()) () l = match l.find? t with
    | some a => .inl (f a)
    | none => .inr ()
  | [] => rfl
  | a :: l => by
    unfold runL
    rw [List.find?_cons]
    cases h : t a with
    | true => simp
    | false =>
      simp only [Bool.false_eq_true, if_false]
      exact runL_find l
section
variable {s : Sto} {rs os : List Int} {r : Nat}
def isAb (rs os : List Int) (r n : Nat) : Bool := decide ((prF rs os r n).2 < (prF rs os r n).1)
/-- the first row of bits by which the first rule is above -/
def abN (rs os : List Int) (r : Nat) : Option Nat := (List.range (2 ^ (wdB rs os + r))).find? (isAb rs os r)
def rowD (rs os : List Int) (r n : Nat) : Dv := tI (toI (digs 2 (wdB rs os + r) n))
def abD (rs os : List Int) (r : Nat) : Dv := match abN rs os r with
  | some n => rowD rs os r n
  | none => .non
theorem bits_signs {w n : Nat} (hs : Cl s) (hw : w ≤ 1000) : g_signs_of [.int (n : Int), .tup [.int 0, .int 1], .int (w : Int)] s = .ok (tI (toI (digs 2 w n))) s := by
  have := signs_ok (s := s) (sg := [.int 0, .int 1]) (b := 2) (n := n) (w := w) (f := fun d => .int (d : Int)) hs (by omega) (by omega) hw rfl (fun d hd => by
    match d, hd with
    | 0, _ => rfl
    | 1, _ => rfl) (fun _ _ => rfl)
  rw [this, tI, toI, List.map_map]
  rfl
theorem above_ok (hs : Cl s) (h1 : Rule rs) (h2 : Rule os) (hr : r ≤ 6) : g_above_row [tI rs, tI os, .int (r : Int)] s = .ok (abD rs os r) s := by
  have l1 := h1.six
  have l2 := h2.six
  have hw : wdB rs os ≤ 6 := by unfold wdB; omega
  let E (x3 x4 x5 x6 : Option Dv) : Env := [some (tI rs), some (tI os), some (.int (r : Int)), x3, x4, x5, x6]
  have e0 : startD 7 [tI rs, tI os, .int (r : Int)] = E none none none none := rfl
  have c1 : mExpr (mCall (g_need_pair) (mCons (mVar 0) (mCons (mVar 1) (mCons (mVar 2) mNil)))) (E none none none none) s = .nx (E none none none none) s :=
    expr_v (call_v (cons_v (w := tI rs) rfl (cons_v (w := tI os) rfl (cons_v (w := .int (r : Int)) rfl nil_ev))) (need_pair_ok h1 h2 hr))
  let Wd : Option Dv := some (.int ((wdB rs os + r : Nat) : Int))
  have c2 : mAsg (mBin addD (mBlt max2D (mCons (mBlt lenD (mCons (mVar 0) mNil)) (mCons (mBlt lenD (mCons (mVar 1) mNil)) mNil))) (mVar 2)) (gN 3) (E none none none none) s = .nx (E Wd none none none) s := by
    refine asg_v (w := .int ((wdB rs os + r : Nat) : Int)) (bin_v (x := .int (wdB rs os : Int)) (y := .int (r : Int)) (blt_v (cons_v (w := .int (rs.length : Int)) (blt_v (cons_v (w := tI rs) rfl nil_ev) (by rw [tI, len_tup, List.length_map])) (cons_v (w := .int (os.length : Int)) (blt_v (cons_v (w := tI os) rfl nil_ev) (by rw [tI, len_tup, List.length_map])) nil_ev)) max2_nat) rfl ?_)
    rw [add_ii, Int.natCast_add]
  have c3 := for_run (F := F_above_row_1) (g := t_above_row_1) (body := b_above_row_1) (ρ := E Wd none none none) (s0 := s) (s := s) (l := List.range (2 ^ (wdB rs os + r))) (e := fun n => .tup [.int (n : Int), tP (prF rs os r n)])
    (fun (_ : Unit) ρ => ∃ x4 x5 x6, ρ = E Wd x4 x5 x6) (fun _ n => if isAb rs os r n = true then .inl (rowD rs os r n) else .inr ()) () (by
      have h : mCall (g_indexes_beside) (mCons (mVar 0) (mCons (mVar 1) (mCons (mVar 2) mNil))) (E Wd none none none) s = .ok (.lst ((List.range (2 ^ (wdB rs os + r))).map fun n => tP (prF rs os r n))) s :=
        call_v (cons_v (w := tI rs) rfl (cons_v (w := tI os) rfl (cons_v (w := .int (r : Int)) rfl nil_ev))) (beside_ok hs h1 h2 hr)
      rw [← enumD_rng]
      show iEnum1 _ _ _ = _
      unfold iEnum1
      rw [cons_v h nil_ev]
      rfl) ⟨_, _, _, rfl⟩ fun n hn _ ρ ⟨x4, x5, x6, hρ⟩ => by
      subst hρ
      refine ⟨E Wd (some (.int (n : Int))) (some (.int (prF rs os r n).1)) (some (.int (prF rs os r n).2)), rfl, ?_⟩
      have ht : mTest (mBin gtD (mVar 5) (mVar 6)) (E Wd (some (.int (n : Int))) (some (.int (prF rs os r n).1)) (some (.int (prF rs os r n).2))) s = .ok (isAb rs os r n) s := test_v (bin_v (x := .int (prF rs os r n).1) (y := .int (prF rs os r n).2) rfl rfl rfl)
      unfold b_above_row_1
      cases hA : isAb rs os r n with
      | true =>
        rw [hA] at ht
        rw [if_pos rfl, ifS_t ht]
        exact ret_v (call_v (cons_v (w := .int (n : Int)) rfl (cons_v (w := .tup [.int 0, .int 1]) rfl (cons_v (w := .int ((wdB rs os + r : Nat) : Int)) rfl nil_ev))) (bits_signs hs (by omega)))
      | false =>
        rw [hA] at ht
        rw [if_neg Bool.false_ne_true, ifS_f ht]
        exact ⟨_, rfl, _, _, _, rfl⟩
  rw [runL_find] at c3
  unfold g_above_row d_above_row
  rw [den_ev, e0]
  refine fin_nx c1 (fin_nx c2 ?_)
  unfold abD abN
  cases hf : (List.range (2 ^ (wdB rs os + r))).find? (isAb rs os r) with
  | some n =>
    rw [hf] at c3
    rw [seq_ev, show mFor F_above_row_1 t_above_row_1 b_above_row_1 (E Wd none none none) s = .rt (rowD rs os r n) s from c3]
    exact finC_rt
  | none =>
    rw [hf] at c3
    obtain ⟨ρ', h3, _⟩ := c3
    refine fin_nx h3 ?_
    rw [ret_v (w := .non) k_ev]
    exact finC_rt
theorem never_ok (hs : Cl s) (h1 : Rule rs) (h2 : Rule os) (hr : r ≤ 6) : g_never_above [tI rs, tI os, .int (r : Int)] s = .ok (.bl (abN rs os r).isNone) s := by
  have e0 : startD 3 [tI rs, tI os, .int (r : Int)] = [some (tI rs), some (tI os), some (.int (r : Int))] := rfl
  unfold g_never_above d_never_above
  rw [den_ev, e0, ret_v (w := .bl (abN rs os r).isNone) (bin_v (x := abD rs os r) (y := .non) (call_v (cons_v (w := tI rs) rfl (cons_v (w := tI os) rfl (cons_v (w := .int (r : Int)) rfl nil_ev))) (above_ok hs h1 h2 hr)) k_ev (by
    unfold abD
    cases abN rs os r <;> rfl))]
  exact finC_rt
end
end MP.PG
set_option Elab.async false
set_option linter.all false
set_option maxRecDepth 100000
set_option maxHeartbeats 1000000
namespace MP.PG
open PySem PySem.Spec MP
open PyProof.Rows hiding St
open L2 hiding St r1
def gc (p : Int × Int) : Int := ((Nat.gcd p.1.natAbs p.2.natAbs : Nat) : Int)
def redP (p : Int × Int) : Int × Int := (p.1 / gc p, p.2 / gc p)
def lessP (p q : Int × Int) : Bool := decide (p.1 * q.2 < q.1 * p.2)
/-- in least terms, over a divisor above 0 -/
structure Red (p : Int × Int) : Prop where
  pos : 0 < p.2
  co : Nat.Coprime p.1.natAbs p.2.natAbs
theorem gc_pos {p : Int × Int} (h : 0 < p.2) : 0 < gc p := by
  unfold gc
  have : 0 < Nat.gcd p.1.natAbs p.2.natAbs := Nat.gcd_pos_of_pos_right _ (by omega)
  omega
theorem gc_le {p : Int × Int} (h : 0 < p.2) : gc p ≤ p.2 := by
  unfold gc
  have : Nat.gcd p.1.natAbs p.2.natAbs ≤ p.2.natAbs := Nat.gcd_le_right _ (by omega)
  omega
theorem gc_d1 {p : Int × Int} : gc p ∣ p.1 := by
  unfold gc
  exact Int.ofNat_dvd_left.mpr (Nat.gcd_dvd_left _ _)
theorem gc_d2 {p : Int × Int} : gc p ∣ p.2 := by
  unfold gc
  exact Int.ofNat_dvd_left.mpr (Nat.gcd_dvd_right _ _)
theorem redP_red {p : Int × Int} (h : 0 < p.2) : Red (redP p) := by
  have g0 := gc_pos h
  obtain ⟨a, ha⟩ := gc_d1 (p := p)
  obtain ⟨b, hb⟩ := gc_d2 (p := p)
  have e1 : p.1 / gc p = a := by
    rw [ha.trans (Int.mul_comm _ _)]
    exact Int.mul_ediv_cancel _ (by omega)
  have e2 : p.2 / gc p = b := by
    rw [hb.trans (Int.mul_comm _ _)]
    exact Int.mul_ediv_cancel _ (by omega)
  refine ⟨?_, ?_⟩
  · show 0 < p.2 / gc p
    rw [e2]
    rcases Int.lt_trichotomy b 0 with z | z | z
    · have := Int.mul_neg_of_pos_of_neg g0 z
      omega
    · rw [z, Int.mul_zero] at hb
      omega
    · exact z
  · show Nat.Coprime (p.1 / gc p).natAbs (p.2 / gc p).natAbs
    rw [e1, e2]
    have eg : (gc p).natAbs = Nat.gcd p.1.natAbs p.2.natAbs := rfl
    have h1 : p.1.natAbs = Nat.gcd p.1.natAbs p.2.natAbs * a.natAbs := by
      have := congrArg Int.natAbs ha
      rwa [Int.natAbs_mul, eg] at this
    have h2 : p.2.natAbs = Nat.gcd p.1.natAbs p.2.natAbs * b.natAbs := by
      have := congrArg Int.natAbs hb
      rwa [Int.natAbs_mul, eg] at this
    have gp : 0 < Nat.gcd p.1.natAbs p.2.natAbs := Nat.gcd_pos_of_pos_right _ (by omega)
    have h3 : Nat.gcd (Nat.gcd p.1.natAbs p.2.natAbs * a.natAbs) (Nat.gcd p.1.natAbs p.2.natAbs * b.natAbs) = Nat.gcd p.1.natAbs p.2.natAbs * Nat.gcd a.natAbs b.natAbs := Nat.gcd_mul_left _ _ _
    rw [← h1, ← h2] at h3
    exact Nat.eq_of_mul_eq_mul_left gp (by rw [Nat.mul_one]; exact h3.symm)
theorem redP_le {p : Int × Int} (h : 0 < p.2) : (redP p).2 ≤ p.2 := by
  show p.2 / gc p ≤ p.2
  have g0 := gc_pos h
  exact Int.ediv_le_self _ (by omega)
theorem red_same {p q : Int × Int} (hp : Red p) (hq : Red q) (e : p.1 * q.2 = q.1 * p.2) : p = q := by
  have en : p.1.natAbs * q.2.natAbs = q.1.natAbs * p.2.natAbs := by
    have := congrArg Int.natAbs e
    rwa [Int.natAbs_mul, Int.natAbs_mul] at this
  have d1 : p.2.natAbs ∣ q.2.natAbs := hp.co.symm.dvd_of_dvd_mul_left (by rw [en]; exact Nat.dvd_mul_left _ _)
  have d2 : q.2.natAbs ∣ p.2.natAbs := hq.co.symm.dvd_of_dvd_mul_left (by rw [← en]; exact Nat.dvd_mul_left _ _)
  have e2 : p.2 = q.2 := by
    have := Nat.dvd_antisymm d1 d2
    have h1 := hp.pos
    have h2 := hq.pos
    omega
  have e1 : p.1 = q.1 := by
    rw [e2] at e
    exact Int.eq_of_mul_eq_mul_right (by have := hq.pos; omega) e
  exact Prod.ext e1 e2
theorem less_trans {p q r : Int × Int} (hp : 0 < p.2) (hq : 0 < q.2) (hr : 0 < r.2) (h1 : lessP p q = true) (h2 : lessP q r = true) : lessP p r = true := by
  unfold lessP at *
  rw [decide_eq_true_eq] at *
  have a1 : p.1 * q.2 * r.2 < q.1 * p.2 * r.2 := Int.mul_lt_mul_of_pos_right h1 hr
  have a2 : q.1 * r.2 * p.2 < r.1 * q.2 * p.2 := Int.mul_lt_mul_of_pos_right h2 hp
  have e1 : q.1 * p.2 * r.2 = q.1 * r.2 * p.2 := by rw [Int.mul_assoc, Int.mul_comm p.2, ← Int.mul_assoc]
  rw [e1] at a1
  have a3 := Int.lt_trans a1 a2
  have e2 : p.1 * q.2 * r.2 = p.1 * r.2 * q.2 := by rw [Int.mul_assoc, Int.mul_comm q.2, ← Int.mul_assoc]
  have e3 : r.1 * q.2 * p.2 = r.1 * p.2 * q.2 := by rw [Int.mul_assoc, Int.mul_comm q.2, ← Int.mul_assoc]
  rw [e2, e3] at a3
  exact Int.lt_of_mul_lt_mul_right a3 (by omega)
theorem less_nt {p q r : Int × Int} (hp : 0 < p.2) (hq : 0 < q.2) (hr : 0 < r.2) (h : lessP p r = true) : lessP p q = true ∨ lessP q r = true := by
  unfold lessP at *
  rw [decide_eq_true_eq] at *
  rw [decide_eq_true_eq]
  rcases Int.lt_or_le (p.1 * q.2) (q.1 * p.2) with a | a
  · exact .inl a
  · rcases Int.lt_or_le (q.1 * r.2) (r.1 * q.2) with b | b
    · exact .inr b
    · exfalso
      have a1 : q.1 * p.2 * r.2 ≤ p.1 * q.2 * r.2 := Int.mul_le_mul_of_nonneg_right a (by omega)
      have a2 : r.1 * q.2 * p.2 ≤ q.1 * r.2 * p.2 := Int.mul_le_mul_of_nonneg_right b (by omega)
      have e1 : q.1 * p.2 * r.2 = q.1 * r.2 * p.2 := by rw [Int.mul_assoc, Int.mul_comm p.2, ← Int.mul_assoc]
      rw [e1] at a1
      have a3 := Int.le_trans a2 a1
      have e2 : p.1 * q.2 * r.2 = p.1 * r.2 * q.2 := by rw [Int.mul_assoc, Int.mul_comm q.2, ← Int.mul_assoc]
      have e3 : r.1 * q.2 * p.2 = r.1 * p.2 * q.2 := by rw [Int.mul_assoc, Int.mul_comm q.2, ← Int.mul_assoc]
      rw [e2, e3] at a3
      have := Int.le_of_mul_le_mul_right a3 hq
      omega
theorem less_irr {p : Int × Int} : lessP p p = false := by
  unfold lessP
  exact decide_eq_false (by omega)
def pick1 {α : Type} (t : α → α → Bool) (o : Option α) (c : α) : Option α := match o with
  | none => some c
  | some b => if t c b = true then some c else some b
def foldB {α : Type} (t : α → α → Bool) (o : Option α) (l : List α) : Option α := l.foldl (pick1 t) o
section
variable {α : Type} {t : α → α → Bool} {G : α → Prop}
theorem foldB_some (irr : ∀ x, t x x = false) (tr : ∀ x y z, G x → G y → G z → t x y = true → t y z = true → t x z = true) (nt : ∀ x y z, G x → G y → G z → t x z = true → t x y = true ∨ t y z = true) : ∀ (l : List α) (a : α), G a → (∀ c ∈ l, G c) → ∃ b, foldB t (some a) l = some b ∧ (b = a ∨ b ∈ l) ∧ t a b = false ∧ ∀ c ∈ l, t c b = false
  | [], a, _, _ => ⟨a, rfl, .inl rfl, irr a, fun c hc => nomatch hc⟩
  | x :: l, a, ha, hl => by
    have hx := hl x List.mem_cons_self
    have hl2 : ∀ c ∈ l, G c := fun c hc => hl c (List.mem_cons_of_mem _ hc)
    cases h : t x a with
    | true =>
      obtain ⟨b, h1, h2, h3, h4⟩ := foldB_some irr tr nt l x hx hl2
      have gb : G b := by
        rcases h2 with rfl | h2
        · exact hx
        · exact hl2 b h2
      refine ⟨b, ?_, .inr (h2.elim (fun e => e ▸ List.mem_cons_self) (List.mem_cons_of_mem _)), ?_, fun c hc => ?_⟩
      · show foldB t (if t x a = true then some x else some a) l = _
        rw [if_pos h]
        exact h1
      · cases z : t a b with
        | false => rfl
        | true =>
          rw [tr x a b hx ha gb h z] at h3
          cases h3
      · rcases List.mem_cons.mp hc with rfl | hc
        · exact h3
        · exact h4 c hc
    | false =>
      obtain ⟨b, h1, h2, h3, h4⟩ := foldB_some irr tr nt l a ha hl2
      have gb : G b := by
        rcases h2 with rfl | h2
        · exact ha
        · exact hl2 b h2
      refine ⟨b, ?_, h2.imp id (List.mem_cons_of_mem _), h3, fun c hc => ?_⟩
      · show foldB t (if t x a = true then some x else some a) l = _
        rw [h, if_neg Bool.false_ne_true]
        exact h1
      · rcases List.mem_cons.mp hc with rfl | hc
        · rcases h2 with rfl | h2
          · exact h
          · cases z : t c b with
            | false => rfl
            | true =>
              rcases nt c a b hx ha gb z with y | y
              · rw [h] at y; cases y
              · rw [h3] at y; cases y
        · exact h4 c hc
theorem foldB_none (irr : ∀ x, t x x = false) (tr : ∀ x y z, G x → G y → G z → t x y = true → t y z = true → t x z = true) (nt : ∀ x y z, G x → G y → G z → t x z = true → t x y = true ∨ t y z = true) {l : List α} (hl : ∀ c ∈ l, G c) : (foldB t none l = none ∧ l = []) ∨ ∃ b, foldB t none l = some b ∧ b ∈ l ∧ ∀ c ∈ l, t c b = false := by
  cases l with
  | nil => exact .inl ⟨rfl, rfl⟩
  | cons a l =>
    obtain ⟨b, h1, h2, h3, h4⟩ := foldB_some irr tr nt l a (hl a List.mem_cons_self) fun c hc => hl c (List.mem_cons_of_mem _ hc)
    refine .inr ⟨b, h1, h2.elim (fun e => e ▸ List.mem_cons_self) (List.mem_cons_of_mem _), fun c hc => ?_⟩
    rcases List.mem_cons.mp hc with rfl | hc
    · exact h3
    · exact h4 c hc
/-- it hangs on what stands in the list alone -/
theorem foldB_same (irr : ∀ x, t x x = false) (tr : ∀ x y z, G x → G y → G z → t x y = true → t y z = true → t x z = true) (nt : ∀ x y z, G x → G y → G z → t x z = true → t x y = true ∨ t y z = true) (un : ∀ x y, G x → G y → t x y = false → t y x = false → x = y) {l m : List α} (hl : ∀ c ∈ l, G c) (he : ∀ c, c ∈ l ↔ c ∈ m) : foldB t none l = foldB t none m := by
  have hm : ∀ c ∈ m, G c := fun c hc => hl c ((he c).mpr hc)
  rcases foldB_none irr tr nt hl with ⟨h1, h2⟩ | ⟨b, h1, h2, h3⟩
  · subst h2
    have : m = [] := by
      cases m with
      | nil => rfl
      | cons a m => exact nomatch (he a).mpr List.mem_cons_self
    rw [this]
  · rcases foldB_none irr tr nt hm with ⟨g1, g2⟩ | ⟨c, g1, g2, g3⟩
    · subst g2
      exact nomatch (he b).mp h2
    · rw [h1, g1, un b c (hl b h2) (hm c g2) (g3 b ((he b).mp h2)) (h3 c ((he c).mpr g2))]
end
/-- the least of some fractions, the greatest -/
def loF (l : List (Int × Int)) : Option (Int × Int) := foldB lessP none l
def hiF (l : List (Int × Int)) : Option (Int × Int) := foldB (fun x y => lessP y x) none l
theorem loF_same {l m : List (Int × Int)} (hl : ∀ c ∈ l, Red c) (he : ∀ c, c ∈ l ↔ c ∈ m) : loF l = loF m :=
  foldB_same (G := Red) (fun _ => less_irr) (fun x y z a b c => less_trans a.pos b.pos c.pos) (fun x y z a b c => less_nt a.pos b.pos c.pos) (fun x y a b h1 h2 => red_same a b (by
    simp only [lessP, decide_eq_false_iff_not] at h1 h2
    omega)) hl he
theorem hiF_same {l m : List (Int × Int)} (hl : ∀ c ∈ l, Red c) (he : ∀ c, c ∈ l ↔ c ∈ m) : hiF l = hiF m :=
  foldB_same (t := fun x y => lessP y x) (G := Red) (fun _ => less_irr) (fun x y z a b c h1 h2 => less_trans c.pos b.pos a.pos h2 h1) (fun x y z a b c h => (less_nt c.pos b.pos a.pos h).symm) (fun x y a b h1 h2 => red_same a b (by
    simp only [lessP, decide_eq_false_iff_not] at h1 h2
    omega)) hl he
theorem loF_none {l : List (Int × Int)} (hl : ∀ c ∈ l, Red c) : (loF l = none ∧ l = []) ∨ ∃ b, loF l = some b ∧ b ∈ l ∧ ∀ c ∈ l, lessP c b = false :=
  foldB_none (G := Red) (fun _ => less_irr) (fun x y z a b c => less_trans a.pos b.pos c.pos) (fun x y z a b c => less_nt a.pos b.pos c.pos) hl
theorem hiF_none {l : List (Int × Int)} (hl : ∀ c ∈ l, Red c) : (hiF l = none ∧ l = []) ∨ ∃ b, hiF l = some b ∧ b ∈ l ∧ ∀ c ∈ l, lessP b c = false :=
  foldB_none (t := fun x y => lessP y x) (G := Red) (fun _ => less_irr) (fun x y z a b c h1 h2 => less_trans c.pos b.pos a.pos h2 h1) (fun x y z a b c h => (less_nt c.pos b.pos a.pos h).symm) hl
def bad0 (p : Int × Int) : Bool := decide (p.2 = 0) && decide (p.1 < 0)
/-- the bounds from above, from below -/
def ups (l : List (Int × Int)) : List (Int × Int) := (l.filter fun p => decide (0 < p.2)).map redP
def dns (l : List (Int × Int)) : List (Int × Int) := (l.filter fun p => decide (p.2 < 0)).map fun p => redP (-p.1, -p.2)
theorem ups_red {l : List (Int × Int)} : ∀ c ∈ ups l, Red c := fun c hc => by
  obtain ⟨p, hp, rfl⟩ := List.mem_map.mp hc
  exact redP_red (of_decide_eq_true (List.mem_filter.mp hp).2)
theorem dns_red {l : List (Int × Int)} : ∀ c ∈ dns l, Red c := fun c hc => by
  obtain ⟨p, hp, rfl⟩ := List.mem_map.mp hc
  have : p.2 < 0 := of_decide_eq_true (List.mem_filter.mp hp).2
  exact redP_red (show 0 < -p.2 by omega)
theorem ups_mem {l m : List (Int × Int)} (he : ∀ c, c ∈ l ↔ c ∈ m) (c : Int × Int) : c ∈ ups l ↔ c ∈ ups m := by
  simp only [ups, List.mem_map, List.mem_filter, he]
theorem dns_mem {l m : List (Int × Int)} (he : ∀ c, c ∈ l ↔ c ∈ m) (c : Int × Int) : c ∈ dns l ↔ c ∈ dns m := by
  simp only [dns, List.mem_map, List.mem_filter, he]
/-- the fractions that suit: none, or from a least to a greatest one -/
def suitF (l : List (Int × Int)) : Option (Option (Int × Int) × Option (Int × Int)) := if l.any bad0 = true then none else match hiF (dns l), loF (ups l) with
  | some a, some b => if lessP b a = true then none else some (some a, some b)
  | a, b => some (a, b)
theorem suitF_same {l m : List (Int × Int)} (he : ∀ c, c ∈ l ↔ c ∈ m) : suitF l = suitF m := by
  unfold suitF
  have e1 : l.any bad0 = m.any bad0 := by
    rw [Bool.eq_iff_iff, List.any_eq_true, List.any_eq_true]
    simp only [he]
  rw [e1, loF_same ups_red (ups_mem he), hiF_same dns_red (dns_mem he)]
end MP.PG
set_option Elab.async false
set_option linter.all false
set_option maxRecDepth 100000
set_option maxHeartbeats 1000000
namespace MP.PG
open PySem PySem.Spec MP
open PyProof.Rows hiding St
open L2 hiding St r1
def oP : Option (Int × Int) → Dv
  | none => .non
  | some p => tP p
def suD (l : List (Int × Int)) : Dv := match suitF l with
  | none => .non
  | some p => .tup [oP p.1, oP p.2]
abbrev SU : Type := Option (Int × Int) × Option (Int × Int)
def suS (st : SU) (p : Int × Int) : Dv ⊕ SU := if bad0 p = true then .inl .non else
  .inr (if p.2 < 0 then pick1 (fun x y => lessP y x) st.1 (redP (-p.1, -p.2)) else st.1, if 0 < p.2 then pick1 lessP st.2 (redP p) else st.2)
theorem runL_su : ∀ (l : List (Int × Int)) (a b : Option (Int × Int)), runL suS (a, b) l = if l.any bad0 = true then .inl .non else .inr (foldB (fun x y => lessP y x) a (dns l), foldB lessP b (ups l))
  | [], a, b => rfl
  | p :: l, a, b => by
    unfold runL
    cases h : bad0 p with
    | true =>
      unfold suS
      rw [h, if_pos rfl, List.any_cons, h]
      rfl
    | false =>
      have e : suS (a, b) p = .inr (if p.2 < 0 then pick1 (fun x y => lessP y x) a (redP (-p.1, -p.2)) else a, if 0 < p.2 then pick1 lessP b (redP p) else b) := by
        unfold suS
        rw [h, if_neg Bool.false_ne_true]
      rw [e]
      show runL suS (_, _) l = _
      rw [runL_su l, List.any_cons, h, Bool.false_or]
      congr 3
      · unfold dns
        by_cases hp : p.2 < 0
        · rw [if_pos hp, List.filter_cons, if_pos (decide_eq_true hp), List.map_cons]
          rfl
        · rw [if_neg hp, List.filter_cons, if_neg (by simpa using hp)]
      · unfold ups
        by_cases hp : 0 < p.2
        · rw [if_pos hp, List.filter_cons, if_pos (decide_eq_true hp), List.map_cons]
          rfl
        · rw [if_neg hp, List.filter_cons, if_neg (by simpa using hp)]
/-- a divisor above 0, of few digits -/
def SmF (p : Int × Int) : Prop := 0 < p.2 ∧ p.2 ≤ 1000000
def SmO (o : Option (Int × Int)) : Prop := ∀ p, o = some p → SmF p
theorem smO_pick {t : Int × Int → Int × Int → Bool} {o : Option (Int × Int)} {c : Int × Int} (h : SmO o) (hc : SmF c) : SmO (pick1 t o c) := fun p hp => by
  cases o with
  | none =>
    cases hp
    exact hc
  | some b =>
    have hp' : (if t c b = true then some c else some b) = some p := hp
    split at hp'
    · cases hp'
      exact hc
    · cases hp'
      exact h p rfl
section
variable {s : Sto}
theorem ne_ii {i j : Int} : neD s (.int i) (.int j) = some (.bl (!decide (i = j))) := ne_of_eq eq_ii
theorem ixP0 {p : Int × Int} : ixA s (tP p) (.int 0) = some (.int p.1) := ix_tup (k := 0) rfl
theorem ixP1 {p : Int × Int} : ixA s (tP p) (.int 1) = some (.int p.2) := ix_tup (k := 1) rfl
theorem less_ok {p q : Int × Int} (hp : SmF p) (hq : SmF q) : g_is_less [tP p, tP q] s = .ok (.bl (lessP p q)) s := by
  have e0 : startD 2 [tP p, tP q] = [some (tP p), some (tP q)] := rfl
  obtain ⟨a, b⟩ := hp
  obtain ⟨c, d⟩ := hq
  unfold g_is_less d_is_less
  rw [den_ev, e0, ret_v (w := .bl (lessP p q)) (bin_v (x := .int (p.1 * q.2)) (y := .int (q.1 * p.2)) (bin_v (x := .int p.1) (y := .int q.2) (bin_v (x := tP p) (y := .int 0) rfl k_ev ixP0) (bin_v (x := tP q) (y := .int 1) rfl k_ev ixP1) (mul_ii (cm_r ⟨by omega, by omega⟩)))
    (bin_v (x := .int q.1) (y := .int p.2) (bin_v (x := tP q) (y := .int 0) rfl k_ev ixP0) (bin_v (x := tP p) (y := .int 1) rfl k_ev ixP1) (mul_ii (cm_r ⟨by omega, by omega⟩))) rfl)]
  exact finC_rt
theorem gcd_v {a b : Int} : gcdD s [.int a, .int b] = some (.int (gc (a, b))) := rfl
theorem reduced_ok {p : Int × Int} (h : SmF p) : g_reduced [.int p.1, .int p.2] s = .ok (tP (redP p)) s := by
  have e0 : startD 3 [.int p.1, .int p.2] = [some (.int p.1), some (.int p.2), none] := rfl
  have g0 := gc_pos h.1
  have g1 := gc_le h.1
  have h2 := h.2
  unfold g_reduced d_reduced
  rw [den_ev, e0]
  refine fin_nx (asg_v (i := 2) (w := .int (gc p)) (blt_v (cons_v (w := .int p.1) rfl (cons_v (w := .int p.2) rfl nil_ev)) gcd_v)) ?_
  show finC s.length (mRet _ [some (.int p.1), some (.int p.2), some (.int (gc p))] s) = _
  rw [ret_v (w := tP (redP p)) (tup_v (cons_v (bin_v (x := .int p.1) (y := .int (gc p)) rfl rfl (div_ii g0 (by omega))) (cons_v (bin_v (x := .int p.2) (y := .int (gc p)) rfl rfl (div_ii g0 (by omega))) nil_ev)) (by simp))]
  exact finC_rt
theorem red_sm {p : Int × Int} (h : SmF p) : SmF (redP p) := ⟨(redP_red h.1).pos, Int.le_trans (redP_le h.1) h.2⟩
theorem isN_o {o : Option (Int × Int)} : isD s (oP o) .non = some (.bl o.isNone) := by cases o <;> rfl
theorem isntN_o {o : Option (Int × Int)} : isntD s (oP o) .non = some (.bl (!o.isNone)) := by cases o <;> rfl
/-- what the pairs must be -/
def PrB (l : List (Int × Int)) : Prop := ∀ p ∈ l, -1000000 ≤ p.2 ∧ p.2 ≤ 1000000
variable {rs os : List Int} {r : Nat}
theorem suits_ok (hs : Cl s) (h1 : Rule rs) (h2 : Rule os) (hr : r ≤ 6) {ps : List (Int × Int)} (hps : ps = (List.range (2 ^ (wdB rs os + r))).map (prF rs os r)) (hB : PrB ps) (hd : (ddP ps).length < 63) : g_suits [tI rs, tI os, .int (r : Int)] s = .ok (suD ps) s := by
  let E (x3 x4 x5 x6 x7 : Option Dv) : Env := [some (tI rs), some (tI os), some (.int (r : Int)), x3, x4, x5, x6, x7]
  have e0 : startD 8 [tI rs, tI os, .int (r : Int)] = E none none none none none := rfl
  have c1 : mExpr (mCall (g_need_pair) (mCons (mVar 0) (mCons (mVar 1) (mCons (mVar 2) mNil)))) (E none none none none none) s = .nx (E none none none none none) s :=
    expr_v (call_v (cons_v (w := tI rs) rfl (cons_v (w := tI os) rfl (cons_v (w := .int (r : Int)) rfl nil_ev))) (need_pair_ok h1 h2 hr))
  have c2 : mAsg (mTup (mCons (mK .non) (mCons (mK .non) mNil))) (gT 2 (gsC (gN 3) (gsC (gN 4) gs0))) (E none none none none none) s = .nx (E (some (oP none)) (some (oP none)) none none none) s :=
    asg_gv (tup_v (cons_v (w := .non) k_ev (cons_v (w := .non) k_ev nil_ev)) (by simp)) rfl
  have hsrc : F_suits_1 (E (some (oP none)) (some (oP none)) none none none) s = .ok { ws := (sortP ps).map tP } s := by
    have h : mCall (g_indexes_beside) (mCons (mVar 0) (mCons (mVar 1) (mCons (mVar 2) mNil))) (E (some (oP none)) (some (oP none)) none none none) s = .ok (.lst (ps.map tP)) s := by
      rw [hps, List.map_map]
      exact call_v (cons_v (w := tI rs) rfl (cons_v (w := tI os) rfl (cons_v (w := .int (r : Int)) rfl nil_ev))) (beside_ok hs h1 h2 hr)
    have h3 : mBlt sortedSetP (mCons (mCall (g_indexes_beside) (mCons (mVar 0) (mCons (mVar 1) (mCons (mVar 2) mNil)))) mNil) (E (some (oP none)) (some (oP none)) none none none) s = .ok (.lst ((sortP ps).map tP)) s := by
      refine blt_v (cons_v h nil_ev) ?_
      unfold sortedSetP
      dsimp only
      rw [pairsOf_map]
      exact if_pos hd
    show iSeq _ _ _ = _
    unfold iSeq
    rw [h3]
    rfl
  have hmem : ∀ p ∈ sortP ps, -1000000 ≤ p.2 ∧ p.2 ≤ 1000000 := fun p hp => hB p (mem_sortP.mp hp)
  have hU : ∀ x3 o x5 x6 c, SmO o → SmF c → mIfS (mOr (mTest (mBin isD (mVar 4) (mK .non))) (mTest (mCall (g_is_less) (mCons (mVar 7) (mCons (mVar 4) mNil))))) (mAsg (mVar 7) (gN 4)) mNext (E x3 (some (oP o)) x5 x6 (some (tP c))) s = .nx (E x3 (some (oP (pick1 lessP o c))) x5 x6 (some (tP c))) s := fun x3 o x5 x6 c ho hc => by
    have t1 : mTest (mBin isD (mVar 4) (mK .non)) (E x3 (some (oP o)) x5 x6 (some (tP c))) s = .ok o.isNone s := test_v (bin_v (x := oP o) (y := .non) rfl k_ev isN_o)
    cases o with
    | none =>
      rw [ifS_t (or_t t1)]
      exact asg_v (w := tP c) rfl
    | some b =>
      have t2 : mTest (mCall (g_is_less) (mCons (mVar 7) (mCons (mVar 4) mNil))) (E x3 (some (oP (some b))) x5 x6 (some (tP c))) s = .ok (lessP c b) s := test_v (call_v (cons_v (w := tP c) rfl (cons_v (w := tP b) rfl nil_ev)) (less_ok hc (ho b rfl)))
      have t3 := or_f t1 t2
      show _ = C.nx (E x3 (some (oP (if lessP c b = true then some c else some b))) x5 x6 (some (tP c))) s
      cases hl : lessP c b with
      | true =>
        rw [hl] at t3
        rw [ifS_t t3, if_pos rfl]
        exact asg_v (w := tP c) rfl
      | false =>
        rw [hl] at t3
        rw [ifS_f t3, if_neg Bool.false_ne_true]
        rfl
  have hD : ∀ x4 o x5 x6 c, SmO o → SmF c → mIfS (mOr (mTest (mBin isD (mVar 3) (mK .non))) (mTest (mCall (g_is_less) (mCons (mVar 3) (mCons (mVar 7) mNil))))) (mAsg (mVar 7) (gN 3)) mNext (E (some (oP o)) x4 x5 x6 (some (tP c))) s = .nx (E (some (oP (pick1 (fun x y => lessP y x) o c))) x4 x5 x6 (some (tP c))) s := fun x4 o x5 x6 c ho hc => by
    have t1 : mTest (mBin isD (mVar 3) (mK .non)) (E (some (oP o)) x4 x5 x6 (some (tP c))) s = .ok o.isNone s := test_v (bin_v (x := oP o) (y := .non) rfl k_ev isN_o)
    cases o with
    | none =>
      rw [ifS_t (or_t t1)]
      exact asg_v (w := tP c) rfl
    | some b =>
      have t2 : mTest (mCall (g_is_less) (mCons (mVar 3) (mCons (mVar 7) mNil))) (E (some (oP (some b))) x4 x5 x6 (some (tP c))) s = .ok (lessP b c) s := test_v (call_v (cons_v (w := tP b) rfl (cons_v (w := tP c) rfl nil_ev)) (less_ok (ho b rfl) hc))
      have t3 := or_f t1 t2
      show _ = C.nx (E (some (oP (if lessP b c = true then some c else some b))) x4 x5 x6 (some (tP c))) s
      cases hl : lessP b c with
      | true =>
        rw [hl] at t3
        rw [ifS_t t3, if_pos rfl]
        exact asg_v (w := tP c) rfl
      | false =>
        rw [hl] at t3
        rw [ifS_f t3, if_neg Bool.false_ne_true]
        rfl
  have c3 := for_run (F := F_suits_1) (g := t_suits_1) (body := b_suits_1) (ρ := E (some (oP none)) (some (oP none)) none none none) (s0 := s) (s := s) (l := sortP ps) (e := tP)
    (fun (st : SU) ρ => SmO st.1 ∧ SmO st.2 ∧ ∃ x5 x6 x7, ρ = E (some (oP st.1)) (some (oP st.2)) x5 x6 x7) suS (none, none) hsrc ⟨(fun _ h => nomatch h), (fun _ h => nomatch h), _, _, _, rfl⟩ fun p hp st ρ ⟨ha, hb, x5, x6, x7, hρ⟩ => by
      subst hρ
      obtain ⟨a, b⟩ := st
      have hpb := hmem p hp
      refine ⟨E (some (oP a)) (some (oP b)) (some (.int p.1)) (some (.int p.2)) x7, rfl, ?_⟩
      let ρ1 := E (some (oP a)) (some (oP b)) (some (.int p.1)) (some (.int p.2)) x7
      have t1 : mAnd (mTest (mBin eqD (mVar 6) (mK (.int 0)))) (mTest (mBin ltD (mVar 5) (mK (.int 0)))) ρ1 s = .ok (bad0 p) s := by
        have u1 : mTest (mBin eqD (mVar 6) (mK (.int 0))) ρ1 s = .ok (decide (p.2 = 0)) s := test_v (bin_v (x := .int p.2) (y := .int 0) rfl k_ev eq_ii)
        have u2 : mTest (mBin ltD (mVar 5) (mK (.int 0))) ρ1 s = .ok (decide (p.1 < 0)) s := test_v (bin_v (x := .int p.1) (y := .int 0) rfl k_ev lt_ii)
        unfold bad0
        cases hz : decide (p.2 = 0) with
        | true =>
          rw [hz] at u1
          rw [and_t u1 u2]
          rfl
        | false =>
          rw [hz] at u1
          exact and_f u1
      unfold suS b_suits_1
      cases hbad : bad0 p with
      | true =>
        rw [hbad] at t1
        rw [if_pos rfl, seq_ev, ifS_t t1, ret_v (w := .non) k_ev]
        rfl
      | false =>
        rw [hbad] at t1
        rw [if_neg Bool.false_ne_true]
        have k1 : mIfS (mAnd (mTest (mBin eqD (mVar 6) (mK (.int 0)))) (mTest (mBin ltD (mVar 5) (mK (.int 0))))) (mRet (mK .non)) mNext ρ1 s = .nx ρ1 s := by rw [ifS_f t1]; rfl
        have t2 : mTest (mBin gtD (mVar 6) (mK (.int 0))) ρ1 s = .ok (decide (0 < p.2)) s := test_v (bin_v (x := .int p.2) (y := .int 0) rfl k_ev gt_ii)
        have t3 : ∀ x4 x7, mTest (mBin ltD (mVar 6) (mK (.int 0))) (E (some (oP a)) x4 (some (.int p.1)) (some (.int p.2)) x7) s = .ok (decide (p.2 < 0)) s := fun _ _ => test_v (bin_v (x := .int p.2) (y := .int 0) rfl k_ev lt_ii)
        by_cases hpos : 0 < p.2
        · have sp : SmF p := ⟨hpos, hpb.2⟩
          rw [decide_eq_true hpos] at t2
          have k2 := seq_nx (asg_v (i := 7) (ρ := ρ1) (w := tP (redP p)) (call_v (d := g_reduced) (fa := mCons (mVar 5) (mCons (mVar 6) mNil)) (cons_v (w := .int p.1) rfl (cons_v (w := .int p.2) rfl nil_ev)) (reduced_ok (s := s) sp))) (hU (some (oP a)) b (some (.int p.1)) (some (.int p.2)) (redP p) hb (red_sm sp))
          have t4 := t3 (some (oP (pick1 lessP b (redP p)))) (some (tP (redP p)))
          rw [decide_eq_false (by omega)] at t4
          rw [if_neg (by omega), if_pos hpos]
          refine ⟨_, seq_nx k1 (seq_nx ((ifS_t t2).trans k2) ((ifS_f t4).trans rfl)), ha, smO_pick (t := lessP) (o := b) hb (red_sm sp), _, _, _, rfl⟩
        · rw [decide_eq_false hpos] at t2
          have k2 : mIfS (mTest (mBin gtD (mVar 6) (mK (.int 0)))) (mSeq (mAsg (mCall (g_reduced) (mCons (mVar 5) (mCons (mVar 6) mNil))) (gN 7)) (mIfS (mOr (mTest (mBin isD (mVar 4) (mK .non))) (mTest (mCall (g_is_less) (mCons (mVar 7) (mCons (mVar 4) mNil))))) (mAsg (mVar 7) (gN 4)) mNext)) mNext ρ1 s = .nx ρ1 s := by rw [ifS_f t2]; rfl
          have t4 := t3 (some (oP b)) x7
          by_cases hneg : p.2 < 0
          · have sp : SmF (-p.1, -p.2) := ⟨by show 0 < -p.2; omega, by show -p.2 ≤ _; omega⟩
            rw [decide_eq_true hneg] at t4
            have k3 := seq_nx (asg_v (i := 7) (ρ := ρ1) (w := tP (redP (-p.1, -p.2))) (call_v (d := g_reduced) (fa := mCons (mUn negD (mVar 5)) (mCons (mUn negD (mVar 6)) mNil)) (cons_v (w := .int (-p.1)) rfl (cons_v (w := .int (-p.2)) rfl nil_ev)) (reduced_ok (s := s) sp))) (hD (some (oP b)) a (some (.int p.1)) (some (.int p.2)) (redP (-p.1, -p.2)) ha (red_sm sp))
            rw [if_pos hneg, if_neg hpos]
            exact ⟨_, seq_nx k1 (seq_nx k2 ((ifS_t t4).trans k3)), smO_pick (t := fun x y => lessP y x) (o := a) ha (red_sm sp), hb, _, _, _, rfl⟩
          · rw [decide_eq_false hneg] at t4
            rw [if_neg hneg, if_neg hpos]
            exact ⟨_, seq_nx k1 (seq_nx k2 ((ifS_f t4).trans rfl)), ha, hb, _, _, _, rfl⟩
  rw [runL_su] at c3
  have eq : suD ps = suD (sortP ps) := by
    unfold suD
    rw [suitF_same (l := sortP ps) (m := ps) fun c => mem_sortP]
  rw [eq]
  unfold g_suits d_suits
  rw [den_ev, e0]
  refine fin_nx c1 (fin_nx c2 ?_)
  unfold suD suitF
  by_cases hbad : (sortP ps).any bad0 = true
  · rw [if_pos hbad] at c3 ⊢
    rw [seq_ev, show mFor F_suits_1 t_suits_1 b_suits_1 (E (some (oP none)) (some (oP none)) none none none) s = .rt .non s from c3]
    exact finC_rt
  · rw [if_neg hbad] at c3 ⊢
    obtain ⟨ρ', k1, ha, hb, x5, x6, x7, hρ⟩ := c3
    change SmO (hiF (dns (sortP ps))) at ha
    change SmO (loF (ups (sortP ps))) at hb
    change ρ' = E (some (oP (hiF (dns (sortP ps))))) (some (oP (loF (ups (sortP ps))))) x5 x6 x7 at hρ
    subst hρ
    refine fin_nx k1 ?_
    generalize hiF (dns (sortP ps)) = a at ha ⊢
    generalize loF (ups (sortP ps)) = b at hb ⊢
    have u1 : mTest (mBin isntD (mVar 3) (mK .non)) (E (some (oP a)) (some (oP b)) x5 x6 x7) s = .ok (!a.isNone) s := test_v (bin_v (x := oP a) (y := .non) rfl k_ev isntN_o)
    have u2 : mTest (mBin isntD (mVar 4) (mK .non)) (E (some (oP a)) (some (oP b)) x5 x6 x7) s = .ok (!b.isNone) s := test_v (bin_v (x := oP b) (y := .non) rfl k_ev isntN_o)
    have ret : finC s.length (mRet (mTup (mCons (mVar 3) (mCons (mVar 4) mNil))) (E (some (oP a)) (some (oP b)) x5 x6 x7) s) = .ok (.tup [oP a, oP b]) s := by
      rw [ret_v (w := .tup [oP a, oP b]) (tup_v (cons_v (w := oP a) rfl (cons_v (w := oP b) rfl nil_ev)) (by simp))]
      exact finC_rt
    cases a with
    | none =>
      refine fin_nx (ifS_f (and_f u1)) ?_
      exact ret
    | some a =>
      cases b with
      | none =>
        refine fin_nx (ifS_f (and_t u1 (and_f u2))) ?_
        exact ret
      | some b =>
        have u3 : mTest (mCall (g_is_less) (mCons (mVar 4) (mCons (mVar 3) mNil))) (E (some (oP (some a))) (some (oP (some b))) x5 x6 x7) s = .ok (lessP b a) s := test_v (call_v (cons_v (w := tP b) rfl (cons_v (w := tP a) rfl nil_ev)) (less_ok (hb b rfl) (ha a rfl)))
        have u4 := and_t u1 (and_t u2 u3)
        dsimp only
        cases hl : lessP b a with
        | true =>
          rw [hl] at u4
          rw [seq_ev, ifS_t u4, ret_v (w := .non) k_ev, if_pos rfl]
          exact finC_rt
        | false =>
          rw [hl] at u4
          rw [if_neg Bool.false_ne_true]
          refine fin_nx (ifS_f u4) ?_
          exact ret
end
end MP.PG
set_option Elab.async false
set_option linter.all false
set_option maxRecDepth 100000
set_option maxHeartbeats 1000000
namespace MP.PG
open PySem PySem.Spec MP
open PyProof.Rows hiding St
open L2 hiding St r1
theorem red_less {p q : Int × Int} (h : 0 < p.2) : lessP (redP p) q = lessP p q ∧ lessP q (redP p) = lessP q p := by
  have g0 := gc_pos h
  obtain ⟨a, ha⟩ := gc_d1 (p := p)
  obtain ⟨b, hb⟩ := gc_d2 (p := p)
  have e1 : p.1 / gc p = a := by
    rw [ha.trans (Int.mul_comm _ _)]
    exact Int.mul_ediv_cancel _ (by omega)
  have e2 : p.2 / gc p = b := by
    rw [hb.trans (Int.mul_comm _ _)]
    exact Int.mul_ediv_cancel _ (by omega)
  have m : ∀ x y : Int, (gc p * x < gc p * y) ↔ x < y := fun x y => ⟨fun z => Int.lt_of_mul_lt_mul_left z (by omega), fun z => Int.mul_lt_mul_of_pos_left z g0⟩
  unfold lessP redP
  dsimp only
  rw [e1, e2]
  constructor
  · rw [decide_eq_decide, ← m (a * q.2) (q.1 * b)]
    have x1 : gc p * (a * q.2) = p.1 * q.2 := by rw [← Int.mul_assoc, ← ha]
    have x2 : gc p * (q.1 * b) = q.1 * p.2 := by rw [Int.mul_left_comm, ← hb]
    rw [x1, x2]
  · rw [decide_eq_decide, ← m (q.1 * b) (a * q.2)]
    have x1 : gc p * (a * q.2) = p.1 * q.2 := by rw [← Int.mul_assoc, ← ha]
    have x2 : gc p * (q.1 * b) = q.1 * p.2 := by rw [Int.mul_left_comm, ← hb]
    rw [x1, x2]
/-- what suits holds for each pair -/
theorem suit_le {ps : List (Int × Int)} {a b : Option (Int × Int)} (h : suitF ps = some (a, b)) (e : Int × Int) (he : a = some e ∨ b = some e) : 0 < e.2 ∧ e ∈ dns ps ++ ups ps ∧ ∀ p ∈ ps, e.1 * p.2 ≤ p.1 * e.2 := by
  unfold suitF at h
  by_cases hb : ps.any bad0 = true
  · rw [if_pos hb] at h
    cases h
  · rw [if_neg hb] at h
    have good : ∀ p ∈ ps, p.2 = 0 → 0 ≤ p.1 := fun p hp h0 => by
      rcases Int.lt_or_le p.1 0 with z | z
      · exact absurd (List.any_eq_true.mpr ⟨p, hp, by unfold bad0; rw [decide_eq_true h0, decide_eq_true z]; rfl⟩) hb
      · exact z
    have hA := hiF_none (l := dns ps) dns_red
    have hB := loF_none (l := ups ps) ups_red
    have mU : ∀ p ∈ ps, 0 < p.2 → redP p ∈ ups ps := fun p hp h0 => List.mem_map_of_mem (List.mem_filter.mpr ⟨hp, decide_eq_true h0⟩)
    have mD : ∀ p ∈ ps, p.2 < 0 → redP (-p.1, -p.2) ∈ dns ps := fun p hp h0 => List.mem_map_of_mem (f := fun p : Int × Int => redP (-p.1, -p.2)) (List.mem_filter.mpr ⟨hp, decide_eq_true h0⟩)
    have hab : a = hiF (dns ps) ∧ b = loF (ups ps) ∧ ∀ x y, a = some x → b = some y → lessP y x = false := by
      generalize hiF (dns ps) = A at h hA
      generalize loF (ups ps) = B at h hB
      cases A with
      | none => cases h; exact ⟨rfl, rfl, fun _ _ z => nomatch z⟩
      | some x =>
        cases B with
        | none => cases h; exact ⟨rfl, rfl, fun _ _ _ z => nomatch z⟩
        | some y =>
          dsimp only at h
          cases hl : lessP y x with
          | true => rw [hl, if_pos rfl] at h; cases h
          | false =>
            rw [hl, if_neg Bool.false_ne_true] at h
            cases h
            refine ⟨rfl, rfl, fun x' y' z1 z2 => ?_⟩
            cases z1
            cases z2
            exact hl
    obtain ⟨ea, eb, hl⟩ := hab
    rw [← ea] at hA
    rw [← eb] at hB
    have sA : ∀ x, a = some x → x ∈ dns ps ∧ ∀ c ∈ dns ps, lessP x c = false := fun x hx => by
      rcases hA with ⟨z, _⟩ | ⟨y, z, h1, h2⟩
      · rw [hx] at z; cases z
      · rw [hx] at z
        cases z
        exact ⟨h1, h2⟩
    have sB : ∀ x, b = some x → x ∈ ups ps ∧ ∀ c ∈ ups ps, lessP c x = false := fun x hx => by
      rcases hB with ⟨z, _⟩ | ⟨y, z, h1, h2⟩
      · rw [hx] at z; cases z
      · rw [hx] at z
        cases z
        exact ⟨h1, h2⟩
    have nt' : ∀ {x y z : Int × Int}, 0 < x.2 → 0 < y.2 → 0 < z.2 → lessP x y = false → lessP y z = false → lessP x z = false := fun p1 p2 p3 h1 h2 => by
      cases q : lessP _ _ with
      | false => rfl
      | true =>
        rcases less_nt p1 p2 p3 q with w | w
        · rw [h1] at w; cases w
        · rw [h2] at w; cases w
    -- up: p above 0 is not less than e
    have up : ∀ p ∈ ps, 0 < p.2 → 0 < e.2 ∧ lessP p e = false := fun p hp h0 => by
      have hex : ∃ y, b = some y := by
        rcases hB with ⟨_, z⟩ | ⟨y, z, _⟩
        · have := mU p hp h0
          rw [z] at this
          cases this
        · exact ⟨y, z⟩
      obtain ⟨y, hy⟩ := hex
      have hy1 := sB y hy
      have py := (ups_red y hy1.1).pos
      have l1 : lessP p y = false := by
        rw [← (red_less h0).1]
        exact hy1.2 _ (mU p hp h0)
      rcases he with he | he
      · have hx1 := sA e he
        have pe := (dns_red e hx1.1).pos
        exact ⟨pe, nt' h0 py pe l1 (hl e y he hy)⟩
      · rw [hy] at he
        cases he
        exact ⟨py, l1⟩
    have dn : ∀ p ∈ ps, p.2 < 0 → 0 < e.2 ∧ lessP e (-p.1, -p.2) = false := fun p hp h0 => by
      have hex : ∃ y, a = some y := by
        rcases hA with ⟨_, z⟩ | ⟨y, z, _⟩
        · have := mD p hp h0
          rw [z] at this
          cases this
        · exact ⟨y, z⟩
      obtain ⟨y, hy⟩ := hex
      have hy1 := sA y hy
      have py := (dns_red y hy1.1).pos
      have hq : 0 < (-p.1, -p.2).2 := by show 0 < -p.2; omega
      have l1 : lessP y (-p.1, -p.2) = false := by
        rw [← (red_less hq).2]
        exact hy1.2 _ (mD p hp h0)
      rcases he with he | he
      · rw [hy] at he
        cases he
        exact ⟨py, l1⟩
      · have hx1 := sB e he
        have pe := (ups_red e hx1.1).pos
        exact ⟨pe, nt' pe py hq (hl y e hy he) l1⟩
    have pe : 0 < e.2 ∧ e ∈ dns ps ++ ups ps := by
      rcases he with he | he
      · exact ⟨(dns_red e (sA e he).1).pos, List.mem_append_left _ (sA e he).1⟩
      · exact ⟨(ups_red e (sB e he).1).pos, List.mem_append_right _ (sB e he).1⟩
    refine ⟨pe.1, pe.2, fun p hp => ?_⟩
    rcases Int.lt_trichotomy p.2 0 with z | z | z
    · have h1 := (dn p hp z).2
      unfold lessP at h1
      have h2 := of_decide_eq_false h1
      dsimp only at h2
      have e1 : e.1 * -p.2 = -(e.1 * p.2) := Int.mul_neg _ _
      have e2 : -p.1 * e.2 = -(p.1 * e.2) := Int.neg_mul _ _
      omega
    · rw [z, Int.mul_zero]
      exact Int.mul_nonneg (good p hp z) (by omega)
    · have h1 := (up p hp z).2
      unfold lessP at h1
      have h2 := of_decide_eq_false h1
      omega
theorem num_split {bs : List Nat} {r : Nat} (hb : Bits01 bs) (hr : r ≤ bs.length) : num (bs.take (bs.length - r)) = num bs / 2 ^ r := by
  have e : bs = bs.take (bs.length - r) ++ bs.drop (bs.length - r) := (List.take_append_drop _ _).symm
  have hl : (bs.drop (bs.length - r)).length = r := by rw [List.length_drop]; omega
  have h2 : num bs = num (bs.take (bs.length - r)) * 2 ^ r + num (bs.drop (bs.length - r)) := by
    conv => lhs; rw [e]
    unfold num
    rw [List.reverse_append, rnum_app, List.length_reverse, hl]
  have h3 : num (bs.drop (bs.length - r)) < 2 ^ r := by
    have := rnum_lt (r := (bs.drop (bs.length - r)).reverse) (fun c hc => hb c (List.mem_of_mem_drop (List.mem_reverse.mp hc)))
    rw [List.length_reverse, hl] at this
    exact this
  rw [h2, Nat.mul_comm, Nat.mul_add_div (Nat.pow_pos (by omega)), Nat.div_eq_of_lt h3, Nat.add_zero]
section
variable {rs os : List Int} {r : Nat}
/-- the layer of a row at a level, its number -/
def layB (q : Int) (ns : List Int) : List Nat := ns.map fun n => if q ≤ n then 1 else 0
theorem layB_bits {q : Int} {ns : List Int} : Bits01 (layB q ns) := fun b hb => by
  obtain ⟨n, _, rfl⟩ := List.mem_map.mp hb
  split <;> omega
theorem lay_toI {q : Int} {ns : List Int} : lay q ns = toI (layB q ns) := by
  unfold lay layB toI
  rw [List.map_map]
  refine List.map_congr_left fun n _ => ?_
  show at1 q n = ((if q ≤ n then 1 else 0 : Nat) : Int)
  unfold at1
  split <;> rfl
def layN (rs os : List Int) (r : Nat) (q : Int) (ns : List Int) : Nat := num (layB q ns) % 2 ^ (wdB rs os + r)
theorem lay_pair {q : Int} {ns : List Int} (hl : wdB rs os + r ≤ ns.length) : ixe rs (lay q ns) (ns.length - r) = (prF rs os r (layN rs os r q ns)).1 ∧ ixe os (lay q ns) ns.length = (prF rs os r (layN rs os r q ns)).2 := by
  have h1 : rs.length ≤ wdB rs os := Nat.le_max_left _ _
  have h2 : os.length ≤ wdB rs os := Nat.le_max_right _ _
  have len : (layB q ns).length = ns.length := by unfold layB; rw [List.length_map]
  rw [lay_toI, ixe_bits layB_bits (by omega) (by omega), ixe_bits layB_bits (by omega) (by omega)]
  unfold prF layN
  constructor
  · show idb rs _ = idb rs _
    congr 2
    rw [← len, num_split layB_bits (by omega), Nat.add_comm, Nat.pow_add, Nat.mod_mul_right_div_self]
    rw [Nat.mod_mod_of_dvd _ (Nat.pow_dvd_pow 2 h1)]
  · show idb os _ = idb os _
    congr 2
    rw [← len, List.take_length, Nat.mod_mod_of_dvd _ (Nat.pow_dvd_pow 2 (by omega))]
theorem SL_le {M : Nat} {f g : Int × Int → Int} (h : ∀ q, f q ≤ g q) : SL (ul M) f ≤ SL (ul M) g := by
  induction M with
  | zero => exact Int.le_refl _
  | succ M ih =>
    rw [ul_succ, ul_succ]
    have := h ((M : Int) + 1, 1)
    omega
theorem layN_lt {q : Int} {ns : List Int} : layN rs os r q ns < 2 ^ (wdB rs os + r) := Nat.mod_lt _ (Nat.pow_pos (by omega))
theorem film_sums {ns : List Int} {M : Nat} (hn : ∀ n ∈ ns, 0 ≤ n ∧ n ≤ M) (hl : wdB rs os + r ≤ ns.length) : ixe rs ns (ns.length - r) = SL (ul M) (fun q => (prF rs os r (layN rs os r q.1 ns)).1) ∧ ixe os ns ns.length = SL (ul M) (fun q => (prF rs os r (layN rs os r q.1 ns)).2) := by
  have hL : ∀ n ∈ ns, SL (ul M) (fun q => at1 q.1 n) = n := fun n h => by
    rw [ul_val (hn n h).1, if_pos (hn n h).2]
  constructor
  · rw [← ixe_lay (L := ul M) hL]
    congr 1
    funext q
    exact (lay_pair hl).1
  · rw [← ixe_lay (L := ul M) hL]
    congr 1
    funext q
    exact (lay_pair hl).2
/-- never above for bits: never above for results -/
theorem film_below {ns : List Int} {M : Nat} (hn : ∀ n ∈ ns, 0 ≤ n ∧ n ≤ M) (hl : wdB rs os + r ≤ ns.length) (h : abN rs os r = none) : ixe rs ns (ns.length - r) ≤ ixe os ns ns.length := by
  rw [(film_sums hn hl).1, (film_sums hn hl).2]
  refine SL_le fun q => ?_
  have z := List.find?_eq_none.mp h (layN rs os r q.1 ns) (List.mem_range.mpr layN_lt)
  unfold isAb at z
  have z' := of_decide_eq_false (Bool.eq_false_iff.mpr z)
  omega
theorem film_suit {ns : List Int} {M : Nat} (hn : ∀ n ∈ ns, 0 ≤ n ∧ n ≤ M) (hl : wdB rs os + r ≤ ns.length) {e : Int × Int} (h : ∀ n, n < 2 ^ (wdB rs os + r) → e.1 * (prF rs os r n).2 ≤ (prF rs os r n).1 * e.2) : e.1 * ixe os ns ns.length ≤ ixe rs ns (ns.length - r) * e.2 := by
  rw [(film_sums hn hl).1, (film_sums hn hl).2, ← SL_mul, Int.mul_comm, ← SL_mul]
  refine SL_le fun q => ?_
  have := h (layN rs os r q.1 ns) layN_lt
  rw [Int.mul_comm (prF rs os r (layN rs os r q.1 ns)).1] at this
  exact this
end
end MP.PG
set_option Elab.async false
set_option linter.all false
set_option maxRecDepth 100000
set_option maxHeartbeats 1000000
namespace MP.PG
open PySem PySem.Spec MP
open PyProof.Rows hiding St
open L2 hiding St r1
theorem sum_rng : ∀ l : List Int, (∀ r ∈ l, -20 ≤ r ∧ r ≤ 20) → -(20 * (l.length : Int)) ≤ l.sum ∧ l.sum ≤ 20 * (l.length : Int)
  | [], _ => by simp
  | x :: l, h => by
    have h1 := h x List.mem_cons_self
    have h2 := sum_rng l fun r hr => h r (List.mem_cons_of_mem _ hr)
    rw [List.sum_cons, List.length_cons]
    omega
section
variable {rs os : List Int} {r : Nat}
theorem idb_rng (h : Rule rs) (k : Nat) : -120 ≤ idb rs k ∧ idb rs k ≤ 120 := by
  have h6 := h.six
  have z := sum_rng (rs.reverse.take k) fun r hr => by
    have := h.ok r (List.mem_reverse.mp (List.mem_of_mem_take hr))
    omega
  have hl : (rs.reverse.take k).length ≤ 6 := by rw [List.length_take, List.length_reverse]; omega
  unfold idb
  omega
theorem prF_rng (h1 : Rule rs) (h2 : Rule os) (n : Nat) : (-120 ≤ (prF rs os r n).1 ∧ (prF rs os r n).1 ≤ 120) ∧ -120 ≤ (prF rs os r n).2 ∧ (prF rs os r n).2 ≤ 120 := ⟨idb_rng h1 _, idb_rng h2 _⟩
def psL (rs os : List Int) (r : Nat) : List (Int × Int) := (List.range (2 ^ (wdB rs os + r))).map (prF rs os r)
theorem ps_rng (h1 : Rule rs) (h2 : Rule os) : ∀ p ∈ psL rs os r, (-120 ≤ p.1 ∧ p.1 ≤ 120) ∧ -120 ≤ p.2 ∧ p.2 ≤ 120 := fun p hp => by
  obtain ⟨n, _, rfl⟩ := List.mem_map.mp hp
  exact prF_rng h1 h2 n
theorem ps_few (h1 : Rule rs) (h2 : Rule os) : (ddP (psL rs os r)).length < 63 := by
  have a := h1.six
  have b := h2.six
  have z := nodup_le (M := ddP (psL rs os r)) (N := (List.range (rs.length + 1)).flatMap fun i => (List.range (os.length + 1)).map fun j => (idb rs i, idb os j)) nodup_ddP fun p hp => by
    obtain ⟨n, _, rfl⟩ := List.mem_map.mp (mem_ddP.mp hp)
    refine List.mem_flatMap.mpr ⟨pop (n / 2 ^ r % 2 ^ rs.length), List.mem_range.mpr ?_, List.mem_map.mpr ⟨pop (n % 2 ^ os.length), List.mem_range.mpr ?_, rfl⟩⟩
    · have := pop_lt (w := rs.length) (n := n / 2 ^ r % 2 ^ rs.length) (Nat.mod_lt _ (Nat.pow_pos (by omega)))
      omega
    · have := pop_lt (w := os.length) (n := n % 2 ^ os.length) (Nat.mod_lt _ (Nat.pow_pos (by omega)))
      omega
  rw [List.length_flatMap] at z
  simp only [List.length_map, List.length_range] at z
  rw [sum_const, List.length_range] at z
  have hm : (rs.length + 1) * (os.length + 1) ≤ 7 * 7 := Nat.mul_le_mul (by omega) (by omega)
  omega
theorem red_rng {p : Int × Int} (h : 0 < p.2) (h1 : -120 ≤ p.1 ∧ p.1 ≤ 120) (h2 : p.2 ≤ 120) : (-120 ≤ (redP p).1 ∧ (redP p).1 ≤ 120) ∧ 0 < (redP p).2 ∧ (redP p).2 ≤ 120 := by
  have a := redP_le h
  have b := (redP_red h).pos
  have c : (p.1 / gc p).natAbs ≤ p.1.natAbs := Int.natAbs_ediv_le_natAbs _ _
  refine ⟨?_, b, by omega⟩
  show -120 ≤ p.1 / gc p ∧ p.1 / gc p ≤ 120
  omega
theorem end_rng (h1 : Rule rs) (h2 : Rule os) {e : Int × Int} (he : e ∈ dns (psL rs os r) ++ ups (psL rs os r)) : (-120 ≤ e.1 ∧ e.1 ≤ 120) ∧ 0 < e.2 ∧ e.2 ≤ 120 := by
  rcases List.mem_append.mp he with he | he
  · obtain ⟨p, hp, rfl⟩ := List.mem_map.mp he
    obtain ⟨hp1, hp2⟩ := List.mem_filter.mp hp
    have hp2 := of_decide_eq_true hp2
    have := ps_rng h1 h2 p hp1
    exact red_rng (show 0 < -p.2 by omega) ⟨by show -120 ≤ -p.1; omega, by show -p.1 ≤ 120; omega⟩ (by show -p.2 ≤ 120; omega)
  · obtain ⟨p, hp, rfl⟩ := List.mem_map.mp he
    obtain ⟨hp1, hp2⟩ := List.mem_filter.mp hp
    have hp2 := of_decide_eq_true hp2
    have := ps_rng h1 h2 p hp1
    exact red_rng hp2 this.1 this.2.2
theorem suits_all {s : Sto} (hs : Cl s) (h1 : Rule rs) (h2 : Rule os) (hr : r ≤ 6) : g_suits [tI rs, tI os, .int (r : Int)] s = .ok (suD (psL rs os r)) s :=
  suits_ok hs h1 h2 hr rfl (fun p hp => by have := ps_rng h1 h2 p hp; omega) (ps_few h1 h2)
end
end MP.PG
set_option Elab.async false
set_option linter.all false
set_option maxRecDepth 100000
set_option maxHeartbeats 4000000
namespace MP.K44
open PySem PySem.Spec PyProof.Rows L2 MP MP.PG
def topS (i : Nat) : Stmt := PySem.Challenge.pw_bestoflast_k44_whole_rules_beside.main.body.getD i (.Pass ⟨0, 0, 0, 0⟩)
structure Ns (Γ : Ct) (mg : Str → Option Value) : Prop where
  n_abs : mg "abs" = none
  n_divmod : mg "divmod" = none
  n_enumerate : mg "enumerate" = none
  n_int : mg "int" = none
  n_isinstance : mg "isinstance" = none
  n_len : mg "len" = none
  n_max : mg "max" = none
  n_min : mg "min" = none
  n_range : mg "range" = none
  n_repr : mg "repr" = none
  n_set : mg "set" = none
  n_sorted : mg "sorted" = none
  n_sum : mg "sum" = none
  n_tuple : mg "tuple" = none
  n_zip : mg "zip" = none
  c_BITS : ∃ u, mg "BITS" = some u ∧ KRV Γ.K (.tup [.int 0, .int 1]) u
  c_GREATEST_WEIGHT : ∃ t, mg "GREATEST_WEIGHT" = some (.int 20 t)
  c_MOST_ROUNDS : ∃ t, mg "MOST_ROUNDS" = some (.int 6 t)
  c_MOST_WEIGHTS : ∃ t, mg "MOST_WEIGHTS" = some (.int 6 t)
  g_gcd : mg "gcd" = some (.builtin "math.gcd")
abbrev s_is_int : Stmt := topS 6
theorem sc_is_int : FnScope ["thing"] ["thing"] (defScope s_is_int) := ⟨rfl, rfl, rfl, by decide +kernel, rfl, by decide +kernel, by decide +kernel⟩
abbrev s_is_int_within : Stmt := topS 7
theorem sc_is_int_within : FnScope ["thing", "least", "most"] ["thing", "least", "most"] (defScope s_is_int_within) := ⟨rfl, rfl, rfl, by decide +kernel, rfl, by decide +kernel, by decide +kernel⟩
abbrev s_is_tuple : Stmt := topS 8
theorem sc_is_tuple : FnScope ["thing", "least", "most"] ["thing", "least", "most"] (defScope s_is_tuple) := ⟨rfl, rfl, rfl, by decide +kernel, rfl, by decide +kernel, by decide +kernel⟩
abbrev s_first_outside : Stmt := topS 9
theorem sc_first_outside : FnScope ["things", "least", "most", "number", "thing"] ["things", "least", "most"] (defScope s_first_outside) := ⟨rfl, rfl, rfl, by decide +kernel, rfl, by decide +kernel, by decide +kernel⟩
abbrev s_need_rule : Stmt := topS 13
theorem sc_need_rule : FnScope ["thing", "number"] ["thing"] (defScope s_need_rule) := ⟨rfl, rfl, rfl, by decide +kernel, rfl, by decide +kernel, by decide +kernel⟩
abbrev s_indexes_by_ones : Stmt := topS 14
theorem sc_indexes_by_ones : FnScope ["rule", "told", "weight"] ["rule"] (defScope s_indexes_by_ones) := ⟨rfl, rfl, rfl, by decide +kernel, rfl, by decide +kernel, by decide +kernel⟩
abbrev s_many_of : Stmt := topS 17
theorem sc_many_of : FnScope ["base", "wide", "many", "_"] ["base", "wide"] (defScope s_many_of) := ⟨rfl, rfl, rfl, by decide +kernel, rfl, by decide +kernel, by decide +kernel⟩
abbrev s_signs_of : Stmt := topS 18
theorem sc_signs_of : FnScope ["number", "signs", "wide", "told", "_", "figure"] ["number", "signs", "wide"] (defScope s_signs_of) := ⟨rfl, rfl, rfl, by decide +kernel, rfl, by decide +kernel, by decide +kernel⟩
abbrev s_ones_of : Stmt := topS 19
theorem sc_ones_of : FnScope ["wide", "ones", "_", "many"] ["wide"] (defScope s_ones_of) := ⟨rfl, rfl, rfl, by decide +kernel, rfl, by decide +kernel, by decide +kernel⟩
abbrev s_reduced : Stmt := topS 21
theorem sc_reduced : FnScope ["part", "of", "common"] ["part", "of"] (defScope s_reduced) := ⟨rfl, rfl, rfl, by decide +kernel, rfl, by decide +kernel, by decide +kernel⟩
abbrev s_need_pair : Stmt := topS 24
theorem sc_need_pair : FnScope ["rule", "other", "rounds"] ["rule", "other", "rounds"] (defScope s_need_pair) := ⟨rfl, rfl, rfl, by decide +kernel, rfl, by decide +kernel, by decide +kernel⟩
abbrev s_indexes_beside : Stmt := topS 25
theorem sc_indexes_beside : FnScope ["rule", "other", "rounds", "told", "other_told", "ones", "many", "other_many", "ahead", "number"] ["rule", "other", "rounds"] (defScope s_indexes_beside) := ⟨rfl, rfl, rfl, by decide +kernel, rfl, by decide +kernel, by decide +kernel⟩
abbrev s_above_row : Stmt := topS 26
theorem sc_above_row : FnScope ["rule", "other", "rounds", "wide", "number", "index", "other_index"] ["rule", "other", "rounds"] (defScope s_above_row) := ⟨rfl, rfl, rfl, by decide +kernel, rfl, by decide +kernel, by decide +kernel⟩
abbrev s_never_above : Stmt := topS 27
theorem sc_never_above : FnScope ["rule", "other", "rounds"] ["rule", "other", "rounds"] (defScope s_never_above) := ⟨rfl, rfl, rfl, by decide +kernel, rfl, by decide +kernel, by decide +kernel⟩
abbrev s_is_less : Stmt := topS 28
theorem sc_is_less : FnScope ["fraction", "other"] ["fraction", "other"] (defScope s_is_less) := ⟨rfl, rfl, rfl, by decide +kernel, rfl, by decide +kernel, by decide +kernel⟩
abbrev s_suits : Stmt := topS 29
theorem sc_suits : FnScope ["rule", "other", "rounds", "least", "greatest", "index", "other_index", "bound"] ["rule", "other", "rounds"] (defScope s_suits) := ⟨rfl, rfl, rfl, by decide +kernel, rfl, by decide +kernel, by decide +kernel⟩
abbrev s__law_begun : Stmt := topS 31
theorem sc__law_begun : FnScope ["script", "k", "cells", "great", "seed", "cell"] ["script", "k"] (defScope s__law_begun) := ⟨rfl, rfl, rfl, by decide +kernel, rfl, by decide +kernel, by decide +kernel⟩
abbrev s__law_draw : Stmt := topS 32
theorem sc__law_draw : FnScope ["m", "limit", "found", "spot", "cells", "added", "cell", "blend"] ["m", "limit"] (defScope s__law_draw) := ⟨rfl, rfl, rfl, by decide +kernel, rfl, by decide +kernel, by decide +kernel⟩
abbrev s__law_of : Stmt := topS 33
theorem sc__law_of : FnScope ["m", "some"] ["m", "some"] (defScope s__law_of) := ⟨rfl, rfl, rfl, by decide +kernel, rfl, by decide +kernel, by decide +kernel⟩
abbrev s__law_tune : Stmt := topS 34
theorem sc__law_tune : FnScope ["m", "limit", "k"] ["m", "limit"] (defScope s__law_tune) := ⟨rfl, rfl, rfl, by decide +kernel, rfl, by decide +kernel, by decide +kernel⟩
abbrev s__law_sum : Stmt := topS 35
theorem sc__law_sum : FnScope ["tune", "some", "weight", "one"] ["tune", "some"] (defScope s__law_sum) := ⟨rfl, rfl, rfl, by decide +kernel, rfl, by decide +kernel, by decide +kernel⟩
abbrev s__law_all : Stmt := topS 36
theorem sc__law_all : FnScope ["marks", "many", "found", "lap", "longer", "row", "mark"] ["marks", "many"] (defScope s__law_all) := ⟨rfl, rfl, rfl, by decide +kernel, rfl, by decide +kernel, by decide +kernel⟩
abbrev s__law_terms : Stmt := topS 37
theorem sc__law_terms : FnScope ["part", "whole", "one", "other"] ["part", "whole"] (defScope s__law_terms) := ⟨rfl, rfl, rfl, by decide +kernel, rfl, by decide +kernel, by decide +kernel⟩
noncomputable def wt__law_terms_1 : FT := (mTest (mBin neD (mVar 3) (mK (.int 0))))
noncomputable def wb__law_terms_1 : FS := (mPar 2 3 (mCons (mVar 3) (mCons (mBin modD (mBlt intD (mCons (mVar 2) mNil)) (mBlt intD (mCons (mVar 3) mNil))) mNil)))
noncomputable def d__law_terms : FS := (mSeq (mPar 2 3 (mCons (mBlt absD (mCons (mVar 0) mNil)) (mCons (mVar 1) mNil)))
  (mSeq (whL wt__law_terms_1 wb__law_terms_1 100000)
  (mRet (mTup (mCons (mBin divD (mVar 0) (mVar 2)) (mCons (mBin divD (mVar 1) (mVar 2)) mNil))))))
noncomputable def g__law_terms : Fn := denOf 4 d__law_terms
abbrev s__law_is_over : Stmt := topS 38
theorem sc__law_is_over : FnScope ["one", "other"] ["one", "other"] (defScope s__law_is_over) := ⟨rfl, rfl, rfl, by decide +kernel, rfl, by decide +kernel, by decide +kernel⟩
noncomputable def d__law_is_over : FS := (mRet (mBin gtD (mBin mulD (mBin ixA (mVar 0) (mK (.int 0))) (mBin ixA (mVar 1) (mK (.int 1)))) (mBin mulD (mBin ixA (mVar 1) (mK (.int 0))) (mBin ixA (mVar 0) (mK (.int 1))))))
noncomputable def g__law_is_over : Fn := denOf 2 d__law_is_over
abbrev s__law_pairs : Stmt := topS 39
theorem sc__law_pairs : FnScope ["tune", "far", "count", "wide", "found", "bits"] ["tune", "far", "count"] (defScope s__law_pairs) := ⟨rfl, rfl, rfl, by decide +kernel, rfl, by decide +kernel, by decide +kernel⟩
noncomputable def F__law_pairs_1 : FI := (iSeq (mCall (g__law_all) (mCons (mTup (mCons (mK (.int 0)) (mCons (mK (.int 1)) mNil))) (mCons (mBin addD (mVar 3) (mVar 2)) mNil))))
noncomputable def t__law_pairs_1 : FG := (gN 5)
noncomputable def b__law_pairs_1 : FS := (mExpr (mApp (mVar 4) (mTup (mCons (mCall (g__law_sum) (mCons (mVar 0) (mCons (mSl slA (mVar 5) (mPart (mBin subD (mVar 3) (mBlt lenD (mCons (mVar 0) mNil)))) (mPart (mVar 3))) mNil))) (mCons (mCall (g__law_sum) (mCons (mVar 1) (mCons (mSl slA (mVar 5) (mPart (mBin subD (mBin addD (mVar 3) (mVar 2)) (mBlt lenD (mCons (mVar 1) mNil)))) mNoPart) mNil))) (mCons (mVar 5) mNil))))))
noncomputable def d__law_pairs : FS := (mSeq (mPar 3 4 (mCons (mBlt max2D (mCons (mBlt lenD (mCons (mVar 0) mNil)) (mCons (mBlt lenD (mCons (mVar 1) mNil)) mNil))) (mCons (mLstM mNil) mNil)))
  (mSeq (mFor F__law_pairs_1 t__law_pairs_1 b__law_pairs_1)
  (mRet (mVar 4))))
noncomputable def g__law_pairs : Fn := denOf 6 d__law_pairs
abbrev s__law_suit : Stmt := topS 40
theorem sc__law_suit : FnScope ["pairs", "low_so", "high_so", "near", "far", "bits", "one"] ["pairs"] (defScope s__law_suit) := ⟨rfl, rfl, rfl, by decide +kernel, rfl, by decide +kernel, by decide +kernel⟩
noncomputable def F__law_suit_1 : FI := (iSeq (mVar 0))
noncomputable def t__law_suit_1 : FG := (gT 3 (gsC (gN 3) (gsC (gN 4) (gsC (gN 5) gs0))))
noncomputable def b__law_suit_1 : FS := (mSeq (mIfS (mAnd (mTest (mBin eqD (mVar 4) (mK (.int 0)))) (mTest (mBin ltD (mVar 3) (mK (.int 0))))) (mRet (mK .non)) mNext)
  (mSeq (mIfS (mTest (mBin gtD (mVar 4) (mK (.int 0)))) (mSeq (mAsg (mCall (g__law_terms) (mCons (mVar 3) (mCons (mVar 4) mNil))) (gN 6))
  (mAsg (mIf (mOr (mTest (mBin isD (mVar 2) (mK .non))) (mTest (mCall (g__law_is_over) (mCons (mVar 2) (mCons (mVar 6) mNil))))) (mVar 6) (mVar 2)) (gN 2))) mNext)
  (mIfS (mTest (mBin ltD (mVar 4) (mK (.int 0)))) (mSeq (mAsg (mCall (g__law_terms) (mCons (mBin subD (mK (.int 0)) (mVar 3)) (mCons (mBin subD (mK (.int 0)) (mVar 4)) mNil))) (gN 6))
  (mAsg (mIf (mOr (mTest (mBin isD (mVar 1) (mK .non))) (mTest (mCall (g__law_is_over) (mCons (mVar 6) (mCons (mVar 1) mNil))))) (mVar 6) (mVar 1)) (gN 1))) mNext)))
noncomputable def d__law_suit : FS := (mSeq (mAsg (mTup (mCons (mK .non) (mCons (mK .non) mNil))) (gT 2 (gsC (gN 1) (gsC (gN 2) gs0))))
  (mSeq (mFor F__law_suit_1 t__law_suit_1 b__law_suit_1)
  (mSeq (mIfS (mAnd (mTest (mBin isntD (mVar 1) (mK .non))) (mAnd (mTest (mBin isntD (mVar 2) (mK .non))) (mTest (mCall (g__law_is_over) (mCons (mVar 1) (mCons (mVar 2) mNil)))))) (mRet (mK .non)) mNext)
  (mRet (mTup (mCons (mVar 1) (mCons (mVar 2) mNil)))))))
noncomputable def g__law_suit : Fn := denOf 7 d__law_suit
abbrev s__law_results_right : Stmt := topS 41
theorem sc__law_results_right : FnScope ["m", "tune", "far", "count", "is_below", "ends_so", "wide", "lap", "film", "ahead", "one", "other", "end", "k"] ["m", "tune", "far", "count", "is_below", "ends_so"] (defScope s__law_results_right) := ⟨rfl, rfl, rfl, by decide +kernel, rfl, by decide +kernel, by decide +kernel⟩
noncomputable def cF__law_results_right_1 : FI := (iRange1 (mCons (mBin addD (mBin addD (mVar 6) (mVar 3)) (mCall (g__law_draw) (mCons (mVar 0) (mCons (mK (.int 3)) mNil)))) mNil))
noncomputable def ct__law_results_right_1 : FG := (gN 13)
noncomputable def ci__law_results_right_1 : FT := mYes
noncomputable def ce__law_results_right_1 : FE := (mCall (g__law_draw) (mCons (mVar 0) (mCons (mCall (g__law_of) (mCons (mVar 0) (mCons (mLst (mCons (mK (.int 2)) (mCons (mK (.int 3)) (mCons (mK (.int 1000)) mNil)))) mNil))) mNil)))
noncomputable def cF__law_results_right_2 : FI := (iSeq (mIf (mTest (mBin isntD (mVar 5) (mK .non))) (mVar 5) (mTup mNil)))
noncomputable def ct__law_results_right_2 : FG := (gN 12)
noncomputable def ci__law_results_right_2 : FT := (mTest (mBin isntD (mVar 12) (mK .non)))
noncomputable def ce__law_results_right_2 : FE := (mVar 12)
noncomputable def F__law_results_right_1 : FI := (iSeq (mComp cF__law_results_right_2 [12] ct__law_results_right_2 ci__law_results_right_2 ce__law_results_right_2))
noncomputable def t__law_results_right_1 : FG := (gN 12)
noncomputable def b__law_results_right_1 : FS := (mIfS (mTest (mBin ltD (mBin mulD (mVar 10) (mBin ixA (mVar 12) (mK (.int 1)))) (mBin mulD (mBin ixA (mVar 12) (mK (.int 0))) (mVar 11)))) (mRet (mK (.bl false))) mNext)
noncomputable def F__law_results_right_2 : FI := (iRange1 (mCons (mK (.int 6)) mNil))
noncomputable def t__law_results_right_2 : FG := (gN 7)
noncomputable def b__law_results_right_2 : FS := (mSeq (mAsg (mBlt tupleD (mCons (mComp cF__law_results_right_1 [13] ct__law_results_right_1 ci__law_results_right_1 ce__law_results_right_1) mNil)) (gN 8))
  (mSeq (mAsg (mSl slA (mVar 8) mNoPart (mPart (mBin subD (mBlt lenD (mCons (mVar 8) mNil)) (mVar 3)))) (gN 9))
  (mSeq (mPar 10 11 (mCons (mCall (g__law_sum) (mCons (mVar 1) (mCons (mSl slA (mVar 9) (mPart (mBin subD (mBlt lenD (mCons (mVar 9) mNil)) (mBlt lenD (mCons (mVar 1) mNil)))) mNoPart) mNil))) (mCons (mCall (g__law_sum) (mCons (mVar 2) (mCons (mSl slA (mVar 8) (mPart (mBin subD (mBlt lenD (mCons (mVar 8) mNil)) (mBlt lenD (mCons (mVar 2) mNil)))) mNoPart) mNil))) mNil)))
  (mSeq (mIfS (mAnd (mTest (mVar 4)) (mTest (mBin gtD (mVar 10) (mVar 11)))) (mRet (mK (.bl false))) mNext)
  (mFor F__law_results_right_1 t__law_results_right_1 b__law_results_right_1)))))
noncomputable def d__law_results_right : FS := (mSeq (mAsg (mBlt max2D (mCons (mBlt lenD (mCons (mVar 1) mNil)) (mCons (mBlt lenD (mCons (mVar 2) mNil)) mNil))) (gN 6))
  (mSeq (mFor F__law_results_right_2 t__law_results_right_2 b__law_results_right_2)
  (mRet (mK (.bl true)))))
noncomputable def g__law_results_right : Fn := denOf 14 d__law_results_right
abbrev s__law_right : Stmt := topS 42
theorem sc__law_right : FnScope ["m", "tune", "far", "count", "pairs", "above_so", "due", "again", "told_so", "near", "more", "bits"] ["m", "tune", "far", "count"] (defScope s__law_right) := ⟨rfl, rfl, rfl, by decide +kernel, rfl, by decide +kernel, by decide +kernel⟩
noncomputable def cF__law_right_1 : FI := (iSeq (mVar 4))
noncomputable def ct__law_right_1 : FG := (gT 3 (gsC (gN 9) (gsC (gN 10) (gsC (gN 11) gs0))))
noncomputable def ci__law_right_1 : FT := (mTest (mBin gtD (mVar 9) (mVar 10)))
noncomputable def ce__law_right_1 : FE := (mVar 11)
noncomputable def F__law_right_1 : FI := (iRange1 (mCons (mK (.int 2)) mNil))
noncomputable def t__law_right_1 : FG := (gN 7)
noncomputable def b__law_right_1 : FS := (mSeq (mAsg (mLst (mCons (mCall g_never_above (mCons (mVar 1) (mCons (mVar 2) (mCons (mVar 3) mNil)))) (mCons (mCallK g_above_row (mCons (mVar 1) (mCons (mVar 2) mNil)) (mCons (mVar 3) mNil)) (mCons (mCall g_suits (mCons (mVar 1) (mCons (mVar 2) (mCons (mVar 3) mNil)))) mNil)))) (gN 8))
  (mIfS (mTest (mBin neD (mBlt reprD (mCons (mVar 8) mNil)) (mBlt reprD (mCons (mVar 6) mNil)))) (mRet (mK (.bl false))) mNext))
noncomputable def d__law_right : FS := (mSeq (mAsg (mCall (g__law_pairs) (mCons (mVar 1) (mCons (mVar 2) (mCons (mVar 3) mNil)))) (gN 4))
  (mSeq (mAsg (mComp cF__law_right_1 [9, 10, 11] ct__law_right_1 ci__law_right_1 ce__law_right_1) (gN 5))
  (mSeq (mAsg (mLst (mCons (mBin eqD (mVar 5) (mLst mNil)) (mCons (mIf (mTest (mBin neD (mVar 5) (mLst mNil))) (mBin ixA (mVar 5) (mK (.int 0))) (mK .non)) (mCons (mCall (g__law_suit) (mCons (mVar 4) mNil)) mNil)))) (gN 6))
  (mSeq (mFor F__law_right_1 t__law_right_1 b__law_right_1)
  (mSeq (mIfS (mTest (mBin eqD (mVar 3) (mK (.int 0)))) (mSeq (mAsg (mLst (mCons (mCallD 0 g_never_above (mCons (mVar 1) (mCons (mVar 2) mNil))) (mCons (mCallD 0 g_above_row (mCons (mVar 1) (mCons (mVar 2) mNil))) (mCons (mCallD 0 g_suits (mCons (mVar 1) (mCons (mVar 2) mNil))) mNil)))) (gN 8))
  (mIfS (mTest (mBin neD (mBlt reprD (mCons (mVar 8) mNil)) (mBlt reprD (mCons (mVar 6) mNil)))) (mRet (mK (.bl false))) mNext)) mNext)
  (mRet (mCall (g__law_results_right) (mCons (mVar 0) (mCons (mVar 1) (mCons (mVar 2) (mCons (mVar 3) (mCons (mBin ixA (mVar 6) (mK (.int 0))) (mCons (mBin ixA (mVar 6) (mK (.int 2))) mNil)))))))))))))
noncomputable def g__law_right : Fn := denOf 12 d__law_right
abbrev s__law_hand_right : Stmt := topS 43
theorem sc__law_hand_right : FnScope ["best", "middle", "worst", "last", "told_so"] [] (defScope s__law_hand_right) := ⟨rfl, rfl, rfl, by decide +kernel, rfl, by decide +kernel, by decide +kernel⟩
noncomputable def d__law_hand_right : FS := (mSeq (mAsg (mTup (mCons (mTup (mCons (mK (.int 0)) (mCons (mK (.int 0)) (mCons (mK (.int 1)) mNil)))) (mCons (mTup (mCons (mK (.int 0)) (mCons (mK (.int 1)) (mCons (mK (.int 0)) mNil)))) (mCons (mTup (mCons (mK (.int 1)) (mCons (mK (.int 0)) (mCons (mK (.int 0)) mNil)))) (mCons (mTup (mCons (mK (.int 1)) mNil)) mNil))))) (gT 4 (gsC (gN 0) (gsC (gN 1) (gsC (gN 2) (gsC (gN 3) gs0))))))
  (mSeq (mAsg (mLst (mCons (mCallD 0 g_never_above (mCons (mVar 2) (mCons (mVar 1) mNil))) (mCons (mCallD 0 g_never_above (mCons (mVar 1) (mCons (mVar 0) mNil))) (mCons (mCallD 0 g_never_above (mCons (mVar 0) (mCons (mVar 1) mNil))) (mCons (mCallD 0 g_never_above (mCons (mVar 3) (mCons (mVar 0) mNil))) mNil))))) (gN 4))
  (mSeq (mIfS (mOr (mTest (mBin neD (mVar 4) (mLst (mCons (mK (.bl true)) (mCons (mK (.bl true)) (mCons (mK (.bl false)) (mCons (mK (.bl true)) mNil))))))) (mOr (mTest (mBin neD (mCallD 0 g_above_row (mCons (mVar 0) (mCons (mVar 1) mNil))) (mTup (mCons (mK (.int 0)) (mCons (mK (.int 0)) (mCons (mK (.int 1)) mNil)))))) (mTest (mBin neD (mCallD 0 g_above_row (mCons (mVar 3) (mCons (mVar 2) mNil))) (mTup (mCons (mK (.int 0)) (mCons (mK (.int 0)) (mCons (mK (.int 1)) mNil)))))))) (mRet (mK (.bl false))) mNext)
  (mSeq (mAsg (mLst (mCons (mCallD 0 g_suits (mCons (mVar 0) (mCons (mTup (mCons (mK (.int 1)) (mCons (mK (.int 1)) (mCons (mK (.int 1)) mNil)))) mNil))) (mCons (mCallD 0 g_suits (mCons (mTup (mCons (mK (.int 1)) (mCons (mK (.int 1)) (mCons (mK (.int 1)) mNil)))) (mCons (mVar 0) mNil))) (mCons (mCallD 0 g_suits (mCons (mVar 2) (mCons (mTup (mCons (mK (.int 1)) (mCons (mK (.int 1)) (mCons (mK (.int 1)) mNil)))) mNil))) (mCons (mCallD 0 g_suits (mCons (mTup (mCons (mK (.int 0)) mNil)) (mCons (mTup (mCons (mUn negD (mK (.int 1))) mNil)) mNil))) (mCons (mCallD 0 g_suits (mCons (mTup (mCons (mUn negD (mK (.int 1))) mNil)) (mCons (mTup (mCons (mK (.int 0)) mNil)) mNil))) mNil)))))) (gN 4))
  (mSeq (mIfS (mTest (mBin neD (mVar 4) (mLst (mCons (mTup (mCons (mK .non) (mCons (mTup (mCons (mK (.int 1)) (mCons (mK (.int 3)) mNil))) mNil))) (mCons (mTup (mCons (mK .non) (mCons (mTup (mCons (mK (.int 1)) (mCons (mK (.int 1)) mNil))) mNil))) (mCons (mTup (mCons (mK .non) (mCons (mTup (mCons (mK (.int 0)) (mCons (mK (.int 1)) mNil))) mNil))) (mCons (mTup (mCons (mTup (mCons (mK (.int 0)) (mCons (mK (.int 1)) mNil))) (mCons (mK .non) mNil))) (mCons (mK .non) mNil)))))))) (mRet (mK (.bl false))) mNext)
  (mSeq (mAsg (mLst (mCons (mCallD 0 g_suits (mCons (mTup (mCons (mUn negD (mK (.int 2))) (mCons (mK (.int 1)) mNil))) (mCons (mTup (mCons (mK (.int 1)) (mCons (mUn negD (mK (.int 1))) mNil))) mNil))) (mCons (mCallD 0 g_suits (mCons (mTup (mCons (mK (.int 2)) mNil)) (mCons (mTup (mCons (mK (.int 3)) mNil)) mNil))) (mCons (mCallD 0 g_suits (mCons (mTup (mCons (mK (.int 0)) mNil)) (mCons (mTup (mCons (mK (.int 0)) mNil)) mNil))) (mCons (mCallD 0 g_suits (mCons (mTup (mCons (mK (.int 1)) (mCons (mK (.int 2)) mNil))) (mCons (mTup (mCons (mUn negD (mK (.int 1))) (mCons (mK (.int 2)) mNil))) mNil))) (mCons (mCallD 0 g_suits (mCons (mTup (mCons (mUn negD (mK (.int 1))) mNil)) (mCons (mTup (mCons (mK (.int 1)) mNil)) mNil))) mNil)))))) (gN 4))
  (mSeq (mIfS (mTest (mBin neD (mVar 4) (mLst (mCons (mK .non) (mCons (mTup (mCons (mK .non) (mCons (mTup (mCons (mK (.int 2)) (mCons (mK (.int 3)) mNil))) mNil))) (mCons (mTup (mCons (mK .non) (mCons (mK .non) mNil))) (mCons (mTup (mCons (mK .non) (mCons (mTup (mCons (mK (.int 1)) (mCons (mK (.int 1)) mNil))) mNil))) (mCons (mTup (mCons (mK .non) (mCons (mTup (mCons (mUn negD (mK (.int 1))) (mCons (mK (.int 1)) mNil))) mNil))) mNil)))))))) (mRet (mK (.bl false))) mNext)
  (mSeq (mAsg (mLst (mCons (mCall g_never_above (mCons (mVar 2) (mCons (mVar 0) (mCons (mK (.int 2)) mNil)))) (mCons (mCall g_never_above (mCons (mVar 2) (mCons (mVar 0) (mCons (mK (.int 3)) mNil)))) (mCons (mCall g_never_above (mCons (mVar 1) (mCons (mVar 0) (mCons (mK (.int 1)) mNil)))) mNil)))) (gN 4))
  (mSeq (mIfS (mOr (mTest (mBin neD (mVar 4) (mLst (mCons (mK (.bl true)) (mCons (mK (.bl false)) (mCons (mK (.bl true)) mNil)))))) (mTest (mBin neD (mCall g_above_row (mCons (mVar 2) (mCons (mVar 0) (mCons (mK (.int 3)) mNil)))) (mTup (mCons (mK (.int 1)) (mCons (mK (.int 1)) (mCons (mK (.int 1)) (mCons (mK (.int 0)) (mCons (mK (.int 0)) (mCons (mK (.int 0)) mNil)))))))))) (mRet (mK (.bl false))) mNext)
  (mSeq (mIfS (mOr (mTest (mBin isntD (mCallD 0 g_suits (mCons (mTup (mCons (mUn negD (mK (.int 3))) (mCons (mK (.int 1)) mNil))) (mCons (mTup (mCons (mK (.int 2)) (mCons (mUn negD (mK (.int 1))) mNil))) mNil))) (mK .non))) (mTest (mBin neD (mCall g_above_row (mCons (mTup (mCons (mK (.int 1)) mNil)) (mCons (mTup (mCons (mK (.int 0)) mNil)) (mCons (mK (.int 6)) mNil)))) (mTup (mCons (mK (.int 1)) (mCons (mK (.int 0)) (mCons (mK (.int 0)) (mCons (mK (.int 0)) (mCons (mK (.int 0)) (mCons (mK (.int 0)) (mCons (mK (.int 0)) mNil))))))))))) (mRet (mK (.bl false))) mNext)
  (mSeq (mIfS (mTest (mBin neD (mLst (mCons (mCall g_suits (mCons (mTup (mCons (mK (.int 1)) mNil)) (mCons (mTup (mCons (mK (.int 1)) mNil)) (mCons (mK (.int 5)) mNil)))) (mCons (mCallD 0 g_suits (mCons (mBin mulD (mTup (mCons (mK (.int 1)) mNil)) (mK (.int 6))) (mCons (mTup (mCons (mK (.int 0)) (mCons (mK (.int 0)) (mCons (mK (.int 0)) (mCons (mK (.int 0)) (mCons (mK (.int 0)) (mCons (mK (.int 1)) mNil))))))) mNil))) mNil))) (mLst (mCons (mTup (mCons (mK .non) (mCons (mTup (mCons (mK (.int 0)) (mCons (mK (.int 1)) mNil))) mNil))) (mCons (mTup (mCons (mK .non) (mCons (mTup (mCons (mK (.int 1)) (mCons (mK (.int 1)) mNil))) mNil))) mNil))))) (mRet (mK (.bl false))) mNext)
  (mRet (mAndV (mBin eqD (mCall g_suits (mCons (mTup (mCons (mK (.int 0)) (mCons (mK (.int 2)) mNil))) (mCons (mTup (mCons (mK (.int 1)) (mCons (mK (.int 1)) mNil))) (mCons (mK (.int 1)) mNil)))) (mTup (mCons (mK .non) (mCons (mTup (mCons (mK (.int 0)) (mCons (mK (.int 1)) mNil))) mNil)))) (mCall g_never_above (mCons (mBin mulD (mTup (mCons (mUn negD (mK (.int 1))) mNil)) (mK (.int 6))) (mCons (mTup (mCons (mK (.int 0)) mNil)) (mCons (mK (.int 6)) mNil)))))))))))))))))
noncomputable def g__law_hand_right : Fn := denOf 5 d__law_hand_right
abbrev s_law : Stmt := topS 44
theorem sc_law : FnScope ["script", "k", "m", "tune", "far", "kept", "count", "weight"] ["script"] (defScope s_law) := ⟨rfl, rfl, rfl, by decide +kernel, rfl, by decide +kernel, by decide +kernel⟩
noncomputable def cF_law_1 : FI := (iSeq (mVar 3))
noncomputable def ct_law_1 : FG := (gN 7)
noncomputable def ci_law_1 : FT := mYes
noncomputable def ce_law_1 : FE := (mBin addD (mVar 7) (mCall (g__law_draw) (mCons (mVar 2) (mCons (mK (.int 2)) mNil))))
noncomputable def F_law_1 : FI := (iRange1 (mCons (mBin addD (mK (.int 3)) (mBlt min2D (mCons (mBlt lenD (mCons (mVar 0) mNil)) (mCons (mK (.int 6)) mNil)))) mNil))
noncomputable def t_law_1 : FG := (gN 1)
noncomputable def b_law_1 : FS := (mSeq (mAsg (mCall (g__law_begun) (mCons (mVar 0) (mCons (mVar 1) mNil))) (gN 2))
  (mSeq (mPar 3 4 (mCons (mCall (g__law_tune) (mCons (mVar 2) (mCons (mK (.int 3)) mNil))) (mCons (mCall (g__law_tune) (mCons (mVar 2) (mCons (mK (.int 3)) mNil))) mNil)))
  (mSeq (mIfS (mTest (mBin eqD (mCall (g__law_draw) (mCons (mVar 2) (mCons (mK (.int 3)) mNil))) (mK (.int 0)))) (mAsg (mBlt tupleD (mCons (mComp cF_law_1 [7] ct_law_1 ci_law_1 ce_law_1) mNil)) (gN 4)) mNext)
  (mSeq (mPar 5 6 (mCons (mBlt reprD (mCons (mLst (mCons (mVar 3) (mCons (mVar 4) mNil))) mNil)) (mCons (mCall (g__law_draw) (mCons (mVar 2) (mCons (mK (.int 4)) mNil))) mNil)))
  (mIfS (mOr (mNot (mTest (mCall (g__law_right) (mCons (mVar 2) (mCons (mVar 3) (mCons (mVar 4) (mCons (mVar 6) mNil))))))) (mOr (mNot (mTest (mCall (g__law_right) (mCons (mVar 2) (mCons (mVar 4) (mCons (mVar 3) (mCons (mK (.int 0)) mNil))))))) (mTest (mBin neD (mBlt reprD (mCons (mLst (mCons (mVar 3) (mCons (mVar 4) mNil))) mNil)) (mVar 5))))) (mRet (mK (.bl false))) mNext)))))
noncomputable def d_law : FS := (mSeq (mFor F_law_1 t_law_1 b_law_1)
  (mRet (mCall g__law_hand_right mNil)))
noncomputable def g_law : Fn := denOf 8 d_law
section
variable {P : Program} {w : World} {mg : Str → Option Value} {base : Heap} {Γ : Ct} {f : Addr} {fd : FuncData}
theorem ok_is_int (n : Ns Γ mg) (F : Fun Γ.K "is_int" "is_int" s_is_int f fd) : FnG P w mg base Γ 1 f fd ["thing"] g_is_int :=
  have S := sc_is_int
  ok_fn (N := ["thing"]) (c := d_is_int) F S fun cdv A outer s H E W hr hg tk => (mb_one (ms_ret (me_and (me_callB call_isi (sIsi rfl) (by rfl) n.n_isinstance (by decide +kernel) (ma_cons (me_var (pv 0)) (ma_cons (me_ty (by rfl) n.n_int (by decide +kernel)) ma_nil))) (me_and (me_cmp op_notC sIsntC (nomark _) (me_var (pv 0)) me_bl) (me_one (me_cmp op_notC sIsntC (nomark _) (me_var (pv 0)) me_bl))))))
theorem ok_is_int_within (n : Ns Γ mg) (F : Fun Γ.K "is_int_within" "is_int_within" s_is_int_within f fd) (c_is_int : Cal P w mg base Γ 1 "is_int" ["thing"] g_is_int) : FnG P w mg base Γ 2 f fd ["thing", "least", "most"] g_is_int_within :=
  have S := sc_is_int_within
  ok_fn (N := ["thing", "least", "most"]) (c := d_is_int_within) F S fun cdv A outer s H E W hr hg tk => (mb_one (ms_ret (me_and (me_cal c_is_int rfl (hr.mono (by decide)) hg tk (by rfl) (ma_cons (me_var (pv 0)) ma_nil) 1 (len_cons len_nil) rfl rfl) (me_one (me_chain op_le op_le sCmp sCmp (by rfl) (me_var (pv 1)) (me_var (pv 0)) (me_var (pv 2)))))))
theorem ok_is_tuple (n : Ns Γ mg) (F : Fun Γ.K "is_tuple" "is_tuple" s_is_tuple f fd) : FnG P w mg base Γ 1 f fd ["thing", "least", "most"] g_is_tuple :=
  have S := sc_is_tuple
  ok_fn (N := ["thing", "least", "most"]) (c := d_is_tuple) F S fun cdv A outer s H E W hr hg tk => (mb_one (ms_ret (me_and (me_callB call_isi (sIsi rfl) (by rfl) n.n_isinstance (by decide +kernel) (ma_cons (me_var (pv 0)) (ma_cons (me_ty (by rfl) n.n_tuple (by decide +kernel)) ma_nil))) (me_one (me_chain op_le op_le sCmp sCmp (by rfl) (me_var (pv 1)) (me_callB call_len (sLen rfl) (by rfl) n.n_len (by decide +kernel) (ma_cons (me_var (pv 0)) ma_nil)) (me_var (pv 2)))))))
theorem ok_first_outside (n : Ns Γ mg) (F : Fun Γ.K "first_outside" "first_outside" s_first_outside f fd) : FnG P w mg base Γ 1 f fd ["things", "least", "most"] g_first_outside :=
  have S := sc_first_outside
  ok_fn (N := ["things", "least", "most", "number", "thing"]) (c := d_first_outside) F S fun cdv A outer s H E W hr hg tk => (mb_cons (ms_for (passes_of rfl) rfl (mi_enum rfl (by rfl) n.n_enumerate (ma_cons (me_var (pv 0)) ma_nil)) (mg_tup' rfl rfl (mgs_cons' (mg_name (pg_name (i := 3) S.nd rfl (.inl rfl))) (mgs_cons' (mg_name (pg_name (i := 4) S.nd rfl (.inl rfl))) mgs_nil))) (mb_one (ms_if (mt_w (mw_or (mt_not (mt_val (me_callB call_isi (sIsi rfl) (by rfl) n.n_isinstance (by decide +kernel) (ma_cons (me_var (pv 4)) (ma_cons (me_ty (by rfl) n.n_int (by decide +kernel)) ma_nil))))) (mw_or (mt_cmp op_isC sIsC (nomark _) (me_var (pv 4)) me_bl) (mw_or (mt_cmp op_isC sIsC (nomark _) (me_var (pv 4)) me_bl) (mw_or1 (mt_not (mt_chain op_le op_le sCmp sCmp (by rfl) (me_var (pv 1)) (me_var (pv 4)) (me_var (pv 2))))))))) (mb_one (ms_ret (me_var (pv 3)))) mb_nil)))
  (mb_one (ms_ret me_non)))
theorem ok_need_rule (n : Ns Γ mg) (F : Fun Γ.K "need_rule" "need_rule" s_need_rule f fd) (c_is_tuple : Cal P w mg base Γ 1 "is_tuple" ["thing", "least", "most"] g_is_tuple) (c_first_outside : Cal P w mg base Γ 1 "first_outside" ["things", "least", "most"] g_first_outside) : FnG P w mg base Γ 2 f fd ["thing"] g_need_rule :=
  have S := sc_need_rule
  ok_fn (N := ["thing", "number"]) (c := d_need_rule) F S fun cdv A outer s H E W hr hg tk => (mb_cons (ms_if (mt_not (mt_val (me_cal c_is_tuple rfl (hr.mono (by decide)) hg tk (by rfl) (ma_cons (me_var (pv 0)) (ma_cons me_int (ma_cons (me_globJ (by rfl) n.c_MOST_WEIGHTS) ma_nil))) 3 (len_cons (len_cons (len_cons len_nil))) rfl rfl))) (mb_one ms_stuck) mb_nil)
  (mb_cons (ms_set (i := 1) S.nd rfl (.inl rfl) (me_cal c_first_outside rfl (hr.mono (by decide)) hg tk (by rfl) (ma_cons (me_var (pv 0)) (ma_cons (me_un un_neg sNeg (me_globJ (by rfl) n.c_GREATEST_WEIGHT)) (ma_cons (me_globJ (by rfl) n.c_GREATEST_WEIGHT) ma_nil))) 3 (len_cons (len_cons (len_cons len_nil))) rfl rfl))
  (mb_cons (ms_if (mt_cmp op_notC sIsntC (nomark _) (me_var (pv 1)) me_non) (mb_one ms_stuck) mb_nil)
  (mb_one (ms_ret (me_var (pv 0)))))))
theorem ok_indexes_by_ones (n : Ns Γ mg) (F : Fun Γ.K "indexes_by_ones" "indexes_by_ones" s_indexes_by_ones f fd) : FnG P w mg base Γ 1 f fd ["rule"] g_indexes_by_ones :=
  have S := sc_indexes_by_ones
  ok_fn (N := ["rule", "told", "weight"]) (c := d_indexes_by_ones) F S fun cdv A outer s H E W hr hg tk => (mb_cons (ms_set (i := 1) S.nd rfl (.inl rfl) (me_lstM (ma_cons me_int ma_nil)))
  (mb_cons (ms_for (passes_of rfl) rfl (mi_seq rfl (me_rev rfl (me_var (pv 0)))) (mg_name (pg_name (i := 2) S.nd rfl (.inl rfl))) (mb_one (ms_expr (me_app (pe_bm PySem.F.plainAttrs_list PySem.F.slot_list_append PySem.F.type_list_append mt_append (me_var (pv 1)) (pa_cons (me_op opAdd sAdd (me_ix rfl (hu_of hr) (me_var (pv 1)) (me_un un_neg sNeg me_int) (fun _ _ => rfl) (fun _ _ => rfl)) (me_var (pv 2))) pa_nil))))))
  (mb_one (ms_ret (me_var (pv 1))))))
theorem ok_many_of (n : Ns Γ mg) (F : Fun Γ.K "many_of" "many_of" s_many_of f fd) : FnG P w mg base Γ 1 f fd ["base", "wide"] g_many_of :=
  have S := sc_many_of
  ok_fn (N := ["base", "wide", "many", "_"]) (c := d_many_of) F S fun cdv A outer s H E W hr hg tk => (mb_cons (ms_set (i := 2) S.nd rfl (.inl rfl) me_int)
  (mb_cons (ms_for (passes_of rfl) rfl (mi_range1 (by rfl) n.n_range (ma_cons (me_var (pv 1)) ma_nil)) (mg_name (pg_name (i := 3) S.nd rfl (.inl rfl))) (mb_one (ms_set (i := 2) S.nd rfl (.inl rfl) (me_op opMul sMul (me_var (pv 0)) (me_var (pv 2))))))
  (mb_one (ms_ret (me_var (pv 2))))))
theorem ok_signs_of (n : Ns Γ mg) (F : Fun Γ.K "signs_of" "signs_of" s_signs_of f fd) : FnG P w mg base Γ 1 f fd ["number", "signs", "wide"] g_signs_of :=
  have S := sc_signs_of
  ok_fn (N := ["number", "signs", "wide", "told", "_", "figure"]) (c := d_signs_of) F S fun cdv A outer s H E W hr hg tk => (mb_cons (ms_set (i := 3) S.nd rfl (.inl rfl) (me_lstM ma_nil))
  (mb_cons (ms_for (passes_of rfl) rfl (mi_range1 (by rfl) n.n_range (ma_cons (me_var (pv 2)) ma_nil)) (mg_name (pg_name (i := 4) S.nd rfl (.inl rfl))) (mb_cons (ms_setT (me_callB call_divmod sDivmod (by rfl) n.n_divmod (by decide +kernel) (ma_cons (me_var (pv 0)) (ma_cons (me_callB call_len (sLen rfl) (by rfl) n.n_len (by decide +kernel) (ma_cons (me_var (pv 1)) ma_nil)) ma_nil))) (mg_tup' rfl rfl (mgs_cons' (mg_name (pg_name (i := 0) S.nd rfl (.inl rfl))) (mgs_cons' (mg_name (pg_name (i := 5) S.nd rfl (.inl rfl))) mgs_nil))))
  (mb_one (ms_expr (me_app (pe_bm PySem.F.plainAttrs_list PySem.F.slot_list_append PySem.F.type_list_append mt_append (me_var (pv 3)) (pa_cons (me_ix rfl (hu_of hr) (me_var (pv 1)) (me_var (pv 5)) (fun _ _ => rfl) (fun _ _ => rfl)) pa_nil)))))))
  (mb_one (ms_ret (me_callTy call_tuple_of (sTuple rfl) (by rfl) n.n_tuple (by decide +kernel) (ma_cons (me_rev rfl (me_var (pv 3))) ma_nil))))))
theorem ok_ones_of (n : Ns Γ mg) (F : Fun Γ.K "ones_of" "ones_of" s_ones_of f fd) : FnG P w mg base Γ 1 f fd ["wide"] g_ones_of :=
  have S := sc_ones_of
  ok_fn (N := ["wide", "ones", "_", "many"]) (c := d_ones_of) F S fun cdv A outer s H E W hr hg tk => (mb_cons (ms_set (i := 1) S.nd rfl (.inl rfl) (me_lst (ma_cons me_int ma_nil)))
  (mb_cons (ms_for (passes_of rfl) rfl (mi_range1 (by rfl) n.n_range (ma_cons (me_var (pv 0)) ma_nil)) (mg_name (pg_name (i := 2) S.nd rfl (.inl rfl))) (mb_one (ms_set (i := 1) S.nd rfl (.inl rfl) (me_op opAdd sAdd (me_var (pv 1)) (me_comp (own := [("many", 3)]) (g := (gName 3)) rfl S.nd (mi_seq rfl (me_var (pv 1))) (blkOk_by (own := [("many", 3)]) (N := ["wide", "ones", "_", "many"]) (sc := defScope s_ones_of) (by decide +kernel)) (fun _ _ _ _ _ => pg_name (i := 3) S.nd rfl (.inl rfl)) (gw_name (by decide)) (fun _ _ _ _ _ => mts_nil) (fun _ _ _ _ _ => (me_op opAdd sAdd (me_var (pv 3)) me_int)))))))
  (mb_one (ms_ret (me_var (pv 1))))))
theorem ok_reduced (n : Ns Γ mg) (F : Fun Γ.K "reduced" "reduced" s_reduced f fd) : FnG P w mg base Γ 1 f fd ["part", "of"] g_reduced :=
  have S := sc_reduced
  ok_fn (N := ["part", "of", "common"]) (c := d_reduced) F S fun cdv A outer s H E W hr hg tk => (mb_cons (ms_set (i := 2) S.nd rfl (.inl rfl) (me_gcd (by rfl) n.g_gcd (ma_cons (me_var (pv 0)) (ma_cons (me_var (pv 1)) ma_nil))))
  (mb_one (ms_ret (me_tup (ma_cons (me_op op_fdiv sDiv (me_var (pv 0)) (me_var (pv 2))) (ma_cons (me_op op_fdiv sDiv (me_var (pv 1)) (me_var (pv 2))) ma_nil))))))
theorem ok_need_pair (n : Ns Γ mg) (F : Fun Γ.K "need_pair" "need_pair" s_need_pair f fd) (c_need_rule : Cal P w mg base Γ 2 "need_rule" ["thing"] g_need_rule) (c_is_int_within : Cal P w mg base Γ 2 "is_int_within" ["thing", "least", "most"] g_is_int_within) : FnG P w mg base Γ 3 f fd ["rule", "other", "rounds"] g_need_pair :=
  have S := sc_need_pair
  ok_fn (N := ["rule", "other", "rounds"]) (c := d_need_pair) F S fun cdv A outer s H E W hr hg tk => (mb_cons (ms_expr (me_cal c_need_rule rfl (hr.mono (by decide)) hg tk (by rfl) (ma_cons (me_var (pv 0)) ma_nil) 1 (len_cons len_nil) rfl rfl))
  (mb_cons (ms_expr (me_cal c_need_rule rfl (hr.mono (by decide)) hg tk (by rfl) (ma_cons (me_var (pv 1)) ma_nil) 1 (len_cons len_nil) rfl rfl))
  (mb_one (ms_if (mt_not (mt_val (me_cal c_is_int_within rfl (hr.mono (by decide)) hg tk (by rfl) (ma_cons (me_var (pv 2)) (ma_cons me_int (ma_cons (me_globJ (by rfl) n.c_MOST_ROUNDS) ma_nil))) 3 (len_cons (len_cons (len_cons len_nil))) rfl rfl))) (mb_one ms_stuck) mb_nil))))
theorem ok_indexes_beside (n : Ns Γ mg) (F : Fun Γ.K "indexes_beside" "indexes_beside" s_indexes_beside f fd) (c_indexes_by_ones : Cal P w mg base Γ 1 "indexes_by_ones" ["rule"] g_indexes_by_ones) (c_ones_of : Cal P w mg base Γ 1 "ones_of" ["wide"] g_ones_of) (c_many_of : Cal P w mg base Γ 1 "many_of" ["base", "wide"] g_many_of) : FnG P w mg base Γ 2 f fd ["rule", "other", "rounds"] g_indexes_beside :=
  have S := sc_indexes_beside
  ok_fn (N := ["rule", "other", "rounds", "told", "other_told", "ones", "many", "other_many", "ahead", "number"]) (c := d_indexes_beside) F S fun cdv A outer s H E W hr hg tk => (mb_cons (ms_setT (me_tup (ma_cons (me_cal c_indexes_by_ones rfl (hr.mono (by decide)) hg tk (by rfl) (ma_cons (me_var (pv 0)) ma_nil) 1 (len_cons len_nil) rfl rfl) (ma_cons (me_cal c_indexes_by_ones rfl (hr.mono (by decide)) hg tk (by rfl) (ma_cons (me_var (pv 1)) ma_nil) 1 (len_cons len_nil) rfl rfl) ma_nil))) (mg_tup' rfl rfl (mgs_cons' (mg_name (pg_name (i := 3) S.nd rfl (.inr rfl))) (mgs_cons' (mg_name (pg_name (i := 4) S.nd rfl (.inr rfl))) mgs_nil))))
  (mb_cons (ms_set (i := 5) S.nd rfl (.inr rfl) (me_cal c_ones_of rfl (hr.mono (by decide)) hg tk (by rfl) (ma_cons (me_callB (call_max2 rfl) sMax2 (by rfl) n.n_max (by decide +kernel) (ma_cons (me_callB call_len (sLen rfl) (by rfl) n.n_len (by decide +kernel) (ma_cons (me_var (pv 0)) ma_nil)) (ma_cons (me_callB call_len (sLen rfl) (by rfl) n.n_len (by decide +kernel) (ma_cons (me_var (pv 1)) ma_nil)) ma_nil))) ma_nil) 1 (len_cons len_nil) rfl rfl))
  (mb_cons (ms_setT (me_tup (ma_cons (me_cal c_many_of rfl (hr.mono (by decide)) hg tk (by rfl) (ma_cons me_int (ma_cons (me_callB call_len (sLen rfl) (by rfl) n.n_len (by decide +kernel) (ma_cons (me_var (pv 0)) ma_nil)) ma_nil)) 2 (len_cons (len_cons len_nil)) rfl rfl) (ma_cons (me_cal c_many_of rfl (hr.mono (by decide)) hg tk (by rfl) (ma_cons me_int (ma_cons (me_callB call_len (sLen rfl) (by rfl) n.n_len (by decide +kernel) (ma_cons (me_var (pv 1)) ma_nil)) ma_nil)) 2 (len_cons (len_cons len_nil)) rfl rfl) ma_nil))) (mg_tup' rfl rfl (mgs_cons' (mg_name (pg_name (i := 6) S.nd rfl (.inr rfl))) (mgs_cons' (mg_name (pg_name (i := 7) S.nd rfl (.inr rfl))) mgs_nil))))
  (mb_cons (ms_set (i := 8) S.nd rfl (.inr rfl) (me_cal c_many_of rfl (hr.mono (by decide)) hg tk (by rfl) (ma_cons me_int (ma_cons (me_var (pv 2)) ma_nil)) 2 (len_cons (len_cons len_nil)) rfl rfl))
  (mb_one (ms_ret (me_comp (own := [("number", 9)]) (g := (gName 9)) rfl S.nd (mi_range1 (by rfl) n.n_range (ma_cons (me_op opMul sMul (me_callB call_len (sLen rfl) (by rfl) n.n_len (by decide +kernel) (ma_cons (me_var (pv 5)) ma_nil)) (me_var (pv 8))) ma_nil)) (blkOk_by (own := [("number", 9)]) (N := ["rule", "other", "rounds", "told", "other_told", "ones", "many", "other_many", "ahead", "number"]) (sc := defScope s_indexes_beside) (by decide +kernel)) (fun _ _ _ _ _ => pg_name (i := 9) S.nd rfl (.inl rfl)) (gw_name (by decide)) (fun _ _ _ _ _ => mts_nil) (fun _ _ _ _ _ => (me_tup (ma_cons (me_ix rfl (hu_of hr) (me_var (pv 3)) (me_ix rfl (hu_of hr) (me_var (pv 5)) (me_op op_mod sMod (me_op op_fdiv sDiv (me_var (pv 9)) (me_var (pv 8))) (me_var (pv 6))) (fun _ _ => rfl) (fun _ _ => rfl)) (fun _ _ => rfl) (fun _ _ => rfl)) (ma_cons (me_ix rfl (hu_of hr) (me_var (pv 4)) (me_ix rfl (hu_of hr) (me_var (pv 5)) (me_op op_mod sMod (me_var (pv 9)) (me_var (pv 7))) (fun _ _ => rfl) (fun _ _ => rfl)) (fun _ _ => rfl) (fun _ _ => rfl)) ma_nil)))))))))))
theorem ok_above_row (n : Ns Γ mg) (F : FunD Γ.K "above_row" "above_row" (defArgs s_above_row) (defBody s_above_row) (defScope s_above_row) [V.int 0] [] f fd) (c_need_pair : Cal P w mg base Γ 3 "need_pair" ["rule", "other", "rounds"] g_need_pair) (c_indexes_beside : Cal P w mg base Γ 2 "indexes_beside" ["rule", "other", "rounds"] g_indexes_beside) (c_signs_of : Cal P w mg base Γ 1 "signs_of" ["number", "signs", "wide"] g_signs_of) : FnG P w mg base Γ 4 f fd ["rule", "other", "rounds"] g_above_row :=
  have S := sc_above_row
  ok_fnD (N := ["rule", "other", "rounds", "wide", "number", "index", "other_index"]) (c := d_above_row) F S fun cdv A outer s H E W hr hg tk => (mb_cons (ms_expr (me_cal c_need_pair rfl (hr.mono (by decide)) hg tk (by rfl) (ma_cons (me_var (pv 0)) (ma_cons (me_var (pv 1)) (ma_cons (me_var (pv 2)) ma_nil))) 3 (len_cons (len_cons (len_cons len_nil))) rfl rfl))
  (mb_cons (ms_set (i := 3) S.nd rfl (.inl rfl) (me_op opAdd sAdd (me_callB (call_max2 rfl) sMax2 (by rfl) n.n_max (by decide +kernel) (ma_cons (me_callB call_len (sLen rfl) (by rfl) n.n_len (by decide +kernel) (ma_cons (me_var (pv 0)) ma_nil)) (ma_cons (me_callB call_len (sLen rfl) (by rfl) n.n_len (by decide +kernel) (ma_cons (me_var (pv 1)) ma_nil)) ma_nil))) (me_var (pv 2))))
  (mb_cons (ms_for (passes_of rfl) rfl (mi_enum rfl (by rfl) n.n_enumerate (ma_cons (me_cal c_indexes_beside rfl (hr.mono (by decide)) hg tk (by rfl) (ma_cons (me_var (pv 0)) (ma_cons (me_var (pv 1)) (ma_cons (me_var (pv 2)) ma_nil))) 3 (len_cons (len_cons (len_cons len_nil))) rfl rfl) ma_nil)) (mg_tup' rfl rfl (mgs_cons' (mg_name (pg_name (i := 4) S.nd rfl (.inl rfl))) (mgs_cons' (mg_tup' rfl rfl (mgs_cons' (mg_name (pg_name (i := 5) S.nd rfl (.inl rfl))) (mgs_cons' (mg_name (pg_name (i := 6) S.nd rfl (.inl rfl))) mgs_nil))) mgs_nil))) (mb_one (ms_if (mt_cmp op_gt sCmp (nomark _) (me_var (pv 5)) (me_var (pv 6))) (mb_one (ms_ret (me_cal c_signs_of rfl (hr.mono (by decide)) hg tk (by rfl) (ma_cons (me_var (pv 4)) (ma_cons (me_globT rfl (by rfl) n.c_BITS) (ma_cons (me_var (pv 3)) ma_nil))) 3 (len_cons (len_cons (len_cons len_nil))) rfl rfl))) mb_nil)))
  (mb_one (ms_ret me_non)))))
theorem ok_never_above (n : Ns Γ mg) (F : FunD Γ.K "never_above" "never_above" (defArgs s_never_above) (defBody s_never_above) (defScope s_never_above) [V.int 0] [] f fd) (c_above_row : CalD P w mg base Γ 4 "above_row" ["rule", "other", "rounds"] "rounds" 0 g_above_row) : FnG P w mg base Γ 5 f fd ["rule", "other", "rounds"] g_never_above :=
  have S := sc_never_above
  ok_fnD (N := ["rule", "other", "rounds"]) (c := d_never_above) F S fun cdv A outer s H E W hr hg tk => (mb_one (ms_ret (me_cmp op_isC sIsC (nomark _) (me_calDA c_above_row rfl (hr.mono (by decide)) hg tk (by rfl) (ma_cons (me_var (pv 0)) (ma_cons (me_var (pv 1)) (ma_cons (me_var (pv 2)) ma_nil))) 3 (len_cons (len_cons (len_cons len_nil))) rfl rfl) me_non)))
theorem ok_is_less (n : Ns Γ mg) (F : Fun Γ.K "is_less" "is_less" s_is_less f fd) : FnG P w mg base Γ 1 f fd ["fraction", "other"] g_is_less :=
  have S := sc_is_less
  ok_fn (N := ["fraction", "other"]) (c := d_is_less) F S fun cdv A outer s H E W hr hg tk => (mb_one (ms_ret (me_cmp op_lt sCmp (nomark _) (me_op opMul sMul (me_ix rfl (hu_of hr) (me_var (pv 0)) me_int (fun _ _ => rfl) (fun _ _ => rfl)) (me_ix rfl (hu_of hr) (me_var (pv 1)) me_int (fun _ _ => rfl) (fun _ _ => rfl))) (me_op opMul sMul (me_ix rfl (hu_of hr) (me_var (pv 1)) me_int (fun _ _ => rfl) (fun _ _ => rfl)) (me_ix rfl (hu_of hr) (me_var (pv 0)) me_int (fun _ _ => rfl) (fun _ _ => rfl))))))
theorem ok_suits (n : Ns Γ mg) (F : FunD Γ.K "suits" "suits" (defArgs s_suits) (defBody s_suits) (defScope s_suits) [V.int 0] [] f fd) (c_need_pair : Cal P w mg base Γ 3 "need_pair" ["rule", "other", "rounds"] g_need_pair) (c_indexes_beside : Cal P w mg base Γ 2 "indexes_beside" ["rule", "other", "rounds"] g_indexes_beside) (c_reduced : Cal P w mg base Γ 1 "reduced" ["part", "of"] g_reduced) (c_is_less : Cal P w mg base Γ 1 "is_less" ["fraction", "other"] g_is_less) : FnG P w mg base Γ 4 f fd ["rule", "other", "rounds"] g_suits :=
  have S := sc_suits
  ok_fnD (N := ["rule", "other", "rounds", "least", "greatest", "index", "other_index", "bound"]) (c := d_suits) F S fun cdv A outer s H E W hr hg tk => (mb_cons (ms_expr (me_cal c_need_pair rfl (hr.mono (by decide)) hg tk (by rfl) (ma_cons (me_var (pv 0)) (ma_cons (me_var (pv 1)) (ma_cons (me_var (pv 2)) ma_nil))) 3 (len_cons (len_cons (len_cons len_nil))) rfl rfl))
  (mb_cons (ms_setT (me_tup (ma_cons me_non (ma_cons me_non ma_nil))) (mg_tup' rfl rfl (mgs_cons' (mg_name (pg_name (i := 3) S.nd rfl (.inl rfl))) (mgs_cons' (mg_name (pg_name (i := 4) S.nd rfl (.inl rfl))) mgs_nil))))
  (mb_cons (ms_for (passes_of rfl) rfl (mi_seq rfl (me_sortedSetP rfl rfl hr.units (by rfl) n.n_sorted (by rfl) n.n_set (ma_cons (me_cal c_indexes_beside rfl (hr.mono (by decide)) hg tk (by rfl) (ma_cons (me_var (pv 0)) (ma_cons (me_var (pv 1)) (ma_cons (me_var (pv 2)) ma_nil))) 3 (len_cons (len_cons (len_cons len_nil))) rfl rfl) ma_nil))) (mg_tup' rfl rfl (mgs_cons' (mg_name (pg_name (i := 5) S.nd rfl (.inl rfl))) (mgs_cons' (mg_name (pg_name (i := 6) S.nd rfl (.inl rfl))) mgs_nil))) (mb_cons (ms_if (mt_w (mw_and (mt_cmp (opEq hr.units) sEq (nomark _) (me_var (pv 6)) me_int) (mw_and1 (mt_cmp op_lt sCmp (nomark _) (me_var (pv 5)) me_int)))) (mb_one (ms_ret me_non)) mb_nil)
  (mb_cons (ms_if (mt_cmp op_gt sCmp (nomark _) (me_var (pv 6)) me_int) (mb_cons (ms_set (i := 7) S.nd rfl (.inl rfl) (me_cal c_reduced rfl (hr.mono (by decide)) hg tk (by rfl) (ma_cons (me_var (pv 5)) (ma_cons (me_var (pv 6)) ma_nil)) 2 (len_cons (len_cons len_nil)) rfl rfl))
  (mb_one (ms_if (mt_w (mw_or (mt_cmp op_isC sIsC (nomark _) (me_var (pv 4)) me_non) (mw_or1 (mt_val (me_cal c_is_less rfl (hr.mono (by decide)) hg tk (by rfl) (ma_cons (me_var (pv 7)) (ma_cons (me_var (pv 4)) ma_nil)) 2 (len_cons (len_cons len_nil)) rfl rfl))))) (mb_one (ms_set (i := 4) S.nd rfl (.inl rfl) (me_var (pv 7)))) mb_nil))) mb_nil)
  (mb_one (ms_if (mt_cmp op_lt sCmp (nomark _) (me_var (pv 6)) me_int) (mb_cons (ms_set (i := 7) S.nd rfl (.inl rfl) (me_cal c_reduced rfl (hr.mono (by decide)) hg tk (by rfl) (ma_cons (me_un un_neg sNeg (me_var (pv 5))) (ma_cons (me_un un_neg sNeg (me_var (pv 6))) ma_nil)) 2 (len_cons (len_cons len_nil)) rfl rfl))
  (mb_one (ms_if (mt_w (mw_or (mt_cmp op_isC sIsC (nomark _) (me_var (pv 3)) me_non) (mw_or1 (mt_val (me_cal c_is_less rfl (hr.mono (by decide)) hg tk (by rfl) (ma_cons (me_var (pv 3)) (ma_cons (me_var (pv 7)) ma_nil)) 2 (len_cons (len_cons len_nil)) rfl rfl))))) (mb_one (ms_set (i := 3) S.nd rfl (.inl rfl) (me_var (pv 7)))) mb_nil))) mb_nil)))))
  (mb_cons (ms_if (mt_w (mw_and (mt_cmp op_notC sIsntC (nomark _) (me_var (pv 3)) me_non) (mw_and (mt_cmp op_notC sIsntC (nomark _) (me_var (pv 4)) me_non) (mw_and1 (mt_val (me_cal c_is_less rfl (hr.mono (by decide)) hg tk (by rfl) (ma_cons (me_var (pv 4)) (ma_cons (me_var (pv 3)) ma_nil)) 2 (len_cons (len_cons len_nil)) rfl rfl)))))) (mb_one (ms_ret me_non)) mb_nil)
  (mb_one (ms_ret (me_tup (ma_cons (me_var (pv 3)) (ma_cons (me_var (pv 4)) ma_nil)))))))))
theorem ok__law_begun (n : Ns Γ mg) (F : Fun Γ.K "_law_begun" "_law_begun" s__law_begun f fd) : FnG P w mg base Γ 1 f fd ["script", "k"] g__law_begun :=
  have S := sc__law_begun
  ok_fn (N := ["script", "k", "cells", "great", "seed", "cell"]) (c := d__law_begun) F S fun cdv A outer s H E W hr hg tk => (mb_cons (ms_set (i := 2) S.nd rfl (.inl rfl) (me_op opAdd sAdd (me_sl rfl (me_var (pv 0)) (mo_some (me_var (pv 1))) mo_none) (me_sl rfl (me_var (pv 0)) mo_none (mo_some (me_var (pv 1))))))
  (mb_cons (ms_setComp (i := 3) (own := [("cell", 5)]) (g := (gName 5)) rfl S.nd rfl rfl (sw_true rfl rfl rfl (by decide +kernel)) (mi_seq rfl (me_var (pv 2))) (blkOk_by (own := [("cell", 5)]) (N := ["script", "k", "cells", "great", "seed", "cell"]) (sc := defScope s__law_begun) (by decide +kernel)) (fun _ _ _ _ _ => pg_name (i := 5) S.nd rfl (.inl rfl)) (gw_name (by decide)) (fun _ _ _ _ _ => mts_one (mt_cmp op_ge sCmp (nomark _) (me_var (pv 5)) (me_op op_pow sPow me_int me_int))) (fun _ _ _ _ _ => (me_var (pv 5))))
  (mb_cons (ms_set (i := 4) S.nd rfl (.inl rfl) (me_op opAdd sAdd me_int (me_var (pv 1))))
  (mb_cons (ms_for (passes_of rfl) rfl (mi_seq rfl (me_var (pv 2))) (mg_name (pg_name (i := 5) S.nd rfl (.inl rfl))) (mb_one (ms_set (i := 4) S.nd rfl (.inl rfl) (me_op op_mod sMod (me_callTy call_int1 sInt (by rfl) n.n_int (by decide +kernel) (ma_cons (me_op opAdd sAdd (me_op opMul sMul (me_var (pv 4)) me_int) (me_var (pv 5))) ma_nil)) me_int))))
  (mb_one (ms_ret (me_dctM (ps := [((mK (.str "left")), (mIf (mTest (mBin neD (mVar 3) (mLst mNil))) (mBin ixA (mVar 3) (mK (.int 0))) (mK (.int 0)))), ((mK (.str "seed")), (mVar 4)), ((mK (.str "cells")), (mBin addD (mVar 2) (mLst (mCons (mBin addD (mBin mulD (mK (.int 37)) (mVar 1)) (mK (.int 11))) mNil)))), ((mK (.str "spot")), (mK (.int 0)))]) (pps_cons me_str (me_if (mt_cmp (opNe hr.units) sNe (nomark _) (me_var (pv 3)) (me_lst ma_nil)) (me_ix rfl (hu_of hr) (me_var (pv 3)) me_int (fun _ _ => rfl) (fun _ _ => rfl)) me_int) (pps_cons me_str (me_var (pv 4)) (pps_cons me_str (me_op opAdd sAdd (me_var (pv 2)) (me_lst (ma_cons (me_op opAdd sAdd (me_op opMul sMul me_int (me_var (pv 1))) me_int) ma_nil))) (pps_cons me_str me_int pps_nil)))) rfl rfl (by decide) (by decide))))))))
theorem ok__law_draw (n : Ns Γ mg) (F : Fun Γ.K "_law_draw" "_law_draw" s__law_draw f fd) : FnG P w mg base Γ 1 f fd ["m", "limit"] g__law_draw :=
  have S := sc__law_draw
  ok_fn (N := ["m", "limit", "found", "spot", "cells", "added", "cell", "blend"]) (c := d__law_draw) F S fun cdv A outer s H E W hr hg tk => (mb_cons (ms_if (mt_cmp op_gt sCmp (nomark _) (me_ix rfl (hu_of hr) (me_var (pv 0)) me_str (fun _ _ => rfl) (fun _ _ => rfl)) me_int) (mb_cons (ms_set (i := 2) S.nd rfl (.inl rfl) (me_op op_mod sMod (me_callTy call_int1 sInt (by rfl) n.n_int (by decide +kernel) (ma_cons (me_ix rfl (hu_of hr) (me_var (pv 0)) me_str (fun _ _ => rfl) (fun _ _ => rfl)) ma_nil)) (me_var (pv 1))))
  (mb_cons (ms_dput (hu_of hr) (me_var (pv 0)) me_str (me_op op_fdiv sDiv (me_ix rfl (hu_of hr) (me_var (pv 0)) me_str (fun _ _ => rfl) (fun _ _ => rfl)) (me_var (pv 1))) (by rfl))
  (mb_one (ms_ret (me_var (pv 2)))))) mb_nil)
  (mb_cons (ms_set (i := 3) S.nd rfl (.inl rfl) (me_ix rfl (hu_of hr) (me_var (pv 0)) me_str (fun _ _ => rfl) (fun _ _ => rfl)))
  (mb_cons (ms_dput (hu_of hr) (me_var (pv 0)) me_str (me_op opAdd sAdd (me_var (pv 3)) me_int) (by rfl))
  (mb_cons (ms_par rfl S.nd rfl rfl (by decide) rfl rfl (ma_cons (me_ix rfl (hu_of hr) (me_var (pv 0)) me_str (fun _ _ => rfl) (fun _ _ => rfl)) (ma_cons (me_op opAdd sAdd (me_ix rfl (hu_of hr) (me_var (pv 0)) me_str (fun _ _ => rfl) (fun _ _ => rfl)) (me_op opMul sMul (me_op opMul sMul me_int (me_var (pv 3))) (me_var (pv 3)))) ma_nil)) (by rfl))
  (mb_cons (ms_set (i := 6) S.nd rfl (.inl rfl) (me_ix rfl (hu_of hr) (me_var (pv 4)) (me_op op_mod sMod (me_callTy call_int1 sInt (by rfl) n.n_int (by decide +kernel) (ma_cons (me_var (pv 3)) ma_nil)) (me_callB call_len (sLen rfl) (by rfl) n.n_len (by decide +kernel) (ma_cons (me_var (pv 4)) ma_nil))) (fun _ _ => rfl) (fun _ _ => rfl)))
  (mb_cons (ms_set (i := 7) S.nd rfl (.inl rfl) (me_op op_mod sMod (me_callTy call_int1 sInt (by rfl) n.n_int (by decide +kernel) (ma_cons (me_op opAdd sAdd (me_op opMul sMul (me_var (pv 6)) (me_op opAdd sAdd (me_op opMul sMul me_int (me_var (pv 3))) me_int)) (me_var (pv 5))) ma_nil)) me_int))
  (mb_cons (ms_set (i := 7) S.nd rfl (.inl rfl) (me_op op_mod sMod (me_callTy call_int1 sInt (by rfl) n.n_int (by decide +kernel) (ma_cons (me_op opAdd sAdd (me_op opAdd sAdd (me_op opMul sMul (me_var (pv 7)) (me_var (pv 7))) (me_op opMul sMul me_int (me_var (pv 3)))) (me_ix rfl (hu_of hr) (me_var (pv 0)) me_str (fun _ _ => rfl) (fun _ _ => rfl))) ma_nil)) me_int))
  (mb_one (ms_ret (me_op op_mod sMod (me_op op_fdiv sDiv (me_op op_mod sMod (me_callTy call_int1 sInt (by rfl) n.n_int (by decide +kernel) (ma_cons (me_op opAdd sAdd (me_op opMul sMul (me_var (pv 7)) me_int) (me_var (pv 3))) ma_nil)) me_int) me_int) (me_var (pv 1))))))))))))
theorem ok__law_of (n : Ns Γ mg) (F : Fun Γ.K "_law_of" "_law_of" s__law_of f fd) (c__law_draw : Cal P w mg base Γ 1 "_law_draw" ["m", "limit"] g__law_draw) : FnG P w mg base Γ 2 f fd ["m", "some"] g__law_of :=
  have S := sc__law_of
  ok_fn (N := ["m", "some"]) (c := d__law_of) F S fun cdv A outer s H E W hr hg tk => (mb_one (ms_ret (me_ix rfl (hu_of hr) (me_var (pv 1)) (me_cal c__law_draw rfl (hr.mono (by decide)) hg tk (by rfl) (ma_cons (me_var (pv 0)) (ma_cons (me_callB call_len (sLen rfl) (by rfl) n.n_len (by decide +kernel) (ma_cons (me_var (pv 1)) ma_nil)) ma_nil)) 2 (len_cons (len_cons len_nil)) rfl rfl) (fun _ _ => rfl) (fun _ _ => rfl))))
theorem ok__law_tune (n : Ns Γ mg) (F : Fun Γ.K "_law_tune" "_law_tune" s__law_tune f fd) (c__law_draw : Cal P w mg base Γ 1 "_law_draw" ["m", "limit"] g__law_draw) : FnG P w mg base Γ 2 f fd ["m", "limit"] g__law_tune :=
  have S := sc__law_tune
  ok_fn (N := ["m", "limit", "k"]) (c := d__law_tune) F S fun cdv A outer s H E W hr hg tk => (mb_one (ms_ret (me_callTy call_tuple_of (sTuple rfl) (by rfl) n.n_tuple (by decide +kernel) (ma_cons (me_comp (own := [("k", 2)]) (g := (gName 2)) rfl S.nd (mi_range1 (by rfl) n.n_range (ma_cons (me_op opAdd sAdd me_int (me_cal c__law_draw rfl (hr.mono (by decide)) hg tk (by rfl) (ma_cons (me_var (pv 0)) (ma_cons (me_var (pv 1)) ma_nil)) 2 (len_cons (len_cons len_nil)) rfl rfl)) ma_nil)) (blkOk_by (own := [("k", 2)]) (N := ["m", "limit", "k"]) (sc := defScope s__law_tune) (by decide +kernel)) (fun _ _ _ _ _ => pg_name (i := 2) S.nd rfl (.inl rfl)) (gw_name (by decide)) (fun _ _ _ _ _ => mts_nil) (fun _ _ _ _ _ => (me_op op_sub sSub (me_cal c__law_draw rfl (hr.mono (by decide)) hg tk0 (by rfl) (ma_cons (me_var (pv 0)) (ma_cons me_int ma_nil)) 2 (len_cons (len_cons len_nil)) rfl rfl) me_int))) ma_nil))))
theorem ok__law_sum (n : Ns Γ mg) (F : Fun Γ.K "_law_sum" "_law_sum" s__law_sum f fd) : FnG P w mg base Γ 1 f fd ["tune", "some"] g__law_sum :=
  have S := sc__law_sum
  ok_fn (N := ["tune", "some", "weight", "one"]) (c := d__law_sum) F S fun cdv A outer s H E W hr hg tk => (mb_one (ms_ret (me_callB (cr_sumA rfl) (sSumA rfl) (by rfl) n.n_sum (by decide +kernel) (ma_cons (me_comp (own := [("weight", 2), ("one", 3)]) (g := (gTup Γ.K 2 (gCons (gName 2) (gCons (gName 3) gNil)))) rfl S.nd (mi_zip rfl (by rfl) n.n_zip (ma_cons (me_var (pv 0)) (ma_cons (me_callB cr_sortedA (sSortedA rfl) (by rfl) n.n_sorted (by decide +kernel) (ma_cons (me_var (pv 1)) ma_nil)) ma_nil))) (blkOk_by (own := [("weight", 2), ("one", 3)]) (N := ["tune", "some", "weight", "one"]) (sc := defScope s__law_sum) (by decide +kernel)) (fun _ _ _ _ _ => pg_tup rfl (pgs_cons (pg_name (i := 2) S.nd rfl (.inl rfl)) (pgs_cons (pg_name (i := 3) S.nd rfl (.inl rfl)) pgs_nil))) (gw_tup rfl (gws_cons (gw_name (by decide)) (gws_cons (gw_name (by decide)) gws_nil))) (fun _ _ _ _ _ => mts_nil) (fun _ _ _ _ _ => (me_op opMul sMul (me_var (pv 2)) (me_var (pv 3))))) ma_nil))))
theorem ok__law_all (n : Ns Γ mg) (F : Fun Γ.K "_law_all" "_law_all" s__law_all f fd) : FnG P w mg base Γ 1 f fd ["marks", "many"] g__law_all :=
  have S := sc__law_all
  ok_fn (N := ["marks", "many", "found", "lap", "longer", "row", "mark"]) (c := d__law_all) F S fun cdv A outer s H E W hr hg tk => (mb_cons (ms_set (i := 2) S.nd rfl (.inl rfl) (me_lst (ma_cons (me_tup ma_nil) ma_nil)))
  (mb_cons (ms_for (passes_of rfl) rfl (mi_range1 (by rfl) n.n_range (ma_cons (me_var (pv 1)) ma_nil)) (mg_name (pg_name (i := 3) S.nd rfl (.inl rfl))) (mb_cons (ms_set (i := 4) S.nd rfl (.inl rfl) (me_lst ma_nil))
  (mb_cons (ms_for (passes_of rfl) rfl (mi_seq rfl (me_var (pv 2))) (mg_name (pg_name (i := 5) S.nd rfl (.inr rfl))) (mb_one (ms_set (i := 4) S.nd rfl (.inl rfl) (me_op opAdd sAdd (me_var (pv 4)) (me_comp (own := [("mark", 6)]) (g := (gName 6)) rfl S.nd (mi_seq rfl (me_var (pv 0))) (blkOk_by (own := [("mark", 6)]) (N := ["marks", "many", "found", "lap", "longer", "row", "mark"]) (sc := defScope s__law_all) (by decide +kernel)) (fun _ _ _ _ _ => pg_name (i := 6) S.nd rfl (.inl rfl)) (gw_name (by decide)) (fun _ _ _ _ _ => mts_nil) (fun _ _ _ _ _ => (me_op opAdd sAdd (me_var (pv 5)) (me_tup (ma_cons (me_var (pv 6)) ma_nil)))))))))
  (mb_one (ms_set (i := 2) S.nd rfl (.inl rfl) (me_var (pv 4)))))))
  (mb_one (ms_ret (me_var (pv 2))))))
theorem ok__law_terms (n : Ns Γ mg) (F : Fun Γ.K "_law_terms" "_law_terms" s__law_terms f fd) : FnG P w mg base Γ 1 f fd ["part", "whole"] g__law_terms :=
  have S := sc__law_terms
  ok_fn (N := ["part", "whole", "one", "other"]) (c := d__law_terms) F S fun cdv A outer s H E W hr hg tk => (mb_cons (ms_par rfl S.nd rfl rfl (by decide) rfl rfl (ma_cons (me_callB call_abs sAbs (by rfl) n.n_abs (by decide +kernel) (ma_cons (me_var (pv 0)) ma_nil)) (ma_cons (me_var (pv 1)) ma_nil)) (by rfl))
  (mb_cons (ms_while 100000 (passes_of rfl) (mt_cmp (opNe hr.units) sNe (nomark _) (me_var (pv 3)) me_int) (mb_one (ms_par rfl S.nd rfl rfl (by decide) rfl rfl (ma_cons (me_var (pv 3)) (ma_cons (me_op op_mod sMod (me_callTy call_int1 sInt (by rfl) n.n_int (by decide +kernel) (ma_cons (me_var (pv 2)) ma_nil)) (me_callTy call_int1 sInt (by rfl) n.n_int (by decide +kernel) (ma_cons (me_var (pv 3)) ma_nil))) ma_nil)) (by rfl))))
  (mb_one (ms_ret (me_tup (ma_cons (me_op op_fdiv sDiv (me_var (pv 0)) (me_var (pv 2))) (ma_cons (me_op op_fdiv sDiv (me_var (pv 1)) (me_var (pv 2))) ma_nil)))))))
theorem ok__law_is_over (n : Ns Γ mg) (F : Fun Γ.K "_law_is_over" "_law_is_over" s__law_is_over f fd) : FnG P w mg base Γ 1 f fd ["one", "other"] g__law_is_over :=
  have S := sc__law_is_over
  ok_fn (N := ["one", "other"]) (c := d__law_is_over) F S fun cdv A outer s H E W hr hg tk => (mb_one (ms_ret (me_cmp op_gt sCmp (nomark _) (me_op opMul sMul (me_ix rfl (hu_of hr) (me_var (pv 0)) me_int (fun _ _ => rfl) (fun _ _ => rfl)) (me_ix rfl (hu_of hr) (me_var (pv 1)) me_int (fun _ _ => rfl) (fun _ _ => rfl))) (me_op opMul sMul (me_ix rfl (hu_of hr) (me_var (pv 1)) me_int (fun _ _ => rfl) (fun _ _ => rfl)) (me_ix rfl (hu_of hr) (me_var (pv 0)) me_int (fun _ _ => rfl) (fun _ _ => rfl))))))
theorem ok__law_pairs (n : Ns Γ mg) (F : Fun Γ.K "_law_pairs" "_law_pairs" s__law_pairs f fd) (c__law_all : Cal P w mg base Γ 1 "_law_all" ["marks", "many"] g__law_all) (c__law_sum : Cal P w mg base Γ 1 "_law_sum" ["tune", "some"] g__law_sum) : FnG P w mg base Γ 2 f fd ["tune", "far", "count"] g__law_pairs :=
  have S := sc__law_pairs
  ok_fn (N := ["tune", "far", "count", "wide", "found", "bits"]) (c := d__law_pairs) F S fun cdv A outer s H E W hr hg tk => (mb_cons (ms_par rfl S.nd rfl rfl (by decide) rfl rfl (ma_cons (me_callB (call_max2 rfl) sMax2 (by rfl) n.n_max (by decide +kernel) (ma_cons (me_callB call_len (sLen rfl) (by rfl) n.n_len (by decide +kernel) (ma_cons (me_var (pv 0)) ma_nil)) (ma_cons (me_callB call_len (sLen rfl) (by rfl) n.n_len (by decide +kernel) (ma_cons (me_var (pv 1)) ma_nil)) ma_nil))) (ma_cons (me_lstM ma_nil) ma_nil)) (by rfl))
  (mb_cons (ms_for (passes_of rfl) rfl (mi_seq rfl (me_cal c__law_all rfl (hr.mono (by decide)) hg tk (by rfl) (ma_cons (me_tup (ma_cons me_int (ma_cons me_int ma_nil))) (ma_cons (me_op opAdd sAdd (me_var (pv 3)) (me_var (pv 2))) ma_nil)) 2 (len_cons (len_cons len_nil)) rfl rfl)) (mg_name (pg_name (i := 5) S.nd rfl (.inl rfl))) (mb_one (ms_expr (me_app (pe_bm PySem.F.plainAttrs_list PySem.F.slot_list_append PySem.F.type_list_append mt_append (me_var (pv 4)) (pa_cons (me_tup (ma_cons (me_cal c__law_sum rfl (hr.mono (by decide)) hg tk (by rfl) (ma_cons (me_var (pv 0)) (ma_cons (me_sl rfl (me_var (pv 5)) (mo_some (me_op op_sub sSub (me_var (pv 3)) (me_callB call_len (sLen rfl) (by rfl) n.n_len (by decide +kernel) (ma_cons (me_var (pv 0)) ma_nil)))) (mo_some (me_var (pv 3)))) ma_nil)) 2 (len_cons (len_cons len_nil)) rfl rfl) (ma_cons (me_cal c__law_sum rfl (hr.mono (by decide)) hg tk (by rfl) (ma_cons (me_var (pv 1)) (ma_cons (me_sl rfl (me_var (pv 5)) (mo_some (me_op op_sub sSub (me_op opAdd sAdd (me_var (pv 3)) (me_var (pv 2))) (me_callB call_len (sLen rfl) (by rfl) n.n_len (by decide +kernel) (ma_cons (me_var (pv 1)) ma_nil)))) mo_none) ma_nil)) 2 (len_cons (len_cons len_nil)) rfl rfl) (ma_cons (me_var (pv 5)) ma_nil)))) pa_nil))))))
  (mb_one (ms_ret (me_var (pv 4))))))
theorem ok__law_suit (n : Ns Γ mg) (F : Fun Γ.K "_law_suit" "_law_suit" s__law_suit f fd) (c__law_terms : Cal P w mg base Γ 1 "_law_terms" ["part", "whole"] g__law_terms) (c__law_is_over : Cal P w mg base Γ 1 "_law_is_over" ["one", "other"] g__law_is_over) : FnG P w mg base Γ 2 f fd ["pairs"] g__law_suit :=
  have S := sc__law_suit
  ok_fn (N := ["pairs", "low_so", "high_so", "near", "far", "bits", "one"]) (c := d__law_suit) F S fun cdv A outer s H E W hr hg tk => (mb_cons (ms_setT (me_tup (ma_cons me_non (ma_cons me_non ma_nil))) (mg_tup' rfl rfl (mgs_cons' (mg_name (pg_name (i := 1) S.nd rfl (.inl rfl))) (mgs_cons' (mg_name (pg_name (i := 2) S.nd rfl (.inl rfl))) mgs_nil))))
  (mb_cons (ms_for (passes_of rfl) rfl (mi_seq rfl (me_var (pv 0))) (mg_tup' rfl rfl (mgs_cons' (mg_name (pg_name (i := 3) S.nd rfl (.inl rfl))) (mgs_cons' (mg_name (pg_name (i := 4) S.nd rfl (.inl rfl))) (mgs_cons' (mg_name (pg_name (i := 5) S.nd rfl (.inl rfl))) mgs_nil)))) (mb_cons (ms_if (mt_w (mw_and (mt_cmp (opEq hr.units) sEq (nomark _) (me_var (pv 4)) me_int) (mw_and1 (mt_cmp op_lt sCmp (nomark _) (me_var (pv 3)) me_int)))) (mb_one (ms_ret me_non)) mb_nil)
  (mb_cons (ms_if (mt_cmp op_gt sCmp (nomark _) (me_var (pv 4)) me_int) (mb_cons (ms_set (i := 6) S.nd rfl (.inl rfl) (me_cal c__law_terms rfl (hr.mono (by decide)) hg tk (by rfl) (ma_cons (me_var (pv 3)) (ma_cons (me_var (pv 4)) ma_nil)) 2 (len_cons (len_cons len_nil)) rfl rfl))
  (mb_one (ms_set (i := 2) S.nd rfl (.inl rfl) (me_if (mt_w (mw_or (mt_cmp op_isC sIsC (nomark _) (me_var (pv 2)) me_non) (mw_or1 (mt_val (me_cal c__law_is_over rfl (hr.mono (by decide)) hg tk (by rfl) (ma_cons (me_var (pv 2)) (ma_cons (me_var (pv 6)) ma_nil)) 2 (len_cons (len_cons len_nil)) rfl rfl))))) (me_var (pv 6)) (me_var (pv 2)))))) mb_nil)
  (mb_one (ms_if (mt_cmp op_lt sCmp (nomark _) (me_var (pv 4)) me_int) (mb_cons (ms_set (i := 6) S.nd rfl (.inl rfl) (me_cal c__law_terms rfl (hr.mono (by decide)) hg tk (by rfl) (ma_cons (me_op op_sub sSub me_int (me_var (pv 3))) (ma_cons (me_op op_sub sSub me_int (me_var (pv 4))) ma_nil)) 2 (len_cons (len_cons len_nil)) rfl rfl))
  (mb_one (ms_set (i := 1) S.nd rfl (.inl rfl) (me_if (mt_w (mw_or (mt_cmp op_isC sIsC (nomark _) (me_var (pv 1)) me_non) (mw_or1 (mt_val (me_cal c__law_is_over rfl (hr.mono (by decide)) hg tk (by rfl) (ma_cons (me_var (pv 6)) (ma_cons (me_var (pv 1)) ma_nil)) 2 (len_cons (len_cons len_nil)) rfl rfl))))) (me_var (pv 6)) (me_var (pv 1)))))) mb_nil)))))
  (mb_cons (ms_if (mt_w (mw_and (mt_cmp op_notC sIsntC (nomark _) (me_var (pv 1)) me_non) (mw_and (mt_cmp op_notC sIsntC (nomark _) (me_var (pv 2)) me_non) (mw_and1 (mt_val (me_cal c__law_is_over rfl (hr.mono (by decide)) hg tk (by rfl) (ma_cons (me_var (pv 1)) (ma_cons (me_var (pv 2)) ma_nil)) 2 (len_cons (len_cons len_nil)) rfl rfl)))))) (mb_one (ms_ret me_non)) mb_nil)
  (mb_one (ms_ret (me_tup (ma_cons (me_var (pv 1)) (ma_cons (me_var (pv 2)) ma_nil))))))))
theorem ok__law_results_right (n : Ns Γ mg) (F : Fun Γ.K "_law_results_right" "_law_results_right" s__law_results_right f fd) (c__law_draw : Cal P w mg base Γ 1 "_law_draw" ["m", "limit"] g__law_draw) (c__law_of : Cal P w mg base Γ 2 "_law_of" ["m", "some"] g__law_of) (c__law_sum : Cal P w mg base Γ 1 "_law_sum" ["tune", "some"] g__law_sum) : FnG P w mg base Γ 3 f fd ["m", "tune", "far", "count", "is_below", "ends_so"] g__law_results_right :=
  have S := sc__law_results_right
  ok_fn (N := ["m", "tune", "far", "count", "is_below", "ends_so", "wide", "lap", "film", "ahead", "one", "other", "end", "k"]) (c := d__law_results_right) F S fun cdv A outer s H E W hr hg tk => (mb_cons (ms_set (i := 6) S.nd rfl (.inl rfl) (me_callB (call_max2 rfl) sMax2 (by rfl) n.n_max (by decide +kernel) (ma_cons (me_callB call_len (sLen rfl) (by rfl) n.n_len (by decide +kernel) (ma_cons (me_var (pv 1)) ma_nil)) (ma_cons (me_callB call_len (sLen rfl) (by rfl) n.n_len (by decide +kernel) (ma_cons (me_var (pv 2)) ma_nil)) ma_nil))))
  (mb_cons (ms_for (passes_of rfl) rfl (mi_range1 (by rfl) n.n_range (ma_cons me_int ma_nil)) (mg_name (pg_name (i := 7) S.nd rfl (.inl rfl))) (mb_cons (ms_set (i := 8) S.nd rfl (.inl rfl) (me_callTy call_tuple_of (sTuple rfl) (by rfl) n.n_tuple (by decide +kernel) (ma_cons (me_comp (own := [("k", 13)]) (g := (gName 13)) rfl S.nd (mi_range1 (by rfl) n.n_range (ma_cons (me_op opAdd sAdd (me_op opAdd sAdd (me_var (pv 6)) (me_var (pv 3))) (me_cal c__law_draw rfl (hr.mono (by decide)) hg tk (by rfl) (ma_cons (me_var (pv 0)) (ma_cons me_int ma_nil)) 2 (len_cons (len_cons len_nil)) rfl rfl)) ma_nil)) (blkOk_by (own := [("k", 13)]) (N := ["m", "tune", "far", "count", "is_below", "ends_so", "wide", "lap", "film", "ahead", "one", "other", "end", "k"]) (sc := defScope s__law_results_right) (by decide +kernel)) (fun _ _ _ _ _ => pg_name (i := 13) S.nd rfl (.inl rfl)) (gw_name (by decide)) (fun _ _ _ _ _ => mts_nil) (fun _ _ _ _ _ => (me_cal c__law_draw rfl (hr.mono (by decide)) hg tk0 (by rfl) (ma_cons (me_var (pv 0)) (ma_cons (me_cal c__law_of rfl (hr.mono (by decide)) hg tk0 (by rfl) (ma_cons (me_var (pv 0)) (ma_cons (me_lst (ma_cons me_int (ma_cons me_int (ma_cons me_int ma_nil)))) ma_nil)) 2 (len_cons (len_cons len_nil)) rfl rfl) ma_nil)) 2 (len_cons (len_cons len_nil)) rfl rfl))) ma_nil)))
  (mb_cons (ms_set (i := 9) S.nd rfl (.inl rfl) (me_sl rfl (me_var (pv 8)) mo_none (mo_some (me_op op_sub sSub (me_callB call_len (sLen rfl) (by rfl) n.n_len (by decide +kernel) (ma_cons (me_var (pv 8)) ma_nil)) (me_var (pv 3))))))
  (mb_cons (ms_par rfl S.nd rfl rfl (by decide) rfl rfl (ma_cons (me_cal c__law_sum rfl (hr.mono (by decide)) hg tk (by rfl) (ma_cons (me_var (pv 1)) (ma_cons (me_sl rfl (me_var (pv 9)) (mo_some (me_op op_sub sSub (me_callB call_len (sLen rfl) (by rfl) n.n_len (by decide +kernel) (ma_cons (me_var (pv 9)) ma_nil)) (me_callB call_len (sLen rfl) (by rfl) n.n_len (by decide +kernel) (ma_cons (me_var (pv 1)) ma_nil)))) mo_none) ma_nil)) 2 (len_cons (len_cons len_nil)) rfl rfl) (ma_cons (me_cal c__law_sum rfl (hr.mono (by decide)) hg tk (by rfl) (ma_cons (me_var (pv 2)) (ma_cons (me_sl rfl (me_var (pv 8)) (mo_some (me_op op_sub sSub (me_callB call_len (sLen rfl) (by rfl) n.n_len (by decide +kernel) (ma_cons (me_var (pv 8)) ma_nil)) (me_callB call_len (sLen rfl) (by rfl) n.n_len (by decide +kernel) (ma_cons (me_var (pv 2)) ma_nil)))) mo_none) ma_nil)) 2 (len_cons (len_cons len_nil)) rfl rfl) ma_nil)) (by rfl))
  (mb_cons (ms_if (mt_w (mw_and (mt_val (me_var (pv 4))) (mw_and1 (mt_cmp op_gt sCmp (nomark _) (me_var (pv 10)) (me_var (pv 11)))))) (mb_one (ms_ret me_bl)) mb_nil)
  (mb_one (ms_for (passes_of rfl) rfl (mi_seq rfl (me_comp (own := [("end", 12)]) (g := (gName 12)) rfl S.nd (mi_seq rfl (me_if (mt_cmp op_notC sIsntC (nomark _) (me_var (pv 5)) me_non) (me_var (pv 5)) (me_tup ma_nil))) (blkOk_by (own := [("end", 12)]) (N := ["m", "tune", "far", "count", "is_below", "ends_so", "wide", "lap", "film", "ahead", "one", "other", "end", "k"]) (sc := defScope s__law_results_right) (by decide +kernel)) (fun _ _ _ _ _ => pg_name (i := 12) S.nd rfl (.inl rfl)) (gw_name (by decide)) (fun _ _ _ _ _ => mts_one (mt_cmp op_notC sIsntC (nomark _) (me_var (pv 12)) me_non)) (fun _ _ _ _ _ => (me_var (pv 12))))) (mg_name (pg_name (i := 12) S.nd rfl (.inl rfl))) (mb_one (ms_if (mt_cmp op_lt sCmp (nomark _) (me_op opMul sMul (me_var (pv 10)) (me_ix rfl (hu_of hr) (me_var (pv 12)) me_int (fun _ _ => rfl) (fun _ _ => rfl))) (me_op opMul sMul (me_ix rfl (hu_of hr) (me_var (pv 12)) me_int (fun _ _ => rfl) (fun _ _ => rfl)) (me_var (pv 11)))) (mb_one (ms_ret me_bl)) mb_nil)))))))))
  (mb_one (ms_ret me_bl))))
theorem ok__law_right (n : Ns Γ mg) (F : Fun Γ.K "_law_right" "_law_right" s__law_right f fd) (c__law_pairs : Cal P w mg base Γ 2 "_law_pairs" ["tune", "far", "count"] g__law_pairs) (c__law_suit : Cal P w mg base Γ 2 "_law_suit" ["pairs"] g__law_suit) (c_never_above : CalD P w mg base Γ 5 "never_above" ["rule", "other", "rounds"] "rounds" 0 g_never_above) (c_above_row : CalD P w mg base Γ 4 "above_row" ["rule", "other", "rounds"] "rounds" 0 g_above_row) (c_suits : CalD P w mg base Γ 4 "suits" ["rule", "other", "rounds"] "rounds" 0 g_suits) (c__law_results_right : Cal P w mg base Γ 3 "_law_results_right" ["m", "tune", "far", "count", "is_below", "ends_so"] g__law_results_right) : FnG P w mg base Γ 6 f fd ["m", "tune", "far", "count"] g__law_right :=
  have S := sc__law_right
  ok_fn (N := ["m", "tune", "far", "count", "pairs", "above_so", "due", "again", "told_so", "near", "more", "bits"]) (c := d__law_right) F S fun cdv A outer s H E W hr hg tk => (mb_cons (ms_set (i := 4) S.nd rfl (.inl rfl) (me_cal c__law_pairs rfl (hr.mono (by decide)) hg tk (by rfl) (ma_cons (me_var (pv 1)) (ma_cons (me_var (pv 2)) (ma_cons (me_var (pv 3)) ma_nil))) 3 (len_cons (len_cons (len_cons len_nil))) rfl rfl))
  (mb_cons (ms_setComp (i := 5) (own := [("near", 9), ("more", 10), ("bits", 11)]) (g := (gTup Γ.K 3 (gCons (gName 9) (gCons (gName 10) (gCons (gName 11) gNil))))) rfl S.nd rfl rfl (sw_true rfl rfl rfl (by decide +kernel)) (mi_seq rfl (me_var (pv 4))) (blkOk_by (own := [("near", 9), ("more", 10), ("bits", 11)]) (N := ["m", "tune", "far", "count", "pairs", "above_so", "due", "again", "told_so", "near", "more", "bits"]) (sc := defScope s__law_right) (by decide +kernel)) (fun _ _ _ _ _ => pg_tup rfl (pgs_cons (pg_name (i := 9) S.nd rfl (.inl rfl)) (pgs_cons (pg_name (i := 10) S.nd rfl (.inl rfl)) (pgs_cons (pg_name (i := 11) S.nd rfl (.inl rfl)) pgs_nil)))) (gw_tup rfl (gws_cons (gw_name (by decide)) (gws_cons (gw_name (by decide)) (gws_cons (gw_name (by decide)) gws_nil)))) (fun _ _ _ _ _ => mts_one (mt_cmp op_gt sCmp (nomark _) (me_var (pv 9)) (me_var (pv 10)))) (fun _ _ _ _ _ => (me_var (pv 11))))
  (mb_cons (ms_set (i := 6) S.nd rfl (.inl rfl) (me_lst (ma_cons (me_cmp (opEq hr.units) sEq (nomark _) (me_var (pv 5)) (me_lst ma_nil)) (ma_cons (me_if (mt_cmp (opNe hr.units) sNe (nomark _) (me_var (pv 5)) (me_lst ma_nil)) (me_ix rfl (hu_of hr) (me_var (pv 5)) me_int (fun _ _ => rfl) (fun _ _ => rfl)) me_non) (ma_cons (me_cal c__law_suit rfl (hr.mono (by decide)) hg tk (by rfl) (ma_cons (me_var (pv 4)) ma_nil) 1 (len_cons len_nil) rfl rfl) ma_nil)))))
  (mb_cons (ms_for (passes_of rfl) rfl (mi_range1 (by rfl) n.n_range (ma_cons me_int ma_nil)) (mg_name (pg_name (i := 7) S.nd rfl (.inl rfl))) (mb_cons (ms_set (i := 8) S.nd rfl (.inl rfl) (me_lst (ma_cons (me_calDA c_never_above rfl (hr.mono (by decide)) hg tk (by rfl) (ma_cons (me_var (pv 1)) (ma_cons (me_var (pv 2)) (ma_cons (me_var (pv 3)) ma_nil))) 3 (len_cons (len_cons (len_cons len_nil))) rfl rfl) (ma_cons (me_calDK c_above_row rfl (hr.mono (by decide)) hg tk (by rfl) (ma_cons (me_var (pv 1)) (ma_cons (me_var (pv 2)) ma_nil)) 2 (len_cons (len_cons len_nil)) (by rfl) (mk_cons (me_var (pv 3)) mk_nil) (len_cons len_nil)) (ma_cons (me_calDA c_suits rfl (hr.mono (by decide)) hg tk (by rfl) (ma_cons (me_var (pv 1)) (ma_cons (me_var (pv 2)) (ma_cons (me_var (pv 3)) ma_nil))) 3 (len_cons (len_cons (len_cons len_nil))) rfl rfl) ma_nil)))))
  (mb_one (ms_if (mt_cmp (opNe hr.units) sNe (nomark _) (me_callB (call_repr hg hr.units) (sRepr rfl) (by rfl) n.n_repr (by decide +kernel) (ma_cons (me_var (pv 8)) ma_nil)) (me_callB (call_repr hg hr.units) (sRepr rfl) (by rfl) n.n_repr (by decide +kernel) (ma_cons (me_var (pv 6)) ma_nil))) (mb_one (ms_ret me_bl)) mb_nil))))
  (mb_cons (ms_if (mt_cmp (opEq hr.units) sEq (nomark _) (me_var (pv 3)) me_int) (mb_cons (ms_set (i := 8) S.nd rfl (.inl rfl) (me_lst (ma_cons (me_calD c_never_above rfl (hr.mono (by decide)) hg tk (by rfl) (ma_cons (me_var (pv 1)) (ma_cons (me_var (pv 2)) ma_nil)) 2 (len_cons (len_cons len_nil)) rfl rfl) (ma_cons (me_calD c_above_row rfl (hr.mono (by decide)) hg tk (by rfl) (ma_cons (me_var (pv 1)) (ma_cons (me_var (pv 2)) ma_nil)) 2 (len_cons (len_cons len_nil)) rfl rfl) (ma_cons (me_calD c_suits rfl (hr.mono (by decide)) hg tk (by rfl) (ma_cons (me_var (pv 1)) (ma_cons (me_var (pv 2)) ma_nil)) 2 (len_cons (len_cons len_nil)) rfl rfl) ma_nil)))))
  (mb_one (ms_if (mt_cmp (opNe hr.units) sNe (nomark _) (me_callB (call_repr hg hr.units) (sRepr rfl) (by rfl) n.n_repr (by decide +kernel) (ma_cons (me_var (pv 8)) ma_nil)) (me_callB (call_repr hg hr.units) (sRepr rfl) (by rfl) n.n_repr (by decide +kernel) (ma_cons (me_var (pv 6)) ma_nil))) (mb_one (ms_ret me_bl)) mb_nil))) mb_nil)
  (mb_one (ms_ret (me_cal c__law_results_right rfl (hr.mono (by decide)) hg tk (by rfl) (ma_cons (me_var (pv 0)) (ma_cons (me_var (pv 1)) (ma_cons (me_var (pv 2)) (ma_cons (me_var (pv 3)) (ma_cons (me_ix rfl (hu_of hr) (me_var (pv 6)) me_int (fun _ _ => rfl) (fun _ _ => rfl)) (ma_cons (me_ix rfl (hu_of hr) (me_var (pv 6)) me_int (fun _ _ => rfl) (fun _ _ => rfl)) ma_nil)))))) 6 (len_cons (len_cons (len_cons (len_cons (len_cons (len_cons len_nil)))))) rfl rfl))))))))
theorem ok__law_hand_right (n : Ns Γ mg) (F : Fun Γ.K "_law_hand_right" "_law_hand_right" s__law_hand_right f fd) (c_never_above : CalD P w mg base Γ 5 "never_above" ["rule", "other", "rounds"] "rounds" 0 g_never_above) (c_above_row : CalD P w mg base Γ 4 "above_row" ["rule", "other", "rounds"] "rounds" 0 g_above_row) (c_suits : CalD P w mg base Γ 4 "suits" ["rule", "other", "rounds"] "rounds" 0 g_suits) : FnG P w mg base Γ 6 f fd [] g__law_hand_right :=
  have S := sc__law_hand_right
  ok_fn (N := ["best", "middle", "worst", "last", "told_so"]) (c := d__law_hand_right) F S fun cdv A outer s H E W hr hg tk => (mb_cons (ms_setT (me_tup (ma_cons (me_tup (ma_cons me_int (ma_cons me_int (ma_cons me_int ma_nil)))) (ma_cons (me_tup (ma_cons me_int (ma_cons me_int (ma_cons me_int ma_nil)))) (ma_cons (me_tup (ma_cons me_int (ma_cons me_int (ma_cons me_int ma_nil)))) (ma_cons (me_tup (ma_cons me_int ma_nil)) ma_nil))))) (mg_tup' rfl rfl (mgs_cons' (mg_name (pg_name (i := 0) S.nd rfl (.inl rfl))) (mgs_cons' (mg_name (pg_name (i := 1) S.nd rfl (.inl rfl))) (mgs_cons' (mg_name (pg_name (i := 2) S.nd rfl (.inl rfl))) (mgs_cons' (mg_name (pg_name (i := 3) S.nd rfl (.inl rfl))) mgs_nil))))))
  (mb_cons (ms_set (i := 4) S.nd rfl (.inl rfl) (me_lst (ma_cons (me_calD c_never_above rfl (hr.mono (by decide)) hg tk (by rfl) (ma_cons (me_var (pv 2)) (ma_cons (me_var (pv 1)) ma_nil)) 2 (len_cons (len_cons len_nil)) rfl rfl) (ma_cons (me_calD c_never_above rfl (hr.mono (by decide)) hg tk (by rfl) (ma_cons (me_var (pv 1)) (ma_cons (me_var (pv 0)) ma_nil)) 2 (len_cons (len_cons len_nil)) rfl rfl) (ma_cons (me_calD c_never_above rfl (hr.mono (by decide)) hg tk (by rfl) (ma_cons (me_var (pv 0)) (ma_cons (me_var (pv 1)) ma_nil)) 2 (len_cons (len_cons len_nil)) rfl rfl) (ma_cons (me_calD c_never_above rfl (hr.mono (by decide)) hg tk (by rfl) (ma_cons (me_var (pv 3)) (ma_cons (me_var (pv 0)) ma_nil)) 2 (len_cons (len_cons len_nil)) rfl rfl) ma_nil))))))
  (mb_cons (ms_if (mt_w (mw_or (mt_cmp (opNe hr.units) sNe (nomark _) (me_var (pv 4)) (me_lst (ma_cons me_bl (ma_cons me_bl (ma_cons me_bl (ma_cons me_bl ma_nil)))))) (mw_or (mt_cmp (opNe hr.units) sNe (nomark _) (me_calD c_above_row rfl (hr.mono (by decide)) hg tk (by rfl) (ma_cons (me_var (pv 0)) (ma_cons (me_var (pv 1)) ma_nil)) 2 (len_cons (len_cons len_nil)) rfl rfl) (me_tup (ma_cons me_int (ma_cons me_int (ma_cons me_int ma_nil))))) (mw_or1 (mt_cmp (opNe hr.units) sNe (nomark _) (me_calD c_above_row rfl (hr.mono (by decide)) hg tk (by rfl) (ma_cons (me_var (pv 3)) (ma_cons (me_var (pv 2)) ma_nil)) 2 (len_cons (len_cons len_nil)) rfl rfl) (me_tup (ma_cons me_int (ma_cons me_int (ma_cons me_int ma_nil))))))))) (mb_one (ms_ret me_bl)) mb_nil)
  (mb_cons (ms_set (i := 4) S.nd rfl (.inl rfl) (me_lst (ma_cons (me_calD c_suits rfl (hr.mono (by decide)) hg tk (by rfl) (ma_cons (me_var (pv 0)) (ma_cons (me_tup (ma_cons me_int (ma_cons me_int (ma_cons me_int ma_nil)))) ma_nil)) 2 (len_cons (len_cons len_nil)) rfl rfl) (ma_cons (me_calD c_suits rfl (hr.mono (by decide)) hg tk (by rfl) (ma_cons (me_tup (ma_cons me_int (ma_cons me_int (ma_cons me_int ma_nil)))) (ma_cons (me_var (pv 0)) ma_nil)) 2 (len_cons (len_cons len_nil)) rfl rfl) (ma_cons (me_calD c_suits rfl (hr.mono (by decide)) hg tk (by rfl) (ma_cons (me_var (pv 2)) (ma_cons (me_tup (ma_cons me_int (ma_cons me_int (ma_cons me_int ma_nil)))) ma_nil)) 2 (len_cons (len_cons len_nil)) rfl rfl) (ma_cons (me_calD c_suits rfl (hr.mono (by decide)) hg tk (by rfl) (ma_cons (me_tup (ma_cons me_int ma_nil)) (ma_cons (me_tup (ma_cons (me_un un_neg sNeg me_int) ma_nil)) ma_nil)) 2 (len_cons (len_cons len_nil)) rfl rfl) (ma_cons (me_calD c_suits rfl (hr.mono (by decide)) hg tk (by rfl) (ma_cons (me_tup (ma_cons (me_un un_neg sNeg me_int) ma_nil)) (ma_cons (me_tup (ma_cons me_int ma_nil)) ma_nil)) 2 (len_cons (len_cons len_nil)) rfl rfl) ma_nil)))))))
  (mb_cons (ms_if (mt_cmp (opNe hr.units) sNe (nomark _) (me_var (pv 4)) (me_lst (ma_cons (me_tup (ma_cons me_non (ma_cons (me_tup (ma_cons me_int (ma_cons me_int ma_nil))) ma_nil))) (ma_cons (me_tup (ma_cons me_non (ma_cons (me_tup (ma_cons me_int (ma_cons me_int ma_nil))) ma_nil))) (ma_cons (me_tup (ma_cons me_non (ma_cons (me_tup (ma_cons me_int (ma_cons me_int ma_nil))) ma_nil))) (ma_cons (me_tup (ma_cons (me_tup (ma_cons me_int (ma_cons me_int ma_nil))) (ma_cons me_non ma_nil))) (ma_cons me_non ma_nil))))))) (mb_one (ms_ret me_bl)) mb_nil)
  (mb_cons (ms_set (i := 4) S.nd rfl (.inl rfl) (me_lst (ma_cons (me_calD c_suits rfl (hr.mono (by decide)) hg tk (by rfl) (ma_cons (me_tup (ma_cons (me_un un_neg sNeg me_int) (ma_cons me_int ma_nil))) (ma_cons (me_tup (ma_cons me_int (ma_cons (me_un un_neg sNeg me_int) ma_nil))) ma_nil)) 2 (len_cons (len_cons len_nil)) rfl rfl) (ma_cons (me_calD c_suits rfl (hr.mono (by decide)) hg tk (by rfl) (ma_cons (me_tup (ma_cons me_int ma_nil)) (ma_cons (me_tup (ma_cons me_int ma_nil)) ma_nil)) 2 (len_cons (len_cons len_nil)) rfl rfl) (ma_cons (me_calD c_suits rfl (hr.mono (by decide)) hg tk (by rfl) (ma_cons (me_tup (ma_cons me_int ma_nil)) (ma_cons (me_tup (ma_cons me_int ma_nil)) ma_nil)) 2 (len_cons (len_cons len_nil)) rfl rfl) (ma_cons (me_calD c_suits rfl (hr.mono (by decide)) hg tk (by rfl) (ma_cons (me_tup (ma_cons me_int (ma_cons me_int ma_nil))) (ma_cons (me_tup (ma_cons (me_un un_neg sNeg me_int) (ma_cons me_int ma_nil))) ma_nil)) 2 (len_cons (len_cons len_nil)) rfl rfl) (ma_cons (me_calD c_suits rfl (hr.mono (by decide)) hg tk (by rfl) (ma_cons (me_tup (ma_cons (me_un un_neg sNeg me_int) ma_nil)) (ma_cons (me_tup (ma_cons me_int ma_nil)) ma_nil)) 2 (len_cons (len_cons len_nil)) rfl rfl) ma_nil)))))))
  (mb_cons (ms_if (mt_cmp (opNe hr.units) sNe (nomark _) (me_var (pv 4)) (me_lst (ma_cons me_non (ma_cons (me_tup (ma_cons me_non (ma_cons (me_tup (ma_cons me_int (ma_cons me_int ma_nil))) ma_nil))) (ma_cons (me_tup (ma_cons me_non (ma_cons me_non ma_nil))) (ma_cons (me_tup (ma_cons me_non (ma_cons (me_tup (ma_cons me_int (ma_cons me_int ma_nil))) ma_nil))) (ma_cons (me_tup (ma_cons me_non (ma_cons (me_tup (ma_cons (me_un un_neg sNeg me_int) (ma_cons me_int ma_nil))) ma_nil))) ma_nil))))))) (mb_one (ms_ret me_bl)) mb_nil)
  (mb_cons (ms_set (i := 4) S.nd rfl (.inl rfl) (me_lst (ma_cons (me_calDA c_never_above rfl (hr.mono (by decide)) hg tk (by rfl) (ma_cons (me_var (pv 2)) (ma_cons (me_var (pv 0)) (ma_cons me_int ma_nil))) 3 (len_cons (len_cons (len_cons len_nil))) rfl rfl) (ma_cons (me_calDA c_never_above rfl (hr.mono (by decide)) hg tk (by rfl) (ma_cons (me_var (pv 2)) (ma_cons (me_var (pv 0)) (ma_cons me_int ma_nil))) 3 (len_cons (len_cons (len_cons len_nil))) rfl rfl) (ma_cons (me_calDA c_never_above rfl (hr.mono (by decide)) hg tk (by rfl) (ma_cons (me_var (pv 1)) (ma_cons (me_var (pv 0)) (ma_cons me_int ma_nil))) 3 (len_cons (len_cons (len_cons len_nil))) rfl rfl) ma_nil)))))
  (mb_cons (ms_if (mt_w (mw_or (mt_cmp (opNe hr.units) sNe (nomark _) (me_var (pv 4)) (me_lst (ma_cons me_bl (ma_cons me_bl (ma_cons me_bl ma_nil))))) (mw_or1 (mt_cmp (opNe hr.units) sNe (nomark _) (me_calDA c_above_row rfl (hr.mono (by decide)) hg tk (by rfl) (ma_cons (me_var (pv 2)) (ma_cons (me_var (pv 0)) (ma_cons me_int ma_nil))) 3 (len_cons (len_cons (len_cons len_nil))) rfl rfl) (me_tup (ma_cons me_int (ma_cons me_int (ma_cons me_int (ma_cons me_int (ma_cons me_int (ma_cons me_int ma_nil))))))))))) (mb_one (ms_ret me_bl)) mb_nil)
  (mb_cons (ms_if (mt_w (mw_or (mt_cmp op_notC sIsntC (nomark _) (me_calD c_suits rfl (hr.mono (by decide)) hg tk (by rfl) (ma_cons (me_tup (ma_cons (me_un un_neg sNeg me_int) (ma_cons me_int ma_nil))) (ma_cons (me_tup (ma_cons me_int (ma_cons (me_un un_neg sNeg me_int) ma_nil))) ma_nil)) 2 (len_cons (len_cons len_nil)) rfl rfl) me_non) (mw_or1 (mt_cmp (opNe hr.units) sNe (nomark _) (me_calDA c_above_row rfl (hr.mono (by decide)) hg tk (by rfl) (ma_cons (me_tup (ma_cons me_int ma_nil)) (ma_cons (me_tup (ma_cons me_int ma_nil)) (ma_cons me_int ma_nil))) 3 (len_cons (len_cons (len_cons len_nil))) rfl rfl) (me_tup (ma_cons me_int (ma_cons me_int (ma_cons me_int (ma_cons me_int (ma_cons me_int (ma_cons me_int (ma_cons me_int ma_nil)))))))))))) (mb_one (ms_ret me_bl)) mb_nil)
  (mb_cons (ms_if (mt_cmp (opNe hr.units) sNe (nomark _) (me_lst (ma_cons (me_calDA c_suits rfl (hr.mono (by decide)) hg tk (by rfl) (ma_cons (me_tup (ma_cons me_int ma_nil)) (ma_cons (me_tup (ma_cons me_int ma_nil)) (ma_cons me_int ma_nil))) 3 (len_cons (len_cons (len_cons len_nil))) rfl rfl) (ma_cons (me_calD c_suits rfl (hr.mono (by decide)) hg tk (by rfl) (ma_cons (me_op opMul sMul (me_tup (ma_cons me_int ma_nil)) me_int) (ma_cons (me_tup (ma_cons me_int (ma_cons me_int (ma_cons me_int (ma_cons me_int (ma_cons me_int (ma_cons me_int ma_nil))))))) ma_nil)) 2 (len_cons (len_cons len_nil)) rfl rfl) ma_nil))) (me_lst (ma_cons (me_tup (ma_cons me_non (ma_cons (me_tup (ma_cons me_int (ma_cons me_int ma_nil))) ma_nil))) (ma_cons (me_tup (ma_cons me_non (ma_cons (me_tup (ma_cons me_int (ma_cons me_int ma_nil))) ma_nil))) ma_nil)))) (mb_one (ms_ret me_bl)) mb_nil)
  (mb_one (ms_ret (me_and (me_cmp (opEq hr.units) sEq (nomark _) (me_calDA c_suits rfl (hr.mono (by decide)) hg tk (by rfl) (ma_cons (me_tup (ma_cons me_int (ma_cons me_int ma_nil))) (ma_cons (me_tup (ma_cons me_int (ma_cons me_int ma_nil))) (ma_cons me_int ma_nil))) 3 (len_cons (len_cons (len_cons len_nil))) rfl rfl) (me_tup (ma_cons me_non (ma_cons (me_tup (ma_cons me_int (ma_cons me_int ma_nil))) ma_nil)))) (me_one (me_calDA c_never_above rfl (hr.mono (by decide)) hg tk (by rfl) (ma_cons (me_op opMul sMul (me_tup (ma_cons (me_un un_neg sNeg me_int) ma_nil)) me_int) (ma_cons (me_tup (ma_cons me_int ma_nil)) (ma_cons me_int ma_nil))) 3 (len_cons (len_cons (len_cons len_nil))) rfl rfl))))))))))))))))
theorem ok_law (n : Ns Γ mg) (F : Fun Γ.K "law" "law" s_law f fd) (c__law_begun : Cal P w mg base Γ 1 "_law_begun" ["script", "k"] g__law_begun) (c__law_tune : Cal P w mg base Γ 2 "_law_tune" ["m", "limit"] g__law_tune) (c__law_draw : Cal P w mg base Γ 1 "_law_draw" ["m", "limit"] g__law_draw) (c__law_right : Cal P w mg base Γ 6 "_law_right" ["m", "tune", "far", "count"] g__law_right) (c__law_hand_right : Cal P w mg base Γ 6 "_law_hand_right" [] g__law_hand_right) : FnG P w mg base Γ 7 f fd ["script"] g_law :=
  have S := sc_law
  ok_fn (N := ["script", "k", "m", "tune", "far", "kept", "count", "weight"]) (c := d_law) F S fun cdv A outer s H E W hr hg tk => (mb_cons (ms_for (passes_of rfl) rfl (mi_range1 (by rfl) n.n_range (ma_cons (me_op opAdd sAdd me_int (me_callB (call_min2 rfl) sMin2 (by rfl) n.n_min (by decide +kernel) (ma_cons (me_callB call_len (sLen rfl) (by rfl) n.n_len (by decide +kernel) (ma_cons (me_var (pv 0)) ma_nil)) (ma_cons me_int ma_nil)))) ma_nil)) (mg_name (pg_name (i := 1) S.nd rfl (.inl rfl))) (mb_cons (ms_set (i := 2) S.nd rfl (.inr rfl) (me_cal c__law_begun rfl (hr.mono (by decide)) hg tk (by rfl) (ma_cons (me_var (pv 0)) (ma_cons (me_var (pv 1)) ma_nil)) 2 (len_cons (len_cons len_nil)) rfl rfl))
  (mb_cons (ms_par rfl S.nd rfl rfl (by decide) rfl rfl (ma_cons (me_cal c__law_tune rfl (hr.mono (by decide)) hg tk (by rfl) (ma_cons (me_var (pv 2)) (ma_cons me_int ma_nil)) 2 (len_cons (len_cons len_nil)) rfl rfl) (ma_cons (me_cal c__law_tune rfl (hr.mono (by decide)) hg tk (by rfl) (ma_cons (me_var (pv 2)) (ma_cons me_int ma_nil)) 2 (len_cons (len_cons len_nil)) rfl rfl) ma_nil)) (by rfl))
  (mb_cons (ms_if (mt_cmp (opEq hr.units) sEq (nomark _) (me_cal c__law_draw rfl (hr.mono (by decide)) hg tk (by rfl) (ma_cons (me_var (pv 2)) (ma_cons me_int ma_nil)) 2 (len_cons (len_cons len_nil)) rfl rfl) me_int) (mb_one (ms_set (i := 4) S.nd rfl (.inl rfl) (me_callTy call_tuple_of (sTuple rfl) (by rfl) n.n_tuple (by decide +kernel) (ma_cons (me_comp (own := [("weight", 7)]) (g := (gName 7)) rfl S.nd (mi_seq rfl (me_var (pv 3))) (blkOk_by (own := [("weight", 7)]) (N := ["script", "k", "m", "tune", "far", "kept", "count", "weight"]) (sc := defScope s_law) (by decide +kernel)) (fun _ _ _ _ _ => pg_name (i := 7) S.nd rfl (.inl rfl)) (gw_name (by decide)) (fun _ _ _ _ _ => mts_nil) (fun _ _ _ _ _ => (me_op opAdd sAdd (me_var (pv 7)) (me_cal c__law_draw rfl (hr.mono (by decide)) hg tk0 (by rfl) (ma_cons (me_var (pv 2)) (ma_cons me_int ma_nil)) 2 (len_cons (len_cons len_nil)) rfl rfl)))) ma_nil)))) mb_nil)
  (mb_cons (ms_par rfl S.nd rfl rfl (by decide) rfl rfl (ma_cons (me_callB (call_repr hg hr.units) (sRepr rfl) (by rfl) n.n_repr (by decide +kernel) (ma_cons (me_lst (ma_cons (me_var (pv 3)) (ma_cons (me_var (pv 4)) ma_nil))) ma_nil)) (ma_cons (me_cal c__law_draw rfl (hr.mono (by decide)) hg tk (by rfl) (ma_cons (me_var (pv 2)) (ma_cons me_int ma_nil)) 2 (len_cons (len_cons len_nil)) rfl rfl) ma_nil)) (by rfl))
  (mb_one (ms_if (mt_w (mw_or (mt_not (mt_val (me_cal c__law_right rfl (hr.mono (by decide)) hg tk (by rfl) (ma_cons (me_var (pv 2)) (ma_cons (me_var (pv 3)) (ma_cons (me_var (pv 4)) (ma_cons (me_var (pv 6)) ma_nil)))) 4 (len_cons (len_cons (len_cons (len_cons len_nil)))) rfl rfl))) (mw_or (mt_not (mt_val (me_cal c__law_right rfl (hr.mono (by decide)) hg tk (by rfl) (ma_cons (me_var (pv 2)) (ma_cons (me_var (pv 4)) (ma_cons (me_var (pv 3)) (ma_cons me_int ma_nil)))) 4 (len_cons (len_cons (len_cons (len_cons len_nil)))) rfl rfl))) (mw_or1 (mt_cmp (opNe hr.units) sNe (nomark _) (me_callB (call_repr hg hr.units) (sRepr rfl) (by rfl) n.n_repr (by decide +kernel) (ma_cons (me_lst (ma_cons (me_var (pv 3)) (ma_cons (me_var (pv 4)) ma_nil))) ma_nil)) (me_var (pv 5))))))) (mb_one (ms_ret me_bl)) mb_nil)))))))
  (mb_one (ms_ret (me_cal0 c__law_hand_right rfl (hr.mono (by decide)) hg tk (by rfl)))))
end
theorem all_mk {l : PySem.W.OpenLaw} {w : World} {K : PySem.W.Frag} {h : Heap} {mg : Str → Option Value} {fa : Addr} (X : K.In h) (G : h.Ns mainGlobals mg) (hfa : mg "law" = some (.ref fa))
    {f0 : Addr} {od0 an0 : Option Addr} {sl0 : Array (Option Value)} {oc0 kV0 dc0 pm0 cd0 ct0 : Value}
    {f1 : Addr} {od1 an1 : Option Addr} {sl1 : Array (Option Value)} {oc1 kV1 dc1 pm1 cd1 ct1 : Value}
    {f2 : Addr} {od2 an2 : Option Addr} {sl2 : Array (Option Value)} {oc2 kV2 dc2 pm2 cd2 ct2 : Value}
    {f3 : Addr} {od3 an3 : Option Addr} {sl3 : Array (Option Value)} {oc3 kV3 dc3 pm3 cd3 ct3 : Value}
    {f4 : Addr} {od4 an4 : Option Addr} {sl4 : Array (Option Value)} {oc4 kV4 dc4 pm4 cd4 ct4 : Value}
    {f5 : Addr} {od5 an5 : Option Addr} {sl5 : Array (Option Value)} {oc5 kV5 dc5 pm5 cd5 ct5 : Value}
    {f6 : Addr} {od6 an6 : Option Addr} {sl6 : Array (Option Value)} {oc6 kV6 dc6 pm6 cd6 ct6 : Value}
    {f7 : Addr} {od7 an7 : Option Addr} {sl7 : Array (Option Value)} {oc7 kV7 dc7 pm7 cd7 ct7 : Value}
    {f8 : Addr} {od8 an8 : Option Addr} {sl8 : Array (Option Value)} {oc8 kV8 dc8 pm8 cd8 ct8 : Value}
    {f9 : Addr} {od9 an9 : Option Addr} {sl9 : Array (Option Value)} {oc9 kV9 dc9 pm9 cd9 ct9 : Value}
    {f10 : Addr} {od10 an10 : Option Addr} {sl10 : Array (Option Value)} {oc10 kV10 dc10 pm10 cd10 ct10 : Value}
    {f11 : Addr} {od11 an11 : Option Addr} {sl11 : Array (Option Value)} {oc11 kV11 dc11 pm11 cd11 ct11 : Value}
    {f12 : Addr} {od12 an12 : Option Addr} {sl12 : Array (Option Value)} {oc12 kV12 dc12 pm12 cd12 ct12 : Value}
    {dT12 : Addr} {dcT12 : Value} {ddT12 : Option Addr} {dkT12 : Tok} {dnT12 : Nat} {dsT12 : Array (Option Value)}
    {f13 : Addr} {od13 an13 : Option Addr} {sl13 : Array (Option Value)} {oc13 kV13 dc13 pm13 cd13 ct13 : Value}
    {dT13 : Addr} {dcT13 : Value} {ddT13 : Option Addr} {dkT13 : Tok} {dnT13 : Nat} {dsT13 : Array (Option Value)}
    {f14 : Addr} {od14 an14 : Option Addr} {sl14 : Array (Option Value)} {oc14 kV14 dc14 pm14 cd14 ct14 : Value}
    {f15 : Addr} {od15 an15 : Option Addr} {sl15 : Array (Option Value)} {oc15 kV15 dc15 pm15 cd15 ct15 : Value}
    {dT15 : Addr} {dcT15 : Value} {ddT15 : Option Addr} {dkT15 : Tok} {dnT15 : Nat} {dsT15 : Array (Option Value)}
    {f16 : Addr} {od16 an16 : Option Addr} {sl16 : Array (Option Value)} {oc16 kV16 dc16 pm16 cd16 ct16 : Value}
    {f17 : Addr} {od17 an17 : Option Addr} {sl17 : Array (Option Value)} {oc17 kV17 dc17 pm17 cd17 ct17 : Value}
    {f18 : Addr} {od18 an18 : Option Addr} {sl18 : Array (Option Value)} {oc18 kV18 dc18 pm18 cd18 ct18 : Value}
    {f19 : Addr} {od19 an19 : Option Addr} {sl19 : Array (Option Value)} {oc19 kV19 dc19 pm19 cd19 ct19 : Value}
    {f20 : Addr} {od20 an20 : Option Addr} {sl20 : Array (Option Value)} {oc20 kV20 dc20 pm20 cd20 ct20 : Value}
    {f21 : Addr} {od21 an21 : Option Addr} {sl21 : Array (Option Value)} {oc21 kV21 dc21 pm21 cd21 ct21 : Value}
    {f22 : Addr} {od22 an22 : Option Addr} {sl22 : Array (Option Value)} {oc22 kV22 dc22 pm22 cd22 ct22 : Value}
    {f23 : Addr} {od23 an23 : Option Addr} {sl23 : Array (Option Value)} {oc23 kV23 dc23 pm23 cd23 ct23 : Value}
    {f24 : Addr} {od24 an24 : Option Addr} {sl24 : Array (Option Value)} {oc24 kV24 dc24 pm24 cd24 ct24 : Value}
    {f25 : Addr} {od25 an25 : Option Addr} {sl25 : Array (Option Value)} {oc25 kV25 dc25 pm25 cd25 ct25 : Value}
    {f26 : Addr} {od26 an26 : Option Addr} {sl26 : Array (Option Value)} {oc26 kV26 dc26 pm26 cd26 ct26 : Value}
    {f27 : Addr} {od27 an27 : Option Addr} {sl27 : Array (Option Value)} {oc27 kV27 dc27 pm27 cd27 ct27 : Value}
    {f28 : Addr} {od28 an28 : Option Addr} {sl28 : Array (Option Value)} {oc28 kV28 dc28 pm28 cd28 ct28 : Value}
    {f29 : Addr} {od29 an29 : Option Addr} {sl29 : Array (Option Value)} {oc29 kV29 dc29 pm29 cd29 ct29 : Value}
    {u0 : Value}
    {t1 : Tok}
    {t2 : Tok}
    {t3 : Tok}
    (gg0 : PySem.W.nsIn K mainGlobals "gcd" = some (some (.builtin "math.gcd")))
    (a0 : PySem.W.nsIn K mainGlobals "is_int" = some (some (.ref f0)))
    (l0 : K.lookup f0 = some ⟨oc0, od0, .func (PySem.W.fnOf "is_int" "is_int" (defArgs s_is_int) (defBody s_is_int) (defScope s_is_int) .none kV0 dc0 pm0 an0 cd0 ct0), sl0⟩)
    (c0 : PySem.W.codeIn K cd0 "is_int" = true)
    (k0 : PySem.W.keepIn K (.ref f0) = true)
    (a1 : PySem.W.nsIn K mainGlobals "is_int_within" = some (some (.ref f1)))
    (l1 : K.lookup f1 = some ⟨oc1, od1, .func (PySem.W.fnOf "is_int_within" "is_int_within" (defArgs s_is_int_within) (defBody s_is_int_within) (defScope s_is_int_within) .none kV1 dc1 pm1 an1 cd1 ct1), sl1⟩)
    (c1 : PySem.W.codeIn K cd1 "is_int_within" = true)
    (k1 : PySem.W.keepIn K (.ref f1) = true)
    (a2 : PySem.W.nsIn K mainGlobals "is_tuple" = some (some (.ref f2)))
    (l2 : K.lookup f2 = some ⟨oc2, od2, .func (PySem.W.fnOf "is_tuple" "is_tuple" (defArgs s_is_tuple) (defBody s_is_tuple) (defScope s_is_tuple) .none kV2 dc2 pm2 an2 cd2 ct2), sl2⟩)
    (c2 : PySem.W.codeIn K cd2 "is_tuple" = true)
    (k2 : PySem.W.keepIn K (.ref f2) = true)
    (a3 : PySem.W.nsIn K mainGlobals "first_outside" = some (some (.ref f3)))
    (l3 : K.lookup f3 = some ⟨oc3, od3, .func (PySem.W.fnOf "first_outside" "first_outside" (defArgs s_first_outside) (defBody s_first_outside) (defScope s_first_outside) .none kV3 dc3 pm3 an3 cd3 ct3), sl3⟩)
    (c3 : PySem.W.codeIn K cd3 "first_outside" = true)
    (k3 : PySem.W.keepIn K (.ref f3) = true)
    (a4 : PySem.W.nsIn K mainGlobals "need_rule" = some (some (.ref f4)))
    (l4 : K.lookup f4 = some ⟨oc4, od4, .func (PySem.W.fnOf "need_rule" "need_rule" (defArgs s_need_rule) (defBody s_need_rule) (defScope s_need_rule) .none kV4 dc4 pm4 an4 cd4 ct4), sl4⟩)
    (c4 : PySem.W.codeIn K cd4 "need_rule" = true)
    (k4 : PySem.W.keepIn K (.ref f4) = true)
    (a5 : PySem.W.nsIn K mainGlobals "indexes_by_ones" = some (some (.ref f5)))
    (l5 : K.lookup f5 = some ⟨oc5, od5, .func (PySem.W.fnOf "indexes_by_ones" "indexes_by_ones" (defArgs s_indexes_by_ones) (defBody s_indexes_by_ones) (defScope s_indexes_by_ones) .none kV5 dc5 pm5 an5 cd5 ct5), sl5⟩)
    (c5 : PySem.W.codeIn K cd5 "indexes_by_ones" = true)
    (k5 : PySem.W.keepIn K (.ref f5) = true)
    (a6 : PySem.W.nsIn K mainGlobals "many_of" = some (some (.ref f6)))
    (l6 : K.lookup f6 = some ⟨oc6, od6, .func (PySem.W.fnOf "many_of" "many_of" (defArgs s_many_of) (defBody s_many_of) (defScope s_many_of) .none kV6 dc6 pm6 an6 cd6 ct6), sl6⟩)
    (c6 : PySem.W.codeIn K cd6 "many_of" = true)
    (k6 : PySem.W.keepIn K (.ref f6) = true)
    (a7 : PySem.W.nsIn K mainGlobals "signs_of" = some (some (.ref f7)))
    (l7 : K.lookup f7 = some ⟨oc7, od7, .func (PySem.W.fnOf "signs_of" "signs_of" (defArgs s_signs_of) (defBody s_signs_of) (defScope s_signs_of) .none kV7 dc7 pm7 an7 cd7 ct7), sl7⟩)
    (c7 : PySem.W.codeIn K cd7 "signs_of" = true)
    (k7 : PySem.W.keepIn K (.ref f7) = true)
    (a8 : PySem.W.nsIn K mainGlobals "ones_of" = some (some (.ref f8)))
    (l8 : K.lookup f8 = some ⟨oc8, od8, .func (PySem.W.fnOf "ones_of" "ones_of" (defArgs s_ones_of) (defBody s_ones_of) (defScope s_ones_of) .none kV8 dc8 pm8 an8 cd8 ct8), sl8⟩)
    (c8 : PySem.W.codeIn K cd8 "ones_of" = true)
    (k8 : PySem.W.keepIn K (.ref f8) = true)
    (a9 : PySem.W.nsIn K mainGlobals "reduced" = some (some (.ref f9)))
    (l9 : K.lookup f9 = some ⟨oc9, od9, .func (PySem.W.fnOf "reduced" "reduced" (defArgs s_reduced) (defBody s_reduced) (defScope s_reduced) .none kV9 dc9 pm9 an9 cd9 ct9), sl9⟩)
    (c9 : PySem.W.codeIn K cd9 "reduced" = true)
    (k9 : PySem.W.keepIn K (.ref f9) = true)
    (a10 : PySem.W.nsIn K mainGlobals "need_pair" = some (some (.ref f10)))
    (l10 : K.lookup f10 = some ⟨oc10, od10, .func (PySem.W.fnOf "need_pair" "need_pair" (defArgs s_need_pair) (defBody s_need_pair) (defScope s_need_pair) .none kV10 dc10 pm10 an10 cd10 ct10), sl10⟩)
    (c10 : PySem.W.codeIn K cd10 "need_pair" = true)
    (k10 : PySem.W.keepIn K (.ref f10) = true)
    (a11 : PySem.W.nsIn K mainGlobals "indexes_beside" = some (some (.ref f11)))
    (l11 : K.lookup f11 = some ⟨oc11, od11, .func (PySem.W.fnOf "indexes_beside" "indexes_beside" (defArgs s_indexes_beside) (defBody s_indexes_beside) (defScope s_indexes_beside) .none kV11 dc11 pm11 an11 cd11 ct11), sl11⟩)
    (c11 : PySem.W.codeIn K cd11 "indexes_beside" = true)
    (k11 : PySem.W.keepIn K (.ref f11) = true)
    (a12 : PySem.W.nsIn K mainGlobals "above_row" = some (some (.ref f12)))
    (l12 : K.lookup f12 = some ⟨oc12, od12, .func (PySem.W.fnOf "above_row" "above_row" (defArgs s_above_row) (defBody s_above_row) (defScope s_above_row) (.ref dT12) kV12 dc12 pm12 an12 cd12 ct12), sl12⟩)
    (dd12 : K.lookup dT12 = some ⟨dcT12, ddT12, .seq #[.int 0 dkT12] dnT12, dsT12⟩)
    (c12 : PySem.W.codeIn K cd12 "above_row" = true)
    (k12 : PySem.W.keepIn K (.ref f12) = true)
    (a13 : PySem.W.nsIn K mainGlobals "never_above" = some (some (.ref f13)))
    (l13 : K.lookup f13 = some ⟨oc13, od13, .func (PySem.W.fnOf "never_above" "never_above" (defArgs s_never_above) (defBody s_never_above) (defScope s_never_above) (.ref dT13) kV13 dc13 pm13 an13 cd13 ct13), sl13⟩)
    (dd13 : K.lookup dT13 = some ⟨dcT13, ddT13, .seq #[.int 0 dkT13] dnT13, dsT13⟩)
    (c13 : PySem.W.codeIn K cd13 "never_above" = true)
    (k13 : PySem.W.keepIn K (.ref f13) = true)
    (a14 : PySem.W.nsIn K mainGlobals "is_less" = some (some (.ref f14)))
    (l14 : K.lookup f14 = some ⟨oc14, od14, .func (PySem.W.fnOf "is_less" "is_less" (defArgs s_is_less) (defBody s_is_less) (defScope s_is_less) .none kV14 dc14 pm14 an14 cd14 ct14), sl14⟩)
    (c14 : PySem.W.codeIn K cd14 "is_less" = true)
    (k14 : PySem.W.keepIn K (.ref f14) = true)
    (a15 : PySem.W.nsIn K mainGlobals "suits" = some (some (.ref f15)))
    (l15 : K.lookup f15 = some ⟨oc15, od15, .func (PySem.W.fnOf "suits" "suits" (defArgs s_suits) (defBody s_suits) (defScope s_suits) (.ref dT15) kV15 dc15 pm15 an15 cd15 ct15), sl15⟩)
    (dd15 : K.lookup dT15 = some ⟨dcT15, ddT15, .seq #[.int 0 dkT15] dnT15, dsT15⟩)
    (c15 : PySem.W.codeIn K cd15 "suits" = true)
    (k15 : PySem.W.keepIn K (.ref f15) = true)
    (a16 : PySem.W.nsIn K mainGlobals "_law_begun" = some (some (.ref f16)))
    (l16 : K.lookup f16 = some ⟨oc16, od16, .func (PySem.W.fnOf "_law_begun" "_law_begun" (defArgs s__law_begun) (defBody s__law_begun) (defScope s__law_begun) .none kV16 dc16 pm16 an16 cd16 ct16), sl16⟩)
    (c16 : PySem.W.codeIn K cd16 "_law_begun" = true)
    (k16 : PySem.W.keepIn K (.ref f16) = true)
    (a17 : PySem.W.nsIn K mainGlobals "_law_draw" = some (some (.ref f17)))
    (l17 : K.lookup f17 = some ⟨oc17, od17, .func (PySem.W.fnOf "_law_draw" "_law_draw" (defArgs s__law_draw) (defBody s__law_draw) (defScope s__law_draw) .none kV17 dc17 pm17 an17 cd17 ct17), sl17⟩)
    (c17 : PySem.W.codeIn K cd17 "_law_draw" = true)
    (k17 : PySem.W.keepIn K (.ref f17) = true)
    (a18 : PySem.W.nsIn K mainGlobals "_law_of" = some (some (.ref f18)))
    (l18 : K.lookup f18 = some ⟨oc18, od18, .func (PySem.W.fnOf "_law_of" "_law_of" (defArgs s__law_of) (defBody s__law_of) (defScope s__law_of) .none kV18 dc18 pm18 an18 cd18 ct18), sl18⟩)
    (c18 : PySem.W.codeIn K cd18 "_law_of" = true)
    (k18 : PySem.W.keepIn K (.ref f18) = true)
    (a19 : PySem.W.nsIn K mainGlobals "_law_tune" = some (some (.ref f19)))
    (l19 : K.lookup f19 = some ⟨oc19, od19, .func (PySem.W.fnOf "_law_tune" "_law_tune" (defArgs s__law_tune) (defBody s__law_tune) (defScope s__law_tune) .none kV19 dc19 pm19 an19 cd19 ct19), sl19⟩)
    (c19 : PySem.W.codeIn K cd19 "_law_tune" = true)
    (k19 : PySem.W.keepIn K (.ref f19) = true)
    (a20 : PySem.W.nsIn K mainGlobals "_law_sum" = some (some (.ref f20)))
    (l20 : K.lookup f20 = some ⟨oc20, od20, .func (PySem.W.fnOf "_law_sum" "_law_sum" (defArgs s__law_sum) (defBody s__law_sum) (defScope s__law_sum) .none kV20 dc20 pm20 an20 cd20 ct20), sl20⟩)
    (c20 : PySem.W.codeIn K cd20 "_law_sum" = true)
    (k20 : PySem.W.keepIn K (.ref f20) = true)
    (a21 : PySem.W.nsIn K mainGlobals "_law_all" = some (some (.ref f21)))
    (l21 : K.lookup f21 = some ⟨oc21, od21, .func (PySem.W.fnOf "_law_all" "_law_all" (defArgs s__law_all) (defBody s__law_all) (defScope s__law_all) .none kV21 dc21 pm21 an21 cd21 ct21), sl21⟩)
    (c21 : PySem.W.codeIn K cd21 "_law_all" = true)
    (k21 : PySem.W.keepIn K (.ref f21) = true)
    (a22 : PySem.W.nsIn K mainGlobals "_law_terms" = some (some (.ref f22)))
    (l22 : K.lookup f22 = some ⟨oc22, od22, .func (PySem.W.fnOf "_law_terms" "_law_terms" (defArgs s__law_terms) (defBody s__law_terms) (defScope s__law_terms) .none kV22 dc22 pm22 an22 cd22 ct22), sl22⟩)
    (c22 : PySem.W.codeIn K cd22 "_law_terms" = true)
    (k22 : PySem.W.keepIn K (.ref f22) = true)
    (a23 : PySem.W.nsIn K mainGlobals "_law_is_over" = some (some (.ref f23)))
    (l23 : K.lookup f23 = some ⟨oc23, od23, .func (PySem.W.fnOf "_law_is_over" "_law_is_over" (defArgs s__law_is_over) (defBody s__law_is_over) (defScope s__law_is_over) .none kV23 dc23 pm23 an23 cd23 ct23), sl23⟩)
    (c23 : PySem.W.codeIn K cd23 "_law_is_over" = true)
    (k23 : PySem.W.keepIn K (.ref f23) = true)
    (a24 : PySem.W.nsIn K mainGlobals "_law_pairs" = some (some (.ref f24)))
    (l24 : K.lookup f24 = some ⟨oc24, od24, .func (PySem.W.fnOf "_law_pairs" "_law_pairs" (defArgs s__law_pairs) (defBody s__law_pairs) (defScope s__law_pairs) .none kV24 dc24 pm24 an24 cd24 ct24), sl24⟩)
    (c24 : PySem.W.codeIn K cd24 "_law_pairs" = true)
    (k24 : PySem.W.keepIn K (.ref f24) = true)
    (a25 : PySem.W.nsIn K mainGlobals "_law_suit" = some (some (.ref f25)))
    (l25 : K.lookup f25 = some ⟨oc25, od25, .func (PySem.W.fnOf "_law_suit" "_law_suit" (defArgs s__law_suit) (defBody s__law_suit) (defScope s__law_suit) .none kV25 dc25 pm25 an25 cd25 ct25), sl25⟩)
    (c25 : PySem.W.codeIn K cd25 "_law_suit" = true)
    (k25 : PySem.W.keepIn K (.ref f25) = true)
    (a26 : PySem.W.nsIn K mainGlobals "_law_results_right" = some (some (.ref f26)))
    (l26 : K.lookup f26 = some ⟨oc26, od26, .func (PySem.W.fnOf "_law_results_right" "_law_results_right" (defArgs s__law_results_right) (defBody s__law_results_right) (defScope s__law_results_right) .none kV26 dc26 pm26 an26 cd26 ct26), sl26⟩)
    (c26 : PySem.W.codeIn K cd26 "_law_results_right" = true)
    (k26 : PySem.W.keepIn K (.ref f26) = true)
    (a27 : PySem.W.nsIn K mainGlobals "_law_right" = some (some (.ref f27)))
    (l27 : K.lookup f27 = some ⟨oc27, od27, .func (PySem.W.fnOf "_law_right" "_law_right" (defArgs s__law_right) (defBody s__law_right) (defScope s__law_right) .none kV27 dc27 pm27 an27 cd27 ct27), sl27⟩)
    (c27 : PySem.W.codeIn K cd27 "_law_right" = true)
    (k27 : PySem.W.keepIn K (.ref f27) = true)
    (a28 : PySem.W.nsIn K mainGlobals "_law_hand_right" = some (some (.ref f28)))
    (l28 : K.lookup f28 = some ⟨oc28, od28, .func (PySem.W.fnOf "_law_hand_right" "_law_hand_right" (defArgs s__law_hand_right) (defBody s__law_hand_right) (defScope s__law_hand_right) .none kV28 dc28 pm28 an28 cd28 ct28), sl28⟩)
    (c28 : PySem.W.codeIn K cd28 "_law_hand_right" = true)
    (k28 : PySem.W.keepIn K (.ref f28) = true)
    (a29 : PySem.W.nsIn K mainGlobals "law" = some (some (.ref f29)))
    (l29 : K.lookup f29 = some ⟨oc29, od29, .func (PySem.W.fnOf "law" "law" (defArgs s_law) (defBody s_law) (defScope s_law) .none kV29 dc29 pm29 an29 cd29 ct29), sl29⟩)
    (c29 : PySem.W.codeIn K cd29 "law" = true)
    (k29 : PySem.W.keepIn K (.ref f29) = true)
    (z0 : PySem.W.nsIn K mainGlobals "abs" = some none)
    (z1 : PySem.W.nsIn K mainGlobals "divmod" = some none)
    (z2 : PySem.W.nsIn K mainGlobals "enumerate" = some none)
    (z3 : PySem.W.nsIn K mainGlobals "int" = some none)
    (z4 : PySem.W.nsIn K mainGlobals "isinstance" = some none)
    (z5 : PySem.W.nsIn K mainGlobals "len" = some none)
    (z6 : PySem.W.nsIn K mainGlobals "max" = some none)
    (z7 : PySem.W.nsIn K mainGlobals "min" = some none)
    (z8 : PySem.W.nsIn K mainGlobals "range" = some none)
    (z9 : PySem.W.nsIn K mainGlobals "repr" = some none)
    (z10 : PySem.W.nsIn K mainGlobals "set" = some none)
    (z11 : PySem.W.nsIn K mainGlobals "sorted" = some none)
    (z12 : PySem.W.nsIn K mainGlobals "sum" = some none)
    (z13 : PySem.W.nsIn K mainGlobals "tuple" = some none)
    (z14 : PySem.W.nsIn K mainGlobals "zip" = some none)
    (v0 : PySem.W.nsIn K mainGlobals "BITS" = some (some u0))
    (w0 : krvB K (.tup [.int 0, .int 1]) u0 = true)
    (v1 : PySem.W.nsIn K mainGlobals "GREATEST_WEIGHT" = some (some (.int 20 t1)))
    (v2 : PySem.W.nsIn K mainGlobals "MOST_ROUNDS" = some (some (.int 6 t2)))
    (v3 : PySem.W.nsIn K mainGlobals "MOST_WEIGHTS" = some (some (.int 6 t3)))
    (hden : ∀ ns : List Int, ns.length ≤ 63 → ∃ s', g_law [.sq (ns.map .int)] [] = .ok (.bl true) s')
    : ∃ (Γ : Ct) (fd : FuncData) (den : Fn) (tabs : List Tb), Γ.K = K ∧ (∀ (i : Nat) (t : Tb), tabs[i]? = some t → Γ.tb i = t.T) ∧ (Ts tabs).Nodup ∧ (∀ t ∈ tabs, ∃ y ∈ ([] : List Str), PySem.W.tabIn Γ.K y = some (t.c, t.T) ∧ Γ.K.lookup t.T = none) ∧ tabs.map (·.q) = [] ∧ (∀ (s : Shared) (u : Value), BindsTo s fd ⟨[u], []⟩ [("script", u)]) ∧
      (∀ base : Heap, Γ.K.In base → base.Ns mainGlobals mg → (∀ t ∈ tabs, LamX.TabB base mg t.c t.T) → FnG l.prog w mg base Γ 7 fa fd ["script"] den) ∧
      ∀ ns : List Int, ns.length ≤ 63 → ∃ s', den [.sq (ns.map .int)] (tabsOf 0 (([] : List Str).map fun q => ⟨0, 0, q⟩)) = .ok (.bl true) s' := by
  have e := hfa.symm.trans (PySem.W.mg_of X G a29)
  cases e
  let Γ : Ct := ⟨K, fun n => ([0, 0, 0, 0, 0, 0, 0, 0, 0, 0, 0, 0] : List Addr).getD n 0, fun n => ([] : List Addr).getD n 0⟩
  have n : Ns Γ mg := {
    n_abs := PySem.W.mg_none_of X G z0
    n_divmod := PySem.W.mg_none_of X G z1
    n_enumerate := PySem.W.mg_none_of X G z2
    n_int := PySem.W.mg_none_of X G z3
    n_isinstance := PySem.W.mg_none_of X G z4
    n_len := PySem.W.mg_none_of X G z5
    n_max := PySem.W.mg_none_of X G z6
    n_min := PySem.W.mg_none_of X G z7
    n_range := PySem.W.mg_none_of X G z8
    n_repr := PySem.W.mg_none_of X G z9
    n_set := PySem.W.mg_none_of X G z10
    n_sorted := PySem.W.mg_none_of X G z11
    n_sum := PySem.W.mg_none_of X G z12
    n_tuple := PySem.W.mg_none_of X G z13
    n_zip := PySem.W.mg_none_of X G z14
    c_BITS := ⟨_, PySem.W.mg_of X G v0, krvB_ok _ w0⟩
    c_GREATEST_WEIGHT := ⟨_, PySem.W.mg_of X G v1⟩
    c_MOST_ROUNDS := ⟨_, PySem.W.mg_of X G v2⟩
    c_MOST_WEIGHTS := ⟨_, PySem.W.mg_of X G v3⟩
    g_gcd := PySem.W.mg_of X G gg0
    }
  let tabs : List Tb := []
  refine ⟨Γ, PySem.W.fnOf "law" "law" (defArgs s_law) (defBody s_law) (defScope s_law) .none kV29 dc29 pm29 an29 cd29 ct29, g_law, tabs, rfl, fun i t h => ?_, ?_, fun t h => ?_, rfl, fun s v => .of_eq rfl, fun base _ _ TB => ?_, hden⟩
  · match i, h with
    | n, h => cases h
  · simp [Ts, tabs]
  · simp only [tabs, List.mem_cons, List.mem_nil_iff, or_false] at h
  have F0 := fun_mk (st := s_is_int) l0 c0 k0
  have C0 : Cal l.prog w mg base Γ 1 "is_int" ["thing"] g_is_int := ⟨_, _, ok_is_int n F0, PySem.W.mg_of X G a0, k0, F0.binds fun _ _ _ _ _ _ us hl => match us, hl with | [_], _ => rfl⟩
  have F1 := fun_mk (st := s_is_int_within) l1 c1 k1
  have C1 : Cal l.prog w mg base Γ 2 "is_int_within" ["thing", "least", "most"] g_is_int_within := ⟨_, _, ok_is_int_within n F1 C0, PySem.W.mg_of X G a1, k1, F1.binds fun _ _ _ _ _ _ us hl => match us, hl with | [_, _, _], _ => rfl⟩
  have F2 := fun_mk (st := s_is_tuple) l2 c2 k2
  have C2 : Cal l.prog w mg base Γ 1 "is_tuple" ["thing", "least", "most"] g_is_tuple := ⟨_, _, ok_is_tuple n F2, PySem.W.mg_of X G a2, k2, F2.binds fun _ _ _ _ _ _ us hl => match us, hl with | [_, _, _], _ => rfl⟩
  have F3 := fun_mk (st := s_first_outside) l3 c3 k3
  have C3 : Cal l.prog w mg base Γ 1 "first_outside" ["things", "least", "most"] g_first_outside := ⟨_, _, ok_first_outside n F3, PySem.W.mg_of X G a3, k3, F3.binds fun _ _ _ _ _ _ us hl => match us, hl with | [_, _, _], _ => rfl⟩
  have F4 := fun_mk (st := s_need_rule) l4 c4 k4
  have C4 : Cal l.prog w mg base Γ 2 "need_rule" ["thing"] g_need_rule := ⟨_, _, ok_need_rule n F4 C2 C3, PySem.W.mg_of X G a4, k4, F4.binds fun _ _ _ _ _ _ us hl => match us, hl with | [_], _ => rfl⟩
  have F5 := fun_mk (st := s_indexes_by_ones) l5 c5 k5
  have C5 : Cal l.prog w mg base Γ 1 "indexes_by_ones" ["rule"] g_indexes_by_ones := ⟨_, _, ok_indexes_by_ones n F5, PySem.W.mg_of X G a5, k5, F5.binds fun _ _ _ _ _ _ us hl => match us, hl with | [_], _ => rfl⟩
  have F6 := fun_mk (st := s_many_of) l6 c6 k6
  have C6 : Cal l.prog w mg base Γ 1 "many_of" ["base", "wide"] g_many_of := ⟨_, _, ok_many_of n F6, PySem.W.mg_of X G a6, k6, F6.binds fun _ _ _ _ _ _ us hl => match us, hl with | [_, _], _ => rfl⟩
  have F7 := fun_mk (st := s_signs_of) l7 c7 k7
  have C7 : Cal l.prog w mg base Γ 1 "signs_of" ["number", "signs", "wide"] g_signs_of := ⟨_, _, ok_signs_of n F7, PySem.W.mg_of X G a7, k7, F7.binds fun _ _ _ _ _ _ us hl => match us, hl with | [_, _, _], _ => rfl⟩
  have F8 := fun_mk (st := s_ones_of) l8 c8 k8
  have C8 : Cal l.prog w mg base Γ 1 "ones_of" ["wide"] g_ones_of := ⟨_, _, ok_ones_of n F8, PySem.W.mg_of X G a8, k8, F8.binds fun _ _ _ _ _ _ us hl => match us, hl with | [_], _ => rfl⟩
  have F9 := fun_mk (st := s_reduced) l9 c9 k9
  have C9 : Cal l.prog w mg base Γ 1 "reduced" ["part", "of"] g_reduced := ⟨_, _, ok_reduced n F9, PySem.W.mg_of X G a9, k9, F9.binds fun _ _ _ _ _ _ us hl => match us, hl with | [_, _], _ => rfl⟩
  have F10 := fun_mk (st := s_need_pair) l10 c10 k10
  have C10 : Cal l.prog w mg base Γ 3 "need_pair" ["rule", "other", "rounds"] g_need_pair := ⟨_, _, ok_need_pair n F10 C4 C1, PySem.W.mg_of X G a10, k10, F10.binds fun _ _ _ _ _ _ us hl => match us, hl with | [_, _, _], _ => rfl⟩
  have F11 := fun_mk (st := s_indexes_beside) l11 c11 k11
  have C11 : Cal l.prog w mg base Γ 2 "indexes_beside" ["rule", "other", "rounds"] g_indexes_beside := ⟨_, _, ok_indexes_beside n F11 C5 C8 C6, PySem.W.mg_of X G a11, k11, F11.binds fun _ _ _ _ _ _ us hl => match us, hl with | [_, _, _], _ => rfl⟩
  have F12 : FunD Γ.K "above_row" "above_row" (defArgs s_above_row) (defBody s_above_row) (defScope s_above_row) [V.int 0] [] f12 _ := ⟨⟨_, _, _, _, _, _, _, _, _, _, rfl, l12, c12, .inr ⟨List.cons_ne_nil _ _, _, _, [.int 0 _], _, rfl, dd12, rfl, .cons ⟨_, rfl⟩ .nil⟩, .inl rfl⟩, k12⟩
  have C12 : CalD l.prog w mg base Γ 4 "above_row" ["rule", "other", "rounds"] "rounds" 0 g_above_row := calD_of (n := 2) (ok_above_row n F12 C10 C11 C7) (PySem.W.mg_of X G a12) F12 rfl (fun _ _ _ _ _ _ _ us its l1 l2 => match us, its, l1, l2 with | [_, _], [_], _, _ => ⟨_, rfl, rfl⟩) (fun _ _ _ _ _ _ _ us its l1 l2 => match us, its, l1, l2 with | [_, _, _], [_], _, _ => ⟨_, rfl, rfl⟩) (fun _ _ _ _ _ _ _ us its u l1 l2 => match us, its, l1, l2 with | [_, _], [_], _, _ => ⟨_, rfl, rfl⟩)
  have F13 : FunD Γ.K "never_above" "never_above" (defArgs s_never_above) (defBody s_never_above) (defScope s_never_above) [V.int 0] [] f13 _ := ⟨⟨_, _, _, _, _, _, _, _, _, _, rfl, l13, c13, .inr ⟨List.cons_ne_nil _ _, _, _, [.int 0 _], _, rfl, dd13, rfl, .cons ⟨_, rfl⟩ .nil⟩, .inl rfl⟩, k13⟩
  have C13 : CalD l.prog w mg base Γ 5 "never_above" ["rule", "other", "rounds"] "rounds" 0 g_never_above := calD_of (n := 2) (ok_never_above n F13 C12) (PySem.W.mg_of X G a13) F13 rfl (fun _ _ _ _ _ _ _ us its l1 l2 => match us, its, l1, l2 with | [_, _], [_], _, _ => ⟨_, rfl, rfl⟩) (fun _ _ _ _ _ _ _ us its l1 l2 => match us, its, l1, l2 with | [_, _, _], [_], _, _ => ⟨_, rfl, rfl⟩) (fun _ _ _ _ _ _ _ us its u l1 l2 => match us, its, l1, l2 with | [_, _], [_], _, _ => ⟨_, rfl, rfl⟩)
  have F14 := fun_mk (st := s_is_less) l14 c14 k14
  have C14 : Cal l.prog w mg base Γ 1 "is_less" ["fraction", "other"] g_is_less := ⟨_, _, ok_is_less n F14, PySem.W.mg_of X G a14, k14, F14.binds fun _ _ _ _ _ _ us hl => match us, hl with | [_, _], _ => rfl⟩
  have F15 : FunD Γ.K "suits" "suits" (defArgs s_suits) (defBody s_suits) (defScope s_suits) [V.int 0] [] f15 _ := ⟨⟨_, _, _, _, _, _, _, _, _, _, rfl, l15, c15, .inr ⟨List.cons_ne_nil _ _, _, _, [.int 0 _], _, rfl, dd15, rfl, .cons ⟨_, rfl⟩ .nil⟩, .inl rfl⟩, k15⟩
  have C15 : CalD l.prog w mg base Γ 4 "suits" ["rule", "other", "rounds"] "rounds" 0 g_suits := calD_of (n := 2) (ok_suits n F15 C10 C11 C9 C14) (PySem.W.mg_of X G a15) F15 rfl (fun _ _ _ _ _ _ _ us its l1 l2 => match us, its, l1, l2 with | [_, _], [_], _, _ => ⟨_, rfl, rfl⟩) (fun _ _ _ _ _ _ _ us its l1 l2 => match us, its, l1, l2 with | [_, _, _], [_], _, _ => ⟨_, rfl, rfl⟩) (fun _ _ _ _ _ _ _ us its u l1 l2 => match us, its, l1, l2 with | [_, _], [_], _, _ => ⟨_, rfl, rfl⟩)
  have F16 := fun_mk (st := s__law_begun) l16 c16 k16
  have C16 : Cal l.prog w mg base Γ 1 "_law_begun" ["script", "k"] g__law_begun := ⟨_, _, ok__law_begun n F16, PySem.W.mg_of X G a16, k16, F16.binds fun _ _ _ _ _ _ us hl => match us, hl with | [_, _], _ => rfl⟩
  have F17 := fun_mk (st := s__law_draw) l17 c17 k17
  have C17 : Cal l.prog w mg base Γ 1 "_law_draw" ["m", "limit"] g__law_draw := ⟨_, _, ok__law_draw n F17, PySem.W.mg_of X G a17, k17, F17.binds fun _ _ _ _ _ _ us hl => match us, hl with | [_, _], _ => rfl⟩
  have F18 := fun_mk (st := s__law_of) l18 c18 k18
  have C18 : Cal l.prog w mg base Γ 2 "_law_of" ["m", "some"] g__law_of := ⟨_, _, ok__law_of n F18 C17, PySem.W.mg_of X G a18, k18, F18.binds fun _ _ _ _ _ _ us hl => match us, hl with | [_, _], _ => rfl⟩
  have F19 := fun_mk (st := s__law_tune) l19 c19 k19
  have C19 : Cal l.prog w mg base Γ 2 "_law_tune" ["m", "limit"] g__law_tune := ⟨_, _, ok__law_tune n F19 C17, PySem.W.mg_of X G a19, k19, F19.binds fun _ _ _ _ _ _ us hl => match us, hl with | [_, _], _ => rfl⟩
  have F20 := fun_mk (st := s__law_sum) l20 c20 k20
  have C20 : Cal l.prog w mg base Γ 1 "_law_sum" ["tune", "some"] g__law_sum := ⟨_, _, ok__law_sum n F20, PySem.W.mg_of X G a20, k20, F20.binds fun _ _ _ _ _ _ us hl => match us, hl with | [_, _], _ => rfl⟩
  have F21 := fun_mk (st := s__law_all) l21 c21 k21
  have C21 : Cal l.prog w mg base Γ 1 "_law_all" ["marks", "many"] g__law_all := ⟨_, _, ok__law_all n F21, PySem.W.mg_of X G a21, k21, F21.binds fun _ _ _ _ _ _ us hl => match us, hl with | [_, _], _ => rfl⟩
  have F22 := fun_mk (st := s__law_terms) l22 c22 k22
  have C22 : Cal l.prog w mg base Γ 1 "_law_terms" ["part", "whole"] g__law_terms := ⟨_, _, ok__law_terms n F22, PySem.W.mg_of X G a22, k22, F22.binds fun _ _ _ _ _ _ us hl => match us, hl with | [_, _], _ => rfl⟩
  have F23 := fun_mk (st := s__law_is_over) l23 c23 k23
  have C23 : Cal l.prog w mg base Γ 1 "_law_is_over" ["one", "other"] g__law_is_over := ⟨_, _, ok__law_is_over n F23, PySem.W.mg_of X G a23, k23, F23.binds fun _ _ _ _ _ _ us hl => match us, hl with | [_, _], _ => rfl⟩
  have F24 := fun_mk (st := s__law_pairs) l24 c24 k24
  have C24 : Cal l.prog w mg base Γ 2 "_law_pairs" ["tune", "far", "count"] g__law_pairs := ⟨_, _, ok__law_pairs n F24 C21 C20, PySem.W.mg_of X G a24, k24, F24.binds fun _ _ _ _ _ _ us hl => match us, hl with | [_, _, _], _ => rfl⟩
  have F25 := fun_mk (st := s__law_suit) l25 c25 k25
  have C25 : Cal l.prog w mg base Γ 2 "_law_suit" ["pairs"] g__law_suit := ⟨_, _, ok__law_suit n F25 C22 C23, PySem.W.mg_of X G a25, k25, F25.binds fun _ _ _ _ _ _ us hl => match us, hl with | [_], _ => rfl⟩
  have F26 := fun_mk (st := s__law_results_right) l26 c26 k26
  have C26 : Cal l.prog w mg base Γ 3 "_law_results_right" ["m", "tune", "far", "count", "is_below", "ends_so"] g__law_results_right := ⟨_, _, ok__law_results_right n F26 C17 C18 C20, PySem.W.mg_of X G a26, k26, F26.binds fun _ _ _ _ _ _ us hl => match us, hl with | [_, _, _, _, _, _], _ => rfl⟩
  have F27 := fun_mk (st := s__law_right) l27 c27 k27
  have C27 : Cal l.prog w mg base Γ 6 "_law_right" ["m", "tune", "far", "count"] g__law_right := ⟨_, _, ok__law_right n F27 C24 C25 C13 C12 C15 C26, PySem.W.mg_of X G a27, k27, F27.binds fun _ _ _ _ _ _ us hl => match us, hl with | [_, _, _, _], _ => rfl⟩
  have F28 := fun_mk (st := s__law_hand_right) l28 c28 k28
  have C28 : Cal l.prog w mg base Γ 6 "_law_hand_right" [] g__law_hand_right := ⟨_, _, ok__law_hand_right n F28 C13 C12 C15, PySem.W.mg_of X G a28, k28, F28.binds fun _ _ _ _ _ _ us hl => match us, hl with | [], _ => rfl⟩
  have F29 := fun_mk (st := s_law) l29 c29 k29
  exact ok_law n F29 C16 C19 C17 C27 C28
end MP.K44
set_option Elab.async false
set_option linter.all false
set_option maxRecDepth 100000
set_option maxHeartbeats 1000000
namespace MP.K44
open PySem PySem.Spec MP MP.PG
open PyProof.Rows hiding St
open L2 hiding St r1
section
variable {s : Sto}
/-- its own way to the greatest divisor -/
theorem euclid {P Q : Option Dv} : ∀ (F : Nat) (a b : Int), 0 ≤ a → 0 ≤ b → b.toNat < F → ∃ z, whL wt__law_terms_1 wb__law_terms_1 F [P, Q, some (.int a), some (.int b)] s = .nx [P, Q, some (.int ((Nat.gcd a.natAbs b.natAbs : Nat) : Int)), z] s
  | 0, a, b, _, _, h => nomatch h
  | F + 1, a, b, ha, hb, h => by
    unfold whL
    have ht : wt__law_terms_1 [P, Q, some (.int a), some (.int b)] s = .ok (!decide (b = 0)) s := test_v (bin_v (x := .int b) (y := .int 0) rfl k_ev (by
      exact ne_ii))
    rw [ht, then_ok]
    by_cases h0 : b = 0
    · refine ⟨some (.int b), ?_⟩
      rw [decide_eq_true h0, if_neg (by decide), h0]
      congr 1
      rw [show (0 : Int).natAbs = 0 from rfl, Nat.gcd_zero_right]
      rw [show ((a.natAbs : Nat) : Int) = a by omega]
    · have hm := Int.emod_nonneg a h0
      have hl := Int.emod_lt_of_pos a (show 0 < b by omega)
      have hb1 : wb__law_terms_1 [P, Q, some (.int a), some (.int b)] s = .nx [P, Q, some (.int b), some (.int (a % b))] s := by
        unfold wb__law_terms_1
        rw [par_ev, show mVar 3 [P, Q, some (.int a), some (.int b)] s = .ok (.int b) s from rfl, then_ok, bin_v (x := .int a) (y := .int b) (blt_v (cons_v (w := .int a) rfl nil_ev) rfl) (blt_v (cons_v (w := .int b) rfl nil_ev) rfl) (mod_ii (by omega)), then_ok]
        rfl
      obtain ⟨z, hz⟩ := euclid F b (a % b) hb hm (by omega)
      refine ⟨z, ?_⟩
      rw [decide_eq_false h0, if_pos (by decide), hb1]
      refine hz.trans ?_
      congr 4
      have e : (a % b).natAbs = a.natAbs % b.natAbs := by
        have e1 : ((a % b).natAbs : Int) = a % b := by omega
        have e2 : ((a.natAbs % b.natAbs : Nat) : Int) = a % b := by
          rw [Int.natCast_emod]
          rw [show ((a.natAbs : Nat) : Int) = a by omega, show ((b.natAbs : Nat) : Int) = b by omega]
        omega
      rw [e, Nat.gcd_comm a.natAbs b.natAbs, Nat.gcd_rec b.natAbs a.natAbs, Nat.gcd_comm]
theorem terms_ok {p : Int × Int} (h : 0 < p.2) (h2 : p.2 ≤ 90000) : g__law_terms [.int p.1, .int p.2] s = .ok (tP (redP p)) s := by
  have e0 : startD 4 [.int p.1, .int p.2] = [some (.int p.1), some (.int p.2), none, none] := rfl
  have g0 := gc_pos h
  have g1 := gc_le h
  obtain ⟨z, hz⟩ := euclid (P := some (.int p.1)) (Q := some (.int p.2)) (s := s) 100000 (p.1.natAbs : Int) p.2 (by omega) (by omega) (by omega)
  have c1 : mPar 2 3 (mCons (mBlt absD (mCons (mVar 0) mNil)) (mCons (mVar 1) mNil)) [some (.int p.1), some (.int p.2), none, none] s = .nx [some (.int p.1), some (.int p.2), some (.int (p.1.natAbs : Int)), some (.int p.2)] s := by
    rw [par_ev, blt_v (z := .int (p.1.natAbs : Int)) (cons_v (w := .int p.1) rfl nil_ev) (by
      show some (Dv.int (if p.1 < 0 then -p.1 else p.1)) = _
      congr 2
      split <;> omega), then_ok, show mVar 1 [some (.int p.1), some (.int p.2), none, none] s = .ok (.int p.2) s from rfl, then_ok]
    rfl
  unfold g__law_terms d__law_terms
  rw [den_ev, e0]
  refine fin_nx c1 (fin_nx hz ?_)
  rw [show ((Nat.gcd ((p.1.natAbs : Int)).natAbs p.2.natAbs : Nat) : Int) = gc p by
    unfold gc
    rw [Int.natAbs_natCast]]
  rw [ret_v (w := tP (redP p)) (tup_v (cons_v (bin_v (x := .int p.1) (y := .int (gc p)) rfl rfl (div_ii g0 (by omega))) (cons_v (bin_v (x := .int p.2) (y := .int (gc p)) rfl rfl (div_ii g0 (by omega))) nil_ev)) (by simp))]
  exact finC_rt
theorem over_ok {p q : Int × Int} (hp : SmF p) (hq : SmF q) : g__law_is_over [tP p, tP q] s = .ok (.bl (lessP q p)) s := by
  have e0 : startD 2 [tP p, tP q] = [some (tP p), some (tP q)] := rfl
  obtain ⟨a, b⟩ := hp
  obtain ⟨c, d⟩ := hq
  unfold g__law_is_over d__law_is_over
  rw [den_ev, e0, ret_v (w := .bl (lessP q p)) (bin_v (x := .int (p.1 * q.2)) (y := .int (q.1 * p.2)) (bin_v (x := .int p.1) (y := .int q.2) (bin_v (x := tP p) (y := .int 0) rfl k_ev ixP0) (bin_v (x := tP q) (y := .int 1) rfl k_ev ixP1) (mul_ii (cm_r ⟨by omega, by omega⟩)))
    (bin_v (x := .int q.1) (y := .int p.2) (bin_v (x := tP q) (y := .int 0) rfl k_ev ixP0) (bin_v (x := tP p) (y := .int 1) rfl k_ev ixP1) (mul_ii (cm_r ⟨by omega, by omega⟩))) rfl)]
  exact finC_rt
/-- what suits, by the law's own way -/
theorem law_suit_ok {l : List ((Int × Int) × Dv)} (hB : ∀ p ∈ l, -90000 ≤ p.1.2 ∧ p.1.2 ≤ 90000) : g__law_suit [.lst (l.map fun p => .tup [.int p.1.1, .int p.1.2, p.2])] s = .ok (suD (l.map (·.1))) s := by
  let M : Option Dv := some (.lst (l.map fun p => .tup [.int p.1.1, .int p.1.2, p.2]))
  let E (x1 x2 x3 x4 x5 x6 : Option Dv) : Env := [M, x1, x2, x3, x4, x5, x6]
  have e0 : startD 7 [.lst (l.map fun p => .tup [.int p.1.1, .int p.1.2, p.2])] = E none none none none none none := rfl
  have c2 : mAsg (mTup (mCons (mK .non) (mCons (mK .non) mNil))) (gT 2 (gsC (gN 1) (gsC (gN 2) gs0))) (E none none none none none none) s = .nx (E (some (oP none)) (some (oP none)) none none none none) s :=
    asg_gv (tup_v (cons_v (w := .non) k_ev (cons_v (w := .non) k_ev nil_ev)) (by simp)) rfl
  have hU : ∀ x1 o x3 x4 x5 c, SmO o → SmF c → mAsg (mIf (mOr (mTest (mBin isD (mVar 2) (mK .non))) (mTest (mCall (g__law_is_over) (mCons (mVar 2) (mCons (mVar 6) mNil))))) (mVar 6) (mVar 2)) (gN 2) (E x1 (some (oP o)) x3 x4 x5 (some (tP c))) s = .nx (E x1 (some (oP (pick1 lessP o c))) x3 x4 x5 (some (tP c))) s := fun x1 o x3 x4 x5 c ho hc => by
    have t1 : mTest (mBin isD (mVar 2) (mK .non)) (E x1 (some (oP o)) x3 x4 x5 (some (tP c))) s = .ok o.isNone s := test_v (bin_v (x := oP o) (y := .non) rfl k_ev isN_o)
    refine asg_v (w := oP (pick1 lessP o c)) ?_
    cases o with
    | none => exact if_vt (or_t t1) rfl
    | some b =>
      have t2 : mTest (mCall (g__law_is_over) (mCons (mVar 2) (mCons (mVar 6) mNil))) (E x1 (some (oP (some b))) x3 x4 x5 (some (tP c))) s = .ok (lessP c b) s := test_v (call_v (cons_v (w := tP b) rfl (cons_v (w := tP c) rfl nil_ev)) (over_ok (ho b rfl) hc))
      have t3 := or_f t1 t2
      show _ = R.ok (oP (if lessP c b = true then some c else some b)) s
      cases hl : lessP c b with
      | true =>
        rw [hl] at t3
        rw [if_pos rfl]
        exact if_vt t3 rfl
      | false =>
        rw [hl] at t3
        rw [if_neg Bool.false_ne_true]
        exact if_vf t3 rfl
  have hD : ∀ x2 o x3 x4 x5 c, SmO o → SmF c → mAsg (mIf (mOr (mTest (mBin isD (mVar 1) (mK .non))) (mTest (mCall (g__law_is_over) (mCons (mVar 6) (mCons (mVar 1) mNil))))) (mVar 6) (mVar 1)) (gN 1) (E (some (oP o)) x2 x3 x4 x5 (some (tP c))) s = .nx (E (some (oP (pick1 (fun x y => lessP y x) o c))) x2 x3 x4 x5 (some (tP c))) s := fun x2 o x3 x4 x5 c ho hc => by
    have t1 : mTest (mBin isD (mVar 1) (mK .non)) (E (some (oP o)) x2 x3 x4 x5 (some (tP c))) s = .ok o.isNone s := test_v (bin_v (x := oP o) (y := .non) rfl k_ev isN_o)
    refine asg_v (w := oP (pick1 (fun x y => lessP y x) o c)) ?_
    cases o with
    | none => exact if_vt (or_t t1) rfl
    | some b =>
      have t2 : mTest (mCall (g__law_is_over) (mCons (mVar 6) (mCons (mVar 1) mNil))) (E (some (oP (some b))) x2 x3 x4 x5 (some (tP c))) s = .ok (lessP b c) s := test_v (call_v (cons_v (w := tP c) rfl (cons_v (w := tP b) rfl nil_ev)) (over_ok hc (ho b rfl)))
      have t3 := or_f t1 t2
      show _ = R.ok (oP (if lessP b c = true then some c else some b)) s
      cases hl : lessP b c with
      | true =>
        rw [hl] at t3
        rw [if_pos rfl]
        exact if_vt t3 rfl
      | false =>
        rw [hl] at t3
        rw [if_neg Bool.false_ne_true]
        exact if_vf t3 rfl
  have c3 := for_run (F := F__law_suit_1) (g := t__law_suit_1) (body := b__law_suit_1) (ρ := E (some (oP none)) (some (oP none)) none none none none) (s0 := s) (s := s) (l := l) (e := fun p => .tup [.int p.1.1, .int p.1.2, p.2])
    (fun (st : SU) ρ => SmO st.1 ∧ SmO st.2 ∧ ∃ x3 x4 x5 x6, ρ = E (some (oP st.1)) (some (oP st.2)) x3 x4 x5 x6) (fun st p => suS st p.1) (none, none) rfl ⟨(fun _ h => nomatch h), (fun _ h => nomatch h), _, _, _, _, rfl⟩ fun p hp st ρ ⟨ha, hb, x3, x4, x5, x6, hρ⟩ => by
      subst hρ
      obtain ⟨a, b⟩ := st
      have hpb := hB p hp
      obtain ⟨⟨i, j⟩, w⟩ := p
      refine ⟨E (some (oP a)) (some (oP b)) (some (.int i)) (some (.int j)) (some w) x6, rfl, ?_⟩
      change -90000 ≤ j ∧ j ≤ 90000 at hpb
      let ρ1 := E (some (oP a)) (some (oP b)) (some (.int i)) (some (.int j)) (some w) x6
      have t1 : mAnd (mTest (mBin eqD (mVar 4) (mK (.int 0)))) (mTest (mBin ltD (mVar 3) (mK (.int 0)))) ρ1 s = .ok (bad0 (i, j)) s := by
        have u1 : mTest (mBin eqD (mVar 4) (mK (.int 0))) ρ1 s = .ok (decide (j = 0)) s := test_v (bin_v (x := .int j) (y := .int 0) rfl k_ev eq_ii)
        have u2 : mTest (mBin ltD (mVar 3) (mK (.int 0))) ρ1 s = .ok (decide (i < 0)) s := test_v (bin_v (x := .int i) (y := .int 0) rfl k_ev lt_ii)
        show _ = R.ok (decide (j = 0) && decide (i < 0)) s
        cases hz : decide (j = 0) with
        | true =>
          rw [hz] at u1
          rw [and_t u1 u2]
          rfl
        | false =>
          rw [hz] at u1
          exact and_f u1
      show Ran _ s (suS (a, b) (i, j)) _
      unfold suS b__law_suit_1
      cases hbad : bad0 (i, j) with
      | true =>
        rw [hbad] at t1
        rw [if_pos rfl, seq_ev, ifS_t t1, ret_v (w := .non) k_ev]
        rfl
      | false =>
        rw [hbad] at t1
        rw [if_neg Bool.false_ne_true]
        have k1 : mIfS (mAnd (mTest (mBin eqD (mVar 4) (mK (.int 0)))) (mTest (mBin ltD (mVar 3) (mK (.int 0))))) (mRet (mK .non)) mNext ρ1 s = .nx ρ1 s := by rw [ifS_f t1]; rfl
        have t2 : mTest (mBin gtD (mVar 4) (mK (.int 0))) ρ1 s = .ok (decide (0 < j)) s := test_v (bin_v (x := .int j) (y := .int 0) rfl k_ev gt_ii)
        have t3 : ∀ x2 x6, mTest (mBin ltD (mVar 4) (mK (.int 0))) (E (some (oP a)) x2 (some (.int i)) (some (.int j)) (some w) x6) s = .ok (decide (j < 0)) s := fun _ _ => test_v (bin_v (x := .int j) (y := .int 0) rfl k_ev lt_ii)
        by_cases hpos : 0 < j
        · have sp : SmF (i, j) := ⟨hpos, Int.le_trans hpb.2 (by decide)⟩
          rw [decide_eq_true hpos] at t2
          have k2 := seq_nx (asg_v (i := 6) (ρ := ρ1) (w := tP (redP (i, j))) (call_v (d := g__law_terms) (fa := mCons (mVar 3) (mCons (mVar 4) mNil)) (cons_v (w := .int i) rfl (cons_v (w := .int j) rfl nil_ev)) (terms_ok (s := s) (p := (i, j)) hpos hpb.2))) (hU (some (oP a)) b (some (.int i)) (some (.int j)) (some w) (redP (i, j)) hb (red_sm sp))
          have t4 := t3 (some (oP (pick1 lessP b (redP (i, j))))) (some (tP (redP (i, j))))
          rw [decide_eq_false (by omega)] at t4
          rw [if_neg (by show ¬ j < 0; omega), if_pos hpos]
          refine ⟨_, seq_nx k1 (seq_nx ((ifS_t t2).trans k2) ((ifS_f t4).trans rfl)), ha, smO_pick (t := lessP) (o := b) hb (red_sm sp), _, _, _, _, rfl⟩
        · rw [decide_eq_false hpos] at t2
          have t4 := t3 (some (oP b)) x6
          by_cases hneg : j < 0
          · have sp : SmF (-i, -j) := ⟨by show 0 < -j; omega, by show -j ≤ _; omega⟩
            rw [decide_eq_true hneg] at t4
            have k3 := seq_nx (asg_v (i := 6) (ρ := ρ1) (w := tP (redP (-i, -j))) (call_v (d := g__law_terms) (fa := mCons (mBin subD (mK (.int 0)) (mVar 3)) (mCons (mBin subD (mK (.int 0)) (mVar 4)) mNil)) (cons_v (w := .int (-i)) (bin_v (x := .int 0) (y := .int i) k_ev rfl (by rw [sub_ev, Int.zero_sub])) (cons_v (w := .int (-j)) (bin_v (x := .int 0) (y := .int j) k_ev rfl (by rw [sub_ev, Int.zero_sub])) nil_ev)) (terms_ok (s := s) (p := (-i, -j)) sp.1 (by show -j ≤ _; omega)))) (hD (some (oP b)) a (some (.int i)) (some (.int j)) (some w) (redP (-i, -j)) ha (red_sm sp))
            rw [if_pos hneg, if_neg hpos]
            exact ⟨_, seq_nx k1 (seq_nx ((ifS_f t2).trans rfl) ((ifS_t t4).trans k3)), smO_pick (t := fun x y => lessP y x) (o := a) ha (red_sm sp), hb, _, _, _, _, rfl⟩
          · rw [decide_eq_false hneg] at t4
            rw [if_neg hneg, if_neg hpos]
            exact ⟨_, seq_nx k1 (seq_nx ((ifS_f t2).trans rfl) ((ifS_f t4).trans rfl)), ha, hb, _, _, _, _, rfl⟩
  have er : ∀ (l : List ((Int × Int) × Dv)) (st : SU), runL (fun st (p : (Int × Int) × Dv) => suS st p.1) st l = runL suS st (l.map (·.1)) := fun l => by
    induction l with
    | nil => intro st; rfl
    | cons p l ih =>
      intro st
      rw [List.map_cons]
      unfold runL
      cases suS st p.1 with
      | inl w => rfl
      | inr st' => exact ih st'
  rw [er, runL_su] at c3
  generalize l.map (·.1) = m at c3 ⊢
  unfold g__law_suit d__law_suit
  rw [den_ev, e0]
  refine fin_nx c2 ?_
  unfold suD suitF
  by_cases hbad : m.any bad0 = true
  · rw [if_pos hbad] at c3 ⊢
    rw [seq_ev, show mFor F__law_suit_1 t__law_suit_1 b__law_suit_1 (E (some (oP none)) (some (oP none)) none none none none) s = .rt .non s from c3]
    exact finC_rt
  · rw [if_neg hbad] at c3 ⊢
    obtain ⟨ρ', k1, ha, hb, x3, x4, x5, x6, hρ⟩ := c3
    change SmO (hiF (dns m)) at ha
    change SmO (loF (ups m)) at hb
    change ρ' = E (some (oP (hiF (dns m)))) (some (oP (loF (ups m)))) x3 x4 x5 x6 at hρ
    subst hρ
    refine fin_nx k1 ?_
    generalize hiF (dns m) = a at ha ⊢
    generalize loF (ups m) = b at hb ⊢
    have u1 : mTest (mBin isntD (mVar 1) (mK .non)) (E (some (oP a)) (some (oP b)) x3 x4 x5 x6) s = .ok (!a.isNone) s := test_v (bin_v (x := oP a) (y := .non) rfl k_ev isntN_o)
    have u2 : mTest (mBin isntD (mVar 2) (mK .non)) (E (some (oP a)) (some (oP b)) x3 x4 x5 x6) s = .ok (!b.isNone) s := test_v (bin_v (x := oP b) (y := .non) rfl k_ev isntN_o)
    have ret : finC s.length (mRet (mTup (mCons (mVar 1) (mCons (mVar 2) mNil))) (E (some (oP a)) (some (oP b)) x3 x4 x5 x6) s) = .ok (.tup [oP a, oP b]) s := by
      rw [ret_v (w := .tup [oP a, oP b]) (tup_v (cons_v (w := oP a) rfl (cons_v (w := oP b) rfl nil_ev)) (by simp))]
      exact finC_rt
    cases a with
    | none =>
      refine fin_nx (ifS_f (and_f u1)) ?_
      exact ret
    | some a =>
      cases b with
      | none =>
        refine fin_nx (ifS_f (and_t u1 (and_f u2))) ?_
        exact ret
      | some b =>
        have u3 : mTest (mCall (g__law_is_over) (mCons (mVar 1) (mCons (mVar 2) mNil))) (E (some (oP (some a))) (some (oP (some b))) x3 x4 x5 x6) s = .ok (lessP b a) s := test_v (call_v (cons_v (w := tP a) rfl (cons_v (w := tP b) rfl nil_ev)) (over_ok (ha a rfl) (hb b rfl)))
        have u4 := and_t u1 (and_t u2 u3)
        dsimp only
        cases hl : lessP b a with
        | true =>
          rw [hl] at u4
          rw [seq_ev, ifS_t u4, ret_v (w := .non) k_ev, if_pos rfl]
          exact finC_rt
        | false =>
          rw [hl] at u4
          rw [if_neg Bool.false_ne_true]
          refine fin_nx (ifS_f u4) ?_
          exact ret
end
end MP.K44
set_option Elab.async false
set_option linter.all false
set_option maxRecDepth 100000
set_option maxHeartbeats 1000000
namespace MP.K44
open PySem PySem.Spec MP MP.PG
open PyProof.Rows hiding St
open L2 hiding St r1
theorem digs_drop {m k n : Nat} : (digs 2 m n).drop k = digs 2 (m - k) n := by
  unfold digs
  rw [List.drop_reverse, List.length_map, List.length_range, ← List.map_take, List.take_range]
  congr 3
  omega
theorem digs_take {m k n : Nat} (hk : k ≤ m) : (digs 2 m n).take k = digs 2 k (n / 2 ^ (m - k)) := by
  unfold digs
  rw [List.take_reverse, List.length_map, List.length_range, ← List.map_drop]
  congr 1
  have e : (List.range m).drop (m - k) = (List.range k).map fun i => m - k + i := by
    refine List.ext_getElem? fun i => ?_
    rw [List.getElem?_drop, List.getElem?_map]
    by_cases hi : i < k
    · rw [List.getElem?_range (by omega), List.getElem?_range hi]
      rfl
    · rw [List.getElem?_eq_none (by rw [List.length_range]; omega), List.getElem?_eq_none (by rw [List.length_range]; omega)]
      rfl
  rw [e, List.map_map]
  refine List.map_congr_left fun i _ => ?_
  show n / 2 ^ (m - k + i) % 2 = n / 2 ^ (m - k) / 2 ^ i % 2
  rw [Nat.pow_add, Nat.div_div_eq_div_mul]
theorem num_dig {w n : Nat} : num (digs 2 w n) = n % 2 ^ w := by
  unfold num digs
  rw [List.reverse_reverse]
  exact rnum_digs w n
theorem digs_snoc {m n b : Nat} (hb : b < 2) : digs 2 (m + 1) (2 * n + b) = digs 2 m n ++ [b] := by
  unfold digs
  rw [List.range_succ_eq_map, List.map_cons, List.reverse_cons, List.map_map]
  have e1 : (2 * n + b) / 2 ^ 0 % 2 = b := by
    rw [Nat.pow_zero, Nat.div_one]
    omega
  rw [e1]
  congr 2
  refine List.map_congr_left fun i _ => ?_
  show (2 * n + b) / 2 ^ (i + 1) % 2 = n / 2 ^ i % 2
  rw [Nat.pow_succ', ← Nat.div_div_eq_div_mul, show (2 * n + b) / 2 = n by omega]
theorem range_two {α : Type} {g : Nat → α} : ∀ k : Nat, (List.range (2 * k)).map g = (List.range k).flatMap fun n => [g (2 * n), g (2 * n + 1)]
  | 0 => rfl
  | k + 1 => by
    rw [show 2 * (k + 1) = 2 * k + 1 + 1 by omega, List.range_succ, List.range_succ, List.map_append, List.map_append, range_two k, List.range_succ, List.flatMap_append, List.append_assoc]
    rfl
theorem allR_bits : ∀ m : Nat, allR [0, 1] m = (List.range (2 ^ m)).map fun n => toI (digs 2 m n)
  | 0 => rfl
  | m + 1 => by
    show ((allR [0, 1] m).flatMap fun r => [0, 1].map fun b => r ++ [b]) = _
    rw [allR_bits m, Nat.pow_succ, Nat.mul_comm, range_two, List.flatMap_map]
    rw [List.flatMap_def, List.flatMap_def]
    congr 1
    refine List.map_congr_left fun n _ => ?_
    have e0 := digs_snoc (m := m) (n := n) (b := 0) (by omega)
    have e1 := digs_snoc (m := m) (n := n) (b := 1) (by omega)
    have e0' : digs 2 (m + 1) (2 * n) = digs 2 m n ++ [0] := e0
    rw [e0', e1, toI, toI, toI, List.map_append, List.map_append]
    rfl
theorem fz_cl {S : Sto} {n k : Nat} : ∀ {ws : List Dv}, cleans n ws = true → mapO (fz (k + 1) S n) ws = some ws
  | [], _ => rfl
  | w :: ws, h => by
    have h' : (clean n w && cleans n ws) = true := h
    obtain ⟨h1, h2⟩ := Bool.and_eq_true_iff.mp h'
    unfold mapO
    rw [fz_cl h2]
    have e : fz (k + 1) S n w = some w := by
      unfold fz
      rw [if_pos h1]
    rw [e]
section
variable {s : Sto} {rs os : List Int} {r : Nat}
/-- a row of bits with its two indexes -/
def triD (rs os : List Int) (r n : Nat) : Dv := .tup [.int (prF rs os r n).1, .int (prF rs os r n).2, rowD rs os r n]
theorem tI_clean {k : Nat} : ∀ l : List Int, cleans k (l.map .int) = true
  | [] => rfl
  | _ :: l => by
    show (true && cleans k (l.map .int)) = true
    rw [tI_clean l]
    rfl
theorem tri_clean {k n : Nat} : clean k (triD rs os r n) = true := by
  show (true && (true && (cleans k ((toI (digs 2 (wdB rs os + r) n)).map .int) && true))) = true
  rw [tI_clean]
  rfl
theorem tris_clean {k : Nat} : ∀ l : List Nat, cleans k (l.map (triD rs os r)) = true
  | [] => rfl
  | n :: l => by
    show (clean k (triD rs os r n) && cleans k (l.map (triD rs os r))) = true
    rw [tri_clean, tris_clean l]
    rfl
theorem law_pairs_ok (hs : Cl s) (h1 : Rule rs) (h2 : Rule os) (hr : r ≤ 6) : g__law_pairs [tI rs, tI os, .int (r : Int)] s = .ok (.lst ((List.range (2 ^ (wdB rs os + r))).map (triD rs os r))) s := by
  have l1 := h1.six
  have l2 := h2.six
  have l3 : rs.length ≤ wdB rs os := Nat.le_max_left _ _
  have l4 : os.length ≤ wdB rs os := Nat.le_max_right _ _
  have hw : wdB rs os ≤ 6 := by unfold wdB; omega
  let E (x3 x4 x5 : Option Dv) : Env := [some (tI rs), some (tI os), some (.int (r : Int)), x3, x4, x5]
  let Wd : Option Dv := some (.int (wdB rs os : Int))
  have e0 : startD 6 [tI rs, tI os, .int (r : Int)] = E none none none := rfl
  have ln : ∀ x3 x4 x5 s, mBlt lenD (mCons (mVar 0) mNil) (E x3 x4 x5) s = .ok (.int (rs.length : Int)) s := fun _ _ _ _ => blt_v (cons_v (w := tI rs) rfl nil_ev) (by rw [tI, len_tup, List.length_map])
  have lm : ∀ x3 x4 x5 s, mBlt lenD (mCons (mVar 1) mNil) (E x3 x4 x5) s = .ok (.int (os.length : Int)) s := fun _ _ _ _ => blt_v (cons_v (w := tI os) rfl nil_ev) (by rw [tI, len_tup, List.length_map])
  have c1 : mPar 3 4 (mCons (mBlt max2D (mCons (mBlt lenD (mCons (mVar 0) mNil)) (mCons (mBlt lenD (mCons (mVar 1) mNil)) mNil))) (mCons (mLstM mNil) mNil)) (E none none none) s = .nx (E Wd (some (.ref s.length)) none) (s ++ [.lst []]) := by
    rw [par_ev, blt_v (z := .int (wdB rs os : Int)) (cons_v (ln _ _ _ _) (cons_v (lm _ _ _ _) nil_ev)) max2_nat, then_ok]
    rfl
  obtain ⟨ρ', s', f1, x5, hρ, hs'⟩ := for_ix (F := F__law_pairs_1) (g := t__law_pairs_1) (body := b__law_pairs_1) (ρ := E Wd (some (.ref s.length)) none) (s := s ++ [.lst []]) (s1 := s ++ [.lst []]) (xs := (List.range (2 ^ (wdB rs os + r))).map fun n => rowD rs os r n)
    (fun i ρ s' => ∃ x5, ρ = E Wd (some (.ref s.length)) x5 ∧ s' = s ++ [.lst ((List.range i).map (triD rs os r))]) (by
      have h : mCall (g__law_all) (mCons (mTup (mCons (mK (.int 0)) (mCons (mK (.int 1)) mNil))) (mCons (mBin addD (mVar 3) (mVar 2)) mNil)) (E Wd (some (.ref s.length)) none) (s ++ [.lst []]) = .ok (.lst ((List.range (2 ^ (wdB rs os + r))).map fun n => rowD rs os r n)) (s ++ [.lst []]) := by
        refine call_v (cons_v (w := tI [0, 1]) rfl (cons_v (w := .int ((wdB rs os + r : Nat) : Int)) (bin_v (x := .int (wdB rs os : Int)) (y := .int (r : Int)) rfl rfl (by rw [add_ii, Int.natCast_add])) nil_ev)) ?_
        rw [law_all_ok (marks := [0, 1]) (by decide) (by
          show 2 ^ (wdB rs os + r) ≤ 100000
          exact Nat.le_trans (Nat.pow_le_pow_right (show 0 < 2 by decide) (show wdB rs os + r ≤ 12 by omega)) (by decide)) (by omega) _ (.inl rfl), allR_bits, List.map_map]
        rfl
      show iSeq _ _ _ = _
      unfold iSeq
      rw [h]
      rfl) ⟨none, rfl, rfl⟩ fun i x ρ s' hx ⟨x5, hρ, hs'⟩ => by
      subst hρ hs'
      rw [List.getElem?_map] at hx
      obtain ⟨n, hn, rfl⟩ := Option.map_eq_some_iff.mp hx
      obtain ⟨hi, rfl⟩ : i < 2 ^ (wdB rs os + r) ∧ n = i := by
        have hl := (List.getElem?_eq_some_iff.mp hn).1
        rw [List.length_range] at hl
        rw [List.getElem?_range hl] at hn
        exact ⟨hl, (Option.some.inj hn).symm⟩
      refine ⟨E Wd (some (.ref s.length)) (some (rowD rs os r n)), E Wd (some (.ref s.length)) (some (rowD rs os r n)), s ++ [.lst ((List.range (n + 1)).map (triD rs os r))], rfl, .inl ?_, _, rfl, rfl⟩
      have d01 : Bits01 (digs 2 (wdB rs os + r) n) := digs_bits
      have len : (digs 2 (wdB rs os + r) n).length = wdB rs os + r := digs_len
      generalize hS : s ++ [.lst ((List.range n).map (triD rs os r))] = S
      have v1 : mCall (g__law_sum) (mCons (mVar 0) (mCons (mSl slA (mVar 5) (mPart (mBin subD (mVar 3) (mBlt lenD (mCons (mVar 0) mNil)))) (mPart (mVar 3))) mNil)) (E Wd (some (.ref s.length)) (some (rowD rs os r n))) S = .ok (.int (prF rs os r n).1) S := by
        have hsl : mSl slA (mVar 5) (mPart (mBin subD (mVar 3) (mBlt lenD (mCons (mVar 0) mNil)))) (mPart (mVar 3)) (E Wd (some (.ref s.length)) (some (rowD rs os r n))) S = .ok (tI (toI (digs 2 rs.length (n / 2 ^ r)))) S := by
          refine sl_v (x := rowD rs os r n) (a := some ((wdB rs os - rs.length : Nat) : Int)) (b := some (wdB rs os : Int)) rfl (part_v (bin_v (x := .int (wdB rs os : Int)) (y := .int (rs.length : Int)) rfl (ln _ _ _ _) (by rw [sub_ev, Int.natCast_sub l3]))) (part_v rfl) ?_
          show some (Dv.tup (cutD ((toI (digs 2 (wdB rs os + r) n)).map .int) _ _)) = _
          rw [cut_mid (by rw [List.length_map, toI, List.length_map, len]; omega) (by rw [List.length_map, toI, List.length_map, len]; omega), ← List.map_drop, ← List.map_take, toI, ← List.map_drop, ← List.map_take, digs_drop, digs_take (by omega), tI, toI]
          congr 5
          · omega
          · congr 2
            omega
        refine call_v (cons_v (w := tI rs) rfl (cons_v hsl nil_ev)) ?_
        rw [law_sum_ok (Fit.of h1) (by rw [toI, List.length_map, digs_len]; omega), dot_bits digs_bits digs_len, num_dig]
        rfl
      have v2 : mCall (g__law_sum) (mCons (mVar 1) (mCons (mSl slA (mVar 5) (mPart (mBin subD (mBin addD (mVar 3) (mVar 2)) (mBlt lenD (mCons (mVar 1) mNil)))) mNoPart) mNil)) (E Wd (some (.ref s.length)) (some (rowD rs os r n))) S = .ok (.int (prF rs os r n).2) S := by
        have hsl : mSl slA (mVar 5) (mPart (mBin subD (mBin addD (mVar 3) (mVar 2)) (mBlt lenD (mCons (mVar 1) mNil)))) mNoPart (E Wd (some (.ref s.length)) (some (rowD rs os r n))) S = .ok (tI (toI (digs 2 os.length n))) S := by
          refine sl_v (x := rowD rs os r n) (a := some ((wdB rs os + r - os.length : Nat) : Int)) (b := none) rfl (part_v (bin_v (x := .int ((wdB rs os + r : Nat) : Int)) (y := .int (os.length : Int)) (bin_v (x := .int (wdB rs os : Int)) (y := .int (r : Int)) rfl rfl (by rw [add_ii, Int.natCast_add])) (lm _ _ _ _) (by rw [sub_ev, Int.natCast_sub (by omega)]))) rfl ?_
          show some (Dv.tup (cutD ((toI (digs 2 (wdB rs os + r) n)).map .int) _ _)) = _
          rw [cut_from, ← List.map_drop, toI, ← List.map_drop, digs_drop, tI, toI]
          congr 5
          omega
        refine call_v (cons_v (w := tI os) rfl (cons_v hsl nil_ev)) ?_
        rw [law_sum_ok (Fit.of h2) (by rw [toI, List.length_map, digs_len]; omega), dot_bits digs_bits digs_len, num_dig]
        rfl
      have vt : mTup (mCons (mCall (g__law_sum) (mCons (mVar 0) (mCons (mSl slA (mVar 5) (mPart (mBin subD (mVar 3) (mBlt lenD (mCons (mVar 0) mNil)))) (mPart (mVar 3))) mNil))) (mCons (mCall (g__law_sum) (mCons (mVar 1) (mCons (mSl slA (mVar 5) (mPart (mBin subD (mBin addD (mVar 3) (mVar 2)) (mBlt lenD (mCons (mVar 1) mNil)))) mNoPart) mNil))) (mCons (mVar 5) mNil))) (E Wd (some (.ref s.length)) (some (rowD rs os r n))) S = .ok (triD rs os r n) S :=
        tup_v (cons_v v1 (cons_v v2 (cons_v (w := rowD rs os r n) rfl nil_ev))) (by simp)
      subst hS
      have hN : 2 ^ (wdB rs os + r) ≤ 4096 := Nat.pow_le_pow_right (show 0 < 2 by decide) (show wdB rs os + r ≤ 12 by omega)
      unfold b__law_pairs_1
      rw [expr_v (app_s (by rw [List.length_map, List.length_range]; omega) rfl vt), List.range_succ, List.map_append]
      rfl
  rw [hρ, hs', List.length_map, List.length_range] at f1
  unfold g__law_pairs d__law_pairs
  rw [den_ev, e0]
  refine (congrArg (finC _) (seq_nx c1 (seq_nx f1 (ret_v (w := .ref s.length) rfl)))).trans ?_
  exact fin_sn hs (by simp) (fz_ref0 rfl (fz_cl (tris_clean _)))
end
end MP.K44
set_option Elab.async false
set_option linter.all false
set_option maxRecDepth 100000
set_option maxHeartbeats 1000000
namespace MP.K44
open PySem PySem.Spec MP MP.PG
open PyProof.Rows hiding St
open L2 hiding St r1
theorem draw_v {pre : Sto} {cs : List Int} {l p many : Int} (hc : cs ≠ []) (hm : 0 < many) (hm2 : many ≤ 1000000) (hp : 0 ≤ p) (hp2 : p < 1000000) : ∃ d l' p', g__law_draw [.ref pre.length, .int many] (St pre [] cs l p) = .ok (.int d) (St pre [] cs l' p') ∧ 0 ≤ d ∧ d < many ∧ 0 ≤ p' ∧ p' ≤ p + 1 :=
  (draw_ok (l := l) hc hm (by omega) hp hp2).ok
def endsL : Option (Option (Int × Int) × Option (Int × Int)) → List (Option (Int × Int))
  | none => []
  | some p => [p.1, p.2]
def enD : Option (Option (Int × Int) × Option (Int × Int)) → Dv
  | none => .non
  | some p => .tup [oP p.1, oP p.2]
theorem suD_en (l : List (Int × Int)) : suD l = enD (suitF l) := by
  unfold suD
  cases suitF l <;> rfl
section
variable {pre : Sto} {cs : List Int} {rs os : List Int} {r : Nat}
/-- a film of results -/
theorem film_ok {l p : Int} {M T F C B D W x7 x8 x9 x10 x11 x12 x13 : Option Dv} (hc : cs ≠ []) (hp : 0 ≤ p) (hp2 : p < 900000) {w : Nat} (hw : w ≤ 6) (hr : r ≤ 6) (hM : M = some (.ref pre.length)) (hC : C = some (.int (r : Int))) (hW : W = some (.int (w : Int))) :
    ∃ (ns : List Int) (l' p' : Int), mComp cF__law_results_right_1 [13] ct__law_results_right_1 ci__law_results_right_1 ce__law_results_right_1 [M, T, F, C, B, D, W, x7, x8, x9, x10, x11, x12, x13] (St pre [] cs l p) = .ok (lI ns) (St pre [] cs l' p') ∧ w + r ≤ ns.length ∧ ns.length ≤ 20 ∧ (∀ n ∈ ns, 0 ≤ n ∧ n ≤ 1000) ∧ 0 ≤ p' ∧ p' ≤ p + 50 := by
  subst hM hC hW
  let E (x13 : Option Dv) : Env := [some (.ref pre.length), T, F, some (.int (r : Int)), B, D, some (.int (w : Int)), x7, x8, x9, x10, x11, x12, x13]
  obtain ⟨d, l1, p1, d1, d0, d3, p10, p11⟩ := draw_v (pre := pre) (l := l) hc (show (0 : Int) < 3 by decide) (by decide) hp (by omega)
  obtain ⟨j, rfl⟩ := Int.eq_ofNat_of_zero_le d0
  have hF : cF__law_results_right_1 (E x13) (St pre [] cs l p) = .ok { ws := rng 0 (w + r + j) } (St pre [] cs l1 p1) := by
    refine range1_ok (j := ((w + r + j : Nat) : Int)) ?_ (okR_s (by omega) (by omega))
    refine cons_v (bin_v (x := .int ((w + r : Nat) : Int)) (y := .int (j : Int)) (bin_v (x := .int (w : Int)) (y := .int (r : Int)) rfl rfl (by rw [add_ii, Int.natCast_add])) (call_v (cons_v (w := .ref pre.length) rfl (cons_v (w := .int 3) rfl nil_ev)) d1) ?_) nil_ev
    rw [add_ii, ← Int.natCast_add]
  obtain ⟨zs, s', c1, c2, ns, l3, p3, rfl, rfl, r1, r2, r3, r4⟩ := comp_ix (vs := [13]) (g := ct__law_results_right_1) (elt := ce__law_results_right_1) (fun i acc s => ∃ (ns : List Int) (l3 p3 : Int), acc = ns.map .int ∧ s = St pre [] cs l3 p3 ∧ ns.length = i ∧ (∀ n ∈ ns, 0 ≤ n ∧ n ≤ 1000) ∧ 0 ≤ p3 ∧ p3 ≤ p + 1 + 2 * i)
    hF (by rw [rng_len]; unfold lim; omega) ⟨[], l1, p1, rfl, rfl, rfl, fun _ h => (nomatch h), p10, by omega⟩ fun i x acc s hx hJ => by
      obtain ⟨ns, l3, p3, rfl, rfl, r1, r2, r3, r4⟩ := hJ
      obtain ⟨hi, rfl⟩ := rng_get hx
      have hi' : i < w + r + j := hi
      obtain ⟨v, l4, p4, hv, d4, p40, p41⟩ := law_of_ok (pre := pre) (tl := []) (l := l3) (ws := [.int 2, .int 3, .int 1000]) hc r3 (by omega) (by simp) (by simp)
      have hvi : ∃ m : Int, v = .int m ∧ 0 < m ∧ m ≤ 1000 := by
        simp only [List.mem_cons, List.mem_nil_iff, or_false] at hv
        rcases hv with rfl | rfl | rfl
        · exact ⟨2, rfl, by decide, by decide⟩
        · exact ⟨3, rfl, by decide, by decide⟩
        · exact ⟨1000, rfl, by decide, by decide⟩
      obtain ⟨m, rfl, m0, m1⟩ := hvi
      obtain ⟨a, l5, p5, d5, a0, a1, p50, p51⟩ := draw_v (pre := pre) (l := l4) hc m0 (by omega) p40 (by omega)
      refine ⟨E (some (.int (0 + (i : Int)))), .int a, St pre [] cs l5 p5, rfl, ?_, ns ++ [a], l5, p5, by rw [List.map_append]; rfl, rfl, by rw [List.length_append, r1]; rfl, fun n hn => ?_, p50, by omega⟩
      · refine call_v (cons_v (w := .ref pre.length) rfl (cons_v (w := .int m) (call_v (cons_v (w := .ref pre.length) rfl (cons_v (w := .lst [.int 2, .int 3, .int 1000]) rfl nil_ev)) d4) nil_ev)) d5
      · rcases List.mem_append.mp hn with h | h
        · exact r2 n h
        · rw [List.mem_singleton.mp h]; omega
  rw [rng_len] at r1 r4
  refine ⟨ns, l3, p3, c1, by omega, by omega, r2, r3, by omega⟩
theorem results_right_ok {l p : Int} (hc : cs ≠ []) (hp : 0 ≤ p) (hp2 : p < 800000) (h1 : Rule rs) (h2 : Rule os) (hr : r ≤ 6) {b : Bool} {en : Option (Option (Int × Int) × Option (Int × Int))} (hb : b = true → abN rs os r = none)
    (hen : ∀ o ∈ endsL en, ∀ e, o = some e → 0 < e.2 ∧ e.2 ≤ 1000000 ∧ ∀ n, n < 2 ^ (wdB rs os + r) → e.1 * (prF rs os r n).2 ≤ (prF rs os r n).1 * e.2) :
    ∃ l' p', g__law_results_right [.ref pre.length, tI rs, tI os, .int (r : Int), .bl b, enD en] (St pre [] cs l p) = .ok (.bl true) (St pre [] cs l' p') ∧ 0 ≤ p' ∧ p' ≤ p + 500 := by
  have l1 := h1.six
  have l2 := h2.six
  have l3 : rs.length ≤ wdB rs os := Nat.le_max_left _ _
  have l4 : os.length ≤ wdB rs os := Nat.le_max_right _ _
  have hw : wdB rs os ≤ 6 := by unfold wdB; omega
  let E (x6 x7 x8 x9 x10 x11 x12 x13 : Option Dv) : Env := [some (.ref pre.length), some (tI rs), some (tI os), some (.int (r : Int)), some (.bl b), some (enD en), x6, x7, x8, x9, x10, x11, x12, x13]
  let Wd : Option Dv := some (.int (wdB rs os : Int))
  have e0 : startD 14 [.ref pre.length, tI rs, tI os, .int (r : Int), .bl b, enD en] = E none none none none none none none none := rfl
  have ln : ∀ x6 x7 x8 x9 x10 x11 x12 x13 s, mBlt lenD (mCons (mVar 1) mNil) (E x6 x7 x8 x9 x10 x11 x12 x13) s = .ok (.int (rs.length : Int)) s := fun _ _ _ _ _ _ _ _ _ => blt_v (cons_v (w := tI rs) rfl nil_ev) (by rw [tI, len_tup, List.length_map])
  have lm : ∀ x6 x7 x8 x9 x10 x11 x12 x13 s, mBlt lenD (mCons (mVar 2) mNil) (E x6 x7 x8 x9 x10 x11 x12 x13) s = .ok (.int (os.length : Int)) s := fun _ _ _ _ _ _ _ _ _ => blt_v (cons_v (w := tI os) rfl nil_ev) (by rw [tI, len_tup, List.length_map])
  have c1 : mAsg (mBlt max2D (mCons (mBlt lenD (mCons (mVar 1) mNil)) (mCons (mBlt lenD (mCons (mVar 2) mNil)) mNil))) (gN 6) (E none none none none none none none none) (St pre [] cs l p) = .nx (E Wd none none none none none none none) (St pre [] cs l p) :=
    asg_v (w := .int (wdB rs os : Int)) (blt_v (cons_v (ln _ _ _ _ _ _ _ _ _) (cons_v (lm _ _ _ _ _ _ _ _ _) nil_ev)) max2_nat)
  obtain ⟨ρ', s', f1, x7, x8, x9, x10, x11, x12, x13, l', p', hρ, hs', q0, q1⟩ := for_ix (F := F__law_results_right_2) (g := t__law_results_right_2) (body := b__law_results_right_2) (ρ := E Wd none none none none none none none) (s := St pre [] cs l p) (s1 := St pre [] cs l p) (xs := rng 0 6)
    (fun i ρ s => ∃ x7 x8 x9 x10 x11 x12 x13 l' p', ρ = E Wd x7 x8 x9 x10 x11 x12 x13 ∧ s = St pre [] cs l' p' ∧ 0 ≤ p' ∧ p' ≤ p + 60 * i) (range1_ok (j := 6) (cons_v (w := .int 6) k_ev nil_ev) (by decide)) ⟨_, _, _, _, _, _, _, _, _, rfl, rfl, hp, by omega⟩ fun i x ρ s hx ⟨x7, x8, x9, x10, x11, x12, x13, l', p', hρ, hs, q0, q1⟩ => by
      subst hρ hs
      obtain ⟨hi, rfl⟩ := rng_get hx
      have hi6 : i < 6 := hi
      obtain ⟨ns, l5, p5, hf, f1, f2, f3, f4, f5⟩ := film_ok (l := l') (M := some (.ref pre.length)) (T := some (tI rs)) (F := some (tI os)) (C := some (.int (r : Int))) (B := some (.bl b)) (D := some (enD en)) (W := Wd) (x7 := some (.int (0 + (i : Int)))) (x8 := x8) (x9 := x9) (x10 := x10) (x11 := x11) (x12 := x12) (x13 := x13) (r := r) hc q0 (by omega) hw hr rfl rfl rfl
      generalize hS : St pre [] cs l5 p5 = S at hf
      let X : Option Dv := some (.int (0 + (i : Int)))
      have a1 : mAsg (mBlt tupleD (mCons (mComp cF__law_results_right_1 [13] ct__law_results_right_1 ci__law_results_right_1 ce__law_results_right_1) mNil)) (gN 8) (E Wd X x8 x9 x10 x11 x12 x13) (St pre [] cs l' p') = .nx (E Wd X (some (tI ns)) x9 x10 x11 x12 x13) S :=
        asg_v (w := tI ns) (blt_v (cons_v hf nil_ev) tuple_lst)
      have lf : ∀ x9 x10 x11 x12 x13, mBlt lenD (mCons (mVar 8) mNil) (E Wd X (some (tI ns)) x9 x10 x11 x12 x13) S = .ok (.int (ns.length : Int)) S := fun _ _ _ _ _ => blt_v (cons_v (w := tI ns) rfl nil_ev) (by rw [tI, len_tup, List.length_map])
      have a2 : mAsg (mSl slA (mVar 8) mNoPart (mPart (mBin subD (mBlt lenD (mCons (mVar 8) mNil)) (mVar 3)))) (gN 9) (E Wd X (some (tI ns)) x9 x10 x11 x12 x13) S = .nx (E Wd X (some (tI ns)) (some (tI (ns.take (ns.length - r)))) x10 x11 x12 x13) S := by
        refine asg_v (w := tI (ns.take (ns.length - r))) (sl_v (x := tI ns) (a := none) (b := some ((ns.length - r : Nat) : Int)) rfl rfl (part_v (bin_v (x := .int (ns.length : Int)) (y := .int (r : Int)) (lf _ _ _ _ _) rfl (by rw [sub_ev, Int.natCast_sub (by omega)]))) ?_)
        show some (Dv.tup (cutD (ns.map .int) _ _)) = _
        rw [cut_to, ← List.map_take]
      have v1 : ∀ x10 x11 x12 x13, mCall (g__law_sum) (mCons (mVar 1) (mCons (mSl slA (mVar 9) (mPart (mBin subD (mBlt lenD (mCons (mVar 9) mNil)) (mBlt lenD (mCons (mVar 1) mNil)))) mNoPart) mNil)) (E Wd X (some (tI ns)) (some (tI (ns.take (ns.length - r)))) x10 x11 x12 x13) S = .ok (.int (ixe rs ns (ns.length - r))) S := fun x10 x11 x12 x13 => by
        have hsl : mSl slA (mVar 9) (mPart (mBin subD (mBlt lenD (mCons (mVar 9) mNil)) (mBlt lenD (mCons (mVar 1) mNil)))) mNoPart (E Wd X (some (tI ns)) (some (tI (ns.take (ns.length - r)))) x10 x11 x12 x13) S = .ok (tI (seg rs ns (ns.length - r))) S := by
          refine sl_v (x := tI (ns.take (ns.length - r))) (a := some ((ns.length - r - rs.length : Nat) : Int)) (b := none) rfl (part_v (bin_v (x := .int ((ns.length - r : Nat) : Int)) (y := .int (rs.length : Int)) (blt_v (cons_v (w := tI (ns.take (ns.length - r))) rfl nil_ev) (by rw [tI, len_tup, List.length_map, List.length_take, Nat.min_eq_left (by omega)])) (ln _ _ _ _ _ _ _ _ _) (by rw [sub_ev, ← Int.natCast_sub (by omega)]))) rfl ?_
          show some (Dv.tup (cutD ((ns.take (ns.length - r)).map .int) _ _)) = _
          rw [cut_from, ← List.map_drop, List.drop_take]
          unfold seg
          rw [show ns.length - r - (ns.length - r - rs.length) = rs.length by omega]
        refine call_v (cons_v (w := tI rs) rfl (cons_v hsl nil_ev)) ?_
        exact law_sum_ok (Fit.of h1) (by unfold seg; rw [List.length_take]; omega)
      have v2 : ∀ x10 x11 x12 x13, mCall (g__law_sum) (mCons (mVar 2) (mCons (mSl slA (mVar 8) (mPart (mBin subD (mBlt lenD (mCons (mVar 8) mNil)) (mBlt lenD (mCons (mVar 2) mNil)))) mNoPart) mNil)) (E Wd X (some (tI ns)) (some (tI (ns.take (ns.length - r)))) x10 x11 x12 x13) S = .ok (.int (ixe os ns ns.length)) S := fun x10 x11 x12 x13 => by
        have hsl : mSl slA (mVar 8) (mPart (mBin subD (mBlt lenD (mCons (mVar 8) mNil)) (mBlt lenD (mCons (mVar 2) mNil)))) mNoPart (E Wd X (some (tI ns)) (some (tI (ns.take (ns.length - r)))) x10 x11 x12 x13) S = .ok (tI (seg os ns ns.length)) S := by
          refine sl_v (x := tI ns) (a := some ((ns.length - os.length : Nat) : Int)) (b := none) rfl (part_v (bin_v (x := .int (ns.length : Int)) (y := .int (os.length : Int)) (lf _ _ _ _ _) (lm _ _ _ _ _ _ _ _ _) (by rw [sub_ev, Int.natCast_sub (by omega)]))) rfl ?_
          show some (Dv.tup (cutD (ns.map .int) _ _)) = _
          rw [cut_from, ← List.map_drop]
          unfold seg
          rw [List.take_of_length_le (by rw [List.length_drop]; omega)]
        refine call_v (cons_v (w := tI os) rfl (cons_v hsl nil_ev)) ?_
        exact law_sum_ok (Fit.of h2) (by unfold seg; rw [List.length_take]; omega)
      generalize hone : ixe rs ns (ns.length - r) = one at v1
      generalize hoth : ixe os ns ns.length = oth at v2
      have a3 : mPar 10 11 (mCons (mCall (g__law_sum) (mCons (mVar 1) (mCons (mSl slA (mVar 9) (mPart (mBin subD (mBlt lenD (mCons (mVar 9) mNil)) (mBlt lenD (mCons (mVar 1) mNil)))) mNoPart) mNil))) (mCons (mCall (g__law_sum) (mCons (mVar 2) (mCons (mSl slA (mVar 8) (mPart (mBin subD (mBlt lenD (mCons (mVar 8) mNil)) (mBlt lenD (mCons (mVar 2) mNil)))) mNoPart) mNil))) mNil)) (E Wd X (some (tI ns)) (some (tI (ns.take (ns.length - r)))) x10 x11 x12 x13) S = .nx (E Wd X (some (tI ns)) (some (tI (ns.take (ns.length - r)))) (some (.int one)) (some (.int oth)) x12 x13) S := by
        rw [par_ev, v1, then_ok, v2, then_ok]
        rfl
      have hl : wdB rs os + r ≤ ns.length := f1
      have u1 : mTest (mVar 4) (E Wd X (some (tI ns)) (some (tI (ns.take (ns.length - r)))) (some (.int one)) (some (.int oth)) x12 x13) S = .ok b S := test_v rfl
      have u2 : mTest (mBin gtD (mVar 10) (mVar 11)) (E Wd X (some (tI ns)) (some (tI (ns.take (ns.length - r)))) (some (.int one)) (some (.int oth)) x12 x13) S = .ok (decide (oth < one)) S := test_v (bin_v (x := .int one) (y := .int oth) rfl rfl gt_ii)
      have a4 : mIfS (mAnd (mTest (mVar 4)) (mTest (mBin gtD (mVar 10) (mVar 11)))) (mRet (mK (.bl false))) mNext (E Wd X (some (tI ns)) (some (tI (ns.take (ns.length - r)))) (some (.int one)) (some (.int oth)) x12 x13) S = .nx (E Wd X (some (tI ns)) (some (tI (ns.take (ns.length - r)))) (some (.int one)) (some (.int oth)) x12 x13) S := by
        cases hbb : b with
        | false =>
          rw [hbb] at u1
          rw [ifS_f (and_f u1)]
          rfl
        | true =>
          have hle := film_below (M := 1000) f3 hl (hb hbb)
          rw [hone, hoth] at hle
          rw [hbb] at u1
          rw [decide_eq_false (by omega)] at u2
          rw [ifS_f (and_t u1 u2)]
          rfl
      have hcomp : mComp cF__law_results_right_2 [12] ct__law_results_right_2 ci__law_results_right_2 ce__law_results_right_2 (E Wd X (some (tI ns)) (some (tI (ns.take (ns.length - r)))) (some (.int one)) (some (.int oth)) x12 x13) S = .ok (.lst (((endsL en).filter fun o => !o.isNone).map oP)) S := by
        refine comp_filt (e := oP) oP (fun o => !o.isNone) ?_ ?_ fun o _ => ⟨E Wd X (some (tI ns)) (some (tI (ns.take (ns.length - r)))) (some (.int one)) (some (.int oth)) (some (oP o)) x13, rfl, test_v (bin_v (x := oP o) (y := .non) rfl k_ev isntN_o), fun _ => rfl⟩
        · show iSeq _ _ _ = _
          unfold iSeq
          have : mIf (mTest (mBin isntD (mVar 5) (mK .non))) (mVar 5) (mTup mNil) (E Wd X (some (tI ns)) (some (tI (ns.take (ns.length - r)))) (some (.int one)) (some (.int oth)) x12 x13) S = .ok (.tup ((endsL en).map oP)) S := by
            cases en with
            | none => exact if_vf (test_v (bin_v (x := .non) (y := .non) rfl k_ev rfl)) rfl
            | some q => exact if_vt (test_v (bin_v (x := .tup [oP q.1, oP q.2]) (y := .non) rfl k_ev rfl)) rfl
          rw [this]
          rfl
        · cases en with
          | none => unfold lim; simp [endsL]
          | some q => unfold lim; simp [endsL]
      have a5 := for_run (F := F__law_results_right_1) (g := t__law_results_right_1) (body := b__law_results_right_1) (ρ := E Wd X (some (tI ns)) (some (tI (ns.take (ns.length - r)))) (some (.int one)) (some (.int oth)) x12 x13) (s0 := S) (s := S) (l := (endsL en).filter fun o => !o.isNone) (e := oP)
        (fun (_ : Unit) ρ => ∃ x12, ρ = E Wd X (some (tI ns)) (some (tI (ns.take (ns.length - r)))) (some (.int one)) (some (.int oth)) x12 x13) (fun _ _ => .inr ()) () (by
          show iSeq _ _ _ = _
          unfold iSeq
          rw [hcomp]
          rfl) ⟨_, rfl⟩ fun o ho _ ρ ⟨x12, hρ⟩ => by
          subst hρ
          obtain ⟨ho1, ho2⟩ := List.mem_filter.mp ho
          cases o with
          | none => cases ho2
          | some e =>
            obtain ⟨e1, e2, e3⟩ := hen _ ho1 e rfl
            have hle := film_suit (M := 1000) f3 hl e3
            rw [hone, hoth] at hle
            have hot : -120000000 ≤ oth ∧ oth ≤ 120000000 := by
              have := ixe_abs (ns := ns) (e := ns.length) h2 ⟨by omega, fun n hn => by have := f3 n hn; omega⟩
              rw [hoth] at this
              omega
            refine ⟨E Wd X (some (tI ns)) (some (tI (ns.take (ns.length - r)))) (some (.int one)) (some (.int oth)) (some (tP e)) x13, rfl, E Wd X (some (tI ns)) (some (tI (ns.take (ns.length - r)))) (some (.int one)) (some (.int oth)) (some (tP e)) x13, ?_, some (tP e), rfl⟩
            unfold b__law_results_right_1
            have ht : mTest (mBin ltD (mBin mulD (mVar 10) (mBin ixA (mVar 12) (mK (.int 1)))) (mBin mulD (mBin ixA (mVar 12) (mK (.int 0))) (mVar 11))) (E Wd X (some (tI ns)) (some (tI (ns.take (ns.length - r)))) (some (.int one)) (some (.int oth)) (some (tP e)) x13) S = .ok (decide (one * e.2 < e.1 * oth)) S :=
              test_v (bin_v (x := .int (one * e.2)) (y := .int (e.1 * oth)) (bin_v (x := .int one) (y := .int e.2) rfl (bin_v (x := tP e) (y := .int 1) rfl k_ev ixP1) (mul_ii (cm_r ⟨by omega, by omega⟩))) (bin_v (x := .int e.1) (y := .int oth) (bin_v (x := tP e) (y := .int 0) rfl k_ev ixP0) rfl (mul_ii (cm_r ⟨by omega, by omega⟩))) lt_ii)
            rw [decide_eq_false (by omega)] at ht
            rw [ifS_f ht]
            rfl
      have hrun : ∀ L : List (Option (Int × Int)), runL (fun (_ : Unit) (_ : Option (Int × Int)) => (.inr () : Dv ⊕ Unit)) () L = .inr () := fun L => by
        induction L with
        | nil => rfl
        | cons a L ih => exact ih
      rw [hrun] at a5
      obtain ⟨ρ2, g1, x12', hρ2⟩ := a5
      subst hρ2
      subst hS
      refine ⟨E Wd X x8 x9 x10 x11 x12 x13, _, St pre [] cs l5 p5, rfl, .inl ?_, X, some (tI ns), some (tI (ns.take (ns.length - r))), some (.int one), some (.int oth), x12', x13, l5, p5, rfl, rfl, f4, by omega⟩
      unfold b__law_results_right_2
      exact seq_nx a1 (seq_nx a2 (seq_nx a3 (seq_nx a4 g1)))
  rw [hρ, hs'] at f1
  have hrl : ((rng 0 6).length : Int) = 6 := by rw [rng_len]; rfl
  refine ⟨l', p', ?_, q0, by omega⟩
  unfold g__law_results_right d__law_results_right
  rw [den_ev, e0]
  refine (congrArg (finC _) (seq_nx c1 (seq_nx f1 (ret_v (w := .bl true) k_ev)))).trans ?_
  exact fin_St
end
end MP.K44
set_option Elab.async false
set_option linter.all false
set_option maxRecDepth 100000
set_option maxHeartbeats 1000000
namespace MP.K44
open PySem PySem.Spec MP MP.PG
open PyProof.Rows hiding St
open L2 hiding St r1
theorem callD_v {d : Int} {den : Fn} {fa : FA} {ρ : Env} {s s1 : Sto} {ws : List Dv} {r : R Dv} (h : fa ρ s = .ok ws s1) (h2 : den (ws ++ [.int d]) s1 = r) : mCallD d den fa ρ s = r := call_v h h2
theorem callK_v {den : Fn} {fa fk : FA} {ρ : Env} {s s1 s2 : Sto} {ws zs : List Dv} {r : R Dv} (h : fa ρ s = .ok ws s1) (h1 : fk ρ s1 = .ok zs s2) (h2 : den (ws ++ zs) s2 = r) : mCallK den fa fk ρ s = r := by
  unfold mCallK
  rw [h]
  show (fk ρ s1).bind _ = _
  rw [h1]
  exact h2
section
variable {rs os : List Int} {r : Nat}
/-- what is told and due -/
def tellD (rs os : List Int) (r : Nat) : Dv := .lst [.bl (abN rs os r).isNone, abD rs os r, suD (psL rs os r)]
theorem sm_small {i : Int} (h : -120 ≤ i ∧ i ≤ 120) : MP.Sm i := by
  refine Nat.lt_of_le_of_lt (show i.natAbs ≤ 120 by omega) ?_
  exact Nat.lt_of_lt_of_le (show 120 < 2 ^ 7 by decide) (Nat.pow_le_pow_right (by decide) (by decide))
theorem pl_o {o : Option (Int × Int)} (h : ∀ e, o = some e → (-120 ≤ e.1 ∧ e.1 ≤ 120) ∧ 0 < e.2 ∧ e.2 ≤ 120) : ∃ d, Pl 3 1 (oP o) d := by
  cases o with
  | none => exact ⟨_, pl_non.mono (by decide) (by decide)⟩
  | some e =>
    have := h e rfl
    refine ⟨_, (pl_tI (ns := [e.1, e.2]) fun i hi => ?_)⟩
    simp only [List.mem_cons, List.mem_nil_iff, or_false] at hi
    rcases hi with rfl | rfl
    · exact sm_small this.1
    · exact sm_small ⟨by omega, this.2.2⟩
theorem tell_repr (h1 : Rule rs) (h2 : Rule os) (hr : r ≤ 6) : ∃ t, ∀ s, reprD s [tellD rs os r] = some (.str t) := by
  have l1 := h1.six
  have l2 := h2.six
  have hw : wdB rs os ≤ 6 := by unfold wdB; omega
  have pa : ∃ d, Pl 20 2 (abD rs os r) d := by
    unfold abD
    cases abN rs os r with
    | none => exact ⟨_, pl_non.mono (by decide) (by decide)⟩
    | some n =>
      refine ⟨_, (pl_tI (ns := toI (digs 2 (wdB rs os + r) n)) fun i hi => ?_).mono ?_ (by decide)⟩
      · obtain ⟨b, hb, rfl⟩ := List.mem_map.mp hi
        have := digs_bits b hb
        exact sm_small ⟨by omega, by omega⟩
      · rw [toI, List.length_map, digs_len]
        omega
  have pb : ∃ d, Pl 20 2 (suD (psL rs os r)) d := by
    unfold suD
    cases hsu : suitF (psL rs os r) with
    | none => exact ⟨_, pl_non.mono (by decide) (by decide)⟩
    | some q =>
      obtain ⟨a, b⟩ := q
      obtain ⟨d1, q1⟩ := pl_o (o := a) fun e he => end_rng h1 h2 (suit_le hsu e (.inl he)).2.1
      obtain ⟨d2, q2⟩ := pl_o (o := b) fun e he => end_rng h1 h2 (suit_le hsu e (.inr he)).2.1
      exact ⟨_, (pl_tup (pls_cons q1 (pls_cons q2 (pls_nil (k := 1))))).mono (by decide) (by decide)⟩
  obtain ⟨d1, pa⟩ := pa
  obtain ⟨d2, pb⟩ := pb
  have pl : Pl _ 3 (tellD rs os r) _ := pl_lst (pls_cons (pl_bl.mono (Nat.le_refl 1) (show 0 ≤ 2 by decide)) (pls_cons pa (pls_cons pb (pls_nil (k := 2)))))
  exact ⟨_, fun s => repr_lst pl (by decide) (by decide)⟩
variable {pre : Sto} {cs : List Int}
theorem head_eq {α : Type} {t : α → Bool} {l : List α} : l.find? t = (l.filter t).head? := by rw [List.head?_filter]
theorem pls_rows (hr : r ≤ 6) (hw : wdB rs os ≤ 6) : ∀ l : List Nat, ∃ n ds, Pls n 1 (l.map (rowD rs os r)) ds
  | [] => ⟨_, _, pls_nil⟩
  | x :: l => by
    obtain ⟨n, ds, h⟩ := pls_rows hr hw l
    refine ⟨_, _, pls_cons (pl_tI (ns := toI (digs 2 (wdB rs os + r) x)) fun i hi => ?_) h⟩
    obtain ⟨b, hb, rfl⟩ := List.mem_map.mp hi
    have := digs_bits b hb
    exact sm_small ⟨by omega, by omega⟩
theorem eq_rows_nil {s : Sto} (hr : r ≤ 6) (hw : wdB rs os ≤ 6) (l : List Nat) : eqD s (.lst (l.map (rowD rs os r))) (.lst []) = some (.bl (decide (l = []))) := by
  cases l with
  | nil => rfl
  | cons x l =>
    obtain ⟨n, ds, h⟩ := pls_rows hr hw (x :: l)
    have hl := pls_len h.to
    rw [List.length_map, List.length_cons] at hl
    cases ds with
    | nil => cases hl
    | cons d ds =>
      rw [eq_pl (w := .lst ((x :: l).map (rowD rs os r))) (v := .lst []) rfl rfl rfl (pl_lst h) (pl_lst (pls_nil (k := 0))) (by decide) (by decide)]
      rfl
theorem right_ok {l p : Int} (ho : ClP pre []) (hc : cs ≠ []) (hp : 0 ≤ p) (hp2 : p < 700000) (h1 : Rule rs) (h2 : Rule os) (hr : r ≤ 6) :
    ∃ l' p', g__law_right [.ref pre.length, tI rs, tI os, .int (r : Int)] (St pre [] cs l p) = .ok (.bl true) (St pre [] cs l' p') ∧ 0 ≤ p' ∧ p' ≤ p + 500 := by
  have l1 := h1.six
  have l2 := h2.six
  have hw : wdB rs os ≤ 6 := by unfold wdB; omega
  obtain ⟨t, ht⟩ := tell_repr h1 h2 hr
  obtain ⟨l', p', hres, q0, q1⟩ := results_right_ok (pre := pre) (cs := cs) (rs := rs) (os := os) (r := r) (l := l) (p := p) (b := (abN rs os r).isNone) (en := suitF (psL rs os r)) hc hp (by omega) h1 h2 hr (fun h => Option.isNone_iff_eq_none.mp h) fun o ho e he => by
    cases hsu : suitF (psL rs os r) with
    | none => rw [hsu] at ho; cases ho
    | some q =>
      obtain ⟨a, b⟩ := q
      rw [hsu] at ho
      have hab : a = some e ∨ b = some e := by
        have ho' : o ∈ [a, b] := ho
        simp only [List.mem_cons, List.mem_nil_iff, or_false] at ho'
        rcases ho' with rfl | rfl
        · exact .inl he
        · exact .inr he
      obtain ⟨e1, e2, e3⟩ := suit_le hsu e hab
      have := end_rng h1 h2 e2
      exact ⟨e1, by omega, fun n hn => e3 _ (List.mem_map_of_mem (List.mem_range.mpr hn))⟩
  have hs : Cl (St pre [] cs l p) := fun n => St_clean ho
  refine ⟨l', p', ?_, q0, q1⟩
  generalize hS : St pre [] cs l p = S at hs hres
  let E (x4 x5 x6 x7 x8 : Option Dv) : Env := [some (.ref pre.length), some (tI rs), some (tI os), some (.int (r : Int)), x4, x5, x6, x7, x8, none, none, none]
  have e0 : startD 12 [.ref pre.length, tI rs, tI os, .int (r : Int)] = E none none none none none := rfl
  let N := 2 ^ (wdB rs os + r)
  let P : Option Dv := some (.lst ((List.range N).map (triD rs os r)))
  let F := (List.range N).filter (isAb rs os r)
  let A : Option Dv := some (.lst (F.map (rowD rs os r)))
  have hN : N ≤ 4096 := Nat.pow_le_pow_right (show 0 < 2 by decide) (show wdB rs os + r ≤ 12 by omega)
  have hab : abN rs os r = F.head? := head_eq
  have c1 : mAsg (mCall (g__law_pairs) (mCons (mVar 1) (mCons (mVar 2) (mCons (mVar 3) mNil)))) (gN 4) (E none none none none none) S = .nx (E P none none none none) S :=
    asg_v (w := .lst ((List.range N).map (triD rs os r))) (call_v (cons_v (w := tI rs) rfl (cons_v (w := tI os) rfl (cons_v (w := .int (r : Int)) rfl nil_ev))) (law_pairs_ok hs h1 h2 hr))
  have c2 : mAsg (mComp cF__law_right_1 [9, 10, 11] ct__law_right_1 ci__law_right_1 ce__law_right_1) (gN 5) (E P none none none none) S = .nx (E P A none none none) S := by
    refine asg_v (w := .lst (F.map (rowD rs os r))) ?_
    refine comp_filt (e := triD rs os r) (rowD rs os r) (isAb rs os r) rfl (by rw [List.length_range]; unfold lim; omega) fun n _ => ⟨[some (.ref pre.length), some (tI rs), some (tI os), some (.int (r : Int)), P, none, none, none, none, some (.int (prF rs os r n).1), some (.int (prF rs os r n).2), some (rowD rs os r n)], rfl, test_v (bin_v (x := .int (prF rs os r n).1) (y := .int (prF rs os r n).2) rfl rfl rfl), fun _ => rfl⟩
  have hsuit : ∀ x5 x6 x7 x8, mCall (g__law_suit) (mCons (mVar 4) mNil) (E P x5 x6 x7 x8) S = .ok (suD (psL rs os r)) S := fun x5 x6 x7 x8 => by
    refine call_v (cons_v (w := .lst ((List.range N).map (triD rs os r))) rfl nil_ev) ?_
    have := law_suit_ok (s := S) (l := (List.range N).map fun n => (prF rs os r n, rowD rs os r n)) fun q hq => by
      obtain ⟨n, _, rfl⟩ := List.mem_map.mp hq
      have := prF_rng (r := r) h1 h2 n
      show -90000 ≤ (prF rs os r n).2 ∧ (prF rs os r n).2 ≤ 90000
      omega
    rw [List.map_map, List.map_map] at this
    exact this
  have c3 : mAsg (mLst (mCons (mBin eqD (mVar 5) (mLst mNil)) (mCons (mIf (mTest (mBin neD (mVar 5) (mLst mNil))) (mBin ixA (mVar 5) (mK (.int 0))) (mK .non)) (mCons (mCall (g__law_suit) (mCons (mVar 4) mNil)) mNil)))) (gN 6) (E P A none none none) S = .nx (E P A (some (tellD rs os r)) none none) S := by
    have hnil : mLst mNil (E P A none none none) S = .ok (.lst []) S := rfl
    have v1 : mBin eqD (mVar 5) (mLst mNil) (E P A none none none) S = .ok (.bl (abN rs os r).isNone) S := by
      refine bin_v (x := .lst (F.map (rowD rs os r))) (y := .lst []) rfl hnil ?_
      rw [eq_rows_nil hr hw, hab]
      congr 2
      cases F <;> rfl
    have u : mTest (mBin neD (mVar 5) (mLst mNil)) (E P A none none none) S = .ok (!decide (F = [])) S := test_v (bin_v (x := .lst (F.map (rowD rs os r))) (y := .lst []) rfl hnil (ne_of_eq (eq_rows_nil hr hw F)))
    have v2 : mIf (mTest (mBin neD (mVar 5) (mLst mNil))) (mBin ixA (mVar 5) (mK (.int 0))) (mK .non) (E P A none none none) S = .ok (abD rs os r) S := by
      unfold abD
      rw [hab]
      have hA : A = some (.lst (F.map (rowD rs os r))) := rfl
      generalize F = G at u hA ⊢
      cases G with
      | nil => exact if_vf u k_ev
      | cons n G => exact if_vt u (bin_v (x := .lst ((n :: G).map (rowD rs os r))) (y := .int ((0 : Nat) : Int)) (by rw [hA]; rfl) k_ev (ix_lst rfl))
    refine asg_v (w := tellD rs os r) ?_
    rw [lst_ev, cons_v v1 (cons_v v2 (cons_v (hsuit _ _ _ _) nil_ev))]
    rfl
  let T : Option Dv := some (tellD rs os r)
  have told : ∀ x7 x8, mLst (mCons (mCall g_never_above (mCons (mVar 1) (mCons (mVar 2) (mCons (mVar 3) mNil)))) (mCons (mCallK g_above_row (mCons (mVar 1) (mCons (mVar 2) mNil)) (mCons (mVar 3) mNil)) (mCons (mCall g_suits (mCons (mVar 1) (mCons (mVar 2) (mCons (mVar 3) mNil)))) mNil))) (E P A T x7 x8) S = .ok (tellD rs os r) S := fun x7 x8 => by
    rw [lst_ev, cons_v (w := .bl (abN rs os r).isNone) (call_v (cons_v (w := tI rs) rfl (cons_v (w := tI os) rfl (cons_v (w := .int (r : Int)) rfl nil_ev))) (never_ok hs h1 h2 hr)) (cons_v (w := abD rs os r) (callK_v (cons_v (w := tI rs) rfl (cons_v (w := tI os) rfl nil_ev)) (cons_v (w := .int (r : Int)) rfl nil_ev) (above_ok hs h1 h2 hr))
      (cons_v (w := suD (psL rs os r)) (call_v (cons_v (w := tI rs) rfl (cons_v (w := tI os) rfl (cons_v (w := .int (r : Int)) rfl nil_ev))) (suits_all hs h1 h2 hr)) nil_ev))]
    rfl
  have same : ∀ x7, mIfS (mTest (mBin neD (mBlt reprD (mCons (mVar 8) mNil)) (mBlt reprD (mCons (mVar 6) mNil)))) (mRet (mK (.bl false))) mNext (E P A T x7 T) S = .nx (E P A T x7 T) S := fun x7 => by
    rw [ifS_f (repr_ne (f := mVar 8) (g := mVar 6) (w := tellD rs os r) (w' := tellD rs os r) rfl rfl (ht S) (ht S))]
    rfl
  obtain ⟨ρ', s', f1, x7, x8, hρ, hs'⟩ := for_ix (F := F__law_right_1) (g := t__law_right_1) (body := b__law_right_1) (ρ := E P A T none none) (s := S) (s1 := S) (xs := rng 0 2)
    (fun i ρ s => ∃ x7 x8, ρ = E P A T x7 x8 ∧ s = S) (range1_ok (j := 2) (cons_v (w := .int 2) k_ev nil_ev) (by decide)) ⟨_, _, rfl, rfl⟩ fun i x ρ s hx ⟨x7, x8, hρ, hs2⟩ => by
      rw [hρ, hs2]
      refine ⟨E P A T (some x) x8, E P A T (some x) T, S, rfl, .inl ?_, _, _, rfl, rfl⟩
      unfold b__law_right_1
      exact seq_nx (asg_v (w := tellD rs os r) (told _ _)) (same _)
  rw [hρ, hs'] at f1
  have c5 : ∃ x8', mIfS (mTest (mBin eqD (mVar 3) (mK (.int 0)))) (mSeq (mAsg (mLst (mCons (mCallD 0 g_never_above (mCons (mVar 1) (mCons (mVar 2) mNil))) (mCons (mCallD 0 g_above_row (mCons (mVar 1) (mCons (mVar 2) mNil))) (mCons (mCallD 0 g_suits (mCons (mVar 1) (mCons (mVar 2) mNil))) mNil)))) (gN 8))
      (mIfS (mTest (mBin neD (mBlt reprD (mCons (mVar 8) mNil)) (mBlt reprD (mCons (mVar 6) mNil)))) (mRet (mK (.bl false))) mNext)) mNext (E P A T x7 x8) S = .nx (E P A T x7 x8') S := by
    have u : mTest (mBin eqD (mVar 3) (mK (.int 0))) (E P A T x7 x8) S = .ok (decide ((r : Int) = 0)) S := test_v (bin_v (x := .int (r : Int)) (y := .int 0) rfl k_ev eq_ii)
    by_cases h0 : (r : Int) = 0
    · rw [decide_eq_true h0] at u
      refine ⟨T, ?_⟩
      rw [ifS_t u]
      have hz : (0 : Int) = (r : Int) := h0.symm
      refine seq_nx (asg_v (w := tellD rs os r) ?_) (same _)
      rw [lst_ev, cons_v (w := .bl (abN rs os r).isNone) (callD_v (cons_v (w := tI rs) rfl (cons_v (w := tI os) rfl nil_ev)) (by rw [hz]; exact never_ok hs h1 h2 hr)) (cons_v (w := abD rs os r) (callD_v (cons_v (w := tI rs) rfl (cons_v (w := tI os) rfl nil_ev)) (by rw [hz]; exact above_ok hs h1 h2 hr))
        (cons_v (w := suD (psL rs os r)) (callD_v (cons_v (w := tI rs) rfl (cons_v (w := tI os) rfl nil_ev)) (by rw [hz]; exact suits_all hs h1 h2 hr)) nil_ev))]
      rfl
    · rw [decide_eq_false h0] at u
      exact ⟨x8, by rw [ifS_f u]; rfl⟩
  obtain ⟨x8', c5⟩ := c5
  unfold g__law_right d__law_right
  rw [den_ev, e0]
  have c6 : mRet (mCall (g__law_results_right) (mCons (mVar 0) (mCons (mVar 1) (mCons (mVar 2) (mCons (mVar 3) (mCons (mBin ixA (mVar 6) (mK (.int 0))) (mCons (mBin ixA (mVar 6) (mK (.int 2))) mNil))))))) (E P A T x7 x8') S = .rt (.bl true) (St pre [] cs l' p') := by
    refine ret_v (call_v (cons_v (w := .ref pre.length) rfl (cons_v (w := tI rs) rfl (cons_v (w := tI os) rfl (cons_v (w := .int (r : Int)) rfl (cons_v (w := .bl (abN rs os r).isNone) (bin_v (x := tellD rs os r) (y := .int ((0 : Nat) : Int)) rfl k_ev (ix_lst rfl)) (cons_v (w := suD (psL rs os r)) (bin_v (x := tellD rs os r) (y := .int ((2 : Nat) : Int)) rfl k_ev (ix_lst rfl)) nil_ev)))))) ?_)
    rw [suD_en]
    exact hres
  refine (congrArg (finC _) (seq_nx c1 (seq_nx c2 (seq_nx c3 (seq_nx f1 (seq_nx c5 c6)))))).trans ?_
  rw [← hS]
  exact fin_St
end
end MP.K44
set_option Elab.async false
set_option linter.all false
set_option maxRecDepth 100000
set_option maxHeartbeats 1000000
namespace MP.K44
open PySem PySem.Spec MP MP.PG
open PyProof.Rows hiding St
open L2 hiding St r1
def popC : Nat → Nat → Nat
  | 0, _ => 0
  | f + 1, n => n % 2 + popC f (n / 2)
theorem pop_C : ∀ (f n : Nat), n < 2 ^ f → pop n = popC f n
  | 0, n, h => by
    obtain rfl : n = 0 := by rw [Nat.pow_zero] at h; omega
    exact pop_0
  | f + 1, n, h => by
    rw [pop_eq n, pop_C f (n / 2) (by rw [Nat.pow_succ] at h; omega)]
    rfl
def prC (rs os : List Int) (r n : Nat) : Int × Int := (idb rs (popC 6 (n / 2 ^ r % 2 ^ rs.length)), idb os (popC 6 (n % 2 ^ os.length)))
section
variable {rs os : List Int} {r : Nat}
theorem prC_eq (h1 : Rule rs) (h2 : Rule os) : prF rs os r = prC rs os r := by
  funext n
  have a := h1.six
  have b := h2.six
  have p6 : ∀ k, k ≤ 6 → 2 ^ k ≤ 2 ^ 6 := fun k hk => Nat.pow_le_pow_right (by decide) hk
  unfold prF prC
  rw [pop_C 6 _ (Nat.lt_of_lt_of_le (Nat.mod_lt _ (Nat.pow_pos (by decide))) (p6 _ a)), pop_C 6 _ (Nat.lt_of_lt_of_le (Nat.mod_lt _ (Nat.pow_pos (by decide))) (p6 _ b))]
def abC (rs os : List Int) (r : Nat) : Option Nat := (List.range (2 ^ (wdB rs os + r))).find? fun n => decide ((prC rs os r n).2 < (prC rs os r n).1)
def psC (rs os : List Int) (r : Nat) : List (Int × Int) := (List.range (2 ^ (wdB rs os + r))).map (prC rs os r)
theorem abC_eq (h1 : Rule rs) (h2 : Rule os) : abN rs os r = abC rs os r := by
  unfold abN abC isAb
  rw [prC_eq h1 h2]
theorem psC_eq (h1 : Rule rs) (h2 : Rule os) : psL rs os r = psC rs os r := by
  unfold psL psC
  rw [prC_eq h1 h2]
theorem ru {rs : List Int} (h : (1 ≤ rs.length ∧ rs.length ≤ 6) ∧ ∀ i ∈ rs, -20 ≤ i ∧ i ≤ 20) : Rule rs := ⟨h.1.1, h.1.2, h.2⟩
variable {s : Sto} {ρ : Env} {fa : FA}
theorem nv (hs : Cl s) (ha : fa ρ s = .ok [tI rs, tI os, .int (r : Int)] s) (b : Bool) (h1 : Rule rs) (h2 : Rule os) (hr : r ≤ 6) (h : (abC rs os r).isNone = b) : mCall g_never_above fa ρ s = .ok (.bl b) s := by
  rw [← h, ← abC_eq h1 h2]
  exact call_v ha (never_ok hs h1 h2 hr)
theorem nv0 (hs : Cl s) (ha : fa ρ s = .ok [tI rs, tI os] s) (b : Bool) (h1 : Rule rs) (h2 : Rule os) (h : (abC rs os 0).isNone = b) : mCallD 0 g_never_above fa ρ s = .ok (.bl b) s := by
  rw [← h, ← abC_eq h1 h2]
  exact callD_v ha (never_ok (r := 0) hs h1 h2 (by decide))
theorem av (hs : Cl s) (ha : fa ρ s = .ok [tI rs, tI os, .int (r : Int)] s) (n : Nat) (h1 : Rule rs) (h2 : Rule os) (hr : r ≤ 6) (h : abC rs os r = some n) : mCall g_above_row fa ρ s = .ok (rowD rs os r n) s := by
  refine call_v ha ?_
  rw [above_ok hs h1 h2 hr]
  unfold abD
  rw [abC_eq h1 h2, h]
theorem av0 (hs : Cl s) (ha : fa ρ s = .ok [tI rs, tI os] s) (n : Nat) (h1 : Rule rs) (h2 : Rule os) (h : abC rs os 0 = some n) : mCallD 0 g_above_row fa ρ s = .ok (rowD rs os 0 n) s := by
  refine callD_v ha ((above_ok (r := 0) hs h1 h2 (by decide)).trans ?_)
  unfold abD
  rw [abC_eq h1 h2, h]
theorem sv (hs : Cl s) (ha : fa ρ s = .ok [tI rs, tI os, .int (r : Int)] s) (x : Option (Option (Int × Int) × Option (Int × Int))) (h1 : Rule rs) (h2 : Rule os) (hr : r ≤ 6) (h : suitF (psC rs os r) = x) : mCall g_suits fa ρ s = .ok (enD x) s := by
  refine call_v ha ?_
  rw [suits_all hs h1 h2 hr, suD_en, psC_eq h1 h2, h]
theorem sv0 (hs : Cl s) (ha : fa ρ s = .ok [tI rs, tI os] s) (x : Option (Option (Int × Int) × Option (Int × Int))) (h1 : Rule rs) (h2 : Rule os) (h : suitF (psC rs os 0) = x) : mCallD 0 g_suits fa ρ s = .ok (enD x) s := by
  refine callD_v ha ((suits_all (r := 0) hs h1 h2 (by decide)).trans ?_)
  rw [suD_en, psC_eq h1 h2, h]
theorem if_no {t : FT} {c : FS} (h : t ρ s = .ok false s) : mIfS t c mNext ρ s = .nx ρ s := by
  rw [ifS_f h]
  rfl
theorem ne_v {f g : FE} {x y : Dv} (h : f ρ s = .ok x s) (h2 : g ρ s = .ok y s) (e : neD s x y = some (.bl false)) : mTest (mBin neD f g) ρ s = .ok false s := test_v (bin_v h h2 e)
theorem hand_ok (hs : Cl s) : g__law_hand_right [] s = .ok (.bl true) s := by
  let A : List Int := [0, 0, 1]
  let B : List Int := [0, 1, 0]
  let C1 : List Int := [1, 0, 0]
  let D1 : List Int := [1]
  let U : List Int := [1, 1, 1]
  let E (x : Option Dv) : Env := [some (tI A), some (tI B), some (tI C1), some (tI D1), x]
  have e0 : startD 5 [] = [none, none, none, none, none] := rfl
  have rA : Rule A := ru (by decide)
  have rB : Rule B := ru (by decide)
  have rC : Rule C1 := ru (by decide)
  have rD : Rule D1 := ru (by decide)
  have rU : Rule U := ru (by decide)
  unfold g__law_hand_right d__law_hand_right
  rw [den_ev, e0]
  refine fin_nx (ρ1 := E none) rfl ?_
  let L1 : Dv := .lst [.bl true, .bl true, .bl false, .bl true]
  refine fin_nx (ρ1 := E (some L1)) (asg_v (w := L1) (lst_v (cons_v (nv0 (rs := C1) (os := B) hs rfl true rC rB (by decide +kernel)) (cons_v (nv0 (rs := B) (os := A) hs rfl true rB rA (by decide +kernel)) (cons_v (nv0 (rs := A) (os := B) hs rfl false rA rB (by decide +kernel)) (cons_v (nv0 (rs := D1) (os := A) hs rfl true rD rA (by decide +kernel)) nil_ev)))) (by show 4 ≤ 1000000; decide))) ?_
  refine fin_nx (if_no (or_f (ne_v (x := L1) (y := L1) rfl rfl rfl) (or_f (ne_v (y := tI [0, 0, 1]) (av0 (rs := A) (os := B) hs rfl 1 rA rB (by decide +kernel)) rfl rfl) (ne_v (y := tI [0, 0, 1]) (av0 (rs := D1) (os := C1) hs rfl 1 rD rC (by decide +kernel)) rfl rfl)))) ?_
  let L2 : Dv := .lst [.tup [.non, tP (1, 3)], .tup [.non, tP (1, 1)], .tup [.non, tP (0, 1)], .tup [tP (0, 1), .non], .non]
  have r0 : Rule [0] := ru (by decide)
  have rm : Rule [-1] := ru (by decide)
  refine fin_nx (ρ1 := E (some L2)) (asg_v (w := L2) (lst_v (cons_v (sv0 (rs := A) (os := U) hs rfl (some (none, some (1, 3))) rA rU (by decide +kernel)) (cons_v (sv0 (rs := U) (os := A) hs rfl (some (none, some (1, 1))) rU rA (by decide +kernel)) (cons_v (sv0 (rs := C1) (os := U) hs rfl (some (none, some (0, 1))) rC rU (by decide +kernel)) (cons_v (sv0 (rs := [0]) (os := [-1]) hs rfl (some (some (0, 1), none)) r0 rm (by decide +kernel)) (cons_v (sv0 (rs := [-1]) (os := [0]) hs rfl none rm r0 (by decide +kernel)) nil_ev))))) (by show 5 ≤ 1000000; decide))) ?_
  refine fin_nx (if_no (ne_v (x := L2) (y := L2) rfl rfl rfl)) ?_
  let L3 : Dv := .lst [.non, .tup [.non, tP (2, 3)], .tup [.non, .non], .tup [.non, tP (1, 1)], .tup [.non, tP (-1, 1)]]
  refine fin_nx (ρ1 := E (some L3)) (asg_v (w := L3) (lst_v (cons_v (sv0 (rs := [-2, 1]) (os := [1, -1]) hs rfl none (ru (by decide)) (ru (by decide)) (by decide +kernel)) (cons_v (sv0 (rs := [2]) (os := [3]) hs rfl (some (none, some (2, 3))) (ru (by decide)) (ru (by decide)) (by decide +kernel)) (cons_v (sv0 (rs := [0]) (os := [0]) hs rfl (some (none, none)) r0 r0 (by decide +kernel)) (cons_v (sv0 (rs := [1, 2]) (os := [-1, 2]) hs rfl (some (none, some (1, 1))) (ru (by decide)) (ru (by decide)) (by decide +kernel)) (cons_v (sv0 (rs := [-1]) (os := [1]) hs rfl (some (none, some (-1, 1))) rm rD (by decide +kernel)) nil_ev))))) (by show 5 ≤ 1000000; decide))) ?_
  refine fin_nx (if_no (ne_v (x := L3) (y := L3) rfl rfl rfl)) ?_
  let L4 : Dv := .lst [.bl true, .bl false, .bl true]
  refine fin_nx (ρ1 := E (some L4)) (asg_v (w := L4) (lst_v (cons_v (nv (rs := C1) (os := A) (r := 2) hs rfl true rC rA (by decide) (by decide +kernel)) (cons_v (nv (rs := C1) (os := A) (r := 3) hs rfl false rC rA (by decide) (by decide +kernel)) (cons_v (nv (rs := B) (os := A) (r := 1) hs rfl true rB rA (by decide) (by decide +kernel)) nil_ev))) (by show 3 ≤ 1000000; decide))) ?_
  refine fin_nx (if_no (or_f (ne_v (x := L4) (y := L4) rfl rfl rfl) (ne_v (x := rowD [1, 0, 0] [0, 0, 1] 3 56) (y := tI [1, 1, 1, 0, 0, 0]) (av (rs := [1, 0, 0]) (os := [0, 0, 1]) (r := 3) hs rfl 56 rC rA (by decide) (by decide +kernel)) rfl (by rfl)))) ?_
  refine fin_nx (if_no (or_f (test_v (bin_v (x := .non) (y := .non) (sv0 (rs := [-3, 1]) (os := [2, -1]) hs rfl none (ru (by decide)) (ru (by decide)) (by decide +kernel)) rfl rfl)) (ne_v (y := tI [1, 0, 0, 0, 0, 0, 0]) (av (rs := [1]) (os := [0]) (r := 6) hs rfl 64 rD r0 (by decide) (by decide +kernel)) rfl rfl))) ?_
  let L5 : Dv := .lst [.tup [.non, tP (0, 1)], .tup [.non, tP (1, 1)]]
  refine fin_nx (if_no (ne_v (x := L5) (y := L5) (lst_v (cons_v (sv (rs := [1]) (os := [1]) (r := 5) hs rfl (some (none, some (0, 1))) rD rD (by decide) (by decide +kernel)) (cons_v (sv0 (rs := [1, 1, 1, 1, 1, 1]) (os := [0, 0, 0, 0, 0, 1]) hs rfl (some (none, some (1, 1))) (ru (by decide)) (ru (by decide)) (by decide +kernel)) nil_ev)) (by show 2 ≤ 1000000; decide)) rfl rfl)) ?_
  have z1 : mBin eqD (mCall g_suits (mCons (mTup (mCons (mK (.int 0)) (mCons (mK (.int 2)) mNil))) (mCons (mTup (mCons (mK (.int 1)) (mCons (mK (.int 1)) mNil))) (mCons (mK (.int 1)) mNil)))) (mTup (mCons (mK .non) (mCons (mTup (mCons (mK (.int 0)) (mCons (mK (.int 1)) mNil))) mNil))) (E (some L4)) s = .ok (.bl true) s :=
    bin_v (x := .tup [.non, tP (0, 1)]) (y := .tup [.non, tP (0, 1)]) (sv (rs := [0, 2]) (os := [1, 1]) (r := 1) hs rfl (some (none, some (0, 1))) (ru (by decide)) (ru (by decide)) (by decide) (by decide +kernel)) rfl rfl
  have z2 : mCall g_never_above (mCons (mBin mulD (mTup (mCons (mUn negD (mK (.int 1))) mNil)) (mK (.int 6))) (mCons (mTup (mCons (mK (.int 0)) mNil)) (mCons (mK (.int 6)) mNil))) (E (some L4)) s = .ok (.bl true) s :=
    nv (rs := [-1, -1, -1, -1, -1, -1]) (os := [0]) (r := 6) hs rfl true (ru (by decide)) r0 (by decide) (by decide +kernel)
  rw [ret_v (w := .bl true) (by
    unfold mAndV
    rw [z1, bind_ok]
    exact z2)]
  exact finC_rt
end
end MP.K44
set_option Elab.async false
set_option linter.all false
set_option maxRecDepth 100000
set_option maxHeartbeats 1000000
namespace MP.K44
open PySem PySem.Spec MP MP.PG
open PyProof.Rows hiding St
open L2 hiding St r1
section
variable {pre : Sto} {cs : List Int}
/-- a drawn rule -/
theorem tune_ok {l p : Int} {m : Nat} (hc : cs ≠ []) (hp : 0 ≤ p) (hp2 : p < 900000) (hm : 1 ≤ m) (hm6 : m ≤ 6) : ∃ rs l' p', g__law_tune [.ref pre.length, .int (m : Int)] (St pre [] cs l p) = .ok (tI rs) (St pre [] cs l' p') ∧ 1 ≤ rs.length ∧ rs.length ≤ m ∧ (∀ r ∈ rs, -3 ≤ r ∧ r ≤ 5) ∧ 0 ≤ p' ∧ p' ≤ p + 10 := by
  let E (x2 : Option Dv) : Env := [some (.ref pre.length), some (.int (m : Int)), x2]
  have e0 : startD 3 [.ref pre.length, .int (m : Int)] = E none := rfl
  obtain ⟨d, l1, p1, d1, d0, d3, p10, p11⟩ := draw_v (pre := pre) (l := l) (many := (m : Int)) hc (by omega) (by omega) hp (by omega)
  obtain ⟨j, rfl⟩ := Int.eq_ofNat_of_zero_le d0
  have hF : cF__law_tune_1 (E none) (St pre [] cs l p) = .ok { ws := rng 0 (1 + j) } (St pre [] cs l1 p1) := by
    refine range1_ok (j := ((1 + j : Nat) : Int)) ?_ (okR_s (by omega) (by omega))
    refine cons_v (bin_v (x := .int 1) (y := .int (j : Int)) k_ev (call_v (cons_v (w := .ref pre.length) rfl (cons_v (w := .int (m : Int)) rfl nil_ev)) d1) ?_) nil_ev
    rw [add_ii, Int.natCast_add]
    rfl
  obtain ⟨zs, s', c1, c2, ns, l3, p3, rfl, rfl, r1, r2, r3, r4⟩ := comp_ix (vs := [2]) (g := ct__law_tune_1) (elt := ce__law_tune_1) (fun i acc s => ∃ (ns : List Int) (l3 p3 : Int), acc = ns.map .int ∧ s = St pre [] cs l3 p3 ∧ ns.length = i ∧ (∀ n ∈ ns, -3 ≤ n ∧ n ≤ 5) ∧ 0 ≤ p3 ∧ p3 ≤ p + 1 + i)
    hF (by rw [rng_len]; unfold lim; omega) ⟨[], l1, p1, rfl, rfl, rfl, fun _ h => (nomatch h), p10, by omega⟩ fun i x acc s hx hJ => by
      obtain ⟨ns, l3, p3, rfl, rfl, r1, r2, r3, r4⟩ := hJ
      obtain ⟨hi, rfl⟩ := rng_get hx
      have hi' : i < 1 + j := hi
      obtain ⟨a, l5, p5, d5, a0, a1, p50, p51⟩ := draw_v (pre := pre) (l := l3) (many := 9) hc (by decide) (by decide) r3 (by omega)
      refine ⟨E (some (.int (0 + (i : Int)))), .int (a - 3), St pre [] cs l5 p5, rfl, ?_, ns ++ [a - 3], l5, p5, by rw [List.map_append]; rfl, rfl, by rw [List.length_append, r1]; rfl, fun n hn => ?_, p50, by omega⟩
      · exact bin_v (x := .int a) (y := .int 3) (call_v (cons_v (w := .ref pre.length) rfl (cons_v (w := .int 9) rfl nil_ev)) d5) k_ev sub_ev
      · rcases List.mem_append.mp hn with h | h
        · exact r2 n h
        · rw [List.mem_singleton.mp h]; omega
  rw [rng_len] at r1 r4
  refine ⟨ns, l3, p3, ?_, by omega, by omega, r2, r3, by omega⟩
  unfold g__law_tune d__law_tune
  rw [den_ev, e0]
  refine (congrArg (finC _) (ret_v (blt_v (cons_v c1 nil_ev) tuple_lst))).trans ?_
  exact fin_St
/-- its weights, some of them one more -/
theorem more_ok {l p : Int} {rs : List Int} {x0 x1 x4 x5 x6 x7 : Option Dv} (hc : cs ≠ []) (hp : 0 ≤ p) (hp2 : p < 900000) (h6 : rs.length ≤ 6) (hr : ∀ r ∈ rs, -3 ≤ r ∧ r ≤ 5) :
    ∃ os l' p', mComp cF_law_1 [7] ct_law_1 ci_law_1 ce_law_1 [x0, x1, some (.ref pre.length), some (tI rs), x4, x5, x6, x7] (St pre [] cs l p) = .ok (lI os) (St pre [] cs l' p') ∧ os.length = rs.length ∧ (∀ r ∈ os, -3 ≤ r ∧ r ≤ 6) ∧ 0 ≤ p' ∧ p' ≤ p + 10 := by
  let E (x7 : Option Dv) : Env := [x0, x1, some (.ref pre.length), some (tI rs), x4, x5, x6, x7]
  have hF : cF_law_1 (E x7) (St pre [] cs l p) = .ok { ws := rs.map .int } (St pre [] cs l p) := rfl
  obtain ⟨zs, s', c1, c2, ns, l3, p3, rfl, rfl, r1, r2, r3, r4⟩ := comp_ix (vs := [7]) (g := ct_law_1) (elt := ce_law_1) (fun i acc s => ∃ (ns : List Int) (l3 p3 : Int), acc = ns.map .int ∧ s = St pre [] cs l3 p3 ∧ ns.length = i ∧ (∀ n ∈ ns, -3 ≤ n ∧ n ≤ 6) ∧ 0 ≤ p3 ∧ p3 ≤ p + i)
    hF (by rw [List.length_map]; unfold lim; omega) ⟨[], l, p, rfl, rfl, rfl, fun _ h => (nomatch h), hp, by omega⟩ fun i x acc s hx hJ => by
      obtain ⟨ns, l3, p3, rfl, rfl, r1, r2, r3, r4⟩ := hJ
      have hi : i < rs.length := by
        have := (List.getElem?_eq_some_iff.mp hx).1
        rwa [List.length_map] at this
      rw [List.getElem?_map, List.getElem?_eq_getElem hi] at hx
      cases hx
      have hb := hr rs[i] (List.getElem_mem hi)
      obtain ⟨a, l5, p5, d5, a0, a1, p50, p51⟩ := draw_v (pre := pre) (l := l3) (many := 2) hc (by decide) (by decide) r3 (by omega)
      refine ⟨E (some (.int rs[i])), .int (rs[i] + a), St pre [] cs l5 p5, rfl, ?_, ns ++ [rs[i] + a], l5, p5, by rw [List.map_append]; rfl, rfl, by rw [List.length_append, r1]; rfl, fun n hn => ?_, p50, by omega⟩
      · exact bin_v (x := .int rs[i]) (y := .int a) rfl (call_v (cons_v (w := .ref pre.length) rfl (cons_v (w := .int 2) rfl nil_ev)) d5) add_ii
      · rcases List.mem_append.mp hn with h | h
        · exact r2 n h
        · rw [List.mem_singleton.mp h]; omega
  rw [List.length_map] at r1 r4
  exact ⟨ns, l3, p3, c1, r1, r2, r3, by omega⟩
end
theorem pair_repr {rs os : List Int} (h1 : rs.length ≤ 6) (h2 : os.length ≤ 6) (hr : ∀ r ∈ rs, -120 ≤ r ∧ r ≤ 120) (ho : ∀ r ∈ os, -120 ≤ r ∧ r ≤ 120) : ∃ t, ∀ s, reprD s [.lst [tI rs, tI os]] = some (.str t) := by
  have p1 := pl_tI (ns := rs) fun i hi => sm_small (hr i hi)
  have p2 := pl_tI (ns := os) fun i hi => sm_small (ho i hi)
  have pl : Pl _ 2 (.lst [tI rs, tI os]) _ := pl_lst (pls_cons (p1.mono (show _ ≤ 7 by omega) (Nat.le_refl 1)) (pls_cons (p2.mono (show _ ≤ 7 by omega) (Nat.le_refl 1)) (pls_nil (k := 1))))
  exact ⟨_, fun s => repr_lst pl (by decide) (by decide)⟩
theorem fact (ns : List Int) (hn : ns.length ≤ 63) : ∃ s', g_law [.sq (ns.map .int)] [] = .ok (.bl true) s' := by
  let Sc : Option Dv := some (.sq (ns.map .int))
  let E (x1 x2 x3 x4 x5 x6 x7 : Option Dv) : Env := [Sc, x1, x2, x3, x4, x5, x6, x7]
  have e0 : startD 8 [.sq (ns.map .int)] = E none none none none none none none := rfl
  have hlen : min ns.length 6 ≤ 6 := Nat.min_le_right _ _
  obtain ⟨ρ', s', f1, hcl, hρ⟩ := for_ix (F := F_law_1) (g := t_law_1) (body := b_law_1) (ρ := E none none none none none none none) (s := []) (s1 := []) (xs := rng 0 (3 + min ns.length 6))
    (fun i ρ s => Cl s ∧ ∃ x1 x2 x3 x4 x5 x6 x7, ρ = E x1 x2 x3 x4 x5 x6 x7) (by
      refine range1_ok (j := ((3 + min ns.length 6 : Nat) : Int)) (cons_v (bin_v (x := .int 3) (y := .int ((min ns.length 6 : Nat) : Int)) k_ev (blt_v (cons_v (w := .int (ns.length : Int)) (blt_v (cons_v (w := .sq (ns.map .int)) rfl nil_ev) (by rw [len_sq, List.length_map])) (cons_v (w := .int 6) k_ev nil_ev)) ?_) ?_) nil_ev) (okR_s (by omega) (by omega))
      · show some (Dv.int (if (6 : Int) < (ns.length : Int) then 6 else (ns.length : Int))) = _
        congr 2
        split <;> omega
      · rw [add_ii, Int.natCast_add]
        rfl) ⟨fun _ => rfl, _, _, _, _, _, _, _, rfl⟩ fun i x ρ s hx ⟨hcl, x1, x2, x3, x4, x5, x6, x7, hρ⟩ => by
      subst hρ
      obtain ⟨hi, rfl⟩ := rng_get hx
      have hi9 : i < 3 + min ns.length 6 := hi
      rw [Int.zero_add]
      let K : Option Dv := some (.int (i : Int))
      have ho : ClP s [] := fun n => ⟨hcl n, rfl⟩
      obtain ⟨l0, hb⟩ := begun_ok (pre := s) (ns := ns) (k := i) hn (by omega)
      generalize hcs : cellsOf ns i ++ [37 * (i : Int) + 11] = cs at hb
      have hc : cs ≠ [] := by rw [← hcs]; simp
      have a1 : mAsg (mCall (g__law_begun) (mCons (mVar 0) (mCons (mVar 1) mNil))) (gN 2) (E K x2 x3 x4 x5 x6 x7) s = .nx (E K (some (.ref s.length)) x3 x4 x5 x6 x7) (St s [] cs l0 0) :=
        asg_v (w := .ref s.length) (call_v (cons_v (w := .sq (ns.map .int)) rfl (cons_v (w := .int (i : Int)) rfl nil_ev)) hb)
      let M : Option Dv := some (.ref s.length)
      obtain ⟨rs, l1, p1, t1, r11, r12, r13, q10, q11⟩ := tune_ok (pre := s) (cs := cs) (l := l0) (p := 0) (m := 3) hc (by decide) (by decide) (by decide) (by decide)
      obtain ⟨os0, l2, p2, t2, r21, r22, r23, q20, q21⟩ := tune_ok (pre := s) (cs := cs) (l := l1) (p := p1) (m := 3) hc q10 (by omega) (by decide) (by decide)
      have tv : ∀ {x3 x4 : Option Dv} {S S2 : Sto} {w : Dv}, g__law_tune [.ref s.length, .int ((3 : Nat) : Int)] S = .ok w S2 → mCall (g__law_tune) (mCons (mVar 2) (mCons (mK (.int 3)) mNil)) (E K M x3 x4 x5 x6 x7) S = .ok w S2 := fun h => call_v (cons_v (w := .ref s.length) rfl (cons_v (w := .int 3) rfl nil_ev)) h
      have a2 : mPar 3 4 (mCons (mCall (g__law_tune) (mCons (mVar 2) (mCons (mK (.int 3)) mNil))) (mCons (mCall (g__law_tune) (mCons (mVar 2) (mCons (mK (.int 3)) mNil))) mNil)) (E K M x3 x4 x5 x6 x7) (St s [] cs l0 0) = .nx (E K M (some (tI rs)) (some (tI os0)) x5 x6 x7) (St s [] cs l2 p2) := by
        rw [par_ev, tv t1, then_ok, tv t2, then_ok]
        rfl
      obtain ⟨d, l3, p3, d3, d0, d2, q30, q31⟩ := draw_v (pre := s) (cs := cs) (l := l2) (p := p2) (many := 3) hc (by decide) (by decide) q20 (by omega)
      have u3 : mTest (mBin eqD (mCall (g__law_draw) (mCons (mVar 2) (mCons (mK (.int 3)) mNil))) (mK (.int 0))) (E K M (some (tI rs)) (some (tI os0)) x5 x6 x7) (St s [] cs l2 p2) = .ok (decide (d = 0)) (St s [] cs l3 p3) :=
        test_v (bin_v (x := .int d) (y := .int 0) (call_v (cons_v (w := .ref s.length) rfl (cons_v (w := .int 3) rfl nil_ev)) d3) k_ev eq_ii)
      have a3 : ∃ os l4 p4, mIfS (mTest (mBin eqD (mCall (g__law_draw) (mCons (mVar 2) (mCons (mK (.int 3)) mNil))) (mK (.int 0)))) (mAsg (mBlt tupleD (mCons (mComp cF_law_1 [7] ct_law_1 ci_law_1 ce_law_1) mNil)) (gN 4)) mNext (E K M (some (tI rs)) (some (tI os0)) x5 x6 x7) (St s [] cs l2 p2) = .nx (E K M (some (tI rs)) (some (tI os)) x5 x6 x7) (St s [] cs l4 p4) ∧ 1 ≤ os.length ∧ os.length ≤ 3 ∧ (∀ r ∈ os, -3 ≤ r ∧ r ≤ 6) ∧ 0 ≤ p4 ∧ p4 ≤ 100 := by
        by_cases h0 : d = 0
        · rw [decide_eq_true h0] at u3
          obtain ⟨os, l4, p4, m1, m2, m3, m4, m5⟩ := more_ok (pre := s) (cs := cs) (l := l3) (p := p3) (rs := rs) (x0 := Sc) (x1 := K) (x4 := some (tI os0)) (x5 := x5) (x6 := x6) (x7 := x7) hc q30 (by omega) (by omega) r13
          exact ⟨os, l4, p4, (ifS_t u3).trans (asg_v (w := tI os) (blt_v (cons_v m1 nil_ev) tuple_lst)), by omega, by omega, m3, m4, by omega⟩
        · rw [decide_eq_false h0] at u3
          exact ⟨os0, l3, p3, (ifS_f u3).trans rfl, r21, r22, fun r hr => by have := r23 r hr; omega, q30, by omega⟩
      obtain ⟨os, l4, p4, a3, o1, o2, o3, q40, q41⟩ := a3
      have R1 : Rule rs := ⟨r11, by omega, fun r hr => by have := r13 r hr; omega⟩
      have R2 : Rule os := ⟨o1, by omega, fun r hr => by have := o3 r hr; omega⟩
      obtain ⟨t, ht⟩ := pair_repr (rs := rs) (os := os) (by omega) (by omega) (fun r hr => by have := r13 r hr; omega) fun r hr => by have := o3 r hr; omega
      obtain ⟨c, l5, p5, d5, c0, c4, q50, q51⟩ := draw_v (pre := s) (cs := cs) (l := l4) (p := p4) (many := 4) hc (by decide) (by decide) q40 (by omega)
      obtain ⟨r, rfl⟩ := Int.eq_ofNat_of_zero_le c0
      let E1 := E K M (some (tI rs)) (some (tI os)) (some (.str t)) (some (.int (r : Int))) x7
      have lv : ∀ (x5 x6 : Option Dv) (S : Sto), mLst (mCons (mVar 3) (mCons (mVar 4) mNil)) (E K M (some (tI rs)) (some (tI os)) x5 x6 x7) S = .ok (.lst [tI rs, tI os]) S := fun _ _ _ => rfl
      have a4 : mPar 5 6 (mCons (mBlt reprD (mCons (mLst (mCons (mVar 3) (mCons (mVar 4) mNil))) mNil)) (mCons (mCall (g__law_draw) (mCons (mVar 2) (mCons (mK (.int 4)) mNil))) mNil)) (E K M (some (tI rs)) (some (tI os)) x5 x6 x7) (St s [] cs l4 p4) = .nx E1 (St s [] cs l5 p5) := by
        rw [par_ev, blt_v (z := .str t) (cons_v (lv _ _ _) nil_ev) (ht _), then_ok, call_v (d := g__law_draw) (cons_v (w := .ref s.length) rfl (cons_v (w := .int 4) rfl nil_ev)) d5, then_ok]
        rfl
      obtain ⟨l6, p6, g1, q60, q61⟩ := right_ok (pre := s) (cs := cs) (l := l5) (p := p5) (rs := rs) (os := os) (r := r) ho hc q50 (by omega) R1 R2 (by omega)
      obtain ⟨l7, p7, g2, q70, q71⟩ := right_ok (pre := s) (cs := cs) (l := l6) (p := p6) (rs := os) (os := rs) (r := 0) ho hc q60 (by omega) R2 R1 (by omega)
      have w1 : mTest (mCall (g__law_right) (mCons (mVar 2) (mCons (mVar 3) (mCons (mVar 4) (mCons (mVar 6) mNil))))) E1 (St s [] cs l5 p5) = .ok true (St s [] cs l6 p6) :=
        test_v (call_v (cons_v (w := .ref s.length) rfl (cons_v (w := tI rs) rfl (cons_v (w := tI os) rfl (cons_v (w := .int (r : Int)) rfl nil_ev)))) g1)
      have w2 : mTest (mCall (g__law_right) (mCons (mVar 2) (mCons (mVar 4) (mCons (mVar 3) (mCons (mK (.int 0)) mNil))))) E1 (St s [] cs l6 p6) = .ok true (St s [] cs l7 p7) :=
        test_v (call_v (cons_v (w := .ref s.length) rfl (cons_v (w := tI os) rfl (cons_v (w := tI rs) rfl (cons_v (w := .int 0) rfl nil_ev)))) g2)
      have w3 : mTest (mBin neD (mBlt reprD (mCons (mLst (mCons (mVar 3) (mCons (mVar 4) mNil))) mNil)) (mVar 5)) E1 (St s [] cs l7 p7) = .ok false (St s [] cs l7 p7) :=
        test_v (bin_v (x := .str t) (y := .str t) (blt_v (cons_v (lv _ _ _) nil_ev) (ht _)) rfl ne_refl_ss)
      refine ⟨E K x2 x3 x4 x5 x6 x7, E1, St s [] cs l7 p7, rfl, .inl ?_, fun n => St_clean ho, _, _, _, _, _, _, _, rfl⟩
      unfold b_law_1
      refine seq_nx a1 (seq_nx a2 (seq_nx a3 (seq_nx a4 ?_)))
      rw [ifS_f (or_f (not_vt w1) (or_f (not_vt w2) w3))]
      rfl
  obtain ⟨x1, x2, x3, x4, x5, x6, x7, hρ⟩ := hρ
  rw [hρ] at f1
  refine ⟨[], ?_⟩
  unfold g_law d_law
  rw [den_ev, e0]
  refine (congrArg (finC _) (seq_nx f1 (ret_v (w := .bl true) (call_v (fa := mNil) (ws := []) nil_ev (hand_ok hcl))))).trans ?_
  cases s' <;> rfl
end MP.K44
set_option Elab.async false
set_option linter.all false
set_option maxRecDepth 100000
open PySem PySem.W PyProof.Rows
set_option maxHeartbeats 0 in
theorem PySem.Challenge.cw_bestoflast_k44_whole_rules_beside_holds : PySem.Challenge.rw_bestoflast_k44_whole_rules_beside.Holds := by
  w_on; o_law; k_head; (case hw => w_witness2)
  k_fill
  refine MP.walk_GTs (l := PySem.Challenge.rw_bestoflast_k44_whole_rules_beside) (n := 63) (k := 7) (x := "script") (ys := []) (qs := []) rfl (by decide) rfl ⟨rfl, by decide, by decide⟩ (fun w h Y => PySem.W.kIn_of Y) ?Y ?F
  case Y =>
    intro y hy
    exact absurd hy (by simp)
  case F =>
    intro w mg fa h KX G hmg
    refine' MP.K44.all_mk KX G hmg ?gg0 ?a0 ?l0 ?c0 ?k0 ?a1 ?l1 ?c1 ?k1 ?a2 ?l2 ?c2 ?k2 ?a3 ?l3 ?c3 ?k3 ?a4 ?l4 ?c4 ?k4 ?a5 ?l5 ?c5 ?k5 ?a6 ?l6 ?c6 ?k6 ?a7 ?l7 ?c7 ?k7 ?a8 ?l8 ?c8 ?k8 ?a9 ?l9 ?c9 ?k9 ?a10 ?l10 ?c10 ?k10 ?a11 ?l11 ?c11 ?k11 ?a12 ?l12 ?dd12 ?c12 ?k12 ?a13 ?l13 ?dd13 ?c13 ?k13 ?a14 ?l14 ?c14 ?k14 ?a15 ?l15 ?dd15 ?c15 ?k15 ?a16 ?l16 ?c16 ?k16 ?a17 ?l17 ?c17 ?k17 ?a18 ?l18 ?c18 ?k18 ?a19 ?l19 ?c19 ?k19 ?a20 ?l20 ?c20 ?k20 ?a21 ?l21 ?c21 ?k21 ?a22 ?l22 ?c22 ?k22 ?a23 ?l23 ?c23 ?k23 ?a24 ?l24 ?c24 ?k24 ?a25 ?l25 ?c25 ?k25 ?a26 ?l26 ?c26 ?k26 ?a27 ?l27 ?c27 ?k27 ?a28 ?l28 ?c28 ?k28 ?a29 ?l29 ?c29 ?k29 ?z0 ?z1 ?z2 ?z3 ?z4 ?z5 ?z6 ?z7 ?z8 ?z9 ?z10 ?z11 ?z12 ?z13 ?z14 ?v0 ?w0 ?v1 ?v2 ?v3  MP.K44.fact
    (case gg0 => k_is)
    (case a0 => k_is)
    (case l0 => k_is)
    (case c0 => k_is)
    (case k0 => k_is)
    (case a1 => k_is)
    (case l1 => k_is)
    (case c1 => k_is)
    (case k1 => k_is)
    (case a2 => k_is)
    (case l2 => k_is)
    (case c2 => k_is)
    (case k2 => k_is)
    (case a3 => k_is)
    (case l3 => k_is)
    (case c3 => k_is)
    (case k3 => k_is)
    (case a4 => k_is)
    (case l4 => k_is)
    (case c4 => k_is)
    (case k4 => k_is)
    (case a5 => k_is)
    (case l5 => k_is)
    (case c5 => k_is)
    (case k5 => k_is)
    (case a6 => k_is)
    (case l6 => k_is)
    (case c6 => k_is)
    (case k6 => k_is)
    (case a7 => k_is)
    (case l7 => k_is)
    (case c7 => k_is)
    (case k7 => k_is)
    (case a8 => k_is)
    (case l8 => k_is)
    (case c8 => k_is)
    (case k8 => k_is)
    (case a9 => k_is)
    (case l9 => k_is)
    (case c9 => k_is)
    (case k9 => k_is)
    (case a10 => k_is)
    (case l10 => k_is)
    (case c10 => k_is)
    (case k10 => k_is)
    (case a11 => k_is)
    (case l11 => k_is)
    (case c11 => k_is)
    (case k11 => k_is)
    (case a12 => k_is)
    (case l12 => k_is)
    (case dd12 => k_is)
    (case c12 => k_is)
    (case k12 => k_is)
    (case a13 => k_is)
    (case l13 => k_is)
    (case dd13 => k_is)
    (case c13 => k_is)
    (case k13 => k_is)
    (case a14 => k_is)
    (case l14 => k_is)
    (case c14 => k_is)
    (case k14 => k_is)
    (case a15 => k_is)
    (case l15 => k_is)
    (case dd15 => k_is)
    (case c15 => k_is)
    (case k15 => k_is)
    (case a16 => k_is)
    (case l16 => k_is)
    (case c16 => k_is)
    (case k16 => k_is)
    (case a17 => k_is)
    (case l17 => k_is)
    (case c17 => k_is)
    (case k17 => k_is)
    (case a18 => k_is)
    (case l18 => k_is)
    (case c18 => k_is)
    (case k18 => k_is)
    (case a19 => k_is)
    (case l19 => k_is)
    (case c19 => k_is)
    (case k19 => k_is)
    (case a20 => k_is)
    (case l20 => k_is)
    (case c20 => k_is)
    (case k20 => k_is)
    (case a21 => k_is)
    (case l21 => k_is)
    (case c21 => k_is)
    (case k21 => k_is)
    (case a22 => k_is)
    (case l22 => k_is)
    (case c22 => k_is)
    (case k22 => k_is)
    (case a23 => k_is)
    (case l23 => k_is)
    (case c23 => k_is)
    (case k23 => k_is)
    (case a24 => k_is)
    (case l24 => k_is)
    (case c24 => k_is)
    (case k24 => k_is)
    (case a25 => k_is)
    (case l25 => k_is)
    (case c25 => k_is)
    (case k25 => k_is)
    (case a26 => k_is)
    (case l26 => k_is)
    (case c26 => k_is)
    (case k26 => k_is)
    (case a27 => k_is)
    (case l27 => k_is)
    (case c27 => k_is)
    (case k27 => k_is)
    (case a28 => k_is)
    (case l28 => k_is)
    (case c28 => k_is)
    (case k28 => k_is)
    (case a29 => k_is)
    (case l29 => k_is)
    (case c29 => k_is)
    (case k29 => k_is)
    (case z0 => k_is)
    (case z1 => k_is)
    (case z2 => k_is)
    (case z3 => k_is)
    (case z4 => k_is)
    (case z5 => k_is)
    (case z6 => k_is)
    (case z7 => k_is)
    (case z8 => k_is)
    (case z9 => k_is)
    (case z10 => k_is)
    (case z11 => k_is)
    (case z12 => k_is)
    (case z13 => k_is)
    (case z14 => k_is)
    (case v0 => k_is)
    (case w0 => first | rfl | kernel_rfl)
    (case v1 => k_is)
    (case v2 => k_is)
    (case v3 => k_is)
