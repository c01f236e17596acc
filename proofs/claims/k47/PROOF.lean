import PyProof.Rows.All
import Wide.All
import OpenK.AllK
import Wide.FinOn
import HandS.ForMost
import HandS.ForExc
import HandS.WideBits
import HandS.Wide
import HandS.TupAny
import HandS.IsInst
import HandS.SortInts
import HandS.CallSlots
import HandS.MakeKw
import HandS.Flow
import HandS.ExcInit
import HandS.ExcValue
import HandS.Lambda
import KE.KDictKeyed
import HandS.TupMul
import KE.GoesNew
import KE.GoesMore
import KE.GoesEnum
import HandS.SetFor
import HandS.Strs
import HandS.Style
import KE.DataMinMax
import HandS.SortKw
import HandS.Zip
import KE.KDictZip
import HandS.ExcIs
import HandS.ExcField
import KE.KExcIs
import HandS.TryMany
import KE.KDflt
import HandS.EndTab
import HandS.TryOnly
import PyProof.EqAt
import PyProof.NeKinds
import HandS.StrMore
import HandS.FStr
import HandS.RaiseMore
import KE.GoesEnumKw
import HandS.Text
import PyProof.StrLaws
import PyProof.StrLawsRepr
import PyProof.StrBlock2
import KE.KExcInit
import HandS.Property
import HandS.Star
import HandS.MakeKwOnly
import OpenK.KOps
import OpenK.KMeth
import HandS.Conv
import HandS.RevRange
import HandS.Dict
import HandS.Flt
import HandS.Deep
import KE.KDictCopyH
import KE.KEqDict
import KE.KDictPairs
import HandS.TupSets
import HandS.Gcd
import KE.SortData
import HandS.Finally
import HandS.HotCalls
import KE.KWithOwn
import KE.KIsAll
import PyProof.InstEq
import HandS.ReplaceLit
import HandS.ReplaceDef
import KE.KTabLook
import HandS.Defaults
import HandS.RaiseOp
import HandS.ExcBuiltin
import HandS.BoundDict
import HandS.HeadWalk
import HandS.HeadEnd
import PySem.Challenge.RW_bestoflast_k47_whole_rules_told_back
set_option Elab.async false
set_option linter.all false
set_option maxRecDepth 100000
set_option maxHeartbeats 4000000
namespace MP
open PySem PySem.Spec PyProof.Rows L2
inductive Dv where
  | non | bl (b : Bool) | int (i : Int) | str (x : Str) | ty (n : String) | cl (c : Nat) | ref (n : Nat)
  | tup (ws : List Dv) | lst (ws : List Dv) | sq (ws : List Dv) | dct (ks : List Key) (ws : List Dv) | dtt (kd ws : List Dv) | exc (c : Nat) (f : Str) (w : Dv) | exn (c : Nat) | clo (a c : Addr) (q : Str) (ws : List Dv) (vs : List V)
  deriving Inhabited
inductive Ob where
  | lst (ws : List Dv) | dct (kws : List (Key × Dv)) | dtt (fr : Bool) (kws : List (Dv × Dv)) | obj (c : Nat) (fs : List (Str × Dv)) | tab (n : Nat) (q : Str)
  deriving Inhabited
abbrev Sto := List Ob
abbrev Env := List (Option Dv)
mutual
/-- an int, a tuple of ints and such tuples: as a key of a dict -/
def nk : Dv → Option PySem.NestedKey
  | .int i => some (.num i)
  | .tup ws => (nks ws).map .tup
  | _ => none
def nks : List Dv → Option (List PySem.NestedKey)
  | [] => some []
  | w :: ws => match nk w, nks ws with
    | some k, some ks => some (k :: ks)
    | _, _ => none
end
/-- what a dict's object tells: its keys, each with what stands for it, and its values -/
def DTf (a : Addr) (kvs : List (PySem.NestedKey × V × V)) : Heap → Prop := fun h => (a == sysModules) = false ∧ kvs.length ≤ sizeLine ∧ (∀ p ∈ kvs, p.1.depth ≤ 8) ∧
  ∃ xs : List (PySem.NestedKey × Addr × Value), Paired (fun (p : PySem.NestedKey × V × V) (q : PySem.NestedKey × Addr × Value) => p.1 = q.1 ∧ p.2.1 = .ref q.2.1 ∧ RelV p.2.2 q.2.2) kvs xs ∧
    ∃ (o : Obj) (es : Array DictEntry) (ep : Nat), h.get? a = some o ∧ o.ExactDict ∧ o.data = .dict es ep ∧ (∀ (P : Program) (w : World), es.toList = xs.map (entryOfKey (nestedKind P w))) ∧ (xs.map (·.1)).Nodup
abbrev DTO (a : Addr) (kvs : List (PySem.NestedKey × V × V)) : HO := .ext (DTf a kvs)
/-- such a dict stands at a, to be written or not any more -/
def HD (H : Hp) (a : Addr) (fr : Bool) (kvs : List (PySem.NestedKey × V × V)) : Prop := if fr = true then ∃ od, H a = some (.frz od (DTO a kvs)) else H a = some (DTO a kvs)
theorem HD.eq {H H' : Hp} {a : Addr} {fr : Bool} {kvs : List (PySem.NestedKey × V × V)} (h : HD H a fr kvs) (e : H' a = H a) : HD H' a fr kvs := by
  unfold HD at *
  rw [e]
  exact h
theorem HD.some {H : Hp} {a : Addr} {fr : Bool} {kvs : List (PySem.NestedKey × V × V)} (h : HD H a fr kvs) : H a ≠ none := by
  unfold HD at h
  split at h
  · obtain ⟨od, h⟩ := h
    rw [h]
    intro z; cases z
  · rw [h]
    intro z; cases z
/-- keys and values, told by data -/
def KVs (kd ws : List Dv) (kvs : List (PySem.NestedKey × V × V)) : Prop := kd.map nk = kvs.map (fun p => Option.some p.1) ∧ ws.length = kvs.length
structure Ex where
  c : Nat
  f : Str
  w : Dv
inductive R (α : Type) where
  | ok (a : α) (s : Sto) | er (x : Ex) (s : Sto) | no
def R.bind {α β : Type} (r : R α) (k : α → Sto → R β) : R β := match r with
  | .ok a s => k a s | .er x s => .er x s | .no => .no
inductive C where
  | nx (ρ : Env) (s : Sto) | rt (w : Dv) (s : Sto) | bk (ρ : Env) (s : Sto) | ct (ρ : Env) (s : Sto) | er (x : Ex) (ρ : Env) (s : Sto) | no
abbrev FE := Env → Sto → R Dv
abbrev FT := Env → Sto → R Bool
abbrev FA := Env → Sto → R (List Dv)
abbrev FS := Env → Sto → C
abbrev Fn := List Dv → Sto → R Dv
def lim : Nat := 16000000
abbrev Mu := Nat → Option Addr
/-- what is fixed: the written part, the classes of exceptions, the tables of code objects -/
structure Ct where
  K : PySem.W.Frag
  cls : Nat → Addr
  tb : Nat → Addr
abbrev Zs := Addr → Prop
def Fz (μ : Mu) (Z : Zs) (a : Addr) : Prop := (∀ n, μ n ≠ some a) ∧ ¬ Z a
def KL (K : PySem.W.Frag) (a : Addr) (xs : List V) : Prop := ∃ (o : Obj) (its : Array Value) (n : Nat), K.lookup a = some o ∧ o.cls = .type "list" ∧ o.dict = none ∧ o.data = .seq its n ∧ its.size ≤ sizeLine ∧ Vals xs its.toList
def KT (K : PySem.W.Frag) (a : Addr) (xs : List V) : Prop := ∃ (o : Obj) (its : Array Value) (n : Nat), K.lookup a = some o ∧ o.cls = .type "tuple" ∧ o.data = .seq its n ∧ its.size ≤ sizeLine ∧ Vals xs its.toList
def AtL (K : PySem.W.Frag) (H : Hp) (μ : Mu) (Z : Zs) (a : Addr) (xs : List V) : Prop := (Rd H a (.lst xs) ∧ Fz μ Z a) ∨ KL K a xs
def AtT (K : PySem.W.Frag) (H : Hp) (μ : Mu) (Z : Zs) (a : Addr) (xs : List V) : Prop := (Rd H a (.tup xs) ∧ Fz μ Z a) ∨ KT K a xs
theorem AtL.sq {K : PySem.W.Frag} {H : Hp} {μ : Mu} {Z : Zs} {a : Addr} {xs : List V} (h : AtL K H μ Z a xs) : SqL K H a xs := h.elim (fun z => .inl z.1) .inr
theorem AtT.sq {K : PySem.W.Frag} {H : Hp} {μ : Mu} {Z : Zs} {a : Addr} {xs : List V} (h : AtT K H μ Z a xs) : SqT K H a xs := h.elim (fun z => .inl z.1) .inr
structure Evo (H : Hp) (μ : Mu) (H' : Hp) (μ' : Mu) : Prop where
  keep : ∀ a o, H a = some o → (∀ n, μ n ≠ some a) → H' a = some o
  mu : ∀ n a, μ n = some a → μ' n = some a
  new : ∀ n a, μ' n = some a → μ n = some a ∨ H a = none
  stay : ∀ n a, μ n = some a → H a ≠ none → H' a ≠ none
section
variable {H H1 H' : Hp} {μ μ1 μ' : Mu} {Z : Zs} {a : Addr} {o : HO} {xs : List V} {K : PySem.W.Frag}
theorem Evo.refl : Evo H μ H μ := ⟨fun _ _ h _ => h, fun _ _ h => h, fun _ _ h => .inl h, fun _ _ _ h => h⟩
theorem Evo.alive (e : Evo H μ H' μ') (h : H a ≠ none) : H' a ≠ none := by
  by_cases hm : ∃ n, μ n = some a
  · obtain ⟨n, hn⟩ := hm
    exact e.stay n a hn h
  · cases q : H a with
    | none => exact absurd q h
    | some o => rw [e.keep a o q (fun n hn => hm ⟨n, hn⟩)]; intro z; cases z
theorem Evo.fz (e : Evo H μ H' μ') (h : H a ≠ none) (f : Fz μ Z a) : Fz μ' Z a := ⟨fun n hn => by
  rcases e.new n a hn with q | q
  · exact f.1 n q
  · exact h q, f.2⟩
theorem Evo.trans (e : Evo H μ H1 μ1) (f : Evo H1 μ1 H' μ') : Evo H μ H' μ' where
  keep := fun a o h hn => by
    have h1 := e.keep a o h hn
    exact f.keep a o h1 fun n q => by
      rcases e.new n a q with z | z
      · exact hn n z
      · rw [h] at z; cases z
  mu := fun n a h => f.mu n a (e.mu n a h)
  new := fun n a h => by
    rcases f.new n a h with q | q
    · exact e.new n a q
    · right
      cases z : H a with
      | none => rfl
      | some o => exact absurd q (e.alive (by rw [z]; intro y; cases y))
  stay := fun n a h q => f.alive (e.alive q)
theorem Rd.alive (h : Rd H a o) : H a ≠ none := by
  rcases h with h | ⟨_, h⟩ <;> (rw [h]; intro z; cases z)
theorem Rd.evo (e : Evo H μ H' μ') (h : Rd H a o) (f : Fz μ Z a) : Rd H' a o := by
  rcases h with h | ⟨u, h⟩
  · exact .inl (e.keep _ _ h f.1)
  · exact .inr ⟨u, e.keep _ _ h f.1⟩
theorem AtL.mono (e : Evo H μ H' μ') (h : AtL K H μ Z a xs) : AtL K H' μ' Z a xs := h.elim (fun ⟨r, f⟩ => .inl ⟨Rd.evo e r f, e.fz (Rd.alive r) f⟩) .inr
theorem AtT.mono (e : Evo H μ H' μ') (h : AtT K H μ Z a xs) : AtT K H' μ' Z a xs := h.elim (fun ⟨r, f⟩ => .inl ⟨Rd.evo e r f, e.fz (Rd.alive r) f⟩) .inr
/-- a new object -/
theorem Evo.laid {p : Addr} (hp : H p = none) : Evo H μ (upd H p o) μ where
  keep := fun a o h _ => by rw [upd_ne (ne_of_none h hp)]; exact h
  mu := fun _ _ h => h
  new := fun _ _ h => .inl h
  stay := fun n a _ h => by
    by_cases e : a = p
    · subst e; exact absurd hp h
    · rw [upd_ne e]; exact h
end
/-- an exception of the class at C, held as a value; its dict is at dx -/
def ExK (a C dx : Addr) : HO := .ext fun h => ∃ (oe : Obj) (vs : Array Value), h.get? a = some oe ∧ Zc (.ref C) (some dx) oe ∧ oe.data = .fields vs
mutual
def RV (Γ : Ct) (H : Hp) (μ : Mu) (Z : Zs) : Dv → V → Prop
  | .non, v => v = .non
  | .bl b, v => v = .bl b
  | .int i, v => v = .int i
  | .str x, v => v = .str x
  | .ty n, v => v = .ty n
  | .cl c, v => v = .ref (Γ.cls c)
  | .ref n, v => ∃ a, v = .ref a ∧ μ n = some a
  | .tup ws, v => ∃ a xs, v = .ref a ∧ AtT Γ.K H μ Z a xs ∧ RVs Γ H μ Z ws xs
  | .lst ws, v => ∃ a xs, v = .ref a ∧ H a = some (.lst xs) ∧ Fz μ Z a ∧ RVs Γ H μ Z ws xs
  | .sq ws, v => ∃ a xs, v = .ref a ∧ AtL Γ.K H μ Z a xs ∧ RVs Γ H μ Z ws xs
  | .dct ks ws, v => ∃ a kvs, v = .ref a ∧ H a = some (.dK kvs) ∧ Fz μ Z a ∧ kvs.map (·.1) = ks ∧ RVs Γ H μ Z ws (kvs.map (·.2))
  | .dtt kd ws, v => ∃ a kvs, v = .ref a ∧ HD H a true kvs ∧ Fz μ Z a ∧ KVs kd ws kvs ∧ RVs Γ H μ Z kd (kvs.map (·.2.1)) ∧ RVs Γ H μ Z ws (kvs.map (·.2.2))
  | .exc c f w, v => ∃ a dx x, v = .ref a ∧ H a = some (ExK a (Γ.cls c) dx) ∧ Fz μ Z a ∧ H dx = some (.xd [(f, x)]) ∧ Fz μ Z dx ∧ RV Γ H μ Z w x
  | .exn c, v => ∃ a, v = .ref a ∧ H a = some (ExO (.ref (Γ.cls c)) a) ∧ Fz μ Z a
  | .clo a c q ws vs, v => v = .ref a ∧ H c = some (LamX.CodeO c q) ∧ Fz μ Z c ∧ RVs Γ H μ Z ws vs
def RVs (Γ : Ct) (H : Hp) (μ : Mu) (Z : Zs) : List Dv → List V → Prop
  | [], vs => vs = []
  | w :: ws, vs => ∃ x xs, vs = x :: xs ∧ RV Γ H μ Z w x ∧ RVs Γ H μ Z ws xs
end
section
variable {Γ : Ct} {H H1 H' : Hp} {μ μ1 μ' : Mu} {Z Z' : Zs}
mutual
theorem RV.mono (e : Evo H μ H' μ') : ∀ (w : Dv) {v : V}, RV Γ H μ Z w v → RV Γ H' μ' Z w v
  | .non, _, h => h
  | .bl _, _, h => h
  | .int _, _, h => h
  | .str _, _, h => h
  | .ty _, _, h => h
  | .cl _, _, h => h
  | .ref n, _, h => by
    obtain ⟨a, h1, h2⟩ := h
    exact ⟨a, h1, e.mu n a h2⟩
  | .tup ws, _, h => by
    obtain ⟨a, xs, h1, h2, h3⟩ := h
    exact ⟨a, xs, h1, h2.mono e, RVs.mono e ws h3⟩
  | .lst ws, _, h => by
    obtain ⟨a, xs, h1, h2, h3, h4⟩ := h
    exact ⟨a, xs, h1, e.keep _ _ h2 h3.1, e.fz (by rw [h2]; intro z; cases z) h3, RVs.mono e ws h4⟩
  | .sq ws, _, h => by
    obtain ⟨a, xs, h1, h2, h3⟩ := h
    exact ⟨a, xs, h1, h2.mono e, RVs.mono e ws h3⟩
  | .dct ks ws, _, h => by
    obtain ⟨a, kvs, h1, h2, h3, h4, h5⟩ := h
    exact ⟨a, kvs, h1, e.keep _ _ h2 h3.1, e.fz (by rw [h2]; intro z; cases z) h3, h4, RVs.mono e ws h5⟩
  | .dtt kd ws, _, h => by
    obtain ⟨a, kvs, h1, h2, h3, h4, h5, h6⟩ := h
    exact ⟨a, kvs, h1, let ⟨od, z⟩ := h2; ⟨od, e.keep _ _ z h3.1⟩, e.fz h2.some h3, h4, RVs.mono e kd h5, RVs.mono e ws h6⟩
  | .exc c f w, _, h => by
    obtain ⟨a, dx, x, h1, h2, h3, h4, h5, h6⟩ := h
    exact ⟨a, dx, x, h1, e.keep _ _ h2 h3.1, e.fz (by rw [h2]; intro z; cases z) h3, e.keep _ _ h4 h5.1, e.fz (by rw [h4]; intro z; cases z) h5, RV.mono e w h6⟩
  | .exn c, _, h => by
    obtain ⟨a, h1, h2, h3⟩ := h
    exact ⟨a, h1, e.keep _ _ h2 h3.1, e.fz (by rw [h2]; intro z; cases z) h3⟩
  | .clo a c q ws vs, _, h => by
    obtain ⟨h1, h2, h3, h4⟩ := h
    exact ⟨h1, e.keep _ _ h2 h3.1, e.fz (by rw [h2]; intro z; cases z) h3, RVs.mono e ws h4⟩
theorem RVs.mono (e : Evo H μ H' μ') : ∀ (ws : List Dv) {vs : List V}, RVs Γ H μ Z ws vs → RVs Γ H' μ' Z ws vs
  | [], _, h => h
  | w :: ws, _, h => by
    obtain ⟨x, xs, h1, h2, h3⟩ := h
    exact ⟨x, xs, h1, RV.mono e w h2, RVs.mono e ws h3⟩
end
/-- what is hidden may change -/
structure EvoZ (Z : Zs) (H : Hp) (μ : Mu) (H' : Hp) (μ' : Mu) : Prop where
  keep : ∀ a o, H a = some o → (∀ n, μ n ≠ some a) → ¬ Z a → H' a = some o
  mu : ∀ n a, μ n = some a → μ' n = some a
  new : ∀ n a, μ' n = some a → μ n = some a ∨ H a = none
  live : ∀ a, H a ≠ none → H' a ≠ none
theorem Evo.z {H H' : Hp} {μ μ' : Mu} {Z : Zs} (e : Evo H μ H' μ') : EvoZ Z H μ H' μ' := ⟨fun a o h hn _ => e.keep a o h hn, e.mu, e.new, fun _ h => e.alive h⟩
theorem EvoZ.more {H H' : Hp} {μ μ' : Mu} {Z Z' : Zs} (h : ∀ a, Z a → Z' a) (e : EvoZ Z H μ H' μ') : EvoZ Z' H μ H' μ' := ⟨fun a o q hn z => e.keep a o q hn fun y => z (h a y), e.mu, e.new, e.live⟩
theorem EvoZ.trans {H H1 H' : Hp} {μ μ1 μ' : Mu} {Z : Zs} (e : EvoZ Z H μ H1 μ1) (f : EvoZ Z H1 μ1 H' μ') : EvoZ Z H μ H' μ' where
  keep := fun a o h hn z => by
    have h1 := e.keep a o h hn z
    exact f.keep a o h1 (fun n q => by
      rcases e.new n a q with y | y
      · exact hn n y
      · rw [h] at y; cases y) z
  mu := fun n a h => f.mu n a (e.mu n a h)
  new := fun n a h => by
    rcases f.new n a h with q | q
    · exact e.new n a q
    · right
      cases z : H a with
      | none => rfl
      | some o => exact absurd q (e.live a (by rw [z]; intro y; cases y))
  live := fun a h => f.live a (e.live a h)
theorem EvoZ.fz {H H' : Hp} {μ μ' : Mu} {Z : Zs} {a : Addr} (e : EvoZ Z H μ H' μ') (h : H a ≠ none) (f : Fz μ Z a) : Fz μ' Z a := ⟨fun n hn => by
  rcases e.new n a hn with q | q
  · exact f.1 n q
  · exact h q, f.2⟩
theorem Rd.evoZ {H H' : Hp} {μ μ' : Mu} {Z : Zs} {a : Addr} {o : HO} (e : EvoZ Z H μ H' μ') (h : Rd H a o) (f : Fz μ Z a) : Rd H' a o := by
  rcases h with h | ⟨u, h⟩
  · exact .inl (e.keep _ _ h f.1 f.2)
  · exact .inr ⟨u, e.keep _ _ h f.1 f.2⟩
theorem AtL.monoZ {K : PySem.W.Frag} {H H' : Hp} {μ μ' : Mu} {Z : Zs} {a : Addr} {xs : List V} (e : EvoZ Z H μ H' μ') (h : AtL K H μ Z a xs) : AtL K H' μ' Z a xs := h.elim (fun ⟨r, f⟩ => .inl ⟨Rd.evoZ e r f, e.fz (Rd.alive r) f⟩) .inr
theorem AtT.monoZ {K : PySem.W.Frag} {H H' : Hp} {μ μ' : Mu} {Z : Zs} {a : Addr} {xs : List V} (e : EvoZ Z H μ H' μ') (h : AtT K H μ Z a xs) : AtT K H' μ' Z a xs := h.elim (fun ⟨r, f⟩ => .inl ⟨Rd.evoZ e r f, e.fz (Rd.alive r) f⟩) .inr
mutual
theorem RV.monoZ (e : EvoZ Z H μ H' μ') : ∀ (w : Dv) {v : V}, RV Γ H μ Z w v → RV Γ H' μ' Z w v
  | .non, _, h => h
  | .bl _, _, h => h
  | .int _, _, h => h
  | .str _, _, h => h
  | .ty _, _, h => h
  | .cl _, _, h => h
  | .ref n, _, h => by
    obtain ⟨a, h1, h2⟩ := h
    exact ⟨a, h1, e.mu n a h2⟩
  | .tup ws, _, h => by
    obtain ⟨a, xs, h1, h2, h3⟩ := h
    exact ⟨a, xs, h1, h2.monoZ e, RVs.monoZ e ws h3⟩
  | .lst ws, _, h => by
    obtain ⟨a, xs, h1, h2, h3, h4⟩ := h
    exact ⟨a, xs, h1, e.keep _ _ h2 h3.1 h3.2, e.fz (by rw [h2]; intro z; cases z) h3, RVs.monoZ e ws h4⟩
  | .sq ws, _, h => by
    obtain ⟨a, xs, h1, h2, h3⟩ := h
    exact ⟨a, xs, h1, h2.monoZ e, RVs.monoZ e ws h3⟩
  | .dct ks ws, _, h => by
    obtain ⟨a, kvs, h1, h2, h3, h4, h5⟩ := h
    exact ⟨a, kvs, h1, e.keep _ _ h2 h3.1 h3.2, e.fz (by rw [h2]; intro z; cases z) h3, h4, RVs.monoZ e ws h5⟩
  | .dtt kd ws, _, h => by
    obtain ⟨a, kvs, h1, h2, h3, h4, h5, h6⟩ := h
    exact ⟨a, kvs, h1, let ⟨od, z⟩ := h2; ⟨od, e.keep _ _ z h3.1 h3.2⟩, e.fz h2.some h3, h4, RVs.monoZ e kd h5, RVs.monoZ e ws h6⟩
  | .exc c f w, _, h => by
    obtain ⟨a, dx, x, h1, h2, h3, h4, h5, h6⟩ := h
    exact ⟨a, dx, x, h1, e.keep _ _ h2 h3.1 h3.2, e.fz (by rw [h2]; intro z; cases z) h3, e.keep _ _ h4 h5.1 h5.2, e.fz (by rw [h4]; intro z; cases z) h5, RV.monoZ e w h6⟩
  | .exn c, _, h => by
    obtain ⟨a, h1, h2, h3⟩ := h
    exact ⟨a, h1, e.keep _ _ h2 h3.1 h3.2, e.fz (by rw [h2]; intro z; cases z) h3⟩
  | .clo a c q ws vs, _, h => by
    obtain ⟨h1, h2, h3, h4⟩ := h
    exact ⟨h1, e.keep _ _ h2 h3.1 h3.2, e.fz (by rw [h2]; intro z; cases z) h3, RVs.monoZ e ws h4⟩
theorem RVs.monoZ (e : EvoZ Z H μ H' μ') : ∀ (ws : List Dv) {vs : List V}, RVs Γ H μ Z ws vs → RVs Γ H' μ' Z ws vs
  | [], _, h => h
  | w :: ws, _, h => by
    obtain ⟨x, xs, h1, h2, h3⟩ := h
    exact ⟨x, xs, h1, RV.monoZ e w h2, RVs.monoZ e ws h3⟩
end
theorem Fz.weak {a : Addr} (h : ∀ a, Z a → Z' a) (f : Fz μ Z' a) : Fz μ Z a := ⟨f.1, fun z => f.2 (h a z)⟩
mutual
theorem RV.weak (h : ∀ a, Z a → Z' a) : ∀ (w : Dv) {v : V}, RV Γ H μ Z' w v → RV Γ H μ Z w v
  | .non, _, q => q
  | .bl _, _, q => q
  | .int _, _, q => q
  | .str _, _, q => q
  | .ty _, _, q => q
  | .cl _, _, q => q
  | .ref n, _, q => q
  | .tup ws, _, q => by
    obtain ⟨a, xs, h1, h2, h3⟩ := q
    exact ⟨a, xs, h1, h2.elim (fun z => .inl ⟨z.1, z.2.weak h⟩) .inr, RVs.weak h ws h3⟩
  | .lst ws, _, q => by
    obtain ⟨a, xs, h1, h2, h3, h4⟩ := q
    exact ⟨a, xs, h1, h2, h3.weak h, RVs.weak h ws h4⟩
  | .sq ws, _, q => by
    obtain ⟨a, xs, h1, h2, h3⟩ := q
    exact ⟨a, xs, h1, h2.elim (fun z => .inl ⟨z.1, z.2.weak h⟩) .inr, RVs.weak h ws h3⟩
  | .dct ks ws, _, q => by
    obtain ⟨a, kvs, h1, h2, h3, h4, h5⟩ := q
    exact ⟨a, kvs, h1, h2, h3.weak h, h4, RVs.weak h ws h5⟩
  | .dtt kd ws, _, q => by
    obtain ⟨a, kvs, h1, h2, h3, h4, h5, h6⟩ := q
    exact ⟨a, kvs, h1, h2, h3.weak h, h4, RVs.weak h kd h5, RVs.weak h ws h6⟩
  | .exc c f w, _, q => by
    obtain ⟨a, dx, x, h1, h2, h3, h4, h5, h6⟩ := q
    exact ⟨a, dx, x, h1, h2, h3.weak h, h4, h5.weak h, RV.weak h w h6⟩
  | .exn c, _, q => by
    obtain ⟨a, h1, h2, h3⟩ := q
    exact ⟨a, h1, h2, h3.weak h⟩
  | .clo a c _ ws vs, _, q => by
    obtain ⟨h1, h2, h3, h4⟩ := q
    exact ⟨h1, h2, h3.weak h, RVs.weak h ws h4⟩
theorem RVs.weak (h : ∀ a, Z a → Z' a) : ∀ (ws : List Dv) {vs : List V}, RVs Γ H μ Z' ws vs → RVs Γ H μ Z ws vs
  | [], _, q => q
  | w :: ws, _, q => by
    obtain ⟨x, xs, h1, h2, h3⟩ := q
    exact ⟨x, xs, h1, RV.weak h w h2, RVs.weak h ws h3⟩
end
/-- under a reserved address all may change -/
theorem Fz.evoZ {p a : Addr} (f : Fz μ (fun b => b = p ∨ Z b) a) : a ≠ p := fun e => f.2 (.inl e)
mutual
theorem RV.updZ {p : Addr} {o : HO} : ∀ (w : Dv) {v : V}, RV Γ H μ (fun b => b = p ∨ Z b) w v → RV Γ (upd H p o) μ (fun b => b = p ∨ Z b) w v
  | .non, _, q => q
  | .bl _, _, q => q
  | .int _, _, q => q
  | .str _, _, q => q
  | .ty _, _, q => q
  | .cl _, _, q => q
  | .ref n, _, q => q
  | .tup ws, _, q => by
    obtain ⟨a, xs, h1, h2, h3⟩ := q
    refine ⟨a, xs, h1, ?_, RVs.updZ ws h3⟩
    rcases h2 with ⟨h2, f⟩ | h2
    · refine .inl ⟨?_, f⟩
      unfold Rd
      rw [upd_ne f.evoZ]
      exact h2
    · exact .inr h2
  | .lst ws, _, q => by
    obtain ⟨a, xs, h1, h2, h3, h4⟩ := q
    exact ⟨a, xs, h1, by rw [upd_ne h3.evoZ]; exact h2, h3, RVs.updZ ws h4⟩
  | .sq ws, _, q => by
    obtain ⟨a, xs, h1, h2, h3⟩ := q
    refine ⟨a, xs, h1, ?_, RVs.updZ ws h3⟩
    rcases h2 with ⟨h2, f⟩ | h2
    · refine .inl ⟨?_, f⟩
      unfold Rd
      rw [upd_ne f.evoZ]
      exact h2
    · exact .inr h2
  | .dct ks ws, _, q => by
    obtain ⟨a, kvs, h1, h2, h3, h4, h5⟩ := q
    exact ⟨a, kvs, h1, by rw [upd_ne h3.evoZ]; exact h2, h3, h4, RVs.updZ ws h5⟩
  | .dtt kd ws, _, q => by
    obtain ⟨a, kvs, h1, h2, h3, h4, h5, h6⟩ := q
    exact ⟨a, kvs, h1, h2.eq (upd_ne h3.evoZ), h3, h4, RVs.updZ kd h5, RVs.updZ ws h6⟩
  | .exc c f w, _, q => by
    obtain ⟨a, dx, x, h1, h2, h3, h4, h5, h6⟩ := q
    exact ⟨a, dx, x, h1, by rw [upd_ne h3.evoZ]; exact h2, h3, by rw [upd_ne h5.evoZ]; exact h4, h5, RV.updZ w h6⟩
  | .exn c, _, q => by
    obtain ⟨a, h1, h2, h3⟩ := q
    exact ⟨a, h1, by rw [upd_ne h3.evoZ]; exact h2, h3⟩
  | .clo a c _ ws vs, _, q => by
    obtain ⟨h1, h2, h3, h4⟩ := q
    exact ⟨h1, by rw [upd_ne h3.evoZ]; exact h2, h3, RVs.updZ ws h4⟩
theorem RVs.updZ {p : Addr} {o : HO} : ∀ (ws : List Dv) {vs : List V}, RVs Γ H μ (fun b => b = p ∨ Z b) ws vs → RVs Γ (upd H p o) μ (fun b => b = p ∨ Z b) ws vs
  | [], _, q => q
  | w :: ws, _, q => by
    obtain ⟨x, xs, h1, h2, h3⟩ := q
    exact ⟨x, xs, h1, RV.updZ w h2, RVs.updZ ws h3⟩
end
theorem RVs.nil : RVs Γ H μ Z [] [] := rfl
theorem RVs.cons {w : Dv} {ws : List Dv} {x : V} {xs : List V} (h : RV Γ H μ Z w x) (t : RVs Γ H μ Z ws xs) : RVs Γ H μ Z (w :: ws) (x :: xs) := ⟨x, xs, rfl, h, t⟩
theorem RVs.len : ∀ {ws : List Dv} {xs : List V}, RVs Γ H μ Z ws xs → xs.length = ws.length
  | [], _, h => by rw [show _ = [] from h]; rfl
  | w :: ws, _, h => by
    obtain ⟨x, xs, rfl, _, h3⟩ := h
    rw [List.length_cons, List.length_cons, RVs.len h3]
theorem RVs.get : ∀ {ws : List Dv} {xs : List V} {i : Nat} {w : Dv}, RVs Γ H μ Z ws xs → ws[i]? = some w → ∃ x, xs[i]? = some x ∧ RV Γ H μ Z w x
  | [], _, _, _, _, e => by cases e
  | a :: ws, _, 0, w, h, e => by
    obtain ⟨x, xs, rfl, h2, _⟩ := h
    cases e
    exact ⟨x, rfl, h2⟩
  | a :: ws, _, i + 1, w, h, e => by
    obtain ⟨x, xs, rfl, _, h3⟩ := h
    obtain ⟨y, e1, e2⟩ := RVs.get (i := i) (w := w) h3 (by simpa using e)
    exact ⟨y, by simpa using e1, e2⟩
theorem RVs.append : ∀ {ws us : List Dv} {xs ys : List V}, RVs Γ H μ Z ws xs → RVs Γ H μ Z us ys → RVs Γ H μ Z (ws ++ us) (xs ++ ys)
  | [], _, _, _, h, q => by rw [show _ = [] from h]; exact q
  | a :: ws, _, _, _, h, q => by
    obtain ⟨x, xs, rfl, h2, h3⟩ := h
    exact RVs.cons h2 (RVs.append h3 q)
theorem RVs.drop : ∀ {ws : List Dv} {xs : List V} (n : Nat), RVs Γ H μ Z ws xs → RVs Γ H μ Z (ws.drop n) (xs.drop n)
  | _, _, 0, h => h
  | [], _, _ + 1, h => by rw [show _ = [] from h]; exact rfl
  | _ :: ws, _, n + 1, h => by
    obtain ⟨x, xs, rfl, _, h3⟩ := h
    exact RVs.drop n h3
theorem RVs.take : ∀ {ws : List Dv} {xs : List V} (n : Nat), RVs Γ H μ Z ws xs → RVs Γ H μ Z (ws.take n) (xs.take n)
  | _, _, 0, _ => rfl
  | [], _, _ + 1, h => by rw [show _ = [] from h]; exact rfl
  | _ :: ws, _, n + 1, h => by
    obtain ⟨x, xs, rfl, h2, h3⟩ := h
    exact RVs.cons h2 (RVs.take n h3)
theorem RVs.ints : ∀ {ns : List Int} {xs : List V}, RVs Γ H μ Z (ns.map .int) xs → xs = ns.map .int
  | [], _, h => h
  | n :: ns, _, h => by
    obtain ⟨x, xs, rfl, h2, h3⟩ := h
    rw [show x = V.int n from h2, RVs.ints h3]
    rfl
theorem RVs.of_ints : ∀ (ns : List Int), RVs Γ H μ Z (ns.map .int) (ns.map .int)
  | [] => rfl
  | n :: ns => RVs.cons rfl (RVs.of_ints ns)
theorem RVs.rep {ws : List Dv} {xs : List V} (h : RVs Γ H μ Z ws xs) : ∀ k : Nat, RVs Γ H μ Z (List.replicate k ws).flatten (List.replicate k xs).flatten
  | 0 => rfl
  | k + 1 => by
    rw [List.replicate_succ, List.replicate_succ, List.flatten_cons, List.flatten_cons]
    exact RVs.append h (RVs.rep h k)
end
def RO (Γ : Ct) (H : Hp) (μ : Mu) (Z : Zs) (a : Addr) : Ob → Prop
  | .lst ws => ∃ xs, H a = some (.lst xs) ∧ RVs Γ H μ Z ws xs
  | .dct kws => ∃ kvs, H a = some (.dK kvs) ∧ kvs.map (·.1) = kws.map (·.1) ∧ RVs Γ H μ Z (kws.map (·.2)) (kvs.map (·.2))
  | .dtt fr kws => ∃ kvs, HD H a fr kvs ∧ KVs (kws.map (·.1)) (kws.map (·.2)) kvs ∧ RVs Γ H μ Z (kws.map (·.1)) (kvs.map (·.2.1)) ∧ RVs Γ H μ Z (kws.map (·.2)) (kvs.map (·.2.2))
  | .obj c fs => ∃ dx kvs, H a = some (.ins (Γ.cls c) dx kvs) ∧ kvs.map (·.1) = fs.map (·.1) ∧ RVs Γ H μ Z (fs.map (·.2)) (kvs.map (·.2))
  | .tab n q => a = Γ.tb n ∧ ∃ ps : Array Value, H a = some (.tbl ps) ∧ TriplesOk ps.toList ∧ ∀ (pos : Pos) (cv : Value), codeAmong pos ps.toList = some cv → ∃ c, cv = .ref c ∧ H c = some (LamX.CodeO c q) ∧ Fz μ Z c
theorem tab_imp {H H' : Hp} {μ μ' : Mu} {Z Z' : Zs} {a : Addr} {q : Str} (hH : H' a = H a) (k : ∀ c, H c = some (LamX.CodeO c q) → Fz μ Z c → H' c = some (LamX.CodeO c q) ∧ Fz μ' Z' c)
    (h : ∃ ps : Array Value, H a = some (.tbl ps) ∧ TriplesOk ps.toList ∧ ∀ (pos : Pos) (cv : Value), codeAmong pos ps.toList = some cv → ∃ c, cv = .ref c ∧ H c = some (LamX.CodeO c q) ∧ Fz μ Z c) :
    ∃ ps : Array Value, H' a = some (.tbl ps) ∧ TriplesOk ps.toList ∧ ∀ (pos : Pos) (cv : Value), codeAmong pos ps.toList = some cv → ∃ c, cv = .ref c ∧ H' c = some (LamX.CodeO c q) ∧ Fz μ' Z' c := by
  obtain ⟨ps, h1, h2, h3⟩ := h
  refine ⟨ps, hH.trans h1, h2, fun pos cv e => ?_⟩
  obtain ⟨c, e1, e2, e3⟩ := h3 pos cv e
  exact ⟨c, e1, k c e2 e3⟩
structure Rep (Γ : Ct) (H : Hp) (μ : Mu) (Z : Zs) (s : Sto) : Prop where
  «at» : ∀ (n : Nat) (o : Ob), s[n]? = some o → ∃ a, μ n = some a ∧ ¬ Z a ∧ RO Γ H μ Z a o
  inj : ∀ n m a, μ n = some a → μ m = some a → n = m
  dom : ∀ n a, μ n = some a → n < s.length
  za : ∀ a, Z a → H a ≠ none
def RE (Γ : Ct) (H : Hp) (μ : Mu) (Z : Zs) (ρ : Env) (σ : L2.St) : Prop := ρ.length = σ.length ∧ ∀ (i : Nat) (w : Dv), ρ[i]? = some (some w) → ∃ v, σ[i]? = some (some v) ∧ RV Γ H μ Z w v
/-- an exception on its way: its class, its dict -/
def RX (Γ : Ct) (H : Hp) (μ : Mu) (Z : Zs) (x : Ex) (cls : Value) (d : Option Addr) : Prop := (x.c = 99 ∧ cls = .type "KeyError") ∨ (x.c ≠ 99 ∧ cls = .ref (Γ.cls x.c) ∧ ∃ dd v, d = some dd ∧ H dd = some (.xd [(x.f, v)]) ∧ Fz μ Z dd ∧ RV Γ H μ Z x.w v)
section
variable {Γ : Ct} {H H1 H' : Hp} {μ μ1 μ' : Mu} {Z Z' : Zs} {ρ : Env} {σ : L2.St} {s : Sto} {p : Addr} {o : HO}
theorem RE.mono (e : Evo H μ H' μ') (h : RE Γ H μ Z ρ σ) : RE Γ H' μ' Z ρ σ := ⟨h.1, fun i w q => by
  obtain ⟨v, h1, h2⟩ := h.2 i w q
  exact ⟨v, h1, h2.mono e⟩⟩
theorem RE.set {w : Dv} {v : V} (i : Nat) (h : RE Γ H μ Z ρ σ) (r : RV Γ H μ Z w v) : RE Γ H μ Z (ρ.set i (some w)) (σ.set i (some v)) := by
  refine ⟨by rw [List.length_set, List.length_set]; exact h.1, fun j u q => ?_⟩
  by_cases e : i = j
  · subst e
    have hl : i < ρ.length := by
      have := (List.getElem?_eq_some_iff.mp q).1
      simpa using this
    rw [List.getElem?_set_self hl] at q
    cases q
    exact ⟨v, List.getElem?_set_self (by rw [← h.1]; exact hl), r⟩
  · rw [List.getElem?_set_ne e] at q
    rw [List.getElem?_set_ne e]
    exact h.2 j u q
theorem RE.del (i : Nat) (h : RE Γ H μ Z ρ σ) : RE Γ H μ Z (ρ.set i none) (σ.set i none) := by
  refine ⟨by rw [List.length_set, List.length_set]; exact h.1, fun j u q => ?_⟩
  by_cases e : i = j
  · subst e
    have hl : i < ρ.length := by
      have := (List.getElem?_eq_some_iff.mp q).1
      simpa using this
    rw [List.getElem?_set_self hl] at q
    cases q
  · rw [List.getElem?_set_ne e] at q
    rw [List.getElem?_set_ne e]
    exact h.2 j u q
theorem RE.weak (h : ∀ a, Z a → Z' a) (r : RE Γ H μ Z' ρ σ) : RE Γ H μ Z ρ σ := ⟨r.1, fun i w q => by
  obtain ⟨v, h1, h2⟩ := r.2 i w q
  exact ⟨v, h1, h2.weak h⟩⟩
theorem RX.mono {x : Ex} {cls : Value} {d : Option Addr} (e : Evo H μ H' μ') (h : RX Γ H μ Z x cls d) : RX Γ H' μ' Z x cls d := by
  rcases h with h | ⟨h0, h1, dd, v, h2, h3, h4, h5⟩
  · exact .inl h
  · exact .inr ⟨h0, h1, dd, v, h2, e.keep _ _ h3 h4.1, e.fz (by rw [h3]; intro z; cases z) h4, h5.mono e⟩
/-- the store's objects stay where the heap grows beside them -/
theorem Rep.keep (R : Rep Γ H μ Z s) (e : Evo H μ H' μ) (h : ∀ n a, μ n = some a → H' a = H a) : Rep Γ H' μ Z s := ⟨fun n o q => by
  obtain ⟨a, h1, h2, h3⟩ := R.at n o q
  refine ⟨a, h1, h2, ?_⟩
  cases o with
  | lst ws =>
    obtain ⟨xs, h4, h5⟩ := h3
    exact ⟨xs, (h n a h1).trans h4, h5.mono e⟩
  | dct kws =>
    obtain ⟨kvs, h4, h5, h6⟩ := h3
    exact ⟨kvs, (h n a h1).trans h4, h5, h6.mono e⟩
  | dtt fr kws =>
    obtain ⟨kvs, h4, h5, h6, h7⟩ := h3
    exact ⟨kvs, h4.eq (h n a h1), h5, h6.mono e, h7.mono e⟩
  | obj c fs =>
    obtain ⟨dx, kvs, h4, h5, h6⟩ := h3
    exact ⟨dx, kvs, (h n a h1).trans h4, h5, h6.mono e⟩
  | tab m q => exact ⟨h3.1, tab_imp (h n a h1) (fun c e1 e2 => ⟨e.keep _ _ e1 e2.1, e.fz (by rw [e1]; intro z; cases z) e2⟩) h3.2⟩, R.inj, R.dom, fun a q => e.alive (R.za a q)⟩
theorem RO.alive {a : Addr} {o : Ob} (h : RO Γ H μ Z a o) : H a ≠ none := by
  cases o with
  | lst ws => obtain ⟨_, h, _⟩ := h; rw [h]; intro z; cases z
  | dct kws => obtain ⟨_, h, _⟩ := h; rw [h]; intro z; cases z
  | dtt fr kws => obtain ⟨_, h, _⟩ := h; exact h.some
  | obj c fs => obtain ⟨_, _, h, _⟩ := h; rw [h]; intro z; cases z
  | tab m q => obtain ⟨_, _, h, _⟩ := h; rw [h]; intro z; cases z
theorem Rep.alive (R : Rep Γ H μ Z s) {n : Nat} {a : Addr} (h : μ n = some a) : H a ≠ none := by
  have hl := R.dom n a h
  obtain ⟨b, h1, _, h3⟩ := R.at n _ (List.getElem?_eq_getElem hl)
  rw [h] at h1
  cases h1
  exact h3.alive
theorem Rep.notZ (R : Rep Γ H μ Z s) {n : Nat} {a : Addr} (h : μ n = some a) : ¬ Z a := by
  have hl := R.dom n a h
  obtain ⟨b, h1, h2, h3⟩ := R.at n _ (List.getElem?_eq_getElem hl)
  rw [h] at h1
  cases h1
  exact h2
theorem Rep.laid (R : Rep Γ H μ Z s) (hp : H p = none) : Rep Γ (upd H p o) μ Z s := R.keep (Evo.laid hp) fun n a h => upd_ne fun e => R.alive h (e ▸ hp)
theorem Rep.fz (R : Rep Γ H μ Z s) (hp : H p = none) : Fz μ Z p := ⟨fun n h => R.alive h hp, fun z => R.za p z hp⟩
end
end MP
set_option Elab.async false
set_option linter.all false
set_option maxRecDepth 100000
set_option maxHeartbeats 4000000
namespace MP
open PySem PySem.Spec PyProof.Rows L2
section
variable (Γ : Ct) (W : WX) (H : Hp) (μ : Mu) (Z : Zs) (σ : L2.St)
def PostE (Q : VK) : R Dv → Prop
  | .ok w s' => ∀ v H' μ', Evo H μ H' μ' → Rep Γ H' μ' Z s' → RV Γ H' μ' Z w v → Q v H'
  | .er x s' => ∀ cls d H' μ', Evo H μ H' μ' → Rep Γ H' μ' Z s' → RX Γ H' μ' Z x cls d → W cls d σ H'
  | .no => False
def PostT (Q : Bool → Hp → Prop) : R Bool → Prop
  | .ok b s' => ∀ H' μ', Evo H μ H' μ' → Rep Γ H' μ' Z s' → Q b H'
  | .er x s' => ∀ cls d H' μ', Evo H μ H' μ' → Rep Γ H' μ' Z s' → RX Γ H' μ' Z x cls d → W cls d σ H'
  | .no => False
def PostA (Q : List V → Hp → Prop) : R (List Dv) → Prop
  | .ok ws s' => ∀ vs H' μ', Evo H μ H' μ' → Rep Γ H' μ' Z s' → RVs Γ H' μ' Z ws vs → Q vs H'
  | .er x s' => ∀ cls d H' μ', Evo H μ H' μ' → Rep Γ H' μ' Z s' → RX Γ H' μ' Z x cls d → W cls d σ H'
  | .no => False
def PostS (D : Ends) : C → Prop
  | .nx ρ' s' => ∀ σ' H' μ', Evo H μ H' μ' → Rep Γ H' μ' Z s' → RE Γ H' μ' Z ρ' σ' → D.nx σ' H'
  | .bk ρ' s' => ∀ σ' H' μ', Evo H μ H' μ' → Rep Γ H' μ' Z s' → RE Γ H' μ' Z ρ' σ' → D.bk σ' H'
  | .ct ρ' s' => ∀ σ' H' μ', Evo H μ H' μ' → Rep Γ H' μ' Z s' → RE Γ H' μ' Z ρ' σ' → D.ct σ' H'
  | .rt w s' => ∀ v H' μ', Evo H μ H' μ' → Rep Γ H' μ' Z s' → RV Γ H' μ' Z w v → D.rt v H'
  | .er x ρ' s' => ∀ cls d σ' H' μ', Evo H μ H' μ' → Rep Γ H' μ' Z s' → RE Γ H' μ' Z ρ' σ' → RX Γ H' μ' Z x cls d → W cls d σ' H'
  | .no => False
end
def rdE (Γ : Ct) (W : WX) (f : FE) : TE := fun σ H Q => ∃ μ Z ρ s, RE Γ H μ Z ρ σ ∧ Rep Γ H μ Z s ∧ PostE Γ W H μ Z σ Q (f ρ s)
def rdT (Γ : Ct) (W : WX) (f : FT) : TT := fun σ H Q => ∃ μ Z ρ s, RE Γ H μ Z ρ σ ∧ Rep Γ H μ Z s ∧ PostT Γ W H μ Z σ Q (f ρ s)
def rdA (Γ : Ct) (W : WX) (f : FA) : TA := fun σ H Q => ∃ μ Z ρ s, RE Γ H μ Z ρ σ ∧ Rep Γ H μ Z s ∧ PostA Γ W H μ Z σ Q (f ρ s)
def rdS (Γ : Ct) (W : WX) (f : FS) : TS := fun D σ H => ∃ μ Z ρ s, RE Γ H μ Z ρ σ ∧ Rep Γ H μ Z s ∧ PostS Γ W H μ Z D (f ρ s)
def ME (X : Cx) (Γ : Ct) (W : WX) (e : Expr) (f : FE) : Prop := PE X e (rdE Γ W f)
def MT (X : Cx) (Γ : Ct) (W : WX) (e : Expr) (f : FT) : Prop := PT X e (rdT Γ W f)
def MW (X : Cx) (Γ : Ct) (W : WX) (e : Expr) (f : FT) : Prop := PW X e (rdT Γ W f)
def MA (X : Cx) (Γ : Ct) (W : WX) (es : List Expr) (f : FA) : Prop := PA X es (rdA Γ W f)
def MS (X : Cx) (Γ : Ct) (W : WX) (st : Stmt) (f : FS) : Prop := PS X st (rdS Γ W f)
def MB (X : Cx) (Γ : Ct) (W : WX) (st : List Stmt) (f : FS) : Prop := PSs X st (rdS Γ W f)
theorem PE.imp {X : Cx} {e : Expr} {t t' : TE} (h : PE X e t) (k : ∀ σ H Q, t' σ H Q → t σ H Q) : PE X e t' := ⟨fun pins s σ H Q I q => h.run pins s σ H Q I (k σ H Q q)⟩
theorem PT.imp {X : Cx} {e : Expr} {t t' : TT} (h : PT X e t) (k : ∀ σ H Q, t' σ H Q → t σ H Q) : PT X e t' := ⟨fun pins s σ H Q I q => h.run pins s σ H Q I (k σ H Q q)⟩
theorem PW.imp {X : Cx} {e : Expr} {t t' : TT} (h : PW X e t) (k : ∀ σ H Q, t' σ H Q → t σ H Q) : PW X e t' := ⟨fun wh pins s σ H Q I q => h.run wh pins s σ H Q I (k σ H Q q)⟩
theorem PA.imp {X : Cx} {e : List Expr} {t t' : TA} (h : PA X e t) (k : ∀ σ H Q, t' σ H Q → t σ H Q) : PA X e t' := ⟨fun pos pins s σ H Q I q => h.run pos pins s σ H Q I (k σ H Q q)⟩
theorem PS.imp {X : Cx} {e : Stmt} {t t' : TS} (h : PS X e t) (k : ∀ D σ H, t' D σ H → t D σ H) : PS X e t' := ⟨fun pins s σ H D I q => h.run pins s σ H D I (k D σ H q)⟩
theorem PSs.imp {X : Cx} {e : List Stmt} {t t' : TS} (h : PSs X e t) (k : ∀ D σ H, t' D σ H → t D σ H) : PSs X e t' := ⟨fun pins s σ H D I q => h.run pins s σ H D I (k D σ H q)⟩
theorem PE.or {X : Cx} {e : Expr} {t t' : TE} (h : PE X e t) (h' : PE X e t') : PE X e (fun σ H Q => t σ H Q ∨ t' σ H Q) := ⟨fun pins s σ H Q I q => q.elim (h.run pins s σ H Q I) (h'.run pins s σ H Q I)⟩
theorem OpR.or2 {X : Cx} {f : Value → Value → Sem Value} {r r' : R2} (h : OpR X f r) (h' : OpR X f r') : OpR X f (fun x y H Q => r x y H Q ∨ r' x y H Q) := fun pins s σ H x y v u Q I rx ry q => q.elim (h pins s σ H x y v u Q I rx ry) (h' pins s σ H x y v u Q I rx ry)
theorem CallR.or2 {X : Cx} {f : Value} {r r' : List V → Hp → VK → Prop} (h : CallR X f r) (h' : CallR X f r') : CallR X f (fun x H Q => r x H Q ∨ r' x H Q) := fun pins s σ H x v Q I rx q => q.elim (h pins s σ H x v Q I rx) (h' pins s σ H x v Q I rx)
def R.thenC {α : Type} (r : R α) (ρ : Env) (k : α → Sto → C) : C := match r with
  | .ok a s => k a s | .er x s => .er x ρ s | .no => .no
def R.of {α : Type} (o : Option α) (s : Sto) : R α := match o with
  | some a => .ok a s | none => .no
section
variable {Γ : Ct} {W : WX} {H H1 : Hp} {μ μ1 : Mu} {Z : Zs} {σ : L2.St} {ρ : Env} {s : Sto}
theorem PostE.evo {Q : VK} {r : R Dv} (e : Evo H μ H1 μ1) (h : PostE Γ W H μ Z σ Q r) : PostE Γ W H1 μ1 Z σ Q r := by
  cases r with
  | ok w s' => exact fun v H' μ' e' => h v H' μ' (e.trans e')
  | er x s' => exact fun c d H' μ' e' => h c d H' μ' (e.trans e')
  | no => exact h
theorem PostT.evo {Q : Bool → Hp → Prop} {r : R Bool} (e : Evo H μ H1 μ1) (h : PostT Γ W H μ Z σ Q r) : PostT Γ W H1 μ1 Z σ Q r := by
  cases r with
  | ok w s' => exact fun H' μ' e' => h H' μ' (e.trans e')
  | er x s' => exact fun c d H' μ' e' => h c d H' μ' (e.trans e')
  | no => exact h
theorem PostA.evo {Q : List V → Hp → Prop} {r : R (List Dv)} (e : Evo H μ H1 μ1) (h : PostA Γ W H μ Z σ Q r) : PostA Γ W H1 μ1 Z σ Q r := by
  cases r with
  | ok w s' => exact fun v H' μ' e' => h v H' μ' (e.trans e')
  | er x s' => exact fun c d H' μ' e' => h c d H' μ' (e.trans e')
  | no => exact h
theorem PostS.evo {D : Ends} {r : C} (e : Evo H μ H1 μ1) (h : PostS Γ W H μ Z D r) : PostS Γ W H1 μ1 Z D r := by
  cases r with
  | nx ρ' s' => exact fun v H' μ' e' => h v H' μ' (e.trans e')
  | bk ρ' s' => exact fun v H' μ' e' => h v H' μ' (e.trans e')
  | ct ρ' s' => exact fun v H' μ' e' => h v H' μ' (e.trans e')
  | rt w s' => exact fun v H' μ' e' => h v H' μ' (e.trans e')
  | er x ρ' s' => exact fun c d σ' H' μ' e' => h c d σ' H' μ' (e.trans e')
  | no => exact h
theorem eE {f : FE} {k : Dv → Sto → R Dv} {Q Q' : VK} (hE : RE Γ H μ Z ρ σ) (hR : Rep Γ H μ Z s) (h : PostE Γ W H μ Z σ Q ((f ρ s).bind k))
    (hk : ∀ x s1 v H1 μ1, Evo H μ H1 μ1 → RE Γ H1 μ1 Z ρ σ → Rep Γ H1 μ1 Z s1 → RV Γ H1 μ1 Z x v → PostE Γ W H1 μ1 Z σ Q (k x s1) → Q' v H1) : rdE Γ W f σ H Q' := by
  refine ⟨μ, Z, ρ, s, hE, hR, ?_⟩
  cases e : f ρ s with
  | ok x s1 =>
    rw [e] at h
    exact fun v H1 μ1 ev R1 r1 => hk x s1 v H1 μ1 ev (hE.mono ev) R1 r1 (PostE.evo ev h)
  | er x s1 => rw [e] at h; exact h
  | no => rw [e] at h; exact h.elim
theorem eT {f : FE} {k : Dv → Sto → R Bool} {Q : Bool → Hp → Prop} {Q' : VK} (hE : RE Γ H μ Z ρ σ) (hR : Rep Γ H μ Z s) (h : PostT Γ W H μ Z σ Q ((f ρ s).bind k))
    (hk : ∀ x s1 v H1 μ1, Evo H μ H1 μ1 → RE Γ H1 μ1 Z ρ σ → Rep Γ H1 μ1 Z s1 → RV Γ H1 μ1 Z x v → PostT Γ W H1 μ1 Z σ Q (k x s1) → Q' v H1) : rdE Γ W f σ H Q' := by
  refine ⟨μ, Z, ρ, s, hE, hR, ?_⟩
  cases e : f ρ s with
  | ok x s1 =>
    rw [e] at h
    exact fun v H1 μ1 ev R1 r1 => hk x s1 v H1 μ1 ev (hE.mono ev) R1 r1 (PostT.evo ev h)
  | er x s1 => rw [e] at h; exact h
  | no => rw [e] at h; exact h.elim
theorem eA {f : FE} {k : Dv → Sto → R (List Dv)} {Q : List V → Hp → Prop} {Q' : VK} (hE : RE Γ H μ Z ρ σ) (hR : Rep Γ H μ Z s) (h : PostA Γ W H μ Z σ Q ((f ρ s).bind k))
    (hk : ∀ x s1 v H1 μ1, Evo H μ H1 μ1 → RE Γ H1 μ1 Z ρ σ → Rep Γ H1 μ1 Z s1 → RV Γ H1 μ1 Z x v → PostA Γ W H1 μ1 Z σ Q (k x s1) → Q' v H1) : rdE Γ W f σ H Q' := by
  refine ⟨μ, Z, ρ, s, hE, hR, ?_⟩
  cases e : f ρ s with
  | ok x s1 =>
    rw [e] at h
    exact fun v H1 μ1 ev R1 r1 => hk x s1 v H1 μ1 ev (hE.mono ev) R1 r1 (PostA.evo ev h)
  | er x s1 => rw [e] at h; exact h
  | no => rw [e] at h; exact h.elim
theorem eS {f : FE} {k : Dv → Sto → C} {D : Ends} {Q' : VK} (hE : RE Γ H μ Z ρ σ) (hR : Rep Γ H μ Z s) (h : PostS Γ W H μ Z D ((f ρ s).thenC ρ k))
    (hk : ∀ x s1 v H1 μ1, Evo H μ H1 μ1 → RE Γ H1 μ1 Z ρ σ → Rep Γ H1 μ1 Z s1 → RV Γ H1 μ1 Z x v → PostS Γ W H1 μ1 Z D (k x s1) → Q' v H1) : rdE Γ W f σ H Q' := by
  refine ⟨μ, Z, ρ, s, hE, hR, ?_⟩
  cases e : f ρ s with
  | ok x s1 =>
    rw [e] at h
    exact fun v H1 μ1 ev R1 r1 => hk x s1 v H1 μ1 ev (hE.mono ev) R1 r1 (PostS.evo ev h)
  | er x s1 => rw [e] at h; exact fun c d H' μ' ev R' rx => h c d σ H' μ' ev R' (hE.mono ev) rx
  | no => rw [e] at h; exact h.elim
theorem tE {f : FT} {k : Bool → Sto → R Dv} {Q : VK} {Q' : Bool → Hp → Prop} (hE : RE Γ H μ Z ρ σ) (hR : Rep Γ H μ Z s) (h : PostE Γ W H μ Z σ Q ((f ρ s).bind k))
    (hk : ∀ b s1 H1 μ1, Evo H μ H1 μ1 → RE Γ H1 μ1 Z ρ σ → Rep Γ H1 μ1 Z s1 → PostE Γ W H1 μ1 Z σ Q (k b s1) → Q' b H1) : rdT Γ W f σ H Q' := by
  refine ⟨μ, Z, ρ, s, hE, hR, ?_⟩
  cases e : f ρ s with
  | ok x s1 =>
    rw [e] at h
    exact fun H1 μ1 ev R1 => hk x s1 H1 μ1 ev (hE.mono ev) R1 (PostE.evo ev h)
  | er x s1 => rw [e] at h; exact h
  | no => rw [e] at h; exact h.elim
theorem tT {f : FT} {k : Bool → Sto → R Bool} {Q Q' : Bool → Hp → Prop} (hE : RE Γ H μ Z ρ σ) (hR : Rep Γ H μ Z s) (h : PostT Γ W H μ Z σ Q ((f ρ s).bind k))
    (hk : ∀ b s1 H1 μ1, Evo H μ H1 μ1 → RE Γ H1 μ1 Z ρ σ → Rep Γ H1 μ1 Z s1 → PostT Γ W H1 μ1 Z σ Q (k b s1) → Q' b H1) : rdT Γ W f σ H Q' := by
  refine ⟨μ, Z, ρ, s, hE, hR, ?_⟩
  cases e : f ρ s with
  | ok x s1 =>
    rw [e] at h
    exact fun H1 μ1 ev R1 => hk x s1 H1 μ1 ev (hE.mono ev) R1 (PostT.evo ev h)
  | er x s1 => rw [e] at h; exact h
  | no => rw [e] at h; exact h.elim
theorem tS {f : FT} {k : Bool → Sto → C} {D : Ends} {Q' : Bool → Hp → Prop} (hE : RE Γ H μ Z ρ σ) (hR : Rep Γ H μ Z s) (h : PostS Γ W H μ Z D ((f ρ s).thenC ρ k))
    (hk : ∀ b s1 H1 μ1, Evo H μ H1 μ1 → RE Γ H1 μ1 Z ρ σ → Rep Γ H1 μ1 Z s1 → PostS Γ W H1 μ1 Z D (k b s1) → Q' b H1) : rdT Γ W f σ H Q' := by
  refine ⟨μ, Z, ρ, s, hE, hR, ?_⟩
  cases e : f ρ s with
  | ok x s1 =>
    rw [e] at h
    exact fun H1 μ1 ev R1 => hk x s1 H1 μ1 ev (hE.mono ev) R1 (PostS.evo ev h)
  | er x s1 => rw [e] at h; exact fun c d H' μ' ev R' rx => h c d σ H' μ' ev R' (hE.mono ev) rx
  | no => rw [e] at h; exact h.elim
theorem aE {f : FA} {k : List Dv → Sto → R Dv} {Q : VK} {Q' : List V → Hp → Prop} (hE : RE Γ H μ Z ρ σ) (hR : Rep Γ H μ Z s) (h : PostE Γ W H μ Z σ Q ((f ρ s).bind k))
    (hk : ∀ ws s1 vs H1 μ1, Evo H μ H1 μ1 → RE Γ H1 μ1 Z ρ σ → Rep Γ H1 μ1 Z s1 → RVs Γ H1 μ1 Z ws vs → PostE Γ W H1 μ1 Z σ Q (k ws s1) → Q' vs H1) : rdA Γ W f σ H Q' := by
  refine ⟨μ, Z, ρ, s, hE, hR, ?_⟩
  cases e : f ρ s with
  | ok x s1 =>
    rw [e] at h
    exact fun v H1 μ1 ev R1 r1 => hk x s1 v H1 μ1 ev (hE.mono ev) R1 r1 (PostE.evo ev h)
  | er x s1 => rw [e] at h; exact h
  | no => rw [e] at h; exact h.elim
theorem aA {f : FA} {k : List Dv → Sto → R (List Dv)} {Q : List V → Hp → Prop} {Q' : List V → Hp → Prop} (hE : RE Γ H μ Z ρ σ) (hR : Rep Γ H μ Z s) (h : PostA Γ W H μ Z σ Q ((f ρ s).bind k))
    (hk : ∀ ws s1 vs H1 μ1, Evo H μ H1 μ1 → RE Γ H1 μ1 Z ρ σ → Rep Γ H1 μ1 Z s1 → RVs Γ H1 μ1 Z ws vs → PostA Γ W H1 μ1 Z σ Q (k ws s1) → Q' vs H1) : rdA Γ W f σ H Q' := by
  refine ⟨μ, Z, ρ, s, hE, hR, ?_⟩
  cases e : f ρ s with
  | ok x s1 =>
    rw [e] at h
    exact fun v H1 μ1 ev R1 r1 => hk x s1 v H1 μ1 ev (hE.mono ev) R1 r1 (PostA.evo ev h)
  | er x s1 => rw [e] at h; exact h
  | no => rw [e] at h; exact h.elim
theorem aS {f : FA} {k : List Dv → Sto → C} {D : Ends} {Q' : List V → Hp → Prop} (hE : RE Γ H μ Z ρ σ) (hR : Rep Γ H μ Z s) (h : PostS Γ W H μ Z D ((f ρ s).thenC ρ k))
    (hk : ∀ ws s1 vs H1 μ1, Evo H μ H1 μ1 → RE Γ H1 μ1 Z ρ σ → Rep Γ H1 μ1 Z s1 → RVs Γ H1 μ1 Z ws vs → PostS Γ W H1 μ1 Z D (k ws s1) → Q' vs H1) : rdA Γ W f σ H Q' := by
  refine ⟨μ, Z, ρ, s, hE, hR, ?_⟩
  cases e : f ρ s with
  | ok x s1 =>
    rw [e] at h
    exact fun v H1 μ1 ev R1 r1 => hk x s1 v H1 μ1 ev (hE.mono ev) R1 r1 (PostS.evo ev h)
  | er x s1 => rw [e] at h; exact fun c d H' μ' ev R' rx => h c d σ H' μ' ev R' (hE.mono ev) rx
  | no => rw [e] at h; exact h.elim
theorem okE {w : Dv} {Q : VK} {v : V} (hR : Rep Γ H μ Z s) (r : RV Γ H μ Z w v) (h : PostE Γ W H μ Z σ Q (.ok w s)) : Q v H := h v H μ .refl hR r
theorem okT {b : Bool} {Q : Bool → Hp → Prop} (hR : Rep Γ H μ Z s) (h : PostT Γ W H μ Z σ Q (.ok b s)) : Q b H := h H μ .refl hR
/-- a value at a new address -/
theorem newE {w : Dv} {Q : VK} {p : Addr} {o : HO} (hR : Rep Γ H μ Z s) (hp : H p = none) (r : RV Γ (upd H p o) μ Z w (.ref p)) (h : PostE Γ W H μ Z σ Q (.ok w s)) : Q (.ref p) (upd H p o) := h _ _ μ (Evo.laid hp) (hR.laid hp) r
end
section
variable {X : Cx} {Γ : Ct} {W : WX}
def mVar (i : Nat) : FE := fun ρ s => match ρ[i]? with
  | some (some w) => .ok w s
  | _ => .no
def mK (w : Dv) : FE := fun _ s => .ok w s
theorem me_var {i : Nat} {e : Expr} (h : PE X e (tVar i)) : ME X Γ W e (mVar i) := PE.imp h fun σ H Q ⟨μ, Z, ρ, s, hE, hR, q⟩ => by
  unfold mVar at q
  split at q
  · rename_i w e
    obtain ⟨v, h1, h2⟩ := hE.2 i w e
    exact ⟨v, h1, okE hR h2 q⟩
  · exact q.elim
theorem me_int {i : Int} {j pos} : ME X Γ W (.Constant (.int i) j pos) (mK (.int i)) := PE.imp pe_int fun σ H Q ⟨μ, Z, ρ, s, hE, hR, q⟩ => okE (w := .int i) hR rfl q
theorem me_bl {i : Bool} {j pos} : ME X Γ W (.Constant (.bool i) j pos) (mK (.bl i)) := PE.imp pe_bl fun σ H Q ⟨μ, Z, ρ, s, hE, hR, q⟩ => okE (w := .bl i) hR rfl q
theorem me_str {i : Str} {j pos} : ME X Γ W (.Constant (.str i) j pos) (mK (.str i)) := PE.imp pe_str fun σ H Q ⟨μ, Z, ρ, s, hE, hR, q⟩ => okE (w := .str i) hR rfl q
theorem me_non {j pos} : ME X Γ W (.Constant .none j pos) (mK .non) := PE.imp pe_non fun σ H Q ⟨μ, Z, ρ, s, hE, hR, q⟩ => okE (w := .non) hR rfl q
/-- a module's constant: an int, a class -/
theorem me_globI {x : Str} {i : Int} {t : Tok} {pos : Pos} (hg : Gl X x) (hm : X.mg x = some (.int i t)) (hd : (x == ("__debug__" : Str)) = false := by decide) : ME X Γ W (.Name x pos) (mK (.int i)) :=
  PE.imp (pe_glob (v := .int i) hg hm ⟨t, rfl⟩ hd) fun σ H Q ⟨μ, Z, ρ, s, hE, hR, q⟩ => okE (w := .int i) hR rfl q
theorem me_ty {x : Str} {n : String} {pos : Pos} (hg : Gl X x) (hm : X.mg x = none) (hv : bootBuiltins x = some (.type n)) (hn : x ≠ "__name__" := by decide) (hd : (x == ("__debug__" : Str)) = false := by decide) : ME X Γ W (.Name x pos) (mK (.ty n)) :=
  PE.imp (pe_bltn (v := .ty n) hg hm hv rfl hn hd) fun σ H Q ⟨μ, Z, ρ, s, hE, hR, q⟩ => okE (w := .ty n) hR rfl q
abbrev O2 := Sto → Dv → Dv → Option Dv
abbrev O1 := Sto → Dv → Option Dv
def mBin (op : O2) (f g : FE) : FE := fun ρ s => (f ρ s).bind fun x s1 => (g ρ s1).bind fun y s2 => R.of (op s2 x y) s2
def mUn (op : O1) (f : FE) : FE := fun ρ s => (f ρ s).bind fun x s1 => R.of (op s1 x) s1
/-- what an operator gives: its rule r is met -/
def Op2 (Γ : Ct) (r : R2) (op : O2) : Prop := ∀ (H : Hp) (μ : Mu) (Z : Zs) (s : Sto) (x y w : Dv) (u v : V) (Q : VK), Rep Γ H μ Z s → RV Γ H μ Z x u → RV Γ H μ Z y v → op s x y = some w →
  (∀ v' H', Evo H μ H' μ → Rep Γ H' μ Z s → RV Γ H' μ Z w v' → Q v' H') → r u v H Q
def Op1 (Γ : Ct) (r : V → Hp → VK → Prop) (op : O1) : Prop := ∀ (H : Hp) (μ : Mu) (Z : Zs) (s : Sto) (x w : Dv) (u : V) (Q : VK), Rep Γ H μ Z s → RV Γ H μ Z x u → op s x = some w →
  (∀ v' H', Evo H μ H' μ → Rep Γ H' μ Z s → RV Γ H' μ Z w v' → Q v' H') → r u H Q
theorem ofE {H : Hp} {μ : Mu} {Z : Zs} {σ : L2.St} {s : Sto} {o : Option Dv} {Q : VK} (h : PostE Γ W H μ Z σ Q (R.of o s)) : ∃ w, o = some w ∧ ∀ v' H', Evo H μ H' μ → Rep Γ H' μ Z s → RV Γ H' μ Z w v' → Q v' H' := by
  cases o with
  | none => exact h.elim
  | some w => exact ⟨w, rfl, fun v' H' e R r => h v' H' μ e R r⟩
variable {a b c : Expr} {f g h' : FE} {pos : Pos}
theorem me_op {op : Operator} {r : R2} {o : O2} (ho : OpR X (binaryOp op) r) (hs : Op2 Γ r o) (ha : ME X Γ W a f) (hb : ME X Γ W b g) : ME X Γ W (.BinOp a op b pos) (mBin o f g) :=
  PE.imp (pe_op ho ha hb) fun σ H Q ⟨μ, Z, ρ, s, hE, hR, q⟩ => eE hE hR q fun x s1 u H1 μ1 e1 hE1 R1 r1 q1 => eE hE1 R1 q1 fun y s2 v H2 μ2 e2 hE2 R2 r2 q2 => by
    obtain ⟨w, hw, k⟩ := ofE q2
    exact hs H2 μ2 Z s2 x y w u v Q R2 (r1.mono e2) r2 hw k
theorem me_cmp {op : CmpOp} {r : R2} {o : O2} (ho : OpR X (compareOp op) r) (hs : Op2 Γ r o) (hm : behindInMarks op b = false) (ha : ME X Γ W a f) (hb : ME X Γ W b g) : ME X Γ W (.Compare a [op] [b] pos) (mBin o f g) :=
  PE.imp (pe_cmpR ho ha hb hm) fun σ H Q ⟨μ, Z, ρ, s, hE, hR, q⟩ => eE hE hR q fun x s1 u H1 μ1 e1 hE1 R1 r1 q1 => eE hE1 R1 q1 fun y s2 v H2 μ2 e2 hE2 R2 r2 q2 => by
    obtain ⟨w, hw, k⟩ := ofE q2
    exact hs H2 μ2 Z s2 x y w u v Q R2 (r1.mono e2) r2 hw k
theorem me_un {op : UnaryOp} {r : V → Hp → VK → Prop} {o : O1} (ho : UnR X (unaryOp op) r) (hs : Op1 Γ r o) (ha : ME X Γ W a f) : ME X Γ W (.UnaryOp op a pos) (mUn o f) :=
  PE.imp (pe_un ho ha) fun σ H Q ⟨μ, Z, ρ, s, hE, hR, q⟩ => eE hE hR q fun x s1 u H1 μ1 e1 hE1 R1 r1 q1 => by
    obtain ⟨w, hw, k⟩ := ofE q1
    exact hs H1 μ1 Z s1 x w u Q R1 r1 hw k
/-- a < b < c -/
def mChain (o o' : O2) (f g h : FE) : FE := fun ρ s => (f ρ s).bind fun x s1 => (g ρ s1).bind fun y s2 => match o s2 x y with
  | some (.bl true) => (h ρ s2).bind fun z s3 => R.of (o' s3 y z) s3
  | some (.bl false) => .ok (.bl false) s2
  | _ => .no
theorem me_chain {op op' : CmpOp} {r r' : R2} {o o' : O2} (ho : OpR X (compareOp op) r) (ho' : OpR X (compareOp op') r') (hs : Op2 Γ r o) (hs' : Op2 Γ r' o') (hm : lastMarks [op, op'] [b, c] = false)
    (ha : ME X Γ W a f) (hb : ME X Γ W b g) (hc : ME X Γ W c h') : ME X Γ W (.Compare a [op, op'] [b, c] pos) (mChain o o' f g h') :=
  PE.imp (pe_chain ho ho' ha hb hc hm) fun σ H Q ⟨μ, Z, ρ, s, hE, hR, q⟩ => eE hE hR q fun x s1 u H1 μ1 e1 hE1 R1 r1 q1 => eE hE1 R1 q1 fun y s2 v H2 μ2 e2 hE2 R2 r2 q2 => by
    cases hw : o s2 x y with
    | none => rw [hw] at q2; exact q2.elim
    | some w =>
      rw [hw] at q2
      refine hs H2 μ2 Z s2 x y w u v _ R2 (r1.mono e2) r2 hw fun z H3 e3 R3 r3 => ?_
      cases w with
      | bl k =>
        refine ⟨k, r3, ?_⟩
        cases k with
        | true =>
          rw [if_pos rfl]
          exact eE (hE2.mono e3) R3 (PostE.evo e3 q2) fun z' s3 v3 H4 μ4 e4 hE4 R4 r4 q4 => by
            obtain ⟨w', hw', k'⟩ := ofE q4
            exact hs' H4 μ4 Z s3 y z' w' v v3 Q R4 ((r2.mono e3).mono e4) r4 hw' k'
        | false =>
          rw [if_neg Bool.false_ne_true]
          exact okE R3 (w := .bl false) rfl (PostE.evo e3 q2)
      | _ => exact q2.elim
def mTest (f : FE) : FT := fun ρ s => (f ρ s).bind fun x s1 => match x with
  | .bl b => .ok b s1
  | _ => .no
theorem mt_of {e : Expr} (h : ∀ (t : TE), PE X e t → PT X e (tTest t)) (ha : ME X Γ W e f) : MT X Γ W e (mTest f) :=
  PT.imp (h _ ha) fun σ H Q ⟨μ, Z, ρ, s, hE, hR, q⟩ => eT hE hR q fun x s1 u H1 μ1 e1 hE1 R1 r1 q1 => by
    cases x with
    | bl b => exact ⟨b, r1, okT R1 q1⟩
    | _ => exact q1.elim
theorem mt_val {e : Expr} (ha : ME X Γ W e f) (he : ∀ whole, isTrue e X.env whole = (do let v ← whole; standAt e.pos; holding [v] (truthy v)) := by intro _; rfl) : MT X Γ W e (mTest f) :=
  mt_of (fun t h => pt_val h he) ha
theorem mt_cmp {op : CmpOp} {r : R2} {o : O2} (ho : OpR X (compareOp op) r) (hs : Op2 Γ r o) (hm : behindInMarks op b = false) (ha : ME X Γ W a f) (hb : ME X Γ W b g) : MT X Γ W (.Compare a [op] [b] pos) (mTest (mBin o f g)) :=
  PT.imp (pt_cmpR ho ha hb hm) fun σ H Q ⟨μ, Z, ρ, s, hE, hR, q⟩ => by
    have q' : PostT Γ W H μ Z σ Q ((f ρ s).bind fun x s1 => (g ρ s1).bind fun y s2 => (R.of (o s2 x y) s2).bind fun x s1 => match x with
      | .bl b => .ok b s1
      | _ => .no) := by
      unfold mTest mBin at q
      revert q
      cases f ρ s with
      | ok x s1 =>
        dsimp only [R.bind]
        cases g ρ s1 <;> exact id
      | er x s1 => exact id
      | no => exact id
    exact eT hE hR q' fun x s1 u H1 μ1 e1 hE1 R1 r1 q1 => eT hE1 R1 q1 fun y s2 v H2 μ2 e2 hE2 R2 r2 q2 => by
      cases hw : o s2 x y with
      | none => rw [hw] at q2; exact q2.elim
      | some w =>
        rw [hw] at q2
        refine hs H2 μ2 Z s2 x y w u v _ R2 (r1.mono e2) r2 hw fun z H3 e3 R3 r3 => ?_
        cases w with
        | bl k => exact ⟨k, r3, okT R3 (PostT.evo e3 q2)⟩
        | _ => exact q2.elim
def mAnd (t u : FT) : FT := fun ρ s => (t ρ s).bind fun c s1 => if c = true then u ρ s1 else .ok false s1
def mOr (t u : FT) : FT := fun ρ s => (t ρ s).bind fun c s1 => if c = true then .ok true s1 else u ρ s1
def mNot (t : FT) : FT := fun ρ s => (t ρ s).bind fun c s1 => .ok (!c) s1
variable {t u : FT} {rest : List Expr}
theorem mw_and1 (ha : MT X Γ W a t) : MW X Γ W (.BoolOp .And [a] pos) t := pw_and1 ha
theorem mw_or1 (ha : MT X Γ W a t) : MW X Γ W (.BoolOp .Or [a] pos) t := pw_or1 ha
theorem ifT {H : Hp} {μ : Mu} {Z : Zs} {σ : L2.St} {ρ : Env} {s : Sto} {Q : Bool → Hp → Prop} {v : FT} (hE : RE Γ H μ Z ρ σ) (hR : Rep Γ H μ Z s) (q : PostT Γ W H μ Z σ Q (v ρ s)) : rdT Γ W v σ H Q := ⟨μ, Z, ρ, s, hE, hR, q⟩
theorem ifE {H : Hp} {μ : Mu} {Z : Zs} {σ : L2.St} {ρ : Env} {s : Sto} {Q : VK} {v : FE} (hE : RE Γ H μ Z ρ σ) (hR : Rep Γ H μ Z s) (q : PostE Γ W H μ Z σ Q (v ρ s)) : rdE Γ W v σ H Q := ⟨μ, Z, ρ, s, hE, hR, q⟩
theorem mw_and (ha : MT X Γ W a t) (hb : MW X Γ W (.BoolOp .And (b :: rest) pos) u) : MW X Γ W (.BoolOp .And (a :: b :: rest) pos) (mAnd t u) :=
  PW.imp (pw_and ha hb) fun σ H Q ⟨μ, Z, ρ, s, hE, hR, q⟩ => tT hE hR q fun c s1 H1 μ1 e1 hE1 R1 q1 => by
    cases c with
    | true => rw [if_pos rfl] at q1 ⊢; exact ifT hE1 R1 q1
    | false => rw [if_neg Bool.false_ne_true] at q1 ⊢; exact okT R1 q1
theorem mw_or (ha : MT X Γ W a t) (hb : MW X Γ W (.BoolOp .Or (b :: rest) pos) u) : MW X Γ W (.BoolOp .Or (a :: b :: rest) pos) (mOr t u) :=
  PW.imp (pw_or ha hb) fun σ H Q ⟨μ, Z, ρ, s, hE, hR, q⟩ => tT hE hR q fun c s1 H1 μ1 e1 hE1 R1 q1 => by
    cases c with
    | true => rw [if_pos rfl] at q1 ⊢; exact okT R1 q1
    | false => rw [if_neg Bool.false_ne_true] at q1 ⊢; exact ifT hE1 R1 q1
theorem mt_w {e : Expr} (h : MW X Γ W e t) : MT X Γ W e t := PW.pt h
theorem mt_not (ha : MT X Γ W a t) : MT X Γ W (.UnaryOp .Not a pos) (mNot t) :=
  PT.imp (pt_not ha) fun σ H Q ⟨μ, Z, ρ, s, hE, hR, q⟩ => tT hE hR q fun c s1 H1 μ1 e1 hE1 R1 q1 => okT R1 q1
/-- and, or, not as values: bools -/
def mAndV (f g : FE) : FE := fun ρ s => (f ρ s).bind fun x s1 => match x with
  | .bl true => g ρ s1
  | .bl false => .ok (.bl false) s1
  | _ => .no
def mOrV (f g : FE) : FE := fun ρ s => (f ρ s).bind fun x s1 => match x with
  | .bl false => g ρ s1
  | .bl true => .ok (.bl true) s1
  | _ => .no
def mNotV (f : FE) : FE := fun ρ s => (f ρ s).bind fun x s1 => match x with
  | .bl c => .ok (.bl (!c)) s1
  | _ => .no
theorem me_one {op} (h : ME X Γ W a f) : ME X Γ W (.BoolOp op [a] pos) f := pe_one h
theorem me_and (ha : ME X Γ W a f) (hb : ME X Γ W (.BoolOp .And (b :: rest) pos) g) : ME X Γ W (.BoolOp .And (a :: b :: rest) pos) (mAndV f g) :=
  PE.imp (pe_and ha hb) fun σ H Q ⟨μ, Z, ρ, s, hE, hR, q⟩ => eE hE hR q fun x s1 u H1 μ1 e1 hE1 R1 r1 q1 => by
    cases x with
    | bl c =>
      refine ⟨c, r1, ?_⟩
      cases c with
      | true => rw [if_pos rfl]; exact ifE hE1 R1 q1
      | false => rw [if_neg Bool.false_ne_true]; exact okE (w := .bl false) R1 rfl q1
    | _ => exact q1.elim
def mIf (t : FT) (f g : FE) : FE := fun ρ s => (t ρ s).bind fun c s1 => if c = true then f ρ s1 else g ρ s1
theorem me_if {c : Expr} (hc : MT X Γ W c t) (ha : ME X Γ W a f) (hb : ME X Γ W b g) : ME X Γ W (.IfExp c a b pos) (mIf t f g) :=
  PE.imp (pe_ifExp hc ha hb) fun σ H Q ⟨μ, Z, ρ, s, hE, hR, q⟩ => tE hE hR q fun c s1 H1 μ1 e1 hE1 R1 q1 => by
    cases c with
    | true => rw [if_pos rfl] at q1 ⊢; exact ifE hE1 R1 q1
    | false => rw [if_neg Bool.false_ne_true] at q1 ⊢; exact ifE hE1 R1 q1
def mNil : FA := fun _ s => .ok [] s
def mCons (f : FE) (g : FA) : FA := fun ρ s => (f ρ s).bind fun x s1 => (g ρ s1).bind fun xs s2 => .ok (x :: xs) s2
theorem ma_nil : MA X Γ W [] mNil := PA.imp pa_nil fun σ H Q ⟨μ, Z, ρ, s, hE, hR, q⟩ => q _ H μ .refl hR rfl
theorem ma_cons {e : Expr} {es : List Expr} {g : FA} (ha : ME X Γ W e f) (hr : MA X Γ W es g) (hs : starEach (e :: es) X.env = (false, eval e X.env) :: starEach es X.env := by rfl) : MA X Γ W (e :: es) (mCons f g) :=
  PA.imp (pa_cons ha hr hs) fun σ H Q ⟨μ, Z, ρ, s, hE, hR, q⟩ => eA hE hR q fun x s1 u H1 μ1 e1 hE1 R1 r1 q1 => aA hE1 R1 q1 fun ws s2 vs H2 μ2 e2 hE2 R2 r2 q2 =>
    q2 _ H2 μ2 .refl R2 (RVs.cons (r1.mono e2) r2)
def mTup (g : FA) : FE := fun ρ s => (g ρ s).bind fun ws s1 => if ws.length ≤ lim then .ok (.tup ws) s1 else .no
def mLst (g : FA) : FE := fun ρ s => (g ρ s).bind fun ws s1 => if ws.length ≤ lim then .ok (.lst ws) s1 else .no
/-- a list that will be changed: an object of the store -/
def mLstM (g : FA) : FE := fun ρ s => (g ρ s).bind fun ws s1 => if ws.length ≤ lim then .ok (.ref s1.length) (s1 ++ [.lst ws]) else .no
theorem lim_ok {n : Nat} (h : n ≤ lim) : n ≤ sizeLine := Nat.le_trans h (by rw [sizeLine_eq]; decide)
theorem lim_lt {n : Nat} (h : n ≤ lim) : n < sizeLine := Nat.lt_of_le_of_lt h (by rw [sizeLine_eq]; decide)
section
variable {H : Hp} {μ : Mu} {Z : Zs} {s : Sto} {p : Addr} {ws : List Dv} {vs : List V}
theorem new_tup (hR : Rep Γ H μ Z s) (hp : H p = none) (r : RVs Γ H μ Z ws vs) : RV Γ (upd H p (.tup vs)) μ Z (.tup ws) (.ref p) :=
  ⟨p, vs, rfl, .inl ⟨.inl upd_same, hR.fz hp⟩, r.mono (Evo.laid hp)⟩
theorem new_lst (hR : Rep Γ H μ Z s) (hp : H p = none) (r : RVs Γ H μ Z ws vs) : RV Γ (upd H p (.lst vs)) μ Z (.lst ws) (.ref p) :=
  ⟨p, vs, rfl, upd_same, hR.fz hp, r.mono (Evo.laid hp)⟩
/-- a new object of the store -/
def ext (μ : Mu) (n : Nat) (p : Addr) : Mu := fun m => if m = n then some p else μ m
theorem Evo.ext {o : HO} (hp : H p = none) (hn : μ n = none) : Evo H μ (upd H p o) (ext μ n p) where
  keep := fun a o h _ => by rw [upd_ne (ne_of_none h hp)]; exact h
  mu := fun m a h => by
    unfold MP.ext
    rw [if_neg fun e => by rw [e, hn] at h; cases h]
    exact h
  new := fun m a h => by
    unfold MP.ext at h
    split at h
    · cases h; exact .inr hp
    · exact .inl h
  stay := fun m a h q => by
    by_cases e : a = p
    · subst e; exact absurd hp q
    · rw [upd_ne e]; exact q
theorem Rep.mu_new (hR : Rep Γ H μ Z s) : μ s.length = none := by
  cases e : μ s.length with
  | none => rfl
  | some a => exact absurd (hR.dom _ _ e) (Nat.lt_irrefl _)
theorem RO.mono' {a : Addr} {o : Ob} {H' : Hp} {μ' : Mu} (e : Evo H μ H' μ') (q : H' a = H a) (h : RO Γ H μ Z a o) : RO Γ H' μ' Z a o := by
  cases o with
  | lst ws =>
    obtain ⟨xs, h4, h5⟩ := h
    exact ⟨xs, q.trans h4, h5.mono e⟩
  | dct kws =>
    obtain ⟨kvs, h4, h5, h6⟩ := h
    exact ⟨kvs, q.trans h4, h5, h6.mono e⟩
  | dtt fr kws =>
    obtain ⟨kvs, h4, h5, h6, h7⟩ := h
    exact ⟨kvs, h4.eq q, h5, h6.mono e, h7.mono e⟩
  | obj c fs =>
    obtain ⟨dx, kvs, h4, h5, h6⟩ := h
    exact ⟨dx, kvs, q.trans h4, h5, h6.mono e⟩
  | tab m y => exact ⟨h.1, tab_imp q (fun c e1 e2 => ⟨e.keep _ _ e1 e2.1, e.fz (by rw [e1]; intro z; cases z) e2⟩) h.2⟩
theorem Rep.push (hR : Rep Γ H μ Z s) (hp : H p = none) {o : HO} {ob : Ob} (ho : RO Γ (upd H p o) (MP.ext μ s.length p) Z p ob) : Rep Γ (upd H p o) (MP.ext μ s.length p) Z (s ++ [ob]) := by
  have ev : Evo H μ (upd H p o) (MP.ext μ s.length p) := Evo.ext hp hR.mu_new
  refine ⟨fun n o' q => ?_, fun n m a h1 h2 => ?_, fun n a h => ?_, fun a q => ev.alive (hR.za a q)⟩
  · by_cases hn : n = s.length
    · subst hn
      rw [List.getElem?_append_right (Nat.le_refl _)] at q
      simp at q
      subst q
      exact ⟨p, by unfold MP.ext; rw [if_pos rfl], fun z => hR.za p z hp, ho⟩
    · have hl : n < s.length := by
        have := (List.getElem?_eq_some_iff.mp q).1
        rw [List.length_append, List.length_singleton] at this
        omega
      rw [List.getElem?_append_left hl] at q
      obtain ⟨a, h1, h2, h3⟩ := hR.at n o' q
      exact ⟨a, ev.mu _ _ h1, h2, h3.mono' ev (upd_ne fun e => hR.alive h1 (e ▸ hp))⟩
  · unfold MP.ext at h1 h2
    split at h1 <;> split at h2
    · rename_i e1 e2; rw [e1, e2]
    · cases h1; exact absurd hp (hR.alive h2)
    · cases h2; exact absurd hp (hR.alive h1)
    · exact hR.inj _ _ _ h1 h2
  · unfold MP.ext at h
    rw [List.length_append, List.length_singleton]
    split at h
    · omega
    · have := hR.dom _ _ h
      omega
end
theorem me_tup {es : List Expr} {g : FA} {x1} (h : MA X Γ W es g) : ME X Γ W (.Tuple es x1 pos) (mTup g) :=
  PE.imp (pe_tup h) fun σ H Q ⟨μ, Z, ρ, s, hE, hR, q⟩ => aE hE hR q fun ws s1 vs H1 μ1 e1 hE1 R1 r1 q1 => by
    split at q1
    · rename_i hl
      exact ⟨by rw [r1.len]; exact lim_ok hl, fun p hp => newE R1 hp (new_tup R1 hp r1) q1⟩
    · exact q1.elim
theorem me_lst {es : List Expr} {g : FA} (h : MA X Γ W es g) : ME X Γ W (.List es pos) (mLst g) :=
  PE.imp (pe_lst h) fun σ H Q ⟨μ, Z, ρ, s, hE, hR, q⟩ => aE hE hR q fun ws s1 vs H1 μ1 e1 hE1 R1 r1 q1 => by
    split at q1
    · rename_i hl
      exact ⟨by rw [r1.len]; exact lim_ok hl, fun p hp => newE R1 hp (new_lst R1 hp r1) q1⟩
    · exact q1.elim
theorem me_lstM {es : List Expr} {g : FA} (h : MA X Γ W es g) : ME X Γ W (.List es pos) (mLstM g) :=
  PE.imp (pe_lst h) fun σ H Q ⟨μ, Z, ρ, s, hE, hR, q⟩ => aE hE hR q fun ws s1 vs H1 μ1 e1 hE1 R1 r1 q1 => by
    split at q1
    · rename_i hl
      refine ⟨by rw [r1.len]; exact lim_ok hl, fun p hp => ?_⟩
      have ev : Evo H1 μ1 (upd H1 p (.lst vs)) (ext μ1 s1.length p) := Evo.ext hp R1.mu_new
      exact q1 _ _ _ ev (R1.push hp ⟨vs, upd_same, r1.mono ev⟩) ⟨p, rfl, by unfold ext; rw [if_pos rfl]⟩
    · exact q1.elim
end
end MP
set_option Elab.async false
set_option linter.all false
set_option maxRecDepth 100000
set_option maxHeartbeats 4000000
namespace MP
open PySem PySem.Spec PyProof.Rows L2
theorem tuple_mul1 (l : Addr) (items : Array Value) (n : Nat) (dd : Option Addr) (sl : Array (Option Value)) (x : Int) (u : Tok) (c0 : (decide (x < -(2 ^ 63)) || decide (x ≥ 2 ^ 63)) = false) (c1 : (items.isEmpty || x == 1) = true) :
    Meets (Builtin.«tuple.__mul__» ⟨[.ref l, .int x u], []⟩) (fun _ R s => s.heap.get? l = some { cls := .type "tuple", dict := dd, data := .seq items n, slots := sl } ∧
      R (.ok (.ret (Value.ref l))) s) :=
  .of_wp fun prog w A R s h => by
    obtain ⟨hp, g, d, tk, os⟩ := s
    obtain ⟨hl, h⟩ := h
    have f1 := AutoSeq1.idx_int
    wp_walk using wpAny_loadPart' hl
    repeat (first
      | (refine wpAny_ite_false (decide_eq_false (by rw [c0]; exact Bool.false_ne_true)) ?_; wp_walk using wpAny_loadPart' hl)
      | (refine wpAny_ite_true (decide_eq_true c1) ?_; wp_walk using wpAny_loadPart' hl))
    exact ⟨_, rfl, h⟩
theorem tuple_mul0 (l : Addr) (items : Array Value) (n : Nat) (dd : Option Addr) (sl : Array (Option Value)) (x : Int) (u : Tok) (c0 : (decide (x < -(2 ^ 63)) || decide (x ≥ 2 ^ 63)) = false) (c1 : (items.isEmpty || x == 1) = false) (c2 : (decide (x ≤ 0) || items.isEmpty) = true) :
    Meets (Builtin.«tuple.__mul__» ⟨[.ref l, .int x u], []⟩) (fun _ R s => s.heap.get? l = some { cls := .type "tuple", dict := dd, data := .seq items n, slots := sl } ∧
      R (.ok (.ret (Value.ref s.heap.objs.size))) { s with heap := s.heap.push { cls := Value.type "tuple", data := Data.seq #[] } }) :=
  .of_wp fun prog w A R s h => by
    obtain ⟨hp, g, d, tk, os⟩ := s
    obtain ⟨hl, h⟩ := h
    have f1 := AutoSeq1.idx_int
    wp_walk using wpAny_loadPart' hl
    repeat (first
      | (refine wpAny_ite_false (decide_eq_false (by rw [c0]; exact Bool.false_ne_true)) ?_; wp_walk using wpAny_loadPart' hl)
      | (refine wpAny_ite_false (decide_eq_false (by rw [c1]; exact Bool.false_ne_true)) ?_; wp_walk using wpAny_loadPart' hl)
      | (refine wpAny_ite_true (decide_eq_true c2) ?_; wp_walk using wpAny_loadPart' hl))
    exact ⟨_, rfl, h⟩
theorem tuple_mulN (l : Addr) (items : Array Value) (n : Nat) (dd : Option Addr) (sl : Array (Option Value)) (x : Int) (u : Tok) (c0 : (decide (x < -(2 ^ 63)) || decide (x ≥ 2 ^ 63)) = false) (c1 : (items.isEmpty || x == 1) = false) (c2 : (decide (x ≤ 0) || items.isEmpty) = false)
    (c3 : ¬ ((items.size : Nat) : Int) * x > (2 ^ 63 - 1) / 8) (c4 : Builtin.Tuple.tupleTooMany (((items.size : Nat) : Int) * x) = false) (hsz : (List.foldl (fun x1 x2 => x1 ++ x2) #[] (List.replicate x.toNat items)).size ≤ sizeLine) :
    Meets (Builtin.«tuple.__mul__» ⟨[.ref l, .int x u], []⟩) (fun _ R s => s.heap.get? l = some { cls := .type "tuple", dict := dd, data := .seq items n, slots := sl } ∧
      R (.ok (.ret (Value.ref s.heap.objs.size))) { s with heap := s.heap.push { cls := Value.type "tuple", data := Data.seq (List.foldl (fun x1 x2 => x1 ++ x2) #[] (List.replicate x.toNat items)) }, toks := s.toks }) := L2.tuple_mulW l items n dd sl x u c0 c1 c2 c3 c4 hsz
def rRepA (K : PySem.W.Frag) : R2 := fun x y H Q => ∃ l k xs, x = .ref l ∧ y = .int k ∧ SqT K H l xs ∧ -(2 ^ 63) ≤ k ∧ k < 2 ^ 63 ∧ xs.length * k.toNat ≤ 16000000 ∧
  (xs = [] ∨ k = 1 → Q (.ref l) H) ∧ (¬ (xs = [] ∨ k = 1) → ∀ p, H p = none → Q (.ref p) (upd H p (.tup (List.replicate k.toNat xs).flatten)))
section
variable {X : Cx}
theorem op_repA : OpR X (binaryOp .Mult) (rRepA X.K) := by
  intro pins s σ H x y v u Q I rx ry h
  obtain ⟨l, k, xs, rfl, rfl, hT, h1, h2, hz, qs, qn⟩ := h
  cases rx
  obtain ⟨t, rfl⟩ := ry
  obtain ⟨its, r, ⟨⟨cls, dd, data, sl⟩, ho, hc, n, hd⟩, hs⟩ := I.tuple hT
  simp only at hc hd
  subst hc hd
  have hle : its.length = xs.length := r.length.symm
  have hsz0 : its.toArray.size = xs.length := by rw [List.size_toArray, hle]
  have he : (its.toArray.isEmpty = true) ↔ xs = [] := by
    rw [← List.length_eq_zero_iff (l := xs), ← hle]
    clear hT r ho hs hle hsz0 qs qn hz
    cases its with
    | nil => exact ⟨fun _ => rfl, fun _ => rfl⟩
    | cons a b => exact ⟨fun z => (Bool.false_ne_true z).elim, fun z => (Nat.succ_ne_zero _ z).elim⟩
  have c0 : (decide (k < -(2 ^ 63)) || decide (k ≥ 2 ^ 63)) = false := by
    clear he qs qn
    rw [decide_eq_false (Int.not_lt.mpr h1), decide_eq_false (Int.not_le.mpr h2)] <;> rfl
  by_cases hsame : xs = [] ∨ k = 1
  · have c1 : (its.toArray.isEmpty || k == 1) = true := by
      rw [Bool.or_eq_true]
      rcases hsame with z | z
      · exact .inl (he.mpr z)
      · exact .inr (beq_iff_eq.mpr z)
    refine wpAny_binaryOp_repeat_ref (T := "tuple") (U := "int") (by decide) ⟨_, ho, rfl⟩ (fun s' => typeIs_int s' k t) noFill_tuple_mul F.fills_int_mul F.slot_int_rmul repeat_tuple F.slot_int_index.lookup
      (call_meets F.slot_int_rmul (typeIs_int s k t) F.entry_int_rmul (F.args_int_rmul_2 _ _) (int_rmul_tuple k t l its.toArray n dd sl)
        ⟨ho, rfl, ⟨_, ho, rfl⟩, call_meets F.slot_tuple_mul ⟨_, ho, rfl⟩ F.entry_tuple_mul (F.args_tuple_mul_2 _ _) (tuple_mul1 l its.toArray n dd sl k t c0 c1) ⟨ho, ?_⟩⟩)
    exact ⟨.ref l, H, I, rfl, qs hsame⟩
  · have hx : xs ≠ [] := fun z => hsame (.inl z)
    have hk : k ≠ 1 := fun z => hsame (.inr z)
    have hi : its.toArray.isEmpty = false := by
      cases e : its.toArray.isEmpty with
      | false => rfl
      | true => exact absurd (he.mp e) hx
    have c1 : (its.toArray.isEmpty || k == 1) = false := by
      rw [hi, Bool.false_or]
      exact beq_eq_false_iff_ne.mpr hk
    by_cases hk0 : k ≤ 0
    · have c2 : (decide (k ≤ 0) || its.toArray.isEmpty) = true := by rw [decide_eq_true hk0, Bool.true_or]
      have q := qn hsame
      have hk' : k.toNat = 0 := by omega
      rw [hk'] at q
      refine wpAny_binaryOp_repeat_ref (T := "tuple") (U := "int") (by decide) ⟨_, ho, rfl⟩ (fun s' => typeIs_int s' k t) noFill_tuple_mul F.fills_int_mul F.slot_int_rmul repeat_tuple F.slot_int_index.lookup
        (call_meets F.slot_int_rmul (typeIs_int s k t) F.entry_int_rmul (F.args_int_rmul_2 _ _) (int_rmul_tuple k t l its.toArray n dd sl)
          ⟨ho, rfl, ⟨_, ho, rfl⟩, call_meets F.slot_tuple_mul ⟨_, ho, rfl⟩ F.entry_tuple_mul (F.args_tuple_mul_2 _ _) (tuple_mul0 l its.toArray n dd sl k t c0 c1 c2) ⟨ho, ?_⟩⟩)
      refine ⟨.ref s.heap.objs.size, _, I.laid (t' := s.toks) (o := .tup []) (fun b ob q => Heap.get?_push_of_some _ q) (Nat.le_refl _) ?_, rfl, q _ (I.hok.fresh (Nat.le_refl _))⟩
      exact ⟨Nat.zero_le _, [], .nil, IsTup.new _ _⟩
    · have c2 : (decide (k ≤ 0) || its.toArray.isEmpty) = false := by
        rw [hi, Bool.or_false]
        exact decide_eq_false hk0
      have hkk : (k.toNat : Int) = k := Int.toNat_of_nonneg (by omega)
      have hm : ((its.toArray.size : Nat) : Int) * k ≤ 16000000 := by
        have z1 : ((xs.length * k.toNat : Nat) : Int) ≤ ((16000000 : Nat) : Int) := Int.ofNat_le.mpr hz
        rw [Int.natCast_mul, hkk] at z1
        rw [hsz0]
        exact z1
      have c4 : Builtin.Tuple.tupleTooMany (((its.toArray.size : Nat) : Int) * k) = false := by
        unfold Builtin.Tuple.tupleTooMany
        rw [sizeLine_eq]
        exact decide_eq_false (by omega)
      have flen : (List.replicate k.toNat its).flatten.length ≤ sizeLine := by
        rw [PyProof.Rows.lm_len_rep_flat, hle, sizeLine_eq, Nat.mul_comm]
        omega
      refine wpAny_binaryOp_repeat_ref (T := "tuple") (U := "int") (by decide) ⟨_, ho, rfl⟩ (fun s' => typeIs_int s' k t) noFill_tuple_mul F.fills_int_mul F.slot_int_rmul repeat_tuple F.slot_int_index.lookup
        (call_meets F.slot_int_rmul (typeIs_int s k t) F.entry_int_rmul (F.args_int_rmul_2 _ _) (int_rmul_tuple k t l its.toArray n dd sl)
          ⟨ho, rfl, ⟨_, ho, rfl⟩, call_meets F.slot_tuple_mul ⟨_, ho, rfl⟩ F.entry_tuple_mul (F.args_tuple_mul_2 _ _) (tuple_mulN l its.toArray n dd sl k t c0 c1 c2 (by omega) c4 (by rw [size_rep, List.size_toArray]; exact flen)) ⟨ho, ?_⟩⟩)
      rw [size_rep]
      refine ⟨.ref s.heap.objs.size, _, I.laid (t' := s.toks) (o := .tup (List.replicate k.toNat xs).flatten) (fun b ob q => Heap.get?_push_of_some _ q) (Nat.le_refl _) ?_, rfl, qn hsame _ (I.hok.fresh (Nat.le_refl _))⟩
      exact ⟨by rw [PyProof.Rows.lm_len_rep_flat, sizeLine_eq, Nat.mul_comm]; omega, _, r.rep k.toNat, IsTup.new _ _⟩
end
def lstOf (s : Sto) : Dv → Option (List Dv)
  | .lst ws => some ws
  | .ref n => match s[n]? with
    | some (.lst ws) => some ws
    | _ => none
  | _ => none
/-- a sequence that is read -/
def seqOf (s : Sto) : Dv → Option (List Dv)
  | .tup ws => some ws
  | .sq ws => some ws
  | w => lstOf s w
def tupOf : Dv → Option (List Dv)
  | .tup ws => some ws
  | _ => none
def flat : Dv → Option V
  | .non => some .non | .bl b => some (.bl b) | .int i => some (.int i) | .str x => some (.str x)
  | _ => none
mutual
def toD0 : Dv → Option PyData
  | .non => some .none | .bl b => some (.bool b) | .int i => some (.int i) | .str x => some (.str x)
  | .tup ws => (toDs ws).map .tuple
  | .lst ws => (toDs ws).map .list
  | .sq ws => (toDs ws).map .list
  | _ => none
def toDs : List Dv → Option (List PyData)
  | [] => some []
  | w :: ws => match toD0 w, toDs ws with
    | some d, some ds => some (d :: ds)
    | _, _ => none
end
def toD (s : Sto) : Dv → Option PyData
  | .ref n => match s[n]? with
    | some (.lst ws) => (toDs ws).map .list
    | _ => none
  | w => toD0 w
section
variable {Γ : Ct} {H : Hp} {μ : Mu} {Z : Zs} {s : Sto}
theorem lstOf_ok {w : Dv} {v : V} {ws : List Dv} (hR : Rep Γ H μ Z s) (r : RV Γ H μ Z w v) (e : lstOf s w = some ws) : ∃ a xs, v = .ref a ∧ H a = some (.lst xs) ∧ RVs Γ H μ Z ws xs := by
  cases w with
  | lst us =>
    cases e
    obtain ⟨a, xs, h1, h2, _, h4⟩ := r
    exact ⟨a, xs, h1, h2, h4⟩
  | ref n =>
    simp only [lstOf] at e
    split at e
    · rename_i us q
      cases e
      obtain ⟨a, h1, h2⟩ := r
      obtain ⟨b, h3, _, xs, h4, h5⟩ := hR.at n _ q
      rw [h2] at h3
      cases h3
      exact ⟨a, xs, h1, h4, h5⟩
    · cases e
  | _ => cases e
theorem seqOf_ok {w : Dv} {v : V} {ws : List Dv} (hR : Rep Γ H μ Z s) (r : RV Γ H μ Z w v) (e : seqOf s w = some ws) : ∃ a xs, v = .ref a ∧ (SqL Γ.K H a xs ∨ SqT Γ.K H a xs) ∧ RVs Γ H μ Z ws xs := by
  cases w with
  | tup us =>
    cases e
    obtain ⟨a, xs, h1, h2, h3⟩ := r
    exact ⟨a, xs, h1, .inr h2.sq, h3⟩
  | sq us =>
    cases e
    obtain ⟨a, xs, h1, h2, h3⟩ := r
    exact ⟨a, xs, h1, .inl h2.sq, h3⟩
  | lst us =>
    obtain ⟨a, xs, h1, h2, h3⟩ := lstOf_ok hR r (show lstOf s (.lst us) = some ws from e)
    exact ⟨a, xs, h1, .inl (SqL.of h2), h3⟩
  | ref n =>
    obtain ⟨a, xs, h1, h2, h3⟩ := lstOf_ok hR r (show lstOf s (.ref n) = some ws from e)
    exact ⟨a, xs, h1, .inl (SqL.of h2), h3⟩
  | _ => cases e
theorem flat_ok {w : Dv} {v u : V} (r : RV Γ H μ Z w v) (e : flat w = some u) : v = u := by
  cases w <;> first
    | (cases e; exact r)
    | cases e
mutual
theorem toD0_ok : ∀ (w : Dv) {v : V} {d : PyData}, RV Γ H μ Z w v → toD0 w = some d → Dp Γ.K H v d
  | .non, _, _, r, e => by cases e; rw [show _ = _ from r]; exact .non
  | .bl b, _, _, r, e => by cases e; rw [show _ = _ from r]; exact .bl b
  | .int b, _, _, r, e => by cases e; rw [show _ = _ from r]; exact .int b
  | .str b, _, _, r, e => by cases e; rw [show _ = _ from r]; exact .str b
  | .tup ws, _, d, r, e => by
    obtain ⟨a, xs, rfl, h2, h3⟩ := r
    simp only [toD0] at e
    cases q : toDs ws with
    | none => rw [q] at e; cases e
    | some ds => rw [q] at e; cases e; exact .tup h2.sq (toDs_ok ws h3 q)
  | .sq ws, _, d, r, e => by
    obtain ⟨a, xs, rfl, h2, h3⟩ := r
    simp only [toD0] at e
    cases q : toDs ws with
    | none => rw [q] at e; cases e
    | some ds => rw [q] at e; cases e; exact .lst h2.sq (toDs_ok ws h3 q)
  | .lst ws, _, d, r, e => by
    obtain ⟨a, xs, rfl, h2, _, h3⟩ := r
    simp only [toD0] at e
    cases q : toDs ws with
    | none => rw [q] at e; cases e
    | some ds => rw [q] at e; cases e; exact .lst (SqL.of h2) (toDs_ok ws h3 q)
  | .ty _, _, _, _, e => by cases e
  | .cl _, _, _, _, e => by cases e
  | .ref _, _, _, _, e => by cases e
  | .dct _ _, _, _, _, e => by cases e
  | .dtt _ _, _, _, _, e => by cases e
  | .exc _ _ _, _, _, _, e => by cases e
  | .exn _, _, _, _, e => by cases e
  | .clo _ _ _ _ _, _, _, _, e => by cases e
theorem toDs_ok : ∀ (ws : List Dv) {vs : List V} {ds : List PyData}, RVs Γ H μ Z ws vs → toDs ws = some ds → DpAll Γ.K H vs ds
  | [], _, _, r, e => by cases e; rw [show _ = _ from r]; exact .nil
  | w :: ws, _, _, r, e => by
    obtain ⟨x, xs, rfl, h2, h3⟩ := r
    simp only [toDs] at e
    split at e
    · rename_i d ds q1 q2
      cases e
      exact .cons (toD0_ok w h2 q1) (toDs_ok ws h3 q2)
    · cases e
end
theorem toD_ok {w : Dv} {v : V} {d : PyData} (hR : Rep Γ H μ Z s) (r : RV Γ H μ Z w v) (e : toD s w = some d) : Dp Γ.K H v d := by
  cases w with
  | ref n =>
    simp only [toD] at e
    split at e
    · rename_i us q
      obtain ⟨a, h1, h2⟩ := r
      obtain ⟨b, h3, _, xs, h4, h5⟩ := hR.at n _ q
      rw [h2] at h3
      cases h3
      subst h1
      cases q2 : toDs us with
      | none => rw [q2] at e; cases e
      | some ds => rw [q2] at e; cases e; exact .lst (SqL.of h4) (toDs_ok us h5 q2)
    · cases e
  | _ => exact toD0_ok _ r e
end
def cm (i j : Int) : Bool := decide ((-(2 ^ 64) < i ∧ i < 2 ^ 64) ∨ (-(2 ^ 64) < j ∧ j < 2 ^ 64))
theorem cm_ok {i j : Int} (h : cm i j = true) : CMul i j := (of_decide_eq_true h : (-(2 ^ 64) < i ∧ i < 2 ^ 64) ∨ (-(2 ^ 64) < j ∧ j < 2 ^ 64))
def addD : O2 := fun s x y => match x, y with
  | .int i, .int j => some (.int (i + j))
  | .str a, .str b => if a.length + b.length ≤ lim then some (.str (a ++ b)) else none
  | .tup a, .tup b => if a.length + b.length ≤ lim then some (.tup (a ++ b)) else none
  | x, y => match lstOf s x, lstOf s y with
    | some a, some b => if a.length + b.length ≤ lim then some (.lst (a ++ b)) else none
    | _, _ => none
def subD : O2 := fun _ x y => match x, y with
  | .int i, .int j => some (.int (i - j))
  | _, _ => none
def mulD : O2 := fun s x y => match x, y with
  | .int i, .int j => if cm i j = true then some (.int (i * j)) else none
  | .tup a, .int k => if -(2 ^ 63) ≤ k ∧ k < 2 ^ 63 ∧ a.length * k.toNat ≤ lim then some (.tup (List.replicate k.toNat a).flatten) else none
  | x, .int k => match lstOf s x with
    | some a => if -(2 ^ 63) ≤ k ∧ k < 2 ^ 63 ∧ a.length * k.toNat ≤ lim then some (.lst (List.replicate k.toNat a).flatten) else none
    | none => none
  | _, _ => none
def modD : O2 := fun _ x y => match x, y with
  | .int i, .int j => if 0 < j then some (.int (i % j)) else none
  | _, _ => none
def divD : O2 := fun _ x y => match x, y with
  | .int i, .int j => if 0 < j ∧ j < 1073741824 then some (.int (i / j)) else none
  | _, _ => none
def powD : O2 := fun _ x y => match x, y with
  | .int i, .int j => if 0 ≤ j ∧ j ≤ 1000000 ∧ i.natAbs < 2 ^ 64 then some (.int (i ^ j.toNat)) else none
  | _, _ => none
def negD : O1 := fun _ x => match x with
  | .int i => some (.int (-i))
  | _ => none
def cmpD (p : Int → Int → Bool) : O2 := fun _ x y => match x, y with
  | .int i, .int j => some (.bl (p i j))
  | _, _ => none
abbrev ltD : O2 := cmpD fun i j => decide (i < j)
abbrev leD : O2 := cmpD fun i j => decide (i ≤ j)
abbrev gtD : O2 := cmpD fun i j => decide (j < i)
abbrev geD : O2 := cmpD fun i j => decide (j ≤ i)
def eqB (s : Sto) (x y : Dv) : Option Bool := match flat x, flat y with
  | some a, some b => if scal a b = true then some (decide (a = b)) else none
  | _, _ => match toD s x, toD s y with
    | some d, some e => if SeqAt.shaped d = true ∧ SeqAt.shaped e = true then some (PyData.eqv d e) else none
    | _, _ => none
def eqD : O2 := fun s x y => (eqB s x y).map .bl
def neD : O2 := fun s x y => (eqB s x y).map fun b => .bl (!b)
def isN : Dv → Option Bool
  | .non => some true
  | .bl _ => some false | .int _ => some false | .str _ => some false | .tup _ => some false | .lst _ => some false | .sq _ => some false | .dct _ _ => some false | .dtt _ _ => some false | .exc _ _ _ => some false | .exn _ => some false | .ref _ => some false | .ty _ => some false | .cl _ => some false | .clo _ _ _ _ _ => some false
def isBl (c : Bool) : Dv → Bool
  | .bl b => b == c
  | _ => false
def isD : O2 := fun _ x y => match y with
  | .non => (isN x).map .bl
  | .bl c => some (.bl (isBl c x))
  | _ => none
def isntD : O2 := fun _ x y => match y with
  | .non => (isN x).map fun b => .bl (!b)
  | .bl c => some (.bl (!isBl c x))
  | _ => none
section
variable {Γ : Ct} {X : Cx}
abbrev rAdd (K : PySem.W.Frag) : R2 := fun x y H Q => ((rI0 fun i j => .int (i + j)) x y H Q ∨ (∃ i j, x = .str i ∧ y = .str j ∧ i.length + j.length ≤ sizeLine ∧ Q (.str (i ++ j)) H)) ∨ (rCatA K x y H Q ∨ rCat x y H Q)
theorem opAdd : OpR X (binaryOp .Add) (rAdd X.K) := OpR.or2 (OpR.or2 op_add op_add_str) (OpR.or2 op_catA op_cat)
theorem sAdd : Op2 Γ (rAdd Γ.K) addD := fun H μ Z s x y w u v Q hR r1 r2 e k => by
  unfold addD at e
  split at e
  · cases e
    exact .inl (.inl ⟨_, _, r1, r2, k _ H .refl hR rfl⟩)
  · rename_i a b
    split at e
    · rename_i hl
      cases e
      exact .inl (.inr ⟨_, _, r1, r2, lim_ok hl, k _ H .refl hR rfl⟩)
    · cases e
  · rename_i a b
    split at e
    · rename_i hl
      cases e
      obtain ⟨p, xs, h1, h2, h3⟩ := id r1
      obtain ⟨p', ys, g1, g2, g3⟩ := id r2
      refine .inr (.inl ⟨p, p', xs, ys, h1, g1, h2.sq, g2.sq, by rw [h3.len, g3.len]; exact lim_ok hl, fun z => ?_, fun z z' => ?_, fun z z' q hq => ?_⟩)
      · have hn : a = [] := by
          have := h3.len
          rw [z] at this
          exact List.eq_nil_of_length_eq_zero this.symm
        rw [hn, List.nil_append] at k
        exact k _ H .refl hR (g1 ▸ r2)
      · have hn : b = [] := by
          have := g3.len
          rw [z'] at this
          exact List.eq_nil_of_length_eq_zero this.symm
        rw [hn, List.append_nil] at k
        exact k _ H .refl hR (h1 ▸ r1)
      · exact k _ _ (Evo.laid hq) (hR.laid hq) (new_tup hR hq (h3.append g3))
    · cases e
  · split at e
    · rename_i a b q1 q2
      split at e
      · rename_i hl
        cases e
        obtain ⟨p, xs, h1, h2, h3⟩ := lstOf_ok hR r1 q1
        obtain ⟨p', ys, g1, g2, g3⟩ := lstOf_ok hR r2 q2
        exact .inr (.inr ⟨p, p', xs, ys, h1, g1, h2, g2, by rw [h3.len, g3.len]; exact lim_ok hl, fun q hq => k _ _ (Evo.laid hq) (hR.laid hq) (new_lst hR hq (h3.append g3))⟩)
      · cases e
    · cases e
theorem sSub : Op2 Γ (rI0 fun i j => .int (i - j)) subD := fun H μ Z s x y w u v Q hR r1 r2 e k => by
  unfold subD at e
  split at e
  · cases e
    exact ⟨_, _, r1, r2, k _ H .refl hR rfl⟩
  · cases e
abbrev rMul (K : PySem.W.Frag) : R2 := fun x y H Q => (rI CMul fun i j => .int (i * j)) x y H Q ∨ (rRepA K x y H Q ∨ rRep x y H Q)
theorem opMul : OpR X (binaryOp .Mult) (rMul X.K) := OpR.or2 op_mul (OpR.or2 op_repA op_rep)
theorem flat_one {α : Type} (l : List α) : (List.replicate 1 l).flatten = l := by simp
theorem flat_nil {α : Type} (n : Nat) : (List.replicate n ([] : List α)).flatten = [] := by
  induction n with
  | zero => rfl
  | succ n ih => rw [List.replicate_succ, List.flatten_cons, ih]; rfl
theorem sMul : Op2 Γ (rMul Γ.K) mulD := fun H μ Z s x y w u v Q hR r1 r2 e k => by
  unfold mulD at e
  split at e
  · split at e
    · rename_i hc
      cases e
      exact .inl ⟨_, _, r1, r2, cm_ok hc, k _ H .refl hR rfl⟩
    · cases e
  · rename_i a n
    split at e
    · rename_i hl
      cases e
      obtain ⟨p, xs, h1, h2, h3⟩ := id r1
      refine .inr (.inl ⟨p, n, xs, h1, r2, h2.sq, hl.1, hl.2.1, by rw [h3.len]; exact hl.2.2, fun z => ?_, fun z q hq => ?_⟩)
      · have hn : (List.replicate n.toNat a).flatten = a := by
          rcases z with z | z
          · have h0 : a = [] := by
              have := h3.len
              rw [z] at this
              exact List.eq_nil_of_length_eq_zero this.symm
            rw [h0, flat_nil]
          · rw [z]
            exact flat_one a
        rw [hn] at k
        exact k _ H .refl hR (h1 ▸ r1)
      · exact k _ _ (Evo.laid hq) (hR.laid hq) (new_tup hR hq (h3.rep _))
    · cases e
  · rename_i n _ _
    split at e
    · rename_i a q1
      split at e
      · rename_i hl
        cases e
        obtain ⟨p, xs, h1, h2, h3⟩ := lstOf_ok hR r1 q1
        exact .inr (.inr ⟨p, n, xs, h1, r2, h2, hl.1, hl.2.1, by rw [h3.len]; exact lim_ok hl.2.2, fun q hq => k _ _ (Evo.laid hq) (hR.laid hq) (new_lst hR hq (h3.rep _))⟩)
      · cases e
    · cases e
  · cases e
theorem sMod : Op2 Γ (rI (fun _ j => 0 < j) fun i j => .int (i % j)) modD := fun H μ Z s x y w u v Q hR r1 r2 e k => by
  unfold modD at e
  split at e
  · split at e
    · rename_i hc
      cases e
      exact ⟨_, _, r1, r2, hc, k _ H .refl hR rfl⟩
    · cases e
  · cases e
theorem sDiv : Op2 Γ (rI CDiv fun i j => .int (i / j)) divD := fun H μ Z s x y w u v Q hR r1 r2 e k => by
  unfold divD at e
  split at e
  · split at e
    · rename_i hc
      cases e
      exact ⟨_, _, r1, r2, hc, k _ H .refl hR rfl⟩
    · cases e
  · cases e
theorem sPow : Op2 Γ (rI CPow fun i j => .int (i ^ j.toNat)) powD := fun H μ Z s x y w u v Q hR r1 r2 e k => by
  unfold powD at e
  split at e
  · split at e
    · rename_i hc
      cases e
      exact ⟨_, _, r1, r2, hc, k _ H .refl hR rfl⟩
    · cases e
  · cases e
theorem sNeg : Op1 Γ (rU fun i => .int (-i)) negD := fun H μ Z s x w u Q hR r1 e k => by
  unfold negD at e
  split at e
  · cases e
    exact ⟨_, r1, k _ H .refl hR rfl⟩
  · cases e
theorem sCmp {p : Int → Int → Bool} : Op2 Γ (rI0 fun i j => .bl (p i j)) (cmpD p) := fun H μ Z s x y w u v Q hR r1 r2 e k => by
  unfold cmpD at e
  split at e
  · cases e
    exact ⟨_, _, r1, r2, k _ H .refl hR rfl⟩
  · cases e
abbrev rEqM (K : PySem.W.Frag) : R2 := fun x y H Q => rEq x y H Q ∨ rEqD K x y H Q
abbrev rNeM (K : PySem.W.Frag) : R2 := fun x y H Q => rNe x y H Q ∨ rNeD K x y H Q
theorem opEq (hu : X.A.units + 64 < cLine) : OpR X (compareOp .Eq) (rEqM X.K) := OpR.or2 op_eq (op_eqD hu)
theorem opNe (hu : X.A.units + 64 < cLine) : OpR X (compareOp .NotEq) (rNeM X.K) := OpR.or2 op_ne (op_neD hu)
theorem sEq : Op2 Γ (rEqM Γ.K) eqD := fun H μ Z s x y w u v Q hR r1 r2 e k => by
  unfold eqD eqB at e
  split at e
  · rename_i a b q1 q2
    split at e
    · rename_i hs
      cases e
      rw [flat_ok r1 q1, flat_ok r2 q2]
      exact .inl ⟨hs, k _ H .refl hR rfl⟩
    · cases e
  · split at e
    · rename_i d d' q1 q2
      split at e
      · rename_i hs
        cases e
        exact .inr ⟨d, d', toD_ok hR r1 q1, toD_ok hR r2 q2, hs.1, hs.2, k _ H .refl hR rfl⟩
      · cases e
    · cases e
theorem sNe : Op2 Γ (rNeM Γ.K) neD := fun H μ Z s x y w u v Q hR r1 r2 e k => by
  unfold neD eqB at e
  split at e
  · rename_i a b q1 q2
    split at e
    · rename_i hs
      cases e
      rw [flat_ok r1 q1, flat_ok r2 q2]
      exact .inl ⟨hs, k _ H .refl hR rfl⟩
    · cases e
  · split at e
    · rename_i d d' q1 q2
      split at e
      · rename_i hs
        cases e
        exact .inr ⟨d, d', toD_ok hR r1 q1, toD_ok hR r2 q2, hs.1, hs.2, k _ H .refl hR rfl⟩
      · cases e
    · cases e
theorem isN_ok {H : Hp} {μ : Mu} {Z : Zs} {w : Dv} {v : V} {b : Bool} (r : RV Γ H μ Z w v) (e : isN w = some b) : decide (v = V.non) = b := by
  cases w with
  | non => cases e; rw [show v = _ from r]; rfl
  | bl _ => cases e; rw [show v = _ from r]; rfl
  | int _ => cases e; rw [show v = _ from r]; rfl
  | str _ => cases e; rw [show v = _ from r]; rfl
  | ty _ => cases e; rw [show v = _ from r]; rfl
  | cl _ => cases e; rw [show v = _ from r]; rfl
  | ref n => cases e; obtain ⟨_, h, _⟩ := r; rw [h]; rfl
  | tup _ => cases e; obtain ⟨_, _, h, _⟩ := r; rw [h]; rfl
  | lst _ => cases e; obtain ⟨_, _, h, _⟩ := r; rw [h]; rfl
  | sq _ => cases e; obtain ⟨_, _, h, _⟩ := r; rw [h]; rfl
  | dct _ _ => cases e; obtain ⟨_, _, h, _⟩ := r; rw [h]; rfl
  | dtt _ _ => cases e; obtain ⟨_, _, h, _⟩ := r; rw [h]; rfl
  | exc _ _ _ => cases e; obtain ⟨_, _, _, h, _⟩ := r; rw [h]; rfl
  | exn _ => cases e; obtain ⟨_, h, _⟩ := r; rw [h]; rfl
  | clo _ _ _ _ _ => cases e; rw [show v = _ from r.1]; rfl
theorem isBl_ok {H : Hp} {μ : Mu} {Z : Zs} {w : Dv} {v : V} {c : Bool} (r : RV Γ H μ Z w v) : decide (v = V.bl c) = isBl c w := by
  cases w with
  | non => rw [show v = _ from r]; rfl
  | bl b => rw [show v = _ from r]; cases b <;> cases c <;> rfl
  | int _ => rw [show v = _ from r]; rfl
  | str _ => rw [show v = _ from r]; rfl
  | ty _ => rw [show v = _ from r]; rfl
  | cl _ => rw [show v = _ from r]; rfl
  | ref n => obtain ⟨_, h, _⟩ := r; rw [h]; rfl
  | tup _ => obtain ⟨_, _, h, _⟩ := r; rw [h]; rfl
  | lst _ => obtain ⟨_, _, h, _⟩ := r; rw [h]; rfl
  | sq _ => obtain ⟨_, _, h, _⟩ := r; rw [h]; rfl
  | dct _ _ => obtain ⟨_, _, h, _⟩ := r; rw [h]; rfl
  | dtt _ _ => obtain ⟨_, _, h, _⟩ := r; rw [h]; rfl
  | exc _ _ _ => obtain ⟨_, _, _, h, _⟩ := r; rw [h]; rfl
  | exn _ => obtain ⟨_, h, _⟩ := r; rw [h]; rfl
  | clo _ _ _ _ _ => rw [show v = _ from r.1]; rfl
/-- x is c, c one of None, True, False -/
def rIsC (n : Bool) : R2 := fun x y H Q => (y = .non ∨ ∃ b, y = .bl b) ∧ Q (.bl (decide (x = y) != n)) H
theorem rel_bl {x : V} {v : Value} (r : RelV x v) (b : Bool) : plainIs v (.bool b) = true ∧ (v == Value.bool b) = decide (x = V.bl b) := by
  cases x with
  | bl c => cases r; cases b <;> cases c <;> exact ⟨rfl, rfl⟩
  | ref a => cases r; exact ⟨rfl, rfl⟩
  | non => cases r; exact ⟨rfl, rfl⟩
  | int i => obtain ⟨t, rfl⟩ := r; exact ⟨rfl, rfl⟩
  | str x => obtain ⟨t, rfl⟩ := r; exact ⟨rfl, rfl⟩
  | byt x => obtain ⟨t, rfl⟩ := r; exact ⟨rfl, rfl⟩
  | flt x => obtain ⟨t, rfl⟩ := r; exact ⟨rfl, rfl⟩
  | ty n => cases r; exact ⟨rfl, rfl⟩
theorem op_isC : OpR X (compareOp .Is) (rIsC false) := by
  intro pins s σ H x y v u Q I rx ry h
  obtain ⟨hy | ⟨b, hy⟩, q⟩ := h
  · subst hy
    exact op_isN pins s σ H x .non v u Q I rx ry ⟨rfl, by simpa using q⟩
  · subst hy
    cases ry
    obtain ⟨h1, h2⟩ := rel_bl rx b
    exact wpAny_is_plain h1 (fin_bl I q (by rw [h2]; simp))
theorem op_notC : OpR X (compareOp .IsNot) (rIsC true) := by
  intro pins s σ H x y v u Q I rx ry h
  obtain ⟨hy | ⟨b, hy⟩, q⟩ := h
  · subst hy
    exact op_notN pins s σ H x .non v u Q I rx ry ⟨rfl, by simpa using q⟩
  · subst hy
    cases ry
    obtain ⟨h1, h2⟩ := rel_bl rx b
    exact wpAny_isNot_plain h1 (fin_bl I q (by rw [h2]; simp))
theorem sIsC : Op2 Γ (rIsC false) isD := fun H μ Z s x y w u v Q hR r1 r2 e k => by
  unfold isD at e
  split at e
  · cases q : isN x with
    | none => rw [q] at e; cases e
    | some b =>
      rw [q] at e
      cases e
      refine ⟨.inl r2, k _ H .refl hR ?_⟩
      rw [show v = _ from r2, isN_ok r1 q]
      simp [RV]
  · rename_i c
    cases e
    refine ⟨.inr ⟨c, r2⟩, k _ H .refl hR ?_⟩
    rw [show v = _ from r2, isBl_ok r1]
    simp [RV]
  · cases e
theorem sIsntC : Op2 Γ (rIsC true) isntD := fun H μ Z s x y w u v Q hR r1 r2 e k => by
  unfold isntD at e
  split at e
  · cases q : isN x with
    | none => rw [q] at e; cases e
    | some b =>
      rw [q] at e
      cases e
      refine ⟨.inl r2, k _ H .refl hR ?_⟩
      rw [show v = _ from r2, isN_ok r1 q]
      simp [RV]
  · rename_i c
    cases e
    refine ⟨.inr ⟨c, r2⟩, k _ H .refl hR ?_⟩
    rw [show v = _ from r2, isBl_ok r1]
    simp [RV]
  · cases e
end
end MP
set_option Elab.async false
set_option linter.all false
set_option maxRecDepth 100000
set_option maxHeartbeats 4000000
namespace MP
open PySem PySem.Spec PyProof.Rows L2
section
variable {X : Cx} {Γ : Ct} {W : WX} {st : Stmt} {rest : List Stmt} {e : Expr} {f : FE} {c c' : FS} {t : FT} {pos : Pos}
def mNext : FS := fun ρ s => .nx ρ s
def mSeq (c c' : FS) : FS := fun ρ s => match c ρ s with
  | .nx ρ' s' => c' ρ' s'
  | r => r
theorem mb_nil : MB X Γ W [] mNext := PSs.imp pss_nil fun D σ H ⟨μ, Z, ρ, s, hE, hR, q⟩ => q σ H μ .refl hR hE
theorem goS {H : Hp} {μ : Mu} {Z : Zs} {σ : L2.St} {ρ : Env} {s : Sto} {D : Ends} (hE : RE Γ H μ Z ρ σ) (hR : Rep Γ H μ Z s) (q : PostS Γ W H μ Z D (c ρ s)) : rdS Γ W c D σ H := ⟨μ, Z, ρ, s, hE, hR, q⟩
/-- a statement, then what goes on -/
theorem sS {H : Hp} {μ : Mu} {Z : Zs} {σ : L2.St} {ρ : Env} {s : Sto} {D : Ends} {nx : L2.St → Hp → Prop} (hE : RE Γ H μ Z ρ σ) (hR : Rep Γ H μ Z s) (h : PostS Γ W H μ Z D (mSeq c c' ρ s))
    (hk : ∀ ρ1 s1 σ1 H1 μ1, Evo H μ H1 μ1 → RE Γ H1 μ1 Z ρ1 σ1 → Rep Γ H1 μ1 Z s1 → PostS Γ W H1 μ1 Z D (c' ρ1 s1) → nx σ1 H1) : rdS Γ W c { D with nx := nx } σ H := by
  refine ⟨μ, Z, ρ, s, hE, hR, ?_⟩
  unfold mSeq at h
  cases q : c ρ s with
  | nx ρ1 s1 =>
    rw [q] at h
    exact fun σ1 H1 μ1 ev R1 E1 => hk ρ1 s1 σ1 H1 μ1 ev E1 R1 (PostS.evo ev h)
  | bk ρ1 s1 => rw [q] at h; exact h
  | ct ρ1 s1 => rw [q] at h; exact h
  | rt w s1 => rw [q] at h; exact h
  | er x ρ1 s1 => rw [q] at h; exact h
  | no => rw [q] at h; exact h
theorem mb_cons (h1 : MS X Γ W st c) (h2 : MB X Γ W rest c') : MB X Γ W (st :: rest) (mSeq c c') :=
  PSs.imp (pss_cons h1 h2) fun D σ H ⟨μ, Z, ρ, s, hE, hR, q⟩ => sS hE hR q fun ρ1 s1 σ1 H1 μ1 _ E1 R1 q1 => goS E1 R1 q1
theorem mb_one (h1 : MS X Γ W st c) : MB X Γ W [st] c := pss_one h1
def mExpr (f : FE) : FS := fun ρ s => (f ρ s).thenC ρ fun _ s1 => .nx ρ s1
theorem ms_expr (he : ME X Γ W e f) (hs : swapsWith e none pos.line X.env = pure false := by rfl) : MS X Γ W (.Expr e pos) (mExpr f) :=
  PS.imp (ps_expr he hs) fun D σ H ⟨μ, Z, ρ, s, hE, hR, q⟩ => eS hE hR q fun x s1 v H1 μ1 _ E1 R1 _ q1 => q1 σ H1 μ1 .refl R1 E1
def mRet (f : FE) : FS := fun ρ s => (f ρ s).thenC ρ fun w s1 => .rt w s1
theorem ms_ret (he : ME X Γ W e f) : MS X Γ W (.Return (some e) pos) (mRet f) :=
  PS.imp (ps_ret he) fun D σ H ⟨μ, Z, ρ, s, hE, hR, q⟩ => eS hE hR q fun x s1 v H1 μ1 _ E1 R1 r1 q1 => q1 v H1 μ1 .refl R1 r1
def mIfS (t : FT) (c c' : FS) : FS := fun ρ s => (t ρ s).thenC ρ fun b s1 => if b = true then c ρ s1 else c' ρ s1
theorem ms_if {cond : Expr} {a b : List Stmt} (hc : MT X Γ W cond t) (ha : MB X Γ W a c) (hb : MB X Γ W b c') : MS X Γ W (.If cond a b pos) (mIfS t c c') :=
  PS.imp (ps_if hc ha hb) fun D σ H ⟨μ, Z, ρ, s, hE, hR, q⟩ => tS hE hR q fun b s1 H1 μ1 _ E1 R1 q1 => by
    cases b with
    | true => rw [if_pos rfl] at q1 ⊢; exact goS E1 R1 q1
    | false => rw [if_neg Bool.false_ne_true] at q1 ⊢; exact goS E1 R1 q1
abbrev FG := Dv → Env → Sto → Option Env
/-- a target: what it does to the names -/
def GOk (Γ : Ct) (g : TG) (fg : FG) : Prop := ∀ (H : Hp) (μ : Mu) (Z : Zs) (ρ ρ' : Env) (s : Sto) (σ : L2.St) (w : Dv) (v : V) (Q : L2.St → Hp → Prop), RE Γ H μ Z ρ σ → Rep Γ H μ Z s → RV Γ H μ Z w v → fg w ρ s = some ρ' →
  (∀ σ', RE Γ H μ Z ρ' σ' → Q σ' H) → g v σ H Q
def GsOk (Γ : Ct) (g : TGs) (fg : List Dv → Env → Sto → Option Env) : Prop := ∀ (H : Hp) (μ : Mu) (Z : Zs) (ρ ρ' : Env) (s : Sto) (σ : L2.St) (ws : List Dv) (vs : List V) (Q : L2.St → Hp → Prop), RE Γ H μ Z ρ σ → Rep Γ H μ Z s → RVs Γ H μ Z ws vs → fg ws ρ s = some ρ' →
  (∀ σ', RE Γ H μ Z ρ' σ' → Q σ' H) → g vs σ H Q
def MG (X : Cx) (Γ : Ct) (tg : Expr) (g : TG) (fg : FG) : Prop := PG X tg g ∧ GOk Γ g fg
def MGs (X : Cx) (Γ : Ct) (tg : List Expr) (g : TGs) (fg : List Dv → Env → Sto → Option Env) : Prop := PGs X tg g ∧ GsOk Γ g fg
def gN (i : Nat) : FG := fun w ρ _ => some (ρ.set i (some w))
theorem mg_name {tg : Expr} {i : Nat} (h : PG X tg (gName i)) : MG X Γ tg (gName i) (gN i) := ⟨h, fun H μ Z ρ ρ' s σ w v Q hE hR r e k => by
  cases e
  exact k _ (hE.set i r)⟩
def gs0 : List Dv → Env → Sto → Option Env := fun ws ρ _ => match ws with
  | [] => some ρ
  | _ => none
def gsC (g : FG) (gs : List Dv → Env → Sto → Option Env) : List Dv → Env → Sto → Option Env := fun ws ρ s => match ws with
  | w :: r => (g w ρ s).bind fun ρ1 => gs r ρ1 s
  | [] => none
theorem mgs_nil : MGs X Γ [] gNil gs0 := ⟨pgs_nil, fun H μ Z ρ ρ' s σ ws vs Q hE hR r e k => by
  cases ws with
  | nil => cases e; exact ⟨r, k σ hE⟩
  | cons _ _ => cases e⟩
theorem mgs_cons {tg : Expr} {tgs : List Expr} {g : TG} {gs : TGs} {fg : FG} {fgs : List Dv → Env → Sto → Option Env} (h1 : MG X Γ tg g fg) (h2 : MGs X Γ tgs gs fgs) (h : PGs X (tg :: tgs) (gCons g gs)) : MGs X Γ (tg :: tgs) (gCons g gs) (gsC fg fgs) := ⟨h, fun H μ Z ρ ρ' s σ ws vs Q hE hR r e k => by
  cases ws with
  | nil => cases e
  | cons w ws =>
    obtain ⟨x, xs, rfl, r1, r2⟩ := r
    simp only [gsC] at e
    cases q : fg w ρ s with
    | none => rw [q] at e; cases e
    | some ρ1 =>
      rw [q] at e
      exact ⟨x, xs, rfl, h1.2 H μ Z ρ ρ1 s σ w x _ hE hR r1 q fun σ1 E1 => h2.2 H μ Z ρ1 ρ' s σ1 ws xs Q E1 hR r2 e k⟩⟩
def gT (n : Nat) (gs : List Dv → Env → Sto → Option Env) : FG := fun w ρ s => match tupOf w with
  | some ws => if ws.length = n then gs ws ρ s else none
  | none => none
theorem mg_tup {tg : Expr} {K : PySem.W.Frag} {n : Nat} {gs : TGs} {fgs : List Dv → Env → Sto → Option Env} (hK : K = Γ.K) (h : PG X tg (gTup K n gs)) (h2 : GsOk Γ gs fgs) : MG X Γ tg (gTup K n gs) (gT n fgs) := ⟨h, fun H μ Z ρ ρ' s σ w v Q hE hR r e k => by
  subst hK
  unfold gT at e
  split at e
  · rename_i ws q
    split at e
    · rename_i hl
      cases w with
      | tup us =>
        cases q
        obtain ⟨a, xs, h1, h3, h4⟩ := r
        exact ⟨a, xs, h1, h3.sq, by rw [h4.len]; exact hl, h2 H μ Z ρ ρ' s σ _ xs Q hE hR h4 e k⟩
      | _ => cases q
    · cases e
  · cases e⟩
/-- g = e -/
def mAsg (f : FE) (g : FG) : FS := fun ρ s => (f ρ s).thenC ρ fun w s1 => match g w ρ s1 with
  | some ρ' => .nx ρ' s1
  | none => .no
theorem asg_ok {g : TG} {fg : FG} {D : Ends} {σ : L2.St} {H : Hp} (hg : GOk Γ g fg) (h : rdS Γ W (mAsg f fg) D σ H) : tAsg (rdE Γ W f) g D σ H := by
  obtain ⟨μ, Z, ρ, s, hE, hR, q⟩ := h
  exact eS hE hR q fun w s1 v H1 μ1 _ E1 R1 r1 q1 => by
    split at q1
    · rename_i ρ' e
      exact hg H1 μ1 Z ρ ρ' s1 σ w v _ E1 R1 r1 e fun σ' E' => q1 σ' H1 μ1 .refl R1 E'
    · exact q1.elim
theorem ms_asg {g : TG} {fg : FG} (h : PS X st (tAsg (rdE Γ W f) g)) (hg : GOk Γ g fg) : MS X Γ W st (mAsg f fg) := PS.imp h fun D σ H => asg_ok hg
/-- the walk J yields these items -/
def Walks (Γ : Ct) (Z : Zs) (H : Hp) (μ : Mu) (ow : Option (Nat × List Dv)) (J : It) (ws : List Dv) : Prop := ∀ (H' : Hp) (μ' : Mu) (Z' : Zs) (s' : Sto), EvoZ Z H μ H' μ' → Rep Γ H' μ' Z' s' → (∀ a, Z a → Z' a) → (∀ a, Z' a → Z a ∨ H a = none) → (∀ n us, ow = some (n, us) → s'[n]? = some (.lst us)) →
  J.stop ws.length H' ∧ ∀ i w, ws[i]? = some w → J.go i H' ∧ ∀ x H'', J.yld i H' x H'' → Evo H' μ' H'' μ' ∧ Rep Γ H'' μ' Z' s' ∧ RV Γ H'' μ' Z' w x
structure Src where
  ws : List Dv
  ow : Option (Nat × List Dv) := none
abbrev FI := Env → Sto → R Src
def PostI (Γ : Ct) (W : WX) (H : Hp) (μ : Mu) (Z : Zs) (σ : L2.St) (Q : It → Hp → Prop) : R Src → Prop
  | .ok r s' => ∀ J H' μ', Evo H μ H' μ' → Rep Γ H' μ' Z s' → Walks Γ Z H' μ' r.ow J r.ws → Q J H'
  | .er x s' => ∀ cls d H' μ', Evo H μ H' μ' → Rep Γ H' μ' Z s' → RX Γ H' μ' Z x cls d → W cls d σ H'
  | .no => False
def rdI (Γ : Ct) (W : WX) (f : FI) : TI := fun σ H Q => ∃ μ Z ρ s, RE Γ H μ Z ρ σ ∧ Rep Γ H μ Z s ∧ PostI Γ W H μ Z σ Q (f ρ s)
def MI (X : Cx) (Γ : Ct) (W : WX) (tg iter : Expr) (f : FI) : Prop := PI X tg iter (rdI Γ W f)
theorem PI.imp {tg iter : Expr} {t t' : TI} (h : PI X tg iter t) (k : ∀ σ H Q, t' σ H Q → t σ H Q) : PI X tg iter t' := ⟨fun pins s σ H Q I q => h.run pins s σ H Q I (k σ H Q q)⟩
theorem PI.or {tg iter : Expr} {t t' : TI} (h : PI X tg iter t) (h' : PI X tg iter t') : PI X tg iter (fun σ H Q => t σ H Q ∨ t' σ H Q) := ⟨fun pins s σ H Q I q => q.elim (h.run pins s σ H Q I) (h'.run pins s σ H Q I)⟩
def srcOf (s : Sto) : Dv → Option Src
  | .tup ws => some { ws := ws }
  | .lst ws => some { ws := ws }
  | .sq ws => some { ws := ws }
  | .ref n => match s[n]? with
    | some (.lst ws) => some { ws := ws, ow := some (n, ws) }
    | _ => none
  | _ => none
def iSeq (f : FE) : FI := fun ρ s => (f ρ s).bind fun w s1 => R.of (srcOf s1 w) s1
mutual
theorem RV.strong {H : Hp} {μ : Mu} {Z Z' : Zs} (h : ∀ a, Z' a → Z a ∨ H a = none) : ∀ (w : Dv) {v : V}, RV Γ H μ Z w v → RV Γ H μ Z' w v
  | .non, _, q => q
  | .bl _, _, q => q
  | .int _, _, q => q
  | .str _, _, q => q
  | .ty _, _, q => q
  | .cl _, _, q => q
  | .ref n, _, q => q
  | .tup ws, _, q => by
    obtain ⟨a, xs, h1, h2, h3⟩ := q
    refine ⟨a, xs, h1, ?_, RVs.strong h ws h3⟩
    rcases h2 with ⟨h2, f⟩ | h2
    · exact .inl ⟨h2, f.1, fun z => (h a z).elim f.2 (Rd.alive h2)⟩
    · exact .inr h2
  | .sq ws, _, q => by
    obtain ⟨a, xs, h1, h2, h3⟩ := q
    refine ⟨a, xs, h1, ?_, RVs.strong h ws h3⟩
    rcases h2 with ⟨h2, f⟩ | h2
    · exact .inl ⟨h2, f.1, fun z => (h a z).elim f.2 (Rd.alive h2)⟩
    · exact .inr h2
  | .lst ws, _, q => by
    obtain ⟨a, xs, h1, h2, h3, h4⟩ := q
    exact ⟨a, xs, h1, h2, ⟨h3.1, fun z => (h a z).elim h3.2 (by rw [h2]; intro y; cases y)⟩, RVs.strong h ws h4⟩
  | .dct ks ws, _, q => by
    obtain ⟨a, kvs, h1, h2, h3, h4, h5⟩ := q
    exact ⟨a, kvs, h1, h2, ⟨h3.1, fun z => (h a z).elim h3.2 (by rw [h2]; intro y; cases y)⟩, h4, RVs.strong h ws h5⟩
  | .dtt kd ws, _, q => by
    obtain ⟨a, kvs, h1, h2, h3, h4, h5, h6⟩ := q
    exact ⟨a, kvs, h1, h2, ⟨h3.1, fun z => (h a z).elim h3.2 h2.some⟩, h4, RVs.strong h kd h5, RVs.strong h ws h6⟩
  | .exc c f w, _, q => by
    obtain ⟨a, dx, x, h1, h2, h3, h4, h5, h6⟩ := q
    exact ⟨a, dx, x, h1, h2, ⟨h3.1, fun z => (h a z).elim h3.2 (by rw [h2]; intro y; cases y)⟩, h4, ⟨h5.1, fun z => (h dx z).elim h5.2 (by rw [h4]; intro y; cases y)⟩, RV.strong h w h6⟩
  | .exn c, _, q => by
    obtain ⟨a, h1, h2, h3⟩ := q
    exact ⟨a, h1, h2, ⟨h3.1, fun z => (h a z).elim h3.2 (by rw [h2]; intro y; cases y)⟩⟩
  | .clo a c _ ws vs, _, q => by
    obtain ⟨h1, h2, h3, h4⟩ := q
    exact ⟨h1, h2, ⟨h3.1, fun z => (h c z).elim h3.2 (by rw [h2]; intro y; cases y)⟩, RVs.strong h ws h4⟩
theorem RVs.strong {H : Hp} {μ : Mu} {Z Z' : Zs} (h : ∀ a, Z' a → Z a ∨ H a = none) : ∀ (ws : List Dv) {vs : List V}, RVs Γ H μ Z ws vs → RVs Γ H μ Z' ws vs
  | [], _, q => q
  | w :: ws, _, q => by
    obtain ⟨x, xs, h1, h2, h3⟩ := q
    exact ⟨x, xs, h1, RV.strong h w h2, RVs.strong h ws h3⟩
end
/-- a list, a tuple: walked -/
theorem walk_l {H : Hp} {μ : Mu} {Z : Zs} {a : Addr} {xs : List V} {ws : List Dv} (h : ∀ H' μ', EvoZ Z H μ H' μ' → SqL Γ.K H' a xs) (r : RVs Γ H μ Z ws xs) : Walks Γ Z H μ none (Itl Γ.K a) ws := fun H' μ' Z' s' ev hR hy hz _ => by
  have q := h H' μ' ev
  refine ⟨⟨xs, q, by rw [r.len]; exact Nat.le_refl _⟩, fun i w e => ?_⟩
  obtain ⟨x, e1, e2⟩ := r.get e
  refine ⟨⟨xs, x, q, e1⟩, fun y H'' hq => ?_⟩
  obtain ⟨rfl, hq⟩ := hq
  have e3 := hq xs q
  rw [e1] at e3
  cases e3
  exact ⟨.refl, hR, (RV.strong hz w e2).monoZ (ev.more hy)⟩
theorem walk_t {H : Hp} {μ : Mu} {Z : Zs} {a : Addr} {xs : List V} {ws : List Dv} (h : ∀ H' μ', EvoZ Z H μ H' μ' → SqT Γ.K H' a xs) (r : RVs Γ H μ Z ws xs) : Walks Γ Z H μ none (Itt Γ.K a) ws := fun H' μ' Z' s' ev hR hy hz _ => by
  have q := h H' μ' ev
  refine ⟨⟨xs, q, by rw [r.len]; exact Nat.le_refl _⟩, fun i w e => ?_⟩
  obtain ⟨x, e1, e2⟩ := r.get e
  refine ⟨⟨xs, x, q, e1⟩, fun y H'' hq => ?_⟩
  obtain ⟨rfl, hq⟩ := hq
  have e3 := hq xs q
  rw [e1] at e3
  cases e3
  exact ⟨.refl, hR, (RV.strong hz w e2).monoZ (ev.more hy)⟩
/-- a list of the store: walked while it stands -/
theorem walk_m {H : Hp} {μ : Mu} {Z : Zs} {a : Addr} {n : Nat} {xs : List V} {ws : List Dv} (hn : μ n = some a) (hH : H a = some (.lst xs)) (r : RVs Γ H μ Z ws xs) : Walks Γ Z H μ (some (n, ws)) (Itl Γ.K a) ws := fun H' μ' Z' s' ev hR hy hz ho => by
  obtain ⟨b, h1, _, ys, h3, h4⟩ := hR.at n _ (ho n ws rfl)
  rw [ev.mu n a hn] at h1
  cases h1
  have q : SqL Γ.K H' a ys := SqL.of h3
  refine ⟨⟨ys, q, by rw [h4.len]; exact Nat.le_refl _⟩, fun i w e => ?_⟩
  obtain ⟨x, e1, e2⟩ := h4.get e
  refine ⟨⟨ys, x, q, e1⟩, fun y H'' hq => ?_⟩
  obtain ⟨rfl, hq⟩ := hq
  have e3 := hq ys q
  rw [e1] at e3
  cases e3
  exact ⟨.refl, hR, e2⟩
theorem iI {H : Hp} {μ : Mu} {Z : Zs} {σ : L2.St} {ρ : Env} {s : Sto} {f : FE} {k : Dv → Sto → R Src} {Q : It → Hp → Prop} {Q' : VK} (hE : RE Γ H μ Z ρ σ) (hR : Rep Γ H μ Z s) (h : PostI Γ W H μ Z σ Q ((f ρ s).bind k))
    (hk : ∀ x s1 v H1 μ1, Evo H μ H1 μ1 → RE Γ H1 μ1 Z ρ σ → Rep Γ H1 μ1 Z s1 → RV Γ H1 μ1 Z x v → PostI Γ W H1 μ1 Z σ Q (k x s1) → Q' v H1) : rdE Γ W f σ H Q' := by
  refine ⟨μ, Z, ρ, s, hE, hR, ?_⟩
  cases e : f ρ s with
  | ok x s1 =>
    rw [e] at h
    refine fun v H1 μ1 ev R1 r1 => hk x s1 v H1 μ1 ev (hE.mono ev) R1 r1 ?_
    have h' : PostI Γ W H μ Z σ Q (k x s1) := h
    cases q : k x s1 with
    | ok r s' => rw [q] at h'; exact fun J H' μ' e' => h' J H' μ' (ev.trans e')
    | er y s' => rw [q] at h'; exact fun c d H' μ' e' => h' c d H' μ' (ev.trans e')
    | no => rw [q] at h'; exact h'.elim
  | er x s1 => rw [e] at h; exact h
  | no => rw [e] at h; exact h.elim
theorem iA {H : Hp} {μ : Mu} {Z : Zs} {σ : L2.St} {ρ : Env} {s : Sto} {f : FA} {k : List Dv → Sto → R Src} {Q : It → Hp → Prop} {Q' : List V → Hp → Prop} (hE : RE Γ H μ Z ρ σ) (hR : Rep Γ H μ Z s) (h : PostI Γ W H μ Z σ Q ((f ρ s).bind k))
    (hk : ∀ x s1 v H1 μ1, Evo H μ H1 μ1 → RE Γ H1 μ1 Z ρ σ → Rep Γ H1 μ1 Z s1 → RVs Γ H1 μ1 Z x v → PostI Γ W H1 μ1 Z σ Q (k x s1) → Q' v H1) : rdA Γ W f σ H Q' := by
  refine ⟨μ, Z, ρ, s, hE, hR, ?_⟩
  cases e : f ρ s with
  | ok x s1 =>
    rw [e] at h
    refine fun v H1 μ1 ev R1 r1 => hk x s1 v H1 μ1 ev (hE.mono ev) R1 r1 ?_
    have h' : PostI Γ W H μ Z σ Q (k x s1) := h
    cases q : k x s1 with
    | ok r s' => rw [q] at h'; exact fun J H' μ' e' => h' J H' μ' (ev.trans e')
    | er y s' => rw [q] at h'; exact fun c d H' μ' e' => h' c d H' μ' (ev.trans e')
    | no => rw [q] at h'; exact h'.elim
  | er x s1 => rw [e] at h; exact h
  | no => rw [e] at h; exact h.elim
theorem mi_seq {tg l : Expr} {f : FE} (hK : Γ.K = X.K) (hl : ME X Γ W l f) : MI X Γ W tg l (iSeq f) :=
  PI.imp (PI.or (pi_list hl) (pi_tup hl)) fun σ H Q ⟨μ, Z, ρ, s, hE, hR, q⟩ => by
    rw [← hK]
    unfold iSeq at q
    cases e : f ρ s with
    | no => rw [e] at q; exact q.elim
    | er x s1 => rw [e] at q; exact .inl ⟨μ, Z, ρ, s, hE, hR, by rw [e]; exact q⟩
    | ok x s1 =>
      rw [e] at q
      have q' : PostI Γ W H μ Z σ Q (R.of (srcOf s1 x) s1) := q
      cases x with
      | tup ws =>
        refine .inr ⟨μ, Z, ρ, s, hE, hR, ?_⟩
        rw [e]
        rintro v H1 μ1 e1 R1 ⟨a, xs, h1, h2, h3⟩
        exact ⟨a, h1, ⟨xs, h2.sq⟩, q' _ _ _ e1 R1 (walk_t (fun H' μ' ev => (h2.monoZ ev).sq) h3)⟩
      | sq ws =>
        refine .inl ⟨μ, Z, ρ, s, hE, hR, ?_⟩
        rw [e]
        rintro v H1 μ1 e1 R1 ⟨a, xs, h1, h2, h3⟩
        exact ⟨a, h1, ⟨xs, h2.sq⟩, q' _ _ _ e1 R1 (walk_l (fun H' μ' ev => (h2.monoZ ev).sq) h3)⟩
      | lst ws =>
        refine .inl ⟨μ, Z, ρ, s, hE, hR, ?_⟩
        rw [e]
        rintro v H1 μ1 e1 R1 ⟨a, xs, h1, h2, h3, h4⟩
        exact ⟨a, h1, ⟨xs, SqL.of h2⟩, q' _ _ _ e1 R1 (walk_l (fun H' μ' ev => SqL.of (ev.keep _ _ h2 h3.1 h3.2)) h4)⟩
      | ref n =>
        simp only [srcOf] at q'
        split at q'
        · rename_i us e2
          refine .inl ⟨μ, Z, ρ, s, hE, hR, ?_⟩
          rw [e]
          rintro v H1 μ1 e1 R1 ⟨a, h1, h2⟩
          obtain ⟨b, g1, _, xs, g3, g4⟩ := R1.at n _ e2
          rw [h2] at g1
          cases g1
          exact ⟨a, h1, ⟨xs, SqL.of g3⟩, q' _ _ _ e1 R1 (walk_m h2 g3 g4)⟩
        · exact q'.elim
      | _ => exact q'.elim
/-- range(n), range(a, b) -/
def rng (lo : Int) (n : Nat) : List Dv := (List.range n).map fun (i : Nat) => .int (lo + i)
theorem rng_get {lo : Int} {n i : Nat} {w : Dv} (h : (rng lo n)[i]? = some w) : i < n ∧ w = .int (lo + i) := by
  unfold rng at h
  rw [List.getElem?_map] at h
  cases e : (List.range n)[i]? with
  | none => rw [e] at h; cases h
  | some j =>
    rw [e] at h
    cases h
    obtain ⟨h1, h2⟩ := List.getElem?_eq_some_iff.mp e
    rw [List.length_range] at h1
    rw [List.getElem_range] at h2
    exact ⟨h1, by rw [h2]⟩
theorem rng_len (lo : Int) (n : Nat) : (rng lo n).length = n := by unfold rng; rw [List.length_map, List.length_range]
theorem walk_r {H : Hp} {μ : Mu} {Z : Zs} {lo : Int} {n : Nat} : Walks Γ Z H μ none (Itr lo n) (rng lo n) := fun H' μ' Z' s' ev hR hy hz _ => by
  refine ⟨by rw [rng_len]; exact Nat.le_refl n, fun i w e => ?_⟩
  obtain ⟨h1, rfl⟩ := rng_get e
  refine ⟨h1, fun x H'' hq => ?_⟩
  obtain ⟨rfl, rfl⟩ := hq
  exact ⟨.refl, hR, rfl⟩
def okR (i : Int) : Bool := decide (-(2 ^ 62) ≤ i ∧ i < 2 ^ 62)
def iRange1 (fa : FA) : FI := fun ρ s => (fa ρ s).bind fun ws s1 => match ws with
  | [.int j] => if okR j = true then .ok { ws := rng 0 j.toNat } s1 else .no
  | _ => .no
def iRange2 (fa : FA) : FI := fun ρ s => (fa ρ s).bind fun ws s1 => match ws with
  | [.int i, .int j] => if okR i = true ∧ okR j = true then .ok { ws := rng i (j - i).toNat } s1 else .no
  | _ => .no
theorem mi_range1 {tg a : Expr} {fa : FA} {p pos : Pos} (hg : Gl X "range") (hm : X.mg "range" = none) (ha : MA X Γ W [a] fa) (hs : starEach [a] X.env = [(false, eval a X.env)] := by rfl) : MI X Γ W tg (.Call (.Name "range" p) [a] [] pos) (iRange1 fa) :=
  PI.imp (pi_range1 hg hm ha hs) fun σ H Q ⟨μ, Z, ρ, s, hE, hR, q⟩ => iA hE hR q fun ws s1 vs H1 μ1 e1 E1 R1 r1 q1 => by
    split at q1
    · rename_i j
      split at q1
      · rename_i hj
        have hj' : -(2 ^ 62) ≤ j ∧ j < 2 ^ 62 := of_decide_eq_true hj
        obtain ⟨x, xs, rfl, g1, g2⟩ := r1
        rw [show x = .int j from g1, show xs = [] from g2]
        exact ⟨j, rfl, hj'.1, hj'.2, q1 _ _ _ .refl R1 walk_r⟩
      · exact q1.elim
    · exact q1.elim
theorem mi_range2 {tg a b : Expr} {fa : FA} {p pos : Pos} (hg : Gl X "range") (hm : X.mg "range" = none) (ha : MA X Γ W [a, b] fa) (hs : starEach [a, b] X.env = [(false, eval a X.env), (false, eval b X.env)] := by rfl) (hs2 : starEach [b] X.env = [(false, eval b X.env)] := by rfl) :
    MI X Γ W tg (.Call (.Name "range" p) [a, b] [] pos) (iRange2 fa) :=
  PI.imp (pi_range2 hg hm ha hs hs2) fun σ H Q ⟨μ, Z, ρ, s, hE, hR, q⟩ => iA hE hR q fun ws s1 vs H1 μ1 e1 E1 R1 r1 q1 => by
    split at q1
    · rename_i i j
      split at q1
      · rename_i hj
        have hi : -(2 ^ 62) ≤ i ∧ i < 2 ^ 62 := of_decide_eq_true hj.1
        have hj' : -(2 ^ 62) ≤ j ∧ j < 2 ^ 62 := of_decide_eq_true hj.2
        obtain ⟨x, xs, rfl, g1, y, ys, rfl, g2, g3⟩ := r1
        rw [show x = .int i from g1, show y = .int j from g2, show ys = [] from g3]
        exact ⟨i, j, rfl, ⟨hi.1, hi.2, hj'.1, hj'.2⟩, q1 _ _ _ .refl R1 walk_r⟩
      · exact q1.elim
    · exact q1.elim
/-- whether the list that is walked stands as it did -/
def still (s : Sto) (r : Option (Nat × List Dv)) : Prop := ∀ n us, r = some (n, us) → s[n]? = some (.lst us)
open Classical in
noncomputable def stB (s : Sto) (r : Option (Nat × List Dv)) : Bool := decide (still s r)
noncomputable def forL (ow : Option (Nat × List Dv)) (g : FG) (body : FS) : List Dv → FS
  | [], ρ, s => if ow.isNone = true ∨ stB s ow = true then .nx ρ s else .no
  | w :: ws, ρ, s => if ow.isNone = true ∨ stB s ow = true then match g w ρ s with
    | none => .no
    | some ρ1 => match body ρ1 s with
      | .nx ρ2 s2 => forL ow g body ws ρ2 s2
      | .ct ρ2 s2 => forL ow g body ws ρ2 s2
      | .bk ρ2 s2 => .nx ρ2 s2
      | .rt v s2 => .rt v s2
      | .er x ρ2 s2 => .er x ρ2 s2
      | .no => .no
    else .no
noncomputable def mFor (f : FI) (g : FG) (body : FS) : FS := fun ρ s => (f ρ s).thenC ρ fun r s1 => forL r.ow g body r.ws ρ s1
open Classical in
theorem st_of {s : Sto} {ow : Option (Nat × List Dv)} (h : ow.isNone = true ∨ stB s ow = true) : still s ow := by
  rcases h with h | h
  · intro n us e
    rw [e] at h
    cases h
  · unfold stB at h
    exact of_decide_eq_true h
theorem iS {H : Hp} {μ : Mu} {Z : Zs} {σ : L2.St} {ρ : Env} {s : Sto} {f : FI} {k : Src → Sto → C} {D : Ends} {Q' : It → Hp → Prop} (hE : RE Γ H μ Z ρ σ) (hR : Rep Γ H μ Z s) (h : PostS Γ W H μ Z D ((f ρ s).thenC ρ k))
    (hk : ∀ r s1 J H1 μ1, Evo H μ H1 μ1 → RE Γ H1 μ1 Z ρ σ → Rep Γ H1 μ1 Z s1 → Walks Γ Z H1 μ1 r.ow J r.ws → PostS Γ W H1 μ1 Z D (k r s1) → Q' J H1) : rdI Γ W f σ H Q' := by
  refine ⟨μ, Z, ρ, s, hE, hR, ?_⟩
  cases e : f ρ s with
  | ok r s1 => rw [e] at h; exact fun J H1 μ1 ev R1 w => hk r s1 J H1 μ1 ev (hE.mono ev) R1 w (PostS.evo ev h)
  | er x s1 => rw [e] at h; exact fun c d H' μ' ev R' rx => h c d σ H' μ' ev R' (hE.mono ev) rx
  | no => rw [e] at h; exact h.elim
theorem for_ok {H : Hp} {μ : Mu} {Z : Zs} {σ : L2.St} {ρ : Env} {s : Sto} {D : Ends} {g : TG} {fg : FG} {body : FS} {ow : Option (Nat × List Dv)} {ws : List Dv} {J : It} (hg : GOk Γ g fg) (hE : RE Γ H μ Z ρ σ) (hR : Rep Γ H μ Z s) (hw : Walks Γ Z H μ ow J ws)
    (q : PostS Γ W H μ Z D (forL ow fg body ws ρ s)) :
    ∃ Wn : Nat → Nat → L2.St → Hp → Prop, (∃ m, Wn 0 m σ H) ∧ ∀ i m σ H, Wn i m σ H → (J.stop i H ∧ D.nx σ H) ∨ (J.go i H ∧ ∃ N : L2.St → Hp → Prop, (∀ σ' H', N σ' H' → ∃ m', m' < m ∧ Wn (i + 1) m' σ' H') ∧
      ∀ x H', J.yld i H x H' → g x σ H' fun σ2 H2 => rdS Γ W body { D with nx := N, ct := N, bk := D.nx } σ2 H2) := by
  let P : Nat → L2.St → Hp → Prop := fun i σ1 H1 => ∃ μ1 ρ1 s1, Evo H μ H1 μ1 ∧ RE Γ H1 μ1 Z ρ1 σ1 ∧ Rep Γ H1 μ1 Z s1 ∧ PostS Γ W H1 μ1 Z D (forL ow fg body (ws.drop i) ρ1 s1)
  refine ⟨fun i m σ1 H1 => m = ws.length - i ∧ i ≤ ws.length ∧ P i σ1 H1, ⟨ws.length, by omega, Nat.zero_le _, μ, ρ, s, .refl, hE, hR, q⟩, ?_⟩
  rintro i m σ1 H1 ⟨rfl, hi, μ1, ρ1, s1, ev, E1, R1, q1⟩
  by_cases hl : i < ws.length
  · have hd : ws.drop i = ws[i] :: ws.drop (i + 1) := List.drop_eq_getElem_cons hl
    rw [hd] at q1
    simp only [forL] at q1
    split at q1
    · rename_i hst
      obtain ⟨_, hgo⟩ := hw H1 μ1 Z s1 ev.z R1 (fun _ z => z) (fun a z => .inl z) (st_of hst)
      obtain ⟨h1, h2⟩ := hgo i ws[i] (List.getElem?_eq_getElem hl)
      refine .inr ⟨h1, P (i + 1), fun σ' H' p => ⟨_, by omega, rfl, hl, p⟩, fun x H' hy => ?_⟩
      obtain ⟨e2, R2, r2⟩ := h2 x H' hy
      cases eg : fg ws[i] ρ1 s1 with
      | none => rw [eg] at q1; exact q1.elim
      | some ρ2 =>
        rw [eg] at q1
        dsimp only at q1
        refine hg H' μ1 Z ρ1 ρ2 s1 σ1 ws[i] x _ (E1.mono e2) R2 r2 eg fun σ2 E2 => ⟨μ1, Z, ρ2, s1, E2, R2, ?_⟩
        cases eb : body ρ2 s1 with
        | nx ρ3 s3 => rw [eb] at q1; exact fun σ3 H3 μ3 e3 R3 E3 => ⟨μ3, ρ3, s3, (ev.trans e2).trans e3, E3, R3, PostS.evo (e2.trans e3) q1⟩
        | ct ρ3 s3 => rw [eb] at q1; exact fun σ3 H3 μ3 e3 R3 E3 => ⟨μ3, ρ3, s3, (ev.trans e2).trans e3, E3, R3, PostS.evo (e2.trans e3) q1⟩
        | bk ρ3 s3 => rw [eb] at q1; exact fun σ3 H3 μ3 e3 R3 E3 => q1 σ3 H3 μ3 (e2.trans e3) R3 E3
        | rt v s3 => rw [eb] at q1; exact fun v3 H3 μ3 e3 R3 r3 => q1 v3 H3 μ3 (e2.trans e3) R3 r3
        | er x3 ρ3 s3 => rw [eb] at q1; exact fun c d σ3 H3 μ3 e3 R3 E3 r3 => q1 c d σ3 H3 μ3 (e2.trans e3) R3 E3 r3
        | no => rw [eb] at q1; exact q1.elim
    · exact q1.elim
  · have he : i = ws.length := by omega
    subst he
    rw [List.drop_length] at q1
    simp only [forL] at q1
    split at q1
    · rename_i hst
      obtain ⟨hs, _⟩ := hw H1 μ1 Z s1 ev.z R1 (fun _ z => z) (fun a z => .inl z) (st_of hst)
      exact .inl ⟨hs, q1 σ1 H1 μ1 .refl R1 E1⟩
    · exact q1.elim
theorem ms_for {tg iter : Expr} {bd : List Stmt} {f : FI} {g : TG} {fg : FG} {body : FS} (hp : PassesOwn (model X.prog X.w) X.A X.env X.xe) (hc : X.calm = true) (hi : MI X Γ W tg iter f) (hg : MG X Γ tg g fg) (hb : MB X Γ W bd body)
    (hs : ∀ x, foldedSetIterable iter X.env x = pure x := by intro _; rfl) : MS X Γ W (.For tg iter bd [] pos) (mFor f fg body) :=
  PS.imp (ps_for hp hc hi hg.1 hb hs) fun D σ H ⟨μ, Z, ρ, s, hE, hR, q⟩ => iS hE hR q fun r s1 J H1 μ1 e1 E1 R1 w1 q1 => for_ok hg.2 E1 R1 w1 q1
end
end MP
set_option Elab.async false
set_option linter.all false
set_option maxRecDepth 100000
set_option maxHeartbeats 4000000
namespace MP
open PySem PySem.Spec PyProof.Rows L2
/-- nothing is raised here -/
abbrev W0 : WX := fun _ _ _ _ => False
section
variable {X : Cx} {Γ : Ct} {W : WX} {H H1 H' : Hp} {μ μ1 μ' : Mu} {Z Z' : Zs} {ρ : Env} {σ : L2.St} {s : Sto} {p : Addr} {o : HO}
abbrev hid (p : Addr) (Z : Zs) : Zs := fun b => b = p ∨ Z b
theorem RO.strong {a : Addr} {ob : Ob} (h : ∀ a, Z' a → Z a ∨ H a = none) (r : RO Γ H μ Z a ob) : RO Γ H μ Z' a ob := by
  cases ob with
  | lst ws =>
    obtain ⟨xs, h4, h5⟩ := r
    exact ⟨xs, h4, RVs.strong h ws h5⟩
  | dct kws =>
    obtain ⟨kvs, h4, h5, h6⟩ := r
    exact ⟨kvs, h4, h5, RVs.strong h _ h6⟩
  | dtt fr kws =>
    obtain ⟨kvs, h4, h5, h6, h7⟩ := r
    exact ⟨kvs, h4, h5, RVs.strong h _ h6, RVs.strong h _ h7⟩
  | obj c fs =>
    obtain ⟨dx, kvs, h4, h5, h6⟩ := r
    exact ⟨dx, kvs, h4, h5, RVs.strong h _ h6⟩
  | tab m q => exact ⟨r.1, tab_imp rfl (fun c e1 e2 => ⟨e1, e2.1, fun z => (h c z).elim e2.2 (by rw [e1]; intro y; cases y)⟩) r.2⟩
theorem RO.weak {a : Addr} {ob : Ob} (h : ∀ a, Z a → Z' a) (r : RO Γ H μ Z' a ob) : RO Γ H μ Z a ob := by
  cases ob with
  | lst ws =>
    obtain ⟨xs, h4, h5⟩ := r
    exact ⟨xs, h4, RVs.weak h ws h5⟩
  | dct kws =>
    obtain ⟨kvs, h4, h5, h6⟩ := r
    exact ⟨kvs, h4, h5, RVs.weak h _ h6⟩
  | dtt fr kws =>
    obtain ⟨kvs, h4, h5, h6, h7⟩ := r
    exact ⟨kvs, h4, h5, RVs.weak h _ h6, RVs.weak h _ h7⟩
  | obj c fs =>
    obtain ⟨dx, kvs, h4, h5, h6⟩ := r
    exact ⟨dx, kvs, h4, h5, RVs.weak h _ h6⟩
  | tab m q => exact ⟨r.1, tab_imp rfl (fun c e1 e2 => ⟨e1, e2.weak h⟩) r.2⟩
theorem Rep.weak (h : ∀ a, Z a → Z' a) (hR : Rep Γ H μ Z' s) : Rep Γ H μ Z s := ⟨fun n ob q => by
  obtain ⟨a, h1, h2, h3⟩ := hR.at n ob q
  exact ⟨a, h1, fun z => h2 (h a z), h3.weak h⟩, hR.inj, hR.dom, fun a z => hR.za a (h a z)⟩
/-- a fresh object, hidden -/
theorem Rep.hide (hR : Rep Γ H μ Z s) (hp : H p = none) : Rep Γ (upd H p o) μ (hid p Z) s := by
  have hz : ∀ a, hid p Z a → Z a ∨ H a = none := fun a z => z.elim (fun e => .inr (e ▸ hp)) .inl
  have ev : Evo H μ (upd H p o) μ := Evo.laid hp
  refine ⟨fun n ob q => ?_, hR.inj, hR.dom, fun a z => ?_⟩
  · obtain ⟨a, h1, h2, h3⟩ := hR.at n ob q
    have hne : a ≠ p := fun e => hR.alive h1 (e ▸ hp)
    exact ⟨a, h1, fun z => z.elim hne h2, (h3.strong hz).mono' ev (upd_ne hne)⟩
  · by_cases e : a = p
    · rw [e, upd_same]; intro y; cases y
    · rw [upd_ne e]
      exact hR.za a (z.resolve_left e)
theorem RE.hide (hE : RE Γ H μ Z ρ σ) (hp : H p = none) : RE Γ (upd H p o) μ (hid p Z) ρ σ := ⟨hE.1, fun i w q => by
  obtain ⟨v, h1, h2⟩ := hE.2 i w q
  exact ⟨v, h1, (RV.strong (fun a z => z.elim (fun e => .inr (e ▸ hp)) .inl) w h2).mono (Evo.laid hp)⟩⟩
theorem Evo.hid (e : Evo H μ H1 μ1) (hp : H p = none) : Evo H μ (upd H1 p o) μ1 where
  keep := fun a ob h hn => by rw [upd_ne (ne_of_none h hp)]; exact e.keep a ob h hn
  mu := e.mu
  new := e.new
  stay := fun n a h q => by
    rw [upd_ne (fun z : a = p => q (by rw [z]; exact hp))]
    exact e.stay n a h q
theorem RO.updZ {a : Addr} {ob : Ob} (hne : a ≠ p) (r : RO Γ H μ (MP.hid p Z) a ob) : RO Γ (upd H p o) μ (MP.hid p Z) a ob := by
  cases ob with
  | lst ws =>
    obtain ⟨xs, h4, h5⟩ := r
    exact ⟨xs, by rw [upd_ne hne]; exact h4, RVs.updZ ws h5⟩
  | dct kws =>
    obtain ⟨kvs, h4, h5, h6⟩ := r
    exact ⟨kvs, by rw [upd_ne hne]; exact h4, h5, RVs.updZ _ h6⟩
  | dtt fr kws =>
    obtain ⟨kvs, h4, h5, h6, h7⟩ := r
    exact ⟨kvs, h4.eq (upd_ne hne), h5, RVs.updZ _ h6, RVs.updZ _ h7⟩
  | obj c fs =>
    obtain ⟨dx, kvs, h4, h5, h6⟩ := r
    exact ⟨dx, kvs, by rw [upd_ne hne]; exact h4, h5, RVs.updZ _ h6⟩
  | tab m q => exact ⟨r.1, tab_imp (upd_ne hne) (fun c e1 e2 => ⟨by rw [upd_ne e2.evoZ]; exact e1, e2⟩) r.2⟩
theorem Rep.updZ (hR : Rep Γ H μ (MP.hid p Z) s) : Rep Γ (upd H p o) μ (MP.hid p Z) s := ⟨fun n ob q => by
  obtain ⟨a, h1, h2, h3⟩ := hR.at n ob q
  exact ⟨a, h1, h2, h3.updZ fun e => h2 (.inl e)⟩, hR.inj, hR.dom, fun a z => by
    by_cases e : a = p
    · rw [e, upd_same]; intro y; cases y
    · rw [upd_ne e]; exact hR.za a z⟩
theorem RE.wipe (hE : RE Γ H μ Z ρ σ) : ∀ vs : List Nat, RE Γ H μ Z (vs.foldr (fun v r => r.set v none) ρ) (L2.wipe σ vs)
  | [] => hE
  | v :: vs => (RE.wipe hE vs).del v
end
def wipeD (ρ : Env) (vs : List Nat) : Env := vs.foldr (fun v r => r.set v none) ρ
noncomputable def compL (ow : Option (Nat × List Dv)) (vs : List Nat) (g : FG) (tt : FT) (elt : FE) (ρ : Env) : List Dv → Sto → Option (List Dv × Sto)
  | [], s => if ow.isNone = true ∨ stB s ow = true then some ([], s) else none
  | w :: ws, s => if ow.isNone = true ∨ stB s ow = true then match g w (wipeD ρ vs) s with
    | none => none
    | some ρ1 => match tt ρ1 s with
      | .ok true s2 => match elt ρ1 s2 with
        | .ok y s3 => (compL ow vs g tt elt ρ ws s3).map fun r => (y :: r.1, r.2)
        | _ => none
      | .ok false s2 => compL ow vs g tt elt ρ ws s2
      | _ => none
    else none
noncomputable def mComp (f : FI) (vs : List Nat) (g : FG) (tt : FT) (elt : FE) : FE := fun ρ s => (f ρ s).bind fun r s1 => match compL r.ow vs g tt elt ρ r.ws s1 with
  | some (ws, s2) => if ws.length ≤ lim then .ok (.lst ws) s2 else .no
  | none => .no
def mYes : FT := fun _ s => .ok true s
/-- a target within the block's own names -/
def GWk (Γ : Ct) (g : TG) (fg : FG) (vs : List Nat) : Prop := ∀ (H : Hp) (μ : Mu) (Z : Zs) (ρ ρ' : Env) (s : Sto) (σ : L2.St) (w : Dv) (v : V) (Q : L2.St → Hp → Prop), RE Γ H μ Z ρ σ → Rep Γ H μ Z s → RV Γ H μ Z w v → fg w ρ s = some ρ' →
  (∀ σ', RE Γ H μ Z ρ' σ' → L2.wipe σ' vs = L2.wipe σ vs → Q σ' H) → g v σ H Q
def GsWk (Γ : Ct) (g : TGs) (fg : List Dv → Env → Sto → Option Env) (vs : List Nat) : Prop := ∀ (H : Hp) (μ : Mu) (Z : Zs) (ρ ρ' : Env) (s : Sto) (σ : L2.St) (ws : List Dv) (xs : List V) (Q : L2.St → Hp → Prop), RE Γ H μ Z ρ σ → Rep Γ H μ Z s → RVs Γ H μ Z ws xs → fg ws ρ s = some ρ' →
  (∀ σ', RE Γ H μ Z ρ' σ' → L2.wipe σ' vs = L2.wipe σ vs → Q σ' H) → g xs σ H Q
theorem wipe_set (σ : L2.St) (i : Nat) (v : Option V) : ∀ vs : List Nat, i ∈ vs → L2.wipe (σ.set i v) vs = L2.wipe σ vs
  | [], h => nomatch h
  | j :: vs, h => by
    show (L2.wipe (σ.set i v) vs).set j none = (L2.wipe σ vs).set j none
    by_cases hm : i ∈ vs
    · rw [wipe_set σ i v vs hm]
    · have e : i = j := (List.mem_cons.mp h).resolve_right hm
      subst e
      have comm : ∀ (us : List Nat), i ∉ us → L2.wipe (σ.set i v) us = (L2.wipe σ us).set i v := fun us => by
        induction us with
        | nil => intro _; rfl
        | cons k us ih =>
          intro hk
          show (L2.wipe (σ.set i v) us).set k none = ((L2.wipe σ us).set k none).set i v
          rw [ih fun z => hk (List.mem_cons_of_mem _ z)]
          exact List.set_comm _ _ fun z => hk (by rw [z]; exact List.mem_cons_self)
      rw [comm vs hm, List.set_set]
theorem wipe_wipe (σ : L2.St) (vs : List Nat) : L2.wipe (L2.wipe σ vs) vs = L2.wipe σ vs := by
  have key : ∀ (us : List Nat), (∀ i ∈ us, i ∈ vs) → L2.wipe (L2.wipe σ us) vs = L2.wipe σ vs := fun us => by
    induction us with
    | nil => intro _; rfl
    | cons j us ih =>
      intro h
      show L2.wipe ((L2.wipe σ us).set j none) vs = _
      rw [wipe_set _ j none vs (h j List.mem_cons_self)]
      exact ih fun i hi => h i (List.mem_cons_of_mem _ hi)
  exact key vs fun _ h => h
section
variable {X : Cx} {Γ : Ct} {W : WX}
theorem gw_name {i : Nat} {vs : List Nat} (h : i ∈ vs) : GWk Γ (gName i) (gN i) vs := fun H μ Z ρ ρ' s σ w v Q hE hR r e k => by
  cases e
  exact k _ (hE.set i r) (wipe_set σ i (some v) vs h)
theorem gws_nil {vs : List Nat} : GsWk Γ gNil gs0 vs := fun H μ Z ρ ρ' s σ ws xs Q hE hR r e k => by
  cases ws with
  | nil => cases e; exact ⟨r, k σ hE rfl⟩
  | cons _ _ => cases e
theorem gws_cons {g : TG} {gs : TGs} {fg : FG} {fgs : List Dv → Env → Sto → Option Env} {vs : List Nat} (h1 : GWk Γ g fg vs) (h2 : GsWk Γ gs fgs vs) : GsWk Γ (gCons g gs) (gsC fg fgs) vs := fun H μ Z ρ ρ' s σ ws xs Q hE hR r e k => by
  cases ws with
  | nil => cases e
  | cons w ws =>
    obtain ⟨x, xs, rfl, r1, r2⟩ := r
    simp only [gsC] at e
    cases q : fg w ρ s with
    | none => rw [q] at e; cases e
    | some ρ1 =>
      rw [q] at e
      exact ⟨x, xs, rfl, h1 H μ Z ρ ρ1 s σ w x _ hE hR r1 q fun σ1 E1 hw => h2 H μ Z ρ1 ρ' s σ1 ws xs Q E1 hR r2 e fun σ' E' hw' => k σ' E' (hw'.trans hw)⟩
theorem gw_tup {K : PySem.W.Frag} {n : Nat} {gs : TGs} {fgs : List Dv → Env → Sto → Option Env} {vs : List Nat} (hK : K = Γ.K) (h2 : GsWk Γ gs fgs vs) : GWk Γ (gTup K n gs) (gT n fgs) vs := fun H μ Z ρ ρ' s σ w v Q hE hR r e k => by
  subst hK
  unfold gT at e
  split at e
  · rename_i ws q
    split at e
    · rename_i hl
      cases w with
      | tup us =>
        cases q
        obtain ⟨a, xs, h1, h3, h4⟩ := r
        exact ⟨a, xs, h1, h3.sq, by rw [h4.len]; exact hl, h2 H μ Z ρ ρ' s σ _ xs Q hE hR h4 e k⟩
      | _ => cases q
    · cases e
  · cases e
theorem iE {H : Hp} {μ : Mu} {Z : Zs} {σ : L2.St} {ρ : Env} {s : Sto} {f : FI} {k : Src → Sto → R Dv} {Q : VK} {Q' : It → Hp → Prop} (hE : RE Γ H μ Z ρ σ) (hR : Rep Γ H μ Z s) (h : PostE Γ W H μ Z σ Q ((f ρ s).bind k))
    (hk : ∀ r s1 J H1 μ1, Evo H μ H1 μ1 → RE Γ H1 μ1 Z ρ σ → Rep Γ H1 μ1 Z s1 → Walks Γ Z H1 μ1 r.ow J r.ws → PostE Γ W H1 μ1 Z σ Q (k r s1) → Q' J H1) : rdI Γ W f σ H Q' := by
  refine ⟨μ, Z, ρ, s, hE, hR, ?_⟩
  cases e : f ρ s with
  | ok r s1 => rw [e] at h; exact fun J H1 μ1 ev R1 w => hk r s1 J H1 μ1 ev (hE.mono ev) R1 w (PostE.evo ev h)
  | er x s1 => rw [e] at h; exact h
  | no => rw [e] at h; exact h.elim
/-- the walk of a comprehension -/
theorem comp_ok {H1 : Hp} {μ1 : Mu} {Z : Zs} {σ : L2.St} {ρ : Env} {s1 s2 : Sto} {g : TG} {fg : FG} {tt : FT} {elt : FE} {vs : List Nat} {ow : Option (Nat × List Dv)} {ws tot : List Dv} {J : It} {Qd : Hp → Prop} {D : Addr} (hg : GWk Γ g fg vs) (hE : RE Γ H1 μ1 Z ρ σ) (hR : Rep Γ H1 μ1 Z s1) (hw : Walks Γ Z H1 μ1 ow J ws) (hD : H1 D = none)
    (q : compL ow vs fg tt elt ρ ws s1 = some (tot, s2)) (hl : tot.length ≤ lim)
    (fin : ∀ H μ acc, Evo H1 μ1 H μ → Rep Γ H μ (hid D Z) s2 → H D = some (.lst acc) → RVs Γ H μ (hid D Z) tot acc → Qd H) :
    ∃ Wn : Nat → Nat → Hp → Prop, (∃ m, Wn 0 m (upd H1 D (.lst []))) ∧ ∀ i m H, Wn i m H → (J.stop i H ∧ Qd H) ∨ (J.go i H ∧ ∃ Nx : Hp → Prop, (∀ H', Nx H' → ∃ m', m' < m ∧ Wn (i + 1) m' H') ∧
      ∀ x H', J.yld i H x H' → g x (L2.wipe σ vs) H' fun σ2 H2 => L2.wipe σ2 vs = L2.wipe σ vs ∧ rdT Γ W0 tt σ2 H2 fun b H3 =>
        if b = true then rdE Γ W0 elt σ2 H3 fun y H4 => ∃ acc, H4 D = some (.lst acc) ∧ acc.length < sizeLine ∧ Nx (upd H4 D (.lst (acc ++ [y]))) else Nx H3) := by
  let P : Nat → Hp → Prop := fun i H => ∃ μ s wa acc r, Evo H1 μ1 H μ ∧ Rep Γ H μ (hid D Z) s ∧ H D = some (.lst acc) ∧ RVs Γ H μ (hid D Z) wa acc ∧ compL ow vs fg tt elt ρ (ws.drop i) s = some (r, s2) ∧ wa ++ r = tot
  refine ⟨fun i m H => m = ws.length - i ∧ i ≤ ws.length ∧ P i H, ⟨ws.length, by omega, Nat.zero_le _, μ1, s1, [], [], tot, Evo.laid hD, hR.hide hD, upd_same, rfl, q, rfl⟩, ?_⟩
  rintro i m H ⟨rfl, hi, μ, s, wa, acc, r, ev, R, hH, ra, qr, ht⟩
  have hz : ∀ a, hid D Z a → Z a ∨ H1 a = none := fun a z => z.elim (fun e => .inr (e ▸ hD)) .inl
  have E : RE Γ H μ (hid D Z) ρ σ := ⟨hE.1, fun j w e => by
    obtain ⟨v, g1, g2⟩ := hE.2 j w e
    exact ⟨v, g1, (RV.strong hz w g2).mono ev⟩⟩
  by_cases hlt : i < ws.length
  · have hd : ws.drop i = ws[i] :: ws.drop (i + 1) := List.drop_eq_getElem_cons hlt
    rw [hd] at qr
    simp only [compL] at qr
    split at qr
    · rename_i hst
      obtain ⟨_, hgo⟩ := hw H μ (hid D Z) s ev.z R (fun a z => .inr z) hz (st_of hst)
      obtain ⟨h1, h2⟩ := hgo i ws[i] (List.getElem?_eq_getElem hlt)
      refine .inr ⟨h1, P (i + 1), fun H' p => ⟨_, by omega, rfl, hlt, p⟩, fun x H' hy => ?_⟩
      obtain ⟨e2, R2, r2⟩ := h2 x H' hy
      cases eg : fg ws[i] (wipeD ρ vs) s with
      | none => rw [eg] at qr; cases qr
      | some ρ2 =>
        rw [eg] at qr
        dsimp only at qr
        refine hg H' μ (hid D Z) (wipeD ρ vs) ρ2 s (L2.wipe σ vs) ws[i] x _ ((E.mono e2).wipe vs) R2 r2 eg fun σ2 E2 hwp => ⟨hwp.trans (wipe_wipe σ vs), μ, hid D Z, ρ2, s, E2, R2, ?_⟩
        cases et : tt ρ2 s with
        | no => rw [et] at qr; cases qr
        | er x3 s3 => rw [et] at qr; cases qr
        | ok b s3 =>
          rw [et] at qr
          intro H3 μ3 e3 R3
          have hH3 : H3 D = some (.lst acc) := e3.keep _ _ (e2.keep _ _ hH fun n hn => R.notZ hn (.inl rfl)) fun n hn => R2.notZ hn (.inl rfl)
          have ra3 : RVs Γ H3 μ3 (hid D Z) wa acc := (ra.mono e2).mono e3
          cases b with
          | false =>
            rw [if_neg Bool.false_ne_true]
            exact ⟨μ3, s3, wa, acc, r, (ev.trans e2).trans e3, R3, hH3, ra3, qr, ht⟩
          | true =>
            rw [if_pos rfl]
            dsimp only at qr
            refine ⟨μ3, hid D Z, ρ2, s3, E2.mono e3, R3, ?_⟩
            cases ee : elt ρ2 s3 with
            | no => rw [ee] at qr; cases qr
            | er x4 s4 => rw [ee] at qr; cases qr
            | ok y s4 =>
              rw [ee] at qr
              dsimp only at qr
              intro v H4 μ4 e4 R4 r4
              cases ec : compL ow vs fg tt elt ρ (ws.drop (i + 1)) s4 with
              | none => rw [ec] at qr; cases qr
              | some rr =>
                rw [ec] at qr
                obtain ⟨r', s''⟩ := rr
                cases qr
                have hH4 : H4 D = some (.lst acc) := e4.keep _ _ hH3 fun n hn => R3.notZ hn (.inl rfl)
                have hlen : acc.length < sizeLine := by
                  have := ra.len
                  rw [← ht, List.length_append] at hl
                  exact lim_lt (by omega)
                refine ⟨acc, hH4, hlen, μ4, s4, wa ++ [y], acc ++ [v], r', (((ev.trans e2).trans e3).trans e4).hid hD, R4.updZ, upd_same, RVs.append (RVs.updZ wa (ra3.mono e4)) (RVs.cons (RV.updZ y r4) rfl), ec, ?_⟩
                rw [← ht]
                simp
    · cases qr
  · have he : i = ws.length := by omega
    subst he
    rw [List.drop_length] at qr
    simp only [compL] at qr
    split at qr
    · rename_i hst
      cases qr
      obtain ⟨hs, _⟩ := hw H μ (hid D Z) _ ev.z R (fun a z => .inr z) hz (st_of hst)
      rw [List.append_nil] at ht
      subst ht
      exact .inl ⟨hs, fin H μ acc ev R hH ra⟩
    · cases qr
theorem PTs.imp {ifs : List Expr} {t t' : TT} (h : PTs X ifs t) (k : ∀ σ H Q, t' σ H Q → t σ H Q) : PTs X ifs t' := ⟨fun pins s σ H Q I q => h.run pins s σ H Q I (k σ H Q q)⟩
def MTs (X : Cx) (Γ : Ct) (ifs : List Expr) (t : FT) : Prop := PTs X ifs (rdT Γ W0 t)
theorem mts_nil : MTs X Γ [] mYes := PTs.imp pts_nil fun σ H Q ⟨μ, Z, ρ, s, hE, hR, q⟩ => q H μ .refl hR
theorem mts_one {c : Expr} {t : FT} (h : MT X Γ W0 c t) : MTs X Γ [c] t := pts_one h
theorem fin_lst {H1 H : Hp} {μ1 μ : Mu} {Z : Zs} {σ : L2.St} {s1 s2 : Sto} {tot : List Dv} {acc : List V} {D : Addr} {Q : VK} (hR1 : Rep Γ H1 μ1 Z s1) (hD : H1 D = none) (ev : Evo H1 μ1 H μ) (R : Rep Γ H μ (hid D Z) s2) (hH : H D = some (.lst acc)) (ra : RVs Γ H μ (hid D Z) tot acc)
    (q : PostE Γ W H1 μ1 Z σ Q (.ok (.lst tot) s2)) : Q (.ref D) H :=
  q _ H μ ev (R.weak fun a z => .inr z) ⟨D, acc, rfl, hH, ⟨fun n hn => R.notZ hn (.inl rfl), fun z => hR1.za D z hD⟩, RVs.weak (fun a z => .inr z) tot ra⟩
theorem me_comp {elt tg iter : Expr} {ifs : List Expr} {scope : Scope} {own : List (Str × Nat)} {pos : Pos} {f : FI} {g : TG} {fg : FG} {tt : FT} {fe : FE} (hc : X.calm = true) (hN : X.N.Nodup) (hi : MI X Γ W tg iter f) (ok : BlkOk X.N X.env.scope scope own)
    (hg : ∀ (s : Shared) (H : Hp) (C : Addr) (cl : List (Str × Addr)) (fp : List Addr), PG (X.blk s H scope (compEnvC scope cl C X.env) fp) tg g) (hw : GWk Γ g fg (own.map (·.2)))
    (ht : ∀ (s : Shared) (H : Hp) (C : Addr) (cl : List (Str × Addr)) (fp : List Addr), MTs (X.blk s H scope (compEnvC scope cl C X.env) fp) Γ ifs tt)
    (he : ∀ (s : Shared) (H : Hp) (C : Addr) (cl : List (Str × Addr)) (fp : List Addr), ME (X.blk s H scope (compEnvC scope cl C X.env) fp) Γ W0 elt fe) (hs : ∀ x, foldedSetIterable iter X.env x = pure x := by intro _; rfl) :
    ME X Γ W (.ListComp elt [⟨tg, iter, ifs, 0⟩] scope pos) (mComp f (own.map (·.2)) fg tt fe) :=
  PE.imp (pe_lc hc hN hi ok hg ht he hs) fun σ H Q ⟨μ, Z, ρ, s, hE, hR, q⟩ => iE hE hR q fun r s1 J H1 μ1 e1 E1 R1 w1 q1 D hD => by
    cases e : compL r.ow (own.map (·.2)) fg tt fe ρ r.ws s1 with
    | none => rw [e] at q1; exact q1.elim
    | some p =>
      obtain ⟨tot, s2⟩ := p
      rw [e] at q1
      dsimp only at q1
      split at q1
      · rename_i hl
        exact comp_ok hw E1 R1 w1 hD e hl fun H2 μ2 acc ev R2 hH ra => fin_lst R1 hD ev R2 hH ra q1
      · exact q1.elim
theorem asg_post {H : Hp} {μ : Mu} {Z : Zs} {σ : L2.St} {ρ : Env} {s : Sto} {f : FE} {i : Nat} {D : Ends} (hE : RE Γ H μ Z ρ σ) (q : PostS Γ W H μ Z D (mAsg f (gN i) ρ s)) : PostE Γ W H μ Z σ (fun x H1 => D.nx (σ.set i (some x)) H1) (f ρ s) := by
  unfold mAsg at q
  cases e : f ρ s with
  | ok w s1 => rw [e] at q; exact fun v H1 μ1 ev R1 r1 => q _ H1 μ1 ev R1 ((hE.mono ev).set i r1)
  | er x s1 => rw [e] at q; exact fun c d H1 μ1 ev R1 r1 => q c d σ H1 μ1 ev R1 (hE.mono ev) r1
  | no => rw [e] at q; exact q
/-- name = [..] on one line -/
theorem ms_setComp {i : Nat} {y : Str} {py : Pos} {elt tg iter : Expr} {ifs : List Expr} {scope : Scope} {own : List (Str × Nat)} {pos spos : Pos} {f : FI} {g : TG} {fg : FG} {tt : FT} {fe : FE} (hc : X.calm = true) (hN : X.N.Nodup) (hy : X.N[i]? = some y) (hyl : X.env.scope.names.lookup y = some .local)
    (hsw : swapsWith (.ListComp elt [⟨tg, iter, ifs, 0⟩] scope pos) (some (.Name y py)) spos.line X.env = pure true) (hi : MI X Γ W tg iter f) (ok : BlkOk X.N X.env.scope scope own)
    (hg : ∀ (s : Shared) (H : Hp) (C : Addr) (cl : List (Str × Addr)) (fp : List Addr), PG (X.blk s H scope (compEnvC scope cl C X.env) fp) tg g) (hw : GWk Γ g fg (own.map (·.2)))
    (ht : ∀ (s : Shared) (H : Hp) (C : Addr) (cl : List (Str × Addr)) (fp : List Addr), MTs (X.blk s H scope (compEnvC scope cl C X.env) fp) Γ ifs tt)
    (he : ∀ (s : Shared) (H : Hp) (C : Addr) (cl : List (Str × Addr)) (fp : List Addr), ME (X.blk s H scope (compEnvC scope cl C X.env) fp) Γ W0 elt fe) (hs : ∀ x, foldedSetIterable iter X.env x = pure x := by intro _; rfl) :
    MS X Γ W (.Assign [.Name y py] (.ListComp elt [⟨tg, iter, ifs, 0⟩] scope pos) spos) (mAsg (mComp f (own.map (·.2)) fg tt fe) (gN i)) :=
  PS.imp (ps_setLc hc hN hy hyl hsw hi ok hg ht he hs) fun D σ H h => by
    obtain ⟨μ, Z, ρ, s, hE, hR, q⟩ := h
    replace q := asg_post hE q
    exact iE hE hR q fun r s1 J H1 μ1 e1 E1 R1 w1 q1 D hD => by
      cases e : compL r.ow (own.map (·.2)) fg tt fe ρ r.ws s1 with
      | none => rw [e] at q1; exact q1.elim
      | some p =>
        obtain ⟨tot, s2⟩ := p
        rw [e] at q1
        dsimp only at q1
        split at q1
        · rename_i hl
          exact comp_ok hw E1 R1 w1 hD e hl fun H2 μ2 acc ev R2 hH ra => fin_lst R1 hD ev R2 hH ra q1
        · exact q1.elim
end
mutual
def clean (n : Nat) : Dv → Bool
  | .ref k => decide (k < n)
  | .tup ws => cleans n ws
  | .lst ws => cleans n ws
  | .sq ws => cleans n ws
  | .dct _ ws => cleans n ws
  | .dtt kd ws => cleans n kd && cleans n ws
  | .exc _ _ w => clean n w
  | .clo _ _ _ ws _ => cleans n ws
  | _ => true
def cleans (n : Nat) : List Dv → Bool
  | [] => true
  | w :: ws => clean n w && cleans n ws
end
def Ob.clean (n : Nat) : Ob → Bool
  | .lst ws => cleans n ws
  | .dct kws => cleans n (kws.map (·.2))
  | .dtt _ kws => cleans n (kws.map (·.1)) && cleans n (kws.map (·.2))
  | .obj _ fs => cleans n (fs.map (·.2))
  | .tab _ _ => true
def mapO {α β : Type} (f : α → Option β) : List α → Option (List β)
  | [] => some []
  | a :: r => match f a, mapO f r with
    | some b, some bs => some (b :: bs)
    | _, _ => none
/-- lists of the callee's own are handed out as they stand -/
def fz : Nat → Sto → Nat → Dv → Option Dv
  | 0, _, n, w => if clean n w = true then some w else none
  | f + 1, s, n, w => if clean n w = true then some w else match w with
    | .tup ws => (mapO (fz f s n) ws).map .tup
    | .lst ws => (mapO (fz f s n) ws).map .lst
    | .ref k => match s[k]? with
      | some (.lst ws) => (mapO (fz f s n) ws).map .lst
      | some (.dtt true kws) => if cleans n (kws.map (·.1)) = true then (mapO (fz f s n) (kws.map (·.2))).map (.dtt (kws.map (·.1))) else none
      | _ => none
    | _ => none
/-- a def's end: what it made and nobody holds is forgotten -/
def finW (n : Nat) (w : Dv) (s : Sto) : R Dv :=
  if s.length ≤ n then .ok w s else if (s.take n).all (Ob.clean n) = true then match fz 4 s n w with
    | some w' => .ok w' (s.take n)
    | none => .ok w s
  else .ok w s
def finX (n : Nat) (x : Ex) (s : Sto) : R Dv :=
  if s.length ≤ n then .er x s else if (s.take n).all (Ob.clean n) = true then match fz 4 s n x.w with
    | some w' => .er { x with w := w' } (s.take n)
    | none => .er x s
  else .er x s
def finC (n : Nat) : C → R Dv
  | .nx _ s => finW n .non s
  | .rt w s => finW n w s
  | .er x _ s => finX n x s
  | _ => .no
def res (n : Nat) (μ : Mu) : Mu := fun m => if m < n then μ m else none
section
variable {Γ : Ct} {H : Hp} {μ : Mu} {Z : Zs} {s : Sto} {n : Nat}
theorem res_some {m : Nat} {a : Addr} (h : res n μ m = some a) : m < n ∧ μ m = some a := by
  unfold res at h
  split at h
  · exact ⟨by assumption, h⟩
  · cases h
theorem res_lt {m : Nat} {a : Addr} (h : m < n) (q : μ m = some a) : res n μ m = some a := by
  unfold res
  rw [if_pos h, q]
theorem Fz.res {a : Addr} (f : Fz μ Z a) : Fz (res n μ) Z a := ⟨fun m h => f.1 m (res_some h).2, f.2⟩
mutual
theorem RV.res : ∀ (w : Dv) {v : V}, clean n w = true → RV Γ H μ Z w v → RV Γ H (MP.res n μ) Z w v
  | .non, _, _, q => q
  | .bl _, _, _, q => q
  | .int _, _, _, q => q
  | .str _, _, _, q => q
  | .ty _, _, _, q => q
  | .cl _, _, _, q => q
  | .ref k, _, c, q => by
    obtain ⟨a, h1, h2⟩ := q
    exact ⟨a, h1, res_lt (of_decide_eq_true c) h2⟩
  | .tup ws, _, c, q => by
    obtain ⟨a, xs, h1, h2, h3⟩ := q
    exact ⟨a, xs, h1, h2.elim (fun z => .inl ⟨z.1, z.2.res⟩) .inr, RVs.res ws c h3⟩
  | .sq ws, _, c, q => by
    obtain ⟨a, xs, h1, h2, h3⟩ := q
    exact ⟨a, xs, h1, h2.elim (fun z => .inl ⟨z.1, z.2.res⟩) .inr, RVs.res ws c h3⟩
  | .lst ws, _, c, q => by
    obtain ⟨a, xs, h1, h2, h3, h4⟩ := q
    exact ⟨a, xs, h1, h2, h3.res, RVs.res ws c h4⟩
  | .dct ks ws, _, c, q => by
    obtain ⟨a, kvs, h1, h2, h3, h4, h5⟩ := q
    exact ⟨a, kvs, h1, h2, h3.res, h4, RVs.res ws c h5⟩
  | .dtt kd ws, _, c, q => by
    obtain ⟨a, kvs, h1, h2, h3, h4, h5, h6⟩ := q
    have c' : cleans n kd = true ∧ cleans n ws = true := Bool.and_eq_true_iff.mp c
    exact ⟨a, kvs, h1, h2, h3.res, h4, RVs.res kd c'.1 h5, RVs.res ws c'.2 h6⟩
  | .exc cc f w, _, c, q => by
    obtain ⟨a, dx, x, h1, h2, h3, h4, h5, h6⟩ := q
    exact ⟨a, dx, x, h1, h2, h3.res, h4, h5.res, RV.res w c h6⟩
  | .exn cc, _, c, q => by
    obtain ⟨a, h1, h2, h3⟩ := q
    exact ⟨a, h1, h2, h3.res⟩
  | .clo a b _ ws vs, _, c, q => by
    obtain ⟨h1, h2, h3, h4⟩ := q
    exact ⟨h1, h2, h3.res, RVs.res ws c h4⟩
theorem RVs.res : ∀ (ws : List Dv) {vs : List V}, cleans n ws = true → RVs Γ H μ Z ws vs → RVs Γ H (MP.res n μ) Z ws vs
  | [], _, _, q => q
  | w :: ws, _, c, q => by
    obtain ⟨x, xs, h1, h2, h3⟩ := q
    have c' : clean n w = true ∧ cleans n ws = true := Bool.and_eq_true_iff.mp c
    exact ⟨x, xs, h1, RV.res w c'.1 h2, RVs.res ws c'.2 h3⟩
end
theorem mapO_ok {f : Dv → Option Dv} (hf : ∀ w w' v, f w = some w' → RV Γ H μ Z w v → RV Γ H (res n μ) Z w' v) : ∀ (ws ws' : List Dv) (vs : List V), mapO f ws = some ws' → RVs Γ H μ Z ws vs → RVs Γ H (res n μ) Z ws' vs
  | [], _, _, e, q => by cases e; exact q
  | w :: ws, _, _, e, q => by
    obtain ⟨x, xs, rfl, h2, h3⟩ := q
    simp only [mapO] at e
    split at e
    · rename_i b bs e1 e2
      cases e
      exact RVs.cons (hf _ _ _ e1 h2) (mapO_ok hf ws bs xs e2 h3)
    · cases e
theorem fz_ok (hR : Rep Γ H μ Z s) : ∀ (f : Nat) (w w' : Dv) (v : V), fz f s n w = some w' → RV Γ H μ Z w v → RV Γ H (res n μ) Z w' v := fun f => by
  induction f with
  | zero =>
    intro w w' v e q
    simp only [fz] at e
    split at e
    · cases e; exact q.res w (by assumption)
    · cases e
  | succ f ih =>
    intro w w' v e q
    simp only [fz] at e
    split at e
    · cases e; exact q.res w (by assumption)
    · rename_i hc
      split at e
      · rename_i ws
        cases em : mapO (fz f s n) ws with
        | none => rw [em] at e; cases e
        | some us =>
          rw [em] at e
          cases e
          obtain ⟨a, xs, h1, h2, h3⟩ := q
          exact ⟨a, xs, h1, h2.elim (fun z => .inl ⟨z.1, z.2.res⟩) .inr, mapO_ok (fun w w' v => ih w w' v) _ _ _ em h3⟩
      · rename_i ws
        cases em : mapO (fz f s n) ws with
        | none => rw [em] at e; cases e
        | some us =>
          rw [em] at e
          cases e
          obtain ⟨a, xs, h1, h2, h3, h4⟩ := q
          exact ⟨a, xs, h1, h2, h3.res, mapO_ok (fun w w' v => ih w w' v) _ _ _ em h4⟩
      · rename_i k
        split at e
        · rename_i ws es
          cases em : mapO (fz f s n) ws with
          | none => rw [em] at e; cases e
          | some us =>
            rw [em] at e
            cases e
            obtain ⟨a, h1, h2⟩ := q
            obtain ⟨b, g1, g2, xs, g3, g4⟩ := hR.at k _ es
            rw [h2] at g1
            cases g1
            refine ⟨a, xs, h1, g3, ⟨fun m hm => ?_, g2⟩, mapO_ok (fun w w' v => ih w w' v) _ _ _ em g4⟩
            obtain ⟨m1, m2⟩ := res_some hm
            have := hR.inj _ _ _ m2 h2
            subst this
            exact hc (decide_eq_true m1)
        · rename_i kws es
          split at e
          · rename_i hck
            cases em : mapO (fz f s n) (kws.map (·.2)) with
            | none => rw [em] at e; cases e
            | some us =>
              rw [em] at e
              cases e
              obtain ⟨a, h1, h2⟩ := q
              obtain ⟨b, g1, g2, kvs, g3, g4, g5, g6⟩ := hR.at k _ es
              rw [h2] at g1
              cases g1
              have r6 := mapO_ok (fun w w' v => ih w w' v) _ _ _ em g6
              refine ⟨a, kvs, h1, g3, ⟨fun m hm => ?_, g2⟩, ⟨g4.1, ?_⟩, RVs.res _ hck g5, r6⟩
              · obtain ⟨m1, m2⟩ := res_some hm
                have := hR.inj _ _ _ m2 h2
                subst this
                exact hc (decide_eq_true m1)
              · have l6 := r6.len
                rw [List.length_map] at l6
                exact l6.symm
          · cases e
        · cases e
      · cases e
theorem RO.res {a : Addr} {ob : Ob} (c : ob.clean n = true) (h : RO Γ H μ Z a ob) : RO Γ H (MP.res n μ) Z a ob := by
  cases ob with
  | lst ws =>
    obtain ⟨xs, h1, h2⟩ := h
    exact ⟨xs, h1, h2.res ws c⟩
  | dct kws =>
    obtain ⟨kvs, h1, h2, h3⟩ := h
    exact ⟨kvs, h1, h2, h3.res _ c⟩
  | dtt fr kws =>
    obtain ⟨kvs, h1, h2, h3, h4⟩ := h
    have c' : cleans n (kws.map (·.1)) = true ∧ cleans n (kws.map (·.2)) = true := Bool.and_eq_true_iff.mp c
    exact ⟨kvs, h1, h2, h3.res _ c'.1, h4.res _ c'.2⟩
  | obj c fs =>
    obtain ⟨dx, kvs, h1, h2, h3⟩ := h
    exact ⟨dx, kvs, h1, h2, h3.res _ c⟩
  | tab m q => exact ⟨h.1, tab_imp rfl (fun c e1 e2 => ⟨e1, e2.res⟩) h.2⟩
theorem Rep.res (hR : Rep Γ H μ Z s) (hn : n ≤ s.length) (c : (s.take n).all (Ob.clean n) = true) : Rep Γ H (MP.res n μ) Z (s.take n) := ⟨fun m ob q => by
  have hm : m < n := by
    have := (List.getElem?_eq_some_iff.mp q).1
    rw [List.length_take] at this
    omega
  have q' : s[m]? = some ob := by rw [List.getElem?_take_of_lt hm] at q; exact q
  obtain ⟨a, h1, h2, h3⟩ := hR.at m ob q'
  exact ⟨a, res_lt hm h1, h2, h3.res (List.all_eq_true.mp c ob (List.mem_of_getElem? q))⟩,
  fun m k a h1 h2 => hR.inj _ _ _ (res_some h1).2 (res_some h2).2, fun m a h => by rw [List.length_take]; have := (res_some h).1; omega, hR.za⟩
theorem Evo.res {H0 : Hp} {μ0 : Mu} (e : Evo H0 μ0 H μ) (hd : ∀ m a, μ0 m = some a → m < n) : Evo H0 μ0 H (MP.res n μ) :=
  ⟨e.keep, fun m a h => res_lt (hd m a h) (e.mu m a h), fun m a h => e.new m a (res_some h).2, e.stay⟩
end
/-- what a def promises -/
def spM (Γ : Ct) (ps : List Str) (den : Fn) : Sp := fun vs H Q E => vs.length = ps.length ∧ ∃ μ Z s ws, Rep Γ H μ Z s ∧ RVs Γ H μ Z ws vs ∧ PostE Γ (fun c d _ H => E c d H) H μ Z [] Q (den ws s)
structure FnG (P : Program) (w : World) (mg : Str → Option Value) (base : Heap) (Γ : Ct) (k : Nat) (f : Addr) (fd : FuncData) (ps : List Str) (den : Fn) : Prop where
  run : ∀ (A : Around) (outer : List PySem.Env) (s : Shared) (H : Hp) (args : Args) (us : List Value) (vs : List V) (Q : VK) (E : XK), Room k A → A.guards = some [] → Env0 P w Γ.K mg base A outer s H → BindsTo s fd args (ps.zip us) → Vals vs us → spM Γ ps den vs H Q E →
    codeAny (model P w) A (.call (.ref f) args) (CR (L2.CX P w) outer P w H s Q E) s
def startD (n : Nat) (ws : List Dv) : Env := ws.map some ++ List.replicate (n - ws.length) none
def denOf (n : Nat) (body : FS) : Fn := fun ws s => finC s.length (body (startD n ws) s)
theorem re_start {Γ : Ct} {H : Hp} {μ : Mu} {Z : Zs} {N : List Str} {ws : List Dv} {vs : List V} (r : RVs Γ H μ Z ws vs) : RE Γ H μ Z (startD N.length ws) (L2.start N vs) := by
  have hl := r.len
  refine ⟨?_, fun i w q => ?_⟩
  · unfold startD L2.start
    rw [List.length_append, List.length_append, List.length_map, List.length_map, List.length_replicate, List.length_replicate, hl]
  · unfold startD at q
    unfold L2.start
    by_cases hi : i < ws.length
    · rw [List.getElem?_append_left (by rw [List.length_map]; exact hi), List.getElem?_map] at q
      rw [List.getElem?_append_left (by rw [List.length_map, hl]; exact hi), List.getElem?_map]
      cases e : ws[i]? with
      | none => rw [e] at q; cases q
      | some u =>
        rw [e] at q
        cases q
        obtain ⟨x, h1, h2⟩ := r.get e
        exact ⟨x, by rw [h1]; rfl, h2⟩
    · rw [List.getElem?_append_right (by rw [List.length_map]; omega), List.getElem?_replicate] at q
      split at q <;> cases q
end MP
set_option Elab.async false
set_option linter.all false
set_option maxRecDepth 100000
set_option maxHeartbeats 4000000
namespace MP
open PySem PySem.Spec PyProof.Rows L2
/-- the end of a body is the end of its def -/
theorem body_end {Γ : Ct} {H : Hp} {μ : Mu} {Z : Zs} {s : Sto} {Q : VK} {E : XK} {c : C} (hR : Rep Γ H μ Z s) (q : PostE Γ (fun c d _ H => E c d H) H μ Z [] Q (finC s.length c)) :
    PostS Γ (fun c d _ H => E c d H) H μ Z { nx := fun _ H' => Q .non H', rt := Q } c := by
  have key : ∀ (w : Dv) (s' : Sto), PostE Γ (fun c d _ H => E c d H) H μ Z [] Q (finW s.length w s') → ∀ v H' μ', Evo H μ H' μ' → Rep Γ H' μ' Z s' → RV Γ H' μ' Z w v → Q v H' := fun w s' q v H' μ' ev R' r' => by
    unfold finW at q
    split at q
    · exact q v H' μ' ev R' r'
    · rename_i hl
      split at q
      · rename_i hc
        split at q
        · rename_i w' e
          exact q v H' _ (ev.res hR.dom) (R'.res (by omega) hc) (fz_ok R' 4 w w' v e r')
        · exact q v H' μ' ev R' r'
      · exact q v H' μ' ev R' r'
  cases c with
  | nx ρ' s' => exact fun σ' H' μ' ev R' _ => key .non s' q .non H' μ' ev R' rfl
  | rt w s' => exact fun v H' μ' ev R' r' => key w s' q v H' μ' ev R' r'
  | bk ρ' s' => exact q.elim
  | ct ρ' s' => exact q.elim
  | no => exact q.elim
  | er x ρ' s' =>
    intro c d σ' H' μ' ev R' _ rx
    unfold finC finX at q
    dsimp only at q
    split at q
    · exact q c d H' μ' ev R' rx
    · rename_i hl
      split at q
      · rename_i hc
        split at q
        · rename_i w' e
          rcases rx with rx | ⟨h0, h1, dd, v, h2, h3, h4, h5⟩
          · exact q c d H' _ (ev.res hR.dom) (R'.res (by omega) hc) (.inl rx)
          · exact q c d H' _ (ev.res hR.dom) (R'.res (by omega) hc) (.inr ⟨h0, h1, dd, v, h2, h3, h4.res, fz_ok R' 4 _ w' v e h5⟩)
        · exact q c d H' μ' ev R' rx
      · exact q c d H' μ' ev R' rx
abbrev envF (qual : Str) (st : Stmt) (s : Shared) (f : Addr) (cdv : Value) : PySem.Env := envOfC qual (defScope st) s.heap.objs.size f cdv
abbrev cxF (Γ : Ct) (P : Program) (w : World) (mg : Str → Option Value) (base : Heap) (N : List Str) (qual : Str) (st : Stmt) (f : Addr) (cdv : Value) (A : Around) (outer : List PySem.Env) (s : Shared) (H : Hp) (E : XK) : Cx :=
  cxOf (L2.CX P w) P w Γ.K mg base N qual (defScope st) f cdv A outer s H E
/-- A def keeps what its body's reading says -/
theorem ok_fn {P : Program} {w : World} {mg : Str → Option Value} {base : Heap} {Γ : Ct} {x qual : Str} {st : Stmt} {f : Addr} {fd : FuncData} {N ps : List Str} {k : Nat} {c : FS} (F : Fun Γ.K x qual st f fd) (S : FnScope N ps (defScope st))
    (hbody : ∀ (cdv : Value) (A : Around) (outer : List PySem.Env) (s : Shared) (H : Hp) (E : XK) (W : WX), Room k (A.deeper (envF qual st s f cdv)) → (A.deeper (envF qual st s f cdv)).guards = some [] → Takes (cxF Γ P w mg base N qual st f cdv A outer s H E) W →
      MB (cxF Γ P w mg base N qual st f cdv A outer s H E) Γ W (defBody st) c) : FnG P w mg base Γ (k + 1) f fd ps (denOf N.length c) := by
  obtain ⟨oc, od, kV, doc, pm, an, cdv, ct, osl, rfl, lk, hcd⟩ := F.ex
  refine ⟨fun A outer s H args us vs Q E room guards e0 binds rel ⟨hlen, μ, Z, st0, ws, hR, rws, post⟩ => ?_⟩
  have stays : ∀ b o, base.get? b = some o → s.heap.get? b = some o := fun b o e => (e0.bs b o e).1
  have inK : Γ.K.In s.heap := e0.mod.kin.keeps stays
  have kinds : ∀ y ∈ ps.zip us, (defScope st).names.lookup y.1 = some .local ∨ ((defScope st).names.lookup y.1 = some .cell ∧ ((cellsFrom (s.heap.objs.size + 1) (defScope st).names []).lookup y.1).isSome = true) := by
    rintro ⟨n, v⟩ hy
    exact (S.par n (List.of_mem_zip hy).1).imp id fun q => ⟨q, PySem.W.cellsFrom_some _ _ _ (.inl q)⟩
  refine codeAny_call_function room.depth (inK _ _ lk) rfl S.co S.gen rfl (PySem.W.codeRec_of inK hcd) (binds _ _ _ _ ?_)
  refine wpAny_newFunctionEnv_cells S.kind kinds fun env he s1 entered => ?_
  subst he
  refine ⟨(e0.mod.nolimit.keeps stays).keeps entered.toInCall.keep, codeAny_func ?_⟩
  have I := inv_start (CX := L2.CX P w) (E := E) (cd := cdv) S room.hd e0 hlen rel entered
  have tk : Takes (cxF Γ P w mg base N qual st f cdv A outer s H E) (fun cls d _ H' => E cls d H') := takes_of rfl rfl rfl rfl
  have run := (hbody cdv A outer s H E _ (room.deeper _) (by show (A.deeper _).guards = _; rw [← guards]; rfl) tk).run [] s1 (L2.start N vs) H { nx := fun _ H' => Q .non H', rt := Q } I
    ⟨μ, Z, startD N.length ws, st0, re_start rws, hR, body_end hR post⟩
  refine wpAny_mono run (fun fl s' hs => ?_) fun e s' hs => hs
  cases fl with
  | ret u =>
    obtain ⟨v, σ', H', J, rv, q⟩ := hs
    exact ⟨v, H', J.os, J.bare, J.base, J.hok, rv, q⟩
  | next =>
    obtain ⟨σ', H', J, q⟩ := hs
    exact ⟨V.non, H', J.os, J.bare, J.base, J.hok, rfl, q⟩
  | brk => exact hs.elim fun _ z => z.elim fun _ z => z.2.elim
  | cont => exact hs.elim fun _ z => z.elim fun _ z => z.2.elim
section
variable {X : Cx} {Γ : Ct} {W : WX} {k : Nat} {f : Addr} {fd : FuncData} {ps : List Str} {den : Fn} {x : Str} {p pos : Pos} {e : Expr} {es : List Expr} {fa : FA}
def mCall (den : Fn) (fa : FA) : FE := fun ρ s => (fa ρ s).bind den
theorem post_call {H : Hp} {μ : Mu} {Z : Zs} {σ : L2.St} {Q : VK} {r : R Dv} (h : PostE Γ W H μ Z σ Q r) : PostE Γ (fun c d _ H' => WE W σ c d H') H μ Z [] Q r := by
  cases r with
  | ok w s => exact h
  | er x s => exact h
  | no => exact h
theorem run_G {pins : List (Addr × Obj)} {σ : L2.St} {H : Hp} {s : Shared} {Q : VK} {us : List Value} {ds : List Value} {vs dvs : List V} (F : FnG X.prog X.w X.mg X.base Γ k f fd ps den) (hK : Γ.K = X.K) (hr : Room k X.A) (hg : X.A.guards = some []) (hb : Binds X.K fd ps ds) (hd : Vals dvs ds) (tk : Takes X W)
    (I : Inv X pins σ H s) (r : Vals vs us) (h : spM Γ ps den (vs ++ dvs) H Q (WE W σ)) : wpAny (model X.prog X.w) X.A (call (.ref f) us) (EP X pins σ Q) X.xe s := by
  have r2 : Vals (vs ++ dvs) (us ++ ds) := r.append hd
  have hl : (us ++ ds).length = ps.length := r2.length.symm.trans h.1
  refine wpAny_call (codeAny_mono (F.run X.A X.stack s H ⟨us, []⟩ (us ++ ds) (vs ++ dvs) Q (WE W σ) hr hg (by rw [hK]; exact I.env0) (hb s us I.kIn hl) r2 h) fun r' s' hq => ?_)
  cases r' with
  | error e => exact passAt tk σ pins H s e s' I hq
  | ok fl =>
    cases fl with
    | ret u => exact I.after hq
    | next => exact hq.elim
    | brk => exact hq.elim
    | cont => exact hq.elim
/-- f(e, ..), f a def of the text; ds its defaults -/
theorem me_call {ds : List Value} {dvs : List V} {dws : List Dv} (F : FnG X.prog X.w X.mg X.base Γ k f fd ps den) (hK : Γ.K = X.K) (hr : Room k X.A) (hg : X.A.guards = some []) (hgl : Gl X x) (hm : X.mg x = some (.ref f)) (hk : PySem.W.keepIn X.K (.ref f) = true) (hb : Binds X.K fd ps ds) (hd : Vals dvs ds)
    (hdw : ∀ H μ Z, RVs Γ H μ Z dws dvs) (n : Nat) (hn : n + dws.length = ps.length) (hnl : (e :: es).length = n) (tk : Takes X W) (ha : MA X Γ W (e :: es) fa) (hlen : ∀ ρ s ws s', fa ρ s = .ok ws s' → ws.length = n) (hdb : (x == ("__debug__" : Str)) = false := by decide)
    (he : starEach (e :: es) X.env = (false, eval e X.env) :: starEach es X.env := by rfl) (hpl : (backTo pos (starEach es X.env)).any (·.1) = false := by rfl) :
    ME X Γ W (.Call (.Name x p) (e :: es) [] pos) (mCall (fun ws => den (ws ++ dws)) fa) := by
  refine ⟨fun pins s σ H Q I ⟨μ, Z, ρ, s0, hE, hR, q⟩ => ?_⟩
  refine wpAny_Call_Name_kw (ld_glob I hgl hm ?_ hdb)
  have q' : rdA Γ W fa σ H fun vs H1 => spM Γ ps den (vs ++ dvs) H1 Q (WE W σ) := by
    refine ⟨μ, Z, ρ, s0, hE, hR, ?_⟩
    unfold mCall at q
    cases e1 : fa ρ s0 with
    | ok ws s1 =>
      rw [e1] at q
      have q2 : PostE Γ W H μ Z σ Q (den (ws ++ dws) s1) := q
      intro vs H1 μ1 ev R1 r1
      refine ⟨?_, μ1, Z, s1, ws ++ dws, R1, r1.append (hdw H1 μ1 Z), post_call (PostE.evo ev q2)⟩
      rw [List.length_append, r1.len, hlen _ _ _ _ e1, (hdw H1 μ1 Z).len, hn]
    | er x1 s1 => rw [e1] at q; exact q
    | no => rw [e1] at q; exact q
  refine PySem.W.callWith_K (h₀ := X.base) I.ok.mod.kin hk (thn (ha.run pos pins s σ H _ I q') fun us s1 ⟨vs, H1, I1, r, z⟩ => ⟨I1.kIn, ?_⟩) he hpl
  exact run_G F hK hr hg hb hd tk I1 r z
end
end MP
set_option Elab.async false
set_option linter.all false
set_option maxRecDepth 100000
set_option maxHeartbeats 4000000
namespace MP
open PySem PySem.Spec PyProof.Rows L2
abbrev ON := Sto → List Dv → Option Dv
def OpN (Γ : Ct) (r : List V → Hp → VK → Prop) (op : ON) : Prop := ∀ (H : Hp) (μ : Mu) (Z : Zs) (s : Sto) (xs : List Dv) (w : Dv) (vs : List V) (Q : VK), Rep Γ H μ Z s → RVs Γ H μ Z xs vs → op s xs = some w →
  (∀ v' H', Evo H μ H' μ → Rep Γ H' μ Z s → RV Γ H' μ Z w v' → Q v' H') → r vs H Q
def mBlt (op : ON) (fa : FA) : FE := fun ρ s => (fa ρ s).bind fun ws s1 => R.of (op s1 ws) s1
section
variable {X : Cx} {Γ : Ct} {W : WX} {x : Str} {p pos : Pos} {e : Expr} {es : List Expr} {fa : FA} {id T : String} {r r' : List V → Hp → VK → Prop} {op op' : ON}
theorem blt_ok {t : TE} {ta : TA} (ht : t = tCB r (rdA Γ W fa)) (hs : OpN Γ r op) (h : PE X e t) : ME X Γ W e (mBlt op fa) := by
  subst ht
  exact PE.imp h fun σ H Q ⟨μ, Z, ρ, s, hE, hR, q⟩ => aE hE hR q fun ws s1 vs H1 μ1 e1 E1 R1 r1 q1 => by
    obtain ⟨w, hw, k⟩ := ofE q1
    exact hs H1 μ1 Z s1 ws w vs Q R1 r1 hw k
theorem me_callB (hc : CallR X (.builtin id) r) (hs : OpN Γ r op) (hg : Gl X x) (hm : X.mg x = none) (hv : bootBuiltins x = some (.builtin id)) (ha : MA X Γ W (e :: es) fa) (hn : x ≠ "__name__" := by decide) (hdb : (x == ("__debug__" : Str)) = false := by decide)
    (he : starEach (e :: es) X.env = (false, eval e X.env) :: starEach es X.env := by rfl) (hpl : (backTo pos (starEach es X.env)).any (·.1) = false := by rfl) : ME X Γ W (.Call (.Name x p) (e :: es) [] pos) (mBlt op fa) :=
  blt_ok (ta := rdA Γ W fa) rfl hs (pe_callB hc hg hm hv ha hn hdb he hpl)
theorem me_callTy (hc : CallR X (.type T) r) (hs : OpN Γ r op) (hg : Gl X x) (hm : X.mg x = none) (hv : bootBuiltins x = some (.type T)) (ha : MA X Γ W (e :: es) fa) (hn : x ≠ "__name__" := by decide) (hdb : (x == ("__debug__" : Str)) = false := by decide)
    (he : starEach (e :: es) X.env = (false, eval e X.env) :: starEach es X.env := by rfl) (hpl : (backTo pos (starEach es X.env)).any (·.1) = false := by rfl) : ME X Γ W (.Call (.Name x p) (e :: es) [] pos) (mBlt op fa) :=
  blt_ok (ta := rdA Γ W fa) rfl hs (pe_callTy hc hg hm hv ha hn hdb he hpl)
theorem OpN.or (h : OpN Γ r op) (h' : OpN Γ r' op') : OpN Γ (fun x H Q => r x H Q ∨ r' x H Q) (fun s xs => match op s xs with
    | some w => some w
    | none => op' s xs) := fun H μ Z s xs w vs Q hR rx e k => by
  dsimp only at e
  split at e
  · rename_i w' e'
    cases e
    exact .inl (h H μ Z s xs _ vs Q hR rx e' k)
  · exact .inr (h' H μ Z s xs w vs Q hR rx e k)
/-- len -/
def lenD : ON := fun s xs => match xs with
  | [.str x] => if x.length ≤ lim then some (.int x.length) else none
  | [x] => (seqOf s x).map fun ws => .int ws.length
  | _ => none
theorem one {H : Hp} {μ : Mu} {Z : Zs} {x : Dv} {vs : List V} (r : RVs Γ H μ Z [x] vs) : ∃ v, vs = [v] ∧ RV Γ H μ Z x v := by
  obtain ⟨v, xs, rfl, h1, h2⟩ := r
  exact ⟨v, by rw [show xs = [] from h2], h1⟩
theorem two {H : Hp} {μ : Mu} {Z : Zs} {x y : Dv} {vs : List V} (r : RVs Γ H μ Z [x, y] vs) : ∃ v u, vs = [v, u] ∧ RV Γ H μ Z x v ∧ RV Γ H μ Z y u := by
  obtain ⟨v, xs, rfl, h1, u, ys, rfl, h2, h3⟩ := r
  exact ⟨v, u, by rw [show ys = [] from h3], h1, h2⟩
theorem sLen (hK : Γ.K = X.K) : OpN Γ (fun xs H Q => ∃ x n, xs = [x] ∧ LenV X.K x H n ∧ Q (.int n) H) lenD := fun H μ Z s xs w vs Q hR rx e k => by
  rw [← hK]
  unfold lenD at e
  split at e
  · rename_i y
    split at e
    · rename_i hl
      cases e
      obtain ⟨v, rfl, r1⟩ := one rx
      exact ⟨v, _, rfl, by rw [show v = .str y from r1]; exact ⟨lim_ok hl, rfl⟩, k _ H .refl hR rfl⟩
    · cases e
  · rename_i y _
    cases q : seqOf s y with
    | none => rw [q] at e; cases e
    | some ws =>
      rw [q] at e
      cases e
      obtain ⟨v, rfl, r1⟩ := one rx
      obtain ⟨a, ys, rfl, h2, h3⟩ := seqOf_ok hR r1 q
      refine ⟨_, ws.length, rfl, ?_, k _ H .refl hR rfl⟩
      rcases h2 with h2 | h2
      · exact .inl ⟨ys, h2, h3.len.symm⟩
      · exact .inr ⟨ys, h2, h3.len.symm⟩
  · cases e
/-- tuple(xs), list(xs) -/
def tupleD : ON := fun s xs => match xs with
  | [.tup ws] => some (.tup ws)
  | [.sq ws] => some (.tup ws)
  | [x] => (lstOf s x).map .tup
  | _ => none
theorem sTuple (hK : Γ.K = X.K) : OpN Γ (fun xs H Q => ∃ p ys, xs = [.ref p] ∧ ((SqL X.K H p ys ∧ ∀ l, H l = none → Q (.ref l) (upd H l (.tup ys))) ∨ (SqT X.K H p ys ∧ Q (.ref p) H))) tupleD := fun H μ Z s xs w vs Q hR rx e k => by
  rw [← hK]
  unfold tupleD at e
  split at e
  · cases e
    obtain ⟨v, rfl, a, ys, rfl, h2, h3⟩ := one rx
    exact ⟨a, ys, rfl, .inr ⟨h2.sq, k _ H .refl hR ⟨a, ys, rfl, h2, h3⟩⟩⟩
  · cases e
    obtain ⟨v, rfl, a, ys, rfl, h2, h3⟩ := one rx
    exact ⟨a, ys, rfl, .inl ⟨h2.sq, fun l hl => k _ _ (Evo.laid hl) (hR.laid hl) (new_tup hR hl h3)⟩⟩
  · rename_i y _ _
    cases q : lstOf s y with
    | none => rw [q] at e; cases e
    | some ws =>
      rw [q] at e
      cases e
      obtain ⟨v, rfl, r1⟩ := one rx
      obtain ⟨a, ys, rfl, h2, h3⟩ := lstOf_ok hR r1 q
      exact ⟨a, ys, rfl, .inl ⟨SqL.of h2, fun l hl => k _ _ (Evo.laid hl) (hR.laid hl) (new_tup hR hl h3)⟩⟩
  · cases e
/-- ints of a list -/
def intOf : Dv → Option Int
  | .int i => some i
  | _ => none
def intsOf (ws : List Dv) : Option (List Int) := mapO intOf ws
theorem intsOf_ok : ∀ {ws : List Dv} {ns : List Int}, intsOf ws = some ns → ws = ns.map .int
  | [], ns, e => by cases e; rfl
  | w :: ws, ns, e => by
    unfold intsOf at e
    simp only [mapO] at e
    split at e
    · rename_i b bs e1 e2
      cases e
      rw [intsOf_ok (ws := ws) (ns := bs) e2]
      cases w with
      | int i => cases e1; rfl
      | _ => cases e1
    · cases e
theorem intsOf_map : ∀ ns : List Int, intsOf (ns.map .int) = some ns
  | [] => rfl
  | n :: ns => by
    have := intsOf_map ns
    unfold intsOf at this ⊢
    rw [List.map_cons, mapO, this]
    rfl
/-- sorting by insertion -/
def ins (a : Int) : List Int → List Int
  | [] => [a]
  | b :: r => if a ≤ b then a :: b :: r else b :: ins a r
def srt : List Int → List Int
  | [] => []
  | a :: r => ins a (srt r)
theorem ins_perm (a : Int) : ∀ l : List Int, (ins a l).Perm (a :: l)
  | [] => .refl _
  | b :: r => by
    unfold ins
    split
    · exact .refl _
    · exact ((ins_perm a r).cons b).trans (.swap a b r)
theorem srt_perm : ∀ l : List Int, (srt l).Perm l
  | [] => .refl _
  | a :: r => (ins_perm a (srt r)).trans ((srt_perm r).cons a)
theorem ins_sorted (a : Int) : ∀ l : List Int, l.Pairwise (· ≤ ·) → (ins a l).Pairwise (· ≤ ·)
  | [], _ => List.pairwise_singleton _ _
  | b :: r, h => by
    unfold ins
    obtain ⟨h1, h2⟩ := List.pairwise_cons.mp h
    split
    · rename_i hab
      refine List.pairwise_cons.mpr ⟨fun c hc => ?_, h⟩
      rcases List.mem_cons.mp hc with e | e
      · rw [e]; exact hab
      · exact Int.le_trans hab (h1 c e)
    · rename_i hab
      refine List.pairwise_cons.mpr ⟨fun c hc => ?_, ins_sorted a r h2⟩
      rcases List.mem_cons.mp ((ins_perm a r).mem_iff.mp hc) with e | e
      · rw [e]; omega
      · exact h1 c e
theorem srt_sorted : ∀ l : List Int, (srt l).Pairwise (· ≤ ·)
  | [] => .nil
  | a :: r => ins_sorted a _ (srt_sorted r)
theorem sorted_eq : ∀ {l l' : List Int}, l.Perm l' → l.Pairwise (· ≤ ·) → l'.Pairwise (· ≤ ·) → l = l'
  | [], l', p, _, _ => (List.nil_perm.mp p).symm
  | a :: r, [], p, _, _ => (List.cons_ne_nil a r (List.perm_nil.mp p)).elim
  | a :: r, b :: t, p, h, h' => by
    obtain ⟨h1, h2⟩ := List.pairwise_cons.mp h
    obtain ⟨g1, g2⟩ := List.pairwise_cons.mp h'
    have hab : a = b := by
      have ha : a ∈ b :: t := p.mem_iff.mp List.mem_cons_self
      have hb : b ∈ a :: r := p.mem_iff.mpr List.mem_cons_self
      rcases List.mem_cons.mp ha with e | e
      · exact e
      · rcases List.mem_cons.mp hb with e' | e'
        · exact e'.symm
        · exact Int.le_antisymm (h1 b e') (g1 a e)
    subst hab
    rw [sorted_eq (List.perm_cons a |>.mp p) h2 g2]
theorem srt_uniq {l l' : List Int} (p : l'.Perm l) (h : l'.Pairwise (· ≤ ·)) : l' = srt l := sorted_eq (p.trans (srt_perm l).symm) h (srt_sorted l)
def sortedD : ON := fun s xs => match xs with
  | [x] => match lstOf s x with
    | some ws => (intsOf ws).map fun ns => .lst ((srt ns).map .int)
    | none => none
  | _ => none
theorem sSorted (hK : Γ.K = X.K) : OpN Γ (rSortedI X.K) sortedD := fun H μ Z s xs w vs Q hR rx e k => by
  rw [← hK]
  unfold sortedD at e
  split at e
  · rename_i y
    split at e
    · rename_i ws q
      cases q2 : intsOf ws with
      | none => rw [q2] at e; cases e
      | some ns =>
        rw [q2] at e
        cases e
        obtain ⟨v, rfl, r1⟩ := one rx
        obtain ⟨a, ys, rfl, h2, h3⟩ := lstOf_ok hR r1 q
        rw [intsOf_ok q2] at h3
        have h4 := h3.ints
        subst h4
        refine ⟨a, ns, rfl, SqL.of h2, fun ns' p hp hs hn => ?_⟩
        rw [srt_uniq hp hs]
        exact k _ _ (Evo.laid hn) (hR.laid hn) (new_lst hR hn (RVs.of_ints _))
    · cases e
  · cases e
def sumD : ON := fun s xs => match xs with
  | [x] => match lstOf s x with
    | some ws => (intsOf ws).map fun ns => .int ns.sum
    | none => none
  | _ => none
theorem sSum (hK : Γ.K = X.K) : OpN Γ (rSum X.K) sumD := fun H μ Z s xs w vs Q hR rx e k => by
  rw [← hK]
  unfold sumD at e
  split at e
  · rename_i y
    split at e
    · rename_i ws q
      cases q2 : intsOf ws with
      | none => rw [q2] at e; cases e
      | some ns =>
        rw [q2] at e
        cases e
        obtain ⟨v, rfl, r1⟩ := one rx
        obtain ⟨a, ys, rfl, h2, h3⟩ := lstOf_ok hR r1 q
        rw [intsOf_ok q2] at h3
        have h4 := h3.ints
        subst h4
        exact ⟨a, ns, rfl, SqL.of h2, k _ H .refl hR rfl⟩
    · cases e
  · cases e
def min2D : ON := fun _ xs => match xs with
  | [.int i, .int j] => some (.int (if j < i then j else i))
  | _ => none
theorem sMin2 : OpN Γ (fun xs H Q => ∃ i j, xs = [.int i, .int j] ∧ Q (.int (if j < i then j else i)) H) min2D := fun H μ Z s xs w vs Q hR rx e k => by
  unfold min2D at e
  split at e
  · rename_i i j
    cases e
    obtain ⟨v, u, rfl, r1, r2⟩ := two rx
    exact ⟨i, j, by rw [show v = _ from r1, show u = _ from r2], k _ H .refl hR rfl⟩
  · cases e
def max2D : ON := fun _ xs => match xs with
  | [.int i, .int j] => some (.int (if j > i then j else i))
  | _ => none
theorem sMax2 : OpN Γ (fun xs H Q => ∃ i j, xs = [.int i, .int j] ∧ Q (.int (if j > i then j else i)) H) max2D := fun H μ Z s xs w vs Q hR rx e k => by
  unfold max2D at e
  split at e
  · rename_i i j
    cases e
    obtain ⟨v, u, rfl, r1, r2⟩ := two rx
    exact ⟨i, j, by rw [show v = _ from r1, show u = _ from r2], k _ H .refl hR rfl⟩
  · cases e
def intD : ON := fun _ xs => match xs with
  | [.int i] => some (.int i)
  | [.bl b] => some (.int (if b then 1 else 0))
  | _ => none
theorem sInt : OpN Γ (fun xs H Q => (∃ i, xs = [.int i] ∧ Q (.int i) H) ∨ ∃ k, xs = [.bl k] ∧ Q (.int (if k then 1 else 0)) H) intD := fun H μ Z s xs w vs Q hR rx e k => by
  unfold intD at e
  split at e
  · rename_i i
    cases e
    obtain ⟨v, rfl, r1⟩ := one rx
    exact .inl ⟨i, by rw [show v = _ from r1], k _ H .refl hR rfl⟩
  · rename_i b
    cases e
    obtain ⟨v, rfl, r1⟩ := one rx
    exact .inr ⟨b, by rw [show v = _ from r1], k _ H .refl hR rfl⟩
  · cases e
/-- isinstance of a built-in class -/
def tyName : Dv → Option String
  | .non => some "NoneType" | .bl _ => some "bool" | .int _ => some "int" | .str _ => some "str" | .tup _ => some "tuple" | .lst _ => some "list" | .dct _ _ => some "dict"
  | _ => none
def sub (a b : String) : Option Bool := match a, b with
  | "NoneType", "int" => some false | "NoneType", "bool" => some false | "NoneType", "tuple" => some false | "NoneType", "str" => some false | "NoneType", "list" => some false
  | "bool", "int" => some true | "bool", "bool" => some true | "bool", "tuple" => some false | "bool", "str" => some false | "bool", "list" => some false
  | "int", "int" => some true | "int", "bool" => some false | "int", "tuple" => some false | "int", "str" => some false | "int", "list" => some false
  | "str", "int" => some false | "str", "bool" => some false | "str", "tuple" => some false | "str", "str" => some true | "str", "list" => some false
  | "tuple", "int" => some false | "tuple", "bool" => some false | "tuple", "tuple" => some true | "tuple", "str" => some false | "tuple", "list" => some false
  | "list", "int" => some false | "list", "bool" => some false | "list", "tuple" => some false | "list", "str" => some false | "list", "list" => some true
  | "dict", "int" => some false | "dict", "bool" => some false | "dict", "tuple" => some false | "dict", "str" => some false | "dict", "list" => some false
  | _, _ => none
theorem sub_ok {a b : String} {r : Bool} (h : sub a b = some r) : kitB a b = some r := by
  unfold sub at h
  split at h <;> first
    | (cases h; decide +kernel)
    | cases h
def isiD : ON := fun _ xs => match xs with
  | [x, .ty n] => match tyName x with
    | some t => (sub t n).map .bl
    | none => none
  | _ => none
theorem tyName_ok {H : Hp} {μ : Mu} {Z : Zs} {x : Dv} {v : V} {t : String} (r : RV Γ H μ Z x v) (e : tyName x = some t) : TyX Γ.K H v (.type t) := by
  cases x with
  | non => cases e; rw [show v = _ from r]; exact .base .non
  | bl b => cases e; rw [show v = _ from r]; exact .base (.bl b)
  | int b => cases e; rw [show v = _ from r]; exact .base (.int b)
  | str b => cases e; rw [show v = _ from r]; exact .base (.str b)
  | tup ws =>
    cases e
    obtain ⟨a, xs, rfl, h2, h3⟩ := r
    rcases h2 with ⟨h2 | ⟨o, h2⟩, _⟩ | ⟨o, its, n, h2, h4, _⟩
    · exact .base (.tup h2)
    · exact .fTuple h2
    · exact .kTuple h2 h4
  | lst ws =>
    cases e
    obtain ⟨a, xs, rfl, h2, h3⟩ := r
    exact .base (.lst h2)
  | dct ks ws =>
    cases e
    obtain ⟨a, kvs, rfl, h2, h3⟩ := r
    exact .base (.dK h2)
  | _ => cases e
theorem sIsi (hK : Γ.K = X.K) : OpN Γ (rIsi X.K) isiD := fun H μ Z s xs w vs Q hR rx e k => by
  rw [← hK]
  unfold isiD at e
  split at e
  · rename_i y n
    split at e
    · rename_i t q
      cases q2 : sub t n with
      | none => rw [q2] at e; cases e
      | some b =>
        rw [q2] at e
        cases e
        obtain ⟨v, u, rfl, r1, r2⟩ := two rx
        exact ⟨v, u, .type t, .type n, b, rfl, by rw [show u = _ from r2]; exact .ty n, tyName_ok r1 q, kit_ty (sub_ok q2), k _ H .refl hR rfl⟩
    · cases e
  · cases e
def rRepr (K : PySem.W.Frag) : List V → Hp → VK → Prop := fun xs H Q => ∃ (x : V) (a : Addr) (d : PyData), xs = [x] ∧ x = .ref a ∧ Dp K H x d ∧ d.showable = true ∧ d.hasDict = false ∧ d.depth ≤ 60 ∧ d.shown.length ≤ sizeLine ∧ Q (.str d.shown) H
theorem call_repr (hg : X.A.guards = some []) (hu : X.A.units + 64 < cLine) : CallR X (.builtin "repr") (rRepr X.K) := by
  intro pins s σ H xs us Q I r h
  obtain ⟨x, a, d, rfl, rfl, hd, h1, h2, h3, h4, q⟩ := h
  obtain ⟨us', e, _⟩ : ∃ u, us = [u] ∧ RelV (.ref a) u := by
    cases r with
    | cons ru rn => cases rn; exact ⟨_, rfl, ru⟩
  subst e
  have er : us' = Value.ref a := by
    cases r with
    | cons ru rn => exact ru
  subst er
  obtain ⟨as, rd⟩ := hd.reads I d _ _ rfl
  exact repr_of_reads' rd h1 (fun z => by rw [h2] at z; cases z) hg (by omega) (fun _ _ z => z) (fun h' u tk k => ⟨.str d.shown, H, I.kept (t' := tk) k, ⟨u, rfl⟩, q⟩) h4
end
end MP
set_option Elab.async false
set_option linter.all false
set_option maxRecDepth 100000
set_option maxHeartbeats 4000000
namespace MP
open PySem PySem.Spec PyProof.Rows L2
section
variable {X : Cx} {Γ : Ct} {W : WX} {a b e : Expr} {f g : FE} {pos : Pos}
def orO (o o' : O2) : O2 := fun s x y => match o s x y with
  | some w => some w
  | none => o' s x y
theorem bin_or {o o' : O2} (h : ME X Γ W e (mBin o f g)) (h' : ME X Γ W e (mBin o' f g)) : ME X Γ W e (mBin (orO o o') f g) :=
  PE.imp (PE.or h h') fun σ H Q ⟨μ, Z, ρ, s, hE, hR, q⟩ => by
    have key : PostE Γ W H μ Z σ Q (mBin o f g ρ s) ∨ PostE Γ W H μ Z σ Q (mBin o' f g ρ s) := by
      unfold mBin at q ⊢
      revert q
      cases f ρ s with
      | no => exact .inl
      | er x s1 => exact .inl
      | ok x s1 =>
        dsimp only [R.bind]
        cases g ρ s1 with
        | no => exact .inl
        | er y s2 => exact .inl
        | ok y s2 =>
          dsimp only
          intro q
          unfold orO at q
          cases e1 : o s2 x y with
          | some w => rw [e1] at q; exact .inl q
          | none => rw [e1] at q; exact .inr q
    exact key.imp (fun z => ⟨μ, Z, ρ, s, hE, hR, z⟩) fun z => ⟨μ, Z, ρ, s, hE, hR, z⟩
theorem RVs.at {H : Hp} {μ : Mu} {Z : Zs} {ws : List Dv} {xs : List V} {i : Int} {w : Dv} (r : RVs Γ H μ Z ws xs) (e : atI ws i = some w) : ∃ x, atI xs i = some x ∧ RV Γ H μ Z w x := by
  unfold atI at e ⊢
  rw [r.len]
  cases q : ixN ws.length i with
  | none => rw [q] at e; cases e
  | some j =>
    rw [q] at e
    exact r.get e
def lstOrSq (s : Sto) : Dv → Option (List Dv)
  | .sq ws => some ws
  | w => lstOf s w
def ixL : O2 := fun s x y => match y with
  | .int i => (lstOrSq s x).bind fun ws => atI ws i
  | _ => none
def ixT : O2 := fun _ x y => match y with
  | .int i => (tupOf x).bind fun ws => atI ws i
  | _ => none
theorem lstOrSq_ok {H : Hp} {μ : Mu} {Z : Zs} {s : Sto} {w : Dv} {v : V} {ws : List Dv} (hR : Rep Γ H μ Z s) (r : RV Γ H μ Z w v) (e : lstOrSq s w = some ws) : ∃ a xs, v = .ref a ∧ SqL Γ.K H a xs ∧ RVs Γ H μ Z ws xs := by
  unfold lstOrSq at e
  split at e
  · cases e
    obtain ⟨a, xs, h1, h2, h3⟩ := r
    exact ⟨a, xs, h1, h2.sq, h3⟩
  · obtain ⟨a, xs, h1, h2, h3⟩ := lstOf_ok hR r e
    exact ⟨a, xs, h1, SqL.of h2, h3⟩
theorem tupOf_ok {H : Hp} {μ : Mu} {Z : Zs} {w : Dv} {v : V} {ws : List Dv} (r : RV Γ H μ Z w v) (e : tupOf w = some ws) : ∃ a xs, v = .ref a ∧ SqT Γ.K H a xs ∧ RVs Γ H μ Z ws xs := by
  cases w with
  | tup us =>
    cases e
    obtain ⟨a, xs, h1, h2, h3⟩ := r
    exact ⟨a, xs, h1, h2.sq, h3⟩
  | _ => cases e
theorem sIxL : Op2 Γ (rIxL Γ.K) ixL := fun H μ Z s x y w u v Q hR r1 r2 e k => by
  unfold ixL at e
  split at e
  · rename_i i
    cases q : lstOrSq s x with
    | none => rw [q] at e; cases e
    | some ws =>
      rw [q] at e
      obtain ⟨p, xs, h1, h2, h3⟩ := lstOrSq_ok hR r1 q
      obtain ⟨z, g1, g2⟩ := h3.at e
      exact ⟨p, xs, i, z, h1, r2, h2, g1, k _ H .refl hR g2⟩
  · cases e
theorem sIxT : Op2 Γ (rIxT Γ.K) ixT := fun H μ Z s x y w u v Q hR r1 r2 e k => by
  unfold ixT at e
  split at e
  · rename_i i
    cases q : tupOf x with
    | none => rw [q] at e; cases e
    | some ws =>
      rw [q] at e
      obtain ⟨p, xs, h1, h2, h3⟩ := tupOf_ok r1 q
      obtain ⟨z, g1, g2⟩ := h3.at e
      exact ⟨p, xs, i, z, h1, r2, h2, g1, k _ H .refl hR g2⟩
  · cases e
/-- dicts of the store -/
def keyOf : Dv → Option Key
  | .int i => some (.inl i)
  | .str x => some (.inr x)
  | _ => none
def valD (kws : List (Key × Dv)) (k : Key) : Option Dv := (kws.find? fun p => decide (p.1 = k)).map (·.2)
def putD (kws : List (Key × Dv)) (k : Key) (w : Dv) : List (Key × Dv) :=
  if (kws.any fun p => decide (p.1 = k)) = true then kws.map (fun p => if p.1 = k then (p.1, w) else p) else kws ++ [(k, w)]
def dctOf (s : Sto) : Dv → Option (List (Key × Dv))
  | .ref n => match s[n]? with
    | some (.dct kws) => some kws
    | _ => none
  | _ => none
def ixD : O2 := fun s x y => match dctOf s x, keyOf y with
  | some kws, some k => valD kws k
  | _, _ => none
theorem keyOf_ok {H : Hp} {μ : Mu} {Z : Zs} {w : Dv} {v : V} {k : Key} (r : RV Γ H μ Z w v) (e : keyOf w = some k) : v = kV k := by
  cases w with
  | int i => cases e; exact r
  | str x => cases e; exact r
  | _ => cases e
theorem valD_ok {H : Hp} {μ : Mu} {Z : Zs} {k : Key} {w : Dv} : ∀ {kws : List (Key × Dv)} {kvs : List (Key × V)}, kvs.map (·.1) = kws.map (·.1) → RVs Γ H μ Z (kws.map (·.2)) (kvs.map (·.2)) → valD kws k = some w → ∃ v, valV kvs k = some v ∧ RV Γ H μ Z w v
  | [], kvs, _, _, e => by cases e
  | p :: kws, [], h, _, e => by cases h
  | p :: kws, q :: kvs, h, r, e => by
    obtain ⟨h1, h2⟩ := List.cons.inj h
    obtain ⟨x, xs, h3, r1, r2⟩ := r
    obtain ⟨h4, h5⟩ := List.cons.inj h3
    subst h4
    by_cases hk : p.1 = k
    · have e1 : valD (p :: kws) k = some p.2 := by simp [valD, List.find?_cons, hk]
      rw [e1] at e
      cases e
      exact ⟨q.2, valV_pos (show q.1 = k from h1.trans hk), r1⟩
    · have e1 : valD (p :: kws) k = valD kws k := by simp [valD, List.find?_cons, hk]
      rw [e1] at e
      obtain ⟨v, g1, g2⟩ := valD_ok (kvs := kvs) h2 (h5 ▸ r2) e
      exact ⟨v, by rw [valV_neg (show ¬ q.1 = k from fun z => hk (h1.symm.trans z))]; exact g1, g2⟩
theorem putD_ok {H : Hp} {μ : Mu} {Z : Zs} {k : Key} {w : Dv} {v : V} (rw' : RV Γ H μ Z w v) {kws : List (Key × Dv)} {kvs : List (Key × V)} (h : kvs.map (·.1) = kws.map (·.1)) (r : RVs Γ H μ Z (kws.map (·.2)) (kvs.map (·.2))) :
    (putK kvs k v).map (·.1) = (putD kws k w).map (·.1) ∧ RVs Γ H μ Z ((putD kws k w).map (·.2)) ((putK kvs k v).map (·.2)) := by
  have hany : ∀ (kws : List (Key × Dv)) (kvs : List (Key × V)), kvs.map (·.1) = kws.map (·.1) → (kvs.any fun p => decide (p.1 = k)) = (kws.any fun p => decide (p.1 = k)) := fun kws => by
    induction kws with
    | nil => intro kvs h; cases kvs with
      | nil => rfl
      | cons _ _ => cases h
    | cons p kws ih => intro kvs h; cases kvs with
      | nil => cases h
      | cons q kvs =>
        obtain ⟨h1, h2⟩ := List.cons.inj h
        have h1' : q.1 = p.1 := h1
        rw [List.any_cons, List.any_cons, ih kvs h2, h1']
  have hmap : ∀ (kws : List (Key × Dv)) (kvs : List (Key × V)), kvs.map (·.1) = kws.map (·.1) → RVs Γ H μ Z (kws.map (·.2)) (kvs.map (·.2)) →
      (kvs.map (fun p => if p.1 = k then (p.1, v) else p)).map (·.1) = (kws.map (fun p => if p.1 = k then (p.1, w) else p)).map (·.1) ∧ RVs Γ H μ Z ((kws.map (fun p => if p.1 = k then (p.1, w) else p)).map (·.2)) ((kvs.map (fun p => if p.1 = k then (p.1, v) else p)).map (·.2)) := fun kws => by
    induction kws with
    | nil => intro kvs h r; cases kvs with
      | nil => exact ⟨rfl, rfl⟩
      | cons _ _ => cases h
    | cons p kws ih => intro kvs h r; cases kvs with
      | nil => cases h
      | cons q kvs =>
        obtain ⟨h1, h2⟩ := List.cons.inj h
        obtain ⟨x, xs, h3, r1, r2⟩ := r
        obtain ⟨h4, h5⟩ := List.cons.inj h3
        have h1' : q.1 = p.1 := h1
        subst h4
        obtain ⟨i1, i2⟩ := ih kvs h2 (h5 ▸ r2)
        by_cases hk : p.1 = k
        · have e1 : (if q.1 = k then (q.1, v) else q) = (q.1, v) := if_pos (h1'.trans hk)
          have e2 : (if p.1 = k then (p.1, w) else p) = (p.1, w) := if_pos hk
          have m1 : ((q :: kvs).map fun p => if p.1 = k then (p.1, v) else p) = (q.1, v) :: kvs.map fun p => if p.1 = k then (p.1, v) else p := by rw [List.map_cons, e1]
          have m2 : ((p :: kws).map fun p => if p.1 = k then (p.1, w) else p) = (p.1, w) :: kws.map fun p => if p.1 = k then (p.1, w) else p := by rw [List.map_cons, e2]
          rw [m1, m2]
          exact ⟨by rw [List.map_cons, List.map_cons, i1, h1'], RVs.cons rw' i2⟩
        · have e1 : (if q.1 = k then (q.1, v) else q) = q := if_neg fun z => hk (h1'.symm.trans z)
          have e2 : (if p.1 = k then (p.1, w) else p) = p := if_neg hk
          have m1 : ((q :: kvs).map fun p => if p.1 = k then (p.1, v) else p) = q :: kvs.map fun p => if p.1 = k then (p.1, v) else p := by rw [List.map_cons, e1]
          have m2 : ((p :: kws).map fun p => if p.1 = k then (p.1, w) else p) = p :: kws.map fun p => if p.1 = k then (p.1, w) else p := by rw [List.map_cons, e2]
          rw [m1, m2]
          exact ⟨by rw [List.map_cons, List.map_cons, i1, h1'], RVs.cons r1 i2⟩
  unfold putK putD
  rw [hany kws kvs h]
  split
  · exact hmap kws kvs h r
  · rw [List.map_append, List.map_append, List.map_append, List.map_append, h]
    exact ⟨rfl, r.append (RVs.cons rw' rfl)⟩
theorem dctOf_ok {H : Hp} {μ : Mu} {Z : Zs} {s : Sto} {w : Dv} {v : V} {kws : List (Key × Dv)} (hR : Rep Γ H μ Z s) (r : RV Γ H μ Z w v) (e : dctOf s w = some kws) : ∃ a kvs, v = .ref a ∧ H a = some (.dK kvs) ∧ kvs.map (·.1) = kws.map (·.1) ∧ RVs Γ H μ Z (kws.map (·.2)) (kvs.map (·.2)) := by
  cases w with
  | ref n =>
    simp only [dctOf] at e
    split at e
    · rename_i us q
      cases e
      obtain ⟨a, h1, h2⟩ := r
      obtain ⟨b', h3, _, kvs, h4, h5, h6⟩ := hR.at n _ q
      rw [h2] at h3
      cases h3
      exact ⟨a, kvs, h1, h4, h5, h6⟩
    · cases e
  | _ => cases e
theorem sIxD : Op2 Γ (fun x y H Q => ∃ a v, x = .ref a ∧ DGet H a y (some v) ∧ Q v H) ixD := fun H μ Z s x y w u v Q hR r1 r2 e k => by
  unfold ixD at e
  split at e
  · rename_i kws kk q1 q2
    obtain ⟨p, kvs, h1, h2, h3, h4⟩ := dctOf_ok hR r1 q1
    obtain ⟨z, g1, g2⟩ := valD_ok h3 h4 e
    refine ⟨p, z, h1, ?_, k _ H .refl hR g2⟩
    rw [keyOf_ok r2 q2, ← g1]
    exact DGet.k h2
  · cases e
theorem me_ixL (hK : Γ.K = X.K) (ha : ME X Γ W a f) (hb : ME X Γ W b g) (hs : PlainIx b) : ME X Γ W (.Subscript a b pos) (mBin ixL f g) :=
  PE.imp (pe_ix ix_list ha hb hs) fun σ H Q ⟨μ, Z, ρ, s, hE, hR, q⟩ => eE hE hR q fun x s1 u H1 μ1 e1 hE1 R1 r1 q1 => eE hE1 R1 q1 fun y s2 v H2 μ2 e2 hE2 R2 r2 q2 => by
    obtain ⟨w, hw, k⟩ := ofE q2
    rw [← hK]
    exact sIxL H2 μ2 Z s2 x y w u v Q R2 (r1.mono e2) r2 hw k
theorem me_ixT (hK : Γ.K = X.K) (ha : ME X Γ W a f) (hb : ME X Γ W b g) (hs : PlainIx b) : ME X Γ W (.Subscript a b pos) (mBin ixT f g) :=
  PE.imp (pe_ix ix_tup ha hb hs) fun σ H Q ⟨μ, Z, ρ, s, hE, hR, q⟩ => eE hE hR q fun x s1 u H1 μ1 e1 hE1 R1 r1 q1 => eE hE1 R1 q1 fun y s2 v H2 μ2 e2 hE2 R2 r2 q2 => by
    obtain ⟨w, hw, k⟩ := ofE q2
    rw [← hK]
    exact sIxT H2 μ2 Z s2 x y w u v Q R2 (r1.mono e2) r2 hw k
theorem me_ixD (hu : X.A.units + 1 < cLine) (ha : ME X Γ W a f) (hb : ME X Γ W b g) (hs : NoSl b) : ME X Γ W (.Subscript a b pos) (mBin ixD f g) :=
  PE.imp (pe_dget hu ha hb hs) fun σ H Q ⟨μ, Z, ρ, s, hE, hR, q⟩ => eE hE hR q fun x s1 u H1 μ1 e1 hE1 R1 r1 q1 => eE hE1 R1 q1 fun y s2 v H2 μ2 e2 hE2 R2 r2 q2 => by
    obtain ⟨w, hw, k⟩ := ofE q2
    exact sIxD H2 μ2 Z s2 x y w u v Q R2 (r1.mono e2) r2 hw k
/-- a[b]: of a list, a tuple, a dict -/
def ixA : O2 := orO (orO ixL ixT) ixD
theorem me_ix (hK : Γ.K = X.K) (hu : X.A.units + 1 < cLine) (ha : ME X Γ W a f) (hb : ME X Γ W b g) (hs : PlainIx b) (hs' : NoSl b) : ME X Γ W (.Subscript a b pos) (mBin ixA f g) :=
  bin_or (bin_or (me_ixL hK ha hb hs) (me_ixT hK ha hb hs)) (me_ixD hu ha hb hs')
abbrev FO := Env → Sto → R (Option Int)
def PostO (Γ : Ct) (W : WX) (H : Hp) (μ : Mu) (Z : Zs) (σ : L2.St) (Q : Option Int → Hp → Prop) : R (Option Int) → Prop
  | .ok b s' => ∀ H' μ', Evo H μ H' μ' → Rep Γ H' μ' Z s' → Q b H'
  | .er x s' => ∀ cls d H' μ', Evo H μ H' μ' → Rep Γ H' μ' Z s' → RX Γ H' μ' Z x cls d → W cls d σ H'
  | .no => False
def rdO (Γ : Ct) (W : WX) (f : FO) : TO := fun σ H Q => ∃ μ Z ρ s, RE Γ H μ Z ρ σ ∧ Rep Γ H μ Z s ∧ PostO Γ W H μ Z σ Q (f ρ s)
def MO (X : Cx) (Γ : Ct) (W : WX) (e : Option Expr) (f : FO) : Prop := PO X e (rdO Γ W f)
theorem PO.imp {e : Option Expr} {t t' : TO} (h : PO X e t) (k : ∀ σ H Q, t' σ H Q → t σ H Q) : PO X e t' := ⟨fun pins s σ H Q I q => h.run pins s σ H Q I (k σ H Q q)⟩
def mPart (f : FE) : FO := fun ρ s => (f ρ s).bind fun x s1 => match x with
  | .int i => .ok (some i) s1
  | _ => .no
def mNoPart : FO := fun _ s => .ok none s
theorem mo_none : MO X Γ W none mNoPart := PO.imp po_none fun σ H Q ⟨μ, Z, ρ, s, hE, hR, q⟩ => q H μ .refl hR
theorem mo_some (h : ME X Γ W e f) : MO X Γ W (some e) (mPart f) := PO.imp (po_some h) fun σ H Q ⟨μ, Z, ρ, s, hE, hR, q⟩ => by
  refine ⟨μ, Z, ρ, s, hE, hR, ?_⟩
  unfold mPart at q
  cases e1 : f ρ s with
  | no => rw [e1] at q; exact q.elim
  | er x s1 => rw [e1] at q; exact q
  | ok x s1 =>
    rw [e1] at q
    intro v H1 μ1 ev R1 r1
    cases x with
    | int i => exact ⟨i, r1, q H1 μ1 ev R1⟩
    | _ => exact q.elim
abbrev OS := Sto → Dv → Option Int → Option Int → Option Dv
def mSl (op : OS) (f : FE) (lo hi : FO) : FE := fun ρ s => (f ρ s).bind fun x s1 => (lo ρ s1).bind fun l s2 => (hi ρ s2).bind fun u s3 => R.of (op s3 x l u) s3
theorem oE {H : Hp} {μ : Mu} {Z : Zs} {σ : L2.St} {ρ : Env} {s : Sto} {fo : FO} {k : Option Int → Sto → R Dv} {Q : VK} {Q' : Option Int → Hp → Prop} (hE : RE Γ H μ Z ρ σ) (hR : Rep Γ H μ Z s) (h : PostE Γ W H μ Z σ Q ((fo ρ s).bind k))
    (hk : ∀ b s1 H1 μ1, Evo H μ H1 μ1 → RE Γ H1 μ1 Z ρ σ → Rep Γ H1 μ1 Z s1 → PostE Γ W H1 μ1 Z σ Q (k b s1) → Q' b H1) : rdO Γ W fo σ H Q' := by
  refine ⟨μ, Z, ρ, s, hE, hR, ?_⟩
  cases e : fo ρ s with
  | ok x s1 =>
    rw [e] at h
    exact fun H1 μ1 ev R1 => hk x s1 H1 μ1 ev (hE.mono ev) R1 (PostE.evo ev h)
  | er x s1 => rw [e] at h; exact h
  | no => rw [e] at h; exact h.elim
def cutD (ws : List Dv) (lo hi : Option Int) : List Dv := (ws.drop (HT.sIx ws.length 0 lo)).take (HT.sIx ws.length ws.length hi - HT.sIx ws.length 0 lo)
theorem cut_ok {H : Hp} {μ : Mu} {Z : Zs} {ws : List Dv} {xs : List V} (r : RVs Γ H μ Z ws xs) (lo hi : Option Int) : RVs Γ H μ Z (cutD ws lo hi) (cutV xs lo hi) := by
  unfold cutD cutV
  rw [r.len]
  exact (r.drop _).take _
def slL : OS := fun s x lo hi => (lstOrSq s x).map fun ws => .lst (cutD ws lo hi)
def slT : OS := fun _ x lo hi => (tupOf x).map fun ws => .tup (cutD ws lo hi)
variable {lo hi : Option Expr} {flo fhi : FO} {p2 : Pos}
theorem me_slL (hK : Γ.K = X.K) (ha : ME X Γ W e f) (hl : MO X Γ W lo flo) (hh : MO X Γ W hi fhi) : ME X Γ W (.Subscript e (.Slice lo hi none p2) pos) (mSl slL f flo fhi) :=
  PE.imp (pe_slice sl_list ha hl hh) fun σ H Q ⟨μ, Z, ρ, s, hE, hR, q⟩ => eE hE hR q fun x s1 u H1 μ1 e1 hE1 R1 r1 q1 => oE hE1 R1 q1 fun l s2 H2 μ2 e2 hE2 R2 q2 => oE hE2 R2 q2 fun h s3 H3 μ3 e3 hE3 R3 q3 => by
    obtain ⟨w, hw, k⟩ := ofE q3
    unfold slL at hw
    cases q : lstOrSq s3 x with
    | none => rw [q] at hw; cases hw
    | some ws =>
      rw [q] at hw
      cases hw
      obtain ⟨p, xs, h1, h2, h3⟩ := lstOrSq_ok R3 ((r1.mono e2).mono e3) q
      exact ⟨p, xs, h1, hK ▸ h2, fun l' hl' => k _ _ (Evo.laid hl') (R3.laid hl') (new_lst R3 hl' (cut_ok h3 l h))⟩
theorem cut_all {ws : List Dv} {lo hi : Option Int} (h1 : HT.sIx ws.length 0 lo = 0) (h2 : HT.sIx ws.length ws.length hi = ws.length) : cutD ws lo hi = ws := by
  unfold cutD
  rw [h1, h2, List.drop_zero, Nat.sub_zero, List.take_length]
theorem me_slT (hK : Γ.K = X.K) (ha : ME X Γ W e f) (hl : MO X Γ W lo flo) (hh : MO X Γ W hi fhi) : ME X Γ W (.Subscript e (.Slice lo hi none p2) pos) (mSl slT f flo fhi) :=
  PE.imp (pe_slice sl_tupA ha hl hh) fun σ H Q ⟨μ, Z, ρ, s, hE, hR, q⟩ => eE hE hR q fun x s1 u H1 μ1 e1 hE1 R1 r1 q1 => oE hE1 R1 q1 fun l s2 H2 μ2 e2 hE2 R2 q2 => oE hE2 R2 q2 fun h s3 H3 μ3 e3 hE3 R3 q3 => by
    obtain ⟨w, hw, k⟩ := ofE q3
    unfold slT at hw
    have r3 := (r1.mono e2).mono e3
    cases q : tupOf x with
    | none => rw [q] at hw; cases hw
    | some ws =>
      rw [q] at hw
      cases hw
      have hx : x = .tup ws := by cases x <;> cases q <;> rfl
      subst hx
      obtain ⟨p, xs, h1, h2, h3⟩ := id r3
      refine ⟨p, xs, h1, hK ▸ h2.sq, fun ⟨z1, z2⟩ => ?_, fun _ l' hl' => k _ _ (Evo.laid hl') (R3.laid hl') (new_tup R3 hl' (cut_ok h3 l h))⟩
      rw [h3.len] at z1 z2
      refine k _ H3 .refl R3 ?_
      show RV Γ H3 μ3 Z (.tup (cutD ws l h)) _
      rw [cut_all z1 z2, ← h1]
      exact r3
def orS (o o' : OS) : OS := fun s x l u => match o s x l u with
  | some w => some w
  | none => o' s x l u
theorem sl_or {o o' : OS} (h : ME X Γ W e (mSl o f flo fhi)) (h' : ME X Γ W e (mSl o' f flo fhi)) : ME X Γ W e (mSl (orS o o') f flo fhi) :=
  PE.imp (PE.or h h') fun σ H Q ⟨μ, Z, ρ, s, hE, hR, q⟩ => by
    have key : PostE Γ W H μ Z σ Q (mSl o f flo fhi ρ s) ∨ PostE Γ W H μ Z σ Q (mSl o' f flo fhi ρ s) := by
      unfold mSl at q ⊢
      revert q
      cases f ρ s with
      | no => exact .inl
      | er x s1 => exact .inl
      | ok x s1 =>
        dsimp only [R.bind]
        cases flo ρ s1 with
        | no => exact .inl
        | er y s2 => exact .inl
        | ok y s2 =>
          dsimp only
          cases fhi ρ s2 with
          | no => exact .inl
          | er y s3 => exact .inl
          | ok z s3 =>
            dsimp only
            intro q
            unfold orS at q
            cases e1 : o s3 x y z with
            | some w => rw [e1] at q; exact .inl q
            | none => rw [e1] at q; exact .inr q
    exact key.imp (fun z => ⟨μ, Z, ρ, s, hE, hR, z⟩) fun z => ⟨μ, Z, ρ, s, hE, hR, z⟩
def slA : OS := orS slL slT
theorem me_sl (hK : Γ.K = X.K) (ha : ME X Γ W e f) (hl : MO X Γ W lo flo) (hh : MO X Γ W hi fhi) : ME X Γ W (.Subscript e (.Slice lo hi none p2) pos) (mSl slA f flo fhi) := sl_or (me_slL hK ha hl hh) (me_slT hK ha hl hh)
theorem Evo.put {H : Hp} {μ : Mu} {n : Nat} {p : Addr} {o : HO} (hn : μ n = some p) : Evo H μ (upd H p o) μ where
  keep := fun a ob h hm => by rw [upd_ne (fun z : a = p => hm n (by rw [z]; exact hn))]; exact h
  mu := fun _ _ h => h
  new := fun _ _ h => .inl h
  stay := fun m a h q => by
    by_cases z : a = p
    · rw [z, upd_same]; intro y; cases y
    · rw [upd_ne z]; exact q
theorem Rep.put {H : Hp} {μ : Mu} {Z : Zs} {s : Sto} {n : Nat} {p : Addr} {o : HO} {ob : Ob} (hR : Rep Γ H μ Z s) (hn : μ n = some p) (ho : RO Γ (upd H p o) μ Z p ob) : Rep Γ (upd H p o) μ Z (s.set n ob) := by
  have ev : Evo H μ (upd H p o) μ := Evo.put hn
  refine ⟨fun m ob' q => ?_, hR.inj, fun m a h => by rw [List.length_set]; exact hR.dom m a h, fun a z => ev.alive (hR.za a z)⟩
  by_cases hm : n = m
  · subst hm
    have hl : n < s.length := hR.dom n p hn
    rw [List.getElem?_set_self hl] at q
    cases q
    exact ⟨p, hn, hR.notZ hn, ho⟩
  · rw [List.getElem?_set_ne hm] at q
    obtain ⟨a, h1, h2, h3⟩ := hR.at m ob' q
    exact ⟨a, h1, h2, h3.mono' ev (upd_ne (fun z : a = p => hm (hR.inj n m p hn (by rw [← z]; exact h1))))⟩
/-- xs.append(e) -/
def mApp (f g : FE) : FE := fun ρ s => (f ρ s).bind fun x s1 => match x with
  | .ref n => match s1[n]? with
    | some (.lst _) => (g ρ s1).bind fun y s2 => match s2[n]? with
      | some (.lst ws) => if ws.length < lim then .ok .non (s2.set n (.lst (ws ++ [y]))) else .no
      | _ => .no
    | _ => .no
  | _ => .no
theorem me_app (h : PE X e (tBM Γ.K "list" rAppend (rdE Γ W f) (tCons (rdE Γ W g) tNil))) : ME X Γ W e (mApp f g) :=
  PE.imp h fun σ H Q ⟨μ, Z, ρ, s, hE, hR, q⟩ => eE hE hR q fun x s1 u H1 μ1 e1 hE1 R1 r1 q1 => by
    cases x with
    | ref n =>
      dsimp only at q1
      split at q1
      · rename_i us q0
        obtain ⟨p, h1, h2⟩ := r1
        obtain ⟨p', g1, _, xs, g3, g4⟩ := R1.at n _ q0
        rw [h2] at g1
        cases g1
        subst h1
        refine ⟨.inl ⟨rfl, xs, SqL.of g3⟩, ?_⟩
        refine eE hE1 R1 q1 fun y s2 v H2 μ2 e2 hE2 R2 r2 q2 => ?_
        split at q2
        · rename_i ws q3
          split at q2
          · rename_i hl
            obtain ⟨p'', k1, _, ys, k3, k4⟩ := R2.at n _ q3
            rw [e2.mu _ _ h2] at k1
            cases k1
            refine ⟨p, ys, v, rfl, rfl, k3, by rw [k4.len]; exact Nat.lt_of_lt_of_le hl (lim_ok (Nat.le_refl _)), ?_⟩
            have ev : Evo H2 μ2 (upd H2 p (.lst (ys ++ [v]))) μ2 := Evo.put (e2.mu _ _ h2)
            exact q2 .non _ μ2 ev (R2.put (e2.mu _ _ h2) ⟨_, upd_same, (k4.append (RVs.cons r2 RVs.nil)).mono ev⟩) rfl
          · exact q2.elim
        · exact q2.elim
      · exact q1.elim
    | _ => exact q1.elim
/-- d[k] = e -/
def mDPut (fo fi fv : FE) : FS := fun ρ s => (fv ρ s).thenC ρ fun v s1 => (fo ρ s1).thenC ρ fun x s2 => (fi ρ s2).thenC ρ fun y s3 => match x, keyOf y with
  | .ref n, some k => match s3[n]? with
    | some (.dct kws) => if kws.length < lim then .nx ρ (s3.set n (.dct (putD kws k v))) else .no
    | _ => .no
  | _, _ => .no
theorem map_len {α β γ : Type} {l : List (α × β)} {l' : List (α × γ)} (h : l.map (·.1) = l'.map (·.1)) : l.length = l'.length := by
  have := congrArg List.length h
  rw [List.length_map, List.length_map] at this
  exact this
theorem ms_dput {o i value : Expr} {pos' : Pos} {fo fi fv : FE} (hu : X.A.units + 1 < cLine) (ho : ME X Γ W o fo) (hi : ME X Γ W i fi) (hv : ME X Γ W value fv) (hs : swapsWith value (some (.Subscript o i pos')) pos.line X.env = pure false) :
    MS X Γ W (.Assign [.Subscript o i pos'] value pos) (mDPut fo fi fv) :=
  PS.imp (ps_dput hu ho hi hv hs) fun D σ H ⟨μ, Z, ρ, s, hE, hR, q⟩ => eS hE hR q fun v s1 uv H1 μ1 e1 hE1 R1 r1 q1 => eS hE1 R1 q1 fun x s2 ux H2 μ2 e2 hE2 R2 r2 q2 => eS hE2 R2 q2 fun y s3 uy H3 μ3 e3 hE3 R3 r3 q3 => by
    split at q3
    · rename_i n k hk
      split at q3
      · rename_i kws q0
        split at q3
        · rename_i hl
          obtain ⟨p, h1, h2⟩ := r2.mono e3
          obtain ⟨p', g1, _, kvs, g3, g4, g5⟩ := R3.at n _ q0
          rw [h2] at g1
          cases g1
          have rv := (r1.mono e2).mono e3
          obtain ⟨k1, k2⟩ := putD_ok (k := k) rv g4 g5
          have ev : Evo H3 μ3 (upd H3 p (.dK (putK kvs k uv))) μ3 := Evo.put h2
          refine ⟨p, upd H3 p (.dK (putK kvs k uv)), h1, .inl ⟨kvs, k, g3, keyOf_ok r3 hk, by rw [map_len g4]; exact Nat.lt_of_lt_of_le hl (lim_ok (Nat.le_refl _)), rfl⟩, ?_⟩
          exact q3 σ _ μ3 ev (R3.put h2 ⟨_, upd_same, k1, k2.mono ev⟩) (hE3.mono ev)
        · exact q3.elim
      · exact q3.elim
    · exact q3.elim
end
end MP
set_option Elab.async false
set_option linter.all false
set_option maxRecDepth 100000
set_option maxHeartbeats 4000000
namespace MP
open PySem PySem.Spec PyProof.Rows L2
end MP
set_option Elab.async false
set_option linter.all false
set_option maxRecDepth 100000
set_option maxHeartbeats 4000000
namespace MP
open PySem PySem.Spec PyProof.Rows L2
def SqX (K : PySem.W.Frag) (H : Hp) (t : Bool) (a : Addr) (xs : List V) : Prop := if t = true then SqT K H a xs else SqL K H a xs
def ItX (h : Heap) (t : Bool) (it a : Addr) (i : Nat) : Prop := if t = true then h.IsTupleIter it a i else h.IsListIter it a i
def HasX (h : Heap) (t : Bool) (a : Addr) (its : Array Value) : Prop := if t = true then h.IsTuple a its else h.IsList a its
theorem ItX.at {h h' : Heap} {t : Bool} {it a : Addr} {i : Nat} (x : ItX h t it a i) (k : ∀ o, h.get? it = some o → h'.get? it = some o) : ItX h' t it a i := by
  unfold ItX at x ⊢
  cases t with
  | true => rw [if_pos rfl] at x ⊢; exact x.at k
  | false => rw [if_neg Bool.false_ne_true] at x ⊢; exact x.at k
theorem ItX.obj {h : Heap} {t : Bool} {it a : Addr} {i : Nat} (x : ItX h t it a i) : ∃ o, h.get? it = some o ∧ ∀ v, o.data ≠ .cell v := by
  unfold ItX at x
  cases t with
  | true => rw [if_pos rfl] at x; obtain ⟨o, e, _, d⟩ := x; exact ⟨o, e, fun v q => by rw [d] at q; cases q⟩
  | false => rw [if_neg Bool.false_ne_true] at x; obtain ⟨o, e, _, d⟩ := x; exact ⟨o, e, fun v q => by rw [d] at q; cases q⟩
theorem drawsX {prog : Program} {w : World} {A : Around} (hh : A.handled = none) (t : Bool) (it a : Addr) (hne : a ≠ it) (items : Array Value) :
    Draws prog w A it [it, a] items.size (fun i v => items[i]? = some v) (fun i h => ItX h t it a i ∧ HasX h t a items) := by
  unfold ItX HasX
  cases t with
  | true => exact Draws.tuple hh it a hne items
  | false => exact Draws.list hh it a hne items
theorem beginsX (t : Bool) (a : Addr) (items : Array Value) : Begins (.ref a) { cls := .type (if t = true then "tuple_iterator" else "list_iterator"), data := .fields #[.ref a, .int 0 0] } fun h => HasX h t a items := by
  unfold HasX
  cases t with
  | true => exact begins_tuple a items
  | false => exact begins_list a items
theorem SqX.has {X : Cx} {pins : List (Addr × Obj)} {σ : L2.St} {H : Hp} {s : Shared} {t : Bool} {a : Addr} {xs : List V} (I : Inv X pins σ H s) (h : SqX X.K H t a xs) : ∃ its : List Value, Vals xs its ∧ HasX s.heap t a its.toArray ∧ a < s.heap.objs.size := by
  unfold SqX at h
  unfold HasX
  cases t with
  | true =>
    rw [if_pos rfl] at h
    obtain ⟨its, r, p, _⟩ := I.tuple h
    exact ⟨its, r, p, p.lt⟩
  | false =>
    rw [if_neg Bool.false_ne_true] at h
    obtain ⟨its, r, p, _⟩ := I.list h
    exact ⟨its, r, p.isList, p.lt⟩
theorem SqX.inj {X : Cx} {pins : List (Addr × Obj)} {σ : L2.St} {H : Hp} {s : Shared} {t : Bool} {a : Addr} {xs ys : List V} (I : Inv X pins σ H s) (h : SqX X.K H t a xs) (h' : SqX X.K H t a ys) : xs = ys := by
  unfold SqX at h h'
  cases t with
  | true => rw [if_pos rfl] at h h'; exact I.tuple_inj h h'
  | false => rw [if_neg Bool.false_ne_true] at h h'; exact I.list_inj h h'
/-- an iterator of new tuples, by the library's own walk: a turn of ours -/
theorem turn_item {X : Cx} {tg : Expr} {it : Addr} {fp fp' wr : List Addr} {n i : Nat} {Y : Nat → Heap → Value → Heap → Prop} {St tn : Nat → Heap → Prop} {pins : List (Addr × Obj)} {s : Shared} {σ : L2.St} {H : Hp} {E : Value → Shared → Prop} {J : It} (I : Inv X pins σ H s) (hf : ∀ b ∈ fp, FpOk X pins H b) (live : ∀ b ∈ fp, b < s.heap.objs.size)
    (G : GoesN X.prog X.w X.A tg it fp' wr n Y St) (hi : i < n) (hst : St i s.heap) (hw : ∀ b ∈ wr, b ∈ fp) (next : ∀ h', (∀ b o, b ∉ wr → s.heap.get? b = some o → h'.get? b = some o) → St (i + 1) h' → tn (i + 1) h')
    (yl : ∀ v h', Y i s.heap v h' → ∃ T vals us, v = .ref T ∧ s.heap.objs.size ≤ T ∧ h'.IsTuple T us ∧ Vals vals us.toList ∧ vals.length ≤ sizeLine ∧ J.yld i H (.ref T) (upd H T (.tup vals))) :
    wpAny (model X.prog X.w) X.A (pyNext (.ref it)) (fun r s1 => ∃ u, r = some u ∧
      wpAny (model X.prog X.w) X.A (letOwnedTupleGo tg (.ref it) u) (fun _ s2 => ∃ x H', Inv X pins σ H' s2 ∧ RelV x u ∧ J.yld i H x H' ∧ tn (i + 1) s2.heap ∧ ∀ b ∈ fp, H' b = none) E s1) E s := by
  refine G.goes i s (fun u s2 => ∃ x H', Inv X pins σ H' s2 ∧ RelV x u ∧ J.yld i H x H' ∧ tn (i + 1) s2.heap ∧ ∀ b ∈ fp, H' b = none) E hi hst fun v h' tk hY st' hk _ => ?_
  obtain ⟨T, vals, us, rfl, hT, ht, rv, hl, hy⟩ := yl v h' hY
  have new : ObjOk X.prog X.w (upd H T (.tup vals)) h' T (.tup vals) := ⟨hl, us.toList, rv, by rw [Array.toArray_toList]; exact ht⟩
  have J1 : Inv X pins σ (upd H T (.tup vals)) { s with heap := h', toks := tk } := I.turnedNew (ch := fp) (fun b o hb q => hk b o (fun z => hb (hw b z)) q) hf hT new
  refine ⟨.ref T, _, J1, rfl, hy, next h' hk st', fun b hb => ?_⟩
  rw [upd_ne (Nat.ne_of_lt (Nat.lt_of_lt_of_le (live b hb) hT))]
  exact (hf b hb).1
def JZip (K : PySem.W.Frag) (t u : Bool) (a b : Addr) : It :=
  ⟨fun i H => ∃ (xs ys : List V) (x y : V), SqX K H t a xs ∧ SqX K H u b ys ∧ xs[i]? = some x ∧ ys[i]? = some y,
   fun i H v H' => ∃ T x y, v = .ref T ∧ H T = none ∧ H' = upd H T (.tup [x, y]) ∧ (∀ xs, SqX K H t a xs → xs[i]? = some x) ∧ ∀ ys, SqX K H u b ys → ys[i]? = some y,
   fun i H => ∃ xs ys : List V, SqX K H t a xs ∧ SqX K H u b ys ∧ min xs.length ys.length = i⟩
def ZipTn (t u : Bool) (a b : Addr) (N : Nat) (i : Nat) (h : Heap) : Prop := IsZip h (N + 4) (N + 2) (N + 3) .none ∧ IsTupOf2 h (N + 2) (.ref N) (.ref (N + 1)) ∧ (∃ x y, IsTupOf2 h (N + 3) x y) ∧ ItX h t N a i ∧ ItX h u (N + 1) b i
theorem turn_zipX {P : Program} {w : World} {K : PySem.W.Frag} {elts : List Expr} {kk : Nat} {tpos : Pos} {t u : Bool} {a b : Addr} {N : Nat} (la : a < N) (lb : b < N) :
    Turn P w K (.Tuple elts kk tpos) (JZip K t u a b) [N + 4, N + 2, N + 3, N, N + 1] (N + 4) (ZipTn t u a b N) where
  mem := by simp
  obj := fun i h st c hc => by
    obtain ⟨hz, hTI, ⟨x, y, hTO⟩, h1, h2⟩ := st
    have e : c = N + 4 ∨ c = N + 2 ∨ c = N + 3 ∨ c = N ∨ c = N + 1 := by simpa using hc
    rcases e with q | q | q | q | q
    · rw [q]; exact ⟨_, hz, fun v q => nomatch q⟩
    · rw [q]; exact ⟨_, hTI, fun v q => nomatch q⟩
    · rw [q]; exact ⟨_, hTO, fun v q => nomatch q⟩
    · rw [q]; exact h1.obj
    · rw [q]; exact h2.obj
  keep := fun i h h' st k => by
    obtain ⟨hz, hTI, ⟨x, y, hTO⟩, h1, h2⟩ := st
    exact ⟨k _ (by simp) _ hz, k _ (by simp) _ hTI, ⟨x, y, k _ (by simp) _ hTO⟩, h1.at fun o q => k N (by simp) o q, h2.at fun o q => k (N + 1) (by simp) o q⟩
  item := by
    intro X hP hw hK hc i pins s σ H E I hf st hg
    subst hP hw hK
    obtain ⟨xs, ys, x, y, hqx, hqy, hx, hy⟩ := hg
    obtain ⟨its, rv, p, _⟩ := hqx.has I
    obtain ⟨its2, rv2, p2, _⟩ := hqy.has I
    obtain ⟨v1, hv1, r1⟩ := rv.get hx
    obtain ⟨v2, hv2, r2⟩ := rv2.get hy
    have hh : X.A.in1.handled = none := I.ok.hd hc
    have sep := zip_sep2 (N := N) (fp1 := [a]) (fp2 := [b]) (by simpa using la) (by simpa using lb)
    have G := GoesN.zip2 (prog := X.prog) (w := X.w) (A := X.A) (elts := elts) (x1 := kk) (pos := tpos) sep (drawsX hh t N a (Nat.ne_of_lt la) its.toArray) (drawsX hh u (N + 1) b (Nat.ne_of_lt (Nat.lt_succ_of_lt lb)) its2.toArray)
    obtain ⟨hz, hTI, hTO, h1, h2⟩ := id st
    have l1 := (List.getElem?_eq_some_iff.mp hv1).1
    have l2 := (List.getElem?_eq_some_iff.mp hv2).1
    have liveX : ∀ c ∈ [N + 4, N + 2, N + 3, N, N + 1], c < s.heap.objs.size := fun c hc => by
      have hN : N + 4 < s.heap.objs.size := Heap.lt_size hz
      have e : c = N + 4 ∨ c = N + 2 ∨ c = N + 3 ∨ c = N ∨ c = N + 1 := by simpa using hc
      omega
    refine turn_item (tn := ZipTn t u a b N) I hf liveX G (by simp; omega) ⟨hz, hTI, hTO, ⟨h1, p⟩, h2, p2⟩ (fun c hc => by
      have e : c = N + 4 ∨ c = N + 3 ∨ c = N ∨ c = N + 1 := by simpa using hc
      rcases e with q | q | q | q <;> (rw [q]; simp)) (fun h' _ st' => show ZipTn t u a b N (i + 1) h' from ⟨st'.1, st'.2.1, st'.2.2.1, st'.2.2.2.1.1, st'.2.2.2.2.1⟩) fun v h' hY => ?_
    obtain ⟨T, c1, c2, rfl, hT, e1, e2, ht⟩ := hY
    have e1' : its[i]? = some c1 := by simpa using e1
    have e2' : its2[i]? = some c2 := by simpa using e2
    rw [hv1] at e1'
    rw [hv2] at e2'
    cases e1'
    cases e2'
    exact ⟨T, [x, y], #[v1, v2], rfl, hT, ht, .cons r1 (.cons r2 .nil), (show 2 ≤ sizeLine by rw [sizeLine_eq]; decide), T, x, y, rfl, I.hok.fresh hT, rfl, fun l hl => by rw [SqX.inj I hl hqx]; exact hx, fun l hl => by rw [SqX.inj I hl hqy]; exact hy⟩
  done := by
    intro X hP hw hK hc i pins s σ H E I hf st hg
    subst hP hw hK
    obtain ⟨xs, ys, hqx, hqy, hend⟩ := hg
    obtain ⟨its, rv, p, _⟩ := hqx.has I
    obtain ⟨its2, rv2, p2, _⟩ := hqy.has I
    have hh : X.A.in1.handled = none := I.ok.hd hc
    have sep := zip_sep2 (N := N) (fp1 := [a]) (fp2 := [b]) (by simpa using la) (by simpa using lb)
    have G := GoesN.zip2 (prog := X.prog) (w := X.w) (A := X.A) (elts := elts) (x1 := kk) (pos := tpos) sep (drawsX hh t N a (Nat.ne_of_lt la) its.toArray) (drawsX hh u (N + 1) b (Nat.ne_of_lt (Nat.lt_succ_of_lt lb)) its2.toArray)
    obtain ⟨hz, hTI, hTO, h1, h2⟩ := id st
    have l1 := rv.length
    have l2 := rv2.length
    have hn : min its.toArray.size its2.toArray.size = i := by simp; omega
    rw [hn] at G
    exact G.stops s (fun s1 => Inv X pins σ H s1) E ⟨hz, hTI, hTO, ⟨h1, p⟩, h2, p2⟩ fun h' tk hk _ => I.turnedL (ch := [N + 4, N + 2, N + 3, N, N + 1]) (fun c o hb q => hk c o (fun z => hb (by
      have e : c = N + 4 ∨ c = N + 3 ∨ c = N ∨ c = N + 1 := by simpa using z
      rcases e with q | q | q | q <;> (rw [q]; simp))) q) hf
  self := fun A i s Q E st h => wpAny_pyIter_zip st.1 h
def JEnum (K : PySem.W.Frag) (t : Bool) (a : Addr) : It :=
  ⟨fun i H => ∃ (xs : List V) (x : V), SqX K H t a xs ∧ xs[i]? = some x,
   fun i H v H' => ∃ T x, v = .ref T ∧ H T = none ∧ H' = upd H T (.tup [.int (i : Nat), x]) ∧ ∀ xs, SqX K H t a xs → xs[i]? = some x,
   fun i H => ∃ xs : List V, SqX K H t a xs ∧ xs.length = i⟩
def EnumTn (t : Bool) (a : Addr) (N : Nat) (i : Nat) (h : Heap) : Prop := (∃ old, IsEnum h (N + 1) N ((0 : Int) + (i : Int)) old) ∧ ItX h t N a i
theorem turn_enumX {P : Program} {w : World} {K : PySem.W.Frag} {elts : List Expr} {kk : Nat} {tpos : Pos} {t : Bool} {a : Addr} {N : Nat} (la : a < N) :
    Turn P w K (.Tuple elts kk tpos) (JEnum K t a) [N + 1, N] (N + 1) (EnumTn t a N) where
  mem := by simp
  obj := fun i h st c hc => by
    obtain ⟨⟨old, he⟩, h1⟩ := st
    have e : c = N + 1 ∨ c = N := by simpa using hc
    rcases e with q | q
    · rw [q]; exact ⟨_, he, fun v q => nomatch q⟩
    · rw [q]; exact h1.obj
  keep := fun i h h' st k => by
    obtain ⟨⟨old, he⟩, h1⟩ := st
    exact ⟨⟨old, k _ (by simp) _ he⟩, h1.at fun o q => k N (by simp) o q⟩
  item := by
    intro X hP hw hK hc i pins s σ H E I hf st hg
    subst hP hw hK
    obtain ⟨xs, x, hqx, hx⟩ := hg
    obtain ⟨its, rv, p, _⟩ := hqx.has I
    obtain ⟨v1, hv1, r1⟩ := rv.get hx
    have hh : X.A.in1.handled = none := I.ok.hd hc
    have nf : N + 1 ∉ [N, a] := fun m => by
      rcases List.mem_cons.mp m with e | e
      · exact Nat.succ_ne_self N e
      · exact Nat.lt_irrefl a (Nat.lt_trans la ((List.mem_singleton.mp e) ▸ Nat.lt_succ_self N))
    have G := GoesN.enumFrom (prog := X.prog) (w := X.w) (A := X.A) (elts := elts) (x1 := kk) (pos := tpos) 0 (drawsX hh t N a (Nat.ne_of_lt la) its.toArray) (N + 1) (Nat.succ_ne_self N) nf (by simp)
    obtain ⟨⟨old, he⟩, h1⟩ := id st
    have l1 := (List.getElem?_eq_some_iff.mp hv1).1
    have liveX : ∀ c ∈ [N + 1, N], c < s.heap.objs.size := fun c hc => by
      have hN : N + 1 < s.heap.objs.size := Heap.lt_size he
      have e : c = N + 1 ∨ c = N := by simpa using hc
      omega
    refine turn_item (tn := EnumTn t a N) I hf liveX G (by simpa using l1) ⟨⟨old, he⟩, h1, p⟩ (fun c hc => hc) (fun h' _ st' => show EnumTn t a N (i + 1) h' from ⟨st'.1, st'.2.1⟩) fun v h' hY => ?_
    obtain ⟨T, tt, c1, rfl, hT, e1, ht⟩ := hY
    have e1' : its[i]? = some c1 := by simpa using e1
    rw [hv1] at e1'
    cases e1'
    rw [Int.zero_add] at ht
    exact ⟨T, [.int (i : Nat), x], #[.int (i : Nat) tt, v1], rfl, hT, ht, .cons ⟨tt, rfl⟩ (.cons r1 .nil), (show 2 ≤ sizeLine by rw [sizeLine_eq]; decide), T, x, rfl, I.hok.fresh hT, rfl, fun l hl => by rw [SqX.inj I hl hqx]; exact hx⟩
  done := by
    intro X hP hw hK hc i pins s σ H E I hf st hg
    subst hP hw hK
    obtain ⟨xs, hqx, hend⟩ := hg
    obtain ⟨its, rv, p, _⟩ := hqx.has I
    have hh : X.A.in1.handled = none := I.ok.hd hc
    have nf : N + 1 ∉ [N, a] := fun m => by
      rcases List.mem_cons.mp m with e | e
      · exact Nat.succ_ne_self N e
      · exact Nat.lt_irrefl a (Nat.lt_trans la ((List.mem_singleton.mp e) ▸ Nat.lt_succ_self N))
    have G := GoesN.enumFrom (prog := X.prog) (w := X.w) (A := X.A) (elts := elts) (x1 := kk) (pos := tpos) 0 (drawsX hh t N a (Nat.ne_of_lt la) its.toArray) (N + 1) (Nat.succ_ne_self N) nf (by simp)
    obtain ⟨⟨old, he⟩, h1⟩ := id st
    have l1 := rv.length
    have hn : its.toArray.size = i := by simp; omega
    rw [hn] at G
    exact G.stops s (fun s1 => Inv X pins σ H s1) E ⟨⟨old, he⟩, h1, p⟩ fun h' tk hk _ => I.turnedL (ch := [N + 1, N]) (fun c o hb q => hk c o hb q) hf
  self := fun A i s Q E st h => let ⟨⟨_, he⟩, _⟩ := st; wpAny_pyIter_enum he h
section
variable {X : Cx} {Γ : Ct} {W : WX}
def iZipG (K : PySem.W.Frag) (ta : TA) : TI := fun σ H R => ta σ H fun vs H1 => ∃ t u a b xs ys, vs = [.ref a, .ref b] ∧ SqX K H1 t a xs ∧ SqX K H1 u b ys ∧ R (JZip K t u a b) H1
theorem pi_zipG {e e2 : Expr} {ta : TA} {p pos tpos : Pos} {elts : List Expr} {kk : Nat} (hg : Gl X "zip") (hm : X.mg "zip" = none) (ha : PA X [e, e2] ta) (hs : starEach [e, e2] X.env = (false, eval e X.env) :: starEach [e2] X.env := by rfl) (hpl : (backTo pos (starEach [e2] X.env)).any (·.1) = false := by rfl) :
    PI X (.Tuple elts kk tpos) (.Call (.Name "zip" p) [e, e2] [] pos) (iZipG X.K ta) := by
  refine ⟨fun pins s σ H R I h => ?_⟩
  refine Call_ (ld_blt I hg hm boot_zip (callWith_type1 (thn (ha.run pos pins s σ H _ I h) fun us s1 ⟨vs, H1, I1, r1, q1⟩ => ?_) hs hpl))
  obtain ⟨t, u, a, b, xs, ys, rfl, hqx, hqy, q⟩ := q1
  obtain ⟨v, us', rfl, rfl⟩ : ∃ v us', us = v :: us' ∧ v = Value.ref a := by cases r1 with | cons r rr => exact ⟨_, _, rfl, r⟩
  obtain ⟨v', rfl, rfl⟩ : ∃ v', us' = [v'] ∧ v' = Value.ref b := by
    cases r1 with
    | cons r rr => cases rr with
      | cons r' rr' => cases rr'; exact ⟨_, rfl, r'⟩
  obtain ⟨its, rv, p1, la⟩ := hqx.has I1
  obtain ⟨its2, rv2, p2, lb⟩ := hqy.has I1
  refine zip_begins2 (beginsX t a its.toArray) (beginsX u b its2.toArray) p1 p2 fun h' hz hTI hTO h1 h2 _ hk => wpAny_pyIter_zip hz ?_
  have I2 : Inv X pins σ H1 { s1 with heap := h' } := I1.kept (t' := s1.toks) hk
  refine ⟨_, [s1.heap.objs.size + 4, s1.heap.objs.size + 2, s1.heap.objs.size + 3, s1.heap.objs.size, s1.heap.objs.size + 1], _, _, H1, rfl, I2, turn_zipX la lb, ⟨hz, hTI, ⟨_, _, hTO⟩, ?_, ?_⟩, fun c hc => ?_, q⟩
  · unfold ItX
    cases t with
    | true => exact ⟨_, h1, rfl, rfl⟩
    | false => exact ⟨_, h1, rfl, rfl⟩
  · unfold ItX
    cases u with
    | true => exact ⟨_, h2, rfl, rfl⟩
    | false => exact ⟨_, h2, rfl, rfl⟩
  · have e' : c = s1.heap.objs.size + 4 ∨ c = s1.heap.objs.size + 2 ∨ c = s1.heap.objs.size + 3 ∨ c = s1.heap.objs.size ∨ c = s1.heap.objs.size + 1 := by simpa using hc
    have hle : s1.heap.objs.size ≤ c := by rcases e' with z | z | z | z | z <;> (rw [z]; first | exact Nat.le_refl _ | exact Nat.le_add_right _ _)
    exact I1.fpOk hle (I1.hok.fresh hle)
def zipD : List Dv → List Dv → List Dv
  | a :: r, b :: t => .tup [a, b] :: zipD r t
  | _, _ => []
theorem zipD_len : ∀ (l m : List Dv), (zipD l m).length = min l.length m.length
  | [], _ => by simp [zipD]
  | _ :: _, [] => by simp [zipD]
  | a :: r, b :: t => by simp [zipD, zipD_len r t]
theorem zipD_get : ∀ {l m : List Dv} {i : Nat} {w : Dv}, (zipD l m)[i]? = some w → ∃ x y, l[i]? = some x ∧ m[i]? = some y ∧ w = .tup [x, y]
  | [], _, _, _, h => by simp [zipD] at h
  | _ :: _, [], _, _, h => by simp [zipD] at h
  | a :: r, b :: t, 0, w, h => by simp [zipD] at h; exact ⟨a, b, rfl, rfl, h.symm⟩
  | a :: r, b :: t, i + 1, w, h => by
    have h' : (zipD r t)[i]? = some w := by simpa [zipD] using h
    obtain ⟨x, y, h1, h2, h3⟩ := zipD_get h'
    exact ⟨x, y, by simpa using h1, by simpa using h2, h3⟩
/-- a plain sequence, not of the store -/
def plainOf : Dv → Option (Bool × List Dv)
  | .tup ws => some (true, ws)
  | .lst ws => some (false, ws)
  | .sq ws => some (false, ws)
  | _ => none
theorem plain_ok {H : Hp} {μ : Mu} {Z : Zs} {w : Dv} {v : V} {t : Bool} {ws : List Dv} (r : RV Γ H μ Z w v) (e : plainOf w = some (t, ws)) : ∃ a xs, v = .ref a ∧ RVs Γ H μ Z ws xs ∧ ∀ H' μ', EvoZ Z H μ H' μ' → SqX Γ.K H' t a xs := by
  cases w with
  | tup us =>
    cases e
    obtain ⟨a, xs, h1, h2, h3⟩ := r
    exact ⟨a, xs, h1, h3, fun H' μ' ev => (h2.monoZ ev).sq⟩
  | sq us =>
    cases e
    obtain ⟨a, xs, h1, h2, h3⟩ := r
    exact ⟨a, xs, h1, h3, fun H' μ' ev => (h2.monoZ ev).sq⟩
  | lst us =>
    cases e
    obtain ⟨a, xs, h1, h2, h3, h4⟩ := r
    exact ⟨a, xs, h1, h4, fun H' μ' ev => SqL.of (ev.keep _ _ h2 h3.1 h3.2)⟩
  | _ => cases e
def iZip2 (fa : FA) : FI := fun ρ s => (fa ρ s).bind fun ws s1 => match ws with
  | [x, y] => match plainOf x, plainOf y with
    | some (_, a), some (_, b) => .ok { ws := zipD a b } s1
    | _, _ => .no
  | _ => .no
theorem mi_zip {e e2 : Expr} {fa : FA} {p pos tpos : Pos} {elts : List Expr} {kk : Nat} (hK : Γ.K = X.K) (hg : Gl X "zip") (hm : X.mg "zip" = none) (ha : MA X Γ W [e, e2] fa) (hs : starEach [e, e2] X.env = (false, eval e X.env) :: starEach [e2] X.env := by rfl) (hpl : (backTo pos (starEach [e2] X.env)).any (·.1) = false := by rfl) :
    MI X Γ W (.Tuple elts kk tpos) (.Call (.Name "zip" p) [e, e2] [] pos) (iZip2 fa) :=
  PI.imp (pi_zipG hg hm ha hs hpl) fun σ H Q ⟨μ, Z, ρ, s, hE, hR, q⟩ => iA hE hR q fun ws s1 vs H1 μ1 e1 E1 R1 r1 q1 => by
    split at q1
    · rename_i x y
      split at q1
      · rename_i t a u b qx qy
        obtain ⟨v, v', rfl, rx, ry⟩ := two r1
        obtain ⟨pa, xs, rfl, r2, k2⟩ := plain_ok rx qx
        obtain ⟨pb, ys, rfl, r3, k3⟩ := plain_ok ry qy
        rw [← hK]
        refine ⟨t, u, pa, pb, xs, ys, rfl, k2 _ _ Evo.refl.z, k3 _ _ Evo.refl.z, q1 _ _ _ .refl R1 fun H' μ' Z' s' ev hR' hy hz _ => ⟨⟨xs, ys, k2 _ _ ev, k3 _ _ ev, by rw [zipD_len, r2.len, r3.len]⟩, fun i w hi => ?_⟩⟩
        obtain ⟨x', y', g1, g2, rfl⟩ := zipD_get hi
        obtain ⟨ux, h1, h2⟩ := r2.get g1
        obtain ⟨uy, h3, h4⟩ := r3.get g2
        refine ⟨⟨xs, ys, ux, uy, k2 _ _ ev, k3 _ _ ev, h1, h3⟩, fun z H'' hq => ?_⟩
        obtain ⟨T, zx, zy, rfl, hT, rfl, j1, j2⟩ := hq
        have e3 := j1 xs (k2 _ _ ev)
        have e4 := j2 ys (k3 _ _ ev)
        rw [h1] at e3
        rw [h3] at e4
        cases e3
        cases e4
        exact ⟨Evo.laid hT, hR'.laid hT, new_tup hR' hT (RVs.cons ((RV.strong hz _ h2).monoZ (ev.more hy)) (RVs.cons ((RV.strong hz _ h4).monoZ (ev.more hy)) RVs.nil))⟩
      · exact q1.elim
    · exact q1.elim
def iEnumG (K : PySem.W.Frag) (ta : TA) : TI := fun σ H R => ta σ H fun vs H1 => ∃ t a xs, vs = [.ref a] ∧ SqX K H1 t a xs ∧ R (JEnum K t a) H1
def enumD : Nat → List Dv → List Dv
  | _, [] => []
  | n, a :: r => .tup [.int (n : Nat), a] :: enumD (n + 1) r
theorem enumD_len : ∀ (n : Nat) (l : List Dv), (enumD n l).length = l.length
  | _, [] => rfl
  | n, a :: r => by simp [enumD, enumD_len (n + 1) r]
theorem enumD_get : ∀ {l : List Dv} {n i : Nat} {w : Dv}, (enumD n l)[i]? = some w → ∃ x, l[i]? = some x ∧ w = .tup [.int ((n + i : Nat) : Int), x]
  | [], _, _, _, h => by simp [enumD] at h
  | a :: r, n, 0, w, h => by simp [enumD] at h; exact ⟨a, rfl, h.symm⟩
  | a :: r, n, i + 1, w, h => by
    have h' : (enumD (n + 1) r)[i]? = some w := by simpa [enumD] using h
    obtain ⟨x, h1, h2⟩ := enumD_get h'
    exact ⟨x, by simpa using h1, by rw [h2]; simp; omega⟩
def iEnum1 (fa : FA) : FI := fun ρ s => (fa ρ s).bind fun ws s1 => match ws with
  | [x] => match plainOf x with
    | some (_, a) => .ok { ws := enumD 0 a } s1
    | none => .no
  | _ => .no
end
end MP
set_option Elab.async false
set_option linter.all false
set_option maxRecDepth 100000
set_option maxHeartbeats 4000000
namespace MP
open PySem PySem.Spec PyProof.Rows L2
theorem enum_new {v : Value} {o : Obj} {Hh : Heap → Prop} (B : Begins v o Hh) : Meets (Builtin.«enumerate.__new__» ⟨[.type "enumerate", v], []⟩) (fun _ R s => Hh s.heap ∧
    R (.ok (.ret (.ref (s.heap.push o).objs.size))) { s with heap := (s.heap.push o).push { cls := .type "enumerate", data := .fields #[.none, .bool false, .ref s.heap.objs.size, rawInt 0, .none, .none] } }) :=
  .of_wp fun prog w A R s h => by
    obtain ⟨hp, g, d, tk, os⟩ := s
    obtain ⟨h1, h⟩ := h
    have hsub := sub_enumerate
    have it : ∀ {A' : Around} {E Q : Value → Shared → Prop}, Q (.ref hp.objs.size) ⟨hp.push o, g, d, tk, os⟩ → wpAny (model prog w) A' (pyIter v) Q E ⟨hp, g, d, tk, os⟩ := fun q => B.iter prog w _ _ ⟨hp, g, d, tk, os⟩ _ h1 q
    wp_walk using it
    refine wpAny_stack_any fun st => wpAny_pure ?_
    split
    · rename_i c _ _ _ _ _
      cases (c == Value.type "enumerate") <;> (wp_walk using it; exact ⟨_, rfl, h⟩)
    · wp_walk using it
      exact ⟨_, rfl, h⟩
section
variable {prog : Program} {w : World} {A : Around} {E : Value → Shared → Prop} {s : Shared}
theorem enum_call {v : Value} {o : Obj} {Hh : Heap → Prop} {Q : Value → Shared → Prop} (B : Begins v o Hh) (h1 : Hh s.heap)
    (h : ∀ h', IsEnum h' (s.heap.objs.size + 1) s.heap.objs.size 0 .none → h'.get? s.heap.objs.size = some o → (∀ b o, s.heap.get? b = some o → h'.get? b = some o) → Q (.ref (s.heap.objs.size + 1)) { s with heap := h' }) :
    wpAny (model prog w) A (call (.type "enumerate") [v]) Q E s := by
  refine callType_new F.called_enumerate (by decide) (F.typeCall_enumerate_1 _) (F.newCall_enumerate_1 _) (fun obj => F.args_object_init_2 obj _) F.entry_enumerate_new (enum_new B) ⟨h1, ?_⟩
  have sz : (s.heap.push o).objs.size = s.heap.objs.size + 1 := Heap.size_push ..
  show _ ∧ _
  rw [sz]
  have e := Heap.get?_push_size (s.heap.push o) (o := { cls := .type "enumerate", data := .fields #[.none, .bool false, .ref s.heap.objs.size, rawInt 0, .none, .none] }) rfl
  rw [sz] at e
  exact ⟨⟨_, e, rfl⟩, h _ e (Heap.get?_push_of_some _ (Heap.get?_push_size _ B.free)) fun b o x => Heap.get?_push_of_some _ (Heap.get?_push_of_some _ x)⟩
end
section
variable {X : Cx} {Γ : Ct} {W : WX}
theorem pi_enumG {e : Expr} {ta : TA} {p pos tpos : Pos} {elts : List Expr} {kk : Nat} (hg : Gl X "enumerate") (hm : X.mg "enumerate" = none) (ha : PA X [e] ta) (hs : starEach [e] X.env = [(false, eval e X.env)] := by rfl) :
    PI X (.Tuple elts kk tpos) (.Call (.Name "enumerate" p) [e] [] pos) (iEnumG X.K ta) := by
  refine ⟨fun pins s σ H R I h => ?_⟩
  refine Call_ (ld_blt I hg hm boot_enumerate (callWith_type1 (thn (ha.run pos pins s σ H _ I h) fun us s1 ⟨vs, H1, I1, r1, q1⟩ => ?_) hs rfl))
  obtain ⟨t, a, xs, rfl, hqx, q⟩ := q1
  obtain ⟨v, rfl, rfl⟩ : ∃ v, us = [v] ∧ v = Value.ref a := by
    cases r1 with
    | cons r rr => cases rr; exact ⟨_, rfl, r⟩
  obtain ⟨its, rv, p1, la⟩ := hqx.has I1
  refine enum_call (beginsX t a its.toArray) p1 fun h' he h1 hk => wpAny_pyIter_enum he ?_
  have I2 : Inv X pins σ H1 { s1 with heap := h' } := I1.kept (t' := s1.toks) hk
  refine ⟨_, [s1.heap.objs.size + 1, s1.heap.objs.size], _, _, H1, rfl, I2, turn_enumX la, ⟨⟨.none, he⟩, ?_⟩, fun c hc => ?_, q⟩
  · unfold ItX
    cases t with
    | true => exact ⟨_, h1, rfl, rfl⟩
    | false => exact ⟨_, h1, rfl, rfl⟩
  · have e' : c = s1.heap.objs.size + 1 ∨ c = s1.heap.objs.size := by simpa using hc
    have hle : s1.heap.objs.size ≤ c := by rcases e' with z | z <;> (rw [z]; first | exact Nat.le_refl _ | exact Nat.le_add_right _ _)
    exact I1.fpOk hle (I1.hok.fresh hle)
theorem mi_enum {e : Expr} {fa : FA} {p pos tpos : Pos} {elts : List Expr} {kk : Nat} (hK : Γ.K = X.K) (hg : Gl X "enumerate") (hm : X.mg "enumerate" = none) (ha : MA X Γ W [e] fa) (hs : starEach [e] X.env = [(false, eval e X.env)] := by rfl) :
    MI X Γ W (.Tuple elts kk tpos) (.Call (.Name "enumerate" p) [e] [] pos) (iEnum1 fa) :=
  PI.imp (pi_enumG hg hm ha hs) fun σ H Q ⟨μ, Z, ρ, s, hE, hR, q⟩ => iA hE hR q fun ws s1 vs H1 μ1 e1 E1 R1 r1 q1 => by
    split at q1
    · rename_i x
      split at q1
      · rename_i t a qx
        obtain ⟨v, rfl, rx⟩ := one r1
        obtain ⟨pa, xs, rfl, r2, k2⟩ := plain_ok rx qx
        rw [← hK]
        refine ⟨t, pa, xs, rfl, k2 _ _ Evo.refl.z, q1 _ _ _ .refl R1 fun H' μ' Z' s' ev hR' hy hz _ => ⟨⟨xs, k2 _ _ ev, by rw [enumD_len, r2.len]⟩, fun i w hi => ?_⟩⟩
        obtain ⟨x', g1, rfl⟩ := enumD_get hi
        obtain ⟨ux, h1, h2⟩ := r2.get g1
        refine ⟨⟨xs, ux, k2 _ _ ev, h1⟩, fun z H'' hq => ?_⟩
        obtain ⟨T, zx, rfl, hT, rfl, j1⟩ := hq
        have e3 := j1 xs (k2 _ _ ev)
        rw [h1] at e3
        cases e3
        rw [Nat.zero_add]
        exact ⟨Evo.laid hT, hR'.laid hT, new_tup hR' hT (RVs.cons (w := .int (i : Nat)) rfl (RVs.cons ((RV.strong hz _ h2).monoZ (ev.more hy)) RVs.nil))⟩
      · exact q1.elim
    · exact q1.elim
def disp : Dv → Bool
  | .tup _ => true | .lst _ => true | .sq _ => true | .ref _ => true
  | _ => false
def reprD : ON := fun s xs => match xs with
  | [x] => if disp x = true then match toD s x with
      | some d => if d.showable = true ∧ d.hasDict = false ∧ d.depth ≤ 60 ∧ d.shown.length ≤ lim then some (.str d.shown) else none
      | none => none
    else none
  | _ => none
theorem sRepr (hK : Γ.K = X.K) : OpN Γ (rRepr X.K) reprD := fun H μ Z s xs w vs Q hR rx e k => by
  rw [← hK]
  unfold reprD at e
  split at e
  · rename_i x
    split at e
    · rename_i hd
      split at e
      · rename_i d q
        split at e
        · rename_i hc
          cases e
          obtain ⟨v, rfl, r1⟩ := one rx
          have hv : ∃ a, v = .ref a := by
            cases x with
            | tup _ => obtain ⟨a, _, h, _⟩ := r1; exact ⟨a, h⟩
            | lst _ => obtain ⟨a, _, h, _⟩ := r1; exact ⟨a, h⟩
            | sq _ => obtain ⟨a, _, h, _⟩ := r1; exact ⟨a, h⟩
            | ref _ => obtain ⟨a, h, _⟩ := r1; exact ⟨a, h⟩
            | _ => cases hd
          obtain ⟨a, rfl⟩ := hv
          exact ⟨_, a, d, rfl, rfl, toD_ok hR r1 q, hc.1, hc.2.1, hc.2.2.1, lim_ok hc.2.2.2, k _ H .refl hR rfl⟩
        · cases e
      · cases e
    · cases e
  · cases e
def mPairs : List (FE × FE) → Env → Sto → R (List (Dv × Dv))
  | [], _, s => .ok [] s
  | (f, g) :: r, ρ, s => (f ρ s).bind fun x s1 => (g ρ s1).bind fun y s2 => (mPairs r ρ s2).bind fun ps s3 => .ok ((x, y) :: ps) s3
def keysOf : List (Dv × Dv) → Option (List (Key × Dv))
  | [] => some []
  | (x, y) :: r => match keyOf x, keysOf r with
    | some k, some l => some ((k, y) :: l)
    | _, _ => none
def mDctM (ps : List (FE × FE)) : FE := fun ρ s => match mPairs ps ρ s with
  | .ok l s1 => match keysOf l with
    | some kws => if kws.length ≤ 15 then .ok (.ref s1.length) (s1 ++ [.dct (kws.foldl (fun acc kv => putD acc kv.1 kv.2) [])]) else .no
    | none => .no
  | _ => .no
theorem pairs_ok {Z : Zs} {σ : L2.St} {ρ : Env} : ∀ {ps : List (FE × FE)} {H : Hp} {μ : Mu} {s s' : Sto} {l : List (Dv × Dv)} {Q' : List (V × V) → Hp → Prop}, RE Γ H μ Z ρ σ → Rep Γ H μ Z s → mPairs ps ρ s = .ok l s' →
    (∀ vs H1 μ1, Evo H μ H1 μ1 → Rep Γ H1 μ1 Z s' → RVs Γ H1 μ1 Z (l.map (·.1)) (vs.map (·.1)) → RVs Γ H1 μ1 Z (l.map (·.2)) (vs.map (·.2)) → Q' vs H1) →
    tPairs (ps.map fun p => (rdE Γ W p.1, rdE Γ W p.2)) σ H Q'
  | [], H, μ, s, s', l, Q', hE, hR, q, hk => by
    cases q
    exact hk [] H μ .refl hR rfl rfl
  | (f, g) :: r, H, μ, s, s', l, Q', hE, hR, q, hk => by
    simp only [mPairs] at q
    cases e1 : f ρ s with
    | no => rw [e1] at q; cases q
    | er x s1 => rw [e1] at q; cases q
    | ok x s1 =>
      rw [e1] at q
      dsimp only [R.bind] at q
      cases e2 : g ρ s1 with
      | no => rw [e2] at q; cases q
      | er y s2 => rw [e2] at q; cases q
      | ok y s2 =>
        rw [e2] at q
        dsimp only at q
        cases e3 : mPairs r ρ s2 with
        | no => rw [e3] at q; cases q
        | er y s2 => rw [e3] at q; cases q
        | ok l' s3 =>
          rw [e3] at q
          cases q
          refine ⟨μ, Z, ρ, s, hE, hR, ?_⟩
          show PostE Γ W H μ Z σ _ (f ρ s)
          rw [e1]
          intro u H1 μ1 v1 R1 r1
          refine ⟨μ1, Z, ρ, s1, hE.mono v1, R1, ?_⟩
          show PostE Γ W H1 μ1 Z σ _ (g ρ s1)
          rw [e2]
          intro v H2 μ2 v2 R2 r2
          exact pairs_ok ((hE.mono v1).mono v2) R2 e3 fun vs H3 μ3 v3 R3 g1 g2 => hk ((u, v) :: vs) H3 μ3 ((v1.trans v2).trans v3) R3 (RVs.cons ((r1.mono v2).mono v3) g1) (RVs.cons (r2.mono v3) g2)
theorem keysOf_ok {H : Hp} {μ : Mu} {Z : Zs} : ∀ {l : List (Dv × Dv)} {vs : List (V × V)} {kws : List (Key × Dv)}, RVs Γ H μ Z (l.map (·.1)) (vs.map (·.1)) → RVs Γ H μ Z (l.map (·.2)) (vs.map (·.2)) → keysOf l = some kws →
    ∃ kvs : List (Key × V), vs = kvs.map (fun kv => (kV kv.1, kv.2)) ∧ kvs.map (·.1) = kws.map (·.1) ∧ RVs Γ H μ Z (kws.map (·.2)) (kvs.map (·.2))
  | [], vs, _, h1, _, e => by
    cases e
    cases vs with
    | nil => exact ⟨[], rfl, rfl, rfl⟩
    | cons _ _ => cases h1
  | (x, y) :: l, vs, kws, h1, h2, e => by
    cases vs with
    | nil => obtain ⟨_, _, z, _⟩ := h1; cases z
    | cons p vs =>
      obtain ⟨u, us, z1, r1, r2⟩ := h1
      obtain ⟨v, ws, z2, r3, r4⟩ := h2
      obtain ⟨a1, a2⟩ := List.cons.inj z1
      obtain ⟨b1, b2⟩ := List.cons.inj z2
      simp only [keysOf] at e
      split at e
      · rename_i k l' e1 e2
        cases e
        obtain ⟨kvs, c1, c2, c3⟩ := keysOf_ok (a2 ▸ r2) (b2 ▸ r4) e2
        refine ⟨(k, v) :: kvs, ?_, by rw [List.map_cons, List.map_cons, c2], RVs.cons r3 c3⟩
        rw [List.map_cons, ← c1]
        have p1 : p.1 = u := a1
        have p2 : p.2 = v := b1
        show p :: vs = (kV k, v) :: vs
        rw [← keyOf_ok r1 e1, ← p1, ← p2]
      · cases e
theorem merge_ok {H : Hp} {μ : Mu} {Z : Zs} : ∀ {kws acc : List (Key × Dv)} {kvs bcc : List (Key × V)}, kvs.map (·.1) = kws.map (·.1) → RVs Γ H μ Z (kws.map (·.2)) (kvs.map (·.2)) → bcc.map (·.1) = acc.map (·.1) → RVs Γ H μ Z (acc.map (·.2)) (bcc.map (·.2)) →
    (mergeK bcc kvs).map (·.1) = (kws.foldl (fun acc kv => putD acc kv.1 kv.2) acc).map (·.1) ∧ RVs Γ H μ Z ((kws.foldl (fun acc kv => putD acc kv.1 kv.2) acc).map (·.2)) ((mergeK bcc kvs).map (·.2))
  | [], acc, kvs, bcc, h1, _, h3, h4 => by
    cases kvs with
    | nil => exact ⟨h3, h4⟩
    | cons _ _ => cases h1
  | p :: kws, acc, kvs, bcc, h1, h2, h3, h4 => by
    cases kvs with
    | nil => cases h1
    | cons q kvs =>
      obtain ⟨a1, a2⟩ := List.cons.inj h1
      obtain ⟨v, vs, z, r1, r2⟩ := h2
      obtain ⟨b1, b2⟩ := List.cons.inj z
      subst b1
      have a1' : q.1 = p.1 := a1
      obtain ⟨c1, c2⟩ := putD_ok (k := p.1) r1 h3 h4
      have := merge_ok (kws := kws) (acc := putD acc p.1 p.2) (kvs := kvs) (bcc := putK bcc p.1 q.2) a2 (b2 ▸ r2) c1 c2
      show (mergeK (putK bcc q.1 q.2) kvs).map (·.1) = _ ∧ RVs Γ H μ Z _ ((mergeK (putK bcc q.1 q.2) kvs).map (·.2))
      rw [a1']
      exact this
theorem ext_fz {μ : Mu} {Z : Zs} {n : Nat} {p a : Addr} (f : Fz μ (hid p Z) a) : Fz (MP.ext μ n p) Z a := ⟨fun m h => by
  unfold MP.ext at h
  split at h
  · cases h; exact f.2 (.inl rfl)
  · exact f.1 m h, fun z => f.2 (.inr z)⟩
theorem ext_mu {μ : Mu} {n m : Nat} {p a : Addr} (hn : μ n = none) (h : μ m = some a) : MP.ext μ n p m = some a := by
  unfold MP.ext
  rw [if_neg fun z => by rw [z, hn] at h; cases h]
  exact h
mutual
theorem RV.adopt {H : Hp} {μ : Mu} {Z : Zs} {n : Nat} {p : Addr} (hn : μ n = none) : ∀ (w : Dv) {v : V}, RV Γ H μ (hid p Z) w v → RV Γ H (MP.ext μ n p) Z w v
  | .non, _, q => q
  | .bl _, _, q => q
  | .int _, _, q => q
  | .str _, _, q => q
  | .ty _, _, q => q
  | .cl _, _, q => q
  | .ref n, _, q => by
    obtain ⟨a, h1, h2⟩ := q
    exact ⟨a, h1, ext_mu hn h2⟩
  | .tup ws, _, q => by
    obtain ⟨a, xs, h1, h2, h3⟩ := q
    exact ⟨a, xs, h1, h2.elim (fun z => .inl ⟨z.1, ext_fz z.2⟩) .inr, RVs.adopt hn ws h3⟩
  | .sq ws, _, q => by
    obtain ⟨a, xs, h1, h2, h3⟩ := q
    exact ⟨a, xs, h1, h2.elim (fun z => .inl ⟨z.1, ext_fz z.2⟩) .inr, RVs.adopt hn ws h3⟩
  | .lst ws, _, q => by
    obtain ⟨a, xs, h1, h2, h3, h4⟩ := q
    exact ⟨a, xs, h1, h2, ext_fz h3, RVs.adopt hn ws h4⟩
  | .dct ks ws, _, q => by
    obtain ⟨a, kvs, h1, h2, h3, h4, h5⟩ := q
    exact ⟨a, kvs, h1, h2, ext_fz h3, h4, RVs.adopt hn ws h5⟩
  | .dtt kd ws, _, q => by
    obtain ⟨a, kvs, h1, h2, h3, h4, h5, h6⟩ := q
    exact ⟨a, kvs, h1, h2, ext_fz h3, h4, RVs.adopt hn kd h5, RVs.adopt hn ws h6⟩
  | .exc c f w, _, q => by
    obtain ⟨a, dx, x, h1, h2, h3, h4, h5, h6⟩ := q
    exact ⟨a, dx, x, h1, h2, ext_fz h3, h4, ext_fz h5, RV.adopt hn w h6⟩
  | .exn c, _, q => by
    obtain ⟨a, h1, h2, h3⟩ := q
    exact ⟨a, h1, h2, ext_fz h3⟩
  | .clo a c _ ws vs, _, q => by
    obtain ⟨h1, h2, h3, h4⟩ := q
    exact ⟨h1, h2, ext_fz h3, RVs.adopt hn ws h4⟩
theorem RVs.adopt {H : Hp} {μ : Mu} {Z : Zs} {n : Nat} {p : Addr} (hn : μ n = none) : ∀ (ws : List Dv) {vs : List V}, RVs Γ H μ (hid p Z) ws vs → RVs Γ H (MP.ext μ n p) Z ws vs
  | [], _, q => q
  | w :: ws, _, q => by
    obtain ⟨x, xs, h1, h2, h3⟩ := q
    exact ⟨x, xs, h1, RV.adopt hn w h2, RVs.adopt hn ws h3⟩
end
theorem RO.adopt {H : Hp} {μ : Mu} {Z : Zs} {n : Nat} {p a : Addr} {ob : Ob} (hn : μ n = none) (r : RO Γ H μ (hid p Z) a ob) : RO Γ H (MP.ext μ n p) Z a ob := by
  cases ob with
  | lst ws =>
    obtain ⟨xs, h4, h5⟩ := r
    exact ⟨xs, h4, h5.adopt hn⟩
  | dct kws =>
    obtain ⟨kvs, h4, h5, h6⟩ := r
    exact ⟨kvs, h4, h5, h6.adopt hn⟩
  | dtt fr kws =>
    obtain ⟨kvs, h4, h5, h6, h7⟩ := r
    exact ⟨kvs, h4, h5, h6.adopt hn, h7.adopt hn⟩
  | obj c fs =>
    obtain ⟨dx, kvs, h4, h5, h6⟩ := r
    exact ⟨dx, kvs, h4, h5, h6.adopt hn⟩
  | tab m q => exact ⟨r.1, tab_imp rfl (fun c e1 e2 => ⟨e1, ext_fz e2⟩) r.2⟩
/-- what was hidden becomes an object of the store -/
theorem Rep.adoptO {H : Hp} {μ : Mu} {Z : Zs} {s : Sto} {D : Addr} {ob : Ob} (R : Rep Γ H μ (hid D Z) s) (hz : ¬ Z D) (ro : RO Γ H μ (hid D Z) D ob) : Rep Γ H (MP.ext μ s.length D) Z (s ++ [ob]) := by
  have nm := R.mu_new
  have noD : ∀ {m : Nat} {a : Addr}, μ m = some a → a ≠ D := fun h e => R.notZ h (.inl e)
  refine ⟨fun n o' q => ?_, fun n m a h1 h2 => ?_, fun n a h => ?_, fun a z => R.za a (.inr z)⟩
  · by_cases hn : n = s.length
    · subst hn
      rw [List.getElem?_append_right (Nat.le_refl _)] at q
      simp at q
      subst q
      exact ⟨D, by unfold MP.ext; rw [if_pos rfl], hz, ro.adopt nm⟩
    · have hl : n < s.length := by
        have := (List.getElem?_eq_some_iff.mp q).1
        rw [List.length_append, List.length_singleton] at this
        omega
      rw [List.getElem?_append_left hl] at q
      obtain ⟨a, h1, h2, h3⟩ := R.at n o' q
      exact ⟨a, ext_mu nm h1, fun z => h2 (.inr z), h3.adopt nm⟩
  · unfold MP.ext at h1 h2
    split at h1 <;> split at h2
    · rename_i e1 e2; rw [e1, e2]
    · cases h1; exact absurd rfl (noD h2)
    · cases h2; exact absurd rfl (noD h1)
    · exact R.inj _ _ _ h1 h2
  · unfold MP.ext at h
    rw [List.length_append, List.length_singleton]
    split at h
    · omega
    · have := R.dom _ _ h
      omega
theorem Evo.adopt {H H1 : Hp} {μ μ1 : Mu} {n : Nat} {p : Addr} (e : Evo H μ H1 μ1) (hp : H p = none) (hn : μ1 n = none) : Evo H μ H1 (MP.ext μ1 n p) :=
  ⟨e.keep, fun m a h => ext_mu hn (e.mu m a h), fun m a h => by
    unfold MP.ext at h
    split at h
    · cases h; exact .inr hp
    · exact e.new m a h, e.stay⟩
theorem me_dctM {pos : Pos} {keys : List (Option Expr)} {values : List Expr} {ps : List (FE × FE)} (h : PPs X pos keys values (ps.map fun p => (rdE Γ W p.1, rdE Γ W p.2))) (hall : keys.all (·.isSome) = true) (hl : keys.length = values.length) (h0 : keys ≠ []) (h15 : keys.length ≤ 15) :
    ME X Γ W (.Dict keys values pos) (mDctM ps) :=
  PE.imp (pe_disp h hall hl h0 h15) fun σ H Q ⟨μ, Z, ρ, s, hE, hR, q⟩ p hp => by
    unfold mDctM at q
    cases e : mPairs ps ρ s with
    | no => rw [e] at q; exact q.elim
    | er x s1 => rw [e] at q; exact q.elim
    | ok l s1 =>
      rw [e] at q
      dsimp only at q
      split at q
      · rename_i kws ek
        split at q
        · rename_i h15'
          refine pairs_ok (hE.hide hp) (hR.hide hp) e fun vs H1 μ1 ev R1 g1 g2 => ?_
          obtain ⟨kvs, c1, c2, c3⟩ := keysOf_ok g1 g2 ek
          have hH : H1 p = some (.dK []) := ev.keep p _ upd_same fun n hn => hR.alive hn hp
          refine ⟨hH, kvs, c1, by rw [map_len c2]; exact h15', ?_⟩
          obtain ⟨d1, d2⟩ := merge_ok (Γ := Γ) (H := upd H1 p (.dK (mergeK [] kvs))) (μ := μ1) (Z := hid p Z) (acc := []) (bcc := []) c2 (RVs.updZ _ c3) rfl rfl
          have R2 : Rep Γ (upd H1 p (.dK (mergeK [] kvs))) μ1 (hid p Z) s1 := R1.updZ
          have nz : ¬ Z p := fun z => hR.za p z hp
          have e0 : Evo H μ (upd H1 p (.dK (mergeK [] kvs))) μ1 := ((Evo.laid hp).trans ev).hid hp
          exact q (.ref p) _ _ (e0.adopt hp R1.mu_new) (R2.adoptO nz ⟨_, upd_same, d1, d2⟩) ⟨p, rfl, by unfold MP.ext; rw [if_pos rfl]⟩
        · exact q.elim
      · exact q.elim
end
end MP
set_option Elab.async false
set_option linter.all false
set_option maxRecDepth 100000
set_option maxHeartbeats 4000000
namespace MP
open PySem PySem.Spec PyProof.Rows L2
section
variable {X : Cx} {Γ : Ct} {W : WX} {a b c e : Expr} {f g h h' : FE} {pos : Pos} {x y : Str} {i j : Nat}
/-- a < b < c as a test -/
theorem mt_chain {op op' : CmpOp} {r r' : R2} {o o' : O2} (ho : OpR X (compareOp op) r) (ho' : OpR X (compareOp op') r') (hs : Op2 Γ r o) (hs' : Op2 Γ r' o') (hm : lastMarks [op, op'] [b, c] = false)
    (ha : ME X Γ W a f) (hb : ME X Γ W b g) (hc : ME X Γ W c h') : MT X Γ W (.Compare a [op, op'] [b, c] pos) (mTest (mChain o o' f g h')) := by
  have key : ∀ σ H (Q : VK), rdE Γ W (mChain o o' f g h') σ H Q → tChain r r' (rdE Γ W f) (rdE Γ W g) (rdE Γ W h') σ H Q := fun σ H Q ⟨μ, Z, ρ, s, hE, hR, q⟩ => eE hE hR q fun x s1 u H1 μ1 e1 hE1 R1 r1 q1 => eE hE1 R1 q1 fun y s2 v H2 μ2 e2 hE2 R2 r2 q2 => by
    cases hw : o s2 x y with
    | none => rw [hw] at q2; exact q2.elim
    | some w =>
      rw [hw] at q2
      refine hs H2 μ2 Z s2 x y w u v _ R2 (r1.mono e2) r2 hw fun z H3 e3 R3 r3 => ?_
      cases w with
      | bl k =>
        refine ⟨k, r3, ?_⟩
        cases k with
        | true =>
          rw [if_pos rfl]
          exact eE (hE2.mono e3) R3 (PostE.evo e3 q2) fun z' s3 v3 H4 μ4 e4 hE4 R4 r4 q4 => by
            obtain ⟨w', hw', k'⟩ := ofE q4
            exact hs' H4 μ4 Z s3 y z' w' v v3 Q R4 ((r2.mono e3).mono e4) r4 hw' k'
        | false =>
          rw [if_neg Bool.false_ne_true]
          exact okE R3 (w := .bl false) rfl (PostE.evo e3 q2)
      | _ => exact q2.elim
  refine PT.imp (pt_chain ho ho' ha hb hc hm) fun σ H Q ⟨μ, Z, ρ, s, hE, hR, q⟩ => key σ H _ ?_
  refine ⟨μ, Z, ρ, s, hE, hR, ?_⟩
  have q' : PostT Γ W H μ Z σ Q ((mChain o o' f g h' ρ s).bind fun x s1 => match x with
      | .bl b => .ok b s1
      | _ => .no) := q
  revert q'
  cases mChain o o' f g h' ρ s with
  | ok w s1 =>
    intro q' v H' μ' ev R' rv
    cases w with
    | bl b => exact ⟨b, rv, okT R' (PostT.evo ev q')⟩
    | _ => exact q'.elim
  | er x s1 => exact id
  | no => exact id
def mPar (i j : Nat) (fa : FA) : FS := fun ρ s => (fa ρ s).thenC ρ fun ws s1 => match ws with
  | [v, w] => .nx ((ρ.set i (some v)).set j (some w)) s1
  | _ => .no
theorem ms_par {px py pt : Pos} {kt k2 pt2} {fa : FA} (hc : X.calm = true) (hN : X.N.Nodup) (hi : X.N[i]? = some x) (hj : X.N[j]? = some y) (hij : i ≠ j)
    (hx : X.env.scope.names.lookup x = some .local) (hy : X.env.scope.names.lookup y = some .local) (ha : MA X Γ W [a, b] fa)
    (hw : swappedStores [.Tuple [.Name x px, .Name y py] kt pt] (.Tuple [a, b] k2 pt2) X.env = pure (some [x, y]))
    (hs : swapsWithSole [.Tuple [.Name x px, .Name y py] kt pt] (.Tuple [a, b] k2 pt2) pos.line X.env = pure false := by rfl) :
    MS X Γ W (.Assign [.Tuple [.Name x px, .Name y py] kt pt] (.Tuple [a, b] k2 pt2) pos) (mPar i j fa) :=
  PS.imp (ps_par hc hN hi hj hij hx hy ha hw hs) fun D σ H ⟨μ, Z, ρ, s, hE, hR, q⟩ => aS hE hR q fun ws s1 vs H1 μ1 ev E1 R1 r1 q1 => by
    match ws, q1, r1 with
    | [v, w], q1, r1 =>
      obtain ⟨x1, xs, rfl, ra, rb⟩ := r1
      obtain ⟨x2, xs, rfl, rb, rfl⟩ := rb
      exact ⟨x1, x2, rfl, q1 _ H1 μ1 .refl R1 ((E1.set i ra).set j rb)⟩
    | [], q1, _ => exact q1.elim
    | [_], q1, _ => exact q1.elim
    | _ :: _ :: _ :: _, q1, _ => exact q1.elim
def mStuck : FS := fun _ _ => .no
theorem ms_stuck {st : Stmt} : MS X Γ W st mStuck := PS.imp ps_never fun D σ H ⟨μ, Z, ρ, s, hE, hR, q⟩ => q.elim
theorem tk0 {X : Cx} : Takes X W0 := fun u s' ⟨_, _, _, _, _, _, _, _, _, _, _, _, _, _, _, _, w⟩ => w.elim
theorem me_globJ {x : Str} {i : Int} {pos : Pos} (hg : Gl X x) (hm : ∃ t, X.mg x = some (.int i t)) (hd : (x == ("__debug__" : Str)) = false := by decide) : ME X Γ W (.Name x pos) (mK (.int i)) := by
  obtain ⟨t, h⟩ := hm
  exact me_globI hg h hd
theorem go_name {i : Nat} : GOk Γ (gName i) (gN i) := fun H μ Z ρ ρ' s σ w v Q hE hR r e k => by
  cases e
  exact k _ (hE.set i r)
theorem ms_set {i : Nat} {x : Str} {pos' : Pos} (hN : X.N.Nodup) (hi : X.N[i]? = some x) (hx : Loc X.env.scope x) (he : ME X Γ W e f) (hs : swapsWith e (some (.Name x pos')) pos.line X.env = pure false := by rfl) (hf : X.fn x = true ∨ X.env.scope.names.lookup x = some .local := by first | exact .inl rfl | exact .inr rfl | assumption) :
    MS X Γ W (.Assign [.Name x pos'] e pos) (mAsg f (gN i)) := ms_asg (ps_set hN hi hx he hs hf) go_name
theorem mgs_cons' {tg : Expr} {tgs : List Expr} {g : TG} {gs : TGs} {fg : FG} {fgs : List Dv → Env → Sto → Option Env} (h1 : MG X Γ tg g fg) (h2 : MGs X Γ tgs gs fgs)
    (hs : (assignEach (tg :: tgs) X.env).map (·.2) = assign tg X.env :: (assignEach tgs X.env).map (·.2) := by rfl) : MGs X Γ (tg :: tgs) (gCons g gs) (gsC fg fgs) := mgs_cons h1 h2 (pgs_cons h1.1 h2.1 hs)
theorem mg_tup' {tgs : List Expr} {kk n : Nat} {gs : TGs} {fgs : List Dv → Env → Sto → Option Env} (hK : Γ.K = X.K) (hc : X.calm = true) (h : MGs X Γ tgs gs fgs)
    (hn : (assignEach tgs X.env).length = n := by rfl) (hst : (assignEach tgs X.env).findIdx? (·.1) = none := by rfl) : MG X Γ (.Tuple tgs kk pos) (gTup X.K n gs) (gT n fgs) := mg_tup hK.symm (pg_tup hc h.1 hn hst) h.2
theorem ms_setT {tg e : Expr} {g : TG} {fg : FG} (he : ME X Γ W e f) (hg : MG X Γ tg g fg) (hs : swapsWithSole [tg] e pos.line X.env = pure false := by rfl) (hw : swappedStores [tg] e X.env = pure none := by rfl)
    (h1 : (assignEach [tg] X.env).map (·.2) = [assign tg X.env] := by rfl) : MS X Γ W (.Assign [tg] e pos) (mAsg f fg) := ms_asg (ps_asg he hg.1 hs hw h1) hg.2
def FA.Len (fa : FA) (n : Nat) : Prop := ∀ ρ s ws s', fa ρ s = .ok ws s' → ws.length = n
theorem len_nil : FA.Len mNil 0 := fun ρ s ws s' q => by cases q; rfl
theorem len_cons {fa : FA} {n : Nat} (q : fa.Len n) : FA.Len (mCons f fa) (n + 1) := fun ρ s ws s' p => by
  unfold mCons at p
  cases h1 : f ρ s with
  | ok w s1 =>
    rw [h1] at p
    have p2 : (fa ρ s1).bind (fun xs s2 => R.ok (w :: xs) s2) = .ok ws s' := p
    cases h2 : fa ρ s1 with
    | ok xs s2 =>
      rw [h2] at p2
      cases p2
      rw [List.length_cons, q ρ s1 xs _ h2]
    | er z s2 => rw [h2] at p2; cases p2
    | no => rw [h2] at p2; cases p2
  | er z s1 => rw [h1] at p; cases p
  | no => rw [h1] at p; cases p
end
/-- what a call of x must know -/
def Cal (P : Program) (w : World) (mg : Str → Option Value) (base : Heap) (Γ : Ct) (k : Nat) (x : Str) (ps : List Str) (den : Fn) : Prop :=
  ∃ (f : Addr) (fd : FuncData), FnG P w mg base Γ k f fd ps den ∧ mg x = some (.ref f) ∧ PySem.W.keepIn Γ.K (.ref f) = true ∧ Binds Γ.K fd ps []
section
variable {X : Cx} {Γ : Ct} {W : WX} {k k' : Nat} {ps : List Str} {den : Fn} {x : Str} {p pos : Pos} {e : Expr} {es : List Expr} {fa : FA}
theorem me_cal (C : Cal X.prog X.w X.mg X.base Γ k x ps den) (hK : Γ.K = X.K) (hr : Room k X.A) (hg : X.A.guards = some []) (tk : Takes X W) (hgl : Gl X x) (ha : MA X Γ W (e :: es) fa) (n : Nat) (hl : FA.Len fa n) (hn : n = ps.length) (hnl : (e :: es).length = n) (hdb : (x == ("__debug__" : Str)) = false := by decide)
    (he : starEach (e :: es) X.env = (false, eval e X.env) :: starEach es X.env := by rfl) (hpl : (backTo pos (starEach es X.env)).any (·.1) = false := by rfl) :
    ME X Γ W (.Call (.Name x p) (e :: es) [] pos) (mCall den fa) := by
  obtain ⟨f, fd, F, hm, hk, hb⟩ := C
  have := me_call (ds := []) (dvs := []) (dws := []) (pos := pos) (p := p) F hK hr hg hgl hm (hK ▸ hk) (hK ▸ hb) .nil (fun _ _ _ => rfl) n (by simpa using hn) hnl tk ha hl hdb he hpl
  have e1 : mCall (fun ws => den (ws ++ [])) fa = mCall den fa := by
    congr 1
    funext ws
    rw [List.append_nil]
  rwa [e1] at this
end
end MP
set_option Elab.async false
set_option linter.all false
set_option maxRecDepth 100000
set_option maxHeartbeats 4000000
namespace MP
open PySem PySem.Spec PyProof.Rows L2
abbrev bare : Obj := seqObj "list" #[] 0
abbrev grown (h : Heap) (vs : List Value) : Heap := (h.push bare).update h.objs.size (Obj.mapSeq (· ++ vs.toArray))
section
variable {P : Program} {w : World} {A : Around} {E : Value → Shared → Prop} {s : Shared} {t : Addr} {vs : List Value}
theorem gather_tup {Q : List Value → Shared → Prop} (ht : IsTup s.heap t vs.toArray) (hz : vs.length ≤ sizeLine) (h : Q vs { s with heap := grown s.heap vs }) : wpAny (model P w) A (collect (.ref t)) Q E s := by
  obtain ⟨o, e1, e2, n, e3⟩ := id ht
  have m1 : (s.heap.push bare).get? s.heap.objs.size = some bare := Heap.get?_push_size _ rfl
  have m2 : (s.heap.push bare).get? t = some o := Heap.get?_push_of_some _ e1
  unfold collect
  apply wpAny_bind
  apply wpAny_runValue
  apply codeAny_builtin entry_proto_collect'
  apply wpAny_bind
  apply wpAny_newList (h := ?_) (Nat.zero_le _)
  refine wpAny_pure ⟨Code.quiet_builtin _ (by decide +kernel), codeAny_builtin entry_list_iadd' ?_⟩
  show wpAny _ _ (Builtin.List.listExtendWith _ _ _) _ _ _
  unfold Builtin.List.listExtendWith
  apply wpAny_bind
  refine wpAny_typeOf (T := "tuple") ⟨o, m2, e2⟩ ?_
  have tt : (Value.type "tuple" == Value.type "tuple") = true := by rfl
  rw [if_pos (by rw [tt, Bool.or_true])]
  apply wpAny_bind
  apply listItems_at m2 e3
  apply wpAny_bind
  apply listItems_at (xs := #[]) (n := 0) m1 rfl
  rw [if_neg (fun z => by simp at z)]
  apply wpAny_bind
  refine listUpdate_at (xs := #[]) (n := 0) m1 rfl (wpAny_pure ?_) (Nat.zero_le _) (by simp only [Array.size_append, List.size_toArray, List.length_nil]; omega)
  dsimp only
  apply wpAny_bind
  refine wpAny_load (get?_update_seq m1 _) ?_
  refine wpAny_pure (cast ?_ h)
  congr 1
  simp
theorem sorted_tup {lt : Value → Value → Bool} {Q : Value → Shared → Prop} (O : SrtO.Swo lt) (ht : IsTup s.heap t vs.toArray) (hz : vs.length ≤ sizeLine)
    (hS : 2 ≤ vs.length → ∀ (h1 : Heap) (a : Addr), SrtO.SortableO P w A.in1.in1 { s with heap := h1 } a vs lt)
    (h : ∀ out : List Value, SrtO.Srtd lt out → SrtO.Stb lt out vs → Q (.ref (s.heap.objs.size + 1)) { s with heap := sortedAll s.heap vs out.toArray }) :
    wpAny (model P w) A (call (.builtin "sorted") [.ref t]) Q E s := by
  apply Calls.call_function_entry kind_sorted plain_sorted entry_sorted (args_sorted1 _)
  unfold Builtin.«sorted»
  apply wpAny_bind (m := checkCount "sorted" 1 1 _)
  apply wpAny_pure
  apply wpAny_bind
  apply gather_tup ht hz
  apply wpAny_bind
  refine wpAny_newList ?_ hz
  have n1 : (grown s.heap vs).objs.size = s.heap.objs.size + 1 := (Heap.size_update _ _ _).trans (size_push' _ _)
  dsimp only
  rw [n1]
  have n2 : ((grown s.heap vs).push (seqObj "list" vs.toArray 0)).get? (s.heap.objs.size + 1) = some (seqObj "list" vs.toArray 0) := n1 ▸ Heap.get?_push_size _ rfl
  apply wpAny_bind
  apply wpAny_holding
  refine wpAny_call_entry slot_list_sort ⟨_, n2, rfl⟩ entry_list_sort ?_ (args_list_sort _)
  exact SrtO.list_sort_ord O n2 hz (fun h2 => hS h2 _ _) fun out a b => ⟨_, rfl, wpAny_pure ⟨_, rfl, h out a b⟩⟩
end
section
variable {X : Cx} {Γ : Ct}
def rSortedTI (K : PySem.W.Frag) : List V → Hp → VK → Prop := fun vs H Q => ∃ (a : Addr) (ns : List Int), vs = [V.ref a] ∧ SqT K H a (ns.map V.int) ∧
  ∀ (ms : List Int) (p : Addr), ms.Perm ns → ms.Pairwise (· ≤ ·) → H p = none → Q (.ref p) (upd H p (.lst (ms.map V.int)))
theorem cr_sortedTI : CallR X (.builtin "sorted") (rSortedTI X.K) := by
  intro pins s σ H vs us Q I r h
  obtain ⟨a, ns, rfl, ht, q⟩ := h
  obtain ⟨its, rv, it, hz⟩ := I.tuple ht
  rw [Vals.ref1 r]
  have ia := rv.ints
  have hz' : its.length ≤ sizeLine := by rw [← rv.length]; exact hz
  refine sorted_tup SrtO.swo_int it hz' (fun h2 _ _ => SrtO.ints_sortable ia h2) fun out h1 h2 => ?_
  obtain ⟨k1, k2, k3⟩ := SrtO.ints_out ia h1 h2
  obtain ⟨ep, at1⟩ := sortedAll_at s.heap its out.toArray
  have hl : ((out.map SrtO.iv).map V.int).length ≤ sizeLine := by
    rw [List.length_map] at hz ⊢
    rwa [k2.length_eq]
  refine ⟨.ref _, upd H (s.heap.objs.size + 1) (.lst ((out.map SrtO.iv).map V.int)), I.laid (t' := s.toks) (fun _ _ e => sortedAll_old e) (Nat.le_succ _) ?_, rfl, q _ _ k2 k3 (I.hok.fresh (Nat.le_succ _))⟩
  exact ⟨hl, out, ep, vals_of_ints k1, at1⟩
theorem IsTup.isTuple {h : Heap} {a : Addr} {xs : Array Value} (x : IsTup h a xs) : h.IsTuple a xs := by
  obtain ⟨o, e1, e2, n, e3⟩ := x
  exact ⟨o, e1, e2, n, e3⟩
theorem cr_sumT (hc : X.calm = true) : CallR X (.builtin "sum") (fun vs H Q => ∃ (a : Addr) (ns : List Int), vs = [V.ref a] ∧ SqT X.K H a (ns.map V.int) ∧ Q (.int ns.sum) H) := by
  intro pins s σ H vs us Q I r h
  obtain ⟨a, ns, rfl, ht, q⟩ := h
  obtain ⟨its, rv, it, hz⟩ := I.tuple ht
  rw [Vals.ref1 r]
  obtain ⟨xs, e⟩ := rv.ints.allInts.items
  have hn : numsOf (intItems xs).toList = ns := by rw [← e]; exact rv.ints.numsOf
  rw [nums_intItems] at hn
  rw [e] at it
  refine PySem.call_sum_walkG ?_
  have tu := IsTup.isTuple it
  obtain ⟨_, e0, _⟩ := id tu
  have lt := Heap.lt_size e0
  refine wpAny_pyIter_tuple tu ⟨s.heap.objs.size, _, _, _, _, _, numAt xs, rfl, Walks.tuple (A := X.A.in1) (I.ok.hd hc) _ a (Nat.ne_of_lt lt) (intItems xs), ⟨⟨_, Heap.get?_push_size _ rfl, rfl, rfl⟩, tu.push _⟩, fun b hb => ?_, fun _ _ => intItems_at, fun h' tk t' hk => ?_⟩
  · have : (s.heap.push { cls := .type "tuple_iterator", data := .fields #[.ref a, .int 0 0] }).objs.size = s.heap.objs.size + 1 := Heap.size_push _ _
    dsimp only
    rw [this]
    rcases List.mem_cons.mp hb with rfl | hb
    · exact Nat.lt_succ_self _
    · rw [List.mem_singleton.mp hb]; exact Nat.lt_succ_of_lt lt
  · refine ⟨.int _, H, I.kept (t' := tk) (h' := h') fun b o eb => hk b o (fun z => ?_) (Heap.get?_push_of_some _ eb), ⟨_, rfl⟩, ?_⟩
    · rw [List.mem_singleton.mp z] at eb
      exact Nat.lt_irrefl _ (Heap.lt_size eb)
    · have hs : (intItems xs).size = xs.size := by simp [intItems]
      rw [hs, preSum_eq, List.take_of_length_le (by simp), hn]
      exact q
def orN (o o' : ON) : ON := fun s xs => match o s xs with
  | some w => some w
  | none => o' s xs
def sortTD : ON := fun _ xs => match xs with
  | [.tup ws] => (intsOf ws).map fun ns => .lst ((srt ns).map .int)
  | _ => none
def sumTD : ON := fun _ xs => match xs with
  | [.tup ws] => (intsOf ws).map fun ns => .int ns.sum
  | _ => none
def sortedA : ON := orN sortedD sortTD
def sumA : ON := orN sumD sumTD
theorem sSortT (hK : Γ.K = X.K) : OpN Γ (rSortedTI X.K) sortTD := fun H μ Z s xs w vs Q hR rx e k => by
  rw [← hK]
  unfold sortTD at e
  split at e
  · rename_i ws
    cases q2 : intsOf ws with
    | none => rw [q2] at e; cases e
    | some ns =>
      rw [q2] at e
      cases e
      obtain ⟨v, rfl, a, ys, rfl, h2, h3⟩ := one rx
      rw [intsOf_ok q2] at h3
      have h4 := h3.ints
      subst h4
      refine ⟨a, ns, rfl, h2.sq, fun ms p hp hs hn => ?_⟩
      rw [srt_uniq hp hs]
      exact k _ _ (Evo.laid hn) (hR.laid hn) (new_lst hR hn (RVs.of_ints _))
  · cases e
theorem sSumT (hK : Γ.K = X.K) : OpN Γ (fun vs H Q => ∃ (a : Addr) (ns : List Int), vs = [V.ref a] ∧ SqT X.K H a (ns.map V.int) ∧ Q (.int ns.sum) H) sumTD := fun H μ Z s xs w vs Q hR rx e k => by
  rw [← hK]
  unfold sumTD at e
  split at e
  · rename_i ws
    cases q2 : intsOf ws with
    | none => rw [q2] at e; cases e
    | some ns =>
      rw [q2] at e
      cases e
      obtain ⟨v, rfl, a, ys, rfl, h2, h3⟩ := one rx
      rw [intsOf_ok q2] at h3
      have h4 := h3.ints
      subst h4
      exact ⟨a, ns, rfl, h2.sq, k _ H .refl hR rfl⟩
  · cases e
theorem cr_sortedA : CallR X (.builtin "sorted") (fun x H Q => rSortedI X.K x H Q ∨ rSortedTI X.K x H Q) := CallR.or2 cr_sortedI cr_sortedTI
theorem sSortedA (hK : Γ.K = X.K) : OpN Γ (fun x H Q => rSortedI X.K x H Q ∨ rSortedTI X.K x H Q) sortedA := OpN.or (sSorted hK) (sSortT hK)
def rSumA (K : PySem.W.Frag) : List V → Hp → VK → Prop := fun x H Q => rSum K x H Q ∨ ∃ (a : Addr) (ns : List Int), x = [V.ref a] ∧ SqT K H a (ns.map V.int) ∧ Q (.int ns.sum) H
theorem cr_sumA (hc : X.calm = true) : CallR X (.builtin "sum") (rSumA X.K) := CallR.or2 (cr_sum hc) (cr_sumT hc)
theorem sSumA (hK : Γ.K = X.K) : OpN Γ (rSumA X.K) sumA := OpN.or (sSum hK) (sSumT hK)
end
end MP
set_option Elab.async false
set_option linter.all false
set_option maxRecDepth 100000
set_option maxHeartbeats 4000000
namespace MP
open PySem PySem.Spec PyProof.Rows L2
section
variable {α β : Type} {a : α} {s s1 s2 : Sto} {ρ : Env} {x : Ex} {w v : Dv} {f g h : FE} {t u : FT} {c c' : FS} {fa : FA} {b : Bool} {o o' : O2}
@[simp] theorem bind_ok {k : α → Sto → R β} : (R.ok a s).bind k = k a s := rfl
@[simp] theorem bind_er {k : α → Sto → R β} : (R.er x s : R α).bind k = .er x s := rfl
@[simp] theorem bind_no {k : α → Sto → R β} : (R.no : R α).bind k = .no := rfl
@[simp] theorem then_ok {k : α → Sto → C} : (R.ok a s).thenC ρ k = k a s := rfl
@[simp] theorem then_er {k : α → Sto → C} : (R.er x s : R α).thenC ρ k = .er x ρ s := rfl
@[simp] theorem then_no {k : α → Sto → C} : (R.no : R α).thenC ρ k = .no := rfl
@[simp] theorem of_some : R.of (some a) s = .ok a s := rfl
@[simp] theorem of_none : (R.of none s : R α) = .no := rfl
@[simp] theorem var_0 : mVar 0 (some w :: ρ) s = .ok w s := rfl
@[simp] theorem var_s {y : Option Dv} {i : Nat} : mVar (i + 1) (y :: ρ) s = mVar i ρ s := by unfold mVar; rw [List.getElem?_cons_succ]
@[simp] theorem k_ev : mK w ρ s = .ok w s := rfl
@[simp] theorem bin_ev : mBin o f g ρ s = (f ρ s).bind fun x s1 => (g ρ s1).bind fun y s2 => R.of (o s2 x y) s2 := rfl
@[simp] theorem un_ev {o : O1} : mUn o f ρ s = (f ρ s).bind fun x s1 => R.of (o s1 x) s1 := rfl
@[simp] theorem blt_ev {o : ON} : mBlt o fa ρ s = (fa ρ s).bind fun ws s1 => R.of (o s1 ws) s1 := rfl
@[simp] theorem call_ev {d : Fn} : mCall d fa ρ s = (fa ρ s).bind d := rfl
@[simp] theorem nil_ev : mNil ρ s = .ok [] s := rfl
@[simp] theorem cons_ev : mCons f fa ρ s = (f ρ s).bind fun x s1 => (fa ρ s1).bind fun xs s2 => .ok (x :: xs) s2 := rfl
def chainK (o : Option Dv) (s : Sto) (k : R Dv) : R Dv := match o with
  | some (.bl true) => k
  | some (.bl false) => .ok (.bl false) s
  | _ => .no
@[simp] theorem chainK_bl {k : R Dv} : chainK (some (.bl b)) s k = if b = true then k else .ok (.bl false) s := by cases b <;> rfl
@[simp] theorem chain_ev : mChain o o' f g h ρ s = (f ρ s).bind fun x s1 => (g ρ s1).bind fun y s2 => chainK (o s2 x y) s2 ((h ρ s2).bind fun z s3 => R.of (o' s3 y z) s3) := rfl
def andK (d : Dv) (s : Sto) (k : R Dv) : R Dv := match d with
  | .bl true => k
  | .bl false => .ok (.bl false) s
  | _ => .no
@[simp] theorem andK_bl {k : R Dv} : andK (.bl b) s k = if b = true then k else .ok (.bl false) s := by cases b <;> rfl
@[simp] theorem andV_ev : mAndV f g ρ s = (f ρ s).bind fun x s1 => andK x s1 (g ρ s1) := rfl
def orK (d : Dv) (s : Sto) (k : R Dv) : R Dv := match d with
  | .bl true => .ok (.bl true) s
  | .bl false => k
  | _ => .no
@[simp] theorem orK_bl {k : R Dv} : orK (.bl b) s k = if b = true then .ok (.bl true) s else k := by cases b <;> rfl
@[simp] theorem orV_ev : mOrV f g ρ s = (f ρ s).bind fun x s1 => orK x s1 (g ρ s1) := by
  unfold mOrV
  congr 1
  funext x s1
  cases x with
  | bl b => cases b <;> rfl
  | _ => rfl
def notK (d : Dv) (s : Sto) : R Dv := match d with
  | .bl b => .ok (.bl (!b)) s
  | _ => .no
@[simp] theorem notK_bl : notK (.bl b) s = .ok (.bl (!b)) s := rfl
@[simp] theorem notV_ev : mNotV f ρ s = (f ρ s).bind notK := rfl
def testK (d : Dv) (s : Sto) : R Bool := match d with
  | .bl b => .ok b s
  | _ => .no
@[simp] theorem testK_bl : testK (.bl b) s = .ok b s := rfl
@[simp] theorem test_ev : mTest f ρ s = (f ρ s).bind testK := rfl
@[simp] theorem and_ev : mAnd t u ρ s = (t ρ s).bind fun c s1 => if c = true then u ρ s1 else .ok false s1 := rfl
@[simp] theorem or_ev : mOr t u ρ s = (t ρ s).bind fun c s1 => if c = true then .ok true s1 else u ρ s1 := rfl
@[simp] theorem not_ev : mNot t ρ s = (t ρ s).bind fun c s1 => .ok (!c) s1 := rfl
@[simp] theorem if_ev : mIf t f g ρ s = (t ρ s).bind fun c s1 => if c = true then f ρ s1 else g ρ s1 := rfl
@[simp] theorem tup_ev : mTup fa ρ s = (fa ρ s).bind fun ws s1 => if ws.length ≤ lim then .ok (.tup ws) s1 else .no := rfl
@[simp] theorem lst_ev : mLst fa ρ s = (fa ρ s).bind fun ws s1 => if ws.length ≤ lim then .ok (.lst ws) s1 else .no := rfl
@[simp] theorem lstM_ev : mLstM fa ρ s = (fa ρ s).bind fun ws s1 => if ws.length ≤ lim then .ok (.ref s1.length) (s1 ++ [.lst ws]) else .no := rfl
/-- what follows -/
def seqK (c : C) (k : FS) : C := match c with
  | .nx ρ s => k ρ s
  | c => c
@[simp] theorem seqK_nx {k : FS} : seqK (.nx ρ s) k = k ρ s := rfl
@[simp] theorem seqK_rt {k : FS} : seqK (.rt w s) k = .rt w s := rfl
@[simp] theorem seqK_bk {k : FS} : seqK (.bk ρ s) k = .bk ρ s := rfl
@[simp] theorem seqK_ct {k : FS} : seqK (.ct ρ s) k = .ct ρ s := rfl
@[simp] theorem seqK_er {k : FS} : seqK (.er x ρ s) k = .er x ρ s := rfl
@[simp] theorem seqK_no {k : FS} : seqK .no k = .no := rfl
@[simp] theorem seq_ev : mSeq c c' ρ s = seqK (c ρ s) c' := by
  unfold mSeq seqK
  cases c ρ s <;> rfl
@[simp] theorem next_ev : mNext ρ s = .nx ρ s := rfl
@[simp] theorem ret_ev : mRet f ρ s = (f ρ s).thenC ρ fun w s1 => .rt w s1 := rfl
@[simp] theorem expr_ev : mExpr f ρ s = (f ρ s).thenC ρ fun _ s1 => .nx ρ s1 := rfl
@[simp] theorem ifS_ev : mIfS t c c' ρ s = (t ρ s).thenC ρ fun b s1 => if b = true then c ρ s1 else c' ρ s1 := rfl
@[simp] theorem asgN_ev {i : Nat} : mAsg f (gN i) ρ s = (f ρ s).thenC ρ fun w s1 => .nx (ρ.set i (some w)) s1 := rfl
@[simp] theorem par_ev {i j : Nat} : mPar i j (mCons f (mCons g mNil)) ρ s = (f ρ s).thenC ρ fun v s1 => (g ρ s1).thenC ρ fun w s2 => .nx ((ρ.set i (some v)).set j (some w)) s2 := by
  unfold mPar mCons mNil
  cases f ρ s with
  | ok v s1 =>
    simp only [bind_ok, then_ok]
    cases g ρ s1 <;> rfl
  | er _ _ => rfl
  | no => rfl
theorem finW_le {n : Nat} (hn : s.length ≤ n) : finW n w s = .ok w s := by unfold finW; rw [if_pos hn]
@[simp] theorem finC_rt : finC s.length (.rt w s) = .ok w s := finW_le (Nat.le_refl _)
@[simp] theorem finC_nx : finC s.length (.nx ρ s) = .ok .non s := finW_le (Nat.le_refl _)
@[simp] theorem den_ev {n : Nat} {d : FS} {ws : List Dv} : denOf n d ws s = finC s.length (d (startD n ws) s) := rfl
@[simp] theorem start_ev {n : Nat} {ws : List Dv} : startD n ws = ws.map some ++ List.replicate (n - ws.length) none := rfl
@[simp] theorem cmp_ev {p : Int → Int → Bool} {i j : Int} : cmpD p s (.int i) (.int j) = some (.bl (p i j)) := rfl
@[simp] theorem sub_ev {i j : Int} : subD s (.int i) (.int j) = some (.int (i - j)) := rfl
@[simp] theorem neg_ev {i : Int} : negD s (.int i) = some (.int (-i)) := rfl
@[simp] theorem isi_ii {i : Int} : isiD s [.int i, .ty "int"] = some (.bl true) := rfl
@[simp] theorem isi_ib {i : Int} : isiD s [.int i, .ty "bool"] = some (.bl false) := rfl
@[simp] theorem isi_tt {ws : List Dv} : isiD s [.tup ws, .ty "tuple"] = some (.bl true) := rfl
@[simp] theorem isi_it {i : Int} : isiD s [.int i, .ty "tuple"] = some (.bl false) := rfl
@[simp] theorem len_tup {ws : List Dv} : lenD s [.tup ws] = some (.int ws.length) := rfl
@[simp] theorem len_lst {ws : List Dv} : lenD s [.lst ws] = some (.int ws.length) := rfl
@[simp] theorem len_sq {ws : List Dv} : lenD s [.sq ws] = some (.int ws.length) := rfl
abbrev tI (ns : List Int) : Dv := .tup (ns.map .int)
abbrev lI (ns : List Int) : Dv := .lst (ns.map .int)
section
variable {s : Sto} {ns ms : List Int} {ρ : Env} {ws : List Dv} {i j : Int} {f : FE}
@[simp] theorem sorted_TI : sortedA s [.tup (ns.map .int)] = some (.lst ((srt ns).map .int)) := by
  show (match sortedD s [.tup (ns.map .int)] with | some w => some w | none => sortTD s [.tup (ns.map .int)]) = _
  rw [show sortedD s [.tup (ns.map .int)] = none from rfl]
  show (intsOf (ns.map .int)).map _ = _
  rw [intsOf_map]
  rfl
@[simp] theorem sorted_LI : sortedA s [.lst (ns.map .int)] = some (.lst ((srt ns).map .int)) := by
  have : sortedD s [.lst (ns.map .int)] = some (.lst ((srt ns).map .int)) := by
    show (intsOf (ns.map .int)).map _ = _
    rw [intsOf_map]
    rfl
  show (match sortedD s [.lst (ns.map .int)] with | some w => some w | none => sortTD s [.lst (ns.map .int)]) = _
  rw [this]
@[simp] theorem sum_LI : sumA s [.lst (ns.map .int)] = some (.int ns.sum) := by
  have : sumD s [.lst (ns.map .int)] = some (.int ns.sum) := by
    show (intsOf (ns.map .int)).map _ = _
    rw [intsOf_map]
    rfl
  show (match sumD s [.lst (ns.map .int)] with | some w => some w | none => sumTD s [.lst (ns.map .int)]) = _
  rw [this]
@[simp] theorem sum_TI : sumA s [.tup (ns.map .int)] = some (.int ns.sum) := by
  show (match sumD s [.tup (ns.map .int)] with | some w => some w | none => sumTD s [.tup (ns.map .int)]) = _
  rw [show sumD s [.tup (ns.map .int)] = none from rfl]
  show (intsOf (ns.map .int)).map _ = _
  rw [intsOf_map]
  rfl
@[simp] theorem sl_tup {lo hi : Option Int} : slA s (.tup ws) lo hi = some (.tup (cutD ws lo hi)) := rfl
@[simp] theorem sl_lst {lo hi : Option Int} : slA s (.lst ws) lo hi = some (.lst (cutD ws lo hi)) := rfl
theorem cut_last {k : Nat} (h : k ≤ ws.length) (h0 : 0 < k) : cutD ws (some (-(k : Int))) none = ws.drop (ws.length - k) := by
  unfold cutD
  rw [HT.sIx_none]
  have e : HT.sIx ws.length 0 (some (-(k : Int))) = ws.length - k := by
    show (if -(k : Int) < 0 then (-(k : Int) + (ws.length : Int)).toNat else min (-(k : Int)).toNat ws.length) = _
    rw [if_pos (by omega)]
    omega
  rw [e]
  exact List.take_of_length_le (by rw [List.length_drop]; omega)
theorem cut_to {k : Nat} : cutD ws none (some (k : Int)) = ws.take k := by
  unfold cutD
  rw [HT.sIx_none, HT.sIx_nat, Nat.sub_zero, List.drop_zero, ← List.take_take, List.take_length]
theorem cut_mid {a b : Nat} (ha : a ≤ ws.length) (hb : b ≤ ws.length) : cutD ws (some (a : Int)) (some (b : Int)) = (ws.drop a).take (b - a) := by
  unfold cutD
  rw [HT.sIx_nat, HT.sIx_nat, Nat.min_eq_left ha, Nat.min_eq_left hb]
@[simp] theorem part_ev : mPart f ρ s = (f ρ s).bind fun x s1 => match x with
  | .int i => .ok (some i) s1
  | _ => .no := rfl
@[simp] theorem nopart_ev : mNoPart ρ s = .ok none s := rfl
@[simp] theorem sl_ev {op : OS} {lo hi : FO} : mSl op f lo hi ρ s = (f ρ s).bind fun x s1 => (lo ρ s1).bind fun l s2 => (hi ρ s2).bind fun u s3 => R.of (op s3 x l u) s3 := rfl
@[simp] theorem add_ii : addD s (.int i) (.int j) = some (.int (i + j)) := rfl
theorem mul_ii (h : cm i j = true) : mulD s (.int i) (.int j) = some (.int (i * j)) := by
  show (if cm i j = true then _ else _) = _
  rw [if_pos h]
theorem cm_l (h : -(2 ^ 64) < i ∧ i < 2 ^ 64) : cm i j = true := decide_eq_true (.inl h)
theorem cm_r (h : -(2 ^ 64) < j ∧ j < 2 ^ 64) : cm i j = true := decide_eq_true (.inr h)
@[simp] theorem int_i : intD s [.int i] = some (.int i) := rfl
@[simp] theorem int_b {b : Bool} : intD s [.bl b] = some (.int (if b then 1 else 0)) := rfl
theorem range1_ok {fa : FA} {s1 : Sto} (h : fa ρ s = .ok [.int j] s1) (hj : okR j = true) : iRange1 fa ρ s = .ok { ws := rng 0 j.toNat } s1 := by
  unfold iRange1
  rw [h, bind_ok]
  exact if_pos hj
theorem range2_ok {fa : FA} {s1 : Sto} (h : fa ρ s = .ok [.int i, .int j] s1) (hi : okR i = true) (hj : okR j = true) : iRange2 fa ρ s = .ok { ws := rng i (j - i).toNat } s1 := by
  unfold iRange2
  rw [h, bind_ok]
  exact if_pos ⟨hi, hj⟩
theorem rng_ev {lo : Int} {n : Nat} : rng lo n = (List.range n).map fun i : Nat => Dv.int (lo + (i : Int)) := by unfold rng; rfl
theorem okR_s {i : Int} (h : -1000000 ≤ i) (h2 : i ≤ 1000000) : okR i = true := decide_eq_true ⟨by omega, by omega⟩
@[simp] theorem tuple_lst : tupleD s [.lst ws] = some (.tup ws) := rfl
@[simp] theorem tuple_tup : tupleD s [.tup ws] = some (.tup ws) := rfl
theorem ix_tup {k : Nat} {w : Dv} (h : ws[k]? = some w) : ixA s (.tup ws) (.int (k : Int)) = some w := by
  have e : ixT s (.tup ws) (.int (k : Int)) = some w := atI_nat h
  show (match (match ixL s (.tup ws) (.int (k : Int)) with | some w => some w | none => ixT s (.tup ws) (.int (k : Int))) with | some w => some w | none => ixD s (.tup ws) (.int (k : Int))) = _
  rw [show ixL s (.tup ws) (.int (k : Int)) = none from rfl, e]
theorem ix_lst {k : Nat} {w : Dv} (h : ws[k]? = some w) : ixA s (.lst ws) (.int (k : Int)) = some w := by
  have e : ixL s (.lst ws) (.int (k : Int)) = some w := atI_nat h
  show (match (match ixL s (.lst ws) (.int (k : Int)) with | some w => some w | none => ixT s (.lst ws) (.int (k : Int))) with | some w => some w | none => ixD s (.lst ws) (.int (k : Int))) = _
  rw [e]
theorem zip_ints : ∀ (ns ms : List Int), zipD (ns.map .int) (ms.map .int) = (ns.zip ms).map fun p => .tup [.int p.1, .int p.2]
  | [], _ => by simp [zipD]
  | _ :: _, [] => by simp [zipD]
  | a :: r, b :: t => by simp [zipD, zip_ints r t]
end
section
open Classical
variable {vs : List Nat} {g : FG} {tt : FT} {elt : FE} {ρ : Env} {s : Sto}
@[simp] theorem yes_ev : mYes ρ s = .ok true s := rfl
theorem comp_mapA {α : Type} {f : FI} {l : List α} {e : α → Dv} (φ : α → Dv) (hf : f ρ s = .ok { ws := l.map e } s) (hl : l.length ≤ lim) (h : ∀ a ∈ l, ∃ ρ1, g (e a) (wipeD ρ vs) s = some ρ1 ∧ elt ρ1 s = .ok (φ a) s) : mComp f vs g mYes elt ρ s = .ok (.lst (l.map φ)) s := by
  have key : ∀ {l : List α}, (∀ a ∈ l, ∃ ρ1, g (e a) (wipeD ρ vs) s = some ρ1 ∧ elt ρ1 s = .ok (φ a) s) → compL none vs g mYes elt ρ (l.map e) s = some (l.map φ, s) := fun {l} => by
    induction l with
    | nil => intro _; rw [List.map_nil]; simp [compL]
    | cons a l ih =>
      intro h
      obtain ⟨ρ1, h1, h2⟩ := h a List.mem_cons_self
      rw [List.map_cons]
      unfold compL
      rw [if_pos (.inl rfl), h1]
      simp only [yes_ev, h2]
      rw [ih fun b hb => h b (List.mem_cons_of_mem _ hb)]
      rfl
  unfold mComp
  rw [hf, bind_ok]
  dsimp only
  rw [key h]
  dsimp only
  rw [if_pos (by rw [List.length_map]; exact hl)]
/-- a comprehension, turn by turn: J i acc stands when i turns are done -/
theorem compL_ix {xs : List Dv} (J : Nat → List Dv → Sto → Prop) (h : ∀ i x acc s, xs[i]? = some x → J i acc s → ∃ ρ1 y s2, g x (wipeD ρ vs) s = some ρ1 ∧ elt ρ1 s = .ok y s2 ∧ J (i + 1) (acc ++ [y]) s2) :
    ∀ {k : Nat} {ys acc : List Dv} {s : Sto}, ys = xs.drop k → k ≤ xs.length → J k acc s → ∃ zs s', compL none vs g mYes elt ρ ys s = some (zs, s') ∧ zs.length = ys.length ∧ J xs.length (acc ++ zs) s'
  | k, [], acc, s, e, hk, j => by
    have : k = xs.length := by
      have := congrArg List.length e
      rw [List.length_drop, List.length_nil] at this
      omega
    subst this
    exact ⟨[], s, by unfold compL; rw [if_pos (.inl rfl)], rfl, by rw [List.append_nil]; exact j⟩
  | k, x :: ys, acc, s, e, hk, j => by
    have hx : xs[k]? = some x := by
      have := congrArg (·[0]?) e
      simpa using this.symm
    have hy : ys = xs.drop (k + 1) := by
      have := congrArg List.tail e
      simpa using this
    have hlt : k < xs.length := (List.getElem?_eq_some_iff.mp hx).1
    obtain ⟨ρ1, y, s2, h1, h2, h3⟩ := h k x acc s hx j
    obtain ⟨zs, s', h4, h5, h6⟩ := compL_ix J h hy hlt h3
    refine ⟨y :: zs, s', ?_, by rw [List.length_cons, h5, List.length_cons], ?_⟩
    · unfold compL
      rw [if_pos (.inl rfl), h1]
      simp only [yes_ev, h2, h4]
      rfl
    · rw [List.append_assoc] at h6
      exact h6
theorem comp_ix {f : FI} {xs : List Dv} {s1 : Sto} (J : Nat → List Dv → Sto → Prop) (hf : f ρ s = .ok { ws := xs } s1) (hl : xs.length ≤ lim) (j : J 0 [] s1)
    (h : ∀ i x acc s, xs[i]? = some x → J i acc s → ∃ ρ1 y s2, g x (wipeD ρ vs) s = some ρ1 ∧ elt ρ1 s = .ok y s2 ∧ J (i + 1) (acc ++ [y]) s2) : ∃ zs s', mComp f vs g mYes elt ρ s = .ok (.lst zs) s' ∧ zs.length = xs.length ∧ J xs.length zs s' := by
  obtain ⟨zs, s', h1, h2, h3⟩ := compL_ix J h (k := 0) (ys := xs) (acc := []) rfl (Nat.zero_le _) j
  refine ⟨zs, s', ?_, h2, h3⟩
  unfold mComp
  rw [hf, bind_ok]
  dsimp only
  rw [h1]
  dsimp only
  rw [if_pos (by rw [h2]; exact hl)]
/-- a loop, turn by turn: J i stands when i turns are done -/
theorem forL_ix {body : FS} {xs : List Dv} (J : Nat → Env → Sto → Prop) (h : ∀ i x ρ s, xs[i]? = some x → J i ρ s → ∃ ρ1 ρ2 s2, g x ρ s = some ρ1 ∧ (body ρ1 s = .nx ρ2 s2 ∨ body ρ1 s = .ct ρ2 s2) ∧ J (i + 1) ρ2 s2) :
    ∀ {k : Nat} {ys : List Dv} {ρ : Env} {s : Sto}, ys = xs.drop k → k ≤ xs.length → J k ρ s → ∃ ρ' s', forL none g body ys ρ s = .nx ρ' s' ∧ J xs.length ρ' s'
  | k, [], ρ, s, e, hk, j => by
    have : k = xs.length := by
      have := congrArg List.length e
      rw [List.length_drop, List.length_nil] at this
      omega
    subst this
    exact ⟨ρ, s, by unfold forL; rw [if_pos (.inl rfl)], j⟩
  | k, x :: ys, ρ, s, e, hk, j => by
    have hx : xs[k]? = some x := by
      have := congrArg (·[0]?) e
      simpa using this.symm
    have hy : ys = xs.drop (k + 1) := by
      have := congrArg List.tail e
      simpa using this
    have hlt : k < xs.length := (List.getElem?_eq_some_iff.mp hx).1
    obtain ⟨ρ1, ρ2, s2, h1, h2, h3⟩ := h k x ρ s hx j
    obtain ⟨ρ', s', h4, h5⟩ := forL_ix J h hy hlt h3
    refine ⟨ρ', s', ?_, h5⟩
    unfold forL
    rw [if_pos (.inl rfl), h1]
    rcases h2 with h2 | h2 <;> (simp only [h2]; exact h4)
theorem for_ix {F : FI} {body : FS} {xs : List Dv} {s1 : Sto} (J : Nat → Env → Sto → Prop) (hF : F ρ s = .ok { ws := xs } s1) (j : J 0 ρ s1) (h : ∀ i x ρ s, xs[i]? = some x → J i ρ s → ∃ ρ1 ρ2 s2, g x ρ s = some ρ1 ∧ (body ρ1 s = .nx ρ2 s2 ∨ body ρ1 s = .ct ρ2 s2) ∧ J (i + 1) ρ2 s2) :
    ∃ ρ' s', mFor F g body ρ s = .nx ρ' s' ∧ J xs.length ρ' s' := by
  obtain ⟨ρ', s', h1, h2⟩ := forL_ix J h (k := 0) (ys := xs) rfl (Nat.zero_le _) j
  refine ⟨ρ', s', ?_, h2⟩
  unfold mFor
  rw [hF]
  exact h1
end
end
end MP
set_option Elab.async false
set_option linter.all false
set_option maxRecDepth 100000
set_option maxHeartbeats 400000
namespace MP
open PySem PySem.Spec PyProof.Rows L2
def dot (rs ls : List Int) : Int := ((rs.zip ls).map fun p => p.1 * p.2).sum
theorem dot_nil {ls : List Int} : dot [] ls = 0 := by simp [dot]
theorem dot_nil' : ∀ {rs : List Int}, dot rs [] = 0 := by intro rs; simp [dot]
theorem dot_cons {a b : Int} {rs ls : List Int} : dot (a :: rs) (b :: ls) = a * b + dot rs ls := by simp [dot]
def at1 (lev n : Int) : Int := if lev ≤ n then 1 else 0
def last (k : Nat) (ns : List Int) : List Int := ns.drop (ns.length - k)
def idx (rs ns : List Int) : Int := dot rs (srt (last rs.length ns))
end MP
namespace MP
end MP
set_option Elab.async false
set_option linter.all false
set_option maxRecDepth 100000
set_option maxHeartbeats 400000
namespace MP
open PySem PySem.Spec PyProof.Rows L2
/-- a thing of at most n parts, at most k deep -/
structure Pl (n k : Nat) (w : Dv) (d : PyData) : Prop where
  to : toD0 w = some d
  lay : d.canLay0 = true
  shw : d.showable = true
  nod : d.hasDict = false
  deep : d.depth ≤ k
  len : d.shown.length + 2 ≤ 2000 * n
structure Pls (n k : Nat) (ws : List Dv) (ds : List PyData) : Prop where
  to : toDs ws = some ds
  lay : PyData.canLayAll0 ds = true
  shw : PyData.showableAll ds = true
  nod : PyData.hasDictAll ds = false
  deep : PyData.depthAll ds ≤ k
  len : piled (PyData.shownAll ds) ≤ 2000 * n
def Sm (i : Int) : Prop := i.natAbs < 2 ^ 300
theorem Sm.of {i : Int} (h : -1000000000000 ≤ i) (h2 : i ≤ 1000000000000) : Sm i := by
  have h3 : i.natAbs ≤ 1000000000000 := by omega
  exact Nat.lt_of_le_of_lt h3 (Nat.lt_of_lt_of_le (by decide : 1000000000000 < 2 ^ 40) (Nat.pow_le_pow_right (by decide) (by decide)))
theorem Sm.log {i : Int} (h : Sm i) : i.natAbs.log2 < 1920 := by
  by_cases h0 : i.natAbs = 0
  · rw [h0]; decide
  · exact (Nat.log2_lt h0).mpr (Nat.lt_of_lt_of_le h (Nat.pow_le_pow_right (by decide) (by decide)))
variable {n m k j : Nat} {w : Dv} {d : PyData} {ws us : List Dv} {ds es : List PyData} {i : Int} {ns : List Int} {s : Sto}
theorem pl_int (h : Sm i) : Pl 1 0 (.int i) (.int i) where
  to := rfl
  lay := by simp only [PyData.canLay0]
  shw := by
    simp only [PyData.showable]
    exact decide_eq_true h.log
  nod := by simp only [PyData.hasDict]
  deep := by simp only [PyData.depth]; exact Nat.le_refl _
  len := by
    have := int_text_len_1921 h.log
    simp only [PyData.shown]
    exact Nat.le_trans (Nat.add_le_add_right this 2) (by decide)
theorem pls_nil : Pls 0 k [] [] where
  to := rfl
  lay := by simp only [PyData.canLayAll0]
  shw := by simp only [PyData.showableAll]
  nod := by simp only [PyData.hasDictAll]
  deep := by simp only [PyData.depthAll]; exact Nat.zero_le _
  len := by simp only [PyData.shownAll, piled_nil]; exact Nat.zero_le _
theorem pls_cons (h : Pl n k w d) (t : Pls m k ws ds) : Pls (n + m) k (w :: ws) (d :: ds) where
  to := by simp only [toDs, h.to, t.to]
  lay := by simp only [PyData.canLayAll0, h.lay, t.lay]; rfl
  shw := by simp only [PyData.showableAll, h.shw, t.shw]; rfl
  nod := by simp only [PyData.hasDictAll, h.nod, t.nod]; rfl
  deep := by simp only [PyData.depthAll]; exact Nat.max_le.mpr ⟨h.deep, t.deep⟩
  len := by
    have h1 := h.len
    have h2 := t.len
    simp only [PyData.shownAll, piled_cons]
    omega
theorem Pl.mono (h : Pl n k w d) (hn : n ≤ m) (hk : k ≤ j) : Pl m j w d := ⟨h.to, h.lay, h.shw, h.nod, Nat.le_trans h.deep hk, Nat.le_trans h.len (Nat.mul_le_mul_left _ hn)⟩
theorem Pls.mono (h : Pls n k ws ds) (hn : n ≤ m) (hk : k ≤ j) : Pls m j ws ds := ⟨h.to, h.lay, h.shw, h.nod, Nat.le_trans h.deep hk, Nat.le_trans h.len (Nat.mul_le_mul_left _ hn)⟩
theorem listText_len : ∀ ts : List Str, (listText ts).length ≤ piled ts + 2
  | [] => by decide
  | t :: r => by
    unfold listText
    rw [strLen_append]
    show (textFrom 1 (("[" : Str) ++ ("" : String) ++ t) r).length + 1 ≤ _
    rw [textFrom_length_pos _ _ _ (by decide), strLen_append, strLen_append, piled_cons]
    show 1 + 0 + t.length + piled r + 1 ≤ _
    omega
theorem tupleText_len (ts : List Str) : (tupleText ts).length ≤ piled ts + 3 := by
  unfold tupleText
  rw [strLen_append, strLen_append]
  have e1 : ((("(" : String) : Str)).length = 1 := rfl
  have e3 : (((if ts.length == 1 then ",)" else ")" : String) : Str)).length ≤ 2 := by split <;> decide
  rw [e1]
  by_cases h : ts = []
  · subst h
    show 1 + 0 + _ ≤ _
    omega
  · have := join_length_add ts h
    omega
theorem pl_lst (h : Pls n k ws ds) : Pl (n + 1) (k + 1) (.lst ws) (.list ds) where
  to := by simp only [toD0, h.to]; rfl
  lay := by simp only [PyData.canLay0, h.lay]
  shw := by simp only [PyData.showable, h.shw]
  nod := by simp only [PyData.hasDict, h.nod]
  deep := by simp only [PyData.depth]; exact Nat.succ_le_succ h.deep
  len := by
    have h1 := h.len
    have h2 := listText_len (PyData.shownAll ds)
    simp only [PyData.shown]
    omega
theorem pl_tup (h : Pls n k ws ds) : Pl (n + 1) (k + 1) (.tup ws) (.tuple ds) where
  to := by simp only [toD0, h.to]; rfl
  lay := by simp only [PyData.canLay0, h.lay]
  shw := by simp only [PyData.showable, h.shw]
  nod := by simp only [PyData.hasDict, h.nod]
  deep := by simp only [PyData.depth]; exact Nat.succ_le_succ h.deep
  len := by
    have h1 := h.len
    have h2 := tupleText_len (PyData.shownAll ds)
    simp only [PyData.shown]
    omega
theorem pls_ints : ∀ {ns : List Int}, (∀ i ∈ ns, Sm i) → Pls ns.length 0 (ns.map .int) (ns.map .int)
  | [], _ => pls_nil
  | a :: ns, h => by
    have := pls_cons (pl_int (h a List.mem_cons_self)) (pls_ints fun i hi => h i (List.mem_cons_of_mem _ hi))
    rw [Nat.add_comm] at this
    exact this
theorem pl_tI (h : ∀ i ∈ ns, Sm i) : Pl (ns.length + 1) 1 (tI ns) (.tuple (ns.map .int)) := pl_tup (pls_ints h)
theorem pl_lI (h : ∀ i ∈ ns, Sm i) : Pl (ns.length + 1) 1 (lI ns) (.list (ns.map .int)) := pl_lst (pls_ints h)
theorem repr_pl (hd : disp w = true) (ht : toD s w = toD0 w) (h : Pl n k w d) (hn : n ≤ 8000) (hk : k ≤ 60) : reprD s [w] = some (.str d.shown) := by
  show (if disp w = true then match toD s w with
      | some d => if d.showable = true ∧ d.hasDict = false ∧ d.depth ≤ 60 ∧ d.shown.length ≤ lim then some (Dv.str d.shown) else none
      | none => none
    else none) = _
  rw [if_pos hd, ht, h.to]
  have h1 := h.len
  exact if_pos ⟨h.shw, h.nod, Nat.le_trans h.deep hk, by unfold lim; omega⟩
theorem repr_lst (h : Pl n k (.lst ws) d) (hn : n ≤ 8000) (hk : k ≤ 60) : reprD s [.lst ws] = some (.str d.shown) := repr_pl rfl rfl h hn hk
theorem eq_ss {a b : Str} : eqD s (.str a) (.str b) = some (.bl (decide (a = b))) := by
  have e : decide (V.str a = V.str b) = decide (a = b) := by
    by_cases h : a = b
    · rw [h, decide_eq_true rfl, decide_eq_true rfl]
    · rw [decide_eq_false h, decide_eq_false fun z => h (V.str.inj z)]
  show (some (decide (V.str a = V.str b))).map Dv.bl = _
  rw [e]
  rfl
theorem ne_ss {a b : Str} : neD s (.str a) (.str b) = some (.bl (!decide (a = b))) := by
  have e : decide (V.str a = V.str b) = decide (a = b) := by
    by_cases h : a = b
    · rw [h, decide_eq_true rfl, decide_eq_true rfl]
    · rw [decide_eq_false h, decide_eq_false fun z => h (V.str.inj z)]
  show (some (decide (V.str a = V.str b))).map (fun b => Dv.bl (!b)) = _
  rw [e]
  rfl
theorem eq_refl_ss {a : Str} : eqD s (.str a) (.str a) = some (.bl true) := by rw [eq_ss, decide_eq_true rfl]
theorem ne_refl_ss {a : Str} : neD s (.str a) (.str a) = some (.bl false) := by rw [ne_ss, decide_eq_true rfl]; rfl
/-- ints of any size -/
theorem toDs_ints : ∀ ns : List Int, toDs (ns.map .int) = some (ns.map .int)
  | [] => rfl
  | a :: ns => by
    rw [List.map_cons]
    simp only [toDs, toD0, toDs_ints ns]
    rfl
theorem lay_ints : ∀ ns : List Int, PyData.canLayAll0 (ns.map .int) = true
  | [] => by simp only [List.map_nil, PyData.canLayAll0]
  | a :: ns => by simp only [List.map_cons, PyData.canLayAll0, PyData.canLay0, lay_ints ns]; rfl
theorem deep_ints : ∀ ns : List Int, PyData.depthAll (ns.map .int) = 0
  | [] => by simp only [List.map_nil, PyData.depthAll]
  | a :: ns => by simp only [List.map_cons, PyData.depthAll, PyData.depth, deep_ints ns]; rfl
theorem shaped_list_ints : SeqAt.shaped (.list (ns.map .int)) = true := by
  unfold SeqAt.shaped
  simp only [PyData.canLay0, lay_ints, PyData.depth, deep_ints]
  rfl
theorem eqv_ints : ∀ ns ms : List Int, PyData.eqvAll (ns.map .int) (ms.map .int) = decide (ns = ms)
  | [], [] => by simp [PyData.eqvAll]
  | [], _ :: _ => by simp [PyData.eqvAll]
  | _ :: _, [] => by simp [PyData.eqvAll]
  | a :: ns, b :: ms => by
    rw [List.map_cons, List.map_cons]
    simp only [PyData.eqvAll, PyData.eqv, eqv_ints ns ms]
    by_cases h : a = b <;> by_cases h2 : ns = ms <;> simp [h, h2]
theorem eqB_lI {ms : List Int} : eqB s (lI ns) (lI ms) = some (decide (ns = ms)) := by
  have e1 : toD s (lI ns) = some (.list (ns.map .int)) := by
    show (toDs (ns.map .int)).map PyData.list = _
    rw [toDs_ints]; rfl
  have e2 : toD s (lI ms) = some (.list (ms.map .int)) := by
    show (toDs (ms.map .int)).map PyData.list = _
    rw [toDs_ints]; rfl
  show (match toD s (lI ns), toD s (lI ms) with
    | some d, some e => if SeqAt.shaped d = true ∧ SeqAt.shaped e = true then some (PyData.eqv d e) else none
    | _, _ => none) = _
  rw [e1, e2]
  dsimp only
  rw [if_pos ⟨shaped_list_ints, shaped_list_ints⟩]
  simp only [PyData.eqv, eqv_ints]
theorem ne_lI {ms : List Int} : neD s (lI ns) (lI ms) = some (.bl (!decide (ns = ms))) := by
  unfold neD
  rw [eqB_lI]
  rfl
/-- the branch that is not taken -/
theorem ifS_f {t : FT} {c c' : FS} {ρ : Env} {s1 : Sto} (h : t ρ s = .ok false s1) : mIfS t c c' ρ s = c' ρ s1 := by
  rw [ifS_ev, h, then_ok, if_neg (by decide)]
theorem ifS_t {t : FT} {c c' : FS} {ρ : Env} {s1 : Sto} (h : t ρ s = .ok true s1) : mIfS t c c' ρ s = c ρ s1 := by
  rw [ifS_ev, h, then_ok, if_pos rfl]
theorem mul_tup1 {x : Dv} {k : Nat} (h : k ≤ 1000000) : mulD s (.tup [x]) (.int (k : Int)) = some (.tup (List.replicate k x)) := by
  unfold mulD
  dsimp only
  rw [if_pos ⟨by omega, by omega, by unfold lim; simp; omega⟩, Int.toNat_natCast, List.flatten_replicate_singleton]
theorem lst_v {fa : FA} {ρ : Env} {s1 : Sto} {ws : List Dv} (h : fa ρ s = .ok ws s1) (hl : ws.length ≤ 1000000) : mLst fa ρ s = .ok (.lst ws) s1 := by
  rw [lst_ev, h, bind_ok, if_pos (by unfold lim; omega)]
theorem tup_v {fa : FA} {ρ : Env} {s1 : Sto} {ws : List Dv} (h : fa ρ s = .ok ws s1) (hl : ws.length ≤ 1000000) : mTup fa ρ s = .ok (.tup ws) s1 := by
  rw [tup_ev, h, bind_ok, if_pos (by unfold lim; omega)]
theorem cons_v {f : FE} {fa : FA} {ρ : Env} {s1 s2 : Sto} {w : Dv} {ws : List Dv} (h : f ρ s = .ok w s1) (h2 : fa ρ s1 = .ok ws s2) : mCons f fa ρ s = .ok (w :: ws) s2 := by
  rw [cons_ev, h, bind_ok, h2, bind_ok]
theorem call_v {d : Fn} {fa : FA} {ρ : Env} {s1 : Sto} {ws : List Dv} {r : R Dv} (h : fa ρ s = .ok ws s1) (h2 : d ws s1 = r) : mCall d fa ρ s = r := by
  rw [call_ev, h, bind_ok, h2]
theorem bin_v {o : O2} {f g : FE} {ρ : Env} {s1 s2 : Sto} {x y z : Dv} (h : f ρ s = .ok x s1) (h2 : g ρ s1 = .ok y s2) (h3 : o s2 x y = some z) : mBin o f g ρ s = .ok z s2 := by
  rw [bin_ev, h, bind_ok, h2, bind_ok, h3, of_some]
theorem blt_v {o : ON} {fa : FA} {ρ : Env} {s1 : Sto} {ws : List Dv} {z : Dv} (h : fa ρ s = .ok ws s1) (h3 : o s1 ws = some z) : mBlt o fa ρ s = .ok z s1 := by
  rw [blt_ev, h, bind_ok, h3, of_some]
theorem asg_v {f : FE} {i : Nat} {ρ : Env} {s1 : Sto} {w : Dv} (h : f ρ s = .ok w s1) : mAsg f (gN i) ρ s = .nx (ρ.set i (some w)) s1 := by
  rw [asgN_ev, h, then_ok]
theorem ret_v {f : FE} {ρ : Env} {s1 : Sto} {w : Dv} (h : f ρ s = .ok w s1) : mRet f ρ s = .rt w s1 := by
  rw [ret_ev, h, then_ok]
theorem seq_nx {c c' : FS} {ρ ρ1 : Env} {s1 : Sto} {r : C} (h : c ρ s = .nx ρ1 s1) (h2 : c' ρ1 s1 = r) : mSeq c c' ρ s = r := by
  rw [seq_ev, h, seqK_nx, h2]
theorem seq_rt {c c' : FS} {ρ : Env} {s1 : Sto} {w : Dv} (h : c ρ s = .rt w s1) : mSeq c c' ρ s = .rt w s1 := by
  rw [seq_ev, h, seqK_rt]
theorem test_v {f : FE} {ρ : Env} {s1 : Sto} {b : Bool} (h : f ρ s = .ok (.bl b) s1) : mTest f ρ s = .ok b s1 := by
  rw [test_ev, h, bind_ok, testK_bl]
section
open Classical
variable {vs : List Nat} {g : FG} {tt : FT} {elt : FE} {ρ : Env}
/-- a comprehension with a test that changes nothing -/
theorem comp_filt {α : Type} {f : FI} {l : List α} {e : α → Dv} (φ : α → Dv) (t : α → Bool) (hf : f ρ s = .ok { ws := l.map e } s) (hl : l.length ≤ lim) (h : ∀ a ∈ l, ∃ ρ1, g (e a) (wipeD ρ vs) s = some ρ1 ∧ tt ρ1 s = .ok (t a) s ∧ (t a = true → elt ρ1 s = .ok (φ a) s)) : mComp f vs g tt elt ρ s = .ok (.lst ((l.filter t).map φ)) s := by
  have key : ∀ {l : List α}, (∀ a ∈ l, ∃ ρ1, g (e a) (wipeD ρ vs) s = some ρ1 ∧ tt ρ1 s = .ok (t a) s ∧ (t a = true → elt ρ1 s = .ok (φ a) s)) → compL none vs g tt elt ρ (l.map e) s = some ((l.filter t).map φ, s) := fun {l} => by
    induction l with
    | nil => intro _; rw [List.map_nil]; simp [compL]
    | cons a l ih =>
      intro h
      obtain ⟨ρ1, h1, h2, h3⟩ := h a List.mem_cons_self
      rw [List.map_cons]
      unfold compL
      rw [if_pos (.inl rfl), h1]
      simp only [h2]
      cases q : t a with
      | true =>
        rw [List.filter_cons_of_pos q]
        simp only [h3 q]
        rw [ih fun b hb => h b (List.mem_cons_of_mem _ hb)]
        rfl
      | false =>
        rw [List.filter_cons_of_neg (by rw [q]; decide)]
        exact ih fun b hb => h b (List.mem_cons_of_mem _ hb)
  unfold mComp
  rw [hf, bind_ok]
  dsimp only
  rw [key h]
  dsimp only
  rw [if_pos (by rw [List.length_map]; exact Nat.le_trans (List.length_filter_le _ _) hl)]
end
end MP
set_option Elab.async false
set_option linter.all false
set_option maxRecDepth 100000
set_option maxHeartbeats 4000000
namespace MP
open PySem PySem.Spec PyProof.Rows L2
def maxO (d : Int) : List Int → Int
  | [] => d
  | n :: ns => ns.foldl max n
theorem foldl_max_le : ∀ (ns : List Int) (n : Int), n ≤ ns.foldl max n ∧ ∀ m ∈ ns, m ≤ ns.foldl max n
  | [], n => ⟨Int.le_refl _, fun _ h => nomatch h⟩
  | a :: ns, n => by
    obtain ⟨h1, h2⟩ := foldl_max_le ns (max n a)
    refine ⟨Int.le_trans (by omega : n ≤ max n a) h1, fun m hm => ?_⟩
    rcases List.mem_cons.mp hm with rfl | hm
    · exact Int.le_trans (by omega : m ≤ max n m) h1
    · exact h2 m hm
theorem foldl_max_mem : ∀ (ns : List Int) (n : Int), ns.foldl max n ∈ n :: ns
  | [], n => List.mem_cons_self
  | a :: ns, n => by
    have := foldl_max_mem ns (max n a)
    show ns.foldl max (max n a) ∈ _
    rcases List.mem_cons.mp this with h | h
    · rw [h]
      by_cases q : n ≤ a
      · rw [show max n a = a by omega]; exact List.mem_cons_of_mem _ List.mem_cons_self
      · rw [show max n a = n by omega]; exact List.mem_cons_self
    · exact List.mem_cons_of_mem _ (List.mem_cons_of_mem _ h)
theorem maxO_uniq {d m : Int} {ns : List Int} (h : m ∈ ns) (h2 : ∀ y ∈ ns, y ≤ m) : m = maxO d ns := by
  cases ns with
  | nil => cases h
  | cons a ns =>
    have h3 := h2 _ (foldl_max_mem ns a)
    obtain ⟨h4, h5⟩ := foldl_max_le ns a
    show m = ns.foldl max a
    rcases List.mem_cons.mp h with rfl | h
    · omega
    · have := h5 m h; omega
section
variable {X : Cx} {Γ : Ct} {W : WX}
/-- max(x), some ints -/
def maxLD : ON := fun s xs => match xs with
  | [x] => match lstOf s x with
    | some ws => match intsOf ws with
      | some (n :: ns) => some (.int (maxO 0 (n :: ns)))
      | _ => none
    | none => none
  | _ => none
theorem sMaxL (hK : Γ.K = X.K) : OpN Γ (rMax X.K) maxLD := fun H μ Z s xs w vs Q hR rx e k => by
  rw [← hK]
  unfold maxLD at e
  split at e
  · rename_i y
    split at e
    · rename_i ws q
      split at e
      · rename_i n ns q2
        cases e
        obtain ⟨v, rfl, r1⟩ := one rx
        obtain ⟨a, ys, rfl, h2, h3⟩ := lstOf_ok hR r1 q
        rw [intsOf_ok q2] at h3
        have h4 := h3.ints
        subst h4
        refine ⟨a, n :: ns, rfl, SqL.of h2, Nat.succ_pos _, fun m hm h => ?_⟩
        rw [maxO_uniq (d := 0) hm h]
        exact k _ H .refl hR rfl
      · cases e
    · cases e
  · cases e
/-- a try whose body raises nothing -/
def mTryN (c : FS) : FS := fun ρ s => match c ρ s with
  | .er _ _ _ => .no
  | r => r
theorem ms_tryN {body : List Stmt} {h₀ : ExceptHandler} {hs : List ExceptHandler} {pos : Pos} {c : FS} (hb : MB X.nox Γ W0 body c) : MS X Γ W (.Try body (h₀ :: hs) [] [] pos) (mTryN c) :=
  PS.imp (ps_try_thru0 hb) fun D σ H ⟨μ, Z, ρ, s, hE, hR, q⟩ => by
    refine ⟨μ, Z, ρ, s, hE, hR, ?_⟩
    unfold mTryN at q
    cases e : c ρ s with
    | er x ρ' s' => rw [e] at q; exact q.elim
    | nx _ _ => rw [e] at q; exact q
    | rt _ _ => rw [e] at q; exact q
    | bk _ _ => rw [e] at q; exact q
    | ct _ _ => rw [e] at q; exact q
    | no => rw [e] at q; exact q
end
end MP
set_option Elab.async false
set_option linter.all false
set_option maxRecDepth 100000
set_option maxHeartbeats 4000000
namespace MPZ
open PySem PySem.W
section
variable {prog : Program} {w : World} {A : Around} {E : Value → Shared → Prop} {s : Shared} {z TI TO T i1 i2 l1 l2 : Addr} {f : Bool} {oT : Obj} {k1 k2 : Nat} {xs ys : Array Value}
/-- a zip that goes on while its last tuple is still held -/
structure On (h : Heap) (z TI i1 i2 l1 l2 : Addr) (k1 k2 : Nat) (xs ys : Array Value) : Prop where
  tI : PySem.IsPair h TI (.ref i1) (.ref i2)
  a : h.IsTupleIter i1 l1 k1
  b : h.IsTupleIter i2 l2 k2
  la : h.IsTuple l1 xs
  lb : h.IsTuple l2 ys
/-- where a zip of two tuples stands -/
structure Zst (h : Heap) (z TI TO i1 i2 l1 l2 S : Addr) (k : Nat) (xs ys : Array Value) : Prop where
  on : On h z TI i1 i2 l1 l2 k k xs ys
  st : (PySem.IsZip h z TI TO .none ∧ PySem.IsPair h TO .none .none) ∨ ∃ T f oT, IsZipHeld h z TI TO T f ∧ h.get? T = some oT ∧ T ≠ z ∧ T ≠ i1 ∧ T ≠ i2 ∧ T ≠ S
variable {S : Addr} {k : Nat}
/-- the pairs, as new tuples above lo -/
structure Prs (xs ys : Array Value) (lo : Addr) (h : Heap) (as : List Addr) : Prop where
  rise : as.Pairwise (· < ·)
  over : ∀ a ∈ as, lo < a
  pair : ∀ (j : Nat) (a : Addr), as[j]? = some a → ∃ x y, xs[j]? = some x ∧ ys[j]? = some y ∧ PySem.IsPair h a x y
theorem Prs.low {lo lo' : Addr} {h : Heap} {as : List Addr} (p : Prs xs ys lo h as) (hl : lo' ≤ lo) : Prs xs ys lo' h as := ⟨p.rise, fun a ha => Nat.lt_of_le_of_lt hl (p.over a ha), p.pair⟩
theorem Prs.keep {lo : Addr} {h g : Heap} {as : List Addr} (p : Prs xs ys lo h as) (hk : ∀ b u, lo < b → h.get? b = some u → g.get? b = some u) : Prs xs ys lo g as :=
  ⟨p.rise, p.over, fun j a q => let ⟨x, y, e1, e2, e3⟩ := p.pair j a q; ⟨x, y, e1, e2, hk a _ (p.over a (List.mem_of_getElem? q)) e3⟩⟩
end
section
variable {prog : Program} {w : World} {A : Around} {s : Shared} {R : Result → Shared → Prop} {z TI TO i1 i2 l1 l2 S : Addr} {xs ys : Array Value}
theorem Zst.ty {h : Heap} {k : Nat} (zs : Zst h z TI TO i1 i2 l1 l2 S k xs ys) {s : Shared} (e : s.heap = h) : s.TypeIs (.ref z) "zip" := by
  subst e
  rcases zs.st with ⟨hz, _⟩ | ⟨_, _, _, hz, _⟩
  · exact ⟨_, hz, rfl⟩
  · exact ⟨_, hz, rfl⟩
end
end MPZ
set_option Elab.async false
set_option linter.all false
set_option maxRecDepth 100000
set_option maxHeartbeats 4000000
namespace MP
open PySem PySem.Spec PyProof.Rows L2
theorem Un.more {fs ex : List Addr} {H H1 : Hp} {h h' : Heap} {a : Addr} {o : HO} (u : Un fs ex H H1 h h') (hp : h.objs.size ≤ a) (hn : H1 a = none) : Un fs ex H (upd H1 a o) h h' where
  keep := u.keep
  slot := u.slot
  free := fun b ob q n hx => by rw [upd_ne (Nat.ne_of_lt (Nat.lt_of_lt_of_le (Heap.lt_size q) hp))]; exact u.free b ob q n hx
  there := u.there
  tups := fun b xs q => by rw [upd_ne (ne_of_none (u.tups b xs q) hn)]; exact u.tups b xs q
  frzs := fun b ob xs q => by rw [upd_ne (ne_of_none (u.frzs b ob xs q) hn)]; exact u.frzs b ob xs q
  tbls := fun b ps q => by
    obtain ⟨m, e⟩ := u.tbls b ps q
    exact ⟨m, by rw [upd_ne (ne_of_none e hn)]; exact e⟩
theorem HOk.more {P : Program} {w : World} {H : Hp} {h : Heap} {a : Addr} {o : HO} (x : HOk P w H h) (hn : H a = none) (new : ObjOk P w (upd H a o) h a o) : HOk P w (upd H a o) h := fun b u e => by
  by_cases hb : b = a
  · subst hb
    rw [upd_same] at e
    cases e
    exact new
  · rw [upd_ne hb] at e
    exact (x b u e).stay (fun _ _ _ q => q) (fun c q => (upd_ne (ne_of_none q hn)).trans q) fun c ps q => (upd_ne (ne_of_none q hn)).trans q
def prs : List V → List V → List (List V)
  | a :: r, b :: t => [a, b] :: prs r t
  | _, _ => []
section
variable {X : Cx} {t : TA} {e : Expr} {es : List Expr} {p p2 pos pos2 : Pos}
theorem apart {N a b : Nat} (ha : a < N) (hb : b < N) : ZipApart (N + 4) (N + 2) (N + 3) N (N + 1) a b := by
  constructor <;> (intro z; have z' : (_ : Nat) = (_ : Nat) := z; omega)
end
end MP
set_option Elab.async false
set_option linter.all false
set_option maxRecDepth 100000
set_option maxHeartbeats 4000000
namespace MP
open PySem PySem.Spec PyProof.Rows L2
section
variable {X : Cx} {a C dx : Addr} {H : Hp}
theorem exK_at {P : Program} {w : World} {h : Heap} (ok : HOk P w H h) (e : H a = some (ExK a C dx)) : ∃ oe vs, h.get? a = some oe ∧ oe.cls = .ref C ∧ oe.dict = some dx ∧ oe.data = .fields vs := by
  obtain ⟨⟨oe, vs, h1, h2, h3⟩, _⟩ := ok a _ e
  exact ⟨oe, vs, h1, h2.1, h2.2, h3⟩
theorem exK_inst {P : Program} {w : World} {h : Heap} {fs : List (Str × V)} (ok : HOk P w H h) (e : H a = some (ExK a C dx)) (ed : H dx = some (.xd fs)) : ∃ (oe od : Obj) (mA : Str → Option Value), PySem.W.InstAt h a oe C (some od) ∧ (∀ y, PySem.W.lookIn y od = some (mA y)) ∧ ∀ f, RelO (fs.lookup f) (mA f) := by
  obtain ⟨oe, vs, h1, h2, h3, h4⟩ := exK_at ok e
  obtain ⟨mA, hns, hr⟩ := (show ObjOk P w H h dx (.xd fs) from ok dx _ ed)
  obtain ⟨od, ho, hl⟩ := lookIn_ns hns
  obtain ⟨oc, od', oda, osl⟩ := oe
  dsimp only at h2 h3 h4
  subst h2 h3 h4
  exact ⟨_, od, mA, ⟨h1, rfl, rfl, ho⟩, hl, hr⟩
/-- a held exception: of an own class with a field, or a bare one -/
def Held (H : Hp) (a C : Addr) : Prop := (∃ dx fs, H a = some (ExK a C dx) ∧ H dx = some (.xd fs)) ∨ H a = some (ExO (.ref C) a)
theorem held_inst {P : Program} {w : World} {h : Heap} (ok : HOk P w H h) (e : Held H a C) : ∃ oe od, PySem.W.InstAt h a oe C od := by
  rcases e with ⟨dx, fs, e, ed⟩ | e
  · obtain ⟨oe, od, _, q, _⟩ := exK_inst ok e ed
    exact ⟨oe, _, q⟩
  · obtain ⟨⟨oe, vs, h1, h2, h3, _⟩, _⟩ := ok a _ e
    obtain ⟨oc, od, oda, osl⟩ := oe
    obtain ⟨h2, h4⟩ := h2
    dsimp only at h2 h3 h4
    subst h2 h3 h4
    exact ⟨_, none, h1, rfl, rfl, trivial⟩
def rIsK (K : PySem.W.Frag) : List V → Hp → VK → Prop := fun xs H Q => ∃ (a C : Addr) (c : V) (u : Value) (b : Bool), xs = [.ref a, c] ∧ Held H a C ∧ ExcC K C ∧ ClsV c u ∧ PySem.W.kitOne K (.ref C) u = some b ∧ Q (.bl b) H
theorem call_isK : CallR X (.builtin "isinstance") (rIsK X.K) := by
  intro pins s σ H xs us Q I r h
  obtain ⟨a, C, c, u, b, rfl, e, T, k, hk, q⟩ := h
  obtain ⟨u1, u2, rfl, r1, r2⟩ := vals2 r
  have e2 := k.eq r2
  subst e2
  obtain rfl : u1 = Value.ref a := r1
  obtain ⟨oe, od, J⟩ := held_inst I.hok e
  exact PySem.W.kia_one (PySem.W.kitx_exc (gt := none) (by obtain ⟨cd, hc, _⟩ := PySem.W.any_some T.hd; rw [hc]; rfl) T.hg T.hk T.hs T.ha T.hn T.ht T.hm) I.kIn J hk (fun z => nomatch z) fun tk => ⟨.bl b, H, I.tok tk, rfl, q⟩
/-- e.f of a held exception -/
def tXk (K : PySem.W.Frag) (f : Str) (te : TE) : TE := fun σ H Q => te σ H fun x H1 => ∃ (a C dx : Addr) (fs : List (Str × V)) (v : V), x = .ref a ∧ H1 a = some (ExK a C dx) ∧ H1 dx = some (.xd fs) ∧ fs.lookup f = some v ∧ XfC K C ∧ PySem.W.findIn K (.ref C) f = some none ∧ Q v H1
theorem pe_xk {e : Expr} {te : TE} {pos : Pos} {n : Str} (he : PE X e te) (hb : attributeBase e n X.env (eval e X.env) = eval e X.env := by rfl) : PE X (.Attribute e n pos) (tXk X.K n te) := by
  refine ⟨fun pins s σ H Q I h => ?_⟩
  refine attr_of hb (thn (he.run pins s σ H _ I h) fun u s1 ⟨x, H1, I1, rx, a, C, dx, fs, v, ex, ea, ed, l, T, hno, q⟩ => ?_)
  subst ex
  obtain rfl : u = Value.ref a := rx
  obtain ⟨oe, od, mA, J, hl, hr⟩ := exK_inst I1.hok ea ed
  obtain ⟨u, hu, ru⟩ := RelO.some_of (v := v) (o := mA n) (by rw [← l]; exact hr n)
  exact HandSPX.exc_get I1.kIn J T.ga T.gg T.exC (PySem.W.findObj_own T.hdC hno rfl (by rw [hl, hu])) (handed_of ru) ⟨v, H1, I1.tok _, ru, q⟩
end
def under (c j : Nat) : Bool := decide (c = j) || (decide (j = 0) && decide (c ≤ 7))
def underT (c : Nat) (n : String) : Option Bool := if n = "ValueError" then some (decide (c ≤ 7)) else if n = "LookupError" then some (decide (c = 8)) else none
def exCls : Dv → Option Nat
  | .exc c _ _ => if c < 9 then some c else none
  | .exn c => if c < 9 then some c else none
  | _ => none
def isxD : ON := fun _ xs => match xs with
  | [x, .cl j] => match exCls x with
    | some c => if j < 9 then some (.bl (under c j)) else none
    | none => none
  | [x, .ty n] => match exCls x with
    | some c => (underT c n).map .bl
    | none => none
  | _ => none
section
variable {X : Cx} {Γ : Ct}
theorem held_of {H : Hp} {μ : Mu} {Z : Zs} {x : Dv} {v : V} {c : Nat} (r : RV Γ H μ Z x v) (e : exCls x = some c) : ∃ a, v = .ref a ∧ Held H a (Γ.cls c) ∧ c < 9 := by
  cases x with
  | exc c' f w =>
    unfold exCls at e
    dsimp only at e
    split at e
    · rename_i hc
      cases e
      obtain ⟨a, dx, y, h1, h2, _, h4, _⟩ := r
      exact ⟨a, h1, .inl ⟨dx, _, h2, h4⟩, hc⟩
    · cases e
  | exn c' =>
    unfold exCls at e
    dsimp only at e
    split at e
    · rename_i hc
      cases e
      obtain ⟨a, h1, h2, _⟩ := r
      exact ⟨a, h1, .inr h2, hc⟩
    · cases e
  | _ => cases e
/-- isinstance, of data and of exceptions -/
def isiA : ON := fun s xs => match isiD s xs with
  | some w => some w
  | none => isxD s xs
theorem cr_isiA : CallR X (.builtin "isinstance") (fun x H Q => rIsi X.K x H Q ∨ rIsK X.K x H Q) := CallR.or2 call_isi call_isK
/-- a class by its name -/
theorem me_cls {W : WX} {x : Str} {pos : Pos} {j : Nat} (hg : Gl X x) (hm : X.mg x = some (.ref (Γ.cls j))) (hdb : (x == ("__debug__" : Str)) = false := by decide) : ME X Γ W (.Name x pos) (mK (.cl j)) := by
  refine ⟨fun pins s σ H Q I h => ?_⟩
  obtain ⟨μ, Z, ρ, st, hE, hR, q⟩ := h
  exact ld_glob I hg hm ⟨.ref (Γ.cls j), H, I.tok _, rfl, q _ H μ .refl hR rfl⟩ hdb
end
end MP
set_option Elab.async false
set_option linter.all false
set_option maxRecDepth 100000
set_option maxHeartbeats 4000000
namespace MP
open PySem PySem.Spec PyProof.Rows L2
/-- what __init__ does -/
def spI (C : Addr) (f : Str) : Sp := fun vs H Q _ => ∃ (a : Addr) (v : V), vs = [.ref a, v] ∧ H a = some (exo a C none) ∧ ∀ dx, H dx = none → dx ≠ a → Q .non (upd (upd H dx (exd dx [(f, v)])) a (exo a C (some dx)))
theorem init_fn {CX : CXT} {P : Program} {w : World} {K : PySem.W.Frag} {mg : Str → Option Value} {base : Heap} {fI : Addr} {name qual f : Str} {params : Arguments} {scope : Scope} {dV kV doc pm cdv ct oc : Value} {an od : Option Addr} {osl : Array (Option Value)} {p1 p2 p3 p4 : Pos}
    (lk : K.lookup fI = some ⟨oc, od, .func (PySem.W.fnOf name qual params [.Assign [.Attribute (.Name "self" p1) f p2] (.Name f p3) p4] scope dV kV doc pm an cdv ct), osl⟩) (hcd : PySem.W.codeIn K cdv qual = true) (S : FnScope ["self", f] ["self", f] scope)
    {C : Addr} (t1 : OexC K C) (t2 : PySem.W.findIn K (.ref C) f = some none)
    (v0 : Vis scope "self") (v1 : Vis scope f) (d1 : (f == ("__debug__" : Str)) = false) (d2 : (f == ("__classdict__" : Str)) = false) : FnOk P w K mg base CX 1 fI (PySem.W.fnOf name qual params [.Assign [.Attribute (.Name "self" p1) f p2] (.Name f p3) p4] scope dV kV doc pm an cdv ct) ["self", f] (spI C f) :=
  fn_of (k := 0) lk hcd S (fun vs H Q E ⟨_, _, e, _⟩ => by rw [e]; rfl) fun A outer s H vs Q E hr ⟨a, v, ev, ea, q⟩ => by
    subst ev
    refine ⟨_, pss_one (ps_ost (pe_var (i := 0) rfl v0 (by decide) (by decide)) (pe_var (i := 1) rfl v1 d1 d2)), ?_⟩
    exact ⟨v, rfl, .ref a, rfl, a, C, rfl, t1, t2, .inl ⟨ea, fun dx hn hd => q dx hn hd⟩⟩
/-- what is known of an own class that is raised -/
structure XcR (P : Program) (w : World) (K : PySem.W.Frag) (mg : Str → Option Value) (base : Heap) (C : Addr) (x f : Str) : Prop where
  ox : OexC K C
  no : PySem.W.findIn K (.ref C) f = some none
  gC : mg x = some (.ref C)
  init : ∃ (fI : Addr) (fd : FuncData), PySem.W.findIn K (.ref C) "__init__" = some (some (.ref fI)) ∧ PySem.W.typeIn K (.ref fI) = some (.type "function") ∧ FnOk P w K mg base (L2.CX P w) 1 fI fd ["self", f] (spI C f) ∧ L2.Binds K fd ["self", f] []
/-- raise C(e) -/
def mRaise (c : Nat) (f : Str) (g : FE) : FS := fun ρ s => (g ρ s).thenC ρ fun w s1 => .er ⟨c, f, w⟩ ρ s1
section
variable {X : Cx} {Γ : Ct} {W : WX}
theorem ms_raise {e : Expr} {g : FE} {x f : Str} {c : Nat} {p pos pos' : Pos} (hK : Γ.K = X.K) (T : XcR X.prog X.w X.K X.mg X.base (Γ.cls c) x f) (hr : Room 2 X.A) (hc : X.calm = true) (tk : Takes X W) (hg : Gl X x) (ha : ME X Γ W e g)
    (hdb : (x == ("__debug__" : Str)) = false := by decide) (he : starEach [e] X.env = (false, eval e X.env) :: starEach [] X.env := by rfl) (hpl : (backTo pos (starEach [] X.env)).any (·.1) = false := by rfl) (h99 : c < 99 := by decide) :
    MS X Γ W (.Raise (some (.Call (.Name x p) [e] [] pos)) none pos') (mRaise c f g) := by
  obtain ⟨fI, fd, iC, tI, F1, hb⟩ := T.init
  have hx : Passes (L2.CX X.prog X.w) X (fun _ _ _ => False) := passes_call (W := W0) tk0 fun _ _ _ _ h => h
  refine PS.imp (ps_raise hc tk (pmk_oex T.ox iC tI F1 hr hb .nil hx hg T.gC (pa_cons ha pa_nil he) hdb he hpl)) fun D σ H ⟨μ, Z, ρ, s, hE, hR, q⟩ => ?_
  refine eS hE hR q fun y s1 v H1 μ1 ev E1 R1 r1 q1 => ⟨by show 1 ≤ 1000; decide, fun a na => ⟨a, v, rfl, upd_same, fun dx hdx hda => ⟨rfl, dx, [(f, v)], upd_same, ?_, ?_, ?_⟩⟩⟩
  · rw [upd_ne hda, upd_same]
  · rwa [upd_ne hda] at hdx
  · have nd : H1 dx = none := by rwa [upd_ne hda] at hdx
    have eH : upd (del (upd (upd (upd H1 a (exo a (Γ.cls c) none)) dx (exd dx [(f, v)])) a (exo a (Γ.cls c) (some dx))) a) dx (.xd [(f, v)]) = upd H1 dx (.xd [(f, v)]) := by
      funext b
      by_cases h1 : b = dx
      · subst h1
        rw [upd_same, upd_same]
      · rw [upd_ne h1, upd_ne h1]
        by_cases h2 : b = a
        · subst h2
          rw [del_same]
          exact na.symm
        · rw [del_ne h2, upd_ne h2, upd_ne h1, upd_ne h2]
    rw [eH]
    have e2 : Evo H1 μ1 (upd H1 dx (.xd [(f, v)])) μ1 := Evo.laid nd
    exact q1 _ _ σ _ μ1 e2 (R1.laid nd) (E1.mono e2) (.inr ⟨by show c ≠ 99; omega, rfl, dx, v, rfl, upd_same, R1.fz nd, r1.mono e2⟩)
end
end MP
set_option Elab.async false
set_option linter.all false
set_option maxRecDepth 100000
set_option maxHeartbeats 4000000
namespace MP
open PySem PySem.Spec PyProof.Rows L2
theorem flying_up {B h g : Heap} {l : List PySem.Env} {a : Addr} {Z : Obj → Prop} (fl : HandSPX.FlyingZ B l a Z h) (k : ∀ b o, h.get? b = some o → g.get? b = some o) : HandSPX.FlyingZ B l a Z g := by
  obtain ⟨f1, f2, f3, oe, vs, T, oT, ts, q1, q2, q3, q4, q5, q6, q7, q8, q9⟩ := fl
  exact ⟨fun b o e => k b o (f1 b o e), f2, Heap.FunFrames.of_keeps (fun b o e _ => ⟨o, k b o e, rfl⟩) f3, oe, vs, T, oT, ts, k _ _ q1, q2, q3, q4, q5, q6, k _ _ q7, q8, q9⟩
theorem exK_ok {P : Program} {w : World} {H : Hp} {h : Heap} {a C dd : Addr} {oe : Obj} {vs : Array Value} (e : h.get? a = some oe) (z : Zc (.ref C) (some dd) oe) (d : oe.data = .fields vs) : ObjOk P w H h a (ExK a C dd) :=
  ⟨⟨oe, vs, e, z, d⟩, ⟨oe, e⟩, fun h1 h2 ⟨o, v, q1, q2, q3⟩ k => ⟨o, v, k _ q1, q2, q3⟩⟩
section
variable {X : Cx} {pins : List (Addr × Obj)} {σ : L2.St} {H : Hp} {sI s s' : Shared} {B : Heap}
/-- on the ground again, the exception's object being known from now on -/
theorem landedK {a : Addr} {u : HO} (I : Inv X pins σ H sI) (nb : ∀ b o, sI.heap.get? b = some o → b ∉ frs X.stack → B.get? b = some o) (st : B.StaysIn s'.heap) (up : sI.heap.UpToSlots s'.heap) (os : s'.os = sI.os) (ag : AllBare s'.gens)
    (na : H a = none) (ng : sI.heap.get? a = none) (new : ObjOk X.prog X.w (upd H a u) s'.heap a u) : Inv X pins σ (upd H a u) s' := by
  have nf : ∀ b ∈ frs X.stack, ∀ o, sI.heap.get? b = some o → ∃ sl, s'.heap.get? b = some { o with slots := sl } := fun b hb o e => by
    obtain ⟨_, o', e', hd⟩ := I.stack.mem hb
    rw [e] at e'; cases e'; exact up b o e hd
  have ne : ∀ b o, sI.heap.get? b = some o → b ≠ a := fun b o e z => by rw [z, ng] at e; cases e
  have J := I.call (ch := []) (h' := s'.heap) (g' := s'.gens) (t' := s'.toks) (d' := s'.drawn) (H' := upd H a u)
    ⟨fun b o e _ hb _ => st b o (nb b o e hb), fun b o e _ hb _ => nf b hb o e, fun b o e n _ => by rw [upd_ne (ne b o e)]; exact n, fun b o e _ => by
      by_cases hb : b ∈ frs X.stack
      · exact let ⟨sl, q⟩ := nf b hb o e; ⟨_, q⟩
      · exact ⟨o, st b o (nb b o e hb)⟩, fun b xs e => by rw [upd_ne (ne_of_none e na)]; exact e, fun b o xs e => by rw [upd_ne (ne_of_none e na)]; exact e, fun b ps e => ⟨#[], by rw [upd_ne (ne_of_none e na), e]; simp⟩⟩
    (HOk.more ((I.inGround nb).kept st) na new) ag (fun _ z => nomatch z)
  obtain ⟨a1, a2, a3, a4, a5⟩ := s'
  have e5 : a5 = sI.os := os
  subst e5; exact J
theorem toSuite (I : Inv X pins σ H s) (a : Addr) : Inv (X.suite a (X.pn ++ pins)) [] σ H s :=
  ⟨I.ok.suite _ _, I.os, I.bare, I.base, I.loc, I.cell, I.free, I.freeC, fun p hp => I.pin p (List.append_nil (X.pn ++ pins) ▸ hp), I.hok, I.len⟩
theorem ofSuite {a : Addr} {pn' : List (Addr × Obj)} (I : Inv (X.suite a (X.pn ++ pins)) pn' σ H s) (ok : X.Ok) : Inv X pins σ H s :=
  ⟨ok, I.os, I.bare, I.base, I.loc, I.cell, I.free, I.freeC, fun p hp => I.pin p (List.mem_append.mpr (.inl hp)), I.hok, I.len⟩
end
/-- what the clause wishes of an exception of the body -/
def wKeep (K : PySem.W.Frag) (c1 c2 : Value) (i : Nat) (ts : TS) (Wout : WX) (D : Ends) : WX := fun cls d σ H => ∃ b, PySem.W.exmAny K cls [c1, c2] = some b ∧
  (b = true → ∃ C dd, cls = .ref C ∧ d = some dd ∧ ∀ a, H a = none → ts { nx := fun σ' H' => D.nx (σ'.set i none) H', rt := D.rt, bk := fun σ' H' => D.bk (σ'.set i none) H', ct := fun σ' H' => D.ct (σ'.set i none) H' } (σ.set i (some (.ref a))) (upd H a (ExK a C dd))) ∧ (b = false → Wout cls d σ H)
section
variable {X : Cx} {x1 x2 n : Str} {c1 c2 : Value} {i kk : Nat} {body suite : List Stmt} {b0 : Stmt} {p1 p2 tp pos pos' : Pos} {tb : WX → TS} {ts : TS} {Wout : WX}
theorem ps_try_keep (hs : X.stack = X.env :: X.outer) (hf : X.env.frame = some X.env.locals) (hN : X.N.Nodup) (hi : X.N[i]? = some n) (hln : X.env.kindOf n = some .local) (n1 : Names X x1 c1) (n2 : Names X x2 c2) (tk : Takes X Wout)
    (hb : ∀ (W : WX) (pn : List (Addr × Obj)) (xe : Value → Shared → Prop), Takes (X.tr pn xe) W → PassesOwn (model X.prog X.w) X.A X.env xe → PSs (X.tr pn xe) body (tb W)) (hsu : ∀ (a : Addr) (pn : List (Addr × Obj)), PSs (X.suite a pn) (b0 :: suite) ts) :
    PS X (.Try body [.ExceptHandler (some (.Tuple [.Name x1 p1, .Name x2 p2] kk tp)) (some n) (b0 :: suite) pos'] [] [] pos) (fun D σ H => tb (wKeep X.K c1 c2 i ts Wout D) D σ H) := by
  refine ⟨fun pins s σ H D I h => ?_⟩
  have ok := I.ok
  have hfr : X.A.frames = some (X.env :: X.outer) := ok.frames.trans (congrArg some hs)
  have hloc : Loc X.env.scope n := .inl hln
  refine wpAny_Try_except (wpAny_mono ((hb (wKeep X.K c1 c2 i ts Wout D) (X.pn ++ pins) (fun e u1 => wpAny (model X.prog X.w) X.A (noteFrame e X.env) (fun _ u2 => wpAny (model X.prog X.w) X.A (setFlight e none) (fun _ u3 =>
    wpAny (model X.prog X.w) X.A (handleBy e X.env [.ExceptHandler (some (.Tuple [.Name x1 p1, .Name x2 p2] kk tp)) (some n) (b0 :: suite) pos']) (SP X pins D) X.xe u3) X.xe u2) X.xe u1) (fun u s' xx => ?_) PassesOwn.looking).run [] s σ H D (I.toTry _) h) (fun f s1 hsp => ?_) (fun e s1 he => he))
  · obtain ⟨a, B, sI, pins', σ', H', cls, d, rfl, J', nb, up, sky, na, os, ag, b, hb1, hyes, hno⟩ := xx
    have J : Inv X pins σ' H' sI := J'.ofTry ok
    show wpAny (model X.prog X.w) X.A (noteFrame (.ref a) X.env) _ _ _
    refine Sky.land Zc.steady hfr hf (by rw [← hs]; exact sky) fun h3 fl3 up3 => ?_
    have J3 : Inv X pins σ' H' { s' with heap := h3 } := J.landed nb fl3.1 (up.trans up3) os ag
    obtain ⟨oe3, vs3, he3, hz3, hd3⟩ := fl3.there
    have nfr : a ∉ frs (X.env :: X.outer) := fun hm => by
      obtain ⟨_, o', e', hnf⟩ := fl3.2.2.1.mem hm
      rw [he3] at e'; cases e'; exact hnf _ hd3
    have ng : sI.heap.get? a = none := by
      cases q : sI.heap.get? a with
      | none => rfl
      | some o => have := nb a o q (by rw [hs]; exact nfr); rw [fl3.2.1] at this; cases this
    have nL : a ≠ X.env.locals := fun z => nfr (List.mem_filterMap.mpr ⟨X.env, List.mem_cons_self, by rw [hf, z]⟩)
    have nF : a ∉ X.fs := fun hm => nfr (by
      obtain ⟨e, he, q⟩ := List.mem_filterMap.mp hm
      exact List.mem_filterMap.mpr ⟨e, List.mem_cons_of_mem _ he, q⟩)
    have S3 := J3.suite he3 hd3 na nL nF
    have load : ∀ {y : Str} {c : Value} {py : Pos} {Q E : Value → Shared → Prop}, Names X y c → Q c { s' with heap := h3 } → wpAny (model X.prog X.w) (X.A.mark (some (.ref a))) (eval (.Name y py) X.env) Q E { s' with heap := h3 } := fun {y c py Q E} hc q => by
      obtain ⟨g1, g2, g3 | ⟨g3, g4, g5⟩⟩ := hc
      · exact ld_glob (X := X.suite a ((a, oe3) :: (X.pn ++ pins))) S3 g1 g3 q g2
      · exact ld_blt (X := X.suite a ((a, oe3) :: (X.pn ++ pins))) S3 g1 g3 g4 q g5 g2
    refine wpAny_handleBy_cons (codeAny_handlers_test ?_) (by intro q; cases q)
    refine wpAny_Tuple_spliced (Calls.spliced_cons (load n1 (Calls.spliced_cons (load n2 (Calls.spliced_nil ⟨by show 2 ≤ sizeLine; rw [sizeLine_eq]; decide, ?_⟩)))))
    have kp : ∀ b o, h3.get? b = some o → (h3.push { cls := .type "tuple", data := .seq [c1, c2].toArray }).get? b = some o := fun b o e => Heap.get?_push_of_some _ e
    have fl3' := flying_up fl3 kp
    have LT : PySem.W.Looks (model X.prog X.w) (h3.push { cls := .type "tuple", data := .seq [c1, c2].toArray }) (typeOf (.ref a)) cls := fun A Q E s k q => wpAny_typeOf_ref (k _ _ (kp _ _ he3)) (by rw [hz3.1]; exact q)
    have LM := PySem.W.exm_tup2 (M := model X.prog X.w) (J3.kIn.keeps kp) LT (Heap.get?_push_size _ rfl) hb1
    refine LM.here ?_
    have upk : sI.heap.UpToSlots (h3.push { cls := .type "tuple", data := .seq [c1, c2].toArray }) := (up.trans up3).trans (Heap.UpToSlots.of_keeps kp)
    cases b with
    | true =>
      obtain ⟨C, dd, rfl, rfl, hy2⟩ := hyes rfl
      refine codeAny_handlers_suite_as (HandSPX.lands_againZ fl3' fun h4 fl4 up4 => ?_)
      obtain ⟨oe4, vs4, he4, hz4, hd4⟩ := fl4.there
      have J4 : Inv X pins σ' (upd H' a (ExK a C dd)) { s' with heap := h4 } := landedK J nb fl4.1 (upk.trans up4) os ag na ng (exK_ok he4 hz4 hd4)
      refine store_ok (X := X.suite a (X.pn ++ pins)) (v := .ref a) (toSuite J4 a) hN hi hloc rfl (fun s5 S5 => ?_) (.inr hln)
      refine wpAny_mono ((hsu a (X.pn ++ pins)).run [] s5 _ _ _ S5 (hy2 a na)) (fun f s6 hsp => ?_) (fun _ _ z => False.elim z)
      have fin : ∀ {σ6 : L2.St} {H6 : Hp} {Q : Shared → Prop}, Inv (X.suite a (X.pn ++ pins)) [] σ6 H6 s6 → (∀ s7, Inv X pins (σ6.set i none) H6 s7 → Q s7) → wpAny (model X.prog X.w) X.A (do bindName X.env n .none; unbindBehindTheSuite X.env n pos') (fun _ s7 => Q s7) X.xe s6 := fun S6 hq => gone_ok (ofSuite S6 ok) hN hi hln hq
      cases f with
      | next => exact let ⟨σ6, H6, S6, q6⟩ := hsp; fin S6 fun s7 J7 => ⟨_, _, J7, q6⟩
      | brk => exact let ⟨σ6, H6, S6, q6⟩ := hsp; fin S6 fun s7 J7 => ⟨_, _, J7, q6⟩
      | cont => exact let ⟨σ6, H6, S6, q6⟩ := hsp; fin S6 fun s7 J7 => ⟨_, _, J7, q6⟩
      | ret u => exact let ⟨v6, σ6, H6, S6, r6, q6⟩ := hsp; fin S6 fun s7 J7 => ⟨_, _, _, J7, r6, q6⟩
    | false =>
      show wpAny _ X.A (handleBy (.ref a) X.env []) _ _ _
      refine wpAny_handleBy_nil ?_
      obtain ⟨_, _, _, oe, vs, T, oT, t', he, hz, hd, hT, hr⟩ := id fl3'
      unfold PySem.passOn
      refine wpAny_bind (wpAny_field he hd hT ?_)
      rw [if_neg (show ¬ ((Value.ref T == Value.none) = true) by simp)]
      have fin : wpAny (model X.prog X.w) X.A (setFlight (.ref a) X.env.frame) (fun _ u => wpAny (model X.prog X.w) X.A (throw (.ref a) : Sem Flow) (SP X pins D) X.xe u) X.xe { s' with heap := h3.push { cls := .type "tuple", data := .seq [c1, c2].toArray } } := by
        rw [hf]
        exact HandSPX.setFlight_upZ fl3' fun h4 hh4 up4 => wpAny_throw (tk _ _ ⟨a, B, sI, pins, σ', H', cls, d, rfl, J, nb, upk.trans up4, .inr (.inr (by rw [hs]; exact hh4)), na, os, ag, hno rfl⟩)
      first
        | exact wpAny_bind (wpAny_pure (wpAny_bind fin))
        | exact wpAny_bind fin
  · cases f with
    | next => exact let ⟨σ', H', J', q⟩ := hsp; wpAny_execs_nil ⟨σ', H', J'.ofTry ok, q⟩
    | brk => exact let ⟨σ', H', J', q⟩ := hsp; ⟨σ', H', J'.ofTry ok, q⟩
    | cont => exact let ⟨σ', H', J', q⟩ := hsp; ⟨σ', H', J'.ofTry ok, q⟩
    | ret u => exact let ⟨v, σ', H', J', r, q⟩ := hsp; ⟨v, σ', H', J'.ofTry ok, r, q⟩
end
end MP
set_option Elab.async false
set_option linter.all false
set_option maxRecDepth 100000
set_option maxHeartbeats 4000000
namespace MP
open PySem PySem.Spec PyProof.Rows L2
/-- the name of the exception goes behind the suite; the suite raises nothing -/
def delC (i : Nat) : C → C
  | .nx ρ s => .nx (ρ.set i none) s
  | .bk ρ s => .bk (ρ.set i none) s
  | .ct ρ s => .ct (ρ.set i none) s
  | .rt w s => .rt w s
  | .er _ _ _ => .no
  | .no => .no
end MP
set_option Elab.async false
set_option linter.all false
set_option maxRecDepth 100000
set_option maxHeartbeats 4000000
namespace MP
open PySem PySem.Spec PyProof.Rows L2
/-- the names of a lambda: captured ones, globals, and of its own none but what its maker has not -/
structure LamN (N : List Str) (sc scope : Scope) : Prop where
  kind : scope.kind = .function
  co : scope.isCoroutine = false
  gen : scope.isGenerator = false
  cell : ∀ y ∈ scope.names, y.2 ≠ .cell
  own : ∀ y ∈ scope.names, y.2 = .local → y.1 ∉ N
  free : ∀ y ∈ scope.names, y.2 = .free → sc.names.lookup y.1 = some .cell ∨ sc.names.lookup y.1 = some .free
def lamNB (N : List Str) (sc scope : Scope) : Bool :=
  decide (scope.kind = .function) && (!scope.isCoroutine && (!scope.isGenerator && scope.names.all fun y => match y.2 with
    | .cell => false
    | .local => !N.contains y.1
    | .free => decide (sc.names.lookup y.1 = some .cell) || decide (sc.names.lookup y.1 = some .free)
    | _ => true))
theorem lamN_by {N : List Str} {sc scope : Scope} (h : lamNB N sc scope = true) : LamN N sc scope := by
  unfold lamNB at h
  rw [Bool.and_eq_true, Bool.and_eq_true, Bool.and_eq_true, Bool.not_eq_true', Bool.not_eq_true', List.all_eq_true] at h
  obtain ⟨h1, h2, h3, h4⟩ := h
  refine ⟨of_decide_eq_true h1, h2, h3, fun y hy e => ?_, fun y hy e hm => ?_, fun y hy e => ?_⟩
  · have := h4 y hy; rw [e] at this; cases this
  · have := h4 y hy
    rw [e] at this
    have : N.contains y.1 = false := by simpa using this
    rw [List.contains_iff_mem.mpr hm] at this
    cases this
  · have := h4 y hy
    rw [e] at this
    dsimp only at this
    rw [Bool.or_eq_true, decide_eq_true_eq, decide_eq_true_eq] at this
    exact this
theorem LamN.has {N : List Str} {X : Cx} {scope : Scope} (L : LamN N X.env.scope scope) (ok : X.Ok) : ∀ y ∈ scope.names, y.2 = .free → ∃ c, X.env.cells.lookup y.1 = some c := fun y hy e => ok.has _ (L.free y hy e)
section
variable {X : Cx} {pins : List (Addr × Obj)} {σ : L2.St} {H HZ : Hp} {s s1 : Shared}
/-- a lambda's body begins -/
theorem lamN_start {A : Around} {outer : List PySem.Env} {E : XK} {scope : Scope} {f c' : Addr} {h₁ : Heap} {tk : Nat} {binds : List (Str × Value)} (I : Inv X pins σ H s) (L : LamN X.N X.env.scope scope) (e0 : Env0 X.prog X.w X.K X.mg X.base A outer s1 HZ) (hd : A.handled = none)
    (un : Un (frs X.stack) [] H HZ s.heap s1.heap) (hns : h₁.Ns s1.heap.objs.size fun y => binds.reverse.lookup y) (kp : ∀ b o, s1.heap.get? b = some o → h₁.get? b = some o) :
    Inv (LamX.lamCx X A outer s1 HZ E scope f c') [] σ HZ { s1 with heap := h₁, toks := tk } := by
  have here := L.has I.ok
  have inj : ∀ {y : Str} {c : Addr}, (cloFrom X.env.cells scope.names []).lookup y = some c → (y, NameKind.free) ∈ scope.names ∧ X.env.cells.lookup y = some c := fun {y c} e => by
    rcases cloFrom_mem (PySem.mem_of_lookup e) with hm | ⟨h1, h2⟩
    · cases hm
    · obtain ⟨c1, hc⟩ := here _ h1 rfl
      have hc : X.env.cells.lookup y = some c1 := hc
      rw [hc] at h2
      exact ⟨h1, by rw [hc]; exact congrArg some h2.symm⟩
  have found : ∀ {y : Str}, scope.names.lookup y = some .free → ∃ c, (cloFrom X.env.cells scope.names []).lookup y = some c := fun {y} hl => mem_lookup (cloFrom_has (cells := X.env.cells) (acc := []) (PySem.mem_of_lookup hl))
  have cellNow : ∀ {c : Addr} {v : Option Value}, H c = none → s.heap.IsCell c v → h₁.IsCell c v := fun {c v} n ⟨o, ho, hd⟩ => by
    obtain ⟨sl, q⟩ := un.any ho n (by simp)
    exact ⟨_, kp _ _ q, hd⟩
  have noX : ∀ b : Addr, b ∉ (LamX.lamCx X A outer s1 HZ E scope f c').ex := fun b z => absurd (show b ∈ ([] : List Addr) from z) (by simp)
  have okL : (LamX.lamCx X A outer s1 HZ E scope f c').Ok := {
    mod := e0.mod
    kind := L.kind
    glob := rfl
    blt := rfl
    above := Nat.le_refl _
    inj := fun x y c e1 e2 => I.ok.inj x y c (inj e1).2 (inj e2).2
    has := fun x hx => by
      rcases (show scope.names.lookup x = some .cell ∨ scope.names.lookup x = some .free from hx) with q | q
      · exact absurd rfl (L.cell _ (PySem.mem_of_lookup q))
      · exact found q
    cab := fun x c z _ => nomatch (show false = true from z)
    hd := fun _ => hd
    frames := Around.frames_deeper e0.frames
    stk := .inr ⟨rfl, rfl⟩
    exf := fun b z => absurd z (noX b)
    bs := e0.bs
    bsz := e0.bsz
    noex := fun b _ _ => noX b
    exfs := fun b z => absurd z (noX b)
    funs := e0.funs
    frf := e0.frf }
  refine { ok := okL, os := rfl, bare := e0.bare, base := Un.kept kp, loc := ⟨_, hns, fun i y v e1 e2 e3 => ?_⟩, cell := fun y c e => ?_, free := e0.hok.fresh (Nat.le_refl _), freeC := fun y c e => ?_, pin := fun q hq => absurd (show q ∈ ([] : List (Addr × Obj)) ++ [] from hq) (by simp), hok := e0.hok.kept kp, len := I.len }
  · have e1 : X.N[i]? = some y := e1
    rcases (show Vis scope y from e3) with k | k | k
    · exact absurd (List.mem_of_getElem? e1) (L.own _ (PySem.mem_of_lookup k) rfl)
    · exact absurd rfl (L.cell _ (PySem.mem_of_lookup k))
    · have hk := L.free _ (PySem.mem_of_lookup k) rfl
      obtain ⟨m, hn, hl⟩ := I.loc
      obtain ⟨w', r, q⟩ := hl i y v e1 e2 (hk.elim (fun z => .inr (.inl z)) fun z => .inr (.inr z))
      obtain ⟨c2, h2⟩ := found k
      refine ⟨w', r, .inr ⟨.inr k, c2, h2, ?_⟩⟩
      rcases q with ⟨z, _⟩ | ⟨_, c3, e', z⟩
      · have z : X.env.scope.names.lookup y = some .local := z
        rcases hk with q | q <;> rw [show X.env.scope.names.lookup y = _ from q] at z <;> cases z
      · have e4 := (inj h2).2
        rw [e4] at e'
        cases e'
        exact cellNow (I.freeC y _ e4) z
  · obtain ⟨w', z⟩ := I.cell y c (inj e).2
    exact ⟨w', cellNow (I.freeC y c (inj e).2) z⟩
  · obtain ⟨v, o, ho, hd⟩ := I.cell y c (inj e).2
    exact un.free c o ho (I.freeC y c (inj e).2) (by simp)
end
end MP
set_option Elab.async false
set_option linter.all false
set_option maxRecDepth 100000
set_option maxHeartbeats 4000000
namespace MP
open PySem PySem.Spec PyProof.Rows L2
def selW (ρ : Env) : List Dv := ρ.filterMap id
def selV : Env → L2.St → List V
  | some _ :: ρ, some v :: σ => v :: selV ρ σ
  | none :: ρ, _ :: σ => selV ρ σ
  | _, _ => []
section
variable {Γ : Ct} {H H0 : Hp} {μ μ0 : Mu} {Z Z0 : Zs}
theorem re_cons {x : Option Dv} {y : Option V} {ρ : Env} {σ : L2.St} : RE Γ H μ Z (x :: ρ) (y :: σ) ↔ (∀ w, x = some w → ∃ v, y = some v ∧ RV Γ H μ Z w v) ∧ RE Γ H μ Z ρ σ := by
  constructor
  · rintro ⟨h1, h2⟩
    refine ⟨fun w e => ?_, by simpa using h1, fun i w e => ?_⟩
    · obtain ⟨v, q1, q2⟩ := h2 0 w (by rw [e]; rfl)
      exact ⟨v, by simpa using q1, q2⟩
    · obtain ⟨v, q1, q2⟩ := h2 (i + 1) w (by simpa using e)
      exact ⟨v, by simpa using q1, q2⟩
  · rintro ⟨h1, h2, h3⟩
    refine ⟨by simpa using h2, fun i w e => ?_⟩
    cases i with
    | zero =>
      obtain ⟨v, q1, q2⟩ := h1 w (by simpa using e)
      exact ⟨v, by rw [q1]; rfl, q2⟩
    | succ i =>
      obtain ⟨v, q1, q2⟩ := h3 i w (by simpa using e)
      exact ⟨v, by simpa using q1, q2⟩
theorem sel_of : ∀ {ρ : Env} {σ : L2.St}, RE Γ H μ Z ρ σ → RVs Γ H μ Z (selW ρ) (selV ρ σ)
  | [], _, _ => rfl
  | x :: ρ, [], h => by cases h.1
  | none :: ρ, y :: σ, h => (sel_of (ρ := ρ) (σ := σ) (re_cons.mp h).2 : RVs Γ H μ Z (selW ρ) (selV ρ σ))
  | some w :: ρ, y :: σ, h => by
    obtain ⟨h1, h2⟩ := re_cons.mp h
    obtain ⟨v, q1, q2⟩ := h1 w rfl
    subst q1
    exact RVs.cons q2 (sel_of (ρ := ρ) (σ := σ) h2)
theorem of_sel : ∀ {ρ : Env} {σ : L2.St}, RE Γ H0 μ0 Z0 ρ σ → RVs Γ H μ Z (selW ρ) (selV ρ σ) → RE Γ H μ Z ρ σ
  | [], _, h, _ => ⟨h.1, fun i w e => by cases e⟩
  | x :: ρ, [], h, _ => by cases h.1
  | none :: ρ, y :: σ, h, r => re_cons.mpr ⟨fun w e => (nomatch e), of_sel (ρ := ρ) (σ := σ) (re_cons.mp h).2 r⟩
  | some w :: ρ, y :: σ, h, r => by
    obtain ⟨h1, h2⟩ := re_cons.mp h
    obtain ⟨v, q1, q2⟩ := h1 w rfl
    subst q1
    obtain ⟨x, xs, e, r1, r2⟩ := (show ∃ x xs, v :: selV ρ σ = x :: xs ∧ RV Γ H μ Z w x ∧ RVs Γ H μ Z (selW ρ) xs from r)
    cases e
    exact re_cons.mpr ⟨fun w' e => by cases e; exact ⟨v, rfl, r1⟩, of_sel (ρ := ρ) (σ := σ) h2 r2⟩
end
abbrev lamFd (q : Str) (params : Arguments) (body : Expr) (scope : Scope) (cl : List (Str × Addr)) (dV doc pm : Value) (c' : Addr) (ctv : Value) : FuncData := PySem.W.kdv_fn "<lambda>" q params (.expr body) scope cl dV doc pm (.ref c') ctv
abbrev lamObj (q : Str) (params : Arguments) (body : Expr) (scope : Scope) (cl : List (Str × Addr)) (dV doc pm : Value) (c' : Addr) (ctv : Value) : Obj := { cls := .type "function", data := .func (lamFd q params body scope cl dV doc pm c' ctv) }
/-- a lambda on its way, made ahead of the state s0 under the frames outer: what holds of it and what its call does -/
structure Thk (P : Program) (w : World) (Γ : Ct) (mg : Str → Option Value) (base : Heap) (kk : Nat) (outer : List PySem.Env) (s0 : Shared) (H0 : Hp) (f c' : Addr) (q : Str) (ws : List Dv) (vs : List V) (g : Sto → R Dv) : Prop where
  fn : ∀ (s1 : Shared) (HZ : Hp), Un (frs outer) [] H0 HZ s0.heap s1.heap → HOk P w HZ s1.heap → PySem.W.FnAt f s1.heap
  run : ∀ (A : Around) (outer1 : List PySem.Env) (s1 : Shared) (HZ : Hp) (Q : VK) (E : XK) (μ : Mu) (Z : Zs) (st : Sto), Room kk A → A.guards = some [] → Env0 P w Γ.K mg base A outer1 s1 HZ → Un (frs outer) [] H0 HZ s0.heap s1.heap →
    HZ c' = some (LamX.CodeO c' q) → RVs Γ HZ μ Z ws vs → Rep Γ HZ μ Z st → PostE Γ (fun c d _ H => E c d H) HZ μ Z [] Q (g st) → codeAny (model P w) A (.call (.ref f) ⟨[], []⟩) (CR (L2.CX P w) outer1 P w HZ s1 Q E) s1
theorem un_comp {fs : List Addr} {L : Addr} {H H1 H2 : Hp} {h h1 h2 : Heap} (u : Un fs [] H H1 h h1) (v : Un (L :: fs) [] H1 H2 h1 h2) (hL : h.objs.size ≤ L) : Un fs [] H H2 h h2 where
  keep := fun b o q n hb hx => v.keep b o (u.keep b o q n hb hx) (u.free b o q n hx) (fun z => (List.mem_cons.mp z).elim (fun e => Nat.lt_irrefl _ (Nat.lt_of_lt_of_le (Heap.lt_size q) (by rw [e]; exact hL))) hb) hx
  slot := fun b o q n hb hx => by
    obtain ⟨sl, e1⟩ := u.slot b o q n hb hx
    obtain ⟨sl2, e2⟩ := v.slot b _ e1 (u.free b o q n hx) (List.mem_cons_of_mem _ hb) hx
    exact ⟨sl2, e2⟩
  free := fun b o q n hx => by
    obtain ⟨o1, e1⟩ := u.there b o q hx
    exact v.free b o1 e1 (u.free b o q n hx) hx
  there := fun b o q hx => by
    obtain ⟨o1, e1⟩ := u.there b o q hx
    exact v.there b o1 e1 hx
  tups := fun b xs q => v.tups b xs (u.tups b xs q)
  frzs := fun b o xs q => v.frzs b o xs (u.frzs b o xs q)
  tbls := fun b ps q => by
    obtain ⟨m1, e1⟩ := u.tbls b ps q
    obtain ⟨m2, e2⟩ := v.tbls b _ e1
    exact ⟨m1 ++ m2, by rw [e2, Array.append_assoc]⟩
/-- one frame deeper -/
theorem Thk.deeper {P : Program} {w : World} {Γ : Ct} {mg : Str → Option Value} {base : Heap} {kk : Nat} {outer : List PySem.Env} {s0 s' : Shared} {H0 H' : Hp} {f c' : Addr} {q : Str} {ws : List Dv} {vs : List V} {g : Sto → R Dv} {env : PySem.Env} {L : Addr}
    (T : Thk P w Γ mg base kk outer s0 H0 f c' q ws vs g) (hf : env.frame = some L) (hL : s0.heap.objs.size ≤ L) (u : Un (frs outer) [] H0 H' s0.heap s'.heap) : Thk P w Γ mg base kk (env :: outer) s' H' f c' q ws vs g := by
  have e : frs (env :: outer) = L :: frs outer := by unfold frs; rw [List.filterMap_cons, hf]
  exact ⟨fun s1 HZ v ok => T.fn s1 HZ (un_comp u (e ▸ v) hL) ok, fun A outer1 s1 HZ Q E μ Z st h1 h2 h3 v => T.run A outer1 s1 HZ Q E μ Z st h1 h2 h3 (un_comp u (e ▸ v) hL)⟩
section
variable {X : Cx} {Γ : Ct} {pins : List (Addr × Obj)} {σ : L2.St} {H : Hp} {s : Shared} {μ : Mu} {Z : Zs} {ρ : Env} {k : Nat}
/-- a lambda that was made -/
theorem thk_of {scope : Scope} {params : Arguments} {body : Expr} {f c' : Addr} {dV doc pm ctv : Value} {tl : List (Addr × Obj)} {gb : FE} (I : Inv X pins σ H s) (hK : Γ.K = X.K) (L : LamN X.N X.env.scope scope)
    (hf : s.heap.get? f = some (lamObj (X.env.qual ++ "<lambda>") params body scope (cloFrom X.env.cells scope.names []) dV doc pm c' ctv)) (hfn : H f = none) (hfr : f ∉ frs X.stack) (htl : ∀ p ∈ tl, s.heap.get? p.1 = some p.2 ∧ H p.1 = none ∧ p.1 ∉ frs X.stack)
    (hbd : ∀ s1 : Shared, (∀ p ∈ tl, s1.heap.get? p.1 = some p.2) → ∃ binds, BindsTo s1 (lamFd (X.env.qual ++ "<lambda>") params body scope (cloFrom X.env.cells scope.names []) dV doc pm c' ctv) ⟨[], []⟩ binds ∧ ∀ y ∈ binds, scope.names.lookup y.1 = some .local)
    (hE : RE Γ H μ Z ρ σ)
    (hbody : ∀ (A : Around) (outer : List PySem.Env) (s : Shared) (H : Hp) (E : XK) (W : WX), Room k (A.deeper (LamX.lamEnv X scope s.heap.objs.size f c')) → (A.deeper (LamX.lamEnv X scope s.heap.objs.size f c')).guards = some [] → Takes (LamX.lamCx X A outer s H E scope f c') W → ME (LamX.lamCx X A outer s H E scope f c') Γ W body gb) :
    Thk X.prog X.w Γ X.mg X.base (k + 1) X.stack s H f c' (X.env.qual ++ "<lambda>") (selW ρ) (selV ρ σ) (gb ρ) := by
  have now : ∀ (s1 : Shared) (HZ : Hp), Un (frs X.stack) [] H HZ s.heap s1.heap → s1.heap.get? f = some (lamObj (X.env.qual ++ "<lambda>") params body scope (cloFrom X.env.cells scope.names []) dV doc pm c' ctv) := fun s1 HZ un => un.keep f _ hf hfn hfr (by simp)
  refine ⟨fun s1 HZ un _ => ⟨_, _, _, _, now s1 HZ un⟩, fun A outer1 s1 HZ Q E μ1 Z1 st room guards e0 un hc rws hR post => ?_⟩
  rw [hK] at e0
  obtain ⟨binds, hb, hl⟩ := hbd s1 fun p hp => un.keep p.1 _ (htl p hp).1 (htl p hp).2.1 (htl p hp).2.2 (by simp)
  obtain ⟨⟨oc, vs, t, hoc, hdc, hvc⟩, _, _⟩ := e0.hok c' _ hc
  refine PySem.W.kla_callFunE room.depth (now s1 HZ un) rfl L.co L.gen rfl ⟨c', oc, vs, t, rfl, hoc, hdc, hvc⟩ (hb _ _ _ _ ?_)
  refine wpAny_newFunctionEnv L.cell hl (fun h₁ hns hsb => ⟨(e0.mod.nolimit.keeps fun b o e => (e0.bs b o e).1).fresh _ hsb, ?_⟩) L.kind
  show codeAny _ _ (.expr body (LamX.lamEnv X scope s1.heap.objs.size f c')) _ _
  have kp : ∀ b o, s1.heap.get? b = some o → h₁.get? b = some o := fun b o e => hsb.extBut b o (Nat.ne_of_lt (Heap.lt_size e)) (Heap.get?_push_of_some _ e)
  have J := lamN_start (E := E) (f := f) (c' := c') (tk := s1.toks + binds.length) I L e0 room.hd un hns kp
  have tk : Takes (LamX.lamCx X A outer1 s1 HZ E scope f c') (fun cls d _ H' => E cls d H') := takes_of rfl rfl rfl rfl
  have post' : PostE Γ (fun c d _ H => E c d H) HZ μ1 Z1 σ Q (gb ρ st) := by
    revert post
    cases gb ρ st with
    | ok w s' => exact id
    | er x s' => exact id
    | no => exact id
  refine PySem.W.kla_codeExpr (wpAny_mono ((hbody A outer1 s1 HZ E _ (room.deeper _) (by show (A.deeper _).guards = _; rw [← guards]; rfl) tk).run [] _ σ HZ Q J ⟨μ1, Z1, ρ, st, of_sel hE rws, hR, post'⟩) (fun v s' hq => ?_) fun e s' hq => hq)
  obtain ⟨w', H', J', rv, q⟩ := hq
  exact ⟨w', H', J'.os, J'.bare, J'.base, J'.hok, rv, q⟩
end
end MP
set_option Elab.async false
set_option linter.all false
set_option maxRecDepth 100000
set_option maxHeartbeats 4000000
namespace MP
open PySem PySem.Spec PyProof.Rows L2
/-- the table behind the making -/
def Made (H H1 : Hp) (P : Addr) (ps : Array Value) (pos : Pos) (c' : Addr) (q : Str) : Prop :=
  (H1 = H ∧ codeAmong pos ps.toList = some (.ref c')) ∨ (H c' = none ∧ H1 = upd (upd H P (.tbl (ps ++ #[rawInt pos.line, rawInt pos.col, .ref c']))) c' (LamX.CodeO c' q))
section
variable {X : Cx} {pins : List (Addr × Obj)} {σ : L2.St} {H : Hp} {s : Shared}
theorem Inv.outFrs (I : Inv X pins σ H s) {f : Addr} (hf : s.heap.objs.size ≤ f) : f ∉ frs X.stack := fun z => by
  rcases List.mem_cons.mp (I.stkSub _ z) with e | e
  · exact absurd I.lt (by rw [← e]; exact Nat.not_lt.mpr hf)
  · exact I.nofs hf e
theorem lam_tail {c P : Addr} {ps : Array Value} {params : Arguments} {body : Expr} {scope : Scope} {pos : Pos} {dV : Value} {Q E : Value → Shared → Prop} (I : Inv X pins σ H s) (TB : LamX.TabB X.base X.mg c P) (hcode : X.env.code = .ref c)
    (hP : H P = some (.tbl ps)) (ht : TriplesOk ps.toList) (ha : ∀ (pos : Pos) (cv : Value), codeAmong pos ps.toList = some cv → ∃ c, cv = .ref c ∧ H c = some (LamX.CodeO c (X.env.qual ++ "<lambda>")))
    (hfree : ∀ y ∈ scope.names, y.2 = .free → ∃ c, X.env.cells.lookup y.1 = some c)
    (h : ∀ (f c' : Addr) (doc ctv : Value) (H1 : Hp) (s' : Shared), Inv X pins σ H1 s' → Made H H1 P ps pos c' (X.env.qual ++ "<lambda>") → (∀ b o, b ≠ P → s.heap.get? b = some o → s'.heap.get? b = some o) →
      s'.heap.get? f = some (lamObj (X.env.qual ++ "<lambda>") params body scope (cloFrom X.env.cells scope.names []) dV doc ((X.mg "__name__").getD .none) c' ctv) → H1 f = none → s.heap.objs.size ≤ f → H1 c' = some (LamX.CodeO c' (X.env.qual ++ "<lambda>")) → Q (.ref f) s') :
    wpAny (model X.prog X.w) X.A (makeTail "<lambda>" (X.env.qual ++ "<lambda>") params (.expr body) scope X.env dV .none none pos pos.line) Q E s := by
  have bP : s.heap.BuiltinsAt X.mg P := TB.bm.keeps I.bk
  have hP' : s.heap.get? P = some { cls := .none, data := .fields ps } := I.hok P _ hP
  cases hc : codeAmong pos ps.toList with
  | none =>
    refine PySem.W.kdv_makeTail (mg := X.mg) (c := c) (P := P) (ps := ps) (closure_ok hfree) I.ok.glob (I.mod.glob.keeps I.bk) hcode (TB.code.keeps I.bk) hP' ht hc TB.gP bP fun c' ctv doc h' tk hx hge hlt hrec htb => ?_
    obtain ⟨c2, oc, vs, t, e2, hoc, hd, hv⟩ := hrec
    cases e2
    have nC : H c' = none := I.hok.fresh hge
    have hsz : s.heap.objs.size ≤ h'.objs.size := Nat.le_trans hge (Nat.le_of_lt hlt)
    have I1 := LamX.inv_table (t' := tk) (more := #[rawInt pos.line, rawInt pos.col, .ref c']) (q := X.env.qual ++ "<lambda>") (h' := h'.push (lamObj (X.env.qual ++ "<lambda>") params body scope (cloFrom X.env.cells scope.names []) dV doc ((X.mg "__name__").getD .none) c' ctv)) I hP
      (fun b o hb e => Heap.get?_push_of_some _ (hx b o hb e)) (Heap.get?_push_of_some _ htb) hge ⟨oc, vs, t, Heap.get?_push_of_some _ hoc, hd, hv⟩
    refine h h'.objs.size c' doc ctv _ _ I1 (.inr ⟨nC, rfl⟩) (fun b o hb e => Heap.get?_push_of_some _ (hx b o hb e)) (Heap.get?_push_size _ rfl) ?_ hsz upd_same
    rw [upd_ne (Nat.ne_of_gt hlt), upd_ne (Nat.ne_of_gt (Nat.lt_of_lt_of_le (Heap.lt_size hP') hsz))]
    exact I.hok.fresh hsz
  | some cv =>
    obtain ⟨c', e, hco⟩ := ha pos cv hc
    subst e
    refine PySem.W.kdv_makeTailHit (mg := X.mg) (c := c) (P := P) (ps := ps) (closure_ok hfree) I.ok.glob (I.mod.glob.keeps I.bk) hcode (TB.code.keeps I.bk) hP' ht hc bP fun ctv doc h' tk hx hsz => ?_
    have I1 : Inv X pins σ H { s with heap := h'.push (lamObj (X.env.qual ++ "<lambda>") params body scope (cloFrom X.env.cells scope.names []) dV doc ((X.mg "__name__").getD .none) c' ctv), toks := tk } := I.kept fun b o e => Heap.get?_push_of_some _ (hx b o e)
    exact h h'.objs.size c' doc ctv H _ I1 (.inl ⟨rfl, hc⟩) (fun b o _ e => Heap.get?_push_of_some _ (hx b o e)) (Heap.get?_push_size _ rfl) (I.hok.fresh hsz) hsz hco
/-- the ways a lambda's parameters are filled up: none, or one with a whole number for its default -/
def LamP (params : Arguments) (scope : Scope) : Prop :=
  (∀ env : PySem.Env, defaultsOf params env = ([], [])) ∧ (∀ (q : Str) (b : Expr) (cl : List (Str × Addr)) (doc pm : Value) (c' : Addr) (ctv : Value), bindArgs (lamFd q params b scope cl .none doc pm c' ctv) ⟨[], []⟩ = pure []) ∨
  (∃ (a : Str) (i : Int) (j : Nat) (p : Pos), params.defaults = [.Constant (.int i) j p] ∧ params.kw_defaults = [] ∧ scope.names.lookup a = some .local ∧
    ∀ (q : Str) (b : Expr) (cl : List (Str × Addr)) (t : Addr) (doc pm : Value) (c' : Addr) (ctv : Value), ∃ k : Option (Array Value) → Sem (List (Str × Value)), bindArgs (lamFd q params b scope cl (.ref t) doc pm c' ctv) ⟨[], []⟩ = seqItems? (.ref t) >>= k ∧ ∀ v, k (some #[v]) = pure [(a, v)])
/-- the lambda is made; tl: what it holds of its defaults -/
theorem lam_made {c P : Addr} {ps : Array Value} {params : Arguments} {body : Expr} {scope : Scope} {pos : Pos} {Q E : Value → Shared → Prop} (hp : LamP params scope) (I : Inv X pins σ H s) (TB : LamX.TabB X.base X.mg c P) (hcode : X.env.code = .ref c)
    (hP : H P = some (.tbl ps)) (ht : TriplesOk ps.toList) (ha : ∀ (pos : Pos) (cv : Value), codeAmong pos ps.toList = some cv → ∃ c, cv = .ref c ∧ H c = some (LamX.CodeO c (X.env.qual ++ "<lambda>")))
    (hfree : ∀ y ∈ scope.names, y.2 = .free → ∃ c, X.env.cells.lookup y.1 = some c)
    (h : ∀ (f c' : Addr) (dV doc ctv : Value) (tl : List (Addr × Obj)) (H1 : Hp) (s' : Shared), Inv X pins σ H1 s' → Made H H1 P ps pos c' (X.env.qual ++ "<lambda>") →
      s'.heap.get? f = some (lamObj (X.env.qual ++ "<lambda>") params body scope (cloFrom X.env.cells scope.names []) dV doc ((X.mg "__name__").getD .none) c' ctv) → H1 f = none → s.heap.objs.size ≤ f → H1 c' = some (LamX.CodeO c' (X.env.qual ++ "<lambda>")) →
      (tl.length ≤ 1 ∧ ∀ p ∈ tl, s'.heap.get? p.1 = some p.2 ∧ H1 p.1 = none ∧ s.heap.objs.size ≤ p.1 ∧ (∀ v, p.2.data ≠ .cell v) ∧ p.2.cls = .type "tuple") →
      (∀ s1 : Shared, (∀ p ∈ tl, s1.heap.get? p.1 = some p.2) → ∃ binds, BindsTo s1 (lamFd (X.env.qual ++ "<lambda>") params body scope (cloFrom X.env.cells scope.names []) dV doc ((X.mg "__name__").getD .none) c' ctv) ⟨[], []⟩ binds ∧ ∀ y ∈ binds, scope.names.lookup y.1 = some .local) → Q (.ref f) s') :
    wpAny (model X.prog X.w) X.A (eval (.Lambda params body scope pos) X.env) Q E s := by
  rcases hp with ⟨hd, hb⟩ | ⟨a, i, j, p, hd, hk, hl, hb⟩
  · refine PySem.W.kla_eval (hd X.env) ?_
    rw [makeFunction_eq]
    simp only [List.zip_nil_right, List.filterMap_nil, List.isEmpty_nil, if_true, pure_bind]
    exact lam_tail I TB hcode hP ht ha hfree fun f c' doc ctv H1 s' I1 m _ h1 h2 h3 h4 => h f c' .none doc ctv [] H1 s' I1 m h1 h2 h3 h4 ⟨Nat.zero_le _, fun p hp => (nomatch hp)⟩ fun s1 _ => ⟨[], .of_eq (hb _ _ _ _ _ _ _), fun y hy => nomatch hy⟩
  · refine PySem.W.kdv_lam (by rw [hd]; rfl) hk ?_
    rw [hd]
    refine PySem.W.kdv_all1 (wpAny_Constant_int (PySem.W.kdv_all0 ?_))
    rw [makeFunction_eq]
    simp only [List.zip_nil_right, List.filterMap_nil, List.isEmpty_nil, List.isEmpty_cons, if_true, pure_bind, Bool.false_eq_true, if_false]
    refine wpAny_bind (wpAny_newTextTuple ?_)
    have I2 := I.tok (s.toks + 1)
    refine lam_tail (I2.kept (t' := s.toks + 1) fun b u e => Heap.get?_push_of_some _ e) TB hcode hP ht ha hfree fun f c' doc ctv H1 s' I1 m kp h1 h2 h3 h4 => ?_
    have hsz : s.heap.get? s.heap.objs.size = none := by
      cases e : s.heap.get? s.heap.objs.size with
      | none => rfl
      | some o => exact absurd (Heap.lt_size e) (Nat.lt_irrefl _)
    have hnP : s.heap.objs.size ≠ P := fun z => by
      have := I.hok P _ hP
      rw [← z] at this
      rw [show s.heap.get? _ = some _ from this] at hsz
      cases hsz
    have at1 := kp _ _ hnP (Heap.get?_push_size s.heap rfl)
    have hH : H s.heap.objs.size = none := I.hok.fresh (Nat.le_refl _)
    have hnc : s.heap.objs.size ≠ c' := fun z => by
      obtain ⟨⟨oc, vs, t, q1, q2, _⟩, _⟩ := I1.hok c' _ h4
      rw [← z, at1] at q1
      cases q1
      cases q2
    refine h f c' _ doc ctv [(s.heap.objs.size, PySem.W.kdv_tup [Value.int i s.toks])] H1 s' I1 m h1 h2 (Nat.le_trans (by rw [Heap.size_push]; exact Nat.le_succ _) h3) h4 ⟨Nat.le_refl _, fun p hp => ?_⟩ fun s1 hs => ?_
    · rw [List.mem_singleton] at hp
      subst hp
      refine ⟨at1, ?_, Nat.le_refl _, (fun v z => by cases z), rfl⟩
      rcases m with ⟨e, _⟩ | ⟨_, e⟩
      · rw [e]; exact hH
      · rw [e, upd_ne hnc, upd_ne hnP]; exact hH
    · obtain ⟨k, k1, k2⟩ := hb (X.env.qual ++ "<lambda>") body (cloFrom X.env.cells scope.names []) s.heap.objs.size doc ((X.mg "__name__").getD .none) c' ctv
      exact ⟨_, BindsTo.of_defaults rfl (hs _ (List.mem_singleton.mpr rfl)) rfl k1 (k2 _), fun y hy => by rw [List.mem_singleton] at hy; subst hy; exact hl⟩
end
/-- the store behind the making -/
theorem made_rep {Γ : Ct} {H H1 : Hp} {μ : Mu} {Z : Zs} {st : Sto} {nt n : Nat} {P c' : Addr} {ps : Array Value} {pos : Pos} {q : Str} (hR : Rep Γ H μ Z st) (hn : μ nt = some P) (he : st[nt]? = some (.tab n q)) (hP : H P = some (.tbl ps)) (m : Made H H1 P ps pos c' q) :
    Evo H μ H1 μ ∧ Rep Γ H1 μ Z st ∧ Fz μ Z c' := by
  obtain ⟨a, g1, g2, g3, ps0, g4, g5, g6⟩ := hR.at nt _ he
  rw [hn] at g1
  cases g1
  rw [hP] at g4
  cases g4
  rcases m with ⟨e, hc⟩ | ⟨nC, e⟩
  · subst e
    obtain ⟨c, e1, _, e3⟩ := g6 pos _ hc
    cases e1
    exact ⟨Evo.refl, hR, e3⟩
  · subst e
    have fzc := hR.fz nC
    have nPc : P ≠ c' := ne_of_none hP nC
    have ev : Evo H μ (upd (upd H P (.tbl (ps ++ #[rawInt pos.line, rawInt pos.col, .ref c']))) c' (LamX.CodeO c' q)) μ := {
      keep := fun a o h k => by rw [upd_ne (ne_of_none h nC), upd_ne fun z => k nt (by rw [z]; exact hn)]; exact h
      mu := fun _ _ h => h
      new := fun _ _ h => .inl h
      stay := fun m a h k => by
        by_cases h1 : a = c'
        · rw [h1, upd_same]; intro z; cases z
        · rw [upd_ne h1]
          by_cases h2 : a = P
          · rw [h2, upd_same]; intro z; cases z
          · rw [upd_ne h2]; exact k }
    refine ⟨ev, ⟨fun k o eo => ?_, hR.inj, hR.dom, fun a z => ev.alive (hR.za a z)⟩, fzc⟩
    obtain ⟨a, k1, k2, k3⟩ := hR.at k o eo
    refine ⟨a, k1, k2, ?_⟩
    have nac : a ≠ c' := fun z => hR.alive k1 (by rw [z]; exact nC)
    by_cases hk : a = P
    · subst hk
      have := hR.inj _ _ _ k1 hn
      subst this
      rw [he] at eo
      cases eo
      refine ⟨g3, _, by rw [upd_ne nPc, upd_same], ?_, fun p' cv hcv => ?_⟩
      · rw [Array.toList_append]
        exact PySem.TriplesOk_snoc _ _ _ _ g5
      · rw [Array.toList_append] at hcv
        rcases LamX.among_app _ g5 hcv with z | z
        · obtain ⟨c0, e1, e2, e3⟩ := g6 p' cv z
          exact ⟨c0, e1, ev.keep _ _ e2 e3.1, e3⟩
        · exact ⟨c', z, upd_same, fzc⟩
    · exact k3.mono' ev (by rw [upd_ne nac, upd_ne hk])
end MP
set_option Elab.async false
set_option linter.all false
set_option maxRecDepth 100000
set_option maxHeartbeats 4000000
namespace MP
open PySem PySem.Spec PyProof.Rows L2
/-- what a def promises that gets a lambda for its first argument -/
def spL (P : Program) (w : World) (Γ : Ct) (mg : Str → Option Value) (base : Heap) (kk : Nat) (ps : List Str) (den : (Sto → R Dv) → Fn) (outer : List PySem.Env) (s : Shared) (vs : List V) (H : Hp) (Q : VK) (E : XK) : Prop :=
  vs.length = ps.length ∧ ∃ f c q ws vs0 g μ Z st wa, Thk P w Γ mg base kk outer s H f c q ws vs0 g ∧ Rep Γ H μ Z st ∧ RVs Γ H μ Z (.clo f c q ws vs0 :: wa) vs ∧ PostE Γ (fun c d _ H => E c d H) H μ Z [] Q (den g wa st)
structure FnL (P : Program) (w : World) (mg : Str → Option Value) (base : Heap) (Γ : Ct) (k kk : Nat) (f : Addr) (fd : FuncData) (ps : List Str) (den : (Sto → R Dv) → Fn) : Prop where
  run : ∀ (A : Around) (outer : List PySem.Env) (s : Shared) (H : Hp) (args : Args) (us : List Value) (vs : List V) (Q : VK) (E : XK), Room k A → A.guards = some [] → Env0 P w Γ.K mg base A outer s H → BindsTo s fd args (ps.zip us) → Vals vs us → spL P w Γ mg base kk ps den outer s vs H Q E →
    codeAny (model P w) A (.call (.ref f) args) (CR (L2.CX P w) outer P w H s Q E) s
/-- a def that gets a lambda keeps what its body's reading says -/
theorem ok_fnL {P : Program} {w : World} {mg : Str → Option Value} {base : Heap} {Γ : Ct} {x qual : Str} {st : Stmt} {f : Addr} {fd : FuncData} {N ps : List Str} {k kk : Nat} {c : Dv → (Sto → R Dv) → FS} {den : (Sto → R Dv) → Fn} (F : Fun Γ.K x qual st f fd) (S : FnScope N ps (defScope st))
    (hbody : ∀ (cdv : Value) (A : Around) (outer : List PySem.Env) (s : Shared) (H : Hp) (E : XK) (W : WX) (f' c' : Addr) (q : Str) (ws : List Dv) (vs : List V) (g : Sto → R Dv), Thk P w Γ mg base kk outer s H f' c' q ws vs g → Room k (A.deeper (envF qual st s f cdv)) → (A.deeper (envF qual st s f cdv)).guards = some [] → Takes (cxF Γ P w mg base N qual st f cdv A outer s H E) W →
      MB (cxF Γ P w mg base N qual st f cdv A outer s H E) Γ W (defBody st) (c (.clo f' c' q ws vs) g))
    (hden : ∀ (cl : Dv) (g : Sto → R Dv) (wa : List Dv) (s : Sto), finC s.length (c cl g (startD N.length (cl :: wa)) s) = den g wa s) : FnL P w mg base Γ (k + 1) kk f fd ps den := by
  obtain ⟨oc, od, kV, doc, pm, an, cdv, ct, osl, rfl, lk, hcd⟩ := F.ex
  refine ⟨fun A outer s H args us vs Q E room guards e0 binds rel ⟨hlen, f', c', q, ws, vs0, g, μ, Z, st0, wa, T, hR, rws, post⟩ => ?_⟩
  have stays : ∀ b o, base.get? b = some o → s.heap.get? b = some o := fun b o e => (e0.bs b o e).1
  have inK : Γ.K.In s.heap := e0.mod.kin.keeps stays
  have kinds : ∀ y ∈ ps.zip us, (defScope st).names.lookup y.1 = some .local ∨ ((defScope st).names.lookup y.1 = some .cell ∧ ((cellsFrom (s.heap.objs.size + 1) (defScope st).names []).lookup y.1).isSome = true) := by
    rintro ⟨n, v⟩ hy
    exact (S.par n (List.of_mem_zip hy).1).imp id fun q => ⟨q, PySem.W.cellsFrom_some _ _ _ (.inl q)⟩
  refine codeAny_call_function room.depth (inK _ _ lk) rfl S.co S.gen rfl (PySem.W.codeRec_of inK hcd) (binds _ _ _ _ ?_)
  refine wpAny_newFunctionEnv_cells S.kind kinds fun env he s1 entered => ?_
  subst he
  refine ⟨(e0.mod.nolimit.keeps stays).keeps entered.toInCall.keep, codeAny_func ?_⟩
  have I := inv_start (CX := L2.CX P w) (E := E) (cd := cdv) S room.hd e0 hlen rel entered
  have tk : Takes (cxF Γ P w mg base N qual st f cdv A outer s H E) (fun cls d _ H' => E cls d H') := takes_of rfl rfl rfl rfl
  rw [← hden (.clo f' c' q ws vs0)] at post
  have run := (hbody cdv A outer s H E _ f' c' q ws vs0 g T (room.deeper _) (by show (A.deeper _).guards = _; rw [← guards]; rfl) tk).run [] s1 (L2.start N vs) H { nx := fun _ H' => Q .non H', rt := Q } I
    ⟨μ, Z, startD N.length (.clo f' c' q ws vs0 :: wa), st0, re_start rws, hR, body_end hR post⟩
  refine wpAny_mono run (fun fl s' hs => ?_) fun e s' hs => hs
  cases fl with
  | ret u =>
    obtain ⟨v, σ', H', J, rv, q⟩ := hs
    exact ⟨v, H', J.os, J.bare, J.base, J.hok, rv, q⟩
  | next =>
    obtain ⟨σ', H', J, q⟩ := hs
    exact ⟨V.non, H', J.os, J.bare, J.base, J.hok, rfl, q⟩
  | brk => exact hs.elim fun _ z => z.elim fun _ z => z.2.elim
  | cont => exact hs.elim fun _ z => z.elim fun _ z => z.2.elim
section
variable {X : Cx} {Γ : Ct} {W : WX} {k kk : Nat} {f : Addr} {fd : FuncData} {ps : List Str} {den : (Sto → R Dv) → Fn} {x a : Str} {i : Nat} {p p1 p2 pos lpos : Pos} {es : List Expr} {fa : FA}
open Classical in
/-- a(): the lambda that the name holds -/
noncomputable def mThk (i : Nat) (cl : Dv) (g : Sto → R Dv) : FE := fun ρ s => if ρ[i]? = some (some cl) then g s else .no
theorem me_thk {f' c' : Addr} {q : Str} {ws : List Dv} {vs : List V} {g : Sto → R Dv} (T : Thk X.prog X.w Γ X.mg X.base kk X.outer X.s_0 X.H_0 f' c' q ws vs g) (hK : Γ.K = X.K) (hex : X.ex = []) (hr : Room kk X.A) (hg : X.A.guards = some []) (tk : Takes X W)
    (hN : X.N[i]? = some a) (hv : Vis X.env.scope a) (hd : (a == ("__debug__" : Str)) = false := by decide) (hcd : (a == ("__classdict__" : Str)) = false := by decide) :
    ME X Γ W (.Call (.Name a p1) [] [] p2) (mThk i (.clo f' c' q ws vs) g) := by
  refine ⟨fun pins s σ H Q I ⟨μ, Z, ρ, st, hE, hR, post⟩ => ?_⟩
  unfold mThk at post
  split at post
  · rename_i hi
    obtain ⟨v, hs, ev, hc, _, rws⟩ := hE.2 i _ hi
    subst ev
    refine wpAny_Call_Name_kw (thn ((pe_var (pos := p1) (i := i) hN hv hd hcd).run pins s σ H (fun v H1 => v = .ref f' ∧ H1 = H) I ⟨.ref f', hs, rfl, rfl⟩) fun u s1 ⟨v, H1, I1, r1, q1⟩ => ?_)
    obtain ⟨ev, eH⟩ := q1
    subst ev
    rw [eH] at I1
    obtain rfl : u = Value.ref f' := r1
    have un : Un (frs X.outer) [] X.H_0 H X.s_0.heap s1.heap := by have := I1.base; rw [hex] at this; exact this
    refine PySem.W.callWith_F0 (T.fn s1 H un I1.hok) ?_
    refine wpAny_call (codeAny_mono (T.run X.A X.stack s1 H Q (WE W σ) μ Z st hr hg (by rw [hK]; exact I1.env0) un hc rws hR (post_call post)) fun r' s' hq => ?_)
    cases r' with
    | error e => exact passAt tk σ pins H s1 e s' I1 hq
    | ok fl =>
      cases fl with
      | ret u => exact I1.after hq
      | next => exact hq.elim
      | brk => exact hq.elim
      | cont => exact hq.elim
  · exact post.elim
/-- a def that gets a lambda is called -/
theorem run_L {pins : List (Addr × Obj)} {σ : L2.St} {H : Hp} {s : Shared} {Q : VK} {us : List Value} {vs : List V} (F : FnL X.prog X.w X.mg X.base Γ k kk f fd ps den) (hK : Γ.K = X.K) (hr : Room k X.A) (hg : X.A.guards = some []) (hb : Binds X.K fd ps []) (tk : Takes X W)
    (I : Inv X pins σ H s) (r : Vals vs us) (h : spL X.prog X.w Γ X.mg X.base kk ps den X.stack s vs H Q (WE W σ)) : wpAny (model X.prog X.w) X.A (call (.ref f) us) (EP X pins σ Q) X.xe s := by
  have hl : (us ++ []).length = ps.length := by rw [List.append_nil]; exact r.length.symm.trans h.1
  have hb' := hb s us I.kIn hl
  rw [List.append_nil] at hb'
  refine wpAny_call (codeAny_mono (F.run X.A X.stack s H ⟨us, []⟩ us vs Q (WE W σ) hr hg (by rw [hK]; exact I.env0) hb' r h) fun r' s' hq => ?_)
  cases r' with
  | error e => exact passAt tk σ pins H s e s' I hq
  | ok fl =>
    cases fl with
    | ret u => exact I.after hq
    | next => exact hq.elim
    | brk => exact hq.elim
    | cont => exact hq.elim
open Classical in
/-- x(a, ..): the lambda is handed on -/
noncomputable def mPass (cl : Dv) (g : Sto → R Dv) (den : (Sto → R Dv) → Fn) (fa : FA) : FE := fun ρ s => (fa ρ s).bind fun ws s1 => match ws with
  | w :: wa => if w = cl then den g wa s1 else .no
  | [] => .no
/-- x(lambda: .., ..) -/
def mLam (nt n : Nat) (q : Str) (gb : FE) (den : (Sto → R Dv) → Fn) (fa : FA) : FE := fun ρ s => match s[nt]? with
  | some (.tab m q') => if m = n ∧ q' = q then (fa ρ s).bind fun wa s1 => den (gb ρ) wa s1 else .no
  | _ => .no
theorem me_lam {c : Addr} {nt n : Nat} {params : Arguments} {body : Expr} {scope : Scope} {gb : FE} {kb : Nat} (F : FnL X.prog X.w X.mg X.base Γ k (kb + 1) f fd ps den) (hK : Γ.K = X.K)
    (hr : Room k X.A) (hg : X.A.guards = some []) (hgl : Gl X x) (hm : X.mg x = some (.ref f)) (hk : PySem.W.keepIn X.K (.ref f) = true) (hb : Binds X.K fd ps []) (tk : Takes X W)
    (TB : LamX.TabB X.base X.mg c (Γ.tb n)) (hcode : X.env.code = .ref c) (hp : LamP params scope) (L : LamN X.N X.env.scope scope)
    (hbody : ∀ (f c' : Addr) (A : Around) (outer : List PySem.Env) (s : Shared) (H : Hp) (E : XK) (W : WX), Room kb (A.deeper (LamX.lamEnv X scope s.heap.objs.size f c')) → (A.deeper (LamX.lamEnv X scope s.heap.objs.size f c')).guards = some [] → Takes (LamX.lamCx X A outer s H E scope f c') W → ME (LamX.lamCx X A outer s H E scope f c') Γ W body gb)
    (ha : MA X Γ W es fa) (j : Nat) (hl : FA.Len fa j) (hn : j + 1 = ps.length) (hdb : (x == ("__debug__" : Str)) = false := by decide)
    (he : starEach (.Lambda params body scope lpos :: es) X.env = (false, eval (.Lambda params body scope lpos) X.env) :: starEach es X.env := by rfl) (hpl : (backTo pos (starEach es X.env)).any (·.1) = false := by rfl) :
    ME X Γ W (.Call (.Name x p) (.Lambda params body scope lpos :: es) [] pos) (mLam nt n (X.env.qual ++ "<lambda>") gb den fa) := by
  refine ⟨fun pins s σ H Q I ⟨μ, Z, ρ, s0, hE, hR, post⟩ => ?_⟩
  refine wpAny_Call_Name_kw (ld_glob I hgl hm ?_ hdb)
  unfold mLam at post
  split at post
  · rename_i m q' et
    split at post
    · rename_i hmq
      obtain ⟨h1, h2⟩ := hmq
      subst h1 h2
      obtain ⟨a, g1, g2, g3, ps0, g4, g5, g6⟩ := hR.at nt _ et
      subst g3
      refine PySem.W.callWith_K (h₀ := X.base) I.ok.mod.kin hk ?_ he hpl
      show wpAny _ _ (spliced ((false, eval (.Lambda params body scope lpos) X.env) :: backTo pos (starEach es X.env))) _ _ s
      refine Calls.spliced_cons (lam_made hp I TB hcode g4 g5 (fun p' cv e => let ⟨c0, e1, e2, _⟩ := g6 p' cv e; ⟨c0, e1, e2⟩) (L.has I.ok) fun f' c' dV doc ctv tl H1 s1 I1 m1 o1 o2 o3 o4 o5 o6 => ?_)
      obtain ⟨ev, R1, fzc⟩ := made_rep hR g1 et g4 m1
      have E1 : RE Γ H1 μ Z ρ σ := hE.mono ev
      have q' : rdA Γ W fa σ H1 fun us H2 => ∃ μ2 st wa, us.length = j ∧ Rep Γ H2 μ2 Z st ∧ RVs Γ H2 μ2 Z wa us ∧ RE Γ H2 μ2 Z ρ σ ∧ H2 c' = some (LamX.CodeO c' (X.env.qual ++ "<lambda>")) ∧ Fz μ2 Z c' ∧ PostE Γ (fun c d _ H => WE W σ c d H) H2 μ2 Z [] Q (den (gb ρ) wa st) := by
        refine ⟨μ, Z, ρ, s0, E1, R1, ?_⟩
        cases e1 : fa ρ s0 with
        | ok wl st =>
          rw [e1] at post
          have post : PostE Γ W H μ Z σ Q (den (gb ρ) wl st) := post
          intro us H2 μ2 ev2 R2 r2
          exact ⟨μ2, st, wl, by rw [r2.len, hl _ _ _ _ e1], R2, r2, E1.mono ev2, ev2.keep _ _ o4 fzc.1, ev2.fz (by rw [o4]; intro z; cases z) fzc, post_call (PostE.evo (ev.trans ev2) post)⟩
        | er x1 s1 => rw [e1] at post; exact fun cls d H' μ' ev2 => post cls d H' μ' (ev.trans ev2)
        | no => rw [e1] at post; exact post
      have pinned : ∀ p ∈ (f', lamObj (X.env.qual ++ "<lambda>") params body scope (cloFrom X.env.cells scope.names []) dV doc ((X.mg "__name__").getD .none) c' ctv) :: tl, s1.heap.get? p.1 = some p.2 ∧ H1 p.1 = none ∧ s.heap.objs.size ≤ p.1 ∧ ∀ v, p.2.data ≠ .cell v := fun p hp => by
        rcases List.mem_cons.mp hp with e | e
        · subst e
          exact ⟨o1, o2, o3, fun v z => by cases z⟩
        · exact ⟨(o5.2 p e).1, (o5.2 p e).2.1, (o5.2 p e).2.2.1, (o5.2 p e).2.2.2.1⟩
      have I1' : Inv X (((f', lamObj (X.env.qual ++ "<lambda>") params body scope (cloFrom X.env.cells scope.names []) dV doc ((X.mg "__name__").getD .none) c' ctv) :: tl) ++ pins) σ H1 s1 := I1.pins_of fun p hp => by
        rcases List.mem_append.mp hp with e | e
        · obtain ⟨y1, y2, y3, y4⟩ := pinned p e
          exact ⟨y1, y2, fun z => absurd I.lt (by rw [← z]; exact Nat.not_lt.mpr y3), I.nofs y3, y4⟩
        · exact I1.pin p (List.mem_append_right _ e)
      refine thn (ha.run pos _ s1 σ H1 _ I1' q') fun us s2 ⟨vl, H2, I2', r, μ2, st, wa, z1, z2, z3, z4, z5, z6, z7⟩ => ?_
      have I2 : Inv X pins σ H2 s2 := I2'.pins_of fun p hp => I2'.pin p (List.mem_append_right _ (List.mem_append_right _ hp))
      have T : Thk X.prog X.w Γ X.mg X.base (kb + 1) X.stack s2 H2 f' c' (X.env.qual ++ "<lambda>") (selW ρ) (selV ρ σ) (gb ρ) := thk_of (tl := tl) I2 hK L (I2'.pin _ (List.mem_append_right _ (List.mem_append_left _ List.mem_cons_self))).1 (I2'.pin _ (List.mem_append_right _ (List.mem_append_left _ List.mem_cons_self))).2.1 (Inv.outFrs I o3)
        (fun p hp => ⟨(I2'.pin p (List.mem_append_right _ (List.mem_append_left _ (List.mem_cons_of_mem _ hp)))).1, (I2'.pin p (List.mem_append_right _ (List.mem_append_left _ (List.mem_cons_of_mem _ hp)))).2.1, Inv.outFrs I (o5.2 p hp).2.2.1⟩) o6 z4 (hbody f' c')
      refine ⟨I2.kIn, ?_⟩
      exact run_L F hK hr hg hb tk I2 (.cons (show L2.RelV (.ref f') (.ref f') from rfl) r) ⟨by rw [List.length_cons, z1, hn], f', c', _, _, _, _, μ2, Z, st, wa, T, z2, ⟨.ref f', vl, rfl, ⟨rfl, z5, z6, sel_of z4⟩, z3⟩, z7⟩
    · exact post.elim
  · exact post.elim
end
end MP
set_option Elab.async false
set_option linter.all false
set_option maxRecDepth 100000
set_option maxHeartbeats 4000000
namespace MP
open PySem PySem.Spec PyProof.Rows L2
end MP
set_option Elab.async false
set_option linter.all false
set_option maxRecDepth 100000
set_option maxHeartbeats 4000000
namespace MP
open PySem PySem.Spec PyProof.Rows L2
/-- what a call of x must know, x being one that gets a lambda -/
def CalL (P : Program) (w : World) (mg : Str → Option Value) (base : Heap) (Γ : Ct) (k kk : Nat) (x : Str) (ps : List Str) (den : (Sto → R Dv) → Fn) : Prop :=
  ∃ (f : Addr) (fd : FuncData), FnL P w mg base Γ k kk f fd ps den ∧ mg x = some (.ref f) ∧ PySem.W.keepIn Γ.K (.ref f) = true ∧ Binds Γ.K fd ps []
section
variable {X : Cx} {Γ : Ct} {W : WX} {k : Nat} {ps : List Str} {den : (Sto → R Dv) → Fn} {x : Str} {p pos lpos : Pos} {e : Expr} {es : List Expr} {fa : FA}
theorem me_lamC {c : Addr} {nt n : Nat} {params : Arguments} {body : Expr} {scope : Scope} {gb : FE} {kb : Nat} (C : CalL X.prog X.w X.mg X.base Γ k (kb + 1) x ps den) (hK : Γ.K = X.K)
    (hr : Room k X.A) (hg : X.A.guards = some []) (tk : Takes X W) (hgl : Gl X x) (TB : LamX.TabB X.base X.mg c (Γ.tb n)) (hcode : X.env.code = .ref c) (hp : LamP params scope) (L : LamN X.N X.env.scope scope)
    (hbody : ∀ (f c' : Addr) (A : Around) (outer : List PySem.Env) (s : Shared) (H : Hp) (E : XK) (W : WX), Room kb (A.deeper (LamX.lamEnv X scope s.heap.objs.size f c')) → (A.deeper (LamX.lamEnv X scope s.heap.objs.size f c')).guards = some [] → Takes (LamX.lamCx X A outer s H E scope f c') W → ME (LamX.lamCx X A outer s H E scope f c') Γ W body gb)
    (ha : MA X Γ W es fa) (j : Nat) (hl : FA.Len fa j) (hn : j + 1 = ps.length) (hdb : (x == ("__debug__" : Str)) = false := by decide)
    (he : starEach (.Lambda params body scope lpos :: es) X.env = (false, eval (.Lambda params body scope lpos) X.env) :: starEach es X.env := by rfl) (hpl : (backTo pos (starEach es X.env)).any (·.1) = false := by rfl) :
    ME X Γ W (.Call (.Name x p) (.Lambda params body scope lpos :: es) [] pos) (mLam nt n (X.env.qual ++ "<lambda>") gb den fa) := by
  obtain ⟨f, fd, F, hm, hk, hb⟩ := C
  exact me_lam F hK hr hg hgl hm (hK ▸ hk) (hK ▸ hb) tk TB hcode hp L hbody ha j hl hn hdb he hpl
end
/-- ok_fn, the def's code object being told -/
theorem ok_fnC {P : Program} {w : World} {mg : Str → Option Value} {base : Heap} {Γ : Ct} {x qual : Str} {st : Stmt} {f : Addr} {fd : FuncData} {N ps : List Str} {k : Nat} {c : FS} {c0 : Addr} (F : Fun Γ.K x qual st f fd) (hc : fd.code = .ref c0) (S : FnScope N ps (defScope st))
    (hbody : ∀ (A : Around) (outer : List PySem.Env) (s : Shared) (H : Hp) (E : XK) (W : WX), Room k (A.deeper (envF qual st s f (.ref c0))) → (A.deeper (envF qual st s f (.ref c0))).guards = some [] → Takes (cxF Γ P w mg base N qual st f (.ref c0) A outer s H E) W →
      MB (cxF Γ P w mg base N qual st f (.ref c0) A outer s H E) Γ W (defBody st) c) : FnG P w mg base Γ (k + 1) f fd ps (denOf N.length c) := by
  obtain ⟨oc, od, kV, doc, pm, an, cdv, ct, osl, e, lk, hcd⟩ := F.ex
  subst e
  have hc : cdv = .ref c0 := hc
  subst hc
  refine ⟨fun A outer s H args us vs Q E room guards e0 binds rel ⟨hlen, μ, Z, st0, ws, hR, rws, post⟩ => ?_⟩
  have stays : ∀ b o, base.get? b = some o → s.heap.get? b = some o := fun b o e => (e0.bs b o e).1
  have inK : Γ.K.In s.heap := e0.mod.kin.keeps stays
  have kinds : ∀ y ∈ ps.zip us, (defScope st).names.lookup y.1 = some .local ∨ ((defScope st).names.lookup y.1 = some .cell ∧ ((cellsFrom (s.heap.objs.size + 1) (defScope st).names []).lookup y.1).isSome = true) := by
    rintro ⟨n, v⟩ hy
    exact (S.par n (List.of_mem_zip hy).1).imp id fun q => ⟨q, PySem.W.cellsFrom_some _ _ _ (.inl q)⟩
  refine codeAny_call_function room.depth (inK _ _ lk) rfl S.co S.gen rfl (PySem.W.codeRec_of inK hcd) (binds _ _ _ _ ?_)
  refine wpAny_newFunctionEnv_cells S.kind kinds fun env he s1 entered => ?_
  subst he
  refine ⟨(e0.mod.nolimit.keeps stays).keeps entered.toInCall.keep, codeAny_func ?_⟩
  have I := inv_start (CX := L2.CX P w) (E := E) (cd := .ref c0) S room.hd e0 hlen rel entered
  have tk : Takes (cxF Γ P w mg base N qual st f (.ref c0) A outer s H E) (fun cls d _ H' => E cls d H') := takes_of rfl rfl rfl rfl
  have run := (hbody A outer s H E _ (room.deeper _) (by show (A.deeper _).guards = _; rw [← guards]; rfl) tk).run [] s1 (L2.start N vs) H { nx := fun _ H' => Q .non H', rt := Q } I
    ⟨μ, Z, startD N.length ws, st0, re_start rws, hR, body_end hR post⟩
  refine wpAny_mono run (fun fl s' hs => ?_) fun e s' hs => hs
  cases fl with
  | ret u =>
    obtain ⟨v, σ', H', J, rv, q⟩ := hs
    exact ⟨v, H', J.os, J.bare, J.base, J.hok, rv, q⟩
  | next =>
    obtain ⟨σ', H', J, q⟩ := hs
    exact ⟨V.non, H', J.os, J.bare, J.base, J.hok, rfl, q⟩
  | brk => exact hs.elim fun _ z => z.elim fun _ z => z.2.elim
  | cont => exact hs.elim fun _ z => z.elim fun _ z => z.2.elim
section
variable {K : PySem.W.Frag} {c j : Addr} {b : Bool}
theorem kitCls_of {t : Value} (h1 : PySem.W.isClsIn K j = true) (h2 : PySem.W.typeIn K (.ref j) = some (.type "type")) (h3 : PySem.W.subIn K t (.ref j) = some b) : PySem.W.kitCls K t (.ref j) = some b := by
  have e2 : ((PySem.W.clsIn K j).isSome && PySem.W.typeIn K (.ref j) == some (.type "type")) = true := by
    have h1' : (PySem.W.clsIn K j).isSome = true := h1
    rw [h1', h2] <;> rfl
  show (if ((PySem.W.clsIn K j).isSome && PySem.W.typeIn K (.ref j) == some (.type "type")) = true then PySem.W.subIn K t (.ref j) else none) = some b
  rw [if_pos e2]
  exact h3
theorem kitOne_of (h1 : PySem.W.isClsIn K j = true) (h2 : PySem.W.typeIn K (.ref j) = some (.type "type")) (hs : PySem.W.subIn K (.ref j) (.ref j) = some true) (h3 : PySem.W.subIn K (.ref c) (.ref j) = some b) : PySem.W.kitOne K (.ref c) (.ref j) = some b := by
  unfold PySem.W.kitOne
  split
  · rename_i h
    have : Value.ref c = Value.ref j := beq_iff_eq.mp h
    cases this
    rw [h3] at hs
    exact hs.symm
  · exact kitCls_of h1 h2 h3
theorem exmAny_of {c0 c8 : Addr} {b0 b8 : Bool} (a1 : PySem.W.isClsIn K c0 = true) (a2 : PySem.W.typeIn K (.ref c0) = some (.type "type")) (a3 : PySem.W.subIn K (.ref c0) (.type "BaseException") = some true) (b1 : PySem.W.isClsIn K c8 = true) (b2 : PySem.W.typeIn K (.ref c8) = some (.type "type")) (b3 : PySem.W.subIn K (.ref c8) (.type "BaseException") = some true)
    (h0 : PySem.W.subIn K (.ref c) (.ref c0) = some b0) (h8 : PySem.W.subIn K (.ref c) (.ref c8) = some b8) : PySem.W.exmAny K (.ref c) [.ref c0, .ref c8] = some (b0 || (b8 || false)) := by
  have e1 : PySem.W.exmOne K (.ref c) (.ref c0) = some b0 := by
    have e : (PySem.W.subIn K (.ref c0) (.type "BaseException") == some true) = true := by rw [a3]; rfl
    unfold PySem.W.exmOne
    rw [if_pos e]
    exact kitCls_of a1 a2 h0
  have e2 : PySem.W.exmOne K (.ref c) (.ref c8) = some b8 := by
    have e : (PySem.W.subIn K (.ref c8) (.type "BaseException") == some true) = true := by rw [b3]; rfl
    unfold PySem.W.exmOne
    rw [if_pos e]
    exact kitCls_of b1 b2 h8
  show (match PySem.W.exmOne K (.ref c) (.ref c0), PySem.W.exmAny K (.ref c) [.ref c8] with | some b, some d => some (b || d) | _, _ => none) = _
  have e3 : PySem.W.exmAny K (.ref c) [.ref c8] = some (b8 || false) := by
    show (match PySem.W.exmOne K (.ref c) (.ref c8), PySem.W.exmAny K (.ref c) [] with | some b, some d => some (b || d) | _, _ => none) = _
    rw [e2]
    rfl
  rw [e1, e3]
theorem tabIn_of {x : Str} {f T : Addr} {oc oc2 : Value} {od od2 : Option Addr} {sl sl2 : Array (Option Value)} {fd : FuncData} {vs : Array Value} (h1 : PySem.W.nsIn K mainGlobals x = some (some (.ref f))) (h2 : K.lookup f = some ⟨oc, od, .func fd, sl⟩) (h3 : fd.code = .ref c)
    (h4 : K.lookup c = some ⟨oc2, od2, .fields vs, sl2⟩) (h5 : vs[11]? = some (.ref T)) : PySem.W.tabIn K x = some (c, T) := by
  unfold PySem.W.tabIn
  rw [h1]
  dsimp only
  rw [h2]
  dsimp only
  rw [h3]
  dsimp only
  rw [h4]
  dsimp only
  rw [h5]
end
/-- what is known of a class of exceptions -/
structure ClsF (K : PySem.W.Frag) (C : Addr) : Prop where
  e : ExcC K C
  is : PySem.W.isClsIn K C = true
  ty : PySem.W.typeIn K (.ref C) = some (.type "type")
end MP
set_option Elab.async false
set_option linter.all false
set_option maxRecDepth 100000
set_option maxHeartbeats 4000000
namespace MP
open PySem PySem.Spec PyProof.Rows L2
/-- what raising a class wants -/
theorem xcr_of {P : Program} {w : World} {K : PySem.W.Frag} {mg : Str → Option Value} {base : Heap} {C fI : Addr} {x qual f : Str} {params : Arguments} {scope : Scope} {dV kV doc pm cdv ct oc : Value} {an od : Option Addr} {osl : Array (Option Value)} {p1 p2 p3 p4 : Pos}
    (ox : OexC K C) (no : PySem.W.findIn K (.ref C) f = some none) (gC : mg x = some (.ref C)) (iC : PySem.W.findIn K (.ref C) "__init__" = some (some (.ref fI))) (tI : PySem.W.typeIn K (.ref fI) = some (.type "function"))
    (lk : K.lookup fI = some ⟨oc, od, .func (PySem.W.fnOf "__init__" qual params [.Assign [.Attribute (.Name "self" p1) f p2] (.Name f p3) p4] scope dV kV doc pm an cdv ct), osl⟩) (hcd : PySem.W.codeIn K cdv qual = true) (S : FnScope ["self", f] ["self", f] scope)
    (v0 : Vis scope "self") (v1 : Vis scope f) (d1 : (f == ("__debug__" : Str)) = false) (d2 : (f == ("__classdict__" : Str)) = false)
    (hb : ∀ us : List Value, us.length = (["self", f] : List Str).length → bindArgs (PySem.W.fnOf "__init__" qual params [.Assign [.Attribute (.Name "self" p1) f p2] (.Name f p3) p4] scope dV kV doc pm an cdv ct) ⟨us, []⟩ = pure ((["self", f] : List Str).zip us)) : XcR P w K mg base C x f :=
  ⟨ox, no, gC, fI, _, iC, tI, init_fn lk hcd S ox no v0 v1 d1 d2, L2.Binds.all hb⟩
end MP
set_option Elab.async false
set_option linter.all false
set_option maxRecDepth 100000
set_option maxHeartbeats 4000000
namespace MP
open PySem PySem.Spec PyProof.Rows L2
section
variable {s s1 : Sto} {ρ : Env} {w v : Dv} {f g : FE} {fa : FA} {c su : FS} {ws : List Dv} {i n : Nat} {j : Int} {b : Bool} {y : Str} {ks : List Key}
@[simp] theorem isA_ii : isiA s [.int j, .ty "int"] = some (.bl true) := rfl
@[simp] theorem isA_ib : isiA s [.int j, .ty "bool"] = some (.bl false) := rfl
@[simp] theorem isA_it : isiA s [.int j, .ty "tuple"] = some (.bl false) := rfl
@[simp] theorem isA_bi : isiA s [.bl b, .ty "int"] = some (.bl true) := rfl
@[simp] theorem isA_bb : isiA s [.bl b, .ty "bool"] = some (.bl true) := rfl
@[simp] theorem isA_bt : isiA s [.bl b, .ty "tuple"] = some (.bl false) := rfl
@[simp] theorem isA_ni : isiA s [.non, .ty "int"] = some (.bl false) := rfl
@[simp] theorem isA_nt : isiA s [.non, .ty "tuple"] = some (.bl false) := rfl
@[simp] theorem isA_si : isiA s [.str y, .ty "int"] = some (.bl false) := rfl
@[simp] theorem isA_st : isiA s [.str y, .ty "tuple"] = some (.bl false) := rfl
@[simp] theorem isA_tt : isiA s [.tup ws, .ty "tuple"] = some (.bl true) := rfl
@[simp] theorem isA_ti : isiA s [.tup ws, .ty "int"] = some (.bl false) := rfl
@[simp] theorem isA_lt : isiA s [.lst ws, .ty "tuple"] = some (.bl false) := rfl
@[simp] theorem isA_li : isiA s [.lst ws, .ty "int"] = some (.bl false) := rfl
@[simp] theorem raise_ev {k : Nat} : mRaise k y f ρ s = (f ρ s).thenC ρ fun w s1 => .er ⟨k, y, w⟩ ρ s1 := rfl
@[simp] theorem finC_er {x : Ex} : finC s.length (.er x ρ s) = .er x s := by
  show finX s.length x s = _
  unfold finX
  rw [if_pos (Nat.le_refl _)]
@[simp] theorem thk_ev {cl : Dv} {t : Sto → R Dv} : mThk 0 cl t (some cl :: ρ) s = t s := by unfold mThk; exact if_pos rfl
@[simp] theorem pass_ev {cl : Dv} {t : Sto → R Dv} {den : (Sto → R Dv) → Fn} : mPass cl t den (mCons (mVar 0) fa) (some cl :: ρ) s = (fa (some cl :: ρ) s).bind fun wa s1 => den t wa s1 := by
  unfold mPass mCons
  rw [var_0, bind_ok]
  cases fa (some cl :: ρ) s with
  | ok wa s1 => exact if_pos rfl
  | er _ _ => rfl
  | no => rfl
theorem lam_ev {nt m : Nat} {q : Str} {gb : FE} {den : (Sto → R Dv) → Fn} (h : s[nt]? = some (.tab m q)) : mLam nt m q gb den fa ρ s = (fa ρ s).bind fun wa s1 => den (gb ρ) wa s1 := by
  unfold mLam
  rw [h]
  exact if_pos ⟨rfl, rfl⟩
end
end MP
set_option Elab.async false
set_option linter.all false
set_option maxRecDepth 100000
set_option maxHeartbeats 4000000
namespace MP
open PySem PySem.Spec PyProof.Rows L2
mutual
def toX : Dv → Option PyData
  | .non => some .none | .bl b => some (.bool b) | .int i => some (.int i) | .str x => some (.str x)
  | .tup ws => (toXs ws).map .tuple
  | .dct ks ws => match ks, ws with
    | [], [] => some (.dict [])
    | _, _ => none
  | _ => none
def toXs : List Dv → Option (List PyData)
  | [] => some []
  | w :: ws => match toX w, toXs ws with
    | some d, some ds => some (d :: ds)
    | _, _ => none
end
end MP
set_option Elab.async false
set_option linter.all false
set_option maxRecDepth 100000
set_option maxHeartbeats 4000000
namespace MP
open PySem PySem.Spec PyProof.Rows L2
/-- a table: where the code object of its def stands, where the table, the lambdas' name -/
structure Tb where
  c : Addr
  T : Addr
  q : Str
def tabsOf : Nat → List Tb → Sto
  | _, [] => []
  | i, t :: r => .tab i t.q :: tabsOf (i + 1) r
theorem tabsOf_len : ∀ (i : Nat) (r : List Tb), (tabsOf i r).length = r.length
  | _, [] => rfl
  | i, t :: r => by simp [tabsOf, tabsOf_len (i + 1) r]
theorem tabsOf_get : ∀ {i n : Nat} {r : List Tb} {o : Ob}, (tabsOf i r)[n]? = some o → ∃ t, r[n]? = some t ∧ o = .tab (i + n) t.q
  | i, n, [], o, h => by simp [tabsOf] at h
  | i, 0, t :: r, o, h => by
    simp [tabsOf] at h
    exact ⟨t, rfl, h.symm⟩
  | i, n + 1, t :: r, o, h => by
    have h' : (tabsOf (i + 1) r)[n]? = some o := by simpa [tabsOf] using h
    obtain ⟨t', h1, h2⟩ := tabsOf_get h'
    exact ⟨t', by simpa using h1, by rw [h2]; congr 1; omega⟩
def Ts (tabs : List Tb) : List Addr := tabs.map (·.T)
section
variable {P : Program} {w : World} {Γ : Ct} {mg mb : Str → Option Value} {k : Nat} {fa a : Addr} {fd : FuncData} {x : Str} {den : Fn} {s₁ : Shared} {vs : List Value} {ns : List Int} {tabs : List Tb}
theorem law_GTs (KX : Γ.K.In s₁.heap) (hns : s₁.heap.Ns mainGlobals mg) (hb : s₁.heap.Ns builtinsNs mb) (hbb : ∀ x : Str, x ≠ "__name__" → mb x = bootBuiltins x) (hlim : s₁.heap.NoLimit) (hg : s₁.gens = #[])
    (hT : ∀ t ∈ tabs, s₁.heap.get? t.T = some { cls := .none, data := .fields #[] } ∧ Γ.K.lookup t.T = none ∧ PySem.W.CodeHd s₁.heap t.c t.T) (hΓ : ∀ (i : Nat) (t : Tb), tabs[i]? = some t → Γ.tb i = t.T) (nd : (Ts tabs).Nodup)
    (hbm : ∃ (bm : Addr) (ob : Obj), mg "__builtins__" = some (.ref bm) ∧ bm ≠ builtinsNs ∧ s₁.heap.get? bm = some ob ∧ ob.cls = .type "module" ∧ ob.dict = some builtinsNs ∧ ob.data = .plain)
    (ha : s₁.heap.get? a = some { cls := .type "list", data := .seq vs.toArray }) (hi : IntsAre vs ns) (hl : ns.length ≤ sizeLine) (hr : Room k callerA)
    (F : ∀ base : Heap, Γ.K.In base → base.Ns mainGlobals mg → (∀ t ∈ tabs, LamX.TabB base mg t.c t.T) → FnG P w mg base Γ k fa fd [x] den) (hbind : ∀ (s : Shared) (u : Value), BindsTo s fd ⟨[u], []⟩ [(x, u)])
    (hden : ∃ s', den [.sq (ns.map .int)] (tabsOf 0 tabs) = .ok (.bl true) s') :
    codeAny (model P w) callerA (.call (.ref fa) ⟨[.ref a], []⟩) (fun r s' => r = .ok (.ret (.bool true)) ∧ OldK s₁.heap s'.heap ∧ s'.os = s₁.os ∧ AllBare s'.gens) s₁ := by
  have rv : Vals (ns.map V.int) vs := vals_ints hi
  have rl := hi.length
  let ob : Obj := { cls := .type "list", data := .seq vs.toArray }
  let tr : HO := .frz ob (.lst (ns.map V.int))
  let H : Hp := fun b => if b = a ∧ Γ.K.lookup a = none then some tr else if b ∈ Ts tabs then some (.tbl #[]) else none
  have inT : ∀ {b : Addr}, b ∈ Ts tabs → ∃ t ∈ tabs, t.T = b := fun h => List.mem_map.mp h
  have atT : ∀ {b : Addr}, b ∈ Ts tabs → s₁.heap.get? b = some { cls := .none, data := .fields #[] } := fun h => by
    obtain ⟨t, h1, rfl⟩ := inT h
    exact (hT t h1).1
  have nT : ∀ {b : Addr}, b ∈ Ts tabs → Γ.K.lookup b = none := fun h => by
    obtain ⟨t, h1, rfl⟩ := inT h
    exact (hT t h1).2.1
  have naT : ∀ {b : Addr}, b ∈ Ts tabs → a ≠ b := fun h z => by rw [z, atT h] at ha; cases ha
  have HT : ∀ {b : Addr}, b ∈ Ts tabs → H b = some (.tbl #[]) := fun {b} h => by
    show (if b = a ∧ Γ.K.lookup a = none then some tr else if b ∈ Ts tabs then some (HO.tbl #[]) else none) = _
    rw [if_neg (fun z => naT h z.1.symm), if_pos h]
  have Hin : ∀ b o, H b = some o → ((b = a ∧ Γ.K.lookup a = none) ∧ o = tr) ∨ (b ∈ Ts tabs ∧ o = .tbl #[]) := fun b o e => by
    have e' : (if b = a ∧ Γ.K.lookup a = none then some tr else if b ∈ Ts tabs then some (HO.tbl #[]) else none) = some o := e
    split at e'
    · exact .inl ⟨by assumption, (Option.some.inj e').symm⟩
    · split at e'
      · exact .inr ⟨by assumption, (Option.some.inj e').symm⟩
      · cases e'
  have free : ∀ b, ¬ (b = a ∧ Γ.K.lookup a = none) → b ∉ Ts tabs → H b = none := fun b c d => (if_neg c).trans (if_neg d)
  have hok : HOk P w H s₁.heap := fun b o e => by
    rcases Hin b o e with ⟨⟨rfl, _⟩, rfl⟩ | ⟨h, rfl⟩
    · exact ⟨ha, by rw [List.length_map]; exact hl, vs, _, rv, ha⟩
    · exact atT h
  let base := hidT s₁.heap H
  have keeps : ∀ {b : Addr} {o : Obj}, s₁.heap.get? b = some o → (∀ (u : Array Value) (n : Nat), o.data ≠ .seq u n) → o.cls ≠ .none → base.get? b = some o := fun {b o} e h1 h2 => hidT_get e (free b (fun z => by
    rw [z.1, ha] at e
    cases e
    exact h1 _ _ rfl) fun z => by
    rw [atT z] at e
    cases e
    exact h2 rfl)
  have dictIn : ∀ {b : Addr} {m : Str → Option Value}, s₁.heap.Ns b m → base.Ns b m := fun {b m} ⟨o, es, ep, e, d, r⟩ => by
    refine ⟨o, es, ep, hidT_get e (free b (fun z => ?_) fun z => ?_), d, r⟩
    · rw [z.1, ha] at e
      cases e
      cases d
    · rw [atT z] at e
      cases e
      cases d
  have kIn : Γ.K.In base := fun b o e => hidT_get (KX b o e) (free b (fun z => by
    rw [z.1, z.2] at e
    cases e) fun z => by
    rw [nT z] at e
    cases e)
  have gM : base.Ns mainGlobals mg := dictIn hns
  have md : Mod Γ.K mg base := ⟨kIn, gM, ⟨mb, dictIn hb, hbb⟩, let ⟨mc, h1, h2⟩ := hlim; ⟨mc, dictIn h1, h2⟩⟩
  have gT : ∀ {b : Addr}, b ∈ Ts tabs → mainGlobals ≠ b := fun h z => by
    obtain ⟨o, es, ep, e, d, _⟩ := hns
    rw [z, atT h] at e
    cases e
    cases d
  have TB : ∀ t ∈ tabs, LamX.TabB base mg t.c t.T := fun t ht => by
    have htT : t.T ∈ Ts tabs := List.mem_map.mpr ⟨t, ht, rfl⟩
    refine ⟨?_, ?_, gT htT⟩
    · obtain ⟨o, us, file, tf, flags, tg, inF, text, tt, e1, r1, r2, r⟩ := (hT t ht).2.2
      exact ⟨o, us, file, tf, flags, tg, inF, text, tt, keeps e1 (fun u n z => by rw [r2] at z; cases z) (fun z => by rw [r1] at z; cases z), r1, r2, r⟩
    · obtain ⟨bm, o, b1, b2, b3, b4, b5, b6⟩ := hbm
      refine ⟨bm, o, b1, b2, fun z => ?_, fun z => ?_, keeps b3 (fun u n z => by rw [b6] at z; cases z) (fun z => by rw [b4] at z; cases z), b4, b5, b6⟩
      · obtain ⟨o2, es, ep, e, d, _⟩ := hns
        rw [z, e] at b3
        cases b3
        rw [b6] at d
        cases d
      · rw [z, atT htT] at b3
        cases b3
        cases b6
  have e0 : Env0 P w Γ.K mg base callerA [] s₁ H :=
    { frames := rfl, mod := md, bs := fun b o e => of_hidT e, bsz := Nat.le_of_eq (hidT_size _ _), funs := trivial, frf := fun b hb => (nomatch hb), hok := hok, bare := .of_eq hg }
  obtain ⟨s', hd⟩ := hden
  let μ : Mu := fun n => (Ts tabs)[n]?
  have μin : ∀ {n : Nat} {b : Addr}, μ n = some b → b ∈ Ts tabs := fun {n b} z => List.mem_of_getElem? z
  have rs : RV Γ H μ (fun _ => False) (.sq (ns.map .int)) (.ref a) := by
    refine ⟨a, _, rfl, ?_, RVs.of_ints ns⟩
    cases hk : Γ.K.lookup a with
    | none => exact .inl ⟨.inr ⟨ob, if_pos ⟨rfl, hk⟩⟩, ⟨fun n z => naT (μin z) rfl, id⟩⟩
    | some o =>
      have e := KX a o hk
      rw [ha] at e
      cases e
      exact .inr ⟨_, vs.toArray, _, hk, rfl, rfl, rfl, by rw [List.size_toArray, rl]; exact hl, by simpa using rv⟩
  have rep : Rep Γ H μ (fun _ => False) (tabsOf 0 tabs) := ⟨fun n o e => by
    obtain ⟨t, h1, rfl⟩ := tabsOf_get e
    have h2 : t.T ∈ Ts tabs := List.mem_map.mpr ⟨t, List.mem_of_getElem? h1, rfl⟩
    refine ⟨t.T, ?_, id, ?_, #[], HT h2, trivial, fun pos cv z => by simp [codeAmong] at z⟩
    · show (Ts tabs)[n]? = some t.T
      unfold Ts
      rw [List.getElem?_map, h1]
      rfl
    · rw [Nat.zero_add]
      exact (hΓ n t h1).symm, fun n m b e1 e2 => by
      have h1 := (List.getElem?_eq_some_iff.mp e1)
      have h2 := (List.getElem?_eq_some_iff.mp e2)
      obtain ⟨l1, g1⟩ := h1
      obtain ⟨l2, g2⟩ := h2
      exact (List.getElem_inj nd).mp (g1.trans g2.symm), fun n b e => by
      obtain ⟨l1, _⟩ := List.getElem?_eq_some_iff.mp e
      rw [tabsOf_len]
      unfold Ts at l1
      rw [List.length_map] at l1
      exact l1, fun b z => z.elim⟩
  refine codeAny_mono ((F base kIn gM TB).run callerA [] s₁ H ⟨[.ref a], []⟩ [.ref a] [.ref a] (fun v _ => v = .bl true) (fun _ _ _ => False) hr rfl e0 (hbind s₁ (.ref a)) (.cons rfl .nil)
    ⟨rfl, μ, _, _, [.sq (ns.map .int)], rep, RVs.cons rs rfl, by rw [hd]; exact fun v H' μ' _ _ r => r⟩) fun r s2 h => ?_
  cases r with
  | error e =>
    obtain ⟨_, _, _, _, _, _, _, _, _, _, _, _, z⟩ := h
    exact z.elim
  | ok fl =>
    cases fl with
    | next => exact h.elim
    | brk => exact h.elim
    | cont => exact h.elim
    | ret u =>
      obtain ⟨v, H', os, bare, un, hok', rv', q'⟩ := h
      obtain rfl : v = .bl true := q'
      obtain rfl : u = Value.bool true := rv'
      have key : ∀ b o, b ∉ Ts tabs → s₁.heap.get? b = some o → s2.heap.get? b = some o := fun b o nb e => by
        cases qb : H b with
        | none => exact un.keep b o e qb (fun z => nomatch z) (fun z => nomatch z)
        | some u =>
          rcases Hin b u qb with ⟨⟨rfl, _⟩, rfl⟩ | ⟨z, _⟩
          · obtain ⟨e2, _⟩ := hok' b _ (un.frzs b ob _ qb)
            rw [ha] at e
            cases e
            exact e2
          · exact absurd z nb
      have grown : ∀ b, b ∈ Ts tabs → ∃ more, s2.heap.get? b = some { cls := .none, data := .fields (#[] ++ more) } := fun b h => by
        obtain ⟨more, z⟩ := un.tbls b #[] (HT h)
        exact ⟨more, hok' b _ z⟩
      refine ⟨rfl, ⟨fun b o e => ?_, fun b o e => ?_⟩, os, bare⟩
      · by_cases h : b ∈ Ts tabs
        · obtain ⟨t, ht, rfl⟩ := inT h
          obtain ⟨more, g⟩ := grown _ h
          rw [atT h] at e
          cases e
          exact .inr (.inl ⟨((hT t ht).2.2.tab (hT t ht).1).isCodeTable, rfl, #[], more, rfl, g⟩)
        · exact .inl (key b o h e)
      · by_cases h : b ∈ Ts tabs
        · obtain ⟨more, g⟩ := grown _ h
          exact ⟨_, g⟩
        · exact ⟨o, key b o h e⟩
/-- what the head leaves to be shown; ys: the defs that make lambdas -/
theorem walk_GTs {l : PySem.W.OpenLaw} {n k : Nat} {q : Program} {loose : List Str} {XP : (Str → Option Value) → Heap → Prop} {YP : World → Heap → Prop} {d : DefRec} {Kf : Params → PySem.W.Frag} {x : Str} {ys qs : List Str} (hn : l.most = some n) (hn2 : n ≤ sizeLine) (hdf : d.params.defaults = []) (hr : Room k callerA)
    (hY : ∀ (w : World) (h : Heap), YP w h → (Kf w.params).In h) (hy : ∀ y ∈ ys, ∃ dy, (recsOf q).find? (fun e => e.name == y) = some dy)
    (F : ∀ (w : World) (mg : Str → Option Value) (fa : Addr) (h : Heap), (Kf w.params).In h → h.Ns mainGlobals mg → mg d.name = some (.ref fa) →
      ∃ (Γ : Ct) (fd : FuncData) (den : Fn) (tabs : List Tb), Γ.K = Kf w.params ∧ (∀ (i : Nat) (t : Tb), tabs[i]? = some t → Γ.tb i = t.T) ∧ (Ts tabs).Nodup ∧ (∀ t ∈ tabs, ∃ y ∈ ys, PySem.W.tabIn Γ.K y = some (t.c, t.T) ∧ Γ.K.lookup t.T = none) ∧ tabs.map (·.q) = qs ∧ (∀ (s : Shared) (u : Value), BindsTo s fd ⟨[u], []⟩ [(x, u)]) ∧
        (∀ base : Heap, Γ.K.In base → base.Ns mainGlobals mg → (∀ t ∈ tabs, LamX.TabB base mg t.c t.T) → FnG l.prog w mg base Γ k fa fd [x] den) ∧
        ∀ ns : List Int, ns.length ≤ n → ∃ s', den [.sq (ns.map .int)] (tabsOf 0 (qs.map fun q => ⟨0, 0, q⟩)) = .ok (.bl true) s') :
    PySem.W.WalkO q loose XP YP l.row.toRowW d [] (fun f vs => PySem.call f vs) := by
  refine Att.attach_call hn hdf fun w s₀ s₁ mg mb fa o pm cd doc a vs ns G Y ho hd hcd hmg hobj hints hlen hg => ?_
  have KX := hY w _ Y
  obtain ⟨Γ, fd, den, tabs, hK, hΓ, nd, ht, hq, hb, hF, hden⟩ := F w mg fa _ KX G.T.g hmg
  have et : ∀ (i : Nat) (r : List Tb), tabsOf i ((r.map (·.q)).map fun q => ⟨0, 0, q⟩) = tabsOf i r := fun i r => by
    induction r generalizing i with
    | nil => rfl
    | cons t r ih => simp only [List.map_cons, tabsOf, ih]
  refine law_GTs (hK ▸ KX) G.T.g G.T.b G.T.builtins G.T.nolimit hg (fun t h => ?_) hΓ nd G.T.bmain hobj hints (Nat.le_trans hlen hn2) hr hF hb (by
    obtain ⟨s', e⟩ := hden ns hlen
    rw [← hq, et] at e
    exact ⟨s', e⟩)
  obtain ⟨y, hy1, h1, h2⟩ := ht t h
  obtain ⟨dy, hy2⟩ := hy y hy1
  obtain ⟨hC, hT⟩ := PySem.W.tab_of G.T (hK ▸ KX) hy2 h1
  exact ⟨hT, h2, hC⟩
end
end MP
set_option Elab.async false
set_option linter.all false
set_option maxRecDepth 100000
set_option maxHeartbeats 4000000
namespace MP
open PySem PySem.Spec PyProof.Rows L2
end MP
set_option Elab.async false
set_option linter.all false
set_option maxRecDepth 100000
set_option maxHeartbeats 400000
namespace MP
open PySem PySem.Spec PyProof.Rows L2
structure PlX (n k : Nat) (w : Dv) (d : PyData) : Prop where
  to : toX w = some d
  shw : d.showable = true
  deep : d.depth ≤ k
  len : d.shown.length + 2 ≤ 2000 * n
structure PlsX (n k : Nat) (ws : List Dv) (ds : List PyData) : Prop where
  to : toXs ws = some ds
  shw : PyData.showableAll ds = true
  deep : PyData.depthAll ds ≤ k
  len : piled (PyData.shownAll ds) ≤ 2000 * n
variable {n m k j : Nat} {w : Dv} {d : PyData} {ws us : List Dv} {ds es : List PyData} {i : Int} {ns : List Int} {s : Sto}
theorem PlX.mono (h : PlX n k w d) (hn : n ≤ m) (hk : k ≤ j) : PlX m j w d := ⟨h.to, h.shw, Nat.le_trans h.deep hk, Nat.le_trans h.len (Nat.mul_le_mul_left _ hn)⟩
theorem PlsX.mono (h : PlsX n k ws ds) (hn : n ≤ m) (hk : k ≤ j) : PlsX m j ws ds := ⟨h.to, h.shw, Nat.le_trans h.deep hk, Nat.le_trans h.len (Nat.mul_le_mul_left _ hn)⟩
end MP
set_option Elab.async false
set_option linter.all false
set_option maxRecDepth 100000
set_option maxHeartbeats 400000
namespace MP
open PySem PySem.Spec PyProof.Rows L2
section
variable {s s1 s2 s3 : Sto} {ρ : Env} {f g : FE} {fa : FA} {lo hi : FO} {x w y : Dv} {ws us : List Dv} {a b : Option Int} {i j : Int} {k : Nat} {t : FT} {bb : Bool}
theorem sl_v {op : OS} (h : f ρ s = .ok x s1) (hl : lo ρ s1 = .ok a s2) (hh : hi ρ s2 = .ok b s3) (e : op s3 x a b = some w) : mSl op f lo hi ρ s = .ok w s3 := by
  rw [sl_ev, h, bind_ok, hl, bind_ok, hh, bind_ok, e, of_some]
theorem part_v (h : f ρ s = .ok (.int i) s1) : mPart f ρ s = .ok (some i) s1 := by rw [part_ev, h, bind_ok]
theorem cut_from : cutD ws (some (k : Int)) none = ws.drop k := by
  unfold cutD
  rw [HT.sIx_nat, HT.sIx_none]
  by_cases h : k ≤ ws.length
  · rw [Nat.min_eq_left h]
    exact List.take_of_length_le (by rw [List.length_drop]; omega)
  · rw [Nat.min_eq_right (by omega), List.drop_length, List.drop_of_length_le (by omega)]
    simp
theorem add_tup (h : ws.length + us.length ≤ 1000000) : addD s (.tup ws) (.tup us) = some (.tup (ws ++ us)) := by
  show (if ws.length + us.length ≤ lim then some (Dv.tup (ws ++ us)) else none) = _
  rw [if_pos (by unfold lim; omega)]
theorem add_lst (h : ws.length + us.length ≤ 1000000) : addD s (.lst ws) (.lst us) = some (.lst (ws ++ us)) := by
  show (if ws.length + us.length ≤ lim then some (Dv.lst (ws ++ us)) else none) = _
  rw [if_pos (by unfold lim; omega)]
theorem un_v {o : O1} (h : f ρ s = .ok x s1) (e : o s1 x = some w) : mUn o f ρ s = .ok w s1 := by rw [un_ev, h, bind_ok, e, of_some]
theorem if_vt {g' : FE} {r : R Dv} (h : t ρ s = .ok true s1) (h2 : f ρ s1 = r) : mIf t f g' ρ s = r := by rw [if_ev, h, bind_ok, if_pos rfl, h2]
theorem if_vf {g' : FE} {r : R Dv} (h : t ρ s = .ok false s1) (h2 : f ρ s1 = r) : mIf t g' f ρ s = r := by rw [if_ev, h, bind_ok, if_neg Bool.false_ne_true, h2]
theorem not_v (h : t ρ s = .ok bb s1) : mNot t ρ s = .ok (!bb) s1 := by rw [not_ev, h, bind_ok]
theorem ne_of_eq {x y : Dv} {c : Bool} (h : eqD s x y = some (.bl c)) : neD s x y = some (.bl (!c)) := by
  unfold neD
  unfold eqD at h
  cases q : eqB s x y with
  | none => rw [q] at h; cases h
  | some c' => rw [q] at h; cases h; rfl
end
end MP
namespace MP
open PySem PySem.Spec PyProof.Rows L2
mutual
theorem eqv_refl : ∀ d : PyData, d.hasDict = false → PyData.eqv d d = true
  | .none, _ => by simp only [PyData.eqv]
  | .bool b, _ => by simp only [PyData.eqv]; cases b <;> rfl
  | .int i, _ => by simp only [PyData.eqv]; exact beq_self_eq_true i
  | .str x, _ => by simp only [PyData.eqv]; exact beq_self_eq_true x
  | .list xs, h => by simp only [PyData.eqv]; exact eqvs_refl xs (by simpa only [PyData.hasDict] using h)
  | .tuple xs, h => by simp only [PyData.eqv]; exact eqvs_refl xs (by simpa only [PyData.hasDict] using h)
  | .dict _, h => by simp [PyData.hasDict] at h
theorem eqvs_refl : ∀ ds : List PyData, PyData.hasDictAll ds = false → PyData.eqvAll ds ds = true
  | [], _ => by simp only [PyData.eqvAll]
  | d :: ds, h => by
    simp only [PyData.hasDictAll, Bool.or_eq_false_iff] at h
    simp only [PyData.eqvAll, eqv_refl d h.1, eqvs_refl ds h.2]; rfl
end
section
variable {n m k j : Nat} {w v : Dv} {d e : PyData} {s : Sto} {ws us : List Dv}
theorem shaped_pl (h : Pl n k w d) (hk : k ≤ 64) : SeqAt.shaped d = true := by
  unfold SeqAt.shaped
  rw [h.lay, decide_eq_true (Nat.le_trans h.deep hk)]
  rfl
/-- == of two rows or lists -/
theorem eq_pl (hw : flat w = none) (ht : toD s w = toD0 w) (hv : toD s v = toD0 v) (h : Pl n k w d) (h2 : Pl m j v e) (hk : k ≤ 64) (hj : j ≤ 64) : eqD s w v = some (.bl (PyData.eqv d e)) := by
  unfold eqD eqB
  rw [hw]
  dsimp only
  rw [ht, hv, h.to, h2.to]
  dsimp only
  rw [if_pos ⟨shaped_pl h hk, shaped_pl h2 hj⟩]
  rfl
theorem eq_tt (h : Pl n k (.tup ws) d) (h2 : Pl m j (.tup us) e) (hk : k ≤ 64) (hj : j ≤ 64) : eqD s (.tup ws) (.tup us) = some (.bl (PyData.eqv d e)) := eq_pl rfl rfl rfl h h2 hk hj
theorem eq_ll (h : Pl n k (.lst ws) d) (h2 : Pl m j (.lst us) e) (hk : k ≤ 64) (hj : j ≤ 64) : eqD s (.lst ws) (.lst us) = some (.bl (PyData.eqv d e)) := eq_pl rfl rfl rfl h h2 hk hj
theorem eq_l_refl (h : Pl n k (.lst ws) d) (hk : k ≤ 64) : eqD s (.lst ws) (.lst ws) = some (.bl true) := by rw [eq_ll h h hk hk, eqv_refl d h.nod]
theorem pls_len {ds : List PyData} : ∀ {ws : List Dv}, toDs ws = some ds → ds.length = ws.length
  | [], h => by cases h; rfl
  | w :: ws, h => by
    unfold toDs at h
    split at h
    · rename_i d ds' q1 q2
      cases h
      rw [List.length_cons, List.length_cons, pls_len q2]
    · cases h
theorem eq_t_nil (h : Pl n k (.tup ws) d) (hk : k ≤ 64) : eqD s (.tup ws) (.tup []) = some (.bl (decide (ws = []))) := by
  rw [eq_tt h (pl_tup (pls_nil (k := 0))) hk (by decide)]
  have ht := h.to
  have : ∃ ds, toDs ws = some ds ∧ d = .tuple ds := by
    simp only [toD0] at ht
    cases q : toDs ws with
    | none => rw [q] at ht; cases ht
    | some ds => rw [q] at ht; cases ht; exact ⟨ds, rfl, rfl⟩
  obtain ⟨ds, q, rfl⟩ := this
  have hl := pls_len q
  cases ws with
  | nil => cases q; rfl
  | cons w ws =>
    cases ds with
    | nil => simp at hl
    | cons a b => rfl
theorem eq_l_nil (h : Pl n k (.lst ws) d) (hk : k ≤ 64) : eqD s (.lst ws) (.lst []) = some (.bl (decide (ws = []))) := by
  rw [eq_ll h (pl_lst (pls_nil (k := 0))) hk (by decide)]
  have ht := h.to
  have : ∃ ds, toDs ws = some ds ∧ d = .list ds := by
    simp only [toD0] at ht
    cases q : toDs ws with
    | none => rw [q] at ht; cases ht
    | some ds => rw [q] at ht; cases ht; exact ⟨ds, rfl, rfl⟩
  obtain ⟨ds, q, rfl⟩ := this
  have hl := pls_len q
  cases ws with
  | nil => cases q; rfl
  | cons w ws =>
    cases ds with
    | nil => simp at hl
    | cons a b => rfl
end
end MP
namespace MP
open PySem PySem.Spec PyProof.Rows L2
section
variable {n : Nat} {c c' : FS} {ρ ρ1 : Env} {s s1 : Sto} {r : R Dv} {w : Dv} {x : Ex}
theorem fin_nx (h : c ρ s = .nx ρ1 s1) (k : finC n (c' ρ1 s1) = r) : finC n (mSeq c c' ρ s) = r := by rw [seq_nx h rfl]; exact k
theorem fin_rtS (h : c ρ s = .rt w s1) (k : finC n (.rt w s1) = r) : finC n (mSeq c c' ρ s) = r := by rw [seq_rt h]; exact k
theorem seq_er (h : c ρ s = .er x ρ1 s1) : mSeq c c' ρ s = .er x ρ1 s1 := by
  unfold mSeq
  rw [h]
theorem fin_erS (h : c ρ s = .er x ρ1 s1) (k : finC n (.er x ρ1 s1) = r) : finC n (mSeq c c' ρ s) = r := by rw [seq_er h]; exact k
end
end MP
namespace MP
open PySem PySem.Spec PyProof.Rows L2
section
variable {t u : FT} {ρ : Env} {s s1 : Sto} {r : R Bool}
theorem or_t (h : t ρ s = .ok true s1) : mOr t u ρ s = .ok true s1 := by unfold mOr; rw [h, bind_ok]; exact if_pos rfl
theorem or_f (h : t ρ s = .ok false s1) (h2 : u ρ s1 = r) : mOr t u ρ s = r := by unfold mOr; rw [h, bind_ok, if_neg Bool.false_ne_true, h2]
theorem and_t (h : t ρ s = .ok true s1) (h2 : u ρ s1 = r) : mAnd t u ρ s = r := by unfold mAnd; rw [h, bind_ok, if_pos rfl, h2]
theorem and_f (h : t ρ s = .ok false s1) : mAnd t u ρ s = .ok false s1 := by unfold mAnd; rw [h, bind_ok]; exact if_neg Bool.false_ne_true
theorem not_vt (h : t ρ s = .ok true s1) : mNot t ρ s = .ok false s1 := not_v h
theorem not_vf (h : t ρ s = .ok false s1) : mNot t ρ s = .ok true s1 := not_v h
end
end MP
namespace MP
open PySem PySem.Spec PyProof.Rows L2
section
variable {ρ : Env} {s s1 s2 : Sto} {f : FE} {fa : FA} {x : Ex} {d : Fn} {o : ON} {g : FG} {w : Dv} {k : Nat}
theorem expr_er (h : f ρ s = .er x s1) : mExpr f ρ s = .er x ρ s1 := by unfold mExpr; rw [h]; rfl
theorem asg_er (h : f ρ s = .er x s1) : mAsg f g ρ s = .er x ρ s1 := by unfold mAsg; rw [h]; rfl
theorem expr_v (h : f ρ s = .ok w s1) : mExpr f ρ s = .nx ρ s1 := by unfold mExpr; rw [h]; rfl
theorem asg_gv {ρ' : Env} (h : f ρ s = .ok w s1) (h2 : g w ρ s1 = some ρ') : mAsg f g ρ s = .nx ρ' s1 := by unfold mAsg; rw [h, then_ok, h2]
theorem mul_lst {ws : List Dv} (h : ws.length * k ≤ 1000000) (hk : k ≤ 1000000) : mulD s (.lst ws) (.int (k : Int)) = some (.lst (List.replicate k ws).flatten) := by
  unfold mulD
  dsimp only [lstOf]
  rw [if_pos ⟨by omega, by omega, by rw [Int.toNat_natCast]; unfold lim; omega⟩, Int.toNat_natCast]
end
end MP
set_option Elab.async false
set_option linter.all false
set_option maxRecDepth 100000
set_option maxHeartbeats 4000000
namespace MP
open PySem PySem.Spec PyProof.Rows L2
end MP
set_option Elab.async false
set_option linter.all false
set_option maxRecDepth 100000
set_option maxHeartbeats 4000000
namespace MP
open PySem PySem.Spec PyProof.Rows L2
end MP
set_option Elab.async false
set_option linter.all false
set_option maxRecDepth 100000
set_option maxHeartbeats 4000000
namespace MP
open PySem PySem.Spec PyProof.Rows L2
section
variable {X : Cx} {Γ : Ct} {W : WX} {H : Hp} {μ : Mu} {Z : Zs} {s : Sto}
def blsOf : List Dv → Option (List Bool)
  | [] => some []
  | .bl b :: r => (blsOf r).map (b :: ·)
  | _ => none
theorem blsOf_ok : ∀ {ws : List Dv} {vs : List V} {bs : List Bool}, RVs Γ H μ Z ws vs → blsOf ws = some bs → vs = bs.map V.bl
  | [], _, _, r, e => by cases e; exact r
  | w :: ws, _, bs, r, e => by
    obtain ⟨x, xs, rfl, h1, h2⟩ := r
    cases w with
    | bl y =>
      simp only [blsOf] at e
      cases q : blsOf ws with
      | none => rw [q] at e; cases e
      | some zs =>
        rw [q] at e
        cases e
        rw [show x = .bl y from h1, blsOf_ok h2 q]
        rfl
    | _ => cases e
def allD : ON := fun s xs => match xs with
  | [x] => match (lstOf s x).bind blsOf with
    | some bs => some (.bl (bs.all id))
    | none => none
  | _ => none
theorem sAll (hK : Γ.K = X.K) : OpN Γ (rAll X.K) allD := fun H μ Z s xs w vs Q hR rx e k => by
  rw [← hK]
  unfold allD at e
  split at e
  · rename_i x
    split at e
    · rename_i bs q
      cases e
      obtain ⟨v, rfl, r1⟩ := one rx
      cases q1 : lstOf s x with
      | none => rw [q1] at q; cases q
      | some ws =>
        rw [q1] at q
        obtain ⟨p, xs, rfl, h2, h3⟩ := lstOf_ok hR r1 q1
        rw [blsOf_ok h3 q] at h2
        exact ⟨p, bs, rfl, SqL.of h2, k _ H .refl hR rfl⟩
    · cases e
  · cases e
end
end MP
namespace MP
open PySem PySem.Spec PyProof.Rows L2
end MP
set_option Elab.async false
set_option linter.all false
set_option maxRecDepth 100000
set_option maxHeartbeats 400000
namespace MP
open PySem PySem.Spec PyProof.Rows L2 TL PySem.NumText
end MP
set_option Elab.async false
set_option linter.all false
set_option maxRecDepth 100000
set_option maxHeartbeats 400000
namespace MP
open PySem PySem.Spec PyProof.Rows L2
end MP
set_option Elab.async false
set_option linter.all false
set_option maxRecDepth 100000
set_option maxHeartbeats 4000000
namespace MP
open PySem PySem.Spec PyProof.Rows L2
open Sem (wp)
end MP
set_option Elab.async false
set_option linter.all false
set_option maxRecDepth 100000
set_option maxHeartbeats 4000000
namespace MP
open PySem PySem.Spec PyProof.Rows L2
section
variable {X : Cx} {Γ : Ct} {W : WX}
theorem RX.weak {H : Hp} {μ : Mu} {Z Z' : Zs} {x : Ex} {c : Value} {d : Option Addr} (h : ∀ a, Z a → Z' a) (r : RX Γ H μ Z' x c d) : RX Γ H μ Z x c d := by
  rcases r with r | ⟨h0, h1, dd, v, h2, h3, h4, h5⟩
  · exact .inl r
  · exact .inr ⟨h0, h1, dd, v, h2, h3, h4.weak h, RV.weak h x.w h5⟩
end
end MP
set_option Elab.async false
set_option linter.all false
set_option maxRecDepth 100000
set_option maxHeartbeats 400000
namespace MP
open PySem PySem.Spec PyProof.Rows L2 TL PySem.NumText
structure Tx (n : Nat) (x : Str) : Prop where
  low : ∀ c ∈ tl x, c < 128
  len : x.length ≤ n
theorem Tx.mono {n m : Nat} {x : Str} (h : Tx n x) (k : n ≤ m) : Tx m x := ⟨h.low, Nat.le_trans h.len k⟩
/-- the int of a word that passes -/
def vl (w : Str) : Int := (PySem.intText? w).getD 0
end MP
set_option Elab.async false
set_option linter.all false
set_option maxRecDepth 100000
set_option maxHeartbeats 4000000
namespace MP.Raw
open PySem Builtin Builtin.ObjectAttr
section
variable {M : Model} {A : Around} {E : Value → Shared → Prop} {h : Heap} {g : Array GenState} {d : Drawn} {t : Nat} {os : OsState}
variable {nm q : Str} {C N : Addr} {bs bm bmB : List Value} {hdct : Bool} {sn : List Str} {sub : List Value} {ab : Bool} {col : Option Bool} {dd : Option Addr} {k0 k1 k2 k3 k5 : Option Value} {B newId initId : String}
theorem kw_check (Fb : ExcBaseFacts B newId initId bmB) (hin : ∀ Y : String, bm.contains (.type Y) = bmB.contains (.type Y)) {f : Str} {v : Value} {Q : Unit → Shared → Prop}
    (hC : h.get? C = some (excClassObj nm q C N bs bm hdct sn sub ab col dd k0 k1 k2 k3 k5 newId)) (hQ : Q () ⟨h, g, d, t, os⟩) :
    wpAny M A (checkBuiltinCall newId ⟨[.ref C], [(f, v)]⟩) Q E ⟨h, g, d, t, os⟩ := by
  have has : (Value.ref C :: bm).contains (.type B) = true := by
    rw [List.contains_cons, hin, Fb.hasB]
    exact Bool.or_true _
  have st := Fb.noStar
  simp only [checkBuiltinCall, Fb.newKind, Fb.newSplit, Fb.newRow]
  repeat (first | refine wpAny_loadPart_at hC ?_ | (refine wpAny_isSubtype_exc hC ?_; rw [has]) | refine wpAny_staticBase_exc hC ?_ | refine wpAny_madeBy_exc hC ?_ | simp only [bne_self_eq_false, Bool.false_eq_true, if_false] | wp_step)
  exact hQ
end
section
variable {prog : Program} {w : World} {A : Around} {E : Value → Shared → Prop} {R : Result → Shared → Prop} {h : Heap} {g : Array GenState} {d : Drawn} {t : Nat} {os : OsState}
variable {nm q : Str} {C N : Addr} {bs bm bmB : List Value} {hdct : Bool} {sn : List Str} {sub : List Value} {ab : Bool} {col : Option Bool} {dd : Option Addr} {k0 k1 k2 k3 k5 : Option Value} {B newId initId : String}
/-- the two new objects: the args, none, and the exception -/
abbrev kwH (h : Heap) (C : Addr) : Heap := (h.push (PySem.W.kdv_tup [])).push (PySem.HandSPX.excO C h.objs.size)
theorem kw_new (Fb : ExcBaseFacts B newId initId bmB) (hin : ∀ Y : String, bm.contains (.type Y) = bmB.contains (.type Y)) {f : Str} {v : Value}
    (hC : h.get? C = some (excClassObj nm q C N bs bm hdct sn sub ab col dd k0 k1 k2 k3 k5 newId)) (hQ : R (.ok (.ret (.ref (h.objs.size + 1)))) ⟨kwH h C, g, d, t, os⟩) :
    codeAny (model prog w) A (.builtin newId ⟨[.ref C], [(f, v)]⟩) R ⟨h, g, d, t, os⟩ := by
  have en := Fb.ends
  have h1 : (Value.ref C :: bm).contains (.type B) = true := by
    rw [List.contains_cons, hin, Fb.hasB]
    exact Bool.or_true _
  have h2 : (Value.ref C :: bm).contains (.type "AttributeError") = false := by
    rw [List.contains_cons, hin, Fb.noAttr]
    rfl
  have h3 : (Value.ref C :: bm).contains (.type "NameError") = false := by
    rw [List.contains_cons, hin, Fb.noName]
    rfl
  have hz : ([] : List Value).length ≤ sizeLine := Nat.zero_le _
  refine codeAny_builtinAt Fb.entry ?_
  unfold Builtin.«BaseException.__new__»
  refine wpAt_bind ?_
  show wpAt _ _ _ (stack >>= _) _ _ _
  refine wpAt_bind (wpAt_stack fun pp low => wpAt_of_wpAny ?_)
  wp_walk
  refine wpAt_of_wpAny ?_
  rw [Fb.owner]
  repeat (first | with_reducible refine wpAny_madeHere_exc Fb.canon hC ?_ | with_reducible refine wpAny_loadPart_at hC ?_ | (with_reducible refine wpAny_isSubtype_exc hC ?_; first | rw [h1] | rw [h2] | rw [h3]) | wp_step)
  show R _ _
  rw [Heap.size_push]
  exact hQ
theorem kw_type (Fb : ExcBaseFacts B newId initId bmB) (hin : ∀ Y : String, bm.contains (.type Y) = bmB.contains (.type Y)) {f : Str} {v : Value} {fI : Addr} {Q : Fin → Shared → Prop}
    (hC : h.get? C = some (excClassObj nm q C N bs bm hdct sn sub ab col dd k0 k1 k2 k3 k5 newId))
    (hi : PySem.W.Looks (model prog w) h (typeLookup (.ref C) "__init__") (some (.ref fI))) (hb : ∀ self, PySem.W.Looks (model prog w) h (bindSpecial (.ref fI) self) (.ref fI, [self]))
    (hq : codeAny (model prog w) A (.call (.ref fI) ⟨[.ref (h.objs.size + 1)], [(f, v)]⟩) (fun r s' => match r with | .ok (.ret u) => u = .none ∧ Q (.done (.ret (.ref (h.objs.size + 1)))) s' | .ok _ => False | .error e => E e s') ⟨kwH h C, g, d, t, os⟩) :
    wpAny (model prog w) A (Builtin.«type.__call__» ⟨[.ref C], [(f, v)]⟩) Q E ⟨h, g, d, t, os⟩ := by
  repeat (first | with_reducible refine wpAny_loadPart_at hC ?_ | with_reducible refine wpAny_madeBy_exc hC ?_ | wp_step)
  refine codeAny_call_builtin_code (Code.quiet_builtin _ Fb.quiet) (kw_check Fb hin hC ?_)
  refine kw_new Fb hin hC ?_
  show wpAny _ _ _ _ _ _
  have up : ∀ b o, h.get? b = some o → (kwH h C).get? b = some o := fun b o z => Heap.get?_push_of_some _ (Heap.get?_push_of_some _ z)
  have hC' := up _ _ hC
  have there : (kwH h C).get? (h.objs.size + 1) = some (PySem.HandSPX.excO C h.objs.size) := by heap_get
  have self : (Value.ref C :: bm).contains (.ref C) = true := by simp
  have look1 := hi.keeps up
  have look2 := (hb (.ref (h.objs.size + 1))).keeps up
  unfold isInstance
  repeat (first | with_reducible refine wpAny_loadPart_at there ?_ | (with_reducible refine wpAny_isSubtype_exc hC' ?_; rw [self]) | wp_step)
  show wpAny _ _ (typeLookup (.ref C) _) _ _ _
  refine look1.at ?_
  refine wpAny_holding (wpAny_bind (look2.at ?_))
  refine wpAny_bind (wpAny_call (codeAny_mono hq fun r s' y => ?_))
  rcases r with e | (u | _ | _ | _) <;> first | exact y | exact y.elim | skip
  obtain ⟨rfl, y⟩ := y
  first
    | exact wpAny_pure (wpAny_pure y)
    | (wp_walk; exact y)
theorem kw_own (Fb : ExcBaseFacts B newId initId bmB) (hin : ∀ Y : String, bm.contains (.type Y) = bmB.contains (.type Y)) {f : Str} {v : Value} {fI : Addr}
    (hC : h.get? C = some (excClassObj nm q C N bs bm hdct sn sub ab col dd k0 k1 k2 k3 k5 newId))
    (hi : PySem.W.Looks (model prog w) h (typeLookup (.ref C) "__init__") (some (.ref fI))) (hb : ∀ self, PySem.W.Looks (model prog w) h (bindSpecial (.ref fI) self) (.ref fI, [self]))
    (hq : codeAny (model prog w) (A.under (.builtin "type.__call__" ⟨[.ref C], [(f, v)]⟩)) (.call (.ref fI) ⟨[.ref (h.objs.size + 1)], [(f, v)]⟩) (PySem.W.InitBack (h.objs.size + 1) R) ⟨kwH h C, g, d, t, os⟩) :
    codeAny (model prog w) A (.call (.ref C) ⟨[], [(f, v)]⟩) R ⟨h, g, d, t, os⟩ := by
  have look1 := tc_lookup
  have look2 := tc_bind (.ref C)
  have ty : (⟨h, g, d, t, os⟩ : Shared).TypeIs (.ref C) "type" := ⟨_, hC, rfl⟩
  refine codeAny_of_tree ?_
  show wpAny _ _ (callAny (.ref C) _) _ _ _
  repeat (any_goals (first | assumption | with_reducible refine wpAny_loadPart_at hC ?_ | wp_step))
  refine ⟨rfl, ?_⟩
  refine codeAny_call_builtin_at (Code.quiet_builtin _ (by decide +kernel)) entry_typeCall (wpAny_check_type_call_sub hC (kw_type Fb hin hC hi hb ?_))
  refine codeAny_mono hq fun r s' y => ?_
  rcases r with e | (u | _ | _ | _) <;> exact y
end
end MP.Raw
namespace MP
open PySem PySem.Spec PyProof.Rows L2
structure Ox (K : PySem.W.Frag) (C : Addr) (B newId initId : String) (bmB : List Value) : Prop where
  fb : ExcBaseFacts B newId initId bmB
  sf : StoreFacts B bmB "object.__setattr__" "object"
  cls : ∃ nm q N bs bm sn sub ab col dd k0 k1 k2 k3 k5, K.lookup C = some (excClassObj nm q C N bs bm true sn sub ab col dd k0 k1 k2 k3 k5 newId) ∧ PySem.W.excTail bmB bm = true
  sa : PySem.W.findIn K (.ref C) "__setattr__" = some (some (.builtin "object.__setattr__"))
  exC : PySem.W.subIn K (.ref C) (.type "BaseException") = some true
  tyC : PySem.W.typeIn K (.ref C) = some (.type "type")
  kC : PySem.W.keepIn K (.ref C) = true
section
variable {X : Cx} {pins : List (Addr × Obj)} {σ : L2.St} {H : Hp} {s : Shared} {a C dx : Addr} {f : Str} {y : V} {u : Value} {Q : Unit → Shared → Prop} {E : Value → Shared → Prop} {A : Around} {B newId initId : String} {bmB : List Value}
theorem ox_store {hp : Heap} {g : Array GenState} {d : Drawn} {t : Nat} {os : OsState} {tk : Tok} {fv : Array Value} {R : Result → Shared → Prop} (T : Ox X.K C B newId initId bmB) (hk : X.K.In hp) (hx : hp.get? a = some { cls := .ref C, data := .fields fv })
    (hno : PySem.W.findIn X.K (.ref C) f = some none)
    (hq : ∀ h' tk' dx, (∀ b o, b ≠ a → hp.get? b = some o → h'.get? b = some o) → hp.objs.size ≤ dx → dx ≠ a → h'.get? a = some { cls := .ref C, dict := some dx, data := .fields fv } →
      h'.Ns1 dx (fun z => if z = f then some u else none) → R (.ok (.ret .none)) ⟨h', g, d, tk', os⟩) :
    codeAny (model X.prog X.w) A (.call (.builtin "object.__setattr__") ⟨[.ref a, .str f tk, u], []⟩) R ⟨hp, g, d, t, os⟩ := by
  obtain ⟨nm, q, N, bs, bm, sn, sub, ab, col, dd, k0, k1, k2, k3, k5, hC, hbm⟩ := T.cls
  have hcl : PySem.W.clsIn X.K C = some { name := nm, bases := bs, mro := .ref C :: bm, ns := N, qualname := q, hasDict := true, slotNames := sn, subclasses := sub, abstract := ab, collection := col, hasDel := false } := by
    unfold PySem.W.clsIn
    rw [hC] <;> rfl
  have ov : PySem.W.excOver X.K C bmB = true := by
    unfold PySem.W.excOver
    rw [hcl]
    simpa using hbm
  have tkr : PySem.W.takerIn X.K C f = some none := by
    unfold PySem.W.takerIn
    rw [hno]
    rfl
  have look := PySem.W.looks_clsIn (M := model X.prog X.w) hk hcl
  have apart : a ≠ hp.objs.size := Nat.ne_of_lt (Heap.lt_size hx)
  refine PySem.W.osa_openX (s := ⟨hp, g, d, t, os⟩) T.sf hk (ox := { cls := .ref C, data := .fields fv }) (od := none) ⟨hx, rfl, rfl, trivial⟩ ov tkr fun b => ?_
  show wpAny _ _ (Builtin.ObjectAttr.storeInOwnDict (.ref a) (.ref C) (.str f tk) f u b) _ _ _
  unfold Builtin.ObjectAttr.storeInOwnDict Builtin.ObjectAttr.ownDictForStores
  repeat (first | with_reducible refine PySem.HandSPX.store_in_new ?_ ?_ | with_reducible refine wpAny_loadPart_at hx ?_ | with_reducible refine look.at ?_ | wp_step)
  · exact ⟨_, #[], _, (Heap.get?_update_ne _ _ _ _ apart.symm).trans (Heap.get?_push_at rfl rfl), rfl, fun e he => absurd he (by simp), fun _ => rfl⟩
  · intro h' tk' ns' same
    have hx' : (hp.push { cls := .type "dict", data := .dict #[] }).get? a = some { cls := .ref C, data := .fields fv } := Heap.get?_push_of_some _ hx
    refine hq h' tk' hp.objs.size (fun b o hb ho => ?_) (Nat.le_refl _) apart.symm ?_ ns'
    · have nb : b ≠ hp.objs.size := Nat.ne_of_lt (Heap.lt_size ho)
      exact (same.2 b nb).trans ((Heap.get?_update_ne _ _ _ _ hb).trans (Heap.get?_push_of_some _ ho))
    · exact (same.2 a apart).trans (Heap.get?_update_self _ hx' rfl)
end
end MP
set_option Elab.async false
set_option linter.all false
set_option maxRecDepth 100000
set_option maxHeartbeats 4000000
namespace MP
open PySem PySem.Spec PyProof.Rows L2
section
variable {X : Cx} {pins : List (Addr × Obj)} {σ : L2.St} {H : Hp} {s : Shared} {a C dx : Addr} {f : Str} {y : V} {u : Value} {Q : Unit → Shared → Prop} {E : Value → Shared → Prop} {A : Around} {B newId initId : String} {bmB : List Value}
theorem ox_new (T : Ox X.K C B newId initId bmB) (I : Inv X pins σ H s) (e : H a = some (exo a C none)) (hno : PySem.W.findIn X.K (.ref C) f = some none) (ry : RelV y u)
    (h : ∀ dx s', H dx = none → dx ≠ a → Inv X pins σ (upd (upd H dx (exd dx [(f, y)])) a (exo a C (some dx))) s' → Q () s') : wpAny (model X.prog X.w) A (setAttr (.ref a) f u) Q E s := by
  obtain ⟨t1, ho⟩ := exo_at I.hok e
  obtain ⟨hp, g, d, t, os⟩ := s
  refine PySem.W.set_plain I.kIn (ox := { cls := .ref C, dict := none, data := .fields #[.ref t1, .none, .none, .none, .bool false, .none] }) (od := none) ⟨ho, rfl, rfl, trivial⟩ T.sa ?_
  refine ox_store T I.kIn ho hno (fun h' tk' dx k dn dne hx hn => ?_)
  have nx : H dx = none := I.hok.fresh dn
  have n1 : ∀ {b : Addr} {o : Obj}, hp.get? b = some o → b ≠ dx := fun {b o} z => Nat.ne_of_lt (Nat.lt_of_lt_of_le (Heap.lt_size z) dn)
  have n2 : ∀ {b : Addr}, H b = none → b ≠ a := fun {b} n z => by rw [z, e] at n; cases n
  have up : Un X.fs [] H (upd (upd H dx (exd dx [(f, y)])) a (exo a C (some dx))) hp h' := {
    keep := fun b o z n _ _ => k b o (n2 n) z
    slot := fun b o z n _ _ => ⟨o.slots, k b o (n2 n) z⟩
    free := fun b o z n _ => by rw [upd_ne (n2 n), upd_ne (n1 z)]; exact n
    there := fun b o z _ => by
      by_cases hb : b = a
      · rw [hb]; exact ⟨_, hx⟩
      · exact ⟨o, k b o hb z⟩
    tups := fun b xs z => by rw [upd_ne (at_ne e z exo_tup), upd_ne (ne_of_none z nx)]; exact z
    frzs := fun b o v z => by rw [upd_ne (at_ne e z exo_frz), upd_ne (ne_of_none z nx)]; exact z
    tbls := fun b ps z => ⟨#[], by rw [upd_ne (at_ne e z exo_tbl), upd_ne (ne_of_none z nx), z]; simp⟩ }
  refine h dx _ nx dne (I.un (t' := tk') up fun b o z => ?_)
  by_cases hb : b = a
  · subst hb
    rw [upd_same] at z
    cases z
    exact exo_ok hx
  · rw [upd_ne hb] at z
    by_cases hd : b = dx
    · subst hd
      rw [upd_same] at z
      cases z
      exact exd_ok hn (relO_put (fs := []) ry fun _ => True.intro)
    · rw [upd_ne hd] at z
      refine (I.hok b o z).stay (fun c v hc w => k c v ?_ w) (fun c hc => ?_) (fun c xs hc => ?_)
      · rcases hc with hc | hc
        · rw [hc]; exact hb
        · exact at_ne e hc exo_own
      · rw [upd_ne (at_ne e hc exo_own), upd_ne (ne_of_none hc nx)]; exact hc
      · rw [upd_ne (at_ne e hc exo_tup), upd_ne (ne_of_none hc nx)]; exact hc
def tOx (K : PySem.W.Frag) (f : Str) (to te : TE) : TS := fun D σ H => te σ H fun y H1 => to σ H1 fun x H2 => ∃ (a C : Addr) (B newId initId : String) (bmB : List Value), x = .ref a ∧ Ox K C B newId initId bmB ∧ PySem.W.findIn K (.ref C) f = some none ∧
  H2 a = some (exo a C none) ∧ ∀ dx, H2 dx = none → dx ≠ a → D.nx σ (upd (upd H2 dx (exd dx [(f, y)])) a (exo a C (some dx)))
theorem ps_ox {o e : Expr} {to te : TE} {p' pos : Pos} (ho : PE X o to) (he : PE X e te) (hs : swapsWith e (some (.Attribute o f p')) pos.line X.env = pure false := by rfl) : PS X (.Assign [.Attribute o f p'] e pos) (tOx X.K f to te) := by
  refine ⟨fun pins s σ H D I h => plainObj_wpAny_Assign_Attribute (thn (he.run pins s σ H _ I h) fun v s1 ⟨y, H1, I1, r1, q1⟩ => thn (ho.run pins s1 σ H1 _ I1 q1) fun u s2 ⟨x, H2, I2, r2, a, C, B, newId, initId, bmB, ex, T, hno, ea, q⟩ => ?_) hs⟩
  subst ex
  obtain rfl : u = Value.ref a := r2
  exact ox_new T I2 ea hno r1 fun dx s' n ne J => ⟨σ, _, J, q dx n ne⟩
end
theorem init_ox {CX : CXT} {P : Program} {w : World} {K : PySem.W.Frag} {mg : Str → Option Value} {base : Heap} {fI : Addr} {name qual f : Str} {params : Arguments} {scope : Scope} {dV kV doc pm cdv ct oc : Value} {an od : Option Addr} {osl : Array (Option Value)} {p1 p2 p3 p4 : Pos}
    {B newId initId : String} {bmB : List Value}
    (lk : K.lookup fI = some ⟨oc, od, .func (PySem.W.fnOf name qual params [.Assign [.Attribute (.Name "self" p1) f p2] (.Name f p3) p4] scope dV kV doc pm an cdv ct), osl⟩) (hcd : PySem.W.codeIn K cdv qual = true) (S : FnScope ["self", f] ["self", f] scope)
    {C : Addr} (t1 : Ox K C B newId initId bmB) (t2 : PySem.W.findIn K (.ref C) f = some none)
    (v0 : Vis scope "self") (v1 : Vis scope f) (d1 : (f == ("__debug__" : Str)) = false) (d2 : (f == ("__classdict__" : Str)) = false) : FnOk P w K mg base CX 1 fI (PySem.W.fnOf name qual params [.Assign [.Attribute (.Name "self" p1) f p2] (.Name f p3) p4] scope dV kV doc pm an cdv ct) ["self", f] (spI C f) :=
  fn_of (k := 0) lk hcd S (fun vs H Q E ⟨_, _, e, _⟩ => by rw [e]; rfl) fun A outer s H vs Q E hr ⟨a, v, ev, ea, q⟩ => by
    subst ev
    refine ⟨_, pss_one (ps_ox (pe_var (i := 0) rfl v0 (by decide) (by decide)) (pe_var (i := 1) rfl v1 d1 d2)), ?_⟩
    exact ⟨v, rfl, .ref a, rfl, a, C, B, newId, initId, bmB, rfl, t1, t2, ea, fun dx hn hd => q dx hn hd⟩
/-- what is known of an own class that is made -/
structure XgR (P : Program) (w : World) (K : PySem.W.Frag) (mg : Str → Option Value) (base : Heap) (C : Addr) (x f : Str) : Prop where
  ox : ∃ (B newId initId : String) (bmB : List Value), Ox K C B newId initId bmB
  no : PySem.W.findIn K (.ref C) f = some none
  gC : mg x = some (.ref C)
  init : ∃ (fI : Addr) (fd : FuncData), PySem.W.findIn K (.ref C) "__init__" = some (some (.ref fI)) ∧ PySem.W.typeIn K (.ref fI) = some (.type "function") ∧ FnOk P w K mg base (L2.CX P w) 1 fI fd ["self", f] (spI C f) ∧
    (∀ (s : Shared) (u v : Value), BindsTo s fd ⟨[u, v], []⟩ [("self", u), (f, v)]) ∧ (∀ (s : Shared) (u v : Value), BindsTo s fd ⟨[u], [(f, v)]⟩ [("self", u), (f, v)])
section
variable {X : Cx} {Γ : Ct} {W : WX} {pins : List (Addr × Obj)} {σ : L2.St} {H : Hp} {C : Addr} {x f : Str}
/-- the exception and its dict, seen from where it was made -/
theorem ox_land {hp hp2 h2 : Heap} {g1 g2 : Array GenState} {d1 d2 : Drawn} {t1 t2 : Nat} {os1 os2 : OsState} {H1 H2 : Hp} {a d : Addr} {v : V} (T : Raises X (.ref C)) (I1 : Inv X pins σ H1 ⟨hp, g1, d1, t1, os1⟩)
    (ha : hp.objs.size ≤ a) (k : ∀ b o, hp.get? b = some o → hp2.get? b = some o) (un : Un (frs X.stack) [] (upd H1 a (exo a C none)) H2 hp2 h2) (hok : HOk X.prog X.w H2 h2) (ho : os2 = os1) (hb : AllBare g2)
    (eH : H2 = upd (upd (upd H1 a (exo a C none)) d (exd d [(f, v)])) a (exo a C (some d))) (hd1 : H1 d = none) (hda : d ≠ a) :
    H1 a = none ∧ Inv X pins σ (upd (upd H1 d (.xd [(f, v)])) a (ExK a C d)) ⟨h2, g2, d2, t2, os2⟩ ∧ MkP X pins σ (fun cls dd H' => cls = .ref C ∧ dd = some d ∧ H' = upd H1 d (.xd [(f, v)])) (.ref a) ⟨h2, g2, d2, t2, os2⟩ := by
  have na : H1 a = none := I1.hok.fresh ha
  have ea : H2 a = some (exo a C (some d)) := by rw [eH, upd_same]
  have ed : H2 d = some (exd d [(f, v)]) := by rw [eH, upd_ne hda, upd_same]
  have eq : upd (del H2 a) d (.xd [(f, v)]) = upd H1 d (.xd [(f, v)]) := by
    funext b
    by_cases h1 : b = d
    · subst h1
      rw [upd_same, upd_same]
    · rw [upd_ne h1, upd_ne h1]
      by_cases h2 : b = a
      · subst h2
        rw [del_same]
        exact na.symm
      · rw [del_ne h2, eH, upd_ne h2, upd_ne h1, upd_ne h2]
  obtain ⟨t0, G, J, kG, ge, hoe, na'⟩ := mk_end0 (d2 := d2) (t2 := t2) I1 ha k un hok ho hb ea ed hd1
  rw [eq] at J na'
  refine ⟨na, ?_, mk_end T I1 ha k un hok ho hb ea ed hd1 ⟨rfl, rfl, eq⟩⟩
  exact J.laidN (a := a) (o := ExK a C d) (t' := t2) kG ge na' (exK_ok hoe ⟨rfl, rfl⟩ rfl)
/-- a call of the class, its args having been told -/
theorem ox_call (R0 : XgR X.prog X.w X.K X.mg X.base C x f) (hr : Room 2 X.A) {us : List Value} {kw : List (Str × Value)} {u : Value} {v : V} {s : Shared} {Q : Value → Shared → Prop} (hk : (us = [u] ∧ kw = []) ∨ (us = [] ∧ kw = [(f, u)])) (I : Inv X pins σ H s) (r : RelV v u)
    (h : ∀ (a d : Addr) (s' : Shared), H a = none → H d = none → d ≠ a → Inv X pins σ (upd (upd H d (.xd [(f, v)])) a (ExK a C d)) s' → MkP X pins σ (fun cls dd H' => cls = .ref C ∧ dd = some d ∧ H' = upd H d (.xd [(f, v)])) (.ref a) s' → Q (.ref a) s') :
    wpAny (model X.prog X.w) X.A (call (.ref C) us kw) Q X.xe s := by
  obtain ⟨B, newId, initId, bmB, T⟩ := R0.ox
  obtain ⟨fI, fd, iC, tI, F1, b1, b2⟩ := R0.init
  obtain ⟨nm, q, N, bs, bm, sn, sub, ab, col, dd, k0, k1, k2, k3, k5, hC, hbm⟩ := T.cls
  have hin : ∀ Y : String, bm.contains (.type Y) = bmB.contains (.type Y) := fun Y => PySem.W.excTail_contains Y _ hbm
  have hx : Passes (L2.CX X.prog X.w) X (fun _ _ _ => False) := passes_call (W := W0) tk0 fun _ _ _ _ h => h
  have end_ : ∀ (t0 : Addr) (hp2 : Heap) (a : Addr) (hp : Heap) (g : Array GenState) (dr : Drawn) (tk : Nat) (os : OsState) (args : Args) (us' : List Value) (hus : us' = [.ref a, u]) (hpos : ∀ s', BindsTo s' fd args [("self", .ref a), (f, u)]) (I : Inv X pins σ H ⟨hp, g, dr, tk, os⟩) (hsz : hp.objs.size ≤ a)
      (kk : ∀ b o, hp.get? b = some o → hp2.get? b = some o) (hget : hp2.get? a = some (PySem.HandSPX.excO C t0))
      (hq : ∀ (a d : Addr) (s' : Shared), H a = none → H d = none → d ≠ a → Inv X pins σ (upd (upd H d (.xd [(f, v)])) a (ExK a C d)) s' → MkP X pins σ (fun cls dd H' => cls = .ref C ∧ dd = some d ∧ H' = upd H d (.xd [(f, v)])) (.ref a) s' → Q (.ref a) s') (vs0 : List Value) (kw0 : List (Str × Value)),
      codeAny (model X.prog X.w) (X.A.under (.builtin "type.__call__" ⟨.ref C :: vs0, kw0⟩)) (.call (.ref fI) args) (fun r s' => match r with | .ok (.ret z) => z = .none ∧ Q (.ref a) s' | .ok _ => False | .error e => X.xe e s') ⟨hp2, g, dr, tk, os⟩ := by
    intro t0 hp2 a hp g dr tk os args us' hus hpos I hsz kk hget hq vs0 kw0
    subst hus
    have hn : H a = none := I.hok.fresh hsz
    have I2 : Inv X pins σ (upd H a (exo a C none)) ⟨hp2, g, dr, tk, os⟩ := I.laid (t' := tk) (a := a) (o := exo a C none) (h' := hp2) kk hsz (exo_ok hget)
    have r2 : Vals [V.ref a, v] [Value.ref a, u] := .cons rfl (.cons r .nil)
    refine codeAny_mono (F1.run _ X.stack _ _ args [Value.ref a, u] _ (fun z H2 => z = .non ∧ ∃ d, H2 = upd (upd (upd H a (exo a C none)) d (exd d [(f, v)])) a (exo a C (some d)) ∧ H d = none ∧ d ≠ a) (fun _ _ _ => False) (hr.make C vs0 kw0) (I2.env0.make C vs0 kw0) (hpos _) r2
      ⟨a, v, rfl, upd_same, fun dx hdx hda => ⟨rfl, dx, rfl, by rwa [upd_ne hda] at hdx, hda⟩⟩) fun r s' hq' => ?_
    cases r with
    | error er => exact (hx pins σ _ _ er s' I2 hq')
    | ok fl =>
      cases fl with
      | ret z =>
        obtain ⟨v', H2, os2, bare2, un2, hok2, rv, ev, d, eH, hd1, hda⟩ := hq'
        subst ev
        obtain ⟨h2, g2, d2, t2, os'⟩ := s'
        have eH' : H2 = upd (upd (upd H d (exd d [(f, v)])) a (exo a C none)) a (exo a C (some d)) := by
          rw [eH]
          funext b
          by_cases h1 : b = a
          · subst h1; rw [upd_same, upd_same]
          · rw [upd_ne h1, upd_ne h1, upd_ne h1]
            by_cases h2 : b = d
            · subst h2; rw [upd_same, upd_same]
            · rw [upd_ne h2, upd_ne h2, upd_ne h1]
        obtain ⟨na, J, mk⟩ := ox_land (f := f) (v := v) (raises_own T.exC T.tyC) I hsz kk un2 hok2 os2 bare2 eH hd1 hda
        exact ⟨rv, hq a d _ na hd1 hda J mk⟩
      | next => exact False.elim hq'
      | brk => exact False.elim hq'
      | cont => exact False.elim hq'
  obtain ⟨hp, g, dr, tk, os⟩ := s
  have kk : ∀ (us : List Value), ∀ b o, hp.get? b = some o → ((hp.push (PySem.W.kdv_tup us)).push (PySem.HandSPX.excO C hp.objs.size)).get? b = some o := fun us b o e => Heap.get?_push_of_some _ (Heap.get?_push_of_some _ e)
  have hget : ∀ (us : List Value), ((hp.push (PySem.W.kdv_tup us)).push (PySem.HandSPX.excO C hp.objs.size)).get? (hp.objs.size + 1) = some (PySem.HandSPX.excO C hp.objs.size) := fun us => by heap_get
  rcases hk with ⟨rfl, rfl⟩ | ⟨rfl, rfl⟩
  · exact wpAny_call (PySem.HandSPX.call_own T.fb hin (I.kIn _ _ hC) (PySem.W.looks_findIn I.kIn iC) (fun self => PySem.W.bind_fn I.kIn self tI) (by show 1 ≤ sizeLine; rw [sizeLine_eq]; decide)
      (end_ hp.objs.size _ (hp.objs.size + 1) hp g dr tk os ⟨[.ref (hp.objs.size + 1), u], []⟩ _ rfl (fun s' => b1 s' _ _) I (Nat.le_succ _) (kk [u]) (hget [u]) h [u] []))
  · exact wpAny_call (MP.Raw.kw_own T.fb hin (I.kIn _ _ hC) (PySem.W.looks_findIn I.kIn iC) (fun self => PySem.W.bind_fn I.kIn self tI)
      (end_ hp.objs.size _ (hp.objs.size + 1) hp g dr tk os ⟨[.ref (hp.objs.size + 1)], [(f, u)]⟩ _ rfl (fun s' => b2 s' _ _) I (Nat.le_succ _) (kk []) (hget []) h [] [(f, u)]))
end
end MP
set_option Elab.async false
set_option linter.all false
set_option maxRecDepth 100000
set_option maxHeartbeats 4000000
namespace MP
open PySem PySem.Spec PyProof.Rows L2
section
variable {X : Cx} {Γ : Ct} {W : WX} {C : Addr} {x f : Str} {e : Expr} {te : TE} {p pos kpos : Pos}
def onlyV (P : V → Hp → Prop) : List V → Hp → Prop := fun vs H1 => match vs with
  | [v] => P v H1
  | _ => False
theorem onlyV_ok {P : V → Hp → Prop} {vs : List V} {us : List Value} {H1 : Hp} (h : onlyV P vs H1) (r : Vals vs us) : ∃ v u, us = [u] ∧ RelV v u ∧ P v H1 := by
  match vs, h with
  | [v], h =>
    obtain ⟨u, rfl, ru⟩ := vals1 r
    exact ⟨v, u, rfl, ru, h⟩
theorem pmk_ox (T : XgR X.prog X.w X.K X.mg X.base C x f) (hr : Room 2 X.A) (hg : Gl X x) (ha : PE X e te)
    (hdb : (x == ("__debug__" : Str)) = false := by decide) (he : starEach [e] X.env = (false, eval e X.env) :: starEach [] X.env := by rfl) (hpl : (backTo pos (starEach [] X.env)).any (·.1) = false := by rfl) :
    PMk X (.Call (.Name x p) [e] [] pos) (fun σ H Q => te σ H fun v H1 => ∀ d, H1 d = none → Q (.ref C) (some d) (upd H1 d (.xd [(f, v)]))) := by
  have kC : PySem.W.keepIn X.K (.ref C) = true := by obtain ⟨_, _, _, _, T⟩ := T.ox; exact T.kC
  intro pins s σ H Q I h
  refine wpAny_Call_Name_kw (ld_glob I hg T.gC ?_ hdb)
  refine PySem.W.callWith_K (h₀ := X.base) I.ok.mod.kin kC (thn ((pa_cons ha pa_nil he).run pos pins s σ H (onlyV fun v H1 => ∀ d, H1 d = none → Q (.ref C) (some d) (upd H1 d (.xd [(f, v)]))) I h) fun us s1 ⟨vs, H1, I1, r1, q1⟩ => ⟨I1.kIn, ?_⟩) he hpl
  obtain ⟨v, u, rfl, ru, q⟩ := onlyV_ok q1 r1
  refine ox_call T hr (.inl ⟨rfl, rfl⟩) I1 ru fun a d s' na nd hda _ mk => ?_
  obtain ⟨a', oe, vs', sI, H', cls, dd, m1, m2, m3, m4, m5, m6, m7, m8, m9, m10, m11, m12, rfl, rfl, rfl⟩ := mk
  exact ⟨a', oe, vs', sI, _, _, _, m1, m2, m3, m4, m5, m6, m7, m8, m9, m10, m11, m12, q d nd⟩
variable {g : FE} {c : Nat} {pos' : Pos}
theorem ms_raiseG (hK : Γ.K = X.K) (T : XgR X.prog X.w X.K X.mg X.base (Γ.cls c) x f) (hr : Room 2 X.A) (hc : X.calm = true) (tk : Takes X W) (hg : Gl X x) (ha : ME X Γ W e g)
    (hdb : (x == ("__debug__" : Str)) = false := by decide) (he : starEach [e] X.env = (false, eval e X.env) :: starEach [] X.env := by rfl) (hpl : (backTo pos (starEach [] X.env)).any (·.1) = false := by rfl) (h99 : c < 99 := by decide) :
    MS X Γ W (.Raise (some (.Call (.Name x p) [e] [] pos)) none pos') (mRaise c f g) :=
  PS.imp (ps_raise hc tk (pmk_ox T hr hg ha hdb he hpl)) fun D σ H ⟨μ, Z, ρ, s, hE, hR, q⟩ => eS hE hR q fun y s1 v H1 μ1 ev E1 R1 r1 q1 d nd => by
    have e2 : Evo H1 μ1 (upd H1 d (.xd [(f, v)])) μ1 := Evo.laid nd
    exact q1 _ _ σ _ μ1 e2 (R1.laid nd) (E1.mono e2) (.inr ⟨by show c ≠ 99; omega, rfl, d, v, rfl, upd_same, R1.fz nd, r1.mono e2⟩)
end
/-- what making a class wants -/
theorem xgr_of {P : Program} {w : World} {K : PySem.W.Frag} {mg : Str → Option Value} {base : Heap} {C fI : Addr} {x qual f : Str} {params : Arguments} {scope : Scope} {dV kV doc pm cdv ct oc : Value} {an od : Option Addr} {osl : Array (Option Value)} {p1 p2 p3 p4 : Pos} {B newId initId : String} {bmB : List Value}
    (ox : Ox K C B newId initId bmB) (no : PySem.W.findIn K (.ref C) f = some none) (gC : mg x = some (.ref C)) (iC : PySem.W.findIn K (.ref C) "__init__" = some (some (.ref fI))) (tI : PySem.W.typeIn K (.ref fI) = some (.type "function"))
    (lk : K.lookup fI = some ⟨oc, od, .func (PySem.W.fnOf "__init__" qual params [.Assign [.Attribute (.Name "self" p1) f p2] (.Name f p3) p4] scope dV kV doc pm an cdv ct), osl⟩) (hcd : PySem.W.codeIn K cdv qual = true) (S : FnScope ["self", f] ["self", f] scope)
    (v0 : Vis scope "self") (v1 : Vis scope f) (d1 : (f == ("__debug__" : Str)) = false) (d2 : (f == ("__classdict__" : Str)) = false)
    (b1 : ∀ u v : Value, bindArgs (PySem.W.fnOf "__init__" qual params [.Assign [.Attribute (.Name "self" p1) f p2] (.Name f p3) p4] scope dV kV doc pm an cdv ct) ⟨[u, v], []⟩ = pure [(("self" : Str), u), (f, v)])
    (b2 : ∀ u v : Value, bindArgs (PySem.W.fnOf "__init__" qual params [.Assign [.Attribute (.Name "self" p1) f p2] (.Name f p3) p4] scope dV kV doc pm an cdv ct) ⟨[u], [(f, v)]⟩ = pure [(("self" : Str), u), (f, v)]) : XgR P w K mg base C x f :=
  ⟨⟨_, _, _, _, ox⟩, no, gC, fI, _, iC, tI, init_ox lk hcd S ox no v0 v1 d1 d2, fun s u v => .of_eq (b1 u v), fun s u v => .of_eq (b2 u v)⟩
end MP
set_option Elab.async false
set_option linter.all false
set_option maxRecDepth 100000
set_option maxHeartbeats 4000000
namespace MP
open PySem PySem.Spec PyProof.Rows L2
def flV : Dv → Option V
  | .non => some .non | .bl b => some (.bl b) | .int i => some (.int i) | .str x => some (.str x)
  | _ => none
section
variable {X : Cx} {Γ : Ct} {W : WX} {H : Hp} {μ : Mu} {Z : Zs}
theorem flV_ok {w : Dv} {u v : V} (e : flV w = some u) (r : RV Γ H μ Z w v) : v = u ∧ flatV u = true := by
  cases w <;> first | (cases e; done) | (cases e; exact ⟨r, rfl⟩)
theorem flVs_ok : ∀ {ws : List Dv} {us vs : List V}, mapO flV ws = some us → RVs Γ H μ Z ws vs → vs = us ∧ us.all flatV = true
  | [], _, _, e, r => by cases e; exact ⟨r, rfl⟩
  | w :: ws, us, _, e, r => by
    obtain ⟨x, xs, rfl, r1, r2⟩ := r
    unfold mapO at e
    split at e
    · rename_i b bs e1 e2
      cases e
      obtain ⟨rfl, h1⟩ := flV_ok e1 r1
      obtain ⟨rfl, h2⟩ := flVs_ok e2 r2
      exact ⟨rfl, by rw [List.all_cons, h1, h2]; rfl⟩
    · cases e
def inQ (neg : Bool) : O2 := fun _ x y => match flV x, plainOf y with
  | some u, some (_, ws) => match mapO flV ws with
    | some us => some (.bl (if neg = true then !inV u us else inV u us))
    | none => none
  | _, _ => none
theorem sInQ (hK : Γ.K = X.K) {neg : Bool} : Op2 Γ (rIn X.K neg) (inQ neg) := fun H μ Z s x y w u v Q hR r1 r2 e k => by
  rw [← hK]
  unfold inQ at e
  split at e
  · rename_i u' t ws e1 e2
    split at e
    · rename_i us e3
      cases e
      obtain ⟨rfl, f1⟩ := flV_ok e1 r1
      obtain ⟨a, xs, rfl, h1, h2⟩ := plain_ok r2 e2
      obtain ⟨rfl, f2⟩ := flVs_ok e3 h1
      have hq := h2 H μ Evo.refl.z
      refine ⟨a, xs, rfl, ?_, f1, f2, k _ H .refl hR rfl⟩
      unfold SqX at hq
      split at hq
      · exact .inr hq
      · exact .inl hq
    · cases e
  · cases e
end
end MP
namespace MP
open PySem PySem.Spec PyProof.Rows L2
end MP
set_option Elab.async false
set_option linter.all false
set_option maxRecDepth 100000
set_option maxHeartbeats 4000000
namespace MP.Raw
open PySem
end MP.Raw
set_option Elab.async false
set_option linter.all false
set_option maxRecDepth 100000
set_option maxHeartbeats 4000000
namespace MP.Raw
open PySem
end MP.Raw
set_option Elab.async false
set_option linter.all false
set_option maxRecDepth 100000
set_option maxHeartbeats 4000000
namespace MP.Raw
open PySem
end MP.Raw
namespace MP
open PySem PySem.Spec PyProof.Rows L2
end MP
set_option Elab.async false
set_option linter.all false
set_option maxRecDepth 100000
set_option maxHeartbeats 4000000
namespace MP
open PySem PySem.Spec PyProof.Rows L2 MP.Raw
end MP
set_option Elab.async false
set_option linter.all false
set_option maxRecDepth 100000
set_option maxHeartbeats 4000000
namespace MP
open PySem PySem.Spec PyProof.Rows L2
section
variable {X : Cx} {pins : List (Addr × Obj)} {σ : L2.St} {H : Hp} {s : Shared}
abbrev Fzn (o : Obj) : HO := .frz o (.own 0)
end
/-- a lambda, as it is written -/
structure LamW where
  params : Arguments
  body : Expr
  scope : Scope
/-- at f: that lambda, made by the def at hand -/
def LamAt (X : Cx) (L : LamW) (H : Hp) (μ : Mu) (Z : Zs) (f : Addr) : Prop := ∃ (c' : Addr) (dV doc ctv : Value) (tl : List (Addr × Obj)),
  H f = some (Fzn (lamObj (X.env.qual ++ "<lambda>") L.params L.body L.scope (cloFrom X.env.cells L.scope.names []) dV doc ((X.mg "__name__").getD .none) c' ctv)) ∧ Fz μ Z f ∧ H c' = some (LamX.CodeO c' (X.env.qual ++ "<lambda>")) ∧ Fz μ Z c' ∧
  (∀ p ∈ tl, H p.1 = some (Fzn p.2) ∧ Fz μ Z p.1) ∧
  ∀ s1 : Shared, (∀ p ∈ tl, s1.heap.get? p.1 = some p.2) → ∃ binds, BindsTo s1 (lamFd (X.env.qual ++ "<lambda>") L.params L.body L.scope (cloFrom X.env.cells L.scope.names []) dV doc ((X.mg "__name__").getD .none) c' ctv) ⟨[], []⟩ binds ∧ ∀ y ∈ binds, L.scope.names.lookup y.1 = some .local
theorem LamAt.mono {X : Cx} {L : LamW} {H H' : Hp} {μ μ' : Mu} {Z : Zs} {f : Addr} (e : Evo H μ H' μ') (h : LamAt X L H μ Z f) : LamAt X L H' μ' Z f := by
  obtain ⟨c', dV, doc, ctv, tl, h1, h2, h3, h4, h5, h6⟩ := h
  have al : ∀ {a : Addr} {o : HO}, H a = some o → H a ≠ none := fun q z => by rw [q] at z; cases z
  exact ⟨c', dV, doc, ctv, tl, e.keep _ _ h1 h2.1, e.fz (al h1) h2, e.keep _ _ h3 h4.1, e.fz (al h3) h4, fun p hp => ⟨e.keep _ _ (h5 p hp).1 (h5 p hp).2.1, e.fz (al (h5 p hp).1) (h5 p hp).2⟩, h6⟩
end MP
set_option Elab.async false
set_option linter.all false
set_option maxRecDepth 100000
set_option maxHeartbeats 4000000
namespace MP
open PySem PySem.Spec PyProof.Rows L2
mutual
def KRV (K : PySem.W.Frag) : Dv → Value → Prop
  | .int i, u => ∃ t, u = .int i t
  | .str x, u => ∃ t, u = .str x t
  | .tup ws, u => ∃ (a : Addr) (o : Obj) (its : Array Value) (n : Nat), u = .ref a ∧ K.lookup a = some o ∧ o.cls = .type "tuple" ∧ o.data = .seq its n ∧ its.size ≤ sizeLine ∧ KRVs K ws its.toList
  | _, _ => False
def KRVs (K : PySem.W.Frag) : List Dv → List Value → Prop
  | [], us => us = []
  | w :: ws, us => ∃ u r, us = u :: r ∧ KRV K w u ∧ KRVs K ws r
end
mutual
theorem krv_ok {Γ : Ct} {H : Hp} {μ : Mu} {Z : Zs} : ∀ (w : Dv) {u : Value}, KRV Γ.K w u → ∃ v, RelV v u ∧ RV Γ H μ Z w v
  | .int i, _, h => ⟨.int i, h, rfl⟩
  | .str x, _, h => ⟨.str x, h, rfl⟩
  | .tup ws, _, h => by
    obtain ⟨a, o, its, n, rfl, h1, h2, h3, h4, h5⟩ := h
    obtain ⟨vs, g1, g2⟩ := krvs_ok (Γ := Γ) (H := H) (μ := μ) (Z := Z) ws h5
    exact ⟨.ref a, rfl, a, vs, rfl, .inr ⟨o, its, n, h1, h2, h3, h4, g1⟩, g2⟩
  | .non, _, h => h.elim
  | .bl _, _, h => h.elim
  | .ty _, _, h => h.elim
  | .cl _, _, h => h.elim
  | .ref _, _, h => h.elim
  | .lst _, _, h => h.elim
  | .sq _, _, h => h.elim
  | .dct _ _, _, h => h.elim
  | .dtt _ _, _, h => h.elim
  | .exc _ _ _, _, h => h.elim
  | .exn _, _, h => h.elim
  | .clo _ _ _ _ _, _, h => h.elim
theorem krvs_ok {Γ : Ct} {H : Hp} {μ : Mu} {Z : Zs} : ∀ (ws : List Dv) {us : List Value}, KRVs Γ.K ws us → ∃ vs, Vals vs us ∧ RVs Γ H μ Z ws vs
  | [], _, h => by rw [show _ = [] from h]; exact ⟨[], .nil, rfl⟩
  | w :: ws, _, h => by
    obtain ⟨u, r, rfl, h1, h2⟩ := h
    obtain ⟨v, g1, g2⟩ := krv_ok (Γ := Γ) (H := H) (μ := μ) (Z := Z) w h1
    obtain ⟨vs, g3, g4⟩ := krvs_ok (Γ := Γ) (H := H) (μ := μ) (Z := Z) ws h2
    exact ⟨v :: vs, .cons g1 g3, RVs.cons g2 g4⟩
end
mutual
def krvB (K : PySem.W.Frag) : Dv → Value → Bool
  | .int i, .int j _ => decide (i = j)
  | .str x, .str y _ => decide (x = y)
  | .tup ws, .ref a => match K.lookup a with
    | some ⟨.type T, _, .seq its _, _⟩ => decide (T = "tuple") && (decide (its.size ≤ 1000) && krvsB K ws its.toList)
    | _ => false
  | _, _ => false
def krvsB (K : PySem.W.Frag) : List Dv → List Value → Bool
  | [], [] => true
  | w :: ws, u :: us => krvB K w u && krvsB K ws us
  | _, _ => false
end
mutual
theorem krvB_ok {K : PySem.W.Frag} : ∀ (w : Dv) {u : Value}, krvB K w u = true → KRV K w u
  | .int i, u, h => by
    cases u <;> first | (exact ⟨_, by rw [of_decide_eq_true h]⟩) | (simp [krvB] at h)
  | .str x, u, h => by
    cases u <;> first | (exact ⟨_, by rw [of_decide_eq_true h]⟩) | (simp [krvB] at h)
  | .tup ws, u, h => by
    cases u with
    | ref a =>
      unfold krvB at h
      split at h
      · rename_i T od its n sl e
        rw [Bool.and_eq_true, Bool.and_eq_true] at h
        obtain ⟨h1, h2, h3⟩ := h
        exact ⟨a, _, its, n, rfl, e, by rw [of_decide_eq_true h1], rfl, Nat.le_trans (of_decide_eq_true h2) (by rw [sizeLine_eq]; decide), krvsB_ok ws h3⟩
      · cases h
    | _ => simp [krvB] at h
  | .non, u, h => by cases u <;> simp [krvB] at h
  | .bl _, u, h => by cases u <;> simp [krvB] at h
  | .ty _, u, h => by cases u <;> simp [krvB] at h
  | .cl _, u, h => by cases u <;> simp [krvB] at h
  | .ref _, u, h => by cases u <;> simp [krvB] at h
  | .lst _, u, h => by cases u <;> simp [krvB] at h
  | .sq _, u, h => by cases u <;> simp [krvB] at h
  | .dct _ _, u, h => by cases u <;> simp [krvB] at h
  | .dtt _ _, u, h => by cases u <;> simp [krvB] at h
  | .exc _ _ _, u, h => by cases u <;> simp [krvB] at h
  | .exn _, u, h => by cases u <;> simp [krvB] at h
  | .clo _ _ _ _ _, u, h => by cases u <;> simp [krvB] at h
theorem krvsB_ok {K : PySem.W.Frag} : ∀ (ws : List Dv) {us : List Value}, krvsB K ws us = true → KRVs K ws us
  | [], us, h => by
    cases us with
    | nil => rfl
    | cons _ _ => simp [krvsB] at h
  | w :: ws, us, h => by
    cases us with
    | nil => simp [krvsB] at h
    | cons u r =>
      simp only [krvsB, Bool.and_eq_true] at h
      exact ⟨u, r, rfl, krvB_ok w h.1, krvsB_ok ws h.2⟩
end
theorem me_globT {X : Cx} {Γ : Ct} {W : WX} {x : Str} {w : Dv} {pos : Pos} (hK : Γ.K = X.K) (hg : Gl X x) (hm : ∃ u, X.mg x = some u ∧ KRV Γ.K w u) (hd : (x == ("__debug__" : Str)) = false := by decide) : ME X Γ W (.Name x pos) (mK w) := by
  obtain ⟨u, h, hk⟩ := hm
  refine ⟨fun pins s σ H Q I ⟨μ, Z, ρ, st, hE, hR, q⟩ => ?_⟩
  obtain ⟨v, g1, g2⟩ := krv_ok (Γ := Γ) (H := H) (μ := μ) (Z := Z) w hk
  exact ld_glob I hg h ⟨v, H, I, g1, okE hR g2 q⟩ hd
end MP
namespace MP
open PySem PySem.Spec PyProof.Rows L2
theorem me_cal0 {X : Cx} {Γ : Ct} {W : WX} {k : Nat} {den : Fn} {x : Str} {p pos : Pos} (C : Cal X.prog X.w X.mg X.base Γ k x [] den) (hK : Γ.K = X.K) (hr : Room k X.A) (hg : X.A.guards = some []) (tk : Takes X W) (hgl : Gl X x) (hdb : (x == ("__debug__" : Str)) = false := by decide) :
    ME X Γ W (.Call (.Name x p) [] [] pos) (mCall den mNil) := by
  obtain ⟨f, fd, F, hm, hk, hb⟩ := C
  refine ⟨fun pins s σ H Q I ⟨μ, Z, ρ, s0, hE, hR, q⟩ => ?_⟩
  refine wpAny_Call_Name_kw (ld_glob I hgl hm ?_ hdb)
  exact PySem.W.callWith_K0 I.kIn (hK ▸ hk) (run_G (us := []) (vs := []) (ds := []) (dvs := []) F hK hr hg (hK ▸ hb) .nil tk I .nil ⟨rfl, μ, Z, s0, [], hR, rfl, post_call q⟩)
end MP
set_option Elab.async false
set_option linter.all false
set_option maxRecDepth 100000
set_option maxHeartbeats 4000000
namespace MP
open PySem PySem.Spec PyProof.Rows L2
end MP
namespace MP
open PySem PySem.Spec PyProof.Rows L2
end MP
set_option Elab.async false
set_option linter.all false
set_option maxRecDepth 100000
set_option maxHeartbeats 4000000
namespace MP
open PySem PySem.Spec PyProof.Rows L2
end MP
set_option Elab.async false
set_option linter.all false
set_option maxRecDepth 100000
set_option maxHeartbeats 4000000
namespace MP
open PySem PySem.Spec PyProof.Rows L2
section
variable {X : Cx} {Γ : Ct} {W : WX} {c k n : Nat} {g : Addr} {m : Str} {ps ks : List Str} {den : Fn} {o e : Expr} {es : List Expr} {fo f : FE} {fa : FA} {pos apos p : Pos} {kws : List Keyword} {nm : Option Str} {kpos : Pos}
theorem Binds.at {K : PySem.W.Frag} {fd : FuncData} {s : Shared} {us : List Value} (hb : Binds K fd ps []) (hk : K.In s.heap) (hl : us.length = ps.length) : BindsTo s fd ⟨us, []⟩ (ps.zip us) := by
  have := hb s us hk (by rw [List.append_nil]; exact hl)
  rwa [List.append_nil] at this
end
end MP
set_option Elab.async false
set_option linter.all false
set_option maxRecDepth 100000
set_option maxHeartbeats 4000000
namespace MP
open PySem PySem.Spec PyProof.Rows L2
end MP
set_option Elab.async false
set_option linter.all false
set_option maxRecDepth 100000
set_option maxHeartbeats 4000000
namespace MP
open PySem PySem.Spec PyProof.Rows L2
end MP
set_option Elab.async false
set_option linter.all false
set_option maxRecDepth 100000
set_option maxHeartbeats 4000000
namespace MP
open PySem PySem.Spec PyProof.Rows L2
end MP
set_option Elab.async false
set_option linter.all false
set_option maxRecDepth 100000
set_option maxHeartbeats 4000000
namespace MP
open PySem PySem.Spec PyProof.Rows L2
section
variable {prog : Program} {w : World} {A : Around} {E : Value → Shared → Prop} {s : Shared}
theorem sliceApplied_rev {sl : Addr} {vs : Value} {n : Nat} {Q : Int × Int × Nat → Shared → Prop} (hs : s.heap.IsSliceOf sl .none .none vs) (ps : IsPart vs (some (-1)))
    (h : Q ((n : Int) - 1, -1, n) s) : wpAny (model prog w) A (Builtin.Slice.sliceApplied (.ref sl) (pure (n : Int))) Q E s := by
  obtain ⟨os, hos, hcs, hds⟩ := id hs
  unfold Builtin.Slice.sliceApplied Builtin.Slice.sliceFields
  refine wpAny_bind (wpAny_bind (wpAny_field hos hds (x := .none) rfl (wpAny_bind (wpAny_field hos hds (x := .none) rfl (wpAny_bind (wpAny_field hos hds (x := vs) rfl (wpAny_pure ?_)))))))
  refine wpAny_bind (HT.slicePart_ ps ?_)
  show wpAny _ _ (if ((-1 : Int) == 0) = true then _ else _) _ _ s
  rw [if_neg (by decide)]
  refine wpAny_bind (HT.slicePart_ .none (wpAny_bind (HT.slicePart_ .none (wpAny_bind (wpAny_pure ?_)))))
  have e1 : Builtin.Slice.sliceAdjust none none (-1) (n : Int) = ((n : Int) - 1, -1) := by
    unfold Builtin.Slice.sliceAdjust
    rfl
  have e2 : Builtin.Slice.slicePlaces ((n : Int) - 1) (-1) (-1) = n := by
    unfold Builtin.Slice.slicePlaces
    rw [if_neg (by decide)]
    by_cases h0 : (n : Int) - 1 > -1
    · rw [if_pos h0, show (-(-1) : Int) = 1 from rfl, Int.ediv_one]
      omega
    · rw [if_neg h0]
      show 0 = n
      omega
  show wpAny _ _ (match Builtin.Slice.sliceAdjust none none (-1) (n : Int) with | (lo, hi) => pure (lo, (-1 : Int), Builtin.Slice.slicePlaces lo hi (-1))) _ _ s
  rw [e1]
  show wpAny _ _ (pure ((n : Int) - 1, (-1 : Int), Builtin.Slice.slicePlaces ((n : Int) - 1) (-1) (-1))) _ _ s
  rw [e2]
  exact wpAny_pure h
theorem pick_rev (xs : Array Value) : ((List.range xs.size).filterMap fun (m : Nat) => xs[(((xs.size : Int) - 1) + (m : Int) * (-1)).toNat]?).toArray = xs.toList.reverse.toArray := by
  have e : ((List.range xs.size).filterMap fun (m : Nat) => xs[(((xs.size : Int) - 1) + (m : Int) * (-1)).toNat]?) = ((List.range xs.size).map (fun k => xs.size - 1 - k)).filterMap (xs[·]?) := by
    rw [List.filterMap_map]
    congr 1
    funext m
    show xs[(((xs.size : Int) - 1) + (m : Int) * (-1)).toNat]? = xs[xs.size - 1 - m]?
    rw [show (((xs.size : Int) - 1) + (m : Int) * (-1)).toNat = xs.size - 1 - m by omega]
  rw [e, PySem.W.krv_range, List.filterMap_reverse, PySem.W.krv_all]
theorem getItem_tuple_rev {t sl : Addr} {items : Array Value} {vs : Value} {Q : Value → Shared → Prop} (ht : IsTup s.heap t items) (hs : s.heap.IsSliceOf sl .none .none vs) (ps : IsPart vs (some (-1)))
    (h : Q (.ref s.heap.objs.size) { s with heap := s.heap.push { cls := .type "tuple", data := .seq items.toList.reverse.toArray } })
    (hsz : items.size ≤ sizeLine) : wpAny (model prog w) A (getItem (.ref t) (.ref sl)) Q E s := by
  have htake : sizeOk (.seq items.toList.reverse.toArray) := by
    show items.toList.reverse.toArray.size ≤ sizeLine
    rw [List.size_toArray, List.length_reverse, Array.length_toList]
    omega
  obtain ⟨os, hos, hcs, hds⟩ := id hs
  have hTs : s.TypeIs (.ref sl) "slice" := ⟨os, hos, hcs⟩
  unfold getItem
  try with_reducible refine wpAny_holding ?_
  first | refine wpAny_bind (wpAny_pure ?_) | skip
  refine wpAny_bind (wpAny_sequenceKey ht.typeIs (by decide) ?_)
  refine wpAny_bind (wpAny_callSpecial?_slot (name := Str.ofString "__getitem__") ht.typeIs PyProof.Rows.slot_tuple_getitem
    (wpAny_call_entry PyProof.Rows.slot_tuple_getitem ht.typeIs entry_tuple_getitem ?_ (args_tuple_getitem _ _)))
  show wpAny _ _ (Builtin.Tuple.tupleItemsOf (.ref t) >>= _) _ _ s
  refine wpAny_bind (PyProof.Rows.tupleItemsOf_ ht ?_)
  refine wpAny_bind (wpAny_typeOf hTs ?_)
  rw [if_pos (by decide)]
  refine wpAny_bind (sliceApplied_rev hs ps ?_)
  have hno : ¬ ((((items.size : Int) - 1 == 0 && (-1 : Int) == 1 && items.size == items.size)) = true) := by
    rw [show ((-1 : Int) == 1) = false from rfl, Bool.and_false, Bool.false_and]
    exact Bool.false_ne_true
  show wpAny _ _ (if (((items.size : Int) - 1 == 0 && (-1 : Int) == 1 && items.size == items.size)) = true then _ else _) _ _ s
  rw [if_neg hno, pick_rev]
  first
    | exact wpAny_bind (m := Builtin.Tuple.tupleExact _) (wpAny_newObj_type (wpAny_pure ⟨_, rfl, wpAny_pure h⟩) htake)
    | exact wpAny_bind (m := Builtin.Tuple.tupleExact _) (wpAny_newObj_type (wpAny_bind (wpAny_pure (wpAny_pure ⟨_, rfl, wpAny_pure h⟩))) htake)
    | exact wpAny_bind (wpAny_bind (m := Builtin.Tuple.tupleExact _) (wpAny_newObj_type (wpAny_pure (wpAny_pure ⟨_, rfl, wpAny_pure h⟩)) htake))
    | exact wpAny_bind (wpAny_bind (m := Builtin.Tuple.tupleExact _) (wpAny_newObj_type (wpAny_pure ⟨_, rfl, wpAny_pure h⟩) htake))
end
section
variable {X : Cx} {e : Expr} {te : TE}
def tRevT (K : PySem.W.Frag) (te : TE) : TE := fun σ H Q => te σ H fun x H1 => ∃ a xs, x = .ref a ∧ SqT K H1 a xs ∧ ∀ p, H1 p = none → Q (.ref p) (upd H1 p (.tup xs.reverse))
theorem pe_revT {k : Nat} {p1 p2 p3 pos : Pos} (he : PE X e te) : PE X (.Subscript e (.Slice none none (some (.UnaryOp .USub (.Constant (.int 1) k p1) p2)) p3) pos) (tRevT X.K te) := by
  refine ⟨fun pins s σ H Q I h => ?_⟩
  refine Subscript_ (thn (he.run pins s σ H _ I h) fun v s1 ⟨x, H1, I1, r1, q1⟩ => ?_)
  obtain ⟨a, xs, ex, hx, q⟩ := q1
  subst ex
  cases r1
  have hst : PO X (some (.UnaryOp .USub (.Constant (.int 1) k p1) p2)) (tPart (tUn (rU fun i => .int (-i)) (tC (.int 1)))) := po_some (pe_un un_neg pe_int)
  refine wpAny_Slice ?_
  rw [evalPart_none]
  refine wpAny_pure (wpAny_pure ?_)
  refine thn (hst.run pins s1 σ H1 (fun o H4 => o = some (-1) ∧ H4 = H1) I1 ⟨1, rfl, -1, rfl, rfl, rfl⟩) fun vs s4 ⟨o, H4, I4, ps, eo, e4⟩ => ?_
  subst eo e4
  have I5 : Inv X pins σ H4 { s4 with heap := s4.heap.push { cls := .type "slice", data := .fields #[.none, .none, vs] } } := I4.kept (t' := s4.toks) fun b ob q => Heap.get?_push_of_some _ q
  obtain ⟨its, r, ht, hz⟩ := I5.tuple hx
  have hlen := r.length
  show wpAny (model X.prog X.w) X.A (subscriptTail e (.Slice none none (some (.UnaryOp .USub (.Constant (.int 1) k p1) p2)) p3) (.ref a) (.ref s4.heap.objs.size)) (EP X pins σ Q) X.xe { s4 with heap := s4.heap.push { cls := .type "slice", data := .fields #[.none, .none, vs] } }
  refine tail_any (ops := [.ref a, .ref s4.heap.objs.size]) ht.typeIs (PyProof.Rows.slot_tuple_getitem.lookup) ?_ (by with_unfolding_all rfl)
  refine getItem_tuple_rev ht (Heap.IsSliceOf.new _ .none .none vs) ps ?_ (by rw [List.size_toArray]; omega)
  refine ⟨.ref _, _, I5.laid (t' := s4.toks) (o := .tup xs.reverse) (fun b ob q => Heap.get?_push_of_some _ q) (Nat.le_refl _) ?_, rfl, q _ (I5.hok.fresh (Nat.le_refl _))⟩
  exact ⟨by rw [List.length_reverse]; exact hz, _, r.reverse, IsTup.new _ _⟩
end
section
variable {X : Cx} {Γ : Ct} {W : WX} {e a b : Expr} {f g : FE} {pos : Pos}
theorem RVs.rev {H : Hp} {μ : Mu} {Z : Zs} : ∀ {ws : List Dv} {xs : List V}, RVs Γ H μ Z ws xs → RVs Γ H μ Z ws.reverse xs.reverse
  | [], _, h => by rw [show _ = [] from h]; exact rfl
  | w :: ws, _, h => by
    obtain ⟨x, xs, rfl, h2, h3⟩ := h
    rw [List.reverse_cons, List.reverse_cons]
    exact RVs.append (RVs.rev h3) (RVs.cons h2 RVs.nil)
/-- e[::-1] -/
def revD (s : Sto) (x : Dv) : Option Dv := match lstOrSq s x with
  | some ws => some (.lst ws.reverse)
  | none => match x with
    | .tup ws => some (.tup ws.reverse)
    | _ => none
def mRev (f : FE) : FE := fun ρ s => (f ρ s).bind fun x s1 => R.of (revD s1 x) s1
theorem me_rev {k : Nat} {p1 p2 p3 : Pos} (hK : Γ.K = X.K) (he : ME X Γ W e f) : ME X Γ W (.Subscript e (.Slice none none (some (.UnaryOp .USub (.Constant (.int 1) k p1) p2)) p3) pos) (mRev f) :=
  PE.imp (PE.or (pe_revL he) (pe_revT he)) fun σ H Q ⟨μ, Z, ρ, s, hE, hR, q⟩ => by
    have key : (∃ μ Z ρ s, RE Γ H μ Z ρ σ ∧ Rep Γ H μ Z s ∧ PostE Γ W H μ Z σ Q ((f ρ s).bind fun x s1 => R.of ((lstOrSq s1 x).map fun ws => Dv.lst ws.reverse) s1)) ∨ (∃ μ Z ρ s, RE Γ H μ Z ρ σ ∧ Rep Γ H μ Z s ∧ PostE Γ W H μ Z σ Q ((f ρ s).bind fun x s1 => R.of (match x with | .tup ws => some (.tup ws.reverse) | _ => none) s1)) := by
      have q0 : PostE Γ W H μ Z σ Q ((f ρ s).bind fun x s1 => R.of (revD s1 x) s1) := q
      cases e1 : f ρ s with
      | no => rw [e1] at q0; exact q0.elim
      | er x s1 => rw [e1] at q0; exact .inl ⟨μ, Z, ρ, s, hE, hR, by rw [e1]; exact q0⟩
      | ok x s1 =>
        rw [e1, bind_ok] at q0
        cases e2 : lstOrSq s1 x with
        | some ws => exact .inl ⟨μ, Z, ρ, s, hE, hR, by rw [e1, bind_ok, e2]; unfold revD at q0; rw [e2] at q0; exact q0⟩
        | none => exact .inr ⟨μ, Z, ρ, s, hE, hR, by rw [e1, bind_ok]; unfold revD at q0; rw [e2] at q0; exact q0⟩
    rcases key with ⟨μ, Z, ρ, s, hE, hR, q⟩ | ⟨μ, Z, ρ, s, hE, hR, q⟩
    · refine .inl (eE hE hR q fun x s1 u H1 μ1 e1 hE1 R1 r1 q1 => ?_)
      cases e2 : lstOrSq s1 x with
      | none => rw [e2] at q1; exact q1.elim
      | some ws =>
        rw [e2] at q1
        obtain ⟨p, xs, h1, h2, h3⟩ := lstOrSq_ok R1 r1 e2
        refine ⟨p, xs, h1, hK ▸ h2, fun t ht => ?_⟩
        obtain ⟨w, hw, k⟩ := ofE q1
        cases hw
        exact k _ _ (Evo.laid ht) (R1.laid ht) (new_lst R1 ht h3.rev)
    · refine .inr (eE hE hR q fun x s1 u H1 μ1 e1 hE1 R1 r1 q1 => ?_)
      cases x with
      | tup ws =>
        obtain ⟨p, xs, h1, h2, h3⟩ := r1
        refine ⟨p, xs, h1, hK ▸ h2.sq, fun t ht => ?_⟩
        obtain ⟨w, hw, k⟩ := ofE q1
        cases hw
        exact k _ _ (Evo.laid ht) (R1.laid ht) (new_tup R1 ht h3.rev)
      | _ => exact q1.elim
end
end MP
set_option Elab.async false
set_option linter.all false
set_option maxRecDepth 100000
set_option maxHeartbeats 4000000
namespace MP
open PySem PySem.Spec PyProof.Rows L2
section
variable {X : Cx} {Γ : Ct} {W : WX} {e a b : Expr} {f g : FE} {pos : Pos}
def divmodD : ON := fun _ xs => match xs with
  | [.int i, .int j] => if 0 < j ∧ j < 1073741824 then some (.tup [.int (i / j), .int (i % j)]) else none
  | _ => none
theorem sDivmod : OpN Γ (fun xs H Q => ∃ i j, xs = [.int i, .int j] ∧ CDiv i j ∧ ∀ p, H p = none → Q (.ref p) (upd H p (.tup [.int (i / j), .int (i % j)]))) divmodD := fun H μ Z s xs w vs Q hR rx e k => by
  unfold divmodD at e
  split at e
  · rename_i i j
    split at e
    · rename_i hc
      cases e
      obtain ⟨x, t, rfl, r1, y, t2, rfl, r2, r3⟩ := rx
      refine ⟨i, j, by rw [show x = .int i from r1, show y = .int j from r2, show t2 = [] from r3], hc, fun p hp => ?_⟩
      exact k _ _ (Evo.laid hp) (hR.laid hp) (new_tup hR hp (RVs.cons rfl (RVs.cons rfl rfl)))
    · cases e
  · cases e
/-- the ints b - 1 .. a -/
def rngR (a b : Int) : List Dv := (List.range (b - a).toNat).map fun (i : Nat) => .int (b - 1 - i)
theorem walk_rc {H : Hp} {μ : Mu} {Z : Zs} {a b : Int} : Walks Γ Z H μ none (Itc (a + (((b - a).toNat : Nat) : Int) - 1) (-1) (b - a).toNat) (rngR a b) := fun H' μ' Z' s' ev hR hy hz _ => by
  have hl : (rngR a b).length = (b - a).toNat := by unfold rngR; rw [List.length_map, List.length_range]
  refine ⟨by rw [hl]; exact Nat.le_refl _, fun i w e => ?_⟩
  unfold rngR at e
  rw [List.getElem?_map] at e
  cases e1 : (List.range (b - a).toNat)[i]? with
  | none => rw [e1] at e; cases e
  | some j =>
    rw [e1] at e
    cases e
    obtain ⟨h1, h2⟩ := List.getElem?_eq_some_iff.mp e1
    rw [List.length_range] at h1
    rw [List.getElem_range] at h2
    subst h2
    refine ⟨h1, fun x H'' hq => ?_⟩
    obtain ⟨rfl, rfl⟩ := hq
    refine ⟨.refl, hR, ?_⟩
    show V.int _ = V.int _
    congr 1
    omega
def iRevR2 (f g : FE) : FI := fun ρ s => (f ρ s).bind fun x s1 => (g ρ s1).bind fun y s2 => match x, y with
  | .int i, .int j => if okR i = true ∧ okR j = true then .ok { ws := rngR i j } s2 else .no
  | _, _ => .no
theorem mi_revR2 {tg : Expr} {p p2 pos2 : Pos} (hg : Gl X "reversed") (hm : X.mg "reversed" = none) (hg2 : Gl X "range") (hm2 : X.mg "range" = none) (ha : ME X Γ W a f) (hb : ME X Γ W b g)
    (na : starEach [a, b] X.env = (false, eval a X.env) :: starEach [b] X.env := by rfl) (nb : starEach [b] X.env = (false, eval b X.env) :: starEach [] X.env := by rfl) (hp : (backTo pos2 (starEach [b] X.env)).any (·.1) = false := by rfl)
    (nc : starEach [.Call (.Name "range" p2) [a, b] [] pos2] X.env = (false, eval (.Call (.Name "range" p2) [a, b] [] pos2) X.env) :: starEach [] X.env := by rfl) :
    MI X Γ W tg (.Call (.Name "reversed" p) [.Call (.Name "range" p2) [a, b] [] pos2] [] pos) (iRevR2 f g) :=
  PI.imp (pi_revR hg hm (prg_2 hg2 hm2 ha hb na nb hp) nc) fun σ H R ⟨μ, Z, ρ, s, hE, hR, q⟩ => by
    refine iI hE hR q fun x s1 u H1 μ1 e1 E1 R1 r1 q1 => ?_
    refine iI E1 R1 q1 fun y s2 v H2 μ2 e2 E2 R2 r2 q2 => ?_
    have rx := r1.mono e2
    cases x with
    | int i =>
      cases y with
      | int j =>
        replace q2 : PostI Γ W H2 μ2 Z σ R (if okR i = true ∧ okR j = true then .ok { ws := rngR i j } s2 else .no) := q2
        split at q2
        · rename_i hc
          have hi : -(2 ^ 62) ≤ i ∧ i < 2 ^ 62 := of_decide_eq_true hc.1
          have hj : -(2 ^ 62) ≤ j ∧ j < 2 ^ 62 := of_decide_eq_true hc.2
          exact ⟨i, j, rx, r2, hi.1, hi.2, hj.1, hj.2, q2 _ _ _ .refl R2 walk_rc⟩
        · exact q2.elim
      | _ => exact q2.elim
    | _ => exact q2.elim
/-- the first place of an int -/
def firstI (i : Int) : Nat → List Dv → Option Nat
  | _, [] => none
  | k, .int j :: ws => if j = i then some k else firstI i (k + 1) ws
  | _, _ :: _ => none
def allInt : List Dv → Bool
  | [] => true
  | .int _ :: ws => allInt ws
  | _ :: _ => false
def mIndex (f g : FE) : FE := fun ρ s => (f ρ s).bind fun x s1 => match lstOrSq s1 x with
  | none => .no
  | some _ => (g ρ s1).bind fun y s2 => match lstOrSq s2 x, y with
    | some ws, .int i => if allInt ws = true then match firstI i 0 ws with
        | some k => .ok (.int k) s2
        | none => .no
      else .no
    | _, _ => .no
theorem first_spec {H : Hp} {μ : Mu} {Z : Zs} {i : Int} : ∀ {ws : List Dv} {xs : List V} {k j : Nat}, RVs Γ H μ Z ws xs → allInt ws = true → firstI i k ws = some j → k ≤ j ∧ xs[j - k]? = some (.int i) ∧ (∀ (m : Nat) (z : V), m < j - k → xs[m]? = some z → eqV z (.int i) = false)
  | [], _, _, _, _, _, h => by cases h
  | w :: ws, _, k, j, r, ha, h => by
    obtain ⟨x, xs, rfl, r1, r2⟩ := r
    cases w with
    | int n =>
      obtain rfl : x = .int n := r1
      unfold firstI at h
      split at h
      · rename_i hn
        cases h
        subst hn
        exact ⟨Nat.le_refl _, by rw [Nat.sub_self]; rfl, fun m z hm => absurd hm (by omega)⟩
      · rename_i hn
        obtain ⟨h1, h2, h3⟩ := first_spec (k := k + 1) r2 ha h
        refine ⟨by omega, ?_, fun m z hm hz => ?_⟩
        · rw [show j - k = (j - (k + 1)) + 1 by omega, List.getElem?_cons_succ]
          exact h2
        · cases m with
          | zero =>
            cases hz
            show (n == i) = false
            exact beq_eq_false_iff_ne.mpr hn
          | succ m =>
            rw [List.getElem?_cons_succ] at hz
            exact h3 m z (by omega) hz
    | _ => cases ha
theorem flat_ints {H : Hp} {μ : Mu} {Z : Zs} : ∀ {ws : List Dv} {xs : List V}, RVs Γ H μ Z ws xs → allInt ws = true → xs.all flatV = true
  | [], _, r, _ => by rw [show _ = [] from r]; rfl
  | w :: ws, _, r, ha => by
    obtain ⟨x, xs, rfl, r1, r2⟩ := r
    cases w with
    | int n =>
      obtain rfl : x = .int n := r1
      rw [List.all_cons, flat_ints r2 ha]
      rfl
    | _ => cases ha
theorem me_index (hK : Γ.K = X.K) (h : PE X e (tBM Γ.K "list" (rIndex X.K) (rdE Γ W f) (tCons (rdE Γ W g) tNil))) : ME X Γ W e (mIndex f g) :=
  PE.imp h fun σ H Q ⟨μ, Z, ρ, s, hE, hR, q⟩ => eE hE hR q fun x s1 u H1 μ1 e1 hE1 R1 r1 q1 => by
    cases e0 : lstOrSq s1 x with
    | none => rw [e0] at q1; exact q1.elim
    | some ws0 =>
      rw [e0] at q1
      dsimp only at q1
      obtain ⟨p, xs, h1, h2, h3⟩ := lstOrSq_ok R1 r1 e0
      subst h1
      refine ⟨.inl ⟨rfl, xs, h2⟩, ?_⟩
      refine eE hE1 R1 q1 fun y s2 v H2 μ2 e2 hE2 R2 r2 q2 => ?_
      cases e3 : lstOrSq s2 x with
      | none => rw [e3] at q2; exact q2.elim
      | some ws =>
        rw [e3] at q2
        cases y with
        | int i =>
          replace q2 : PostE Γ W H2 μ2 Z σ Q (if allInt ws = true then match firstI i 0 ws with
              | some k => .ok (.int k) s2
              | none => .no
            else .no) := q2
          split at q2
          · rename_i ha
            cases e4 : firstI i 0 ws with
            | none => rw [e4] at q2; exact q2.elim
            | some k =>
              rw [e4] at q2
              obtain ⟨p', ys, k1, k2, k3⟩ := lstOrSq_ok R2 (r1.mono e2) e3
              obtain ⟨f1, f2, f3⟩ := first_spec k3 ha e4
              rw [Nat.sub_zero] at f2 f3
              cases k1
              exact ⟨p, ys, .int i, k, .int i, rfl, by rw [show v = .int i from r2], hK ▸ k2, rfl, flat_ints k3 ha, f2, (by show (i == i) = true; exact beq_self_eq_true i), f3, q2 _ H2 μ2 .refl R2 rfl⟩
          · exact q2.elim
        | _ => exact q2.elim
end
end MP
set_option Elab.async false
set_option linter.all false
set_option maxRecDepth 100000
set_option maxHeartbeats 4000000
namespace MP
open PySem PySem.Spec PyProof.Rows L2
section
variable {X : Cx} {Γ : Ct} {W : WX}
def minO (d : Int) : List Int → Int
  | [] => d
  | n :: ns => ns.foldl min n
theorem foldl_min_le : ∀ (ns : List Int) (n : Int), ns.foldl min n ≤ n ∧ ∀ m ∈ ns, ns.foldl min n ≤ m
  | [], n => ⟨Int.le_refl _, fun _ h => nomatch h⟩
  | a :: ns, n => by
    obtain ⟨h1, h2⟩ := foldl_min_le ns (min n a)
    refine ⟨Int.le_trans h1 (by omega : min n a ≤ n), fun m hm => ?_⟩
    rcases List.mem_cons.mp hm with rfl | hm
    · exact Int.le_trans h1 (by omega : min n m ≤ m)
    · exact h2 m hm
theorem foldl_min_mem : ∀ (ns : List Int) (n : Int), ns.foldl min n ∈ n :: ns
  | [], n => List.mem_cons_self
  | a :: ns, n => by
    have := foldl_min_mem ns (min n a)
    show ns.foldl min (min n a) ∈ _
    rcases List.mem_cons.mp this with h | h
    · rw [h]
      by_cases q : a ≤ n
      · rw [show min n a = a by omega]; exact List.mem_cons_of_mem _ List.mem_cons_self
      · rw [show min n a = n by omega]; exact List.mem_cons_self
    · exact List.mem_cons_of_mem _ (List.mem_cons_of_mem _ h)
theorem minO_uniq {d m : Int} {ns : List Int} (h : m ∈ ns) (h2 : ∀ y ∈ ns, m ≤ y) : m = minO d ns := by
  cases ns with
  | nil => cases h
  | cons a ns =>
    have h3 := h2 _ (foldl_min_mem ns a)
    obtain ⟨h4, h5⟩ := foldl_min_le ns a
    show m = ns.foldl min a
    rcases List.mem_cons.mp h with rfl | h
    · omega
    · have := h5 m h; omega
/-- min(x), some ints -/
def minLD : ON := fun s xs => match xs with
  | [x] => match lstOf s x with
    | some ws => match intsOf ws with
      | some (n :: ns) => some (.int (minO 0 (n :: ns)))
      | _ => none
    | none => none
  | _ => none
theorem sMinL (hK : Γ.K = X.K) : OpN Γ (rMin X.K) minLD := fun H μ Z s xs w vs Q hR rx e k => by
  rw [← hK]
  unfold minLD at e
  split at e
  · rename_i y
    split at e
    · rename_i ws q
      split at e
      · rename_i n ns q2
        cases e
        obtain ⟨v, rfl, r1⟩ := one rx
        obtain ⟨a, ys, rfl, h2, h3⟩ := lstOf_ok hR r1 q
        rw [intsOf_ok q2] at h3
        have h4 := h3.ints
        subst h4
        refine ⟨a, n :: ns, rfl, SqL.of h2, Nat.succ_pos _, fun m hm h => ?_⟩
        rw [minO_uniq (d := 0) hm h]
        exact k _ H .refl hR rfl
      · cases e
    · cases e
  · cases e
end
def rngC (i c : Int) (n : Nat) : List Dv := (List.range n).map fun (k : Nat) => .int (i + k * c)
end MP
set_option Elab.async false
set_option linter.all false
set_option maxRecDepth 100000
set_option maxHeartbeats 4000000
namespace MP
open PySem PySem.Spec PyProof.Rows L2
end MP
set_option Elab.async false
set_option linter.all false
set_option maxRecDepth 100000
set_option maxHeartbeats 4000000
namespace MP
open PySem PySem.Spec PyProof.Rows L2
section
variable {X : Cx} {Γ : Ct} {W : WX}
def anyD (neg : Bool) (d : PyData) (ds : List PyData) : Bool := if neg = true then !(ds.any fun z => PyData.eqv z d) else ds.any fun z => PyData.eqv z d
def inT (neg : Bool) : O2 := fun s x y => match toD s x, toD s y with
  | some d, some (.tuple ds) => if SeqAt.shaped d = true ∧ SeqAt.shaped (.tuple ds) = true ∧ d.depth ≤ 60 then some (.bl (anyD neg d ds)) else none
  | _, _ => none
end
end MP
set_option Elab.async false
set_option linter.all false
set_option maxRecDepth 100000
set_option maxHeartbeats 4000000
namespace MP
open PySem PySem.Spec PyProof.Rows L2
section
variable {X : Cx} {Γ : Ct} {pins : List (Addr × Obj)} {σ : L2.St} {H : Hp} {s : Shared} {μ : Mu} {Z : Zs}
abbrev R3 (p : NestedKey × V × V) (q : NestedKey × Addr × Value) : Prop := p.1 = q.1 ∧ p.2.1 = .ref q.2.1 ∧ RelV p.2.2 q.2.2
end
end MP
set_option Elab.async false
set_option linter.all false
set_option maxRecDepth 100000
set_option maxHeartbeats 4000000
namespace MP
open PySem PySem.Spec PyProof.Rows L2
end MP
set_option Elab.async false
set_option linter.all false
set_option maxRecDepth 100000
set_option maxHeartbeats 4000000
namespace MP
open PySem PySem.Spec PyProof.Rows L2
end MP
set_option Elab.async false
set_option linter.all false
set_option maxRecDepth 100000
set_option maxHeartbeats 4000000
namespace MP
open PySem PySem.Spec PyProof.Rows L2
end MP
set_option Elab.async false
set_option linter.all false
set_option maxRecDepth 100000
set_option maxHeartbeats 4000000
namespace MPV
open PySem PySem.W MPZ
section
variable {prog : Program} {w : World} {A : Around} {E : Value → Shared → Prop} {s : Shared} {z TI TO T i1 i2 S : Addr} {f : Bool} {oT : Obj} {k n : Nat} {fp1 fp2 : List Addr} {P1 P2 : Nat → Value → Prop} {St1 St2 : Nat → Heap → Prop}
/-- the pairs, as new tuples above lo -/
structure Prs (P1 P2 : Nat → Value → Prop) (lo : Addr) (h : Heap) (as : List Addr) : Prop where
  rise : as.Pairwise (· < ·)
  over : ∀ a ∈ as, lo < a
  pair : ∀ (j : Nat) (a : Addr), as[j]? = some a → ∃ x y, P1 j x ∧ P2 j y ∧ IsTupOf2 h a x y
theorem Prs.keep {lo : Addr} {h g : Heap} {as : List Addr} (p : Prs P1 P2 lo h as) (hk : ∀ b u, lo < b → h.get? b = some u → g.get? b = some u) : Prs P1 P2 lo g as :=
  ⟨p.rise, p.over, fun j a q => let ⟨x, y, e1, e2, e3⟩ := p.pair j a q; ⟨x, y, e1, e2, hk a _ (p.over a (List.mem_of_getElem? q)) e3⟩⟩
end
end MPV
set_option Elab.async false
set_option linter.all false
set_option maxRecDepth 100000
set_option maxHeartbeats 4000000
namespace MP
open PySem PySem.Spec PyProof.Rows L2
end MP
set_option Elab.async false
set_option linter.all false
set_option maxRecDepth 100000
set_option maxHeartbeats 4000000
namespace MP
open PySem PySem.Spec PyProof.Rows L2
section
variable {X : Cx} {Γ : Ct} {W : WX}
def rMaxT (K : PySem.W.Frag) : List V → Hp → VK → Prop := fun vs H Q => ∃ (a : Addr) (ns : List Int), vs = [V.ref a] ∧ SqT K H a (ns.map V.int) ∧ 0 < ns.length ∧ ∀ m, m ∈ ns → (∀ y, y ∈ ns → y ≤ m) → Q (.int m) H
theorem cr_maxT (hc : X.calm = true) : CallR X (.builtin "max") (rMaxT X.K) := by
  intro pins s σ H vs us Q I r h
  obtain ⟨a, ns, rfl, ht, hne, q⟩ := h
  obtain ⟨its, rv, it, hz⟩ := I.tuple ht
  rw [Vals.ref1 r]
  obtain ⟨xs, e⟩ := rv.ints.allInts.items
  have hn : numsOf (intItems xs).toList = ns := by rw [← e]; exact rv.ints.numsOf
  rw [nums_intItems] at hn
  subst hn
  rw [e] at it
  have hsz : 0 < xs.size := by simpa using hne
  refine PySem.call_max_walk ?_
  have tu := IsTup.isTuple it
  obtain ⟨_, e0, _⟩ := id tu
  have lt := Heap.lt_size e0
  refine wpAny_pyIter_tuple tu ⟨s.heap.objs.size, _, _, _, _, _, _, rfl, Walks.tuple (A := X.A.in1) (I.ok.hd hc) _ a (Nat.ne_of_lt lt) (intItems xs), ⟨⟨_, Heap.get?_push_size _ rfl, rfl, rfl⟩, tu.push _⟩, fun b hb => ?_, by simpa [intItems] using hsz, CmpOf.ints_gt (numAt xs) (fun _ _ => intItems_at), fun v h' tk hv hk => ?_⟩
  · have : (s.heap.push { cls := .type "tuple_iterator", data := .fields #[.ref a, .int 0 0] }).objs.size = s.heap.objs.size + 1 := Heap.size_push _ _
    dsimp only
    rw [this]
    rcases List.mem_cons.mp hb with rfl | hb
    · exact Nat.lt_succ_self _
    · rw [List.mem_singleton.mp hb]; exact Nat.lt_succ_of_lt lt
  · have hv' : (intItems xs)[argBest (fun i j => decide (numAt xs i > numAt xs j)) (xs.size - 1)]? = some v := by simpa [intItems] using hv
    obtain ⟨t, rfl⟩ := intItems_at hv'
    obtain ⟨h1, h2⟩ := argBest_gt (numAt xs) (xs.size - 1)
    refine ⟨.int (numAt xs (argBest (fun i j => decide (numAt xs i > numAt xs j)) (xs.size - 1))), H, I.kept (t' := tk) (h' := h') fun b o eb => hk b o (fun z => ?_) (Heap.get?_push_of_some _ eb), ⟨_, rfl⟩, q _ ?_ fun y hy => ?_⟩
    · rw [List.mem_singleton.mp z] at eb
      exact Nat.lt_irrefl _ (Heap.lt_size eb)
    · rw [numAt_eq]; exact PySem.getD_mem (by rw [List.length_map, Array.length_toList]; omega)
    · obtain ⟨j, hj, rfl⟩ := mem_getD hy
      rw [List.length_map, Array.length_toList] at hj
      rw [← numAt_eq]; exact h2 j (by omega)
def maxTD : ON := fun _ xs => match xs with
  | [.tup ws] => match intsOf ws with
    | some (n :: ns) => some (.int (maxO 0 (n :: ns)))
    | _ => none
  | _ => none
def maxA : ON := orN maxLD maxTD
theorem sMaxT (hK : Γ.K = X.K) : OpN Γ (rMaxT X.K) maxTD := fun H μ Z s xs w vs Q hR rx e k => by
  rw [← hK]
  unfold maxTD at e
  split at e
  · rename_i ws
    split at e
    · rename_i n ns q2
      cases e
      obtain ⟨v, rfl, a, ys, rfl, h2, h3⟩ := one rx
      rw [intsOf_ok q2] at h3
      have h4 := h3.ints
      subst h4
      refine ⟨a, n :: ns, rfl, h2.sq, Nat.succ_pos _, fun m hm h => ?_⟩
      rw [maxO_uniq (d := 0) hm h]
      exact k _ H .refl hR rfl
    · cases e
  · cases e
abbrev rMaxA (K : PySem.W.Frag) : List V → Hp → VK → Prop := fun x H Q => rMax K x H Q ∨ rMaxT K x H Q
theorem cr_maxA (hc : X.calm = true) : CallR X (.builtin "max") (rMaxA X.K) := CallR.or2 (cr_max hc) (cr_maxT hc)
theorem sMaxA (hK : Γ.K = X.K) : OpN Γ (rMaxA X.K) maxA := OpN.or (sMaxL hK) (sMaxT hK)
end
end MP
set_option Elab.async false
set_option linter.all false
set_option maxRecDepth 100000
set_option maxHeartbeats 4000000
namespace MP
open PySem PySem.Spec PyProof.Rows L2
section
variable {P : Program} {w : World} {A : Around} {E : Value → Shared → Prop} {s : Shared}
def kp (k : List Int) : Int × Int := (k.getD 0 0, k.getD 1 0)
end
end MP
set_option Elab.async false
set_option linter.all false
set_option maxRecDepth 100000
set_option maxHeartbeats 4000000
namespace MP
open PySem PySem.Spec PyProof.Rows L2
/-- such a lambda on its way -/
structure Thk1 (P : Program) (w : World) (Γ : Ct) (mg : Str → Option Value) (base : Heap) (kk : Nat) (outer : List PySem.Env) (s0 : Shared) (H0 : Hp) (f c' : Addr) (q : Str) (ws : List Dv) (vs : List V) (g : Dv → Sto → R Dv) : Prop where
  fn : ∀ (s1 : Shared) (HZ : Hp), Un (frs outer) [] H0 HZ s0.heap s1.heap → PySem.W.FnAt f s1.heap
  run : ∀ (A : Around) (outer1 : List PySem.Env) (s1 : Shared) (HZ : Hp) (Q : VK) (E : XK) (μ : Mu) (Z : Zs) (st : Sto) (wd : Dv) (v : V) (u : Value), Room kk A → A.guards = some [] → Env0 P w Γ.K mg base A outer1 s1 HZ → Un (frs outer) [] H0 HZ s0.heap s1.heap →
    HZ c' = some (LamX.CodeO c' q) → RVs Γ HZ μ Z ws vs → Rep Γ HZ μ Z st → L2.RelV v u → RV Γ HZ μ Z wd v → PostE Γ (fun c d _ H => E c d H) HZ μ Z [] Q (g wd st) → codeAny (model P w) A (.call (.ref f) ⟨[u], []⟩) (CR (L2.CX P w) outer1 P w HZ s1 Q E) s1
theorem Thk1.deeper {P : Program} {w : World} {Γ : Ct} {mg : Str → Option Value} {base : Heap} {kk : Nat} {outer : List PySem.Env} {s0 s' : Shared} {H0 H' : Hp} {f c' : Addr} {q : Str} {ws : List Dv} {vs : List V} {g : Dv → Sto → R Dv} {env : PySem.Env} {L : Addr}
    (T : Thk1 P w Γ mg base kk outer s0 H0 f c' q ws vs g) (hf : env.frame = some L) (hL : s0.heap.objs.size ≤ L) (u : Un (frs outer) [] H0 H' s0.heap s'.heap) : Thk1 P w Γ mg base kk (env :: outer) s' H' f c' q ws vs g := by
  have e : frs (env :: outer) = L :: frs outer := by unfold frs; rw [List.filterMap_cons, hf]
  exact ⟨fun s1 HZ v => T.fn s1 HZ (un_comp u (e ▸ v) hL), fun A outer1 s1 HZ Q E μ Z st wd x y h1 h2 h3 v => T.run A outer1 s1 HZ Q E μ Z st wd x y h1 h2 h3 (un_comp u (e ▸ v) hL)⟩
end MP
set_option Elab.async false
set_option linter.all false
set_option maxRecDepth 100000
set_option maxHeartbeats 4000000
namespace MP
open PySem PySem.Spec PyProof.Rows L2
end MP
set_option Elab.async false
set_option linter.all false
set_option maxRecDepth 100000
set_option maxHeartbeats 4000000
namespace MP
open PySem PySem.Spec PyProof.Rows L2
end MP
set_option Elab.async false
set_option linter.all false
set_option maxRecDepth 100000
set_option maxHeartbeats 4000000
namespace MP
open PySem PySem.Spec PyProof.Rows L2
end MP
set_option Elab.async false
set_option linter.all false
set_option maxRecDepth 100000
set_option maxHeartbeats 4000000
namespace MP
open PySem PySem.Spec PyProof.Rows L2
open PyProof.Rows.KTD (TabOf datumAt inKeys isSome_datumAt)
/-- R, kept by a heap that keeps -/
def TabAt (Γ : Ct) (h : Heap) (a : Addr) (D : List (Str × Nat)) : Prop := TabOf (fun j v => v = .ref (Γ.cls j)) h a D
section
variable {prog : Program} {w : World} {A : Around} {E : Value → Shared → Prop} {s : Shared} {a : Addr} {D : List (Str × Nat)} {k : Str} {tk : Tok} {Γ : Ct}
theorem TabAt.keep {h h' : Heap} (T : TabAt Γ h a D) (hk : ∀ b o, h.get? b = some o → h'.get? b = some o) : TabAt Γ h' a D := KTD.TabOf.keep T hk fun _ _ x => x
theorem TabAt.typeIs (T : TabAt Γ s.heap a D) : s.TypeIs (.ref a) "dict" := let ⟨_, o, _, _, ho, hc, _⟩ := T; ⟨o, ho, hc.1⟩
end
end MP
set_option Elab.async false
set_option linter.all false
set_option maxRecDepth 100000
set_option maxHeartbeats 4000000
namespace MP
open PySem PySem.Spec PyProof.Rows L2
end MP
set_option Elab.async false
set_option linter.all false
set_option maxRecDepth 100000
set_option maxHeartbeats 4000000
namespace MP
open PySem PySem.Spec PyProof.Rows L2
end MP
set_option Elab.async false
set_option linter.all false
set_option maxRecDepth 100000
set_option maxHeartbeats 4000000
namespace MP
open PySem PySem.Spec PyProof.Rows L2
end MP
set_option Elab.async false
set_option linter.all false
set_option maxRecDepth 100000
set_option maxHeartbeats 4000000
namespace MP
open PySem PySem.Spec PyProof.Rows L2
theorem valD_none {H : Hp} {μ : Mu} {Z : Zs} {k : Key} : ∀ {kws : List (Key × Dv)} {kvs : List (Key × V)}, kvs.map (·.1) = kws.map (·.1) → valD kws k = none → valV kvs k = none
  | [], [], _, _ => rfl
  | [], q :: kvs, h, _ => by cases h
  | p :: kws, [], h, _ => by cases h
  | p :: kws, q :: kvs, h, e => by
    obtain ⟨h1, h2⟩ := List.cons.inj h
    have h1' : q.1 = p.1 := h1
    by_cases hk : p.1 = k
    · have e1 : valD (p :: kws) k = some p.2 := by simp [valD, List.find?_cons, hk]
      rw [e1] at e
      cases e
    · have e1 : valD (p :: kws) k = valD kws k := by simp [valD, List.find?_cons, hk]
      rw [e1] at e
      rw [valV_neg (show ¬ q.1 = k from fun z => hk (h1'.symm.trans z))]
      exact valD_none (H := H) (μ := μ) (Z := Z) h2 e
end MP
set_option Elab.async false
set_option linter.all false
set_option maxRecDepth 100000
set_option maxHeartbeats 4000000
namespace MP
open PySem PySem.Spec PyProof.Rows L2
/-- what is known of the classes js -/
structure XcJ (js : List Nat) (Γ : Ct) : Prop where
  is : ∀ c, c ∈ js → ClsF Γ.K (Γ.cls c)
  sub : ∀ c, c ∈ js → ∀ j, j ∈ js → PySem.W.subIn Γ.K (.ref (Γ.cls c)) (.ref (Γ.cls j)) = some (under c j)
  lt : ∀ c, c ∈ js → c < 9
theorem under_self (j : Nat) : under j j = true := by unfold under; simp
theorem XcJ.own {js : List Nat} {Γ : Ct} (T : XcJ js Γ) (c j : Nat) (hc : c ∈ js) (hj : j ∈ js) : PySem.W.kitOne Γ.K (.ref (Γ.cls c)) (.ref (Γ.cls j)) = some (under c j) :=
  kitOne_of (T.is j hj).is (T.is j hj).ty ((T.sub j hj j hj).trans (by rw [under_self])) (T.sub c hc j hj)
theorem XcJ.one {js : List Nat} {Γ : Ct} (T : XcJ js Γ) (c j : Nat) (hc : c ∈ js) (hj : j ∈ js) : PySem.W.exmOne Γ.K (.ref (Γ.cls c)) (.ref (Γ.cls j)) = some (under c j) := by
  unfold PySem.W.exmOne
  rw [(T.is j hj).e.hs]
  rw [if_pos (by rfl)]
  exact kitCls_of (T.is j hj).is (T.is j hj).ty (T.sub c hc j hj)
theorem XcJ.any {js : List Nat} {Γ : Ct} (T : XcJ js Γ) {a b : Nat} (ha : a ∈ js) (hb : b ∈ js) (c : Nat) (hc : c ∈ js) : PySem.W.exmAny Γ.K (.ref (Γ.cls c)) [.ref (Γ.cls a), .ref (Γ.cls b)] = some (under c a || (under c b || false)) :=
  exmAny_of (T.is a ha).is (T.is a ha).ty (T.is a ha).e.hs (T.is b hb).is (T.is b hb).ty (T.is b hb).e.hs (T.sub c hc a ha) (T.sub c hc b hb)
section
variable {X : Cx} {Γ : Ct} {Wout W : WX} {js : List Nat}
/-- try .. except A: suite -/
def mTryJ (js : List Nat) (j : Nat) (c su : FS) : FS := fun ρ s => match c ρ s with
  | .er x ρ1 s1 => if x.c ∈ js ∧ j ∈ js then if under x.c j = true then (match su ρ1 s1 with
      | .er _ _ _ => .no
      | r => r) else .er x ρ1 s1 else .no
  | r => r
theorem ms_tryJ {x1 : Str} {j : Nat} {body suite : List Stmt} {b0 : Stmt} {p1 pos pos' : Pos} {c su : FS} (hs : X.stack = X.env :: X.outer) (hf : X.env.frame = some X.env.locals)
    (n1 : Names X x1 (.ref (Γ.cls j))) (tk : Takes X Wout) (hK : Γ.K = X.K) (T : XcJ js Γ)
    (hb : ∀ (W : WX) (pn : List (Addr × Obj)) (xe : Value → Shared → Prop), Takes (X.tr pn xe) W → MB (X.tr pn xe) Γ W body c) (hsu : ∀ (a : Addr) (pn : List (Addr × Obj)), MB (X.suite a pn) Γ W0 (b0 :: suite) su) :
    MS X Γ Wout (.Try body [.ExceptHandler (some (.Name x1 p1)) none (b0 :: suite) pos'] [] [] pos) (mTryJ js j c su) := by
  refine PS.imp (ps_try_only (tb := fun W => rdS Γ W c) (ts := fun _ _ _ => rdS Γ W0 su) hs hf n1 tk (fun W pn xe t _ => hb W pn xe t) fun a oe cls d pn _ _ => hsu a ((a, oe) :: pn)) fun D σ H ⟨μ, Z, ρ, s, hE, hR, q⟩ => ⟨μ, Z, ρ, s, hE, hR, ?_⟩
  unfold mTryJ at q
  cases e : c ρ s with
  | nx ρ' s' => rw [e] at q; exact q
  | rt w s' => rw [e] at q; exact q
  | bk ρ' s' => rw [e] at q; exact q
  | ct ρ' s' => rw [e] at q; exact q
  | no => rw [e] at q; exact q
  | er x ρ1 s1 =>
    rw [e] at q
    dsimp only at q
    split at q
    · rename_i hx
      intro cls d σ' H' μ' ev R' E' rx
      have rx0 := rx
      rcases rx with ⟨z, _⟩ | ⟨_, r1, dd, v, r2, r3, r4, r5⟩
      · have := T.lt _ hx.1
        omega
      subst r1 r2
      refine ⟨under x.c j, hK ▸ T.one x.c j hx.1 hx.2, fun hu a na => ?_, fun hu => ?_⟩
      · rw [if_pos hu] at q
        refine ⟨μ', Z, ρ1, s1, E', R', ?_⟩
        cases e2 : su ρ1 s1 with
        | nx ρ2 s2 => rw [e2] at q; exact fun σ2 H2 μ2 ev2 R2 E2 => q _ _ _ (ev.trans ev2) R2 E2
        | bk ρ2 s2 => rw [e2] at q; exact fun σ2 H2 μ2 ev2 R2 E2 => q _ _ _ (ev.trans ev2) R2 E2
        | ct ρ2 s2 => rw [e2] at q; exact fun σ2 H2 μ2 ev2 R2 E2 => q _ _ _ (ev.trans ev2) R2 E2
        | rt w s2 => rw [e2] at q; exact fun v2 H2 μ2 ev2 R2 r2 => q _ _ _ (ev.trans ev2) R2 r2
        | er _ _ _ => rw [e2] at q; exact q.elim
        | no => rw [e2] at q; exact q.elim
      · rw [if_neg (by rw [hu]; exact Bool.false_ne_true)] at q
        exact q _ _ _ _ _ ev R' E' rx0
    · exact q.elim
/-- try .. except (A, B) as n: suite, all that comes being one of these -/
def mTryK (js : List Nat) (ja jb i : Nat) (c su : FS) : FS := fun ρ s => match c ρ s with
  | .er x ρ1 s1 => if x.c ∈ js ∧ ja ∈ js ∧ jb ∈ js ∧ (under x.c ja || under x.c jb) = true then delC i (su (ρ1.set i (some (.exc x.c x.f x.w))) s1) else .no
  | r => r
theorem ms_tryK {x1 x2 n : Str} {ja jb i kk : Nat} {body suite : List Stmt} {b0 : Stmt} {p1 p2 tp pos pos' : Pos} {c su : FS} (hs : X.stack = X.env :: X.outer) (hf : X.env.frame = some X.env.locals) (hN : X.N.Nodup) (hi : X.N[i]? = some n) (hln : X.env.kindOf n = some .local)
    (n1 : Names X x1 (.ref (Γ.cls ja))) (n2 : Names X x2 (.ref (Γ.cls jb))) (tk : Takes X Wout) (hK : Γ.K = X.K) (T : XcJ js Γ)
    (hb : ∀ (W : WX) (pn : List (Addr × Obj)) (xe : Value → Shared → Prop), Takes (X.tr pn xe) W → MB (X.tr pn xe) Γ W body c) (hsu : ∀ (a : Addr) (pn : List (Addr × Obj)), MB (X.suite a pn) Γ W0 (b0 :: suite) su) :
    MS X Γ Wout (.Try body [.ExceptHandler (some (.Tuple [.Name x1 p1, .Name x2 p2] kk tp)) (some n) (b0 :: suite) pos'] [] [] pos) (mTryK js ja jb i c su) := by
  refine PS.imp (ps_try_keep (tb := fun W => rdS Γ W c) (ts := rdS Γ W0 su) hs hf hN hi hln n1 n2 tk (fun W pn xe t _ => hb W pn xe t) hsu) fun D σ H ⟨μ, Z, ρ, s, hE, hR, q⟩ => ⟨μ, Z, ρ, s, hE, hR, ?_⟩
  unfold mTryK at q
  cases e : c ρ s with
  | nx ρ' s' => rw [e] at q; exact q
  | rt w s' => rw [e] at q; exact q
  | bk ρ' s' => rw [e] at q; exact q
  | ct ρ' s' => rw [e] at q; exact q
  | no => rw [e] at q; exact q
  | er x ρ1 s1 =>
    rw [e] at q
    dsimp only at q
    split at q
    · rename_i hx
      obtain ⟨hx, ha, hb', hu⟩ := hx
      intro cls d σ' H' μ' ev R' E' rx
      rcases rx with ⟨z, _⟩ | ⟨_, r1, dd, v, r2, r3, r4, r5⟩
      · have := T.lt _ hx
        omega
      subst r1 r2
      refine ⟨true, by rw [← hK, T.any ha hb' x.c hx, Bool.or_false, hu], fun _ => ⟨_, _, rfl, rfl, fun a na => ?_⟩, fun z => nomatch z⟩
      have ea : Evo H' μ' (upd H' a (ExK a (Γ.cls x.c) dd)) μ' := Evo.laid na
      have nd : dd ≠ a := fun z => by rw [z, na] at r3; cases r3
      refine ⟨μ', Z, ρ1.set i (some (.exc x.c x.f x.w)), s1, RE.set i (E'.mono ea) ⟨a, dd, v, rfl, upd_same, R'.fz na, by rw [upd_ne nd]; exact r3, r4, r5.mono ea⟩, R'.laid na, ?_⟩
      cases e2 : su (ρ1.set i (some (.exc x.c x.f x.w))) s1 with
      | nx ρ2 s2 => rw [e2] at q; exact fun σ2 H2 μ2 ev2 R2 E2 => q _ _ _ (ev.trans (ea.trans ev2)) R2 (E2.del i)
      | bk ρ2 s2 => rw [e2] at q; exact fun σ2 H2 μ2 ev2 R2 E2 => q _ _ _ (ev.trans (ea.trans ev2)) R2 (E2.del i)
      | ct ρ2 s2 => rw [e2] at q; exact fun σ2 H2 μ2 ev2 R2 E2 => q _ _ _ (ev.trans (ea.trans ev2)) R2 (E2.del i)
      | rt w s2 => rw [e2] at q; exact fun v2 H2 μ2 ev2 R2 r2 => q _ _ _ (ev.trans (ea.trans ev2)) R2 r2
      | er _ _ _ => rw [e2] at q; exact q.elim
      | no => rw [e2] at q; exact q.elim
    · exact q.elim
/-- isinstance, of data and of exceptions of js -/
def isxJ (js : List Nat) : ON := fun _ xs => match xs with
  | [.exc c _ _, .cl j] => if c ∈ js ∧ j ∈ js ∧ c < 9 then some (.bl (under c j)) else none
  | _ => none
theorem sIsJ (hK : Γ.K = X.K) (T : XcJ js Γ) : OpN Γ (rIsK X.K) (isxJ js) := fun H μ Z s xs w vs Q hR rx e k => by
  rw [← hK]
  unfold isxJ at e
  split at e
  · rename_i c f y j
    split at e
    · rename_i hc
      cases e
      obtain ⟨v, u, rfl, r1, r2⟩ := two rx
      obtain ⟨a, rfl, hh, hc9⟩ := held_of (c := c) r1 (by unfold exCls; exact if_pos hc.2.2)
      exact ⟨a, _, u, .ref (Γ.cls j), _, rfl, hh, (T.is c hc.1).e, by rw [show u = _ from r2]; exact .own _, T.own c j hc.1 hc.2.1, k _ H .refl hR rfl⟩
    · cases e
  · cases e
def isiJ (js : List Nat) : ON := fun s xs => match isiD s xs with
  | some w => some w
  | none => isxJ js s xs
theorem sIsiJ (hK : Γ.K = X.K) (T : XcJ js Γ) : OpN Γ (fun x H Q => rIsi X.K x H Q ∨ rIsK X.K x H Q) (isiJ js) := OpN.or (sIsi hK) (sIsJ hK T)
/-- e.f, e an exception of js -/
def fldJ (js : List Nat) (f : Str) : O1 := fun _ x => match x with
  | .exc c g w => if c ∈ js ∧ f = g then some w else none
  | _ => none
theorem me_fldJ {e : Expr} {g : FE} {pos : Pos} {n : Str} (hK : Γ.K = X.K) (T : XcJ js Γ) (F : ∀ c, c ∈ js → PySem.W.findIn Γ.K (.ref (Γ.cls c)) n = some none) (he : ME X Γ W e g) (hb : attributeBase e n X.env (eval e X.env) = eval e X.env := by rfl) : ME X Γ W (.Attribute e n pos) (mUn (fldJ js n) g) :=
  PE.imp (pe_xk he hb) fun σ H Q ⟨μ, Z, ρ, s, hE, hR, q⟩ => eE hE hR q fun x s1 u H1 μ1 e1 hE1 R1 r1 q1 => by
    obtain ⟨w, hw, k⟩ := ofE q1
    unfold fldJ at hw
    split at hw
    · rename_i c' f' w'
      split at hw
      · rename_i hc
        cases hw
        obtain ⟨hc, rfl⟩ := hc
        obtain ⟨a, dx, y, rfl, h2, _, h4, _, h6⟩ := r1
        have t := (T.is c' hc).e
        exact ⟨a, Γ.cls c', dx, _, y, rfl, h2, h4, by simp [List.lookup], hK ▸ ⟨t.hg, t.hk, t.hs, t.hd⟩, hK ▸ F c' hc, k _ H1 .refl R1 h6⟩
      · cases hw
    · cases hw
end
section
variable {X : Cx} {Γ : Ct} {W : WX} {e a b : Expr} {f g k : FE} {pos apos : Pos}
def mCount (f g : FE) : FE := fun ρ s => (f ρ s).bind fun x s1 => match lstOrSq s1 x with
  | none => .no
  | some _ => (g ρ s1).bind fun y s2 => match lstOrSq s2 x, y with
    | some ws, .int i => match intsOf ws with
      | some ns => .ok (.int (ns.count i : Nat)) s2
      | none => .no
    | _, _ => .no
theorem me_count (hK : Γ.K = X.K) (h : PE X e (tBM Γ.K "list" (rCntI X.K) (rdE Γ W f) (tCons (rdE Γ W g) tNil))) : ME X Γ W e (mCount f g) :=
  PE.imp h fun σ H Q ⟨μ, Z, ρ, s, hE, hR, q⟩ => eE hE hR q fun x s1 u H1 μ1 e1 hE1 R1 r1 q1 => by
    cases e0 : lstOrSq s1 x with
    | none => rw [e0] at q1; exact q1.elim
    | some ws0 =>
      rw [e0] at q1
      dsimp only at q1
      obtain ⟨p, xs, h1, h2, h3⟩ := lstOrSq_ok R1 r1 e0
      subst h1
      refine ⟨.inl ⟨rfl, xs, h2⟩, ?_⟩
      refine eE hE1 R1 q1 fun y s2 v H2 μ2 e2 hE2 R2 r2 q2 => ?_
      cases e3 : lstOrSq s2 x with
      | none => rw [e3] at q2; exact q2.elim
      | some ws =>
        rw [e3] at q2
        cases y with
        | int i =>
          replace q2 : PostE Γ W H2 μ2 Z σ Q (match intsOf ws with
              | some ns => .ok (.int (ns.count i : Nat)) s2
              | none => .no) := q2
          cases e4 : intsOf ws with
          | none => rw [e4] at q2; exact q2.elim
          | some ns =>
            rw [e4] at q2
            obtain ⟨p', ys, k1, k2, k3⟩ := lstOrSq_ok R2 (r1.mono e2) e3
            cases k1
            rw [intsOf_ok e4] at k3
            have k4 := k3.ints
            subst k4
            exact ⟨p, ns, i, rfl, by rw [show v = .int i from r2], hK ▸ k2, q2 _ H2 μ2 .refl R2 rfl⟩
        | _ => exact q2.elim
theorem mt_setd : MtR X "dict.setdefault" rSetd := by
  intro pins s σ H x vs v us Q I rx rvs h
  obtain ⟨a, kvs, k, zv, rfl, rfl, ea, hl, w1, w2⟩ := h
  cases rx
  cases rvs with
  | cons ry rv =>
    cases rv with
    | cons rd rv =>
      cases rv
      obtain ⟨z, hd, vs0, rel, dd⟩ := dk_of I.hok ea
      have hz : vs0.length ≤ sizeLine := by rw [← rel.length]; exact z
      refine call_meetsIn PySem.F.slot_dict_setdefault dd.typeIs PySem.F.entry_dict_setdefault (PySem.F.args_dict_setdefault_3 _ _ _) (kt_meets_setdefault (mixKind X.prog X.w) _ (kV_is ry) hd _) ⟨vs0, dd, hz, fun u hu => ?_, fun hn h' dd' hs => ?_⟩
      · have rr := rel.val k
        rw [hu] at rr
        cases hv : valV kvs k with
        | none => rw [hv] at rr; exact False.elim rr
        | some x =>
          rw [hv] at rr
          exact (⟨x, H, I.tok _, rr, w1 x hv⟩ : EP X pins σ Q u _)
      · have rr := rel.val k
        rw [hn] at rr
        cases hv : valV kvs k with
        | some x => rw [hv] at rr; exact False.elim rr
        | none =>
          have hl2 : (putK kvs k zv).length ≤ sizeLine := by have := length_putK kvs k zv; omega
          exact (⟨zv, _, d_write (t' := s.toks + 1) I (by rw [ea]; exact True.intro) hs (let ⟨q, _, _, hq, _⟩ := dd'; ⟨q, hq⟩) (dk_new hl2 hd (rel.put k rd) dd'), rd, w2 hv⟩ : EP X pins σ Q _ _)
def mSetd (f g k : FE) : FE := fun ρ s => (f ρ s).bind fun x s1 => match dctOf s1 x with
  | none => .no
  | some _ => (g ρ s1).bind fun y s2 => (k ρ s2).bind fun z s3 => match x, keyOf y with
    | .ref n, some kk => match s3[n]? with
      | some (.dct kws) => match valD kws kk with
        | some w => if kws.length < lim then .ok w s3 else .no
        | none => if kws.length < lim then .ok z (s3.set n (.dct (putD kws kk z))) else .no
      | _ => .no
    | _, _ => .no
theorem me_setd (hK : Γ.K = X.K) (h : PE X e (tBM Γ.K "dict" rSetd (rdE Γ W f) (tCons (rdE Γ W g) (tCons (rdE Γ W k) tNil)))) : ME X Γ W e (mSetd f g k) :=
  PE.imp h fun σ H Q ⟨μ, Z, ρ, s, hE, hR, q⟩ => eE hE hR q fun x s1 u H1 μ1 e1 hE1 R1 r1 q1 => by
    cases e0 : dctOf s1 x with
    | none => rw [e0] at q1; exact q1.elim
    | some ws0 =>
      rw [e0] at q1
      dsimp only at q1
      obtain ⟨p, xs, h1, h2, _⟩ := dctOf_ok R1 r1 e0
      subst h1
      refine ⟨.inr (.inr (.inl ⟨rfl, .inl ⟨xs, h2⟩⟩)), ?_⟩
      refine eE hE1 R1 q1 fun y s2 v H2 μ2 e2 hE2 R2 r2 q2 => ?_
      refine eE hE2 R2 q2 fun z s3 vz H3 μ3 e3 hE3 R3 r3 q3 => ?_
      have rx := (r1.mono e2).mono e3
      cases x with
      | ref n =>
        cases hk : keyOf y with
        | none => rw [hk] at q3; exact q3.elim
        | some kk =>
          rw [hk] at q3
          dsimp only at q3
          obtain ⟨p', g1, g2⟩ := rx
          cases g1
          split at q3
          · rename_i kws q0
            obtain ⟨p', g1, _, kvs, g3, g4, g5⟩ := R3.at n _ q0
            rw [g2] at g1
            cases g1
            have hkey := keyOf_ok (r2.mono e3) hk
            cases hv : valD kws kk with
            | some w =>
              rw [hv] at q3
              dsimp only at q3
              split at q3
              · rename_i hl
                obtain ⟨zz, z1, z2⟩ := valD_ok g4 g5 hv
                refine ⟨p, kvs, kk, vz, rfl, by rw [hkey], g3, by rw [map_len g4]; exact Nat.lt_of_lt_of_le hl (lim_ok (Nat.le_refl _)), fun u hu => ?_, fun hn => ?_⟩
                · rw [z1] at hu
                  cases hu
                  exact q3 _ H3 μ3 .refl R3 z2
                · rw [z1] at hn
                  cases hn
              · exact q3.elim
            | none =>
              rw [hv] at q3
              dsimp only at q3
              split at q3
              · rename_i hl
                have hn := valD_none (H := H3) (μ := μ3) (Z := Z) g4 hv
                refine ⟨p, kvs, kk, vz, rfl, by rw [hkey], g3, by rw [map_len g4]; exact Nat.lt_of_lt_of_le hl (lim_ok (Nat.le_refl _)), fun u hu => ?_, fun _ => ?_⟩
                · rw [hn] at hu
                  cases hu
                · obtain ⟨k1, k2⟩ := putD_ok (k := kk) r3 g4 g5
                  have ev : Evo H3 μ3 (upd H3 p (.dK (putK kvs kk vz))) μ3 := Evo.put g2
                  exact q3 vz _ μ3 ev (R3.put g2 ⟨_, upd_same, k1, k2.mono ev⟩) (r3.mono ev)
              · exact q3.elim
          · exact q3.elim
      | _ => exact q3.elim
def mDGet2 (f g k : FE) : FE := fun ρ s => (f ρ s).bind fun x s1 => match dctOf s1 x with
  | none => .no
  | some _ => (g ρ s1).bind fun y s2 => (k ρ s2).bind fun z s3 => match dctOf s3 x, keyOf y with
    | some kws, some kk => .ok ((valD kws kk).getD z) s3
    | _, _ => .no
theorem me_dget2 (hu : X.A.units + 64 < cLine) (ho : ME X Γ W e f) (ha : ME X Γ W a g) (hb : ME X Γ W b k) (m : M2 X e "get" apos a b pos) : ME X Γ W (.Call (.Attribute e "get" apos) [a, b] [] pos) (mDGet2 f g k) :=
  PE.imp (pe_dget2 (by omega) ho ha hb m) fun σ H Q ⟨μ, Z, ρ, s, hE, hR, q⟩ => eE hE hR q fun x s1 u H1 μ1 e1 hE1 R1 r1 q1 => by
    cases e0 : dctOf s1 x with
    | none => rw [e0] at q1; exact q1.elim
    | some ws0 =>
      rw [e0] at q1
      dsimp only at q1
      obtain ⟨p, xs, h1, h2, _⟩ := dctOf_ok R1 r1 e0
      subst h1
      refine ⟨p, rfl, .inl ⟨xs, .inl h2⟩, ?_⟩
      refine eE hE1 R1 q1 fun y s2 v H2 μ2 e2 hE2 R2 r2 q2 => ?_
      refine eE hE2 R2 q2 fun z s3 vz H3 μ3 e3 hE3 R3 r3 q3 => ?_
      cases e4 : dctOf s3 x with
      | none => rw [e4] at q3; exact q3.elim
      | some kws =>
        rw [e4] at q3
        cases hk : keyOf y with
        | none => rw [hk] at q3; exact q3.elim
        | some kk =>
          rw [hk] at q3
          obtain ⟨p', kvs, h1, h3, g4, g5⟩ := dctOf_ok R3 ((r1.mono e2).mono e3) e4
          cases h1
          have hkey := keyOf_ok (r2.mono e3) hk
          refine ⟨valV kvs kk, by rw [hkey]; exact DGet.k h3, ?_⟩
          cases hv : valD kws kk with
          | some w =>
            obtain ⟨zz, z1, z2⟩ := valD_ok g4 g5 hv
            replace q3 : PostE Γ W H3 μ3 Z σ Q (.ok ((valD kws kk).getD z) s3) := q3
            rw [hv] at q3
            rw [z1]
            exact q3 _ H3 μ3 .refl R3 z2
          | none =>
            have hn := valD_none (H := H3) (μ := μ3) (Z := Z) g4 hv
            replace q3 : PostE Γ W H3 μ3 Z σ Q (.ok ((valD kws kk).getD z) s3) := q3
            rw [hv] at q3
            rw [hn]
            exact q3 _ H3 μ3 .refl R3 r3
def rgC (i c : Int) (n : Nat) : List V := (List.range n).map fun (k : Nat) => V.int (i + k * c)
def mTupRg3 (fa : FA) : FE := fun ρ s => (fa ρ s).bind fun ws s1 => match ws with
  | [.int i, .int j, .int c] => if c ≠ 0 ∧ c.natAbs < 1073741824 ∧ Builtin.Range.small i j c = true ∧ (Builtin.Range.rangeSize i j c).toNat ≤ 1000000 then .ok (.tup (rngC i c (Builtin.Range.rangeSize i j c).toNat)) s1 else .no
  | _ => .no
theorem vals_rgC {i c : Int} {n : Nat} {acc : Array Value} (h : ItemsOf (fun k v => ∃ t, v = .int (i + k * c) t) acc n) : Vals (rgC i c n) acc.toList := by
  have e : acc.toList.length = n := by rw [Array.length_toList]; exact h.1
  unfold rgC
  rw [← e]
  refine vals_of_get acc.toList _ fun j u hj => ?_
  obtain ⟨t, rfl⟩ := h.2 j u (by rw [← hj, Array.getElem?_toList])
  exact ⟨t, rfl⟩
theorem rvs_rgC {H : Hp} {μ : Mu} {Z : Zs} {i c : Int} {n : Nat} : RVs Γ H μ Z (rngC i c n) (rgC i c n) := by
  have e1 : rngC i c n = (((List.range n).map fun (k : Nat) => i + (k : Int) * c).map Dv.int) := by unfold rngC; rw [List.map_map]; rfl
  have e2 : rgC i c n = (((List.range n).map fun (k : Nat) => i + (k : Int) * c).map V.int) := by unfold rgC; rw [List.map_map]; rfl
  rw [e1, e2]
  exact RVs.of_ints _
theorem pe_tupRg3 {a b c : Expr} {ta : TA} {p p2 pos pos2 : Pos} (hcl : X.calm = true) (hgl : Gl X "tuple") (hmt : X.mg "tuple" = none) (hg : Gl X "range") (hm : X.mg "range" = none) (ha : PA X [a, b, c] ta)
    (hs : starEach [a, b, c] X.env = (false, eval a X.env) :: starEach [b, c] X.env := by rfl) (hpl : (backTo pos2 (starEach [b, c] X.env)).any (·.1) = false := by rfl)
    (nc : starEach [.Call (.Name "range" p2) [a, b, c] [] pos2] X.env = (false, eval (.Call (.Name "range" p2) [a, b, c] [] pos2) X.env) :: starEach [] X.env := by rfl) :
    PE X (.Call (.Name "tuple" p) [.Call (.Name "range" p2) [a, b, c] [] pos2] [] pos) (fun σ H Q => ta σ H fun xs H1 => ∃ i j k n, xs = [.int i, .int j, .int k] ∧ RgC i j k n ∧ n ≤ 2 ^ 24 ∧ ∀ q, H1 q = none → Q (.ref q) (upd H1 q (.tup (rgC i k n)))) := by
  refine ⟨fun pins s σ H Q I h => ?_⟩
  refine Call_ (ld_blt I hgl hmt boot_tuple (PyProof.Rows.callWith_type1 (args_cons (Call_ (ld_blt I hg hm boot_range (PyProof.Rows.callWith_type1 (thn (ha.run pos2 pins s σ H _ I h) fun us s1 ⟨vs, H1, I1, r1, q1⟩ => ?_) hs hpl))) nc) nc))
  obtain ⟨i, j, k, n, e, ⟨c0, c1, c2, c3⟩, hn, q⟩ := q1
  subst e
  cases r1 with
  | cons r rr =>
    cases rr with
    | cons r' rr =>
      cases rr with
      | cons r'' rr =>
        cases rr
        obtain ⟨t, rfl⟩ := r
        obtain ⟨t', rfl⟩ := r'
        obtain ⟨t'', rfl⟩ := r''
        refine call_range_3 c0 ?_ (.inl (PyProof.noPylong_small c1))
        refine args_nil ?_
        have I2 : Inv X pins σ H1 { s1 with heap := s1.heap.push { cls := .type "range", data := .fields #[.int i t, .int j t', .int k t''] } } := I1.kept (t' := s1.toks) fun b o e => Heap.get?_push_of_some _ e
        refine call_tuple_range (n := n) (I1.ok.hd hcl) (IsRange.new ..) c2 c3 hn fun h' tk acc hk hi => ?_
        have I3 : Inv X pins σ H1 { s1 with heap := h', toks := tk } := I2.kept hk
        refine ⟨.ref h'.objs.size, upd H1 h'.objs.size (.tup (rgC i k n)), I3.laid (t' := tk) (fun c o e => Heap.get?_push_of_some _ e) (Nat.le_refl _) (show ObjOk X.prog X.w _ _ _ (.tup (rgC i k n)) from ⟨?_, acc.toList, vals_rgC hi, ?_⟩), rfl, q _ (I3.hok.fresh (Nat.le_refl _))⟩
        · unfold rgC; rw [List.length_map, List.length_range, sizeLine_eq]; omega
        · rw [Array.toArray_toList]; exact IsTup.new _ _
theorem me_tupRg3 {a b c : Expr} {fa : FA} {p p2 pos pos2 : Pos} (hcl : X.calm = true) (hgl : Gl X "tuple") (hmt : X.mg "tuple" = none) (hg : Gl X "range") (hm : X.mg "range" = none) (ha : MA X Γ W [a, b, c] fa)
    (hs : starEach [a, b, c] X.env = (false, eval a X.env) :: starEach [b, c] X.env := by rfl) (hpl : (backTo pos2 (starEach [b, c] X.env)).any (·.1) = false := by rfl)
    (nc : starEach [.Call (.Name "range" p2) [a, b, c] [] pos2] X.env = (false, eval (.Call (.Name "range" p2) [a, b, c] [] pos2) X.env) :: starEach [] X.env := by rfl) :
    ME X Γ W (.Call (.Name "tuple" p) [.Call (.Name "range" p2) [a, b, c] [] pos2] [] pos) (mTupRg3 fa) :=
  PE.imp (pe_tupRg3 hcl hgl hmt hg hm ha hs hpl nc) fun σ H Q ⟨μ, Z, ρ, s, hE, hR, q⟩ => aE hE hR q fun ws s1 vs H1 μ1 e1 E1 R1 r1 q1 => by
    split at q1
    · rename_i i j c
      split at q1
      · rename_i hc
        obtain ⟨x, xs, rfl, g1, y, ys, rfl, g2, z, zs, rfl, g3, g4⟩ := r1
        rw [show x = .int i from g1, show y = .int j from g2, show z = .int c from g3, show zs = [] from g4]
        refine ⟨i, j, c, _, rfl, ⟨hc.1, hc.2.1, hc.2.2.1, PyProof.Rows.rangeSize_toNat i j c⟩, Nat.le_trans hc.2.2.2 (by decide), fun t ht => ?_⟩
        exact q1 _ _ μ1 (Evo.laid ht) (R1.laid ht) (new_tup R1 ht rvs_rgC)
      · exact q1.elim
    · exact q1.elim
end
section
variable {X : Cx} {Γ : Ct} {W : WX}
def rMinT (K : PySem.W.Frag) : List V → Hp → VK → Prop := fun vs H Q => ∃ (a : Addr) (ns : List Int), vs = [V.ref a] ∧ SqT K H a (ns.map V.int) ∧ 0 < ns.length ∧ ∀ m, m ∈ ns → (∀ y, y ∈ ns → m ≤ y) → Q (.int m) H
theorem cr_minT (hc : X.calm = true) : CallR X (.builtin "min") (rMinT X.K) := by
  intro pins s σ H vs us Q I r h
  obtain ⟨a, ns, rfl, ht, hne, q⟩ := h
  obtain ⟨its, rv, it, hz⟩ := I.tuple ht
  rw [Vals.ref1 r]
  obtain ⟨xs, e⟩ := rv.ints.allInts.items
  have hn : numsOf (intItems xs).toList = ns := by rw [← e]; exact rv.ints.numsOf
  rw [nums_intItems] at hn
  subst hn
  rw [e] at it
  have hsz : 0 < xs.size := by simpa using hne
  refine PySem.call_min_walk ?_
  have tu := IsTup.isTuple it
  obtain ⟨_, e0, _⟩ := id tu
  have lt := Heap.lt_size e0
  refine wpAny_pyIter_tuple tu ⟨s.heap.objs.size, _, _, _, _, _, _, rfl, Walks.tuple (A := X.A.in1) (I.ok.hd hc) _ a (Nat.ne_of_lt lt) (intItems xs), ⟨⟨_, Heap.get?_push_size _ rfl, rfl, rfl⟩, tu.push _⟩, fun b hb => ?_, by simpa [intItems] using hsz, CmpOf.ints_lt (numAt xs) (fun _ _ => intItems_at), fun v h' tk hv hk => ?_⟩
  · have : (s.heap.push { cls := .type "tuple_iterator", data := .fields #[.ref a, .int 0 0] }).objs.size = s.heap.objs.size + 1 := Heap.size_push _ _
    dsimp only
    rw [this]
    rcases List.mem_cons.mp hb with rfl | hb
    · exact Nat.lt_succ_self _
    · rw [List.mem_singleton.mp hb]; exact Nat.lt_succ_of_lt lt
  · have hv' : (intItems xs)[argBest (fun i j => decide (numAt xs i < numAt xs j)) (xs.size - 1)]? = some v := by simpa [intItems] using hv
    obtain ⟨t, rfl⟩ := intItems_at hv'
    obtain ⟨h1, h2⟩ := argBest_lt (numAt xs) (xs.size - 1)
    refine ⟨.int (numAt xs (argBest (fun i j => decide (numAt xs i < numAt xs j)) (xs.size - 1))), H, I.kept (t' := tk) (h' := h') fun b o eb => hk b o (fun z => ?_) (Heap.get?_push_of_some _ eb), ⟨_, rfl⟩, q _ ?_ fun y hy => ?_⟩
    · rw [List.mem_singleton.mp z] at eb
      exact Nat.lt_irrefl _ (Heap.lt_size eb)
    · rw [numAt_eq]; exact PySem.getD_mem (by rw [List.length_map, Array.length_toList]; omega)
    · obtain ⟨j, hj, rfl⟩ := mem_getD hy
      rw [List.length_map, Array.length_toList] at hj
      rw [← numAt_eq]; exact h2 j (by omega)
def minTD : ON := fun _ xs => match xs with
  | [.tup ws] => match intsOf ws with
    | some (n :: ns) => some (.int (minO 0 (n :: ns)))
    | _ => none
  | _ => none
def minA : ON := orN minLD minTD
theorem sMinT (hK : Γ.K = X.K) : OpN Γ (rMinT X.K) minTD := fun H μ Z s xs w vs Q hR rx e k => by
  rw [← hK]
  unfold minTD at e
  split at e
  · rename_i ws
    split at e
    · rename_i n ns q2
      cases e
      obtain ⟨v, rfl, a, ys, rfl, h2, h3⟩ := one rx
      rw [intsOf_ok q2] at h3
      have h4 := h3.ints
      subst h4
      refine ⟨a, n :: ns, rfl, h2.sq, Nat.succ_pos _, fun m hm h => ?_⟩
      rw [minO_uniq (d := 0) hm h]
      exact k _ H .refl hR rfl
    · cases e
  · cases e
abbrev rMinA (K : PySem.W.Frag) : List V → Hp → VK → Prop := fun x H Q => rMin K x H Q ∨ rMinT K x H Q
theorem cr_minA (hc : X.calm = true) : CallR X (.builtin "min") (rMinA X.K) := CallR.or2 (cr_min hc) (cr_minT hc)
theorem sMinA (hK : Γ.K = X.K) : OpN Γ (rMinA X.K) minA := OpN.or (sMinL hK) (sMinT hK)
end
end MP
set_option Elab.async false
set_option linter.all false
set_option maxRecDepth 100000
set_option maxHeartbeats 4000000
namespace MP.PG
open PySem PySem.Spec PyProof.Rows L2 MP
noncomputable def d_is_int : FS := (mRet (mAndV (mBlt (isiJ [1, 4, 8]) (mCons (mVar 0) (mCons (mK (.ty "int")) mNil))) (mAndV (mBin isntD (mVar 0) (mK (.bl true))) (mBin isntD (mVar 0) (mK (.bl false))))))
noncomputable def g_is_int : Fn := denOf 1 d_is_int
noncomputable def d_is_int_within : FS := (mRet (mAndV (mCall (g_is_int) (mCons (mVar 0) mNil)) (mChain leD leD (mVar 1) (mVar 0) (mVar 2))))
noncomputable def g_is_int_within : Fn := denOf 3 d_is_int_within
noncomputable def d_is_tuple : FS := (mRet (mAndV (mBlt (isiJ [1, 4, 8]) (mCons (mVar 0) (mCons (mK (.ty "tuple")) mNil))) (mChain leD leD (mVar 1) (mBlt lenD (mCons (mVar 0) mNil)) (mVar 2))))
noncomputable def g_is_tuple : Fn := denOf 3 d_is_tuple
noncomputable def F_first_outside_1 : FI := (iEnum1 (mCons (mVar 0) mNil))
noncomputable def t_first_outside_1 : FG := (gT 2 (gsC (gN 3) (gsC (gN 4) gs0)))
noncomputable def b_first_outside_1 : FS := (mIfS (mOr (mNot (mTest (mBlt (isiJ [1, 4, 8]) (mCons (mVar 4) (mCons (mK (.ty "int")) mNil))))) (mOr (mTest (mBin isD (mVar 4) (mK (.bl true)))) (mOr (mTest (mBin isD (mVar 4) (mK (.bl false)))) (mNot (mTest (mChain leD leD (mVar 1) (mVar 4) (mVar 2))))))) (mRet (mVar 3)) mNext)
noncomputable def d_first_outside : FS := (mSeq (mFor F_first_outside_1 t_first_outside_1 b_first_outside_1)
  (mRet (mK .non)))
noncomputable def g_first_outside : Fn := denOf 5 d_first_outside
noncomputable def d_need_rule : FS := (mSeq (mIfS (mNot (mTest (mCall (g_is_tuple) (mCons (mVar 0) (mCons (mK (.int 1)) (mCons (mK (.int 6)) mNil)))))) (mRaise 1 "number" (mK .non)) mNext)
  (mSeq (mAsg (mCall (g_first_outside) (mCons (mVar 0) (mCons (mUn negD (mK (.int 20))) (mCons (mK (.int 20)) mNil)))) (gN 1))
  (mSeq (mIfS (mTest (mBin isntD (mVar 1) (mK .non))) (mRaise 1 "number" (mVar 1)) mNext)
  (mRet (mVar 0)))))
noncomputable def g_need_rule : Fn := denOf 2 d_need_rule
noncomputable def d_is_rule : FS := (mSeq (mTryJ [1, 4, 8] 1 (mExpr (mCall (g_need_rule) (mCons (mVar 0) mNil))) (mRet (mK (.bl false))))
  (mRet (mK (.bl true))))
noncomputable def g_is_rule : Fn := denOf 1 d_is_rule
noncomputable def d_need_row : FS := (mSeq (mIfS (mNot (mTest (mCall (g_is_tuple) (mCons (mVar 0) (mCons (mK (.int 0)) (mCons (mK (.int 200)) mNil)))))) mStuck mNext)
  (mSeq (mAsg (mCall (g_first_outside) (mCons (mVar 0) (mCons (mK (.int 0)) (mCons (mK (.int 1000000)) mNil)))) (gN 1))
  (mSeq (mIfS (mTest (mBin isntD (mVar 1) (mK .non))) mStuck mNext)
  (mRet (mVar 0)))))
noncomputable def g_need_row : Fn := denOf 2 d_need_row
noncomputable def d_is_row : FS := (mSeq (mTryN (mExpr (mCall (g_need_row) (mCons (mVar 0) mNil))))
  (mRet (mK (.bl true))))
noncomputable def g_is_row : Fn := denOf 1 d_is_row
noncomputable def cF_index_of_1 : FI := (iZip2 (mCons (mVar 0) (mCons (mVar 2) mNil)))
noncomputable def ct_index_of_1 : FG := (gT 2 (gsC (gN 3) (gsC (gN 4) gs0)))
noncomputable def ci_index_of_1 : FT := mYes
noncomputable def ce_index_of_1 : FE := (mBin mulD (mVar 3) (mVar 4))
noncomputable def d_index_of : FS := (mSeq (mAsg (mBlt sortedA (mCons (mSl slA (mVar 1) (mPart (mUn negD (mBlt lenD (mCons (mVar 0) mNil)))) mNoPart) mNil)) (gN 2))
  (mRet (mBlt sumA (mCons (mComp cF_index_of_1 [3, 4] ct_index_of_1 ci_index_of_1 ce_index_of_1) mNil))))
noncomputable def g_index_of : Fn := denOf 5 d_index_of
noncomputable def F_indexes_by_ones_1 : FI := (iSeq (mRev (mVar 0)))
noncomputable def t_indexes_by_ones_1 : FG := (gN 2)
noncomputable def b_indexes_by_ones_1 : FS := (mExpr (mApp (mVar 1) (mBin addD (mBin ixA (mVar 1) (mUn negD (mK (.int 1)))) (mVar 2))))
noncomputable def d_indexes_by_ones : FS := (mSeq (mAsg (mLstM (mCons (mK (.int 0)) mNil)) (gN 1))
  (mSeq (mFor F_indexes_by_ones_1 t_indexes_by_ones_1 b_indexes_by_ones_1)
  (mRet (mVar 1))))
noncomputable def g_indexes_by_ones : Fn := denOf 3 d_indexes_by_ones
noncomputable def F_many_of_1 : FI := (iRange1 (mCons (mVar 1) mNil))
noncomputable def t_many_of_1 : FG := (gN 3)
noncomputable def b_many_of_1 : FS := (mAsg (mBin mulD (mVar 0) (mVar 2)) (gN 2))
noncomputable def d_many_of : FS := (mSeq (mAsg (mK (.int 1)) (gN 2))
  (mSeq (mFor F_many_of_1 t_many_of_1 b_many_of_1)
  (mRet (mVar 2))))
noncomputable def g_many_of : Fn := denOf 4 d_many_of
noncomputable def F_signs_of_1 : FI := (iRange1 (mCons (mVar 2) mNil))
noncomputable def t_signs_of_1 : FG := (gN 4)
noncomputable def b_signs_of_1 : FS := (mSeq (mAsg (mBlt divmodD (mCons (mVar 0) (mCons (mBlt lenD (mCons (mVar 1) mNil)) mNil))) (gT 2 (gsC (gN 0) (gsC (gN 5) gs0))))
  (mExpr (mApp (mVar 3) (mBin ixA (mVar 1) (mVar 5)))))
noncomputable def d_signs_of : FS := (mSeq (mAsg (mLstM mNil) (gN 3))
  (mSeq (mFor F_signs_of_1 t_signs_of_1 b_signs_of_1)
  (mRet (mBlt tupleD (mCons (mRev (mVar 3)) mNil)))))
noncomputable def g_signs_of : Fn := denOf 6 d_signs_of
noncomputable def cF_ones_of_1 : FI := (iSeq (mVar 1))
noncomputable def ct_ones_of_1 : FG := (gN 3)
noncomputable def ci_ones_of_1 : FT := mYes
noncomputable def ce_ones_of_1 : FE := (mBin addD (mVar 3) (mK (.int 1)))
noncomputable def F_ones_of_1 : FI := (iRange1 (mCons (mVar 0) mNil))
noncomputable def t_ones_of_1 : FG := (gN 2)
noncomputable def b_ones_of_1 : FS := (mAsg (mBin addD (mVar 1) (mComp cF_ones_of_1 [3] ct_ones_of_1 ci_ones_of_1 ce_ones_of_1)) (gN 1))
noncomputable def d_ones_of : FS := (mSeq (mAsg (mLst (mCons (mK (.int 0)) mNil)) (gN 1))
  (mSeq (mFor F_ones_of_1 t_ones_of_1 b_ones_of_1)
  (mRet (mVar 1))))
noncomputable def g_ones_of : Fn := denOf 4 d_ones_of
noncomputable def d_need_bit_row : FS := (mSeq (mAsg (mCall (g_first_outside) (mCons (mCall (g_need_row) (mCons (mVar 0) mNil)) (mCons (mK (.int 0)) (mCons (mK (.int 1)) mNil)))) (gN 1))
  (mSeq (mIfS (mTest (mBin isntD (mVar 1) (mK .non))) mStuck mNext)
  (mRet (mVar 0))))
noncomputable def g_need_bit_row : Fn := denOf 2 d_need_bit_row
noncomputable def d_need_many : FS := (mSeq (mIfS (mNot (mTest (mCall (g_is_int_within) (mCons (mVar 0) (mCons (mK (.int 1)) (mCons (mK (.int 6)) mNil)))))) (mRaise 4 "value" (mVar 0)) mNext)
  (mRet (mVar 0)))
noncomputable def g_need_many : Fn := denOf 1 d_need_many
noncomputable def cF_ones_behind_1 : FI := (iRange1 (mCons (mBin addD (mBin subD (mBlt lenD (mCons (mVar 0) mNil)) (mVar 1)) (mK (.int 1))) mNil))
noncomputable def ct_ones_behind_1 : FG := (gN 2)
noncomputable def ci_ones_behind_1 : FT := mYes
noncomputable def ce_ones_behind_1 : FE := (mBlt sumA (mCons (mSl slA (mVar 0) (mPart (mVar 2)) (mPart (mBin addD (mVar 2) (mVar 1)))) mNil))
noncomputable def d_ones_behind : FS := (mRet (mComp cF_ones_behind_1 [2] ct_ones_behind_1 ci_ones_behind_1 ce_ones_behind_1))
noncomputable def g_ones_behind : Fn := denOf 3 d_ones_behind
noncomputable def cF_tells_1 : FI := (iRange2 (mCons (mK (.int 1)) (mCons (mBin addD (mVar 1) (mK (.int 1))) mNil)))
noncomputable def ct_tells_1 : FG := (gN 3)
noncomputable def ci_tells_1 : FT := mYes
noncomputable def ce_tells_1 : FE := (mBin (inQ false) (mVar 3) (mVar 2))
noncomputable def d_tells : FS := (mSeq (mAsg (mCall (g_ones_behind) (mCons (mVar 0) (mCons (mVar 1) mNil))) (gN 2))
  (mRet (mBlt allD (mCons (mComp cF_tells_1 [3] ct_tells_1 ci_tells_1 ce_tells_1) mNil))))
noncomputable def g_tells : Fn := denOf 4 d_tells
noncomputable def d_does_tell : FS := (mSeq (mExpr (mCall (g_need_bit_row) (mCons (mVar 0) mNil)))
  (mRet (mCall (g_tells) (mCons (mVar 0) (mCons (mCall (g_need_many) (mCons (mVar 1) mNil)) mNil)))))
noncomputable def g_does_tell : Fn := denOf 2 d_does_tell
noncomputable def d_telling_row : FS := (mSeq (mExpr (mCall (g_need_many) (mCons (mVar 0) mNil)))
  (mRet (mBin addD (mBin mulD (mTup (mCons (mK (.int 0)) mNil)) (mBin subD (mVar 0) (mK (.int 1)))) (mBin mulD (mTup (mCons (mK (.int 1)) mNil)) (mVar 0)))))
noncomputable def g_telling_row : Fn := denOf 1 d_telling_row
noncomputable def cF_need_numbers_1 : FI := (iSeq (mVar 0))
noncomputable def ct_need_numbers_1 : FG := (gN 3)
noncomputable def ci_need_numbers_1 : FT := mYes
noncomputable def ce_need_numbers_1 : FE := (mCall (g_is_int) (mCons (mVar 3) mNil))
noncomputable def d_need_numbers : FS := (mSeq (mIfS (mOr (mNot (mTest (mCall (g_is_tuple) (mCons (mVar 0) (mCons (mK (.int 1)) (mCons (mBlt lenD (mCons (mVar 1) mNil)) mNil)))))) (mNot (mTest (mBlt allD (mCons (mComp cF_need_numbers_1 [3] ct_need_numbers_1 ci_need_numbers_1 ce_need_numbers_1) mNil))))) (mRaise 4 "value" (mVar 0)) mNext)
  (mSeq (mAsg (mBin subD (mBin addD (mBlt lenD (mCons (mVar 1) mNil)) (mK (.int 1))) (mBlt lenD (mCons (mVar 0) mNil))) (gN 2))
  (mSeq (mIfS (mOr (mTest (mBin gtD (mVar 2) (mK (.int 6)))) (mNot (mTest (mCall (g_tells) (mCons (mVar 1) (mCons (mVar 2) mNil)))))) (mRaise 4 "value" (mVar 0)) mNext)
  (mRet (mVar 2)))))
noncomputable def g_need_numbers : Fn := denOf 4 d_need_numbers
noncomputable def F_rule_told_1 : FI := (iZip2 (mCons (mCall (g_ones_behind) (mCons (mVar 0) (mCons (mVar 2) mNil))) (mCons (mVar 1) mNil)))
noncomputable def t_rule_told_1 : FG := (gT 2 (gsC (gN 4) (gsC (gN 5) gs0)))
noncomputable def b_rule_told_1 : FS := (mIfS (mTest (mBin neD (mSetd (mVar 3) (mVar 4) (mVar 5)) (mVar 5))) (mRaise 8 "value" (mVar 1)) mNext)
noncomputable def cF_rule_told_1 : FI := (iRevR2 (mK (.int 1)) (mBin addD (mVar 2) (mK (.int 1))))
noncomputable def ct_rule_told_1 : FG := (gN 4)
noncomputable def ci_rule_told_1 : FT := mYes
noncomputable def ce_rule_told_1 : FE := (mBin subD (mBin ixA (mVar 3) (mVar 4)) (mBin ixA (mVar 3) (mBin subD (mVar 4) (mK (.int 1)))))
noncomputable def d_rule_told : FS := (mSeq (mExpr (mCall (g_need_bit_row) (mCons (mVar 0) mNil)))
  (mSeq (mAsg (mCall (g_need_numbers) (mCons (mVar 1) (mCons (mVar 0) mNil))) (gN 2))
  (mSeq (mAsg (mDctM [((mK (.int 0)), (mK (.int 0)))]) (gN 3))
  (mSeq (mFor F_rule_told_1 t_rule_told_1 b_rule_told_1)
  (mSeq (mAsg (mBlt tupleD (mCons (mComp cF_rule_told_1 [4] ct_rule_told_1 ci_rule_told_1 ce_rule_told_1) mNil)) (gN 6))
  (mSeq (mIfS (mNot (mTest (mCall (g_is_rule) (mCons (mVar 6) mNil)))) (mRaise 8 "value" (mVar 1)) mNext)
  (mRet (mVar 6))))))))
noncomputable def g_rule_told : Fn := denOf 7 d_rule_told
noncomputable def cF_need_menu_1 : FI := (iSeq (mVar 0))
noncomputable def ct_need_menu_1 : FG := (gN 1)
noncomputable def ci_need_menu_1 : FT := mYes
noncomputable def ce_need_menu_1 : FE := (mCall (g_is_rule) (mCons (mVar 1) mNil))
noncomputable def d_need_menu : FS := (mSeq (mIfS (mOr (mNot (mTest (mCall (g_is_tuple) (mCons (mVar 0) (mCons (mK (.int 1)) (mCons (mK (.int 20)) mNil)))))) (mNot (mTest (mBlt allD (mCons (mComp cF_need_menu_1 [1] ct_need_menu_1 ci_need_menu_1 ce_need_menu_1) mNil))))) (mRaise 4 "value" (mVar 0)) mNext)
  (mRet (mVar 0)))
noncomputable def g_need_menu : Fn := denOf 2 d_need_menu
noncomputable def d_is_seen_pair : FS := (mRet (mAndV (mCall (g_is_tuple) (mCons (mVar 0) (mCons (mK (.int 2)) (mCons (mK (.int 2)) mNil)))) (mAndV (mCall (g_is_row) (mCons (mBin ixA (mVar 0) (mK (.int 0))) mNil)) (mCall (g_is_int) (mCons (mBin ixA (mVar 0) (mK (.int 1))) mNil)))))
noncomputable def g_is_seen_pair : Fn := denOf 1 d_is_seen_pair
noncomputable def cF_need_seen_1 : FI := (iSeq (mVar 0))
noncomputable def ct_need_seen_1 : FG := (gN 1)
noncomputable def ci_need_seen_1 : FT := mYes
noncomputable def ce_need_seen_1 : FE := (mCall (g_is_seen_pair) (mCons (mVar 1) mNil))
noncomputable def d_need_seen : FS := (mSeq (mIfS (mOr (mNot (mTest (mCall (g_is_tuple) (mCons (mVar 0) (mCons (mK (.int 0)) (mCons (mK (.int 50)) mNil)))))) (mNot (mTest (mBlt allD (mCons (mComp cF_need_seen_1 [1] ct_need_seen_1 ci_need_seen_1 ce_need_seen_1) mNil))))) (mRaise 4 "value" (mVar 0)) mNext)
  (mRet (mVar 0)))
noncomputable def g_need_seen : Fn := denOf 2 d_need_seen
noncomputable def F_does_fit_1 : FI := (iSeq (mVar 1))
noncomputable def t_does_fit_1 : FG := (gT 2 (gsC (gN 2) (gsC (gN 3) gs0)))
noncomputable def b_does_fit_1 : FS := (mIfS (mOr (mTest (mBin ltD (mBlt lenD (mCons (mVar 2) mNil)) (mBlt lenD (mCons (mVar 0) mNil)))) (mTest (mBin neD (mCall (g_index_of) (mCons (mVar 0) (mCons (mVar 2) mNil))) (mVar 3)))) (mRet (mK (.bl false))) mNext)
noncomputable def d_does_fit : FS := (mSeq (mFor F_does_fit_1 t_does_fit_1 b_does_fit_1)
  (mRet (mK (.bl true))))
noncomputable def g_does_fit : Fn := denOf 4 d_does_fit
noncomputable def cF_fitting_1 : FI := (iEnum1 (mCons (mVar 0) mNil))
noncomputable def ct_fitting_1 : FG := (gT 2 (gsC (gN 2) (gsC (gN 3) gs0)))
noncomputable def ci_fitting_1 : FT := (mTest (mCall (g_does_fit) (mCons (mVar 3) (mCons (mVar 1) mNil))))
noncomputable def ce_fitting_1 : FE := (mVar 2)
noncomputable def d_fitting : FS := (mSeq (mExpr (mCall (g_need_menu) (mCons (mVar 0) mNil)))
  (mSeq (mExpr (mCall (g_need_seen) (mCons (mVar 1) mNil)))
  (mRet (mBlt tupleD (mCons (mComp cF_fitting_1 [2, 3] ct_fitting_1 ci_fitting_1 ce_fitting_1) mNil)))))
noncomputable def g_fitting : Fn := denOf 4 d_fitting
noncomputable def cF_lots_by_row_1 : FI := (iSeq (mVar 0))
noncomputable def ct_lots_by_row_1 : FG := (gN 6)
noncomputable def ci_lots_by_row_1 : FT := mYes
noncomputable def ce_lots_by_row_1 : FE := (mBlt lenD (mCons (mVar 6) mNil))
noncomputable def cF_lots_by_row_2 : FI := (iSeq (mVar 0))
noncomputable def ct_lots_by_row_2 : FG := (gN 6)
noncomputable def ci_lots_by_row_2 : FT := mYes
noncomputable def ce_lots_by_row_2 : FE := (mTup (mCons (mCall (g_indexes_by_ones) (mCons (mVar 6) mNil)) (mCons (mCall (g_many_of) (mCons (mK (.int 2)) (mCons (mBlt lenD (mCons (mVar 6) mNil)) mNil))) mNil)))
noncomputable def cF_lots_by_row_3 : FI := (iSeq (mVar 2))
noncomputable def ct_lots_by_row_3 : FG := (gT 2 (gsC (gN 7) (gsC (gN 8) gs0)))
noncomputable def ci_lots_by_row_3 : FT := mYes
noncomputable def ce_lots_by_row_3 : FE := (mBin ixA (mVar 7) (mBin ixA (mVar 1) (mBin modD (mVar 4) (mVar 8))))
noncomputable def cF_lots_by_row_4 : FI := (iSeq (mVar 5))
noncomputable def ct_lots_by_row_4 : FG := (gN 9)
noncomputable def ci_lots_by_row_4 : FT := mYes
noncomputable def ce_lots_by_row_4 : FE := (mCount (mVar 5) (mVar 9))
noncomputable def F_lots_by_row_1 : FI := (iRange1 (mCons (mBlt lenD (mCons (mVar 1) mNil)) mNil))
noncomputable def t_lots_by_row_1 : FG := (gN 4)
noncomputable def b_lots_by_row_1 : FS := (mSeq (mAsg (mComp cF_lots_by_row_3 [7, 8] ct_lots_by_row_3 ci_lots_by_row_3 ce_lots_by_row_3) (gN 5))
  (mExpr (mApp (mVar 3) (mBlt maxLD (mCons (mComp cF_lots_by_row_4 [9] ct_lots_by_row_4 ci_lots_by_row_4 ce_lots_by_row_4) mNil)))))
noncomputable def d_lots_by_row : FS := (mSeq (mAsg (mCall (g_ones_of) (mCons (mBlt maxLD (mCons (mComp cF_lots_by_row_1 [6] ct_lots_by_row_1 ci_lots_by_row_1 ce_lots_by_row_1) mNil)) mNil)) (gN 1))
  (mSeq (mAsg (mComp cF_lots_by_row_2 [6] ct_lots_by_row_2 ci_lots_by_row_2 ce_lots_by_row_2) (gN 2))
  (mSeq (mAsg (mLstM mNil) (gN 3))
  (mSeq (mFor F_lots_by_row_1 t_lots_by_row_1 b_lots_by_row_1)
  (mRet (mVar 3))))))
noncomputable def g_lots_by_row : Fn := denOf 10 d_lots_by_row
noncomputable def cF_best_ask_1 : FI := (iSeq (mCall (g_fitting) (mCons (mVar 0) (mCons (mVar 1) mNil))))
noncomputable def ct_best_ask_1 : FG := (gN 6)
noncomputable def ci_best_ask_1 : FT := mYes
noncomputable def ce_best_ask_1 : FE := (mBin ixA (mVar 0) (mVar 6))
noncomputable def d_best_ask : FS := (mSeq (mAsg (mComp cF_best_ask_1 [6] ct_best_ask_1 ci_best_ask_1 ce_best_ask_1) (gN 3))
  (mSeq (mIfS (mNot (mTest (mCall (g_is_int_within) (mCons (mVar 2) (mCons (mK (.int 6)) (mCons (mK (.int 10)) mNil)))))) (mRaise 4 "value" (mVar 2)) mNext)
  (mSeq (mIfS (mTest (mBin leD (mBlt lenD (mCons (mVar 3) mNil)) (mK (.int 1)))) (mRet (mK .non)) mNext)
  (mSeq (mAsg (mCall (g_lots_by_row) (mCons (mVar 3) mNil)) (gN 4))
  (mSeq (mAsg (mBlt minLD (mCons (mVar 4) mNil)) (gN 5))
  (mSeq (mIfS (mTest (mBin eqD (mVar 5) (mBlt lenD (mCons (mVar 3) mNil)))) (mRet (mK .non)) mNext)
  (mRet (mCall (g_signs_of) (mCons (mIndex (mVar 4) (mVar 5)) (mCons (mK (.tup [.int 0, .int 1])) (mCons (mVar 2) mNil)))))))))))
noncomputable def g_best_ask : Fn := denOf 7 d_best_ask
noncomputable def cF__law_begun_1 : FI := (iSeq (mVar 2))
noncomputable def ct__law_begun_1 : FG := (gN 5)
noncomputable def ci__law_begun_1 : FT := (mTest (mBin geD (mVar 5) (mBin powD (mK (.int 10)) (mK (.int 18)))))
noncomputable def ce__law_begun_1 : FE := (mVar 5)
noncomputable def F__law_begun_1 : FI := (iSeq (mVar 2))
noncomputable def t__law_begun_1 : FG := (gN 5)
noncomputable def b__law_begun_1 : FS := (mAsg (mBin modD (mBlt intD (mCons (mBin addD (mBin mulD (mVar 4) (mK (.int 48271))) (mVar 5)) mNil)) (mK (.int 2147483647))) (gN 4))
noncomputable def d__law_begun : FS := (mSeq (mAsg (mBin addD (mSl slA (mVar 0) (mPart (mVar 1)) mNoPart) (mSl slA (mVar 0) mNoPart (mPart (mVar 1)))) (gN 2))
  (mSeq (mAsg (mComp cF__law_begun_1 [5] ct__law_begun_1 ci__law_begun_1 ce__law_begun_1) (gN 3))
  (mSeq (mAsg (mBin addD (mK (.int 103)) (mVar 1)) (gN 4))
  (mSeq (mFor F__law_begun_1 t__law_begun_1 b__law_begun_1)
  (mRet (mDctM [((mK (.str "left")), (mIf (mTest (mBin neD (mVar 3) (mLst mNil))) (mBin ixA (mVar 3) (mK (.int 0))) (mK (.int 0)))), ((mK (.str "seed")), (mVar 4)), ((mK (.str "cells")), (mBin addD (mVar 2) (mLst (mCons (mBin addD (mBin mulD (mK (.int 37)) (mVar 1)) (mK (.int 11))) mNil)))), ((mK (.str "spot")), (mK (.int 0)))]))))))
noncomputable def g__law_begun : Fn := denOf 6 d__law_begun
noncomputable def d__law_draw : FS := (mSeq (mIfS (mTest (mBin gtD (mBin ixA (mVar 0) (mK (.str "left"))) (mK (.int 0)))) (mSeq (mAsg (mBin modD (mBlt intD (mCons (mBin ixA (mVar 0) (mK (.str "left"))) mNil)) (mVar 1)) (gN 2))
  (mSeq (mDPut (mVar 0) (mK (.str "left")) (mBin divD (mBin ixA (mVar 0) (mK (.str "left"))) (mVar 1)))
  (mRet (mVar 2)))) mNext)
  (mSeq (mAsg (mBin ixA (mVar 0) (mK (.str "spot"))) (gN 3))
  (mSeq (mDPut (mVar 0) (mK (.str "spot")) (mBin addD (mVar 3) (mK (.int 1))))
  (mSeq (mPar 4 5 (mCons (mBin ixA (mVar 0) (mK (.str "cells"))) (mCons (mBin addD (mBin ixA (mVar 0) (mK (.str "seed"))) (mBin mulD (mBin mulD (mK (.int 40503)) (mVar 3)) (mVar 3))) mNil)))
  (mSeq (mAsg (mBin ixA (mVar 4) (mBin modD (mBlt intD (mCons (mVar 3) mNil)) (mBlt lenD (mCons (mVar 4) mNil)))) (gN 6))
  (mSeq (mAsg (mBin modD (mBlt intD (mCons (mBin addD (mBin mulD (mVar 6) (mBin addD (mBin mulD (mK (.int 2)) (mVar 3)) (mK (.int 3)))) (mVar 5)) mNil)) (mK (.int 2147483647))) (gN 7))
  (mSeq (mAsg (mBin modD (mBlt intD (mCons (mBin addD (mBin addD (mBin mulD (mVar 7) (mVar 7)) (mBin mulD (mK (.int 69621)) (mVar 3))) (mBin ixA (mVar 0) (mK (.str "seed")))) mNil)) (mK (.int 2147483629))) (gN 7))
  (mRet (mBin modD (mBin divD (mBin modD (mBlt intD (mCons (mBin addD (mBin mulD (mVar 7) (mK (.int 48271))) (mVar 3)) mNil)) (mK (.int 2147483647))) (mK (.int 11))) (mVar 1))))))))))
noncomputable def g__law_draw : Fn := denOf 8 d__law_draw
noncomputable def d__law_of : FS := (mRet (mBin ixA (mVar 1) (mCall (g__law_draw) (mCons (mVar 0) (mCons (mBlt lenD (mCons (mVar 1) mNil)) mNil)))))
noncomputable def g__law_of : Fn := denOf 2 d__law_of
noncomputable def cF__law_tune_1 : FI := (iRange1 (mCons (mBin addD (mK (.int 1)) (mCall (g__law_draw) (mCons (mVar 0) (mCons (mVar 1) mNil)))) mNil))
noncomputable def ct__law_tune_1 : FG := (gN 2)
noncomputable def ci__law_tune_1 : FT := mYes
noncomputable def ce__law_tune_1 : FE := (mBin subD (mCall (g__law_draw) (mCons (mVar 0) (mCons (mK (.int 9)) mNil))) (mK (.int 3)))
noncomputable def d__law_tune : FS := (mRet (mBlt tupleD (mCons (mComp cF__law_tune_1 [2] ct__law_tune_1 ci__law_tune_1 ce__law_tune_1) mNil)))
noncomputable def g__law_tune : Fn := denOf 3 d__law_tune
noncomputable def cF__law_sum_1 : FI := (iZip2 (mCons (mVar 0) (mCons (mBlt sortedA (mCons (mVar 1) mNil)) mNil)))
noncomputable def ct__law_sum_1 : FG := (gT 2 (gsC (gN 2) (gsC (gN 3) gs0)))
noncomputable def ci__law_sum_1 : FT := mYes
noncomputable def ce__law_sum_1 : FE := (mBin mulD (mVar 2) (mVar 3))
noncomputable def d__law_sum : FS := (mRet (mBlt sumA (mCons (mComp cF__law_sum_1 [2, 3] ct__law_sum_1 ci__law_sum_1 ce__law_sum_1) mNil)))
noncomputable def g__law_sum : Fn := denOf 4 d__law_sum
noncomputable def cF__law_all_1 : FI := (iSeq (mVar 0))
noncomputable def ct__law_all_1 : FG := (gN 6)
noncomputable def ci__law_all_1 : FT := mYes
noncomputable def ce__law_all_1 : FE := (mBin addD (mVar 5) (mTup (mCons (mVar 6) mNil)))
noncomputable def F__law_all_1 : FI := (iSeq (mVar 2))
noncomputable def t__law_all_1 : FG := (gN 5)
noncomputable def b__law_all_1 : FS := (mAsg (mBin addD (mVar 4) (mComp cF__law_all_1 [6] ct__law_all_1 ci__law_all_1 ce__law_all_1)) (gN 4))
noncomputable def F__law_all_2 : FI := (iRange1 (mCons (mVar 1) mNil))
noncomputable def t__law_all_2 : FG := (gN 3)
noncomputable def b__law_all_2 : FS := (mSeq (mAsg (mLst mNil) (gN 4))
  (mSeq (mFor F__law_all_1 t__law_all_1 b__law_all_1)
  (mAsg (mVar 4) (gN 2))))
noncomputable def d__law_all : FS := (mSeq (mAsg (mLst (mCons (mTup mNil) mNil)) (gN 2))
  (mSeq (mFor F__law_all_2 t__law_all_2 b__law_all_2)
  (mRet (mVar 2))))
noncomputable def g__law_all : Fn := denOf 7 d__law_all
end MP.PG
set_option Elab.async false
set_option linter.all false
set_option maxRecDepth 100000
set_option maxHeartbeats 400000
namespace MP.PG
open PySem PySem.Spec PyProof.Rows L2 MP
@[simp] theorem isiJ_int {js : List Nat} {s : Sto} {i : Int} : isiJ js s [.int i, .ty "int"] = some (.bl true) := rfl
@[simp] theorem isiJ_tup {js : List Nat} {s : Sto} {ws : List Dv} : isiJ js s [.tup ws, .ty "tuple"] = some (.bl true) := rfl
@[simp] theorem isI_t {s : Sto} {i : Int} {b : Bool} : isD s (.int i) (.bl b) = some (.bl false) := rfl
@[simp] theorem isntI_t {s : Sto} {i : Int} {b : Bool} : isntD s (.int i) (.bl b) = some (.bl true) := rfl
theorem is_int_int (i : Int) (s : Sto) : g_is_int [.int i] s = .ok (.bl true) s := by
  simp [g_is_int, d_is_int]
theorem is_int_within_int (i a b : Int) (s : Sto) : g_is_int_within [.int i, .int a, .int b] s = .ok (.bl (decide (a ≤ i) && decide (i ≤ b))) s := by
  by_cases h : a ≤ i <;> simp [g_is_int_within, d_is_int_within, is_int_int, h]
theorem is_tuple_tup (ws : List Dv) (a b : Int) (s : Sto) : g_is_tuple [.tup ws, .int a, .int b] s = .ok (.bl (decide (a ≤ ws.length) && decide (ws.length ≤ b))) s := by
  by_cases h : a ≤ ws.length <;> simp [g_is_tuple, d_is_tuple, h]
theorem first_in (ns : List Int) (a b : Int) (s : Sto) (h : ∀ i ∈ ns, a ≤ i ∧ i ≤ b) : g_first_outside [tI ns, .int a, .int b] s = .ok .non s := by
  obtain ⟨ρ', s', h1, h2⟩ := for_ix (g := t_first_outside_1) (body := b_first_outside_1) (F := F_first_outside_1) (ρ := [some (tI ns), some (.int a), some (.int b), none, none]) (s := s) (s1 := s) (xs := enumD 0 (ns.map .int))
    (fun _ ρ s' => s' = s ∧ ∃ x y, ρ = [some (tI ns), some (.int a), some (.int b), x, y]) rfl ⟨rfl, _, _, rfl⟩ (fun i x ρ s' hx hJ => by
      obtain ⟨rfl, y, z, rfl⟩ := hJ
      obtain ⟨w, hw, rfl⟩ := enumD_get hx
      rw [List.getElem?_map] at hw
      cases hn : ns[i]? with
      | none => rw [hn] at hw; cases hw
      | some n =>
        rw [hn] at hw
        cases hw
        have hb := h n (List.mem_of_getElem? hn)
        refine ⟨[some (tI ns), some (.int a), some (.int b), some (.int (0 + i : Nat)), some (.int n)], [some (tI ns), some (.int a), some (.int b), some (.int (0 + i : Nat)), some (.int n)], s', rfl, .inl ?_, rfl, _, _, rfl⟩
        simp [b_first_outside_1, hb.1, hb.2])
  obtain ⟨rfl, x, y, rfl⟩ := h2
  simp [g_first_outside, d_first_outside, h1]
structure Rule (rs : List Int) : Prop where
  one : 1 ≤ rs.length
  six : rs.length ≤ 6
  ok : ∀ i ∈ rs, -20 ≤ i ∧ i ≤ 20
structure Row (ns : List Int) : Prop where
  most : ns.length ≤ 200
  ok : ∀ i ∈ ns, 0 ≤ i ∧ i ≤ 1000000
@[simp] theorem isnt_nn {s : Sto} : isntD s .non .non = some (.bl false) := rfl
@[simp] theorem is_nn {s : Sto} : isD s .non .non = some (.bl true) := rfl
theorem need_rule_ok {rs : List Int} (h : Rule rs) (s : Sto) : g_need_rule [tI rs] s = .ok (tI rs) s := by
  have h1 := h.one
  have h6 := h.six
  simp [g_need_rule, d_need_rule, is_tuple_tup, first_in rs _ _ _ h.ok, h6, show (1 : Int) ≤ rs.length by omega, show (rs.length : Int) ≤ 6 by omega]
end MP.PG
set_option Elab.async false
set_option linter.all false
set_option maxRecDepth 100000
set_option maxHeartbeats 400000
namespace MP.PG
open PySem PySem.Spec PyProof.Rows L2 MP
abbrev kCells : Key := .inr (Str.ofString "cells")
abbrev kLeft : Key := .inr (Str.ofString "left")
abbrev kSeed : Key := .inr (Str.ofString "seed")
abbrev kSpot : Key := .inr (Str.ofString "spot")
/-- the seed, told back from the cells -/
def sdOf (cs : List Int) : Int := cs.dropLast.foldl (fun sd c => (sd * 48271 + c) % 2147483647) (103 + (cs.getLastD 0 - 11) / 37)
abbrev Dc (cs : List Int) (l p : Int) : Ob := .dct [(kLeft, .int l), (kSeed, .int (sdOf cs)), (kCells, .lst (cs.map .int)), (kSpot, .int p)]
/-- the store: what stands ahead, the state of the draws, what came behind -/
def St (pre tl : Sto) (cs : List Int) (l p : Int) : Sto := pre ++ Dc cs l p :: tl
section
variable {pre tl : Sto} {cs : List Int} {l p l' p' : Int}
theorem St_at : (St pre tl cs l p)[pre.length]? = some (Dc cs l p) := by
  unfold St
  rw [List.getElem?_append_right (Nat.le_refl _), Nat.sub_self]
  rfl
theorem St_dct : dctOf (St pre tl cs l p) (.ref pre.length) = some [(kLeft, .int l), (kSeed, .int (sdOf cs)), (kCells, .lst (cs.map .int)), (kSpot, .int p)] := by
  unfold dctOf
  dsimp only
  rw [St_at]
theorem St_set : (St pre tl cs l p).set pre.length (Dc cs l' p') = St pre tl cs l' p' := by
  unfold St
  rw [List.set_append_right _ _ (Nat.le_refl _), Nat.sub_self]
  rfl
theorem St_len : (St pre tl cs l p).length = pre.length + (1 + tl.length) := by
  unfold St
  rw [List.length_append, List.length_cons]
  omega
theorem ix_dct {s : Sto} {n : Nat} {kws : List (Key × Dv)} {x : Str} (h : dctOf s (.ref n) = some kws) (hn : ∀ ws, s[n]? ≠ some (.lst ws)) : ixA s (.ref n) (.str x) = valD kws (.inr x) := by
  show (match (match ixL s (.ref n) (.str x) with | some w => some w | none => ixT s (.ref n) (.str x)) with | some w => some w | none => ixD s (.ref n) (.str x)) = _
  rw [show ixL s (.ref n) (.str x) = none from rfl, show ixT s (.ref n) (.str x) = none from rfl]
  dsimp only
  unfold ixD
  rw [h]
  rfl
theorem get_left : ixA (St pre tl cs l p) (.ref pre.length) (.str "left") = some (.int l) := (ix_dct St_dct fun ws h => by rw [St_at] at h; cases h).trans rfl
theorem get_spot : ixA (St pre tl cs l p) (.ref pre.length) (.str "spot") = some (.int p) := (ix_dct St_dct fun ws h => by rw [St_at] at h; cases h).trans rfl
theorem get_cells : ixA (St pre tl cs l p) (.ref pre.length) (.str "cells") = some (.lst (cs.map .int)) := (ix_dct St_dct fun ws h => by rw [St_at] at h; cases h).trans rfl
theorem get_seed : ixA (St pre tl cs l p) (.ref pre.length) (.str "seed") = some (.int (sdOf cs)) := (ix_dct St_dct fun ws h => by rw [St_at] at h; cases h).trans rfl
theorem put_ev {f h : FE} {ρ : Env} {s : Sto} {n : Nat} {x : Str} {v : Dv} {kws : List (Key × Dv)} (h0 : f ρ s = .ok (.ref n) s) (h2 : h ρ s = .ok v s) (h3 : s[n]? = some (.dct kws)) (hl : kws.length < lim) : mDPut f (mK (.str x)) h ρ s = .nx ρ (s.set n (.dct (putD kws (.inr x) v))) := by
  unfold mDPut
  rw [h2, then_ok, h0, then_ok, k_ev, then_ok]
  show (match s[n]? with
    | some (.dct kws) => if kws.length < lim then C.nx ρ (s.set n (.dct (putD kws (.inr x) v))) else .no
    | _ => .no) = _
  rw [h3]
  exact if_pos hl
theorem fin_St {w : Dv} : finC (St pre tl cs l p).length (.rt w (St pre tl cs l' p')) = .ok w (St pre tl cs l' p') := finW_le (by rw [St_len, St_len]; exact Nat.le_refl _)
end
theorem put_left {pre tl : Sto} {cs : List Int} {l p l' : Int} {ρ : Env} {f : FE} {i : Nat} (h0 : mVar 0 ρ (St pre tl cs l p) = .ok (.ref pre.length) (St pre tl cs l p)) (h : f ρ (St pre tl cs l p) = .ok (.int l') (St pre tl cs l p)) : mDPut (mVar 0) (mK (.str "left")) f ρ (St pre tl cs l p) = .nx ρ (St pre tl cs l' p) := by
  rw [put_ev h0 h St_at (by show 4 < lim; unfold lim; decide)]
  exact congrArg (C.nx ρ) St_set
theorem put_spot {pre tl : Sto} {cs : List Int} {l p p' : Int} {ρ : Env} {f : FE} {i : Nat} (h0 : mVar 0 ρ (St pre tl cs l p) = .ok (.ref pre.length) (St pre tl cs l p)) (h : f ρ (St pre tl cs l p) = .ok (.int p') (St pre tl cs l p)) : mDPut (mVar 0) (mK (.str "spot")) f ρ (St pre tl cs l p) = .nx ρ (St pre tl cs l p') := by
  rw [put_ev h0 h St_at (by show 4 < lim; unfold lim; decide)]
  exact congrArg (C.nx ρ) St_set
theorem mod_ii {s : Sto} {i j : Int} (h : 0 < j) : modD s (.int i) (.int j) = some (.int (i % j)) := if_pos h
theorem div_ii {s : Sto} {i j : Int} (h : 0 < j) (h2 : j < 1073741824) : divD s (.int i) (.int j) = some (.int (i / j)) := if_pos ⟨h, h2⟩
structure Drawn (many : Int) (pre tl : Sto) (cs : List Int) (p : Int) (rr : R Dv) : Prop where
  ok : ∃ d l' p', rr = .ok (.int d) (St pre tl cs l' p') ∧ 0 ≤ d ∧ d < many ∧ 0 ≤ p' ∧ p' ≤ p + 1
theorem draw_ok {pre tl : Sto} {cs : List Int} {l p many : Int} (hc : cs ≠ []) (hm : 0 < many) (hm2 : many < 1073741824) (hp : 0 ≤ p) (hp2 : p < 1000000) : Drawn many pre tl cs p (g__law_draw [.ref pre.length, .int many] (St pre tl cs l p)) := by
  let E (x2 x3 x4 x5 x6 x7 : Option Dv) : Env := [some (.ref pre.length), some (.int many), x2, x3, x4, x5, x6, x7]
  have e0 : startD 8 [.ref pre.length, .int many] = E none none none none none none := rfl
  have gl : ∀ (ρ : Env) (p : Int), mBin ixA (mVar 0) (mK (.str "left")) (some (.ref pre.length) :: ρ) (St pre tl cs l p) = .ok (.int l) (St pre tl cs l p) := fun ρ p => bin_v (x := .ref pre.length) rfl k_ev get_left
  have eT : mTest (mBin gtD (mBin ixA (mVar 0) (mK (.str "left"))) (mK (.int 0))) (E none none none none none none) (St pre tl cs l p) = .ok (decide (0 < l)) (St pre tl cs l p) := test_v (bin_v (gl _ _) k_ev rfl)
  by_cases hl : 0 < l
  · refine ⟨l % many, l / many, p, ?_, Int.emod_nonneg _ (by omega), Int.emod_lt_of_pos _ hm, hp, by omega⟩
    rw [decide_eq_true hl] at eT
    have e1 : mAsg (mBin modD (mBlt intD (mCons (mBin ixA (mVar 0) (mK (.str "left"))) mNil)) (mVar 1)) (gN 2) (E none none none none none none) (St pre tl cs l p) = .nx (E (some (.int (l % many))) none none none none none) (St pre tl cs l p) :=
      (asg_v (w := .int (l % many)) (bin_v (x := .int l) (y := .int many) (blt_v (cons_v (gl _ _) nil_ev) rfl) rfl (mod_ii hm))).trans rfl
    have e2 : mDPut (mVar 0) (mK (.str "left")) (mBin divD (mBin ixA (mVar 0) (mK (.str "left"))) (mVar 1)) (E (some (.int (l % many))) none none none none none) (St pre tl cs l p) = .nx (E (some (.int (l % many))) none none none none none) (St pre tl cs (l / many) p) :=
      put_left (i := 0) rfl (bin_v (x := .int l) (y := .int many) (gl _ _) rfl (div_ii hm hm2))
    unfold g__law_draw d__law_draw
    rw [den_ev, e0]
    refine (congrArg (finC _) ?_).trans (fin_St (w := .int (l % many)) (l := l) (p := p))
    rw [seq_ev, ifS_t eT, seq_ev, e1, seqK_nx, seq_ev, e2, seqK_nx, ret_v (w := .int (l % many)) rfl]
    rfl
  · rw [decide_eq_false hl] at eT
    have hcl : 0 < cs.length := List.length_pos_iff.mpr hc
    have hx : (p % (cs.length : Int)).toNat < cs.length := by
      have h1 := Int.emod_lt_of_pos p (show (0 : Int) < cs.length by omega)
      have h2 := Int.emod_nonneg p (show (cs.length : Int) ≠ 0 by omega)
      omega
    have hy : (((p % (cs.length : Int)).toNat : Nat) : Int) = p % (cs.length : Int) := Int.toNat_of_nonneg (Int.emod_nonneg _ (by omega))
    generalize hq : (p % (cs.length : Int)).toNat = q at hx hy
    let c := cs[q]
    let sd := sdOf cs
    let ad := sd + 40503 * p * p
    let b1 := (c * (2 * p + 3) + ad) % 2147483647
    let b2 := (b1 * b1 + 69621 * p + sd) % 2147483629
    have hb1 : 0 ≤ b1 ∧ b1 < 2147483647 := ⟨Int.emod_nonneg _ (by decide), Int.emod_lt_of_pos _ (by decide)⟩
    have hb2 : 0 ≤ b2 ∧ b2 < 2147483629 := ⟨Int.emod_nonneg _ (by decide), Int.emod_lt_of_pos _ (by decide)⟩
    refine ⟨(b2 * 48271 + p) % 2147483647 / 11 % many, l, p + 1, ?_, Int.emod_nonneg _ (by omega), Int.emod_lt_of_pos _ hm, by omega, by omega⟩
    have hcq : (cs.map Dv.int)[q]? = some (.int c) := by rw [List.getElem?_map, List.getElem?_eq_getElem hx]; rfl
    let C : Dv := .lst (cs.map .int)
    have e1 : mAsg (mBin ixA (mVar 0) (mK (.str "spot"))) (gN 3) (E none none none none none none) (St pre tl cs l p) = .nx (E none (some (.int p)) none none none none) (St pre tl cs l p) :=
      (asg_v (w := .int p) (bin_v (x := .ref pre.length) rfl k_ev get_spot)).trans rfl
    have e2 : mDPut (mVar 0) (mK (.str "spot")) (mBin addD (mVar 3) (mK (.int 1))) (E none (some (.int p)) none none none none) (St pre tl cs l p) = .nx (E none (some (.int p)) none none none none) (St pre tl cs l (p + 1)) :=
      put_spot (i := 0) rfl (bin_v (x := .int p) (y := .int 1) rfl k_ev add_ii)
    have e3 : mPar 4 5 (mCons (mBin ixA (mVar 0) (mK (.str "cells"))) (mCons (mBin addD (mBin ixA (mVar 0) (mK (.str "seed"))) (mBin mulD (mBin mulD (mK (.int 40503)) (mVar 3)) (mVar 3))) mNil)) (E none (some (.int p)) none none none none) (St pre tl cs l (p + 1)) = .nx (E none (some (.int p)) (some C) (some (.int ad)) none none) (St pre tl cs l (p + 1)) := by
      have f1 : mBin ixA (mVar 0) (mK (.str "cells")) (E none (some (.int p)) none none none none) (St pre tl cs l (p + 1)) = .ok C (St pre tl cs l (p + 1)) := bin_v (x := .ref pre.length) rfl k_ev get_cells
      have f2 : mBin addD (mBin ixA (mVar 0) (mK (.str "seed"))) (mBin mulD (mBin mulD (mK (.int 40503)) (mVar 3)) (mVar 3)) (E none (some (.int p)) none none none none) (St pre tl cs l (p + 1)) = .ok (.int ad) (St pre tl cs l (p + 1)) :=
        bin_v (x := .int sd) (y := .int (40503 * p * p)) (bin_v (x := .ref pre.length) rfl k_ev get_seed) (bin_v (x := .int (40503 * p)) (y := .int p) (bin_v (x := .int 40503) (y := .int p) k_ev rfl (mul_ii (cm_l ⟨by decide, by decide⟩))) rfl (mul_ii (cm_r ⟨by omega, by omega⟩))) add_ii
      rw [par_ev, f1, then_ok, f2, then_ok]
      rfl
    have e4 : mAsg (mBin ixA (mVar 4) (mBin modD (mBlt intD (mCons (mVar 3) mNil)) (mBlt lenD (mCons (mVar 4) mNil)))) (gN 6) (E none (some (.int p)) (some C) (some (.int ad)) none none) (St pre tl cs l (p + 1)) = .nx (E none (some (.int p)) (some C) (some (.int ad)) (some (.int c)) none) (St pre tl cs l (p + 1)) := by
      refine (asg_v (w := .int c) (bin_v (x := C) (y := .int ((q : Nat) : Int)) rfl (bin_v (x := .int p) (y := .int (cs.length : Int)) (blt_v (cons_v (w := .int p) rfl nil_ev) rfl) (blt_v (cons_v (w := C) rfl nil_ev) (by rw [len_lst, List.length_map])) (by rw [mod_ii (by omega), hy])) (ix_lst hcq))).trans rfl
    have e5 : mAsg (mBin modD (mBlt intD (mCons (mBin addD (mBin mulD (mVar 6) (mBin addD (mBin mulD (mK (.int 2)) (mVar 3)) (mK (.int 3)))) (mVar 5)) mNil)) (mK (.int 2147483647))) (gN 7) (E none (some (.int p)) (some C) (some (.int ad)) (some (.int c)) none) (St pre tl cs l (p + 1)) = .nx (E none (some (.int p)) (some C) (some (.int ad)) (some (.int c)) (some (.int b1))) (St pre tl cs l (p + 1)) :=
      (asg_v (w := .int b1) (bin_v (x := .int (c * (2 * p + 3) + ad)) (y := .int 2147483647) (blt_v (cons_v (bin_v (x := .int (c * (2 * p + 3))) (y := .int ad) (bin_v (x := .int c) (y := .int (2 * p + 3)) rfl (bin_v (x := .int (2 * p)) (y := .int 3) (bin_v (x := .int 2) (y := .int p) k_ev rfl (mul_ii (cm_l ⟨by decide, by decide⟩))) k_ev add_ii) (mul_ii (cm_r ⟨by omega, by omega⟩))) rfl add_ii) nil_ev) rfl) k_ev (mod_ii (by decide)))).trans rfl
    have e6 : mAsg (mBin modD (mBlt intD (mCons (mBin addD (mBin addD (mBin mulD (mVar 7) (mVar 7)) (mBin mulD (mK (.int 69621)) (mVar 3))) (mBin ixA (mVar 0) (mK (.str "seed")))) mNil)) (mK (.int 2147483629))) (gN 7) (E none (some (.int p)) (some C) (some (.int ad)) (some (.int c)) (some (.int b1))) (St pre tl cs l (p + 1)) = .nx (E none (some (.int p)) (some C) (some (.int ad)) (some (.int c)) (some (.int b2))) (St pre tl cs l (p + 1)) :=
      (asg_v (w := .int b2) (bin_v (x := .int (b1 * b1 + 69621 * p + sd)) (y := .int 2147483629) (blt_v (cons_v (bin_v (x := .int (b1 * b1 + 69621 * p)) (y := .int sd) (bin_v (x := .int (b1 * b1)) (y := .int (69621 * p)) (bin_v (x := .int b1) (y := .int b1) rfl rfl (mul_ii (cm_l ⟨by omega, by omega⟩))) (bin_v (x := .int 69621) (y := .int p) k_ev rfl (mul_ii (cm_l ⟨by decide, by decide⟩))) add_ii) (bin_v (x := .ref pre.length) rfl k_ev get_seed) add_ii) nil_ev) rfl) k_ev (mod_ii (by decide)))).trans rfl
    have e7 : mRet (mBin modD (mBin divD (mBin modD (mBlt intD (mCons (mBin addD (mBin mulD (mVar 7) (mK (.int 48271))) (mVar 3)) mNil)) (mK (.int 2147483647))) (mK (.int 11))) (mVar 1)) (E none (some (.int p)) (some C) (some (.int ad)) (some (.int c)) (some (.int b2))) (St pre tl cs l (p + 1)) = .rt (.int ((b2 * 48271 + p) % 2147483647 / 11 % many)) (St pre tl cs l (p + 1)) :=
      ret_v (bin_v (x := .int ((b2 * 48271 + p) % 2147483647 / 11)) (y := .int many) (bin_v (x := .int ((b2 * 48271 + p) % 2147483647)) (y := .int 11) (bin_v (x := .int (b2 * 48271 + p)) (y := .int 2147483647) (blt_v (cons_v (bin_v (x := .int (b2 * 48271)) (y := .int p) (bin_v (x := .int b2) (y := .int 48271) rfl k_ev (mul_ii (cm_l ⟨by omega, by omega⟩))) rfl add_ii) nil_ev) rfl) k_ev (mod_ii (by decide))) k_ev (div_ii (by decide) (by decide))) rfl (mod_ii hm))
    unfold g__law_draw d__law_draw
    rw [den_ev, e0]
    refine (congrArg (finC _) ?_).trans (fin_St (w := .int ((b2 * 48271 + p) % 2147483647 / 11 % many)) (l := l) (p := p))
    rw [seq_ev, ifS_f eT]
    exact seq_nx e1 (seq_nx e2 (seq_nx e3 (seq_nx e4 (seq_nx e5 (seq_nx e6 e7)))))
end MP.PG
set_option Elab.async false
set_option linter.all false
set_option maxRecDepth 100000
set_option maxHeartbeats 400000
namespace MP.PG
open PySem PySem.Spec PyProof.Rows L2 MP
theorem eq_ii {s : Sto} {a b : Int} : eqD s (.int a) (.int b) = some (.bl (decide (a = b))) := by
  have e : decide (V.int a = V.int b) = decide (a = b) := by
    by_cases h : a = b
    · rw [h, decide_eq_true rfl, decide_eq_true rfl]
    · rw [decide_eq_false h, decide_eq_false fun z => h (V.int.inj z)]
  show (some (decide (V.int a = V.int b))).map Dv.bl = _
  rw [e]
  rfl
/-- one of some -/
theorem law_of_ok {pre tl : Sto} {cs : List Int} {l p : Int} {ws : List Dv} (hc : cs ≠ []) (hp : 0 ≤ p) (hp2 : p < 1000000) (hw : ws ≠ []) (hw2 : ws.length < 1000) : ∃ w l' p', w ∈ ws ∧ g__law_of [.ref pre.length, .lst ws] (St pre tl cs l p) = .ok w (St pre tl cs l' p') ∧ 0 ≤ p' ∧ p' ≤ p + 1 := by
  have hl : 0 < ws.length := List.length_pos_iff.mpr hw
  obtain ⟨k, l2, p2, d2, k0, k6, p20, p21⟩ := (draw_ok (l := l) hc (show (0 : Int) < ws.length by omega) (by omega) hp hp2).ok
  obtain ⟨j, rfl⟩ := Int.eq_ofNat_of_zero_le k0
  have hj : j < ws.length := by omega
  refine ⟨ws[j], l2, p2, List.getElem_mem hj, ?_, p20, p21⟩
  have e0 : startD 2 [.ref pre.length, .lst ws] = [some (.ref pre.length), some (.lst ws)] := rfl
  unfold g__law_of d__law_of
  rw [den_ev, e0, ret_ev, bin_ev, var_s, var_0, bind_ok, call_ev, cons_ev, var_0, bind_ok, cons_ev, blt_ev, cons_ev, var_s, var_0, bind_ok, nil_ev, bind_ok, bind_ok, len_lst, of_some, bind_ok, nil_ev, bind_ok, bind_ok, bind_ok, d2, bind_ok, ix_lst (List.getElem?_eq_getElem hj), of_some, then_ok]
  exact fin_St
end MP.PG
set_option Elab.async false
set_option linter.all false
set_option maxRecDepth 100000
set_option maxHeartbeats 400000
namespace MP.PG
open PySem PySem.Spec PyProof.Rows L2 MP
structure Term where
  rs : List Int
  a : Int
  b : Int
abbrev tm (t : Term) : Dv := .tup [tI t.rs, .int t.a, .int t.b]
abbrev bi (o : Int) (ts : List Term) : Dv := .tup [.int o, .tup (ts.map tm)]
abbrev lens (ts : List Term) : List Int := ts.map fun t => (t.rs.length : Int)
def wd (ts : List Term) : Nat := (maxO 1 (lens ts)).toNat
variable {s : Sto} {o : Int} {ts : List Term} {ns : List Int}
theorem ix_tup0 {a : Dv} {ws : List Dv} : ixA s (.tup (a :: ws)) (.int 0) = some a := ix_tup (k := 0) rfl
theorem ix_tup1 {a b : Dv} {ws : List Dv} : ixA s (.tup (a :: b :: ws)) (.int 1) = some b := ix_tup (k := 1) rfl
def seg (rs ns : List Int) (e : Nat) : List Int := (ns.drop (e - rs.length)).take rs.length
/-- the index of the results that end at e -/
def ixe (rs ns : List Int) (e : Nat) : Int := dot rs (srt (seg rs ns e))
def ps (o : Int) (ts : List Term) (ns : List Int) (e : Nat) : Int := o * ns.getD e 0 + (ts.map fun t => t.a * ixe t.rs ns e + t.b * ixe t.rs ns (e + 1)).sum
end MP.PG
set_option Elab.async false
set_option linter.all false
set_option maxRecDepth 100000
set_option maxHeartbeats 400000
namespace MP.PG
open PySem PySem.Spec PyProof.Rows L2 MP
theorem cleans_int (n : Nat) : ∀ l : List Int, cleans n (l.map .int) = true
  | [] => rfl
  | _ :: l => by
    show (true && cleans n (l.map .int)) = true
    rw [cleans_int n l]
    rfl
theorem fz_ints {s : Sto} {n k : Nat} : ∀ l : List Int, mapO (fz (k + 1) s n) (l.map .int) = some (l.map .int)
  | [] => rfl
  | a :: l => by
    have e : fz (k + 1) s n (.int a) = some (.int a) := by
      unfold fz
      exact if_pos rfl
    rw [List.map_cons]
    unfold mapO
    rw [e, fz_ints l]
/-- the place behind all -/
def r1 (pre os : Sto) : Nat := pre.length + 1 + os.length
def ClP (pre os : Sto) : Prop := ∀ n, pre.all (Ob.clean n) = true ∧ os.all (Ob.clean n) = true
theorem St_clean {n : Nat} {pre os : Sto} {cs : List Int} {l p : Int} (ho : ClP pre os) : (St pre os cs l p).all (Ob.clean n) = true := by
  unfold St
  rw [List.all_append, (ho n).1]
  show (true && ((cleans n (cs.map .int) && (true && (true && true))) && os.all (Ob.clean n))) = true
  rw [cleans_int, (ho n).2]
  rfl
theorem St_app {pre os us : Sto} {cs : List Int} {l p : Int} : St pre (os ++ us) cs l p = St pre os cs l p ++ us := by
  unfold St
  rw [List.append_assoc]
  rfl
theorem r1_len {pre os : Sto} {cs : List Int} {l p : Int} : (St pre os cs l p).length = r1 pre os := by rw [St_len]; unfold r1; omega
theorem at_end {pre os : Sto} {cs : List Int} {l p : Int} {x : Ob} : (St pre (os ++ [x]) cs l p)[r1 pre os]? = some x := by
  rw [St_app, ← r1_len (cs := cs) (l := l) (p := p), List.getElem?_append_right (Nat.le_refl _), Nat.sub_self]
  rfl
theorem take_end {pre os : Sto} {cs : List Int} {l p : Int} {x : Ob} : (St pre (os ++ [x]) cs l p).take (r1 pre os) = St pre os cs l p := by
  rw [St_app, ← r1_len (cs := cs) (l := l) (p := p), List.take_left' rfl]
theorem len_end {pre os : Sto} {cs : List Int} {l p : Int} {x : Ob} : (St pre (os ++ [x]) cs l p).length = r1 pre os + 1 := by
  rw [St_app, List.length_append, r1_len]
  rfl
/-- what is the callee's own goes out as it stands -/
theorem fin_own {pre os : Sto} (ho : ClP pre os) {cs : List Int} {l p l' p' : Int} {ob : Ob} {w w' : Dv} (h : fz 4 (St pre (os ++ [ob]) cs l' p') (r1 pre os) w = some w') : finC (St pre os cs l p).length (.rt w (St pre (os ++ [ob]) cs l' p')) = .ok w' (St pre os cs l' p') := by
  rw [r1_len]
  show finW (r1 pre os) w (St pre (os ++ [ob]) cs l' p') = _
  unfold finW
  rw [if_neg (by rw [len_end]; omega), take_end, if_pos (St_clean ho), h]
theorem fin_lst {pre os : Sto} (ho : ClP pre os) {cs : List Int} {l p l' p' : Int} {ws : List Dv} (h : mapO (fz 3 (St pre (os ++ [.lst ws]) cs l' p') (r1 pre os)) ws = some ws) : finC (St pre os cs l p).length (.rt (.ref (r1 pre os)) (St pre (os ++ [.lst ws]) cs l' p')) = .ok (.lst ws) (St pre os cs l' p') := by
  refine fin_own ho ?_
  unfold fz
  rw [if_neg (by show ¬ (decide (r1 pre os < r1 pre os) = true); simp)]
  dsimp only
  rw [at_end]
  dsimp only
  rw [h]
  rfl
theorem app_v {f g : FE} {ρ : Env} {s s1 s2 : Sto} {n : Nat} {ws us : List Dv} {y : Dv} (h : f ρ s = .ok (.ref n) s1) (h1 : s1[n]? = some (.lst us)) (h2 : g ρ s1 = .ok y s2) (h3 : s2[n]? = some (.lst ws)) (hl : ws.length < lim) : mApp f g ρ s = .ok .non (s2.set n (.lst (ws ++ [y]))) := by
  unfold mApp
  rw [h, bind_ok]
  simp only [h1, h2, bind_ok, h3, if_pos hl]
variable {s : Sto} {o : Int} {ts : List Term} {ns : List Int}
abbrev ev (r : Nat) (o : Int) (ts : List Term) (ns : List Int) (e : Nat) (w : Int) (a b c d : Option Dv) : Env := [some (bi o ts), some (tI ns), some (.ref r), some (.int e), some (.int w), a, b, c, d]
end MP.PG
set_option Elab.async false
set_option linter.all false
set_option maxRecDepth 100000
set_option maxHeartbeats 400000
namespace MP.PG
open PySem PySem.Spec PyProof.Rows L2 MP
theorem le_ii {s : Sto} {i j : Int} : leD s (.int i) (.int j) = some (.bl (decide (i ≤ j))) := rfl
theorem gt_ii {s : Sto} {i j : Int} : gtD s (.int i) (.int j) = some (.bl (decide (j < i))) := rfl
theorem smN {i : Int} (h : i.natAbs ≤ 1000000000000000) : Sm i := Nat.lt_of_le_of_lt h (Nat.lt_of_lt_of_le (by decide : 1000000000000000 < 2 ^ 50) (Nat.pow_le_pow_right (by decide) (by decide)))
theorem dot_abs {M : Nat} : ∀ {rs ls : List Int}, (∀ r ∈ rs, -20 ≤ r ∧ r ≤ 20) → (∀ n ∈ ls, n.natAbs ≤ M) → (dot rs ls).natAbs ≤ rs.length * (20 * M)
  | [], ls, _, _ => by rw [dot_nil]; exact Nat.zero_le _
  | a :: rs, [], _, _ => by rw [dot_nil']; exact Nat.zero_le _
  | a :: rs, b :: ls, h1, h2 => by
    have ih := dot_abs (M := M) (rs := rs) (ls := ls) (fun r hr => h1 r (List.mem_cons_of_mem _ hr)) fun n hn => h2 n (List.mem_cons_of_mem _ hn)
    have ha := h1 a List.mem_cons_self
    have hb := h2 b List.mem_cons_self
    have h3 : (a * b).natAbs ≤ 20 * M := by
      rw [Int.natAbs_mul]
      exact Nat.mul_le_mul (by omega) hb
    rw [dot_cons, List.length_cons, Nat.succ_mul]
    omega
theorem sum_abs {M : Nat} : ∀ {l : List Int}, (∀ n ∈ l, n.natAbs ≤ M) → l.sum.natAbs ≤ l.length * M
  | [], _ => Nat.zero_le _
  | a :: l, h => by
    have ih := sum_abs fun n hn => h n (List.mem_cons_of_mem a hn)
    have ha := h a List.mem_cons_self
    rw [List.sum_cons, List.length_cons, Nat.succ_mul]
    omega
variable {s : Sto} {o : Int} {ts : List Term} {ns : List Int}
theorem row_sm (h : Row ns) : ∀ i ∈ ns, Sm i := fun i hi => by
  have := h.ok i hi
  exact Sm.of (by omega) (by omega)
abbrev td (t : Term) : PyData := .tuple [.tuple (t.rs.map .int), .int t.a, .int t.b]
abbrev bd (o : Int) (ts : List Term) : PyData := .tuple [.int o, .tuple (ts.map td)]
end MP.PG
set_option Elab.async false
set_option linter.all false
set_option maxRecDepth 100000
set_option maxHeartbeats 400000
namespace MP.PG
open PySem PySem.Spec PyProof.Rows L2 MP
theorem pow_ii {s : Sto} {i j : Int} (h : 0 ≤ j ∧ j ≤ 1000000 ∧ i.natAbs < 2 ^ 64) : powD s (.int i) (.int j) = some (.int (i ^ j.toNat)) := if_pos h
theorem ge_ii {s : Sto} {i j : Int} : geD s (.int i) (.int j) = some (.bl (decide (j ≤ i))) := rfl
def cellsOf (ns : List Int) (k : Nat) : List Int := ns.drop k ++ ns.take k
/-- the seed behind the cells -/
def sdF (k : Int) (xs : List Int) : Int := xs.foldl (fun sd c => (sd * 48271 + c) % 2147483647) (103 + k)
theorem sdOf_eq {xs : List Int} {k : Int} : sdOf (xs ++ [37 * k + 11]) = sdF k xs := by
  unfold sdOf sdF
  rw [List.dropLast_concat, List.getLastD_concat]
  congr 1
  omega
theorem sdF_snoc {xs : List Int} {k c : Int} : sdF k (xs ++ [c]) = (sdF k xs * 48271 + c) % 2147483647 := by
  unfold sdF
  rw [List.foldl_append]
  rfl
theorem sdF_rng (k : Nat) (hk : k ≤ 63) (xs : List Int) : 0 ≤ sdF k xs ∧ sdF k xs < 2147483647 := by
  rcases List.eq_nil_or_concat xs with rfl | ⟨ys, c, rfl⟩
  · unfold sdF
    simp only [List.foldl_nil]
    omega
  · rw [List.concat_eq_append, sdF_snoc]
    exact ⟨Int.emod_nonneg _ (by decide), Int.emod_lt_of_pos _ (by decide)⟩
/-- what is begun with -/
theorem begun_ok {pre : Sto} {ns : List Int} {k : Nat} (hn : ns.length ≤ 63) (hk : k ≤ 63) : ∃ l, g__law_begun [.sq (ns.map .int), .int (k : Int)] pre = .ok (.ref pre.length) (St pre [] (cellsOf ns k ++ [37 * (k : Int) + 11]) l 0) := by
  let cs := cellsOf ns k
  have lc : cs.length ≤ 63 := by
    show (ns.drop k ++ ns.take k).length ≤ 63
    rw [List.length_append, List.length_drop, List.length_take]
    omega
  let E (x2 x3 x4 x5 : Option Dv) : Env := [some (.sq (ns.map .int)), some (.int (k : Int)), x2, x3, x4, x5]
  have e0 : startD 6 [.sq (ns.map .int), .int (k : Int)] = E none none none none := rfl
  have p1 : ∀ x2 x3 x4 x5, mPart (mVar 1) (E x2 x3 x4 x5) pre = .ok (some (k : Int)) pre := fun _ _ _ _ => part_v rfl
  have c1 : mBin addD (mSl slA (mVar 0) (mPart (mVar 1)) mNoPart) (mSl slA (mVar 0) mNoPart (mPart (mVar 1))) (E none none none none) pre = .ok (lI cs) pre := by
    refine bin_v (s1 := pre) (x := .lst ((ns.map Dv.int).drop k)) (y := .lst ((ns.map Dv.int).take k)) ?_ ?_ ?_
    · refine sl_v (x := .sq (ns.map .int)) (a := some (k : Int)) (b := none) rfl (p1 _ _ _ _) rfl ?_
      rw [← cut_from (ws := ns.map Dv.int) (k := k)]
      rfl
    · refine sl_v (x := .sq (ns.map .int)) (a := none) (b := some (k : Int)) rfl rfl (p1 _ _ _ _) ?_
      rw [← cut_to (ws := ns.map Dv.int) (k := k)]
      rfl
    · rw [add_lst (by rw [List.length_drop, List.length_take, List.length_map]; omega), ← List.map_drop, ← List.map_take, ← List.map_append]
      rfl
  have e1 := asg_v (i := 2) (ρ := E none none none none) c1
  have f1 : mComp cF__law_begun_1 [5] ct__law_begun_1 ci__law_begun_1 ce__law_begun_1 (E (some (lI cs)) none none none) pre = .ok (lI (cs.filter fun n => decide ((10 : Int) ^ 18 ≤ n))) pre := by
    refine comp_filt (e := .int) (φ := .int) (t := fun n => decide ((10 : Int) ^ 18 ≤ n)) rfl (by unfold lim; omega) fun n _ => ⟨E (some (lI cs)) none none (some (.int n)), rfl, ?_, fun _ => rfl⟩
    unfold ci__law_begun_1
    exact test_v (bin_v (x := .int n) (y := .int ((10 : Int) ^ 18)) rfl (bin_v (x := .int 10) (y := .int 18) k_ev k_ev (pow_ii ⟨by decide, by decide, by decide⟩)) ge_ii)
  obtain ⟨gs, hg⟩ : ∃ gs, gs = cs.filter fun n => decide ((10 : Int) ^ 18 ≤ n) := ⟨_, rfl⟩
  rw [← hg] at f1
  have e2 := asg_v (i := 3) (ρ := E (some (lI cs)) none none none) f1
  have e3 : mAsg (mBin addD (mK (.int 103)) (mVar 1)) (gN 4) (E (some (lI cs)) (some (lI gs)) none none) pre = .nx (E (some (lI cs)) (some (lI gs)) (some (.int (103 + (k : Int)))) none) pre :=
    asg_v (w := .int (103 + (k : Int))) (bin_v (x := .int 103) (y := .int (k : Int)) k_ev rfl add_ii)
  obtain ⟨ρ', s', e4, z, hρ, hs⟩ := for_ix (F := F__law_begun_1) (g := t__law_begun_1) (body := b__law_begun_1) (ρ := E (some (lI cs)) (some (lI gs)) (some (.int (103 + (k : Int)))) none) (s := pre) (s1 := pre) (xs := cs.map .int)
    (fun i ρ s => ∃ z, ρ = E (some (lI cs)) (some (lI gs)) (some (.int (sdF k (cs.take i)))) z ∧ s = pre) rfl ⟨none, rfl, rfl⟩ fun i x ρ s hx ⟨z, hr, hs⟩ => by
      subst hr hs
      rw [List.getElem?_map] at hx
      obtain ⟨c, hc, rfl⟩ := Option.map_eq_some_iff.mp hx
      refine ⟨E (some (lI cs)) (some (lI gs)) (some (.int (sdF k (cs.take i)))) (some (.int c)), E (some (lI cs)) (some (lI gs)) (some (.int (sdF k (cs.take (i + 1))))) (some (.int c)), s, rfl, .inl ?_, _, rfl, rfl⟩
      have ht : cs.take (i + 1) = cs.take i ++ [c] := by rw [List.take_succ, hc]; rfl
      have hr := sdF_rng k hk (cs.take i)
      rw [ht, sdF_snoc]
      unfold b__law_begun_1
      exact asg_v (w := .int ((sdF k (cs.take i) * 48271 + c) % 2147483647)) (bin_v (x := .int (sdF k (cs.take i) * 48271 + c)) (y := .int 2147483647) (blt_v (cons_v (bin_v (x := .int (sdF k (cs.take i) * 48271)) (y := .int c) (bin_v (x := .int (sdF k (cs.take i))) (y := .int 48271) rfl k_ev (mul_ii (cm_r ⟨by decide, by decide⟩))) rfl add_ii) nil_ev) rfl) k_ev (mod_ii (by decide)))
  rw [hρ, hs, List.length_map, List.take_length] at e4
  have eG : ∃ l, mIf (mTest (mBin neD (mVar 3) (mLst mNil))) (mBin ixA (mVar 3) (mK (.int 0))) (mK (.int 0)) (E (some (lI cs)) (some (lI gs)) (some (.int (sdF k cs))) z) pre = .ok (.int l) pre := by
    have et : mTest (mBin neD (mVar 3) (mLst mNil)) (E (some (lI cs)) (some (lI gs)) (some (.int (sdF k cs))) z) pre = .ok (!decide (gs = [])) pre := by
      refine test_v (bin_v (x := lI gs) (y := lI []) rfl ?_ ?_)
      · rfl
      · exact ne_lI
    rw [if_ev, et, bind_ok]
    cases gs with
    | nil => exact ⟨0, rfl⟩
    | cons a r =>
      refine ⟨a, ?_⟩
      rw [if_pos (by simp)]
      exact bin_v (x := .lst (.int a :: r.map .int)) (y := .int ((0 : Nat) : Int)) rfl k_ev (ix_lst (w := .int a) rfl)
  obtain ⟨l, eG⟩ := eG
  have eL : mBin addD (mVar 2) (mLst (mCons (mBin addD (mBin mulD (mK (.int 37)) (mVar 1)) (mK (.int 11))) mNil)) (E (some (lI cs)) (some (lI gs)) (some (.int (sdF k cs))) z) pre = .ok (lI (cs ++ [37 * (k : Int) + 11])) pre := by
    refine bin_v (x := .lst (cs.map .int)) (y := .lst [.int (37 * (k : Int) + 11)]) rfl ?_ ?_
    · rw [lst_ev, cons_v (w := .int (37 * (k : Int) + 11)) (bin_v (x := .int (37 * (k : Int))) (y := .int 11) (bin_v (x := .int 37) (y := .int (k : Int)) k_ev rfl (mul_ii (cm_l ⟨by decide, by decide⟩))) k_ev add_ii) nil_ev]
      rfl
    · rw [add_lst (by rw [List.length_map]; show cs.length + 1 ≤ _; omega), lI, List.map_append]
      rfl
  refine ⟨l, ?_⟩
  have eD : mDctM [((mK (.str "left")), (mIf (mTest (mBin neD (mVar 3) (mLst mNil))) (mBin ixA (mVar 3) (mK (.int 0))) (mK (.int 0)))), ((mK (.str "seed")), (mVar 4)), ((mK (.str "cells")), (mBin addD (mVar 2) (mLst (mCons (mBin addD (mBin mulD (mK (.int 37)) (mVar 1)) (mK (.int 11))) mNil)))), ((mK (.str "spot")), (mK (.int 0)))] (E (some (lI cs)) (some (lI gs)) (some (.int (sdF k cs))) z) pre = .ok (.ref pre.length) (St pre [] (cs ++ [37 * (k : Int) + 11]) l 0) := by
    have : mPairs [((mK (.str "left")), (mIf (mTest (mBin neD (mVar 3) (mLst mNil))) (mBin ixA (mVar 3) (mK (.int 0))) (mK (.int 0)))), ((mK (.str "seed")), (mVar 4)), ((mK (.str "cells")), (mBin addD (mVar 2) (mLst (mCons (mBin addD (mBin mulD (mK (.int 37)) (mVar 1)) (mK (.int 11))) mNil)))), ((mK (.str "spot")), (mK (.int 0)))] (E (some (lI cs)) (some (lI gs)) (some (.int (sdF k cs))) z) pre = .ok [(.str "left", .int l), (.str "seed", .int (sdF k cs)), (.str "cells", lI (cs ++ [37 * (k : Int) + 11])), (.str "spot", .int 0)] pre := by
      unfold mPairs
      rw [k_ev, bind_ok, eG, bind_ok]
      unfold mPairs
      rw [k_ev, bind_ok, show mVar 4 (E (some (lI cs)) (some (lI gs)) (some (.int (sdF k cs))) z) pre = .ok (.int (sdF k cs)) pre from rfl, bind_ok]
      unfold mPairs
      rw [k_ev, bind_ok, eL, bind_ok]
      unfold mPairs
      rw [k_ev, bind_ok, k_ev, bind_ok]
      rfl
    unfold mDctM
    rw [this]
    unfold St Dc
    rw [sdOf_eq]
    rfl
  unfold g__law_begun d__law_begun
  rw [den_ev, e0]
  refine (congrArg (finC _) (seq_nx e1 (seq_nx e2 (seq_nx e3 (seq_nx e4 (ret_v eD)))))).trans ?_
  show finW pre.length (.ref pre.length) (St pre [] (cs ++ [37 * (k : Int) + 11]) l 0) = _
  unfold finW
  have e : fz 4 (St pre [] (cs ++ [37 * (k : Int) + 11]) l 0) pre.length (.ref pre.length) = none := by
    unfold fz
    rw [if_neg (by show ¬ (decide (pre.length < pre.length) = true); simp)]
    dsimp only
    rw [St_at]
  split
  · rfl
  · split
    · rw [e]
    · rfl
end MP.PG
set_option Elab.async false
set_option linter.all false
set_option maxRecDepth 100000
set_option maxHeartbeats 400000
namespace MP.PG
open PySem PySem.Spec MP
open PyProof.Rows hiding St
open L2 hiding St r1
theorem lt_ii {s : Sto} {i j : Int} : ltD s (.int i) (.int j) = some (.bl (decide (i < j))) := rfl
theorem fin_one {s : Sto} {w : Dv} {ob : Ob} (hs : s.all (Ob.clean s.length) = true) (hw : clean s.length w = true) : finC s.length (.rt w (s ++ [ob])) = .ok w s := by
  show finW s.length w (s ++ [ob]) = _
  unfold finW
  have e1 : (s ++ [ob]).take s.length = s := by simp
  rw [if_neg (by rw [List.length_append, List.length_singleton]; omega), e1, if_pos hs]
  have e2 : fz 4 (s ++ [ob]) s.length w = some w := by
    unfold fz
    exact if_pos hw
  rw [e2]
theorem pl_bl {b : Bool} : Pl 1 0 (.bl b) (.bool b) := by cases b <;> exact ⟨rfl, by decide +kernel, by decide +kernel, by decide +kernel, by decide +kernel, by decide +kernel⟩
theorem pl_non : Pl 1 0 .non .none := ⟨rfl, by decide +kernel, by decide +kernel, by decide +kernel, by decide +kernel, by decide +kernel⟩
theorem pl_small {i : Int} (h : i.natAbs ≤ 1000000000000000) : Pl 1 0 (.int i) (.int i) := pl_int (smN h)
end MP.PG
set_option Elab.async false
set_option linter.all false
set_option maxRecDepth 100000
set_option maxHeartbeats 400000
namespace MP.PG
open PySem PySem.Spec MP
open PyProof.Rows hiding St
open L2 hiding St r1
/-- the ints f 0 .. f (n - 1) -/
def lf (n : Nat) (f : Nat → Int) : List Int := (List.range n).map f
section
variable {n m k b : Nat} {f g : Nat → Int} {i : Nat}
theorem lf_len : (lf n f).length = n := by unfold lf; rw [List.length_map, List.length_range]
theorem lf_get (h : i < n) : (lf n f)[i]? = some (f i) := by
  unfold lf
  rw [List.getElem?_map, List.getElem?_range h]
  rfl
theorem lf_ext (h : ∀ i, i < n → f i = g i) : lf n f = lf n g := List.map_congr_left fun i hi => h i (List.mem_range.mp hi)
theorem lf_of {l : List Int} (h : l.length = n) (hg : ∀ i, i < n → l[i]? = some (f i)) : l = lf n f := by
  refine List.ext_getElem? fun i => ?_
  by_cases hi : i < n
  · rw [hg i hi, lf_get hi]
  · rw [List.getElem?_eq_none (by omega), List.getElem?_eq_none (by rw [lf_len]; omega)]
theorem lf_map {φ : Int → Int} : (lf n f).map φ = lf n fun i => φ (f i) := by unfold lf; rw [List.map_map]; rfl
theorem lf_app : lf n f ++ lf m g = lf (n + m) fun i => if i < n then f i else g (i - n) := by
  refine lf_of (by rw [List.length_append, lf_len, lf_len]) fun i hi => ?_
  by_cases h : i < n
  · rw [List.getElem?_append_left (by rw [lf_len]; exact h), lf_get h, if_pos h]
  · rw [List.getElem?_append_right (by rw [lf_len]; omega), lf_len, lf_get (by omega), if_neg h]
theorem lf_succ : lf (n + 1) f = lf n f ++ [f n] := by unfold lf; rw [List.range_succ, List.map_append]; rfl
end
section
variable {s : Sto} {ws us : List Dv} {x y : Ob} {v w w' : Dv} {ρ : Env} {f g : FE}
def Cl (s : Sto) : Prop := ∀ n, s.all (Ob.clean n) = true
theorem at_s : (s ++ [x])[s.length]? = some x := by
  rw [List.getElem?_append_right (Nat.le_refl _), Nat.sub_self]
  rfl
theorem set_s : (s ++ [x]).set s.length y = s ++ [y] := by
  rw [List.set_append_right _ _ (Nat.le_refl _), Nat.sub_self]
  rfl
theorem fin_sn {us : Sto} (hs : Cl s) (h0 : us ≠ []) (h : fz 4 (s ++ us) s.length w = some w') : finC s.length (.rt w (s ++ us)) = .ok w' s := by
  show finW s.length w (s ++ us) = _
  have hl : us.length ≠ 0 := fun z => h0 (List.length_eq_zero_iff.mp z)
  unfold finW
  rw [if_neg (by rw [List.length_append]; omega), List.take_left' rfl, if_pos (hs _), h]
theorem fz_ref {us : Sto} {i k : Nat} (h : us[i]? = some (.lst ws)) (hc : mapO (fz k (s ++ us) s.length) ws = some us') : fz (k + 1) (s ++ us) s.length (.ref (s.length + i)) = some (.lst us') := by
  unfold fz
  rw [if_neg (by show ¬ (decide (s.length + i < s.length) = true); simp)]
  have e : (s ++ us)[s.length + i]? = some (.lst ws) := by
    rw [List.getElem?_append_right (by omega), Nat.add_sub_cancel_left, h]
  dsimp only
  rw [e]
  dsimp only
  rw [hc]
  rfl
theorem fz_ref0 {us : Sto} {k : Nat} {us' : List Dv} (h : us[0]? = some (.lst ws)) (hc : mapO (fz k (s ++ us) s.length) ws = some us') : fz (k + 1) (s ++ us) s.length (.ref s.length) = some (.lst us') := fz_ref (i := 0) h hc
theorem fin_I {acc : List Int} (hs : Cl s) : finC s.length (.rt (.ref s.length) (s ++ [.lst (acc.map .int)])) = .ok (lI acc) s := fin_sn hs (by simp) (fz_ref0 rfl (fz_ints acc))
theorem app_s (hl : ws.length < 1000000) (h : f ρ (s ++ [.lst ws]) = .ok (.ref s.length) (s ++ [.lst ws])) (hg : g ρ (s ++ [.lst ws]) = .ok v (s ++ [.lst ws])) : mApp f g ρ (s ++ [.lst ws]) = .ok .non (s ++ [.lst (ws ++ [v])]) := by
  rw [app_v h at_s hg at_s (by unfold lim; omega), set_s]
theorem ixA_list (h : lstOrSq s v = some ws) {i : Int} {w : Dv} (hi : atI ws i = some w) : ixA s v (.int i) = some w := by
  have e : ixL s v (.int i) = some w := by
    show (lstOrSq s v).bind (fun ws => atI ws i) = _
    rw [h]
    exact hi
  show orO (orO ixL ixT) ixD s v (.int i) = _
  unfold orO
  rw [e]
theorem ref_list {k : Nat} (h : s[k]? = some (.lst ws)) : lstOrSq s (.ref k) = some ws := by
  show (match s[k]? with | some (.lst ws) => some ws | _ => none) = _
  rw [h]
theorem atI_nat {i : Nat} (h : ws[i]? = some w) : atI ws (i : Int) = some w := by
  have hl := (List.getElem?_eq_some_iff.mp h).1
  unfold atI ixN
  rw [if_pos (by omega), if_pos (by omega)]
  show ws[(i : Int).toNat]? = _
  rw [Int.toNat_natCast]
  exact h
end
end MP.PG
set_option Elab.async false
set_option linter.all false
set_option maxRecDepth 100000
set_option maxHeartbeats 1000000
namespace MP.PG
open PySem PySem.Spec MP
open PyProof.Rows hiding St
open L2 hiding St r1
section
variable {s : Sto} {ρ : Env}
/-- the index of bits of which so many are ones -/
def idb (rs : List Int) (k : Nat) : Int := (rs.reverse.take k).sum
theorem idb_succ {rs : List Int} {k : Nat} {w : Int} (h : rs.reverse[k]? = some w) : idb rs (k + 1) = idb rs k + w := by
  unfold idb
  rw [List.take_succ, h, List.sum_append]
  show _ + (w + 0) = _
  omega
theorem told_ok {rs : List Int} (hs : Cl s) (hr : rs.length ≤ 1000) : g_indexes_by_ones [tI rs] s = .ok (lI (lf (rs.length + 1) (idb rs))) s := by
  have e0 : startD 3 [tI rs] = [some (tI rs), none, none] := rfl
  have e1 : mAsg (mLstM (mCons (mK (.int 0)) mNil)) (gN 1) [some (tI rs), none, none] s = .nx [some (tI rs), some (.ref s.length), none] (s ++ [.lst ((lf 1 (idb rs)).map .int)]) := by
    rw [asgN_ev, lstM_ev, cons_v k_ev nil_ev, bind_ok, if_pos (by show 1 ≤ lim; unfold lim; decide), then_ok]
    rfl
  have hF : F_indexes_by_ones_1 [some (tI rs), some (.ref s.length), none] (s ++ [.lst ((lf 1 (idb rs)).map .int)]) = .ok { ws := rs.reverse.map .int } (s ++ [.lst ((lf 1 (idb rs)).map .int)]) := by
    unfold F_indexes_by_ones_1 iSeq
    have : mRev (mVar 0) [some (tI rs), some (.ref s.length), none] (s ++ [.lst ((lf 1 (idb rs)).map .int)]) = .ok (.tup (rs.map .int).reverse) (s ++ [.lst ((lf 1 (idb rs)).map .int)]) := rfl
    rw [this, bind_ok, ← List.map_reverse]
    rfl
  obtain ⟨ρ', s', f1, rfl, z, rfl⟩ := for_ix (g := t_indexes_by_ones_1) (body := b_indexes_by_ones_1)
    (fun i ρ s' => s' = s ++ [.lst ((lf (i + 1) (idb rs)).map .int)] ∧ ∃ z, ρ = [some (tI rs), some (.ref s.length), z]) hF ⟨rfl, _, rfl⟩ fun i x ρ s' hx hJ => by
      obtain ⟨rfl, z, rfl⟩ := hJ
      rw [List.getElem?_map] at hx
      cases hq : rs.reverse[i]? with
      | none => rw [hq] at hx; cases hx
      | some w =>
        rw [hq] at hx
        cases hx
        have hi : i < rs.length := by have := (List.getElem?_eq_some_iff.mp hq).1; rwa [List.length_reverse] at this
        refine ⟨[some (tI rs), some (.ref s.length), some (.int w)], [some (tI rs), some (.ref s.length), some (.int w)], s ++ [.lst ((lf (i + 1 + 1) (idb rs)).map .int)], rfl, .inl ?_, rfl, _, rfl⟩
        unfold b_indexes_by_ones_1
        have hl : mBin ixA (mVar 1) (mUn negD (mK (.int 1))) [some (tI rs), some (.ref s.length), some (.int w)] (s ++ [.lst ((lf (i + 1) (idb rs)).map .int)]) = .ok (.int (idb rs i)) (s ++ [.lst ((lf (i + 1) (idb rs)).map .int)]) := by
          refine bin_v (x := .ref s.length) (y := .int (-1)) rfl (un_v k_ev neg_ev) (ixA_list (ref_list at_s) ?_)
          rw [lf_succ, List.map_append]
          exact atI_last _ _
        rw [expr_v (app_s (v := .int (idb rs (i + 1))) (by rw [List.length_map, lf_len]; omega) rfl (bin_v hl (y := .int w) rfl (by rw [idb_succ hq]; exact add_ii))), lf_succ (n := i + 1), List.map_append]
        rfl
  rw [List.length_map, List.length_reverse] at f1
  unfold g_indexes_by_ones d_indexes_by_ones
  rw [den_ev, e0]
  refine fin_nx e1 (fin_nx f1 ?_)
  rw [ret_v (w := .ref s.length) rfl]
  exact fin_I hs
def pop : Nat → Nat
  | 0 => 0
  | n + 1 => (n + 1) % 2 + pop ((n + 1) / 2)
theorem pop_0 : pop 0 = 0 := by simp [pop]
theorem pop_eq (n : Nat) : pop n = n % 2 + pop (n / 2) := by
  cases n with
  | zero => simp [pop]
  | succ n => rw [pop]
theorem pop_top : ∀ (w : Nat) {n : Nat}, n < 2 ^ w → pop (2 ^ w + n) = pop n + 1
  | 0, n, h => by
    obtain rfl : n = 0 := by simpa using h
    simp [pop]
  | w + 1, n, h => by
    have e : 2 ^ (w + 1) = 2 * 2 ^ w := by rw [Nat.pow_succ, Nat.mul_comm]
    rw [pop_eq (2 ^ (w + 1) + n), pop_eq n, show (2 ^ (w + 1) + n) / 2 = 2 ^ w + n / 2 by omega, pop_top w (n := n / 2) (by omega)]
    omega
theorem pop_le : ∀ (w : Nat) {n : Nat}, n < 2 ^ w → pop n ≤ w
  | 0, n, h => by
    obtain rfl : n = 0 := by simpa using h
    rw [pop_0]
    exact Nat.le_refl _
  | w + 1, n, h => by
    have e : 2 ^ (w + 1) = 2 * 2 ^ w := by rw [Nat.pow_succ, Nat.mul_comm]
    rw [pop_eq n]
    have := pop_le w (n := n / 2) (by omega)
    omega
theorem ones_ok {w : Nat} (hw : w ≤ 12) : g_ones_of [.int (w : Int)] s = .ok (lI (lf (2 ^ w) fun i => pop i)) s := by
  have e0 : startD 4 [.int (w : Int)] = [some (.int w), none, none, none] := rfl
  have e1 : mAsg (mLst (mCons (mK (.int 0)) mNil)) (gN 1) [some (.int (w : Int)), none, none, none] s = .nx [some (.int (w : Int)), some (lI (lf (2 ^ 0) fun i => pop i)), none, none] s := by
    have h1 : lf (2 ^ 0) (fun i => (pop i : Int)) = [0] := by simp [lf, pop]
    rw [h1]
    exact (asg_v (lst_v (cons_v k_ev nil_ev) (by simp))).trans rfl
  have hF : F_ones_of_1 [some (.int (w : Int)), some (lI (lf (2 ^ 0) fun i => pop i)), none, none] s = .ok { ws := rng 0 w } s := by
    have := range1_ok (fa := mCons (mVar 0) mNil) (ρ := [some (.int (w : Int)), some (lI (lf (2 ^ 0) fun i => pop i)), none, none]) (s := s) (cons_v (w := .int (w : Int)) rfl nil_ev) (okR_s (by omega) (by omega))
    rw [Int.toNat_natCast] at this
    exact this
  obtain ⟨ρ', s', f1, rfl, z, z2, rfl⟩ := for_ix (g := t_ones_of_1) (body := b_ones_of_1)
    (fun i ρ s' => s' = s ∧ ∃ z z2, ρ = [some (.int (w : Int)), some (lI (lf (2 ^ i) fun i => pop i)), z, z2]) hF ⟨rfl, _, _, rfl⟩ fun i x ρ s' hx hJ => by
      obtain ⟨rfl, z, z2, rfl⟩ := hJ
      obtain ⟨hi, rfl⟩ := rng_get hx
      have hp : 2 ^ i ≤ 4096 := Nat.le_trans (Nat.pow_le_pow_right (by decide) (by omega : i ≤ 12)) (by decide)
      have hc : mComp cF_ones_of_1 [3] ct_ones_of_1 ci_ones_of_1 ce_ones_of_1 [some (.int (w : Int)), some (lI (lf (2 ^ i) fun i => pop i)), some (.int (0 + (i : Int))), z2] s' = .ok (lI ((lf (2 ^ i) fun i => (pop i : Int)).map (· + 1))) s' := by
        have := comp_mapA (vs := [3]) (g := ct_ones_of_1) (elt := ce_ones_of_1) (f := cF_ones_of_1) (ρ := [some (.int (w : Int)), some (lI (lf (2 ^ i) fun i => pop i)), some (.int (0 + (i : Int))), z2]) (s := s') (l := lf (2 ^ i) fun i => pop i) (e := .int) (fun a => .int (a + 1)) rfl (by rw [lf_len]; unfold lim; omega) fun a _ => ⟨_, rfl, bin_v (x := .int a) rfl k_ev add_ii⟩
        refine this.trans ?_
        unfold lI
        rw [List.map_map]
        rfl
      refine ⟨[some (.int (w : Int)), some (lI (lf (2 ^ i) fun i => pop i)), some (.int (0 + (i : Int))), z2], [some (.int (w : Int)), some (lI (lf (2 ^ (i + 1)) fun i => pop i)), some (.int (0 + (i : Int))), z2], s', rfl, .inl ?_, rfl, _, _, rfl⟩
      unfold b_ones_of_1
      refine (asg_v (bin_v (x := lI (lf (2 ^ i) fun i => pop i)) rfl hc (add_lst (by rw [List.length_map, List.length_map, List.length_map, lf_len]; omega)))).trans ?_
      rw [← List.map_append, lf_map, lf_app]
      have : lf (2 ^ i + 2 ^ i) (fun j => if j < 2 ^ i then (pop j : Int) else (pop (j - 2 ^ i) : Int) + 1) = lf (2 ^ (i + 1)) fun j => (pop j : Int) := by
        rw [Nat.pow_succ, Nat.mul_two]
        refine lf_ext fun j hj => ?_
        by_cases h : j < 2 ^ i
        · rw [if_pos h]
        · rw [if_neg h]
          have := pop_top i (n := j - 2 ^ i) (by omega)
          rw [show 2 ^ i + (j - 2 ^ i) = j by omega] at this
          rw [this]
          rfl
      rw [this]
      rfl
  rw [rng_len] at f1
  unfold g_ones_of d_ones_of
  rw [den_ev, e0]
  refine fin_nx e1 (fin_nx f1 ?_)
  rw [ret_v (w := lI (lf (2 ^ w) fun i => pop i)) rfl]
  exact finC_rt
end
end MP.PG
set_option Elab.async false
set_option linter.all false
set_option maxRecDepth 100000
set_option maxHeartbeats 1000000
namespace MP.PG
open PySem PySem.Spec MP
open PyProof.Rows hiding St
open L2 hiding St r1
section
variable {s : Sto} {p : Nat → Int} {N w : Nat} {fl : Nat → Nat}
def digs (b w n : Nat) : List Nat := ((List.range w).map fun i => n / b ^ i % b).reverse
theorem signs_ok {sg : List Dv} {b n w : Nat} {f : Nat → Dv} (hs : Cl s) (hb : 2 ≤ b) (hb2 : b ≤ 1000) (hw : w ≤ 1000) (hl : sg.length = b) (hf : ∀ d, d < b → sg[d]? = some (f d)) (hc : ∀ d m, clean m (f d) = true) :
    g_signs_of [.int (n : Int), .tup sg, .int (w : Int)] s = .ok (.tup ((digs b w n).map f)) s := by
  let A : Nat → Sto := fun i => s ++ [.lst ((List.range i).map fun j => f (n / b ^ j % b))]
  have e0 : startD 6 [.int (n : Int), .tup sg, .int (w : Int)] = [some (.int (n : Int)), some (.tup sg), some (.int (w : Int)), none, none, none] := rfl
  have e1 : mAsg (mLstM mNil) (gN 3) [some (.int (n : Int)), some (.tup sg), some (.int (w : Int)), none, none, none] s = .nx [some (.int (n : Int)), some (.tup sg), some (.int (w : Int)), some (.ref s.length), none, none] (A 0) := by
    rw [asgN_ev, lstM_ev, nil_ev, bind_ok, if_pos (by show 0 ≤ lim; unfold lim; decide), then_ok]
    rfl
  have hF : F_signs_of_1 [some (.int (n : Int)), some (.tup sg), some (.int (w : Int)), some (.ref s.length), none, none] (A 0) = .ok { ws := rng 0 w } (A 0) := by
    have := range1_ok (fa := mCons (mVar 2) mNil) (ρ := [some (.int (n : Int)), some (.tup sg), some (.int (w : Int)), some (.ref s.length), none, none]) (s := A 0) (cons_v (w := .int (w : Int)) rfl nil_ev) (okR_s (by omega) (by omega))
    rw [Int.toNat_natCast] at this
    exact this
  obtain ⟨ρ', s', f1, rfl, z4, z5, rfl⟩ := for_ix (g := t_signs_of_1) (body := b_signs_of_1)
    (fun i ρ s' => s' = A i ∧ ∃ z4 z5, ρ = [some (.int ((n / b ^ i : Nat) : Int)), some (.tup sg), some (.int (w : Int)), some (.ref s.length), z4, z5]) hF ⟨rfl, _, _, by rw [Nat.pow_zero, Nat.div_one]⟩ fun i x ρ s' hx hJ => by
      obtain ⟨rfl, z4, z5, rfl⟩ := hJ
      obtain ⟨hi, rfl⟩ := rng_get hx
      refine ⟨[some (.int ((n / b ^ i : Nat) : Int)), some (.tup sg), some (.int (w : Int)), some (.ref s.length), some (.int (0 + (i : Int))), z5], [some (.int ((n / b ^ (i + 1) : Nat) : Int)), some (.tup sg), some (.int (w : Int)), some (.ref s.length), some (.int (0 + (i : Int))), some (.int ((n / b ^ i % b : Nat) : Int))], A (i + 1), rfl, .inl ?_, rfl, _, _, rfl⟩
      unfold b_signs_of_1
      have c1 : mAsg (mBlt divmodD (mCons (mVar 0) (mCons (mBlt lenD (mCons (mVar 1) mNil)) mNil))) (gT 2 (gsC (gN 0) (gsC (gN 5) gs0))) [some (.int ((n / b ^ i : Nat) : Int)), some (.tup sg), some (.int (w : Int)), some (.ref s.length), some (.int (0 + (i : Int))), z5] (A i) = .nx [some (.int ((n / b ^ (i + 1) : Nat) : Int)), some (.tup sg), some (.int (w : Int)), some (.ref s.length), some (.int (0 + (i : Int))), some (.int ((n / b ^ i % b : Nat) : Int))] (A i) := by
        refine asg_gv (w := .tup [.int ((n / b ^ (i + 1) : Nat) : Int), .int ((n / b ^ i % b : Nat) : Int)]) (blt_v (cons_v (w := .int ((n / b ^ i : Nat) : Int)) rfl (cons_v (w := .int (b : Int)) (blt_v (cons_v (w := .tup sg) rfl nil_ev) (by rw [len_tup, hl])) nil_ev)) ?_) rfl
        show (if 0 < (b : Int) ∧ (b : Int) < 1073741824 then some (Dv.tup [.int (((n / b ^ i : Nat) : Int) / (b : Int)), .int (((n / b ^ i : Nat) : Int) % (b : Int))]) else none) = _
        rw [if_pos ⟨by omega, by omega⟩, Nat.pow_succ, ← Nat.div_div_eq_div_mul]
        rfl
      refine seq_nx c1 ?_
      have hd : n / b ^ i % b < b := Nat.mod_lt _ (by omega)
      rw [expr_v (app_s (v := f (n / b ^ i % b)) (by rw [List.length_map, List.length_range]; omega) rfl (bin_v (x := .tup sg) (y := .int ((n / b ^ i % b : Nat) : Int)) rfl rfl (ix_tup (hf _ hd))))]
      show C.nx _ _ = C.nx _ (s ++ [.lst ((List.range (i + 1)).map fun j => f (n / b ^ j % b))])
      rw [List.range_succ, List.map_append]
      rfl
  rw [rng_len] at f1
  unfold g_signs_of d_signs_of
  rw [den_ev, e0]
  refine fin_nx e1 (fin_nx f1 ?_)
  have hr : mBlt tupleD (mCons (mRev (mVar 3)) mNil) [some (.int ((n / b ^ w : Nat) : Int)), some (.tup sg), some (.int (w : Int)), some (.ref s.length), z4, z5] (A w) = .ok (.tup ((digs b w n).map f)) (A w) := by
    refine blt_v (cons_v (w := .lst ((digs b w n).map f)) ?_ nil_ev) tuple_lst
    unfold mRev
    rw [show mVar 3 [some (.int ((n / b ^ w : Nat) : Int)), some (.tup sg), some (.int (w : Int)), some (.ref s.length), z4, z5] (A w) = .ok (.ref s.length) (A w) from rfl, bind_ok]
    have h1 : revD (A w) (.ref s.length) = some (.lst ((List.range w).map fun j => f (n / b ^ j % b)).reverse) := by
      have := ref_list (at_s (s := s) (x := .lst ((List.range w).map fun j => f (n / b ^ j % b))))
      simp [revD, A, this]
    rw [h1]
    have h2 : ((List.range w).map fun j => f (n / b ^ j % b)).reverse = (digs b w n).map f := by
      unfold digs
      rw [List.map_reverse, List.map_map]
      rfl
    rw [h2]
    rfl
  rw [ret_v hr]
  refine fin_one (hs _) ?_
  show cleans _ _ = true
  generalize digs b w n = l
  induction l with
  | nil => rfl
  | cons a l ih =>
    show (clean s.length (f a) && cleans s.length (l.map f)) = true
    rw [hc, ih]
    rfl
end
end MP.PG
set_option Elab.async false
set_option linter.all false
set_option maxRecDepth 100000
set_option maxHeartbeats 1000000
namespace MP.PG
open PySem PySem.Spec MP
open PyProof.Rows hiding St
open L2 hiding St r1
section
abbrev toI (bs : List Nat) : List Int := bs.map fun b : Nat => (b : Int)
def Bits01 (bs : List Nat) : Prop := ∀ b ∈ bs, b < 2
/-- the number of bits, the last one ahead -/
def rnum : List Nat → Nat
  | [] => 0
  | b :: r => 2 * rnum r + b
def num (bs : List Nat) : Nat := rnum bs.reverse
theorem pop_rnum : ∀ {r : List Nat}, Bits01 r → pop (rnum r) = r.sum
  | [], _ => pop_0
  | b :: r, h => by
    have h0 := h b List.mem_cons_self
    unfold rnum
    rw [pop_eq, show (2 * rnum r + b) % 2 = b by omega, show (2 * rnum r + b) / 2 = rnum r by omega, pop_rnum fun c hc => h c (List.mem_cons_of_mem _ hc), List.sum_cons]
theorem pop_num {bs : List Nat} (h : Bits01 bs) : pop (num bs) = bs.sum := by
  unfold num
  rw [pop_rnum fun c hc => h c (List.mem_reverse.mp hc), List.sum_reverse]
theorem ins_0 : ∀ {z c : Nat}, ins 0 (List.replicate z (0 : Int) ++ List.replicate c 1) = List.replicate (z + 1) 0 ++ List.replicate c 1
  | 0, 0 => rfl
  | 0, c + 1 => by
    show ins 0 (1 :: List.replicate c 1) = _
    unfold ins
    rw [if_pos (by decide)]
    rfl
  | z + 1, c => by
    show ins 0 (0 :: (List.replicate z 0 ++ List.replicate c 1)) = _
    unfold ins
    rw [if_pos (by decide)]
    rfl
theorem ins_1 : ∀ {z c : Nat}, ins 1 (List.replicate z (0 : Int) ++ List.replicate c 1) = List.replicate z 0 ++ List.replicate (c + 1) 1
  | 0, 0 => rfl
  | 0, c + 1 => by
    show ins 1 (1 :: List.replicate c 1) = _
    unfold ins
    rw [if_pos (by decide)]
    rfl
  | z + 1, c => by
    show ins 1 (0 :: (List.replicate z 0 ++ List.replicate c 1)) = _
    unfold ins
    rw [if_neg (by decide), ins_1]
    rfl
theorem srt_bits : ∀ {bs : List Nat}, Bits01 bs → srt (toI bs) = List.replicate (bs.length - bs.sum) 0 ++ List.replicate bs.sum 1 ∧ bs.sum ≤ bs.length
  | [], _ => ⟨rfl, Nat.le_refl _⟩
  | b :: bs, h => by
    obtain ⟨h1, h2⟩ := srt_bits (bs := bs) fun c hc => h c (List.mem_cons_of_mem _ hc)
    have e : srt (toI (b :: bs)) = ins (b : Int) (srt (toI bs)) := rfl
    rw [e, h1, List.length_cons, List.sum_cons]
    rcases (by have := h b List.mem_cons_self; omega : b = 0 ∨ b = 1) with rfl | rfl
    · refine ⟨?_, by omega⟩
      show ins 0 _ = _
      rw [ins_0, show bs.length + 1 - (0 + bs.sum) = bs.length - bs.sum + 1 by omega, Nat.zero_add]
    · refine ⟨?_, by omega⟩
      show ins 1 _ = _
      rw [ins_1, show bs.length + 1 - (1 + bs.sum) = bs.length - bs.sum by omega, Nat.add_comm 1]
theorem dot_01 : ∀ {rs : List Int} {z c : Nat}, rs.length = z + c → dot rs (List.replicate z 0 ++ List.replicate c 1) = (rs.drop z).sum
  | [], z, c, h => by
    have hz : z = 0 := by simp at h; omega
    have hc : c = 0 := by simp at h; omega
    subst hz hc
    rfl
  | r :: rs, 0, c, h => by
    obtain ⟨c, rfl⟩ : ∃ d, c = d + 1 := ⟨c - 1, by simp at h; omega⟩
    have ih := dot_01 (rs := rs) (z := 0) (c := c) (by simp at h; omega)
    show dot (r :: rs) (1 :: List.replicate c 1) = _
    rw [dot_cons]
    have ih' : dot rs (List.replicate c 1) = rs.sum := ih
    rw [ih', List.drop_zero, List.sum_cons]
    omega
  | r :: rs, z + 1, c, h => by
    show dot (r :: rs) (0 :: (List.replicate z 0 ++ List.replicate c 1)) = _
    rw [dot_cons, dot_01 (by simp at h; omega), List.drop_succ_cons]
    omega
theorem idb_drop {rs : List Int} {c : Nat} (h : c ≤ rs.length) : idb rs c = (rs.drop (rs.length - c)).sum := by
  unfold idb
  rw [List.take_reverse, List.sum_reverse]
/-- the index of bits -/
theorem dot_bits {rs : List Int} {bs : List Nat} (h : Bits01 bs) (hl : bs.length = rs.length) : dot rs (srt (toI bs)) = idb rs (pop (num bs)) := by
  obtain ⟨h1, h2⟩ := srt_bits h
  rw [h1, dot_01 (by omega), pop_num h, idb_drop (by omega), hl]
variable {o : Int} {ts : List Term}
theorem rnum_digs : ∀ (w n : Nat), rnum ((List.range w).map fun i => n / 2 ^ i % 2) = n % 2 ^ w
  | 0, n => by rw [Nat.pow_zero, Nat.mod_one]; rfl
  | w + 1, n => by
    rw [List.range_succ_eq_map, List.map_cons, List.map_map]
    unfold rnum
    have e : (List.range w).map ((fun i => n / 2 ^ i % 2) ∘ Nat.succ) = (List.range w).map fun i => n / 2 / 2 ^ i % 2 := List.map_congr_left fun i _ => by
      show n / 2 ^ (i + 1) % 2 = _
      rw [Nat.pow_succ, Nat.mul_comm, ← Nat.div_div_eq_div_mul]
    rw [e, rnum_digs w (n / 2), Nat.pow_zero, Nat.div_one, Nat.pow_succ, Nat.mul_comm (2 ^ w) 2, Nat.mod_mul]
    omega
theorem digs_len {b w n : Nat} : (digs b w n).length = w := by unfold digs; rw [List.length_reverse, List.length_map, List.length_range]
theorem digs_bits {w n : Nat} : Bits01 (digs 2 w n) := fun c hc => by
  unfold digs at hc
  obtain ⟨i, _, rfl⟩ := List.mem_map.mp (List.mem_reverse.mp hc)
  exact Nat.mod_lt _ (by decide)
end
end MP.PG
set_option Elab.async false
set_option linter.all false
set_option maxRecDepth 100000
set_option maxHeartbeats 1000000
namespace MP.PG
open PySem PySem.Spec MP
open PyProof.Rows hiding St
open L2 hiding St r1
section
variable {s : Sto}
theorem many_ok {b w : Nat} (hb : b ≤ 100) (hw : w ≤ 100) : g_many_of [.int (b : Int), .int (w : Int)] s = .ok (.int ((b ^ w : Nat) : Int)) s := by
  have e0 : startD 4 [.int (b : Int), .int (w : Int)] = [some (.int (b : Int)), some (.int (w : Int)), none, none] := rfl
  have c1 : mAsg (mK (.int 1)) (gN 2) [some (.int (b : Int)), some (.int (w : Int)), none, none] s = .nx [some (.int (b : Int)), some (.int (w : Int)), some (.int ((b ^ 0 : Nat) : Int)), none] s := rfl
  obtain ⟨ρ', s', h1, ⟨x, rfl⟩, rfl⟩ := for_ix (F := F_many_of_1) (g := t_many_of_1) (body := b_many_of_1) (ρ := [some (.int (b : Int)), some (.int (w : Int)), some (.int ((b ^ 0 : Nat) : Int)), none]) (s := s) (xs := rng 0 w) (s1 := s)
    (fun i ρ s' => (∃ x, ρ = [some (.int (b : Int)), some (.int (w : Int)), some (.int ((b ^ i : Nat) : Int)), x]) ∧ s' = s) (by
      have := range1_ok (fa := mCons (mVar 1) mNil) (ρ := [some (.int (b : Int)), some (.int (w : Int)), some (.int ((b ^ 0 : Nat) : Int)), none]) (s := s) (j := (w : Int)) (cons_v (w := .int (w : Int)) rfl nil_ev) (okR_s (by omega) (by omega))
      exact this) ⟨⟨none, rfl⟩, rfl⟩ fun i x ρ s' hx hJ => by
      obtain ⟨⟨y, rfl⟩, rfl⟩ := hJ
      refine ⟨_, [some (.int (b : Int)), some (.int (w : Int)), some (.int ((b ^ (i + 1) : Nat) : Int)), some x], s', rfl, .inl ?_, ⟨_, rfl⟩, rfl⟩
      unfold b_many_of_1
      refine (asg_v (w := .int ((b ^ (i + 1) : Nat) : Int)) (bin_v (x := .int (b : Int)) (y := .int ((b ^ i : Nat) : Int)) rfl rfl ?_)).trans rfl
      rw [mul_ii (cm_l ⟨by omega, by omega⟩), Nat.pow_succ, Nat.mul_comm]
      rfl
  have hl : (rng 0 w).length = w := by rw [rng_ev, List.length_map, List.length_range]
  rw [hl] at h1
  unfold g_many_of d_many_of
  rw [den_ev, e0]
  refine fin_nx c1 (fin_nx h1 ?_)
  rw [ret_v (w := .int ((b ^ w : Nat) : Int)) rfl]
  exact finC_rt
/-- ints that go into a product -/
def Fit (rs : List Int) : Prop := rs.length ≤ 1000 ∧ ∀ r ∈ rs, -1000000 ≤ r ∧ r ≤ 1000000
theorem Fit.of {rs : List Int} (h : Rule rs) : Fit rs := ⟨by have := h.six; omega, fun r hr => by have := h.ok r hr; omega⟩
theorem law_sum_ok {rs ns : List Int} (h : Fit rs) (hl : ns.length ≤ 1000) : g__law_sum [tI rs, tI ns] s = .ok (.int (dot rs (srt ns))) s := by
  have e0 : startD 4 [tI rs, tI ns] = [some (tI rs), some (tI ns), none, none] := rfl
  have hF : cF__law_sum_1 [some (tI rs), some (tI ns), none, none] s = .ok { ws := (rs.zip (srt ns)).map fun p => .tup [.int p.1, .int p.2] } s := by
    rw [← zip_ints]
    have h1 : mCons (mVar 0) (mCons (mBlt sortedA (mCons (mVar 1) mNil)) mNil) [some (tI rs), some (tI ns), none, none] s = .ok [tI rs, lI (srt ns)] s := cons_v rfl (cons_v (blt_v (cons_v (w := tI ns) rfl nil_ev) sorted_TI) nil_ev)
    show iZip2 _ _ _ = _
    unfold iZip2
    rw [h1]
    rfl
  have c1 : mComp cF__law_sum_1 [2, 3] ct__law_sum_1 ci__law_sum_1 ce__law_sum_1 [some (tI rs), some (tI ns), none, none] s = .ok (lI ((rs.zip (srt ns)).map fun p => p.1 * p.2)) s := by
    have := comp_mapA (vs := [2, 3]) (g := ct__law_sum_1) (elt := ce__law_sum_1) (fun p : Int × Int => Dv.int (p.1 * p.2)) hF (by rw [List.length_zip]; have := h.1; unfold lim; omega) fun p hp => ⟨[some (tI rs), some (tI ns), some (.int p.1), some (.int p.2)], rfl, by
      have hb := h.2 p.1 (List.of_mem_zip hp).1
      exact bin_v (x := .int p.1) (y := .int p.2) rfl rfl (mul_ii (cm_l ⟨by omega, by omega⟩))⟩
    rw [lI, List.map_map]
    exact this
  unfold g__law_sum d__law_sum
  rw [den_ev, e0, ret_v (w := .int (dot rs (srt ns))) (blt_v (cons_v c1 nil_ev) (by
    rw [lI, sum_LI]
    rfl))]
  exact finC_rt
/-- all rows of so many marks -/
def allR (marks : List Int) : Nat → List (List Int)
  | 0 => [[]]
  | n + 1 => (allR marks n).flatMap fun r => marks.map fun m => r ++ [m]
theorem allR_len {marks : List Int} : ∀ {n : Nat} {r : List Int}, r ∈ allR marks n → r.length = n
  | 0, r, h => by rw [List.mem_singleton.mp h]; rfl
  | n + 1, r, h => by
    obtain ⟨q, hq, hr⟩ := List.mem_flatMap.mp h
    obtain ⟨m, _, rfl⟩ := List.mem_map.mp hr
    rw [List.length_append, allR_len hq]
    rfl
theorem sum_const {α : Type} {c : Nat} : ∀ l : List α, (l.map fun _ => c).sum = l.length * c
  | [] => by simp
  | _ :: l => by
    rw [List.map_cons, List.sum_cons, sum_const l, List.length_cons, Nat.succ_mul, Nat.add_comm]
theorem allR_count {marks : List Int} : ∀ n, (allR marks n).length = marks.length ^ n
  | 0 => rfl
  | n + 1 => by
    show ((allR marks n).flatMap fun r => marks.map fun m => r ++ [m]).length = _
    rw [List.length_flatMap, Nat.pow_succ, ← allR_count n]
    simp only [List.length_map]
    exact sum_const _
theorem law_all_ok {marks : List Int} {n : Nat} (hm : 1 ≤ marks.length) (hb : marks.length ^ n ≤ 100000) (hn : n ≤ 1000) (M : Dv) (hM : M = tI marks ∨ M = lI marks) : g__law_all [M, .int (n : Int)] s = .ok (.lst ((allR marks n).map tI)) s := by
  let E (x2 x3 x4 x5 x6 : Option Dv) : Env := [some M, some (.int (n : Int)), x2, x3, x4, x5, x6]
  have e0 : startD 7 [M, .int (n : Int)] = E none none none none none := rfl
  have c1 : mAsg (mLst (mCons (mTup mNil) mNil)) (gN 2) (E none none none none none) s = .nx (E (some (.lst ((allR marks 0).map tI))) none none none none) s := rfl
  have cnt : ∀ i, i ≤ n → (allR marks i).length ≤ 100000 := fun i hi => by
    rw [allR_count]
    exact Nat.le_trans (Nat.pow_le_pow_right hm hi) hb
  obtain ⟨ρ', s', f1, x3, x4, x5, x6, hr, hs⟩ := for_ix (F := F__law_all_2) (g := t__law_all_2) (body := b__law_all_2) (ρ := E (some (.lst ((allR marks 0).map tI))) none none none none) (s := s) (s1 := s) (xs := rng 0 n)
    (fun i ρ s' => ∃ x3 x4 x5 x6, ρ = E (some (.lst ((allR marks i).map tI))) x3 x4 x5 x6 ∧ s' = s) (range1_ok (j := (n : Int)) (cons_v (w := .int (n : Int)) rfl nil_ev) (okR_s (by omega) (by omega))) ⟨_, _, _, _, rfl, rfl⟩ fun i x ρ s' hx ⟨x3, x4, x5, x6, hr, hs⟩ => by
      subst hr hs
      obtain ⟨hi, rfl⟩ := rng_get hx
      have hi' : i < n := by simpa using hi
      let L : Nat → List (List Int) := fun j => ((allR marks i).take j).flatMap fun r => marks.map fun m => r ++ [m]
      have b1 : mAsg (mLst mNil) (gN 4) (E (some (.lst ((allR marks i).map tI))) (some (.int (0 + (i : Int)))) x4 x5 x6) s' = .nx (E (some (.lst ((allR marks i).map tI))) (some (.int (0 + (i : Int)))) (some (.lst ((L 0).map tI))) x5 x6) s' := rfl
      obtain ⟨ρ2, s2, g1, y5, y6, hr2, hs2⟩ := for_ix (F := F__law_all_1) (g := t__law_all_1) (body := b__law_all_1) (ρ := E (some (.lst ((allR marks i).map tI))) (some (.int (0 + (i : Int)))) (some (.lst ((L 0).map tI))) x5 x6) (s := s') (s1 := s') (xs := (allR marks i).map tI)
        (fun j ρ s2 => ∃ y5 y6, ρ = E (some (.lst ((allR marks i).map tI))) (some (.int (0 + (i : Int)))) (some (.lst ((L j).map tI))) y5 y6 ∧ s2 = s') rfl ⟨_, _, rfl, rfl⟩ fun j x ρ s2 hx ⟨y5, y6, hr, hs⟩ => by
          subst hr hs
          rw [List.getElem?_map] at hx
          obtain ⟨r, hr, rfl⟩ := Option.map_eq_some_iff.mp hx
          have hrm : r ∈ allR marks i := List.mem_of_getElem? hr
          have hrl := allR_len hrm
          have hL : L (j + 1) = L j ++ marks.map fun m => r ++ [m] := by
            show ((allR marks i).take (j + 1)).flatMap _ = _
            rw [List.take_succ, hr, List.flatMap_append]
            simp [L]
          have hLl : ∀ j, (L j).length ≤ 100000 := fun j => by
            have h1 : (L j).length ≤ (allR marks (i + 1)).length := by
              show (((allR marks i).take j).flatMap _).length ≤ ((allR marks i).flatMap _).length
              rw [List.length_flatMap, List.length_flatMap]
              simp only [List.length_map]
              rw [sum_const, sum_const, List.length_take]
              exact Nat.mul_le_mul_right _ (Nat.min_le_right _ _)
            exact Nat.le_trans h1 (cnt _ hi')
          refine ⟨E (some (.lst ((allR marks i).map tI))) (some (.int (0 + (i : Int)))) (some (.lst ((L j).map tI))) (some (tI r)) y6, E (some (.lst ((allR marks i).map tI))) (some (.int (0 + (i : Int)))) (some (.lst ((L (j + 1)).map tI))) (some (tI r)) y6, s2, rfl, .inl ?_, _, _, rfl, rfl⟩
          have hc : mComp cF__law_all_1 [6] ct__law_all_1 ci__law_all_1 ce__law_all_1 (E (some (.lst ((allR marks i).map tI))) (some (.int (0 + (i : Int)))) (some (.lst ((L j).map tI))) (some (tI r)) y6) s2 = .ok (.lst (marks.map fun m => tI (r ++ [m]))) s2 := by
            refine comp_mapA (e := Dv.int) (fun m : Int => tI (r ++ [m])) ?_ ?_ fun m _ => ⟨E (some (.lst ((allR marks i).map tI))) (some (.int (0 + (i : Int)))) (some (.lst ((L j).map tI))) (some (tI r)) (some (.int m)), rfl, ?_⟩
            · rcases hM with rfl | rfl <;> rfl
            · have := hLl (j + 1)
              have h2 := Nat.le_trans (show marks.length ≤ marks.length ^ n from by
                have h3 : marks.length ^ 1 ≤ marks.length ^ n := Nat.pow_le_pow_right hm (by omega)
                rwa [Nat.pow_one] at h3) hb
              unfold lim
              omega
            · refine bin_v (x := tI r) (y := tI [m]) rfl rfl ?_
              show addD s2 (.tup (r.map .int)) (.tup [.int m]) = _
              rw [add_tup (by rw [List.length_map, hrl]; show i + 1 ≤ _; omega), tI, List.map_append]
              rfl
          have hm2 : marks.length ≤ 100000 := Nat.le_trans (by
            have h3 : marks.length ^ 1 ≤ marks.length ^ n := Nat.pow_le_pow_right hm (by omega)
            rwa [Nat.pow_one] at h3) hb
          refine asg_v (w := .lst ((L (j + 1)).map tI)) (bin_v (x := .lst ((L j).map tI)) (y := .lst (marks.map fun m => tI (r ++ [m]))) rfl hc ?_)
          rw [add_lst (by rw [List.length_map, List.length_map]; have := hLl j; omega), hL, List.map_append, List.map_map]
          rfl
      have hL1 : L (allR marks i).length = allR marks (i + 1) := by
        show ((allR marks i).take _).flatMap _ = _
        rw [List.take_length]
        rfl
      rw [hr2, hs2, List.length_map, hL1] at g1
      refine ⟨E (some (.lst ((allR marks i).map tI))) (some (.int (0 + (i : Int)))) x4 x5 x6, E (some (.lst ((allR marks (i + 1)).map tI))) (some (.int (0 + (i : Int)))) (some (.lst ((allR marks (i + 1)).map tI))) y5 y6, s', rfl, .inl ?_, _, _, _, _, rfl, rfl⟩
      unfold b__law_all_2
      exact seq_nx b1 (seq_nx g1 (asg_v (w := .lst ((allR marks (i + 1)).map tI)) rfl))
  rw [hr, hs, rng_len] at f1
  unfold g__law_all d__law_all
  rw [den_ev, e0]
  refine fin_nx c1 (fin_nx f1 ?_)
  rw [ret_v (w := .lst ((allR marks n).map tI)) rfl]
  exact finC_rt
end
end MP.PG
set_option Elab.async false
set_option linter.all false
set_option maxRecDepth 100000
set_option maxHeartbeats 1000000
namespace MP.PG
open PySem PySem.Spec MP
open PyProof.Rows hiding St
open L2 hiding St r1
def runL {α σ : Type} (step : σ → α → Dv ⊕ σ) : σ → List α → Dv ⊕ σ
  | st, [] => .inr st
  | st, a :: l => match step st a with
    | .inl w => .inl w
    | .inr st' => runL step st' l
def Ran {σ : Type} (Rel : σ → Env → Prop) (s : Sto) : Dv ⊕ σ → C → Prop
  | .inl w, c => c = .rt w s
  | .inr st, c => ∃ ρ', c = .nx ρ' s ∧ Rel st ρ'
section
variable {α σ : Type} {g : FG} {body : FS} {s : Sto}
theorem forL_run {e : α → Dv} (Rel : σ → Env → Prop) (step : σ → α → Dv ⊕ σ) : ∀ (l : List α) (st : σ) (ρ : Env), (∀ a ∈ l, ∀ st ρ, Rel st ρ → ∃ ρ1, g (e a) ρ s = some ρ1 ∧ Ran Rel s (step st a) (body ρ1 s)) → Rel st ρ → Ran Rel s (runL step st l) (forL none g body (l.map e) ρ s)
  | [], st, ρ, _, j => ⟨ρ, by unfold forL; rfl, j⟩
  | a :: l, st, ρ, h, j => by
    obtain ⟨ρ1, h1, h2⟩ := h a List.mem_cons_self st ρ j
    rw [List.map_cons]
    unfold runL forL
    rw [if_pos (.inl rfl), h1]
    cases hs : step st a with
    | inl w =>
      rw [hs] at h2
      have h3 : body ρ1 s = .rt w s := h2
      simp only [h3]
      rfl
    | inr st' =>
      rw [hs] at h2
      obtain ⟨ρ2, h3, h4⟩ := h2
      simp only [h3]
      exact forL_run Rel step l st' ρ2 (fun b hb => h b (List.mem_cons_of_mem _ hb)) h4
theorem for_run {F : FI} {l : List α} {e : α → Dv} {ρ : Env} {s0 : Sto} (Rel : σ → Env → Prop) (step : σ → α → Dv ⊕ σ) (st : σ) (hF : F ρ s0 = .ok { ws := l.map e } s) (j : Rel st ρ)
    (h : ∀ a ∈ l, ∀ st ρ, Rel st ρ → ∃ ρ1, g (e a) ρ s = some ρ1 ∧ Ran Rel s (step st a) (body ρ1 s)) : Ran Rel s (runL step st l) (mFor F g body ρ s0) := by
  unfold mFor
  rw [hF]
  exact forL_run Rel step l st ρ h j
end
section
variable {s : Sto} {rs os : List Int} {r : Nat}
theorem within_ok {i a b : Int} (h1 : a ≤ i) (h2 : i ≤ b) : g_is_int_within [.int i, .int a, .int b] s = .ok (.bl true) s := by
  rw [is_int_within_int, decide_eq_true h1, decide_eq_true h2]
  rfl
theorem mul_nn {a b : Nat} (h : b ≤ 1000000) : mulD s (.int (a : Int)) (.int (b : Int)) = some (.int ((a * b : Nat) : Int)) := by
  rw [mul_ii (cm_r ⟨by omega, by omega⟩), Int.natCast_mul]
theorem mod_nn {a b : Nat} (h0 : 0 < b) : modD s (.int (a : Int)) (.int (b : Int)) = some (.int ((a % b : Nat) : Int)) := by
  rw [mod_ii (by omega), Int.natCast_emod]
end
end MP.PG
set_option Elab.async false
set_option linter.all false
set_option maxRecDepth 100000
set_option maxHeartbeats 1000000
namespace MP.PG
open PySem PySem.Spec MP
open PyProof.Rows hiding St
open L2 hiding St r1
section
variable {s : Sto}
theorem need_row_ok {ns : List Int} (h : Row ns) (s : Sto) : g_need_row [tI ns] s = .ok (tI ns) s := by
  have h1 := h.most
  simp [g_need_row, d_need_row, is_tuple_tup, first_in ns _ _ _ h.ok, show (ns.length : Int) ≤ 200 by omega]
theorem is_row_ok {ns : List Int} (h : Row ns) (s : Sto) : g_is_row [tI ns] s = .ok (.bl true) s := by
  have e0 : startD 1 [tI ns] = [some (tI ns)] := rfl
  unfold g_is_row d_is_row
  rw [den_ev, e0]
  have c : mExpr (mCall (g_need_row) (mCons (mVar 0) mNil)) [some (tI ns)] s = .nx [some (tI ns)] s := expr_v (call_v (cons_v (w := tI ns) rfl nil_ev) (need_row_ok h s))
  refine fin_nx (ρ1 := [some (tI ns)]) (s1 := s) ?_ ?_
  · unfold mTryN
    rw [c]
  · exact finC_rt
theorem index_of_ok {rs ns : List Int} (h : Rule rs) (hn : ns.length ≤ 200) (hl : rs.length ≤ ns.length) (s : Sto) : g_index_of [tI rs, tI ns] s = .ok (.int (idx rs ns)) s := by
  have h0 : 0 < rs.length := h.one
  have hc : mComp cF_index_of_1 [3, 4] ct_index_of_1 ci_index_of_1 ce_index_of_1 [some (tI rs), some (tI ns), some (lI (srt (last rs.length ns))), none, none] s = .ok (.lst ((rs.zip (srt (last rs.length ns))).map fun p => .int (p.1 * p.2))) s := by
    refine comp_mapA (e := fun p : Int × Int => .tup [.int p.1, .int p.2]) _ ?_ ?_ fun p hp => ?_
    · show R.ok (α := Src) { ws := zipD _ _ } s = _
      rw [zip_ints]
    · have := List.length_zip (l₁ := rs) (l₂ := srt (last rs.length ns))
      have := h.six
      unfold lim
      omega
    · refine ⟨[some (tI rs), some (tI ns), some (lI (srt (last rs.length ns))), some (.int p.1), some (.int p.2)], rfl, ?_⟩
      have hb := h.ok p.1 (List.of_mem_zip (a := p.1) (b := p.2) hp).1
      simp [ce_index_of_1, mul_ii (cm_l (j := p.2) ⟨show -(2 ^ 64) < p.1 by omega, show p.1 < 2 ^ 64 by omega⟩)]
  have hd : cutD (ns.map .int) (some (-(rs.length : Int))) none = (last rs.length ns).map .int := by
    rw [cut_last (by rw [List.length_map]; exact hl) h0, List.length_map, ← List.map_drop]
    rfl
  have e : ((rs.zip (srt (last rs.length ns))).map fun p => Dv.int (p.1 * p.2)) = ((rs.zip (srt (last rs.length ns))).map fun p => p.1 * p.2).map .int := by rw [List.map_map]; rfl
  rw [e] at hc
  simp [-List.map_map, g_index_of, d_index_of, hd, hc]
  rfl
def enI : Nat → List Int → List (Nat × Int)
  | _, [] => []
  | k, n :: ns => (k, n) :: enI (k + 1) ns
theorem enum_I : ∀ (k : Nat) (ns : List Int), enumD k (ns.map .int) = (enI k ns).map fun p => .tup [.int (p.1 : Nat), .int p.2]
  | _, [] => rfl
  | k, n :: ns => by
    rw [List.map_cons, enumD, enum_I (k + 1) ns]
    rfl
def outF (a b : Int) (_ : Unit) (p : Nat × Int) : Dv ⊕ Unit := if a ≤ p.2 ∧ p.2 ≤ b then .inr () else .inl (.int (p.1 : Nat))
theorem out_run {a b : Int} : ∀ (ns : List Int) (k : Nat), (if ∀ i ∈ ns, a ≤ i ∧ i ≤ b then runL (outF a b) () (enI k ns) = .inr () else ∃ j : Nat, runL (outF a b) () (enI k ns) = .inl (.int (j : Int)))
  | [], k => by rw [if_pos (by simp)]; rfl
  | n :: ns, k => by
    have ih := out_run (a := a) (b := b) ns (k + 1)
    by_cases hn : a ≤ n ∧ n ≤ b
    · have e : runL (outF a b) () (enI k (n :: ns)) = runL (outF a b) () (enI (k + 1) ns) := by
        simp only [enI, runL, outF, if_pos hn]
      rw [e]
      by_cases h : ∀ i ∈ ns, a ≤ i ∧ i ≤ b
      · rw [if_pos h] at ih
        rw [if_pos (fun i hi => by
          rcases List.mem_cons.mp hi with rfl | hi
          · exact hn
          · exact h i hi)]
        exact ih
      · rw [if_neg h] at ih
        rw [if_neg (fun z => h fun i hi => z i (List.mem_cons_of_mem _ hi))]
        exact ih
    · rw [if_neg (fun z => hn (z n List.mem_cons_self))]
      refine ⟨k, ?_⟩
      simp only [enI, runL, outF, if_neg hn]
theorem first_run {ns : List Int} {a b : Int} : g_first_outside [tI ns, .int a, .int b] s = .ok (match runL (outF a b) () (enI 0 ns) with
    | .inl w => w
    | .inr _ => .non) s := by
  let E (x3 x4 : Option Dv) : Env := [some (tI ns), some (.int a), some (.int b), x3, x4]
  have e0 : startD 5 [tI ns, .int a, .int b] = E none none := rfl
  have hF : F_first_outside_1 (E none none) s = .ok { ws := (enI 0 ns).map fun p => .tup [.int (p.1 : Nat), .int p.2] } s := by
    show R.ok (α := Src) { ws := enumD 0 (ns.map .int) } s = _
    rw [enum_I]
  have R := for_run (g := t_first_outside_1) (body := b_first_outside_1) (fun (_ : Unit) ρ => ∃ x3 x4, ρ = E x3 x4) (outF a b) () hF ⟨_, _, rfl⟩ fun p _ _ ρ ⟨x3, x4, hρ⟩ => by
    subst hρ
    refine ⟨E (some (.int (p.1 : Nat))) (some (.int p.2)), rfl, ?_⟩
    unfold outF
    by_cases h1 : a ≤ p.2
    · by_cases h2 : p.2 ≤ b
      · rw [if_pos ⟨h1, h2⟩]
        refine ⟨E (some (.int (p.1 : Nat))) (some (.int p.2)), ?_, _, _, rfl⟩
        simp [b_first_outside_1, E, h1, h2]
      · rw [if_neg (fun z => h2 z.2)]
        show b_first_outside_1 _ _ = _
        simp [b_first_outside_1, E, h1, h2]
    · rw [if_neg (fun z => h1 z.1)]
      show b_first_outside_1 _ _ = _
      simp [b_first_outside_1, E, h1]
  unfold g_first_outside d_first_outside
  rw [den_ev, e0]
  cases hr : runL (outF a b) () (enI 0 ns) with
  | inl w =>
    rw [hr] at R
    exact fin_rtS R finC_rt
  | inr u =>
    rw [hr] at R
    obtain ⟨ρ', h1, x3, x4, rfl⟩ := R
    exact fin_nx h1 finC_rt
theorem first_bad {ns : List Int} {a b : Int} (h : ¬ ∀ i ∈ ns, a ≤ i ∧ i ≤ b) (s : Sto) : ∃ j : Nat, g_first_outside [tI ns, .int a, .int b] s = .ok (.int (j : Int)) s := by
  have := out_run (a := a) (b := b) ns 0
  rw [if_neg h] at this
  obtain ⟨j, hj⟩ := this
  refine ⟨j, ?_⟩
  rw [first_run, hj]
theorem tryJ_nx {js : List Nat} {j : Nat} {c su : FS} {ρ ρ' : Env} {s s1 : Sto} (h : c ρ s = .nx ρ' s1) : mTryJ js j c su ρ s = .nx ρ' s1 := by unfold mTryJ; rw [h]
theorem is_rule_ok {rs : List Int} (h1 : 1 ≤ rs.length) (h6 : rs.length ≤ 6) (s : Sto) : g_is_rule [tI rs] s = .ok (.bl (decide (∀ i ∈ rs, -20 ≤ i ∧ i ≤ 20))) s := by
  have e0 : startD 1 [tI rs] = [some (tI rs)] := rfl
  unfold g_is_rule d_is_rule
  rw [den_ev, e0]
  by_cases h : ∀ i ∈ rs, -20 ≤ i ∧ i ≤ 20
  · rw [decide_eq_true h]
    have c : mExpr (mCall (g_need_rule) (mCons (mVar 0) mNil)) [some (tI rs)] s = .nx [some (tI rs)] s := expr_v (call_v (cons_v (w := tI rs) rfl nil_ev) (need_rule_ok ⟨h1, h6, h⟩ s))
    exact fin_nx (tryJ_nx c) finC_rt
  · rw [decide_eq_false h]
    obtain ⟨j, hj⟩ := first_bad h s
    have hn : g_need_rule [tI rs] s = .er ⟨1, "number", .int (j : Int)⟩ s := by
      have c0 : isntD s (.int (j : Int)) .non = some (.bl true) := rfl
      simp [g_need_rule, d_need_rule, is_tuple_tup, hj, h6, c0, show (1 : Int) ≤ rs.length by omega, show (rs.length : Int) ≤ 6 by omega]
    have c : mExpr (mCall (g_need_rule) (mCons (mVar 0) mNil)) [some (tI rs)] s = .er ⟨1, "number", .int (j : Int)⟩ [some (tI rs)] s := expr_er ((call_v (cons_v (w := tI rs) rfl nil_ev) hn))
    have c2 : mTryJ [1, 4, 8] 1 (mExpr (mCall (g_need_rule) (mCons (mVar 0) mNil))) (mRet (mK (.bl false))) [some (tI rs)] s = .rt (.bl false) s := by
      unfold mTryJ
      rw [c]
      rfl
    exact fin_rtS c2 finC_rt
structure Bt (ns : List Int) : Prop where
  most : ns.length ≤ 200
  ok : ∀ i ∈ ns, 0 ≤ i ∧ i ≤ 1
theorem Bt.row {ns : List Int} (h : Bt ns) : Row ns := ⟨h.most, fun i hi => by have := h.ok i hi; omega⟩
theorem need_bit_row_ok {ns : List Int} (h : Bt ns) (s : Sto) : g_need_bit_row [tI ns] s = .ok (tI ns) s := by
  simp [g_need_bit_row, d_need_bit_row, need_row_ok h.row, first_in ns _ _ _ h.ok]
theorem need_many_ok {k : Nat} (h1 : 1 ≤ k) (h6 : k ≤ 6) (s : Sto) : g_need_many [.int (k : Int)] s = .ok (.int (k : Int)) s := by
  simp [g_need_many, d_need_many, within_ok (s := s) (i := (k : Int)) (a := 1) (b := 6) (by omega) (by omega)]
def winL (ns : List Int) (k : Nat) : List (List Int) := (List.range (ns.length + 1 - k)).map fun i => (ns.drop i).take k
def onesL (ns : List Int) (k : Nat) : List Int := (winL ns k).map List.sum
theorem ones_behind_ok {ns : List Int} {k : Nat} (hl : ns.length ≤ 200) (hk : k ≤ 200) : g_ones_behind [tI ns, .int (k : Int)] s = .ok (lI (onesL ns k)) s := by
  let E (x : Option Dv) : Env := [some (tI ns), some (.int (k : Int)), x]
  have e0 : startD 3 [tI ns, .int (k : Int)] = E none := rfl
  have hF : cF_ones_behind_1 (E none) s = .ok { ws := (List.range (ns.length + 1 - k)).map fun i : Nat => .int (i : Int) } s := by
    have := range1_ok (fa := mCons (mBin addD (mBin subD (mBlt lenD (mCons (mVar 0) mNil)) (mVar 1)) (mK (.int 1))) mNil) (ρ := E none) (s := s) (j := (ns.length : Int) - k + 1) (cons_v (bin_v (x := .int ((ns.length : Int) - k)) (y := .int 1) (bin_v (x := .int (ns.length : Int)) (y := .int (k : Int)) (blt_v (cons_v (w := tI ns) rfl nil_ev) (by rw [tI, len_tup, List.length_map])) rfl sub_ev) k_ev add_ii) nil_ev) (okR_s (by omega) (by omega))
    refine this.trans ?_
    rw [rng_ev, show ((ns.length : Int) - k + 1).toNat = ns.length + 1 - k by omega]
    simp only [Int.zero_add]
  have hc := comp_mapA (vs := [2]) (g := ct_ones_behind_1) (elt := ce_ones_behind_1) (fun i : Nat => Dv.int ((ns.drop i).take k).sum) hF (by rw [List.length_range]; unfold lim; omega) fun i hi => ⟨E (some (.int (i : Int))), rfl, by
    have hi' := List.mem_range.mp hi
    refine blt_v (cons_v (w := tI ((ns.drop i).take k)) (sl_v (x := tI ns) (a := some (i : Int)) (b := some ((i + k : Nat) : Int)) rfl (part_v (f := mVar 2) rfl) (part_v (bin_v (x := .int (i : Int)) (y := .int (k : Int)) rfl rfl (by rw [add_ii, Int.natCast_add]))) ?_) nil_ev) sum_TI
    show some (Dv.tup (cutD (ns.map .int) _ _)) = _
    rw [cut_mid (by rw [List.length_map]; omega) (by rw [List.length_map]; omega), Nat.add_sub_cancel_left, ← List.map_drop, ← List.map_take]⟩
  have e : ((List.range (ns.length + 1 - k)).map fun i : Nat => Dv.int ((ns.drop i).take k).sum) = (onesL ns k).map .int := by
    unfold onesL winL
    rw [List.map_map, List.map_map]
    rfl
  rw [e] at hc
  unfold g_ones_behind d_ones_behind
  rw [den_ev, e0]
  exact (congrArg (finC _) (ret_v hc)).trans finC_rt
theorem in_list {c : Int} {ns : List Int} {neg : Bool} : inQ neg s (.int c) (lI ns) = some (.bl (if neg = true then !ns.contains c else ns.contains c)) := by
  have h1 : mapO flV (ns.map .int) = some (ns.map V.int) := by
    induction ns with
    | nil => rfl
    | cons n ns ih =>
      rw [List.map_cons]
      unfold mapO
      rw [ih]
      rfl
  have h2 : inV (.int c) (ns.map V.int) = ns.contains c := by
    clear h1
    unfold inV
    induction ns with
    | nil => rfl
    | cons n ns ih =>
      rw [List.map_cons, List.any_cons, List.contains_cons, ← ih]
      congr 1
      show (n == c) = (c == n)
      by_cases h : n = c
      · subst h; rfl
      · rw [beq_eq_false_iff_ne.mpr h, beq_eq_false_iff_ne.mpr (fun z => h z.symm)]
  show (match some (V.int c), some (false, ns.map Dv.int) with
    | some u, some (_, ws) => match mapO flV ws with
      | some us => some (Dv.bl (if neg = true then !inV u us else inV u us))
      | none => none
    | _, _ => none) = _
  dsimp only
  rw [h1]
  dsimp only
  rw [h2]
end
end MP.PG
set_option Elab.async false
set_option linter.all false
set_option maxRecDepth 100000
set_option maxHeartbeats 1000000
namespace MP.PG
open PySem PySem.Spec MP
open PyProof.Rows hiding St
open L2 hiding St r1
section
variable {s : Sto}
theorem all_bls {α : Type} {φ : α → Bool} : ∀ ws : List α, allD s [.lst (ws.map fun w => Dv.bl (φ w))] = some (.bl (ws.all φ)) := fun ws => by
  have h : blsOf (ws.map fun w => Dv.bl (φ w)) = some (ws.map φ) := by
    induction ws with
    | nil => rfl
    | cons w ws ih =>
      show (blsOf (ws.map fun w => Dv.bl (φ w))).map (φ w :: ·) = _
      rw [ih]
      rfl
  show (match blsOf (ws.map fun w => Dv.bl (φ w)) with | some bs => some (Dv.bl (bs.all id)) | none => none) = _
  rw [h]
  show some (Dv.bl ((ws.map φ).all id)) = _
  rw [List.all_map]
  rfl
def tellF (ns : List Int) (k : Nat) : Bool := (List.range k).all fun i : Nat => (onesL ns k).contains ((i : Int) + 1)
theorem range1k {f g : FE} {ρ : Env} {k : Nat} (hf : f ρ s = .ok (.int 1) s) (h : g ρ s = .ok (.int ((k : Int) + 1)) s) (hk : k ≤ 1000) : iRange2 (mCons f (mCons g mNil)) ρ s = .ok { ws := (List.range k).map fun i : Nat => .int ((i : Int) + 1) } s := by
  refine (range2_ok (cons_v hf (cons_v h nil_ev)) (by decide) (okR_s (by omega) (by omega))).trans ?_
  rw [rng_ev, show ((k : Int) + 1 - 1).toNat = k by omega]
  congr 2
  refine List.map_congr_left fun i _ => ?_
  rw [Int.add_comm]
theorem tells_ok {ns : List Int} {k : Nat} (hl : ns.length ≤ 200) (hk : k ≤ 200) : g_tells [tI ns, .int (k : Int)] s = .ok (.bl (tellF ns k)) s := by
  let E (x2 x3 : Option Dv) : Env := [some (tI ns), some (.int (k : Int)), x2, x3]
  have e0 : startD 4 [tI ns, .int (k : Int)] = E none none := rfl
  have c1 : mAsg (mCall (g_ones_behind) (mCons (mVar 0) (mCons (mVar 1) mNil))) (gN 2) (E none none) s = .nx (E (some (lI (onesL ns k))) none) s :=
    asg_v (w := lI (onesL ns k)) (call_v (cons_v (w := tI ns) rfl (cons_v (w := .int (k : Int)) rfl nil_ev)) (ones_behind_ok hl hk))
  have hF : cF_tells_1 (E (some (lI (onesL ns k))) none) s = .ok { ws := (List.range k).map fun i : Nat => .int ((i : Int) + 1) } s :=
    range1k k_ev (bin_v (x := .int (k : Int)) (y := .int 1) rfl k_ev add_ii) (by omega)
  have hc := comp_mapA (vs := [3]) (g := ct_tells_1) (elt := ce_tells_1) (fun i : Nat => Dv.bl ((onesL ns k).contains ((i : Int) + 1))) hF (by rw [List.length_range]; unfold lim; omega) fun i hi => ⟨E (some (lI (onesL ns k))) (some (.int ((i : Int) + 1))), rfl, by
    refine bin_v (x := .int ((i : Int) + 1)) (y := lI (onesL ns k)) rfl rfl ?_
    rw [in_list]
    rfl⟩
  unfold g_tells d_tells
  rw [den_ev, e0]
  refine fin_nx c1 ((congrArg (finC _) (ret_v (blt_v (cons_v hc nil_ev) (all_bls _)))).trans finC_rt)
theorem does_tell_ok {ns : List Int} {k : Nat} (h : Bt ns) (h1 : 1 ≤ k) (h6 : k ≤ 6) : g_does_tell [tI ns, .int (k : Int)] s = .ok (.bl (tellF ns k)) s := by
  let E : Env := [some (tI ns), some (.int (k : Int))]
  have e0 : startD 2 [tI ns, .int (k : Int)] = E := rfl
  unfold g_does_tell d_does_tell
  rw [den_ev, e0]
  refine fin_nx (ρ1 := E) (s1 := s) (expr_v (call_v (cons_v (w := tI ns) rfl nil_ev) (need_bit_row_ok h s))) ?_
  refine (congrArg (finC _) (ret_v (call_v (cons_v (w := tI ns) rfl (cons_v (w := .int (k : Int)) (call_v (cons_v (w := .int (k : Int)) rfl nil_ev) (need_many_ok h1 h6 s)) nil_ev)) (tells_ok h.most (by omega))))).trans finC_rt
/-- the telling row -/
def trow (k : Nat) : List Int := List.replicate (k - 1) 0 ++ List.replicate k 1
theorem mul_one_tup {w : Int} {k : Nat} (hk : k ≤ 1000) : mulD s (.tup [.int w]) (.int (k : Int)) = some (tI (List.replicate k w)) := by
  rw [mul_tup1 (by omega), tI, List.map_replicate]
theorem telling_ok {k : Nat} (h1 : 1 ≤ k) (h6 : k ≤ 6) : g_telling_row [.int (k : Int)] s = .ok (tI (trow k)) s := by
  have e0 : startD 1 [.int (k : Int)] = [some (.int (k : Int))] := rfl
  unfold g_telling_row d_telling_row
  rw [den_ev, e0]
  refine fin_nx (ρ1 := [some (.int (k : Int))]) (s1 := s) (expr_v (call_v (cons_v (w := .int (k : Int)) rfl nil_ev) (need_many_ok h1 h6 s))) ?_
  have tv : ∀ c : Int, mTup (mCons (mK (.int c)) mNil) [some (.int (k : Int))] s = .ok (.tup [.int c]) s := fun c => rfl
  have v0 : mBin subD (mVar 0) (mK (.int 1)) [some (.int (k : Int))] s = .ok (.int ((k - 1 : Nat) : Int)) s := by
    refine bin_v (x := .int (k : Int)) (y := .int 1) rfl k_ev ?_
    rw [sub_ev, Int.natCast_sub h1]
    rfl
  have v1 := bin_v (o := mulD) (tv 0) v0 (mul_one_tup (s := s) (w := 0) (k := k - 1) (by omega))
  have v2 := bin_v (o := mulD) (tv 1) (show mVar 0 [some (.int (k : Int))] s = .ok (.int (k : Int)) s from rfl) (mul_one_tup (s := s) (w := 1) (k := k) (by omega))
  have e : addD s (tI (List.replicate (k - 1) 0)) (tI (List.replicate k 1)) = some (tI (trow k)) := by
    refine (add_tup (by rw [List.length_map, List.length_map, List.length_replicate, List.length_replicate]; omega)).trans ?_
    rw [← List.map_append]
    rfl
  exact (congrArg (finC _) (ret_v (bin_v v1 v2 e))).trans finC_rt
def isG (row th : List Int) : Bool := decide (1 ≤ th.length ∧ th.length ≤ row.length ∧ row.length + 1 - th.length ≤ 6) && tellF row (row.length + 1 - th.length)
theorem need_numbers_ok {row th : List Int} (hr : row.length ≤ 200) (ht : th.length ≤ 400) : g_need_numbers [tI th, tI row] s = if isG row th = true then .ok (.int ((row.length + 1 - th.length : Nat) : Int)) s else .er ⟨4, "value", tI th⟩ s := by
  let E (x2 x3 : Option Dv) : Env := [some (tI th), some (tI row), x2, x3]
  have e0 : startD 4 [tI th, tI row] = E none none := rfl
  have ln : ∀ x2 x3, mBlt lenD (mCons (mVar 1) mNil) (E x2 x3) s = .ok (.int (row.length : Int)) s := fun _ _ => blt_v (cons_v (w := tI row) rfl nil_ev) (by rw [tI, len_tup, List.length_map])
  have lm : ∀ x2 x3, mBlt lenD (mCons (mVar 0) mNil) (E x2 x3) s = .ok (.int (th.length : Int)) s := fun _ _ => blt_v (cons_v (w := tI th) rfl nil_ev) (by rw [tI, len_tup, List.length_map])
  have c1 : mTest (mCall (g_is_tuple) (mCons (mVar 0) (mCons (mK (.int 1)) (mCons (mBlt lenD (mCons (mVar 1) mNil)) mNil)))) (E none none) s = .ok (decide (1 ≤ th.length ∧ th.length ≤ row.length)) s := by
    refine test_v (call_v (cons_v (w := tI th) rfl (cons_v (w := .int 1) rfl (cons_v (ln _ _) nil_ev))) ?_)
    rw [tI, is_tuple_tup, List.length_map]
    congr 2
    rw [← Bool.decide_and]
    exact decide_eq_decide.mpr ⟨fun h => ⟨by omega, by omega⟩, fun h => ⟨by omega, by omega⟩⟩
  have hc := comp_mapA (vs := [3]) (g := ct_need_numbers_1) (elt := ce_need_numbers_1) (f := cF_need_numbers_1) (ρ := E none none) (s := s) (l := th) (e := .int) (fun _ : Int => Dv.bl true) rfl (by unfold lim; omega) fun i hi => ⟨E none (some (.int i)), rfl, call_v (cons_v (w := .int i) rfl nil_ev) (is_int_int i s)⟩
  have c2 : mTest (mBlt allD (mCons (mComp cF_need_numbers_1 [3] ct_need_numbers_1 ci_need_numbers_1 ce_need_numbers_1) mNil)) (E none none) s = .ok true s := by
    refine test_v (blt_v (cons_v hc nil_ev) ((all_bls (φ := fun _ => true) th).trans ?_))
    congr 2
    exact List.all_eq_true.mpr fun _ _ => rfl
  have hbad : ∀ x2 x3, mRaise 4 "value" (mVar 0) (E x2 x3) s = .er ⟨4, "value", tI th⟩ (E x2 x3) s := fun _ _ => rfl
  unfold g_need_numbers d_need_numbers
  rw [den_ev, e0]
  by_cases h1 : 1 ≤ th.length ∧ th.length ≤ row.length
  · rw [decide_eq_true h1] at c1
    have a1 : mIfS (mOr (mNot (mTest (mCall (g_is_tuple) (mCons (mVar 0) (mCons (mK (.int 1)) (mCons (mBlt lenD (mCons (mVar 1) mNil)) mNil)))))) (mNot (mTest (mBlt allD (mCons (mComp cF_need_numbers_1 [3] ct_need_numbers_1 ci_need_numbers_1 ce_need_numbers_1) mNil))))) (mRaise 4 "value" (mVar 0)) mNext (E none none) s = .nx (E none none) s :=
      (ifS_f (or_f (not_vt c1) (not_vt c2))).trans rfl
    let K : Option Dv := some (.int ((row.length + 1 - th.length : Nat) : Int))
    have a2 : mAsg (mBin subD (mBin addD (mBlt lenD (mCons (mVar 1) mNil)) (mK (.int 1))) (mBlt lenD (mCons (mVar 0) mNil))) (gN 2) (E none none) s = .nx (E K none) s := by
      refine asg_v (w := .int ((row.length + 1 - th.length : Nat) : Int)) (bin_v (x := .int ((row.length : Int) + 1)) (y := .int (th.length : Int)) (bin_v (x := .int (row.length : Int)) (y := .int 1) (ln _ _) k_ev add_ii) (lm _ _) ?_)
      rw [sub_ev, Int.natCast_sub (by omega)]
      rfl
    have u1 : mTest (mBin gtD (mVar 2) (mK (.int 6))) (E K none) s = .ok (decide (6 < row.length + 1 - th.length)) s := by
      refine test_v ((bin_v (x := .int ((row.length + 1 - th.length : Nat) : Int)) (y := .int 6) rfl k_ev gt_ii).trans ?_)
      congr 2
      exact decide_eq_decide.mpr ⟨fun h => by omega, fun h => by omega⟩
    have u2 : mTest (mCall (g_tells) (mCons (mVar 1) (mCons (mVar 2) mNil))) (E K none) s = .ok (tellF row (row.length + 1 - th.length)) s :=
      test_v (call_v (cons_v (w := tI row) rfl (cons_v (w := .int ((row.length + 1 - th.length : Nat) : Int)) rfl nil_ev)) (tells_ok hr (by omega)))
    refine fin_nx a1 (fin_nx a2 ?_)
    by_cases h2 : 6 < row.length + 1 - th.length
    · rw [decide_eq_true h2] at u1
      have hg : isG row th = false := by
        unfold isG
        rw [decide_eq_false (by omega)]
        rfl
      rw [hg, if_neg Bool.false_ne_true]
      exact fin_erS ((ifS_t (or_t u1)).trans (hbad _ _)) finC_er
    · rw [decide_eq_false h2] at u1
      have hg : isG row th = tellF row (row.length + 1 - th.length) := by
        unfold isG
        rw [decide_eq_true ⟨h1.1, h1.2, by omega⟩]
        rfl
      rw [hg]
      cases ht : tellF row (row.length + 1 - th.length) with
      | false =>
        rw [ht] at u2
        rw [if_neg Bool.false_ne_true]
        exact fin_erS ((ifS_t (or_f u1 (not_vf u2))).trans (hbad _ _)) finC_er
      | true =>
        rw [ht] at u2
        rw [if_pos rfl]
        exact fin_nx (ρ1 := E K none) (s1 := s) ((ifS_f (or_f u1 (not_vt u2))).trans rfl) finC_rt
  · rw [decide_eq_false h1] at c1
    have hg : isG row th = false := by
      unfold isG
      rw [decide_eq_false (by omega)]
      rfl
    rw [hg, if_neg Bool.false_ne_true]
    exact fin_erS ((ifS_t (or_t (not_vf c1))).trans (hbad _ _)) finC_er
end
end MP.PG
set_option Elab.async false
set_option linter.all false
set_option maxRecDepth 100000
set_option maxHeartbeats 1000000
namespace MP.PG
open PySem PySem.Spec MP
open PyProof.Rows hiding St
open L2 hiding St r1
def runG {α σ ω : Type} (step : σ → α → ω ⊕ σ) : σ → List α → ω ⊕ σ
  | st, [] => .inr st
  | st, a :: l => match step st a with
    | .inl w => .inl w
    | .inr st' => runG step st' l
theorem runG_map {α β σ ω : Type} {step : σ → β → ω ⊕ σ} {f : α → β} : ∀ (l : List α) (st : σ), runG (fun st a => step st (f a)) st l = runG step st (l.map f)
  | [], _ => rfl
  | a :: l, st => by
    rw [List.map_cons]
    unfold runG
    cases step st (f a) with
    | inl w => rfl
    | inr st' => exact runG_map l st'
def RanG {σ ω : Type} (Rel : σ → Env → Sto → Prop) (End : ω → C → Prop) : ω ⊕ σ → C → Prop
  | .inl w, c => End w c
  | .inr st, c => ∃ ρ' s', c = .nx ρ' s' ∧ Rel st ρ' s'
section
variable {α σ ω : Type} {g : FG} {body : FS}
theorem forL_runG {e : α → Dv} (Rel : Nat → σ → Env → Sto → Prop) (End : ω → C → Prop) (hE : ∀ w c, End w c → (∃ v s, c = .rt v s) ∨ ∃ x ρ s, c = .er x ρ s) (step : σ → α → ω ⊕ σ) :
    ∀ (l : List α) (k : Nat) (st : σ) (ρ : Env) (s : Sto), (∀ i a, l[i]? = some a → ∀ st ρ s, Rel (k + i) st ρ s → ∃ ρ1, g (e a) ρ s = some ρ1 ∧ RanG (Rel (k + i + 1)) End (step st a) (body ρ1 s)) → Rel k st ρ s → RanG (Rel (k + l.length)) End (runG step st l) (forL none g body (l.map e) ρ s)
  | [], k, st, ρ, s, _, j => ⟨ρ, s, by unfold forL; rfl, j⟩
  | a :: l, k, st, ρ, s, h, j => by
    obtain ⟨ρ1, h1, h2⟩ := h 0 a rfl st ρ s j
    rw [List.map_cons]
    unfold runG forL
    rw [if_pos (.inl rfl), h1]
    cases hs : step st a with
    | inl w =>
      rw [hs] at h2
      have h2 : End w (body ρ1 s) := h2
      rcases hE w _ h2 with ⟨v, s2, e2⟩ | ⟨x, ρ2, s2, e2⟩
      · rw [e2] at h2
        simp only [e2]
        exact h2
      · rw [e2] at h2
        simp only [e2]
        exact h2
    | inr st' =>
      rw [hs] at h2
      obtain ⟨ρ2, s2, h3, h4⟩ := h2
      simp only [h3]
      have := forL_runG Rel End hE step l (k + 1) st' ρ2 s2 (fun i a hi st ρ s hr => by
        have := h (i + 1) a hi st ρ s
        rw [show k + (i + 1) = k + 1 + i by omega] at this
        exact this hr) h4
      rw [show k + 1 + l.length = k + (a :: l).length by rw [List.length_cons]; omega] at this
      exact this
theorem for_runG {F : FI} {l : List α} {e : α → Dv} {ρ : Env} {s0 s : Sto} (Rel : Nat → σ → Env → Sto → Prop) (End : ω → C → Prop) (hE : ∀ w c, End w c → (∃ v s, c = .rt v s) ∨ ∃ x ρ s, c = .er x ρ s) (step : σ → α → ω ⊕ σ) (st : σ) (hF : F ρ s0 = .ok { ws := l.map e } s) (j : Rel 0 st ρ s)
    (h : ∀ i a, l[i]? = some a → ∀ st ρ s, Rel i st ρ s → ∃ ρ1, g (e a) ρ s = some ρ1 ∧ RanG (Rel (i + 1)) End (step st a) (body ρ1 s)) : RanG (Rel l.length) End (runG step st l) (mFor F g body ρ s0) := by
  unfold mFor
  rw [hF]
  have := forL_runG (g := g) (body := body) (e := e) Rel End hE step l 0 st ρ s (fun i a hi st ρ s hr => by
    rw [Nat.zero_add] at hr ⊢
    exact h i a hi st ρ s hr) j
  rw [Nat.zero_add] at this
  exact this
end
def vI (ps : List (Int × Int)) (k : Int) : Option Int := (ps.find? fun p => decide (p.1 = k)).map (·.2)
abbrev kI (ps : List (Int × Int)) : List (Key × Dv) := ps.map fun p => (.inl p.1, .int p.2)
abbrev dI (ps : List (Int × Int)) : Ob := .dct (kI ps)
def UI (ps : List (Int × Int)) : Prop := ∀ p ∈ ps, vI ps p.1 = some p.2
theorem vI_cons {p : Int × Int} {ps : List (Int × Int)} {k : Int} : vI (p :: ps) k = if p.1 = k then some p.2 else vI ps k := by
  unfold vI
  rw [List.find?_cons]
  by_cases h : p.1 = k
  · rw [decide_eq_true h, if_pos h]; rfl
  · rw [decide_eq_false h, if_neg h]
theorem valD_I {ps : List (Int × Int)} {k : Int} : valD (kI ps) (.inl k) = (vI ps k).map .int := by
  induction ps with
  | nil => rfl
  | cons p ps ih =>
    rw [vI_cons]
    by_cases h : p.1 = k
    · rw [if_pos h]
      simp [valD, h]
    · rw [if_neg h, ← ih]
      have h' : ¬ ((Sum.inl p.1 : Key) = Sum.inl k) := fun z => h (Sum.inl.inj z)
      simp [valD, List.find?_cons, h]
theorem vI_app {ps : List (Int × Int)} {p : Int × Int} {k : Int} : vI (ps ++ [p]) k = match vI ps k with
    | some v => some v
    | none => if p.1 = k then some p.2 else none := by
  induction ps with
  | nil => rw [List.nil_append, vI_cons]; rfl
  | cons q ps ih =>
    rw [List.cons_append, vI_cons, vI_cons, ih]
    by_cases h : q.1 = k
    · rw [if_pos h, if_pos h]
    · rw [if_neg h, if_neg h]
theorem vI_none {ps : List (Int × Int)} {k : Int} : vI ps k = none ↔ ∀ p ∈ ps, p.1 ≠ k := by
  induction ps with
  | nil => simp [vI]
  | cons q ps ih =>
    rw [vI_cons]
    by_cases h : q.1 = k
    · rw [if_pos h]
      exact ⟨(fun z => by cases z), (fun z => absurd h (z q List.mem_cons_self))⟩
    · rw [if_neg h, ih]
      exact ⟨fun z p hp => by
        rcases List.mem_cons.mp hp with rfl | hp
        · exact h
        · exact z p hp, fun z p hp => z p (List.mem_cons_of_mem _ hp)⟩
theorem putD_new {ps : List (Int × Int)} {k v : Int} (h : vI ps k = none) : putD (kI ps) (.inl k) (.int v) = kI (ps ++ [(k, v)]) := by
  unfold putD
  rw [if_neg]
  · show kI ps ++ _ = List.map _ (ps ++ [(k, v)])
    rw [List.map_append]
    rfl
  · intro z
    obtain ⟨q, hq, hk⟩ := List.any_eq_true.mp z
    obtain ⟨p, hp, rfl⟩ := List.mem_map.mp hq
    exact vI_none.mp h p hp (Sum.inl.inj (of_decide_eq_true hk))
theorem putD_old {ps : List (Int × Int)} {k v : Int} (hu : UI ps) (h : vI ps k = some v) : putD (kI ps) (.inl k) (.int v) = kI ps := by
  unfold putD
  have hany : ((kI ps).any fun p => decide (p.1 = (Sum.inl k : Key))) = true := by
    cases hn : (kI ps).any fun p => decide (p.1 = (Sum.inl k : Key)) with
    | true => rfl
    | false =>
      have : vI ps k = none := vI_none.mpr fun p hp z => by
        have := List.any_eq_false.mp hn _ (List.mem_map_of_mem (f := fun p : Int × Int => ((Sum.inl p.1 : Key), Dv.int p.2)) hp)
        exact this (decide_eq_true (congrArg Sum.inl z))
      rw [this] at h
      cases h
  rw [if_pos hany, List.map_map]
  refine List.map_congr_left fun p hp => ?_
  show (if (Sum.inl p.1 : Key) = Sum.inl k then ((Sum.inl p.1 : Key), Dv.int v) else (Sum.inl p.1, Dv.int p.2)) = (Sum.inl p.1, Dv.int p.2)
  by_cases hk : p.1 = k
  · rw [if_pos (congrArg Sum.inl hk)]
    have := hu p hp
    rw [hk, h] at this
    cases this
    rfl
  · rw [if_neg fun z => hk (Sum.inl.inj z)]
theorem UI_new {ps : List (Int × Int)} {k v : Int} (hu : UI ps) (h : vI ps k = none) : UI (ps ++ [(k, v)]) := fun p hp => by
  rw [vI_app]
  rcases List.mem_append.mp hp with hp | hp
  · rw [hu p hp]
  · obtain rfl := List.mem_singleton.mp hp
    rw [h]
    exact if_pos rfl
section
variable {s : Sto} {ps : List (Int × Int)} {c n v : Int}
theorem dctOf_s : dctOf (s ++ [dI ps]) (.ref s.length) = some (kI ps) := by
  show (match (s ++ [dI ps])[s.length]? with
    | some (.dct kws) => some kws
    | _ => none) = _
  rw [at_s]
theorem ix_I (h : vI ps c = some v) : ixA (s ++ [dI ps]) (.ref s.length) (.int c) = some (.int v) := by
  have e1 : ixL (s ++ [dI ps]) (.ref s.length) (.int c) = none := by
    show ((match (s ++ [dI ps])[s.length]? with
      | some (.lst ws) => some ws
      | _ => none).bind fun ws => atI ws c) = none
    rw [at_s]
    rfl
  have e2 : ixT (s ++ [dI ps]) (.ref s.length) (.int c) = none := rfl
  show (match (match ixL (s ++ [dI ps]) (.ref s.length) (.int c) with | some w => some w | none => ixT (s ++ [dI ps]) (.ref s.length) (.int c)) with | some w => some w | none => ixD (s ++ [dI ps]) (.ref s.length) (.int c)) = _
  rw [e1, e2]
  dsimp only
  unfold ixD
  rw [dctOf_s]
  show valD (kI ps) (.inl c) = _
  rw [valD_I, h]
  rfl
variable {f g k : FE} {ρ : Env}
theorem setd_v (hf : f ρ (s ++ [dI ps]) = .ok (.ref s.length) (s ++ [dI ps])) (hg : g ρ (s ++ [dI ps]) = .ok (.int c) (s ++ [dI ps])) (hk : k ρ (s ++ [dI ps]) = .ok (.int n) (s ++ [dI ps])) (hl : ps.length ≤ 1000) :
    mSetd f g k ρ (s ++ [dI ps]) = match vI ps c with
      | some v => .ok (.int v) (s ++ [dI ps])
      | none => .ok (.int n) (s ++ [dI (ps ++ [(c, n)])]) := by
  have hlt : (kI ps).length < lim := by rw [List.length_map]; unfold lim; omega
  unfold mSetd
  rw [hf, bind_ok, dctOf_s]
  dsimp only
  rw [hg, bind_ok, hk, bind_ok]
  show (match (s ++ [dI ps])[s.length]? with
      | some (.dct kws) => match valD kws (.inl c) with
        | some w => if kws.length < lim then R.ok w (s ++ [dI ps]) else .no
        | none => if kws.length < lim then R.ok (Dv.int n) ((s ++ [dI ps]).set s.length (.dct (putD kws (.inl c) (.int n)))) else .no
      | _ => .no) = _
  rw [at_s]
  dsimp only
  rw [valD_I]
  cases h : vI ps c with
  | some v => exact if_pos hlt
  | none =>
    show (if (kI ps).length < lim then R.ok (Dv.int n) ((s ++ [dI ps]).set s.length (.dct (putD (kI ps) (.inl c) (.int n)))) else .no) = _
    rw [if_pos hlt, putD_new h, set_s]
theorem get_v (hf : f ρ (s ++ [dI ps]) = .ok (.ref s.length) (s ++ [dI ps])) (hg : g ρ (s ++ [dI ps]) = .ok (.int c) (s ++ [dI ps])) (hk : k ρ (s ++ [dI ps]) = .ok (.int n) (s ++ [dI ps])) :
    mDGet2 f g k ρ (s ++ [dI ps]) = .ok (.int ((vI ps c).getD n)) (s ++ [dI ps]) := by
  unfold mDGet2
  rw [hf, bind_ok, dctOf_s]
  dsimp only
  rw [hg, bind_ok, hk, bind_ok, dctOf_s]
  show R.ok ((valD (kI ps) (.inl c)).getD (.int n)) (s ++ [dI ps]) = _
  rw [valD_I]
  cases vI ps c <;> rfl
theorem put_v (hf : f ρ (s ++ [dI ps]) = .ok (.ref s.length) (s ++ [dI ps])) (hg : g ρ (s ++ [dI ps]) = .ok (.int c) (s ++ [dI ps])) (hk : k ρ (s ++ [dI ps]) = .ok (.int n) (s ++ [dI ps])) (hl : ps.length ≤ 1000) :
    mDPut f g k ρ (s ++ [dI ps]) = .nx ρ (s ++ [.dct (putD (kI ps) (.inl c) (.int n))]) := by
  have hlt : (kI ps).length < lim := by rw [List.length_map]; unfold lim; omega
  unfold mDPut
  rw [hk, then_ok, hf, then_ok, hg, then_ok]
  show (match (s ++ [dI ps])[s.length]? with
    | some (.dct kws) => if kws.length < lim then C.nx ρ ((s ++ [dI ps]).set s.length (.dct (putD kws (.inl c) (.int n)))) else .no
    | _ => .no) = _
  rw [at_s]
  dsimp only
  rw [if_pos hlt, set_s]
theorem fin_snx {us : Sto} {x : Ex} (hs : Cl s) (h0 : us ≠ []) (h : clean s.length x.w = true) : finC s.length (.er x ρ (s ++ us)) = .er x s := by
  show finX s.length x (s ++ us) = _
  have hl : us.length ≠ 0 := fun z => h0 (List.length_eq_zero_iff.mp z)
  unfold finX
  have e : fz 4 (s ++ us) s.length x.w = some x.w := by unfold fz; rw [if_pos h]
  rw [if_neg (by rw [List.length_append]; omega), List.take_left' rfl, if_pos (hs _), e]
end
/-- one window more -/
def stF (ps : List (Int × Int)) (p : Int × Int) : Unit ⊕ List (Int × Int) := match vI ps p.1 with
  | some v => if v = p.2 then .inr ps else .inl ()
  | none => .inr (ps ++ [p])
end MP.PG
set_option Elab.async false
set_option linter.all false
set_option maxRecDepth 100000
set_option maxHeartbeats 1000000
namespace MP.PG
open PySem PySem.Spec MP
open PyProof.Rows hiding St
open L2 hiding St r1
theorem ne_ii {s : Sto} {i j : Int} : neD s (.int i) (.int j) = some (.bl (!decide (i = j))) := ne_of_eq eq_ii
def gI (ps : List (Int × Int)) (c : Int) : Int := (vI ps c).getD 0
def ruleF (ps : List (Int × Int)) (k : Nat) : List Int := (List.range k).map fun i : Nat => gI ps ((k : Int) - i) - gI ps ((k : Int) - i - 1)
def runF (row th : List Int) : Unit ⊕ List (Int × Int) := runG stF [(0, 0)] ((onesL row (row.length + 1 - th.length)).zip th)
def outT (row th : List Int) : Nat ⊕ List Int := if isG row th = true then match runF row th with
    | .inl _ => .inl 8
    | .inr ps => if ∀ i ∈ ruleF ps (row.length + 1 - th.length), -20 ≤ i ∧ i ≤ 20 then .inr (ruleF ps (row.length + 1 - th.length)) else .inl 8
  else .inl 4
theorem run_has : ∀ (l : List (Int × Int)) (ps0 ps : List (Int × Int)), runG stF ps0 l = .inr ps → (∀ c, (vI ps0 c).isSome = true → (vI ps c).isSome = true) ∧ ∀ p ∈ l, (vI ps p.1).isSome = true
  | [], ps0, ps, h => by
    cases h
    exact ⟨fun _ h => h, fun _ h => nomatch h⟩
  | p :: l, ps0, ps, h => by
    unfold runG at h
    cases hs : stF ps0 p with
    | inl w => rw [hs] at h; cases h
    | inr ps1 =>
      rw [hs] at h
      obtain ⟨h1, h2⟩ := run_has l ps1 ps h
      have k : (∀ c, (vI ps0 c).isSome = true → (vI ps1 c).isSome = true) ∧ (vI ps1 p.1).isSome = true := by
        unfold stF at hs
        cases hv : vI ps0 p.1 with
        | some v =>
          rw [hv] at hs
          dsimp only at hs
          split at hs
          · cases hs
            exact ⟨fun _ h => h, by rw [hv]; rfl⟩
          · cases hs
        | none =>
          rw [hv] at hs
          cases hs
          refine ⟨fun c hc => ?_, ?_⟩
          · rw [vI_app]
            cases hv2 : vI ps0 c with
            | some v => rfl
            | none => rw [hv2] at hc; cases hc
          · rw [vI_app, hv]
            dsimp only
            rw [if_pos rfl]
            rfl
      exact ⟨fun c hc => h1 c (k.1 c hc), fun q hq => by
        rcases List.mem_cons.mp hq with rfl | hq
        · exact h1 _ k.2
        · exact h2 q hq⟩
theorem mem_zip_l {α β : Type} {x : α} : ∀ {l : List α} {m : List β}, x ∈ l → l.length = m.length → ∃ y, (x, y) ∈ l.zip m
  | [], _, h, _ => nomatch h
  | a :: l, [], _, h => nomatch h
  | a :: l, b :: m, h, hl => by
    rcases List.mem_cons.mp h with rfl | h
    · exact ⟨b, List.mem_cons_self⟩
    · obtain ⟨y, hy⟩ := mem_zip_l h (Nat.succ.inj hl)
      exact ⟨y, List.mem_cons_of_mem _ hy⟩
theorem onesL_len {ns : List Int} {k : Nat} : (onesL ns k).length = ns.length + 1 - k := by unfold onesL winL; rw [List.length_map, List.length_map, List.length_range]
theorem isG_of {row th : List Int} (h : isG row th = true) : 1 ≤ th.length ∧ th.length ≤ row.length ∧ row.length + 1 - th.length ≤ 6 ∧ tellF row (row.length + 1 - th.length) = true := by
  unfold isG at h
  obtain ⟨h1, h2⟩ := Bool.and_eq_true_iff.mp h
  obtain ⟨a, b, c⟩ := of_decide_eq_true h1
  exact ⟨a, b, c, h2⟩
theorem run_at {row th : List Int} {ps : List (Int × Int)} (hg : isG row th = true) (h : runF row th = .inr ps) : ∀ i : Nat, i ≤ row.length + 1 - th.length → vI ps (i : Int) = some (gI ps (i : Int)) := by
  obtain ⟨g1, g2, g3, g4⟩ := isG_of hg
  obtain ⟨h1, h2⟩ := run_has _ _ _ h
  have key : ∀ i : Nat, i ≤ row.length + 1 - th.length → (vI ps (i : Int)).isSome = true := fun i hi => by
    cases i with
    | zero => exact h1 0 rfl
    | succ i =>
      have := List.all_eq_true.mp g4 i (List.mem_range.mpr (by omega))
      have hm : ((i : Int) + 1) ∈ onesL row (row.length + 1 - th.length) := by simpa using this
      obtain ⟨y, hy⟩ := mem_zip_l (m := th) hm (by rw [onesL_len]; omega)
      exact h2 _ hy
  intro i hi
  have := key i hi
  unfold gI
  cases hv : vI ps (i : Int) with
  | some v => rfl
  | none => rw [hv] at this; cases this
section
variable {s : Sto}
theorem rule_told_ok {row th : List Int} (hs : Cl s) (hr : Bt row) (ht : th.length ≤ 400) : g_rule_told [tI row, tI th] s = match outT row th with
    | .inl c => .er ⟨if c = 4 then 4 else 8, "value", tI th⟩ s
    | .inr rs => .ok (tI rs) s := by
  let E (x2 x3 x4 x5 x6 : Option Dv) : Env := [some (tI row), some (tI th), x2, x3, x4, x5, x6]
  have e0 : startD 7 [tI row, tI th] = E none none none none none := rfl
  have c1 : mExpr (mCall (g_need_bit_row) (mCons (mVar 0) mNil)) (E none none none none none) s = .nx (E none none none none none) s := expr_v (call_v (cons_v (w := tI row) rfl nil_ev) (need_bit_row_ok hr s))
  have hn := need_numbers_ok (s := s) (row := row) (th := th) hr.most ht
  have c2 : ∀ r, g_need_numbers [tI th, tI row] s = r → mCall (g_need_numbers) (mCons (mVar 1) (mCons (mVar 0) mNil)) (E none none none none none) s = r := fun r h => call_v (cons_v (w := tI th) rfl (cons_v (w := tI row) rfl nil_ev)) h
  unfold g_rule_told d_rule_told
  rw [den_ev, e0]
  refine fin_nx c1 ?_
  unfold outT
  by_cases hg : isG row th = true
  · rw [if_pos hg] at hn ⊢
    have hr200 := hr.most
    obtain ⟨g1, g2, g3, g4⟩ := isG_of hg
    have hat : ∀ ps, runF row th = .inr ps → ∀ i : Nat, i ≤ row.length + 1 - th.length → vI ps (i : Int) = some (gI ps (i : Int)) := fun ps h => run_at hg h
    have hzl : ((onesL row (row.length + 1 - th.length)).zip th).length ≤ 400 := by rw [List.length_zip]; omega
    unfold runF at hat ⊢
    generalize hkk : row.length + 1 - th.length = k at hn hat hzl g3 g4 ⊢
    have hk1 : 1 ≤ k := by omega
    let K : Option Dv := some (.int (k : Int))
    have a2 : mAsg (mCall (g_need_numbers) (mCons (mVar 1) (mCons (mVar 0) mNil))) (gN 2) (E none none none none none) s = .nx (E K none none none none) s := asg_v (w := .int (k : Int)) (c2 _ hn)
    let T : Option Dv := some (.ref s.length)
    have a3 : mAsg (mDctM [((mK (.int 0)), (mK (.int 0)))]) (gN 3) (E K none none none none) s = .nx (E K T none none none) (s ++ [dI [(0, 0)]]) := rfl
    have hF : F_rule_told_1 (E K T none none none) (s ++ [dI [(0, 0)]]) = .ok { ws := ((onesL row k).zip th).map fun p => .tup [.int p.1, .int p.2] } (s ++ [dI [(0, 0)]]) := by
      have h1 : mCons (mCall (g_ones_behind) (mCons (mVar 0) (mCons (mVar 2) mNil))) (mCons (mVar 1) mNil) (E K T none none none) (s ++ [dI [(0, 0)]]) = .ok [lI (onesL row k), tI th] (s ++ [dI [(0, 0)]]) :=
        cons_v (call_v (cons_v (w := tI row) rfl (cons_v (w := .int (k : Int)) rfl nil_ev)) (ones_behind_ok hr200 (by omega))) (cons_v rfl nil_ev)
      rw [← zip_ints]
      show iZip2 _ _ _ = _
      unfold iZip2
      rw [h1]
      rfl
    have R := for_runG (g := t_rule_told_1) (body := b_rule_told_1) (fun i ps ρ S => ∃ x4 x5 x6, ρ = E K T x4 x5 x6 ∧ S = s ++ [dI ps] ∧ ps.length ≤ i + 1) (fun (_ : Unit) c => ∃ ρ ps, c = .er ⟨8, "value", tI th⟩ ρ (s ++ [dI ps])) (fun w c ⟨ρ, ps, h⟩ => .inr ⟨_, _, _, h⟩) stF [(0, 0)] hF ⟨_, _, _, rfl, rfl, Nat.le_refl _⟩ fun i p hp ps ρ S ⟨x4, x5, x6, hρ, hS, hl⟩ => by
      subst hρ hS
      have hi : i < ((onesL row k).zip th).length := (List.getElem?_eq_some_iff.mp hp).1
      let E1 := E K T (some (.int p.1)) (some (.int p.2)) x6
      refine ⟨E1, rfl, ?_⟩
      have hset := setd_v (s := s) (ps := ps) (c := p.1) (n := p.2) (f := mVar 3) (g := mVar 4) (k := mVar 5) (ρ := E1) rfl rfl rfl (by omega)
      unfold stF
      cases hv : vI ps p.1 with
      | some v =>
        rw [hv] at hset
        dsimp only at hset ⊢
        have ht : mTest (mBin neD (mSetd (mVar 3) (mVar 4) (mVar 5)) (mVar 5)) E1 (s ++ [dI ps]) = .ok (!decide (v = p.2)) (s ++ [dI ps]) := test_v (bin_v (x := .int v) (y := .int p.2) hset rfl ne_ii)
        by_cases h : v = p.2
        · rw [if_pos h]
          rw [decide_eq_true h] at ht
          exact ⟨E1, s ++ [dI ps], (ifS_f ht).trans rfl, _, _, _, rfl, rfl, by omega⟩
        · rw [if_neg h]
          rw [decide_eq_false h] at ht
          exact ⟨E1, ps, (ifS_t ht).trans rfl⟩
      | none =>
        rw [hv] at hset
        dsimp only at hset ⊢
        have ht : mTest (mBin neD (mSetd (mVar 3) (mVar 4) (mVar 5)) (mVar 5)) E1 (s ++ [dI ps]) = .ok (!decide (p.2 = p.2)) (s ++ [dI (ps ++ [(p.1, p.2)])]) := test_v (bin_v (x := .int p.2) (y := .int p.2) hset rfl ne_ii)
        rw [decide_eq_true rfl] at ht
        exact ⟨E1, s ++ [dI (ps ++ [p])], (ifS_f ht).trans rfl, _, _, _, rfl, rfl, by rw [List.length_append, List.length_singleton]; omega⟩
    have hcl : clean s.length (tI th) = true := cleans_int _ th
    refine fin_nx a2 (fin_nx a3 ?_)
    cases hrun : runG stF [(0, 0)] ((onesL row k).zip th) with
    | inl u =>
      rw [hrun] at R
      obtain ⟨ρ', ps, h⟩ := R
      exact fin_erS h (fin_snx hs (by simp) hcl)
    | inr ps =>
      rw [hrun] at R
      obtain ⟨ρ', S', h, x4, x5, x6, rfl, rfl, hl⟩ := R
      have hat := hat ps hrun
      dsimp only
      refine fin_nx h ?_
      have hR : cF_rule_told_1 (E K T x4 x5 x6) (s ++ [dI ps]) = .ok { ws := (List.range k).map fun i : Nat => .int ((k : Int) - i) } (s ++ [dI ps]) := by
        show iRevR2 (mK (.int 1)) (mBin addD (mVar 2) (mK (.int 1))) _ _ = _
        unfold iRevR2
        rw [k_ev, bind_ok, bin_v (x := .int (k : Int)) (y := .int 1) (z := .int ((k : Int) + 1)) (f := mVar 2) (g := mK (.int 1)) rfl k_ev add_ii, bind_ok]
        dsimp only
        rw [if_pos ⟨by decide, okR_s (by omega) (by omega)⟩]
        unfold rngR
        rw [show ((k : Int) + 1 - 1).toNat = k by omega, show (k : Int) + 1 - 1 = k by omega]
      have hc := comp_mapA (vs := [4]) (g := ct_rule_told_1) (elt := ce_rule_told_1) (fun i : Nat => Dv.int (gI ps ((k : Int) - i) - gI ps ((k : Int) - i - 1))) hR (by rw [List.length_range]; unfold lim; omega) fun i hi => ⟨E K T (some (.int ((k : Int) - i))) x5 x6, rfl, by
        have hi' := List.mem_range.mp hi
        have q1 := hat (k - i) (by omega)
        have q2 := hat (k - i - 1) (by omega)
        rw [Int.natCast_sub (by omega)] at q1
        rw [Int.natCast_sub (by omega), Int.natCast_sub (by omega)] at q2
        exact bin_v (bin_v (x := .ref s.length) (y := .int ((k : Int) - i)) rfl rfl (ix_I q1)) (bin_v (x := .ref s.length) (y := .int ((k : Int) - i - 1)) rfl (bin_v (x := .int ((k : Int) - i)) (y := .int 1) rfl k_ev sub_ev) (ix_I q2)) sub_ev⟩
      have e : ((List.range k).map fun i : Nat => Dv.int (gI ps ((k : Int) - i) - gI ps ((k : Int) - i - 1))) = (ruleF ps k).map .int := by unfold ruleF; rw [List.map_map]; rfl
      rw [e] at hc
      have a4 : mAsg (mBlt tupleD (mCons (mComp cF_rule_told_1 [4] ct_rule_told_1 ci_rule_told_1 ce_rule_told_1) mNil)) (gN 6) (E K T x4 x5 x6) (s ++ [dI ps]) = .nx (E K T x4 x5 (some (tI (ruleF ps k)))) (s ++ [dI ps]) :=
        asg_v (w := tI (ruleF ps k)) (blt_v (cons_v hc nil_ev) tuple_lst)
      have hrl : (ruleF ps k).length = k := by unfold ruleF; rw [List.length_map, List.length_range]
      have u : mTest (mCall (g_is_rule) (mCons (mVar 6) mNil)) (E K T x4 x5 (some (tI (ruleF ps k)))) (s ++ [dI ps]) = .ok (decide (∀ i ∈ ruleF ps k, -20 ≤ i ∧ i ≤ 20)) (s ++ [dI ps]) :=
        test_v (call_v (cons_v (w := tI (ruleF ps k)) rfl nil_ev) (is_rule_ok (by omega) (by omega) _))
      refine fin_nx a4 ?_
      by_cases hok : ∀ i ∈ ruleF ps k, -20 ≤ i ∧ i ≤ 20
      · rw [decide_eq_true hok] at u
        rw [if_pos hok]
        refine fin_nx (ρ1 := E K T x4 x5 (some (tI (ruleF ps k)))) (s1 := s ++ [dI ps]) ((ifS_f (not_vt u)).trans rfl) ?_
        exact (congrArg (finC _) (ret_v (w := tI (ruleF ps k)) rfl)).trans (fin_sn hs (by simp) (by unfold fz; rw [if_pos (show clean s.length (tI (ruleF ps k)) = true from cleans_int _ _)]))
      · rw [decide_eq_false hok] at u
        rw [if_neg hok]
        exact fin_erS (x := ⟨8, "value", tI th⟩) (ρ1 := E K T x4 x5 (some (tI (ruleF ps k)))) (s1 := s ++ [dI ps]) ((ifS_t (not_vf u)).trans rfl) (fin_snx hs (by simp) hcl)
  · rw [if_neg hg] at hn ⊢
    exact fin_erS (x := ⟨4, "value", tI th⟩) (asg_er (c2 _ hn)) finC_er
end
end MP.PG
set_option Elab.async false
set_option linter.all false
set_option maxRecDepth 100000
set_option maxHeartbeats 1000000
namespace MP.PG
open PySem PySem.Spec MP
open PyProof.Rows hiding St
open L2 hiding St r1
abbrev mD (rules : List (List Int)) : Dv := .tup (rules.map tI)
abbrev pD (p : List Int × Int) : Dv := .tup [tI p.1, .int p.2]
abbrev sD (ps : List (List Int × Int)) : Dv := .tup (ps.map pD)
structure Menu (rules : List (List Int)) : Prop where
  one : 1 ≤ rules.length
  most : rules.length ≤ 20
  ok : ∀ r ∈ rules, Rule r
structure Seen (ps : List (List Int × Int)) : Prop where
  most : ps.length ≤ 50
  ok : ∀ p ∈ ps, Row p.1
def fitB (ps : List (List Int × Int)) (rs : List Int) : Bool := ps.all fun p => decide (rs.length ≤ p.1.length) && decide (idx rs p.1 = p.2)
def fitL (ps : List (List Int × Int)) (rules : List (List Int)) : List Nat := (List.range rules.length).filter fun k => fitB ps (rules.getD k [])
def fitsL (ps : List (List Int × Int)) (rules : List (List Int)) : List (List Int) := (fitL ps rules).map fun k => rules.getD k []
section
variable {s : Sto} {rules : List (List Int)} {ps : List (List Int × Int)}
theorem all_comp {α : Type} {f : FI} {vs : List Nat} {g : FG} {elt : FE} {ρ : Env} {l : List α} {e : α → Dv} (hf : f ρ s = .ok { ws := l.map e } s) (hl : l.length ≤ 1000) (h : ∀ a ∈ l, ∃ ρ1, g (e a) (wipeD ρ vs) s = some ρ1 ∧ elt ρ1 s = .ok (.bl true) s) :
    mTest (mBlt allD (mCons (mComp f vs g mYes elt) mNil)) ρ s = .ok true s := by
  have hc := comp_mapA (vs := vs) (g := g) (elt := elt) (fun _ : α => Dv.bl true) hf (by unfold lim; omega) h
  refine test_v (blt_v (cons_v hc nil_ev) ((all_bls (φ := fun _ => true) l).trans ?_))
  congr 2
  exact List.all_eq_true.mpr fun _ _ => rfl
theorem need_menu_ok (h : Menu rules) : g_need_menu [mD rules] s = .ok (mD rules) s := by
  let E (x : Option Dv) : Env := [some (mD rules), x]
  have e0 : startD 2 [mD rules] = E none := rfl
  have h1 := h.one
  have h2 := h.most
  have c1 : mTest (mCall (g_is_tuple) (mCons (mVar 0) (mCons (mK (.int 1)) (mCons (mK (.int 20)) mNil)))) (E none) s = .ok true s := by
    refine test_v (call_v (cons_v (w := mD rules) rfl (cons_v (w := .int 1) rfl (cons_v (w := .int 20) rfl nil_ev))) ?_)
    rw [is_tuple_tup, List.length_map, decide_eq_true (by omega), decide_eq_true (by omega)]
    rfl
  have c2 : mTest (mBlt allD (mCons (mComp cF_need_menu_1 [1] ct_need_menu_1 ci_need_menu_1 ce_need_menu_1) mNil)) (E none) s = .ok true s :=
    all_comp (l := rules) (e := tI) rfl (by omega) fun r hr => ⟨E (some (tI r)), rfl, by
      have := h.ok r hr
      refine call_v (cons_v (w := tI r) rfl nil_ev) ?_
      rw [is_rule_ok this.one this.six, decide_eq_true this.ok]⟩
  unfold g_need_menu d_need_menu
  rw [den_ev, e0]
  refine fin_nx (ρ1 := E none) (s1 := s) ((ifS_f (or_f (not_vt c1) (not_vt c2))).trans rfl) ?_
  exact finC_rt
theorem seen_pair_ok {p : List Int × Int} (h : Row p.1) : g_is_seen_pair [pD p] s = .ok (.bl true) s := by
  have h1 := is_row_ok h s
  have h2 : ixA s (pD p) (.int 0) = some (tI p.1) := ix_tup0
  have h3 : ixA s (pD p) (.int 1) = some (.int p.2) := ix_tup1
  simp [g_is_seen_pair, d_is_seen_pair, is_tuple_tup, h1, h2, h3, is_int_int]
theorem need_seen_ok (h : Seen ps) : g_need_seen [sD ps] s = .ok (sD ps) s := by
  let E (x : Option Dv) : Env := [some (sD ps), x]
  have e0 : startD 2 [sD ps] = E none := rfl
  have h2 := h.most
  have c1 : mTest (mCall (g_is_tuple) (mCons (mVar 0) (mCons (mK (.int 0)) (mCons (mK (.int 50)) mNil)))) (E none) s = .ok true s := by
    refine test_v (call_v (cons_v (w := sD ps) rfl (cons_v (w := .int 0) rfl (cons_v (w := .int 50) rfl nil_ev))) ?_)
    rw [is_tuple_tup, List.length_map, decide_eq_true (by omega), decide_eq_true (by omega)]
    rfl
  have c2 : mTest (mBlt allD (mCons (mComp cF_need_seen_1 [1] ct_need_seen_1 ci_need_seen_1 ce_need_seen_1) mNil)) (E none) s = .ok true s :=
    all_comp (l := ps) (e := pD) rfl (by omega) fun p hp => ⟨E (some (pD p)), rfl, call_v (cons_v (w := pD p) rfl nil_ev) (seen_pair_ok (h.ok p hp))⟩
  unfold g_need_seen d_need_seen
  rw [den_ev, e0]
  refine fin_nx (ρ1 := E none) (s1 := s) ((ifS_f (or_f (not_vt c1) (not_vt c2))).trans rfl) ?_
  exact finC_rt
/-- one thing seen -/
def fitS (rs : List Int) (_ : Unit) (p : List Int × Int) : Dv ⊕ Unit := if rs.length ≤ p.1.length ∧ idx rs p.1 = p.2 then .inr () else .inl (.bl false)
theorem fit_run {rs : List Int} : ∀ ps : List (List Int × Int), runL (fitS rs) () ps = if fitB ps rs = true then .inr () else .inl (.bl false)
  | [] => rfl
  | p :: ps => by
    have ih := fit_run (rs := rs) ps
    have e : fitB (p :: ps) rs = ((decide (rs.length ≤ p.1.length) && decide (idx rs p.1 = p.2)) && fitB ps rs) := rfl
    by_cases h : rs.length ≤ p.1.length ∧ idx rs p.1 = p.2
    · rw [e, decide_eq_true h.1, decide_eq_true h.2, Bool.true_and, Bool.true_and, ← ih]
      simp only [runL, fitS, if_pos h]
    · have e2 : (decide (rs.length ≤ p.1.length) && decide (idx rs p.1 = p.2)) = false := by
        rw [← Bool.decide_and]
        exact decide_eq_false h
      rw [e, e2, Bool.false_and, if_neg Bool.false_ne_true]
      simp only [runL, fitS, if_neg h]
theorem does_fit_ok {rs : List Int} (hr : Rule rs) (h : Seen ps) : g_does_fit [tI rs, sD ps] s = .ok (.bl (fitB ps rs)) s := by
  let E (x2 x3 : Option Dv) : Env := [some (tI rs), some (sD ps), x2, x3]
  have e0 : startD 4 [tI rs, sD ps] = E none none := rfl
  have R := for_run (g := t_does_fit_1) (body := b_does_fit_1) (F := F_does_fit_1) (ρ := E none none) (s0 := s) (s := s) (l := ps) (e := pD) (fun (_ : Unit) ρ => ∃ x2 x3, ρ = E x2 x3) (fitS rs) () rfl ⟨_, _, rfl⟩ fun p hp _ ρ ⟨x2, x3, hρ⟩ => by
    subst hρ
    have hrow := h.ok p hp
    let E1 := E (some (tI p.1)) (some (.int p.2))
    refine ⟨E1, rfl, ?_⟩
    have u1 : mTest (mBin ltD (mBlt lenD (mCons (mVar 2) mNil)) (mBlt lenD (mCons (mVar 0) mNil))) E1 s = .ok (decide ((p.1.length : Int) < rs.length)) s :=
      test_v (bin_v (x := .int (p.1.length : Int)) (y := .int (rs.length : Int)) (blt_v (cons_v (w := tI p.1) rfl nil_ev) (by rw [tI, len_tup, List.length_map])) (blt_v (cons_v (w := tI rs) rfl nil_ev) (by rw [tI, len_tup, List.length_map])) lt_ii)
    unfold fitS
    by_cases h1 : rs.length ≤ p.1.length
    · rw [decide_eq_false (by omega)] at u1
      have u2 : mTest (mBin neD (mCall (g_index_of) (mCons (mVar 0) (mCons (mVar 2) mNil))) (mVar 3)) E1 s = .ok (!decide (idx rs p.1 = p.2)) s :=
        test_v (bin_v (x := .int (idx rs p.1)) (y := .int p.2) (call_v (cons_v (w := tI rs) rfl (cons_v (w := tI p.1) rfl nil_ev)) (index_of_ok hr hrow.most h1 s)) rfl ne_ii)
      by_cases h2 : idx rs p.1 = p.2
      · rw [decide_eq_true h2] at u2
        rw [if_pos ⟨h1, h2⟩]
        exact ⟨E1, (ifS_f (or_f u1 u2)).trans rfl, _, _, rfl⟩
      · rw [decide_eq_false h2] at u2
        rw [if_neg fun z => h2 z.2]
        exact (ifS_t (or_f u1 u2)).trans rfl
    · rw [decide_eq_true (by omega)] at u1
      rw [if_neg fun z => h1 z.1]
      exact (ifS_t (or_t u1)).trans rfl
  rw [fit_run] at R
  unfold g_does_fit d_does_fit
  rw [den_ev, e0]
  cases hb : fitB ps rs with
  | true =>
    rw [hb, if_pos rfl] at R
    obtain ⟨ρ', h1, x2, x3, rfl⟩ := R
    exact fin_nx h1 finC_rt
  | false =>
    rw [hb, if_neg Bool.false_ne_true] at R
    exact fin_rtS R finC_rt
theorem getD_at {k : Nat} (hk : k < rules.length) : rules.getD k [] = rules[k] := by
  rw [List.getD_eq_getElem?_getD, List.getElem?_eq_getElem hk]
  rfl
theorem enum_m : enumD 0 (rules.map tI) = (List.range rules.length).map fun k : Nat => .tup [.int (k : Int), tI (rules.getD k [])] := by
  refine List.ext_getElem? fun i => ?_
  rw [List.getElem?_map]
  by_cases hi : i < rules.length
  · have hl : i < (enumD 0 (rules.map tI)).length := by rw [enumD_len, List.length_map]; exact hi
    rw [List.getElem?_range hi, List.getElem?_eq_getElem hl]
    obtain ⟨w, hw, e⟩ := enumD_get (List.getElem?_eq_getElem hl)
    rw [e, Nat.zero_add]
    rw [List.getElem?_map, List.getElem?_eq_getElem hi] at hw
    cases hw
    show _ = some (Dv.tup [.int (i : Int), tI (rules.getD i [])])
    rw [getD_at hi]
  · rw [List.getElem?_eq_none (by rw [enumD_len, List.length_map]; omega), List.getElem?_eq_none (by rw [List.length_range]; omega)]
    rfl
theorem getD_mem {k : Nat} (hk : k < rules.length) : rules.getD k [] ∈ rules := by
  rw [getD_at hk]
  exact List.getElem_mem hk
theorem fitting_ok (hm : Menu rules) (h : Seen ps) : g_fitting [mD rules, sD ps] s = .ok (.tup ((fitL ps rules).map fun k : Nat => .int (k : Int))) s := by
  let E (x2 x3 : Option Dv) : Env := [some (mD rules), some (sD ps), x2, x3]
  have e0 : startD 4 [mD rules, sD ps] = E none none := rfl
  have hF : cF_fitting_1 (E none none) s = .ok { ws := (List.range rules.length).map fun k : Nat => .tup [.int (k : Int), tI (rules.getD k [])] } s := by
    show R.ok (α := Src) { ws := enumD 0 (rules.map tI) } s = _
    rw [enum_m]
  have hc : mComp cF_fitting_1 [2, 3] ct_fitting_1 ci_fitting_1 ce_fitting_1 (E none none) s = .ok (.lst ((fitL ps rules).map fun k : Nat => .int (k : Int))) s :=
    comp_filt (vs := [2, 3]) (g := ct_fitting_1) (tt := ci_fitting_1) (elt := ce_fitting_1) (fun k : Nat => Dv.int (k : Int)) (fun k => fitB ps (rules.getD k [])) hF (by rw [List.length_range]; have := hm.most; unfold lim; omega) fun k hk => ⟨E (some (.int (k : Int))) (some (tI (rules.getD k []))), rfl, test_v (call_v (cons_v (w := tI (rules.getD k [])) rfl (cons_v (w := sD ps) rfl nil_ev)) (does_fit_ok (hm.ok _ (getD_mem (List.mem_range.mp hk))) h)), fun _ => rfl⟩
  unfold g_fitting d_fitting
  rw [den_ev, e0]
  refine fin_nx (ρ1 := E none none) (s1 := s) (expr_v (call_v (cons_v (w := mD rules) rfl nil_ev) (need_menu_ok hm))) (fin_nx (ρ1 := E none none) (s1 := s) (expr_v (call_v (cons_v (w := sD ps) rfl nil_ev) (need_seen_ok h))) ?_)
  exact (congrArg (finC _) (ret_v (blt_v (cons_v hc nil_ev) tuple_lst))).trans finC_rt
end
end MP.PG
set_option Elab.async false
set_option linter.all false
set_option maxRecDepth 100000
set_option maxHeartbeats 1000000
namespace MP.PG
open PySem PySem.Spec MP
open PyProof.Rows hiding St
open L2 hiding St r1
theorem intsOf_I : ∀ l : List Int, intsOf (l.map .int) = some l
  | [] => rfl
  | a :: l => by
    have := intsOf_I l
    unfold intsOf at this ⊢
    simp only [List.map_cons, mapO, this]
    rfl
theorem allInt_I : ∀ l : List Int, allInt (l.map .int) = true
  | [] => rfl
  | _ :: l => allInt_I l
def fstI (i : Int) : List Int → Nat
  | [] => 0
  | a :: l => if a = i then 0 else fstI i l + 1
theorem firstI_fst {i : Int} : ∀ {l : List Int} (j : Nat), i ∈ l → firstI i j (l.map .int) = some (j + fstI i l)
  | [], _, h => nomatch h
  | a :: l, j, h => by
    show (if a = i then some j else firstI i (j + 1) (l.map .int)) = _
    unfold fstI
    by_cases e : a = i
    · rw [if_pos e, if_pos e]; rfl
    · have hm : i ∈ l := by
        rcases List.mem_cons.mp h with rfl | h
        · exact absurd rfl e
        · exact h
      rw [if_neg e, if_neg e, firstI_fst (j + 1) hm]
      congr 1
      omega
theorem fst_at {i : Int} : ∀ {l : List Int}, i ∈ l → l[fstI i l]? = some i ∧ ∀ k, k < fstI i l → l[k]? ≠ some i
  | [], h => nomatch h
  | a :: l, h => by
    unfold fstI
    by_cases e : a = i
    · rw [if_pos e]
      exact ⟨congrArg some e, fun k hk => absurd hk (Nat.not_lt_zero k)⟩
    · have hm : i ∈ l := by
        rcases List.mem_cons.mp h with rfl | h
        · exact absurd rfl e
        · exact h
      rw [if_neg e]
      obtain ⟨h1, h2⟩ := fst_at hm
      refine ⟨h1, fun k hk => ?_⟩
      cases k with
      | zero => exact fun z => e (Option.some.inj z)
      | succ k => exact h2 k (by omega)
section
variable {s : Sto}
theorem max_I {l : List Int} (h : l ≠ []) : maxLD s [lI l] = some (.int (maxO 0 l)) := by
  cases l with
  | nil => exact absurd rfl h
  | cons a l =>
    show (match intsOf ((a :: l).map .int) with
      | some (n :: ns) => some (Dv.int (maxO 0 (n :: ns)))
      | _ => none) = _
    rw [intsOf_I]
theorem min_I {l : List Int} (h : l ≠ []) : minLD s [lI l] = some (.int (minO 0 l)) := by
  cases l with
  | nil => exact absurd rfl h
  | cons a l =>
    show (match intsOf ((a :: l).map .int) with
      | some (n :: ns) => some (Dv.int (minO 0 (n :: ns)))
      | _ => none) = _
    rw [intsOf_I]
theorem maxO_in {l : List Int} (h : l ≠ []) : maxO 0 l ∈ l ∧ ∀ y ∈ l, y ≤ maxO 0 l := by
  cases l with
  | nil => exact absurd rfl h
  | cons a l =>
    obtain ⟨h1, h2⟩ := foldl_max_le l a
    exact ⟨foldl_max_mem l a, fun y hy => by
      rcases List.mem_cons.mp hy with rfl | hy
      · exact h1
      · exact h2 y hy⟩
theorem minO_in {l : List Int} (h : l ≠ []) : minO 0 l ∈ l ∧ ∀ y ∈ l, minO 0 l ≤ y := by
  cases l with
  | nil => exact absurd rfl h
  | cons a l =>
    obtain ⟨h1, h2⟩ := foldl_min_le l a
    exact ⟨foldl_min_mem l a, fun y hy => by
      rcases List.mem_cons.mp hy with rfl | hy
      · exact h1
      · exact h2 y hy⟩
variable {f g : FE} {ρ : Env}
theorem count_v {l : List Int} {i : Int} (hf : f ρ s = .ok (lI l) s) (hg : g ρ s = .ok (.int i) s) : mCount f g ρ s = .ok (.int (l.count i : Nat)) s := by
  unfold mCount
  rw [hf, bind_ok]
  show R.bind (g ρ s) _ = _
  rw [hg, bind_ok]
  show (match intsOf (l.map .int) with
    | some ns => R.ok (Dv.int (ns.count i : Nat)) s
    | none => .no) = _
  rw [intsOf_I]
theorem index_v {l : List Int} {i : Int} (hi : i ∈ l) (hf : f ρ s = .ok (lI l) s) (hg : g ρ s = .ok (.int i) s) : mIndex f g ρ s = .ok (.int (fstI i l : Nat)) s := by
  unfold mIndex
  rw [hf, bind_ok]
  show R.bind (g ρ s) _ = _
  rw [hg, bind_ok]
  show (if allInt (l.map .int) = true then _ else _) = _
  rw [if_pos (allInt_I _), firstI_fst 0 hi, Nat.zero_add]
theorem ix_lf {n k : Nat} {φ : Nat → Int} (hk : k < n) : ixA s (lI (lf n φ)) (.int (k : Int)) = some (.int (φ k)) :=
  ixA_list (ws := (lf n φ).map .int) rfl (MP.PG.atI_nat (by rw [List.getElem?_map, lf_get hk]; rfl))
def ixs (F : List (List Int)) (n : Nat) : List Int := F.map fun rs => idb rs (pop (n % 2 ^ rs.length))
def lotF (F : List (List Int)) (n : Nat) : Int := maxO 0 ((ixs F n).map fun i => ((ixs F n).count i : Int))
def wdF (F : List (List Int)) : Nat := (maxO 0 (F.map fun rs => (rs.length : Int))).toNat
theorem wdF_ok {F : List (List Int)} (h0 : F ≠ []) (h : ∀ rs ∈ F, Rule rs) : maxO 0 (F.map fun rs => (rs.length : Int)) = (wdF F : Int) ∧ wdF F ≤ 6 ∧ ∀ rs ∈ F, rs.length ≤ wdF F := by
  obtain ⟨h1, h2⟩ := maxO_in (l := F.map fun rs => (rs.length : Int)) (by simp [h0])
  obtain ⟨r, hr, e⟩ := List.mem_map.mp h1
  have := (h r hr).six
  unfold wdF
  refine ⟨by omega, by omega, fun rs hrs => ?_⟩
  have := h2 _ (List.mem_map_of_mem (f := fun rs : List Int => (rs.length : Int)) hrs)
  omega
theorem lots_ok {F : List (List Int)} (hs : Cl s) (h0 : F ≠ []) (hF20 : F.length ≤ 20) (h : ∀ rs ∈ F, Rule rs) : g_lots_by_row [.lst (F.map tI)] s = .ok (lI (lf (2 ^ wdF F) (lotF F))) s := by
  obtain ⟨w1, w2, w3⟩ := wdF_ok h0 h
  have w4 : 2 ^ wdF F ≤ 64 := Nat.pow_le_pow_right (show 0 < 2 by decide) w2
  let R : Option Dv := some (.lst (F.map tI))
  let E (x1 x2 x3 x4 x5 x6 x7 x8 x9 : Option Dv) : Env := [R, x1, x2, x3, x4, x5, x6, x7, x8, x9]
  have e0 : startD 10 [.lst (F.map tI)] = E none none none none none none none none none := rfl
  let O : Option Dv := some (lI (lf (2 ^ wdF F) fun i => (pop i : Int)))
  have hc1 := comp_mapA (vs := [6]) (g := ct_lots_by_row_1) (elt := ce_lots_by_row_1) (f := cF_lots_by_row_1) (ρ := E none none none none none none none none none) (s := s) (l := F) (e := tI) (fun rs : List Int => Dv.int (rs.length : Int)) rfl (by unfold lim; omega) fun rs _ => ⟨E none none none none none (some (tI rs)) none none none, rfl, blt_v (cons_v (w := tI rs) rfl nil_ev) (by rw [tI, len_tup, List.length_map])⟩
  have eL : (F.map fun rs => Dv.int (rs.length : Int)) = (F.map fun rs => (rs.length : Int)).map .int := by rw [List.map_map]; rfl
  rw [eL] at hc1
  have a1 : mAsg (mCall (g_ones_of) (mCons (mBlt maxLD (mCons (mComp cF_lots_by_row_1 [6] ct_lots_by_row_1 ci_lots_by_row_1 ce_lots_by_row_1) mNil)) mNil)) (gN 1) (E none none none none none none none none none) s = .nx (E O none none none none none none none none) s := by
    refine asg_v (w := lI (lf (2 ^ wdF F) fun i => (pop i : Int))) (call_v (cons_v (w := .int (wdF F : Int)) (blt_v (cons_v hc1 nil_ev) ?_) nil_ev) (ones_ok (by omega)))
    have := max_I (s := s) (l := F.map fun rs => (rs.length : Int)) (by simp [h0])
    rw [w1] at this
    exact this
  have ln6 : ∀ (rs : List Int) x1 x2 x3 x4 x5 x7 x8 x9, mBlt lenD (mCons (mVar 6) mNil) (E x1 x2 x3 x4 x5 (some (tI rs)) x7 x8 x9) s = .ok (.int (rs.length : Int)) s := fun rs _ _ _ _ _ _ _ _ => blt_v (cons_v (w := tI rs) rfl nil_ev) (by rw [tI, len_tup, List.length_map])
  let tb : List Int → Dv := fun rs => .tup [lI (lf (rs.length + 1) (idb rs)), .int ((2 ^ rs.length : Nat) : Int)]
  let T : Option Dv := some (.lst (F.map tb))
  have hc2 := comp_mapA (vs := [6]) (g := ct_lots_by_row_2) (elt := ce_lots_by_row_2) (f := cF_lots_by_row_2) (ρ := E O none none none none none none none none) (s := s) (l := F) (e := tI) tb rfl (by unfold lim; omega) fun rs hrs => ⟨E O none none none none (some (tI rs)) none none none, rfl, by
    have := (h rs hrs).six
    have hm : mCall (g_many_of) (mCons (mK (.int 2)) (mCons (mBlt lenD (mCons (mVar 6) mNil)) mNil)) (E O none none none none (some (tI rs)) none none none) s = .ok (.int ((2 ^ rs.length : Nat) : Int)) s :=
      call_v (cons_v (w := .int ((2 : Nat) : Int)) rfl (cons_v (w := .int (rs.length : Int)) (ln6 rs _ _ _ _ _ _ _ _) nil_ev)) (many_ok (by decide) (by omega))
    have ht : mCall (g_indexes_by_ones) (mCons (mVar 6) mNil) (E O none none none none (some (tI rs)) none none none) s = .ok (lI (lf (rs.length + 1) (idb rs))) s := call_v (cons_v (w := tI rs) rfl nil_ev) (told_ok hs (by omega))
    exact tup_v (cons_v ht (cons_v hm nil_ev)) (by show 2 ≤ 1000000; decide)⟩
  have a2 : mAsg (mComp cF_lots_by_row_2 [6] ct_lots_by_row_2 ci_lots_by_row_2 ce_lots_by_row_2) (gN 2) (E O none none none none none none none none) s = .nx (E O T none none none none none none none) s := asg_v hc2
  let L : Option Dv := some (.ref s.length)
  let S : Nat → Sto := fun i => s ++ [.lst ((lf i (lotF F)).map .int)]
  have a3 : mAsg (mLstM mNil) (gN 3) (E O T none none none none none none none) s = .nx (E O T L none none none none none none) (S 0) := by
    rw [asgN_ev, lstM_ev, nil_ev, bind_ok, if_pos (by show 0 ≤ lim; unfold lim; decide), then_ok]
    rfl
  have hF : F_lots_by_row_1 (E O T L none none none none none none) (S 0) = .ok { ws := rng 0 (2 ^ wdF F) } (S 0) := by
    have := range1_ok (fa := mCons (mBlt lenD (mCons (mVar 1) mNil)) mNil) (ρ := E O T L none none none none none none) (s := S 0) (j := ((2 ^ wdF F : Nat) : Int)) (cons_v (blt_v (cons_v (w := lI (lf (2 ^ wdF F) fun i => (pop i : Int))) rfl nil_ev) (by rw [lI, len_lst, List.length_map, lf_len])) nil_ev) (okR_s (Int.le_trans (by decide) (Int.natCast_nonneg _)) (Int.le_trans (Int.ofNat_le.mpr w4) (by decide)))
    rw [Int.toNat_natCast] at this
    exact this
  obtain ⟨ρ', s', f1, rfl, x4, x5, x6, x7, x8, x9, rfl⟩ := for_ix (g := t_lots_by_row_1) (body := b_lots_by_row_1)
    (fun i ρ s' => s' = S i ∧ ∃ x4 x5 x6 x7 x8 x9, ρ = E O T L x4 x5 x6 x7 x8 x9) hF ⟨rfl, _, _, _, _, _, _, rfl⟩ fun i x ρ s' hx hJ => by
      obtain ⟨rfl, x4, x5, x6, x7, x8, x9, rfl⟩ := hJ
      obtain ⟨hi, rfl⟩ := rng_get hx
      have hi' : i < 2 ^ wdF F := hi
      rw [Int.zero_add]
      let N : Option Dv := some (.int (i : Int))
      let X : Option Dv := some (lI (ixs F i))
      have hc3 := comp_mapA (vs := [7, 8]) (g := ct_lots_by_row_3) (elt := ce_lots_by_row_3) (f := cF_lots_by_row_3) (ρ := E O T L N x5 x6 x7 x8 x9) (s := S i) (l := F) (e := tb) (fun rs : List Int => Dv.int (idb rs (pop (i % 2 ^ rs.length)))) rfl (by unfold lim; omega) fun rs hrs => ⟨E O T L N x5 x6 (some (lI (lf (rs.length + 1) (idb rs)))) (some (.int ((2 ^ rs.length : Nat) : Int))) x9, rfl, by
        have hl := w3 rs hrs
        have hp : 0 < 2 ^ rs.length := Nat.pow_pos (by decide)
        have hm : i % 2 ^ rs.length < 2 ^ rs.length := Nat.mod_lt _ hp
        have hm2 : i % 2 ^ rs.length < 2 ^ wdF F := Nat.lt_of_le_of_lt (Nat.mod_le _ _) hi'
        have := pop_le rs.length hm
        exact bin_v (x := lI (lf (rs.length + 1) (idb rs))) (y := .int (pop (i % 2 ^ rs.length) : Int)) rfl (bin_v (x := lI (lf (2 ^ wdF F) fun i => (pop i : Int))) (y := .int ((i % 2 ^ rs.length : Nat) : Int)) rfl (bin_v (x := .int (i : Int)) (y := .int ((2 ^ rs.length : Nat) : Int)) rfl rfl (mod_nn hp)) (ix_lf (φ := fun i => (pop i : Int)) hm2)) (ix_lf (φ := idb rs) (by omega))⟩
      have e3 : (F.map fun rs => Dv.int (idb rs (pop (i % 2 ^ rs.length)))) = (ixs F i).map .int := by unfold ixs; rw [List.map_map]; rfl
      rw [e3] at hc3
      have b1 : mAsg (mComp cF_lots_by_row_3 [7, 8] ct_lots_by_row_3 ci_lots_by_row_3 ce_lots_by_row_3) (gN 5) (E O T L N x5 x6 x7 x8 x9) (S i) = .nx (E O T L N X x6 x7 x8 x9) (S i) := asg_v (w := lI (ixs F i)) hc3
      have hc4 := comp_mapA (vs := [9]) (g := ct_lots_by_row_4) (elt := ce_lots_by_row_4) (f := cF_lots_by_row_4) (ρ := E O T L N X x6 x7 x8 x9) (s := S i) (l := ixs F i) (e := .int) (fun j : Int => Dv.int ((ixs F i).count j : Nat)) rfl (by unfold ixs; rw [List.length_map]; unfold lim; omega) fun j _ => ⟨E O T L N X x6 x7 x8 (some (.int j)), rfl, count_v (l := ixs F i) rfl rfl⟩
      have e4 : ((ixs F i).map fun j => Dv.int ((ixs F i).count j : Nat)) = ((ixs F i).map fun j => ((ixs F i).count j : Int)).map .int := by rw [List.map_map]; rfl
      rw [e4] at hc4
      have b2 : mBlt maxLD (mCons (mComp cF_lots_by_row_4 [9] ct_lots_by_row_4 ci_lots_by_row_4 ce_lots_by_row_4) mNil) (E O T L N X x6 x7 x8 x9) (S i) = .ok (.int (lotF F i)) (S i) :=
        blt_v (cons_v hc4 nil_ev) (max_I (by unfold ixs; simp [h0]))
      refine ⟨E O T L N x5 x6 x7 x8 x9, E O T L N X x6 x7 x8 x9, S (i + 1), rfl, .inl ?_, rfl, _, _, _, _, _, _, rfl⟩
      unfold b_lots_by_row_1
      refine seq_nx b1 ?_
      rw [expr_v (app_s (v := .int (lotF F i)) (by rw [List.length_map, lf_len]; omega) rfl b2)]
      show C.nx _ _ = C.nx _ (s ++ [.lst ((lf (i + 1) (lotF F)).map .int)])
      rw [lf_succ, List.map_append]
      rfl
  rw [rng_len] at f1
  unfold g_lots_by_row d_lots_by_row
  rw [den_ev, e0]
  refine fin_nx a1 (fin_nx a2 (fin_nx a3 (fin_nx f1 ?_)))
  exact (congrArg (finC _) (ret_v (w := .ref s.length) rfl)).trans (fin_I hs)
end
end MP.PG
set_option Elab.async false
set_option linter.all false
set_option maxRecDepth 100000
set_option maxHeartbeats 1000000
namespace MP.PG
open PySem PySem.Spec MP
open PyProof.Rows hiding St
open L2 hiding St r1
def lotsL (F : List (List Int)) : List Int := lf (2 ^ wdF F) (lotF F)
def askF (F : List (List Int)) : Option Nat := if F.length ≤ 1 then none else if minO 0 (lotsL F) = (F.length : Int) then none else some (fstI (minO 0 (lotsL F)) (lotsL F))
def askD (w : Nat) : Option Nat → Dv
  | none => .non
  | some n => tI (toI (digs 2 w n))
theorem lotsL_ne {F : List (List Int)} : lotsL F ≠ [] := fun z => by
  have := congrArg List.length z
  unfold lotsL at this
  rw [lf_len] at this
  have h : 0 < 2 ^ wdF F := Nat.pow_pos (by decide)
  rw [this] at h
  exact Nat.lt_irrefl 0 h
section
variable {s : Sto} {rules : List (List Int)} {ps : List (List Int × Int)}
theorem fits_mem (hm : Menu rules) : ∀ rs ∈ fitsL ps rules, Rule rs := fun rs h => by
  unfold fitsL fitL at h
  obtain ⟨k, hk, rfl⟩ := List.mem_map.mp h
  exact hm.ok _ (getD_mem (List.mem_range.mp (List.mem_filter.mp hk).1))
theorem fits_len (hm : Menu rules) : (fitsL ps rules).length ≤ 20 := by
  unfold fitsL fitL
  rw [List.length_map]
  refine Nat.le_trans (List.length_filter_le _ _) ?_
  rw [List.length_range]
  exact hm.most
theorem best_ask_ok {w : Nat} (hs : Cl s) (hm : Menu rules) (h : Seen ps) (hw : 6 ≤ w) (hw2 : w ≤ 10) : g_best_ask [mD rules, sD ps, .int (w : Int)] s = .ok (askD w (askF (fitsL ps rules))) s := by
  have fm := fits_mem (ps := ps) hm
  have fl := fits_len (ps := ps) hm
  let E (x3 x4 x5 x6 : Option Dv) : Env := [some (mD rules), some (sD ps), some (.int (w : Int)), x3, x4, x5, x6]
  have e0 : startD 7 [mD rules, sD ps, .int (w : Int)] = E none none none none := rfl
  have hF : cF_best_ask_1 (E none none none none) s = .ok { ws := (fitL ps rules).map fun k : Nat => .int (k : Int) } s := by
    have h1 : mCall (g_fitting) (mCons (mVar 0) (mCons (mVar 1) mNil)) (E none none none none) s = .ok (.tup ((fitL ps rules).map fun k : Nat => .int (k : Int))) s := call_v (cons_v (w := mD rules) rfl (cons_v (w := sD ps) rfl nil_ev)) (fitting_ok hm h)
    show iSeq _ _ _ = _
    unfold iSeq
    rw [h1]
    rfl
  have hfl : (fitL ps rules).length ≤ 20 := by
    have := fl
    unfold fitsL at this
    rwa [List.length_map] at this
  have hc := comp_mapA (vs := [6]) (g := ct_best_ask_1) (elt := ce_best_ask_1) (fun k : Nat => tI (rules.getD k [])) hF (by unfold lim; omega) fun k hk => ⟨E none none none (some (.int (k : Int))), rfl, by
    have hk' := List.mem_range.mp (List.mem_filter.mp (show k ∈ (List.range rules.length).filter _ from hk)).1
    exact bin_v (x := mD rules) (y := .int (k : Int)) rfl rfl (ix_tup (by rw [List.getElem?_map, List.getElem?_eq_getElem hk', getD_at hk']; rfl))⟩
  have e : ((fitL ps rules).map fun k : Nat => tI (rules.getD k [])) = (fitsL ps rules).map tI := by unfold fitsL; rw [List.map_map]; rfl
  rw [e] at hc
  generalize hFF : fitsL ps rules = F at hc fm fl
  let R : Option Dv := some (.lst (F.map tI))
  have a1 : mAsg (mComp cF_best_ask_1 [6] ct_best_ask_1 ci_best_ask_1 ce_best_ask_1) (gN 3) (E none none none none) s = .nx (E R none none none) s := asg_v hc
  have u1 : mTest (mCall (g_is_int_within) (mCons (mVar 2) (mCons (mK (.int 6)) (mCons (mK (.int 10)) mNil)))) (E R none none none) s = .ok true s :=
    test_v (call_v (cons_v (w := .int (w : Int)) rfl (cons_v (w := .int 6) rfl (cons_v (w := .int 10) rfl nil_ev))) (within_ok (by omega) (by omega)))
  have ln : ∀ x4 x5 x6, mBlt lenD (mCons (mVar 3) mNil) (E R x4 x5 x6) s = .ok (.int (F.length : Int)) s := fun _ _ _ => blt_v (cons_v (w := .lst (F.map tI)) rfl nil_ev) (by rw [len_lst, List.length_map])
  have u2 : mTest (mBin leD (mBlt lenD (mCons (mVar 3) mNil)) (mK (.int 1))) (E R none none none) s = .ok (decide (F.length ≤ 1)) s := by
    refine test_v ((bin_v (x := .int (F.length : Int)) (y := .int 1) (ln _ _ _) k_ev le_ii).trans ?_)
    congr 2
    exact decide_eq_decide.mpr ⟨fun h => by omega, fun h => by omega⟩
  unfold g_best_ask d_best_ask
  rw [den_ev, e0]
  refine fin_nx a1 (fin_nx (ρ1 := E R none none none) (s1 := s) ((ifS_f (not_vt u1)).trans rfl) ?_)
  unfold askF
  by_cases h1 : F.length ≤ 1
  · rw [decide_eq_true h1] at u2
    rw [if_pos h1]
    exact fin_rtS (w := .non) (s1 := s) ((ifS_t u2).trans rfl) finC_rt
  · rw [decide_eq_false h1] at u2
    rw [if_neg h1]
    have h0 : F ≠ [] := fun z => h1 (by rw [z]; exact Nat.zero_le _)
    have hlots := lots_ok hs h0 fl fm
    let L : Option Dv := some (lI (lotsL F))
    have a2 : mAsg (mCall (g_lots_by_row) (mCons (mVar 3) mNil)) (gN 4) (E R none none none) s = .nx (E R L none none) s := asg_v (w := lI (lotsL F)) (call_v (cons_v (w := .lst (F.map tI)) rfl nil_ev) hlots)
    let M : Option Dv := some (.int (minO 0 (lotsL F)))
    have a3 : mAsg (mBlt minLD (mCons (mVar 4) mNil)) (gN 5) (E R L none none) s = .nx (E R L M none) s := asg_v (w := .int (minO 0 (lotsL F))) (blt_v (cons_v (w := lI (lotsL F)) rfl nil_ev) (min_I lotsL_ne))
    have u3 : mTest (mBin eqD (mVar 5) (mBlt lenD (mCons (mVar 3) mNil))) (E R L M none) s = .ok (decide (minO 0 (lotsL F) = (F.length : Int))) s := test_v (bin_v (x := .int (minO 0 (lotsL F))) (y := .int (F.length : Int)) rfl (ln _ _ _) eq_ii)
    refine fin_nx (ρ1 := E R none none none) (s1 := s) ((ifS_f u2).trans rfl) (fin_nx a2 (fin_nx a3 ?_))
    by_cases h2 : minO 0 (lotsL F) = (F.length : Int)
    · rw [decide_eq_true h2] at u3
      rw [if_pos h2]
      exact fin_rtS (w := .non) (s1 := s) ((ifS_t u3).trans rfl) finC_rt
    · rw [decide_eq_false h2] at u3
      rw [if_neg h2]
      refine fin_nx (ρ1 := E R L M none) (s1 := s) ((ifS_f u3).trans rfl) ?_
      have hsig := signs_ok (s := s) (sg := [.int 0, .int 1]) (b := 2) (n := fstI (minO 0 (lotsL F)) (lotsL F)) (w := w) (f := fun d => .int (d : Int)) hs (by decide) (by decide) (by omega) rfl (fun d hd => by
        match d, hd with
        | 0, _ => rfl
        | 1, _ => rfl) (fun _ _ => rfl)
      have c : mCall (g_signs_of) (mCons (mIndex (mVar 4) (mVar 5)) (mCons (mK (.tup [.int 0, .int 1])) (mCons (mVar 2) mNil))) (E R L M none) s = .ok (askD w (some (fstI (minO 0 (lotsL F)) (lotsL F)))) s := by
        refine call_v (cons_v (w := .int (fstI (minO 0 (lotsL F)) (lotsL F) : Nat)) (index_v (l := lotsL F) (minO_in lotsL_ne).1 rfl rfl) (cons_v (w := .tup [.int 0, .int 1]) k_ev (cons_v (w := .int (w : Int)) rfl nil_ev))) (hsig.trans ?_)
        show _ = MP.R.ok (tI (toI (digs 2 w _))) s
        rw [toI, tI, List.map_map]
        rfl
      exact (congrArg (finC _) (ret_v c)).trans finC_rt
end
end MP.PG
set_option Elab.async false
set_option linter.all false
set_option maxRecDepth 100000
set_option maxHeartbeats 4000000
namespace MP.K47
open PySem PySem.Spec PyProof.Rows L2 MP MP.PG
def topS (i : Nat) : Stmt := PySem.Challenge.pw_bestoflast_k47_whole_rules_told_back.main.body.getD i (.Pass ⟨0, 0, 0, 0⟩)
structure Ns (Γ : Ct) (mg : Str → Option Value) : Prop where
  n_all : mg "all" = none
  n_divmod : mg "divmod" = none
  n_enumerate : mg "enumerate" = none
  n_int : mg "int" = none
  n_isinstance : mg "isinstance" = none
  n_len : mg "len" = none
  n_max : mg "max" = none
  n_min : mg "min" = none
  n_range : mg "range" = none
  n_repr : mg "repr" = none
  n_reversed : mg "reversed" = none
  n_sorted : mg "sorted" = none
  n_sum : mg "sum" = none
  n_tuple : mg "tuple" = none
  n_zip : mg "zip" = none
  c_BITS : ∃ u, mg "BITS" = some u ∧ KRV Γ.K (.tup [.int 0, .int 1]) u
  c_GREATEST_RESULT : ∃ t, mg "GREATEST_RESULT" = some (.int 1000000 t)
  c_GREATEST_SIZE : ∃ t, mg "GREATEST_SIZE" = some (.int 10 t)
  c_GREATEST_WEIGHT : ∃ t, mg "GREATEST_WEIGHT" = some (.int 20 t)
  c_LEAST_SIZE : ∃ t, mg "LEAST_SIZE" = some (.int 6 t)
  c_MOST_RESULTS : ∃ t, mg "MOST_RESULTS" = some (.int 200 t)
  c_MOST_RULES : ∃ t, mg "MOST_RULES" = some (.int 20 t)
  c_MOST_SEEN : ∃ t, mg "MOST_SEEN" = some (.int 50 t)
  c_MOST_WEIGHTS : ∃ t, mg "MOST_WEIGHTS" = some (.int 6 t)
  k_BadRule : mg "BadRule" = some (.ref (Γ.cls 1))
  k_BadNumber : mg "BadNumber" = some (.ref (Γ.cls 4))
  k_Nothing : mg "Nothing" = some (.ref (Γ.cls 8))
  xj : XcJ [1, 4, 8] Γ
  xj_value : ∀ c, c ∈ [1, 4, 8] → PySem.W.findIn Γ.K (.ref (Γ.cls c)) "value" = some none
def mthS (s : Stmt) (j : Nat) : Stmt := match s with
  | .ClassDef _ _ _ b _ _ _ _ _ _ _ => b.getD j (.Pass ⟨0, 0, 0, 0⟩)
  | _ => .Pass ⟨0, 0, 0, 0⟩
abbrev sI_BadRule : Stmt := mthS (topS 2) 0
abbrev sI_BadNumber : Stmt := mthS (topS 4) 0
abbrev sI_Nothing : Stmt := mthS (topS 5) 0
abbrev s_is_int : Stmt := topS 7
theorem sc_is_int : FnScope ["thing"] ["thing"] (defScope s_is_int) := ⟨rfl, rfl, rfl, by decide +kernel, rfl, by decide +kernel, by decide +kernel⟩
abbrev s_is_int_within : Stmt := topS 8
theorem sc_is_int_within : FnScope ["thing", "least", "most"] ["thing", "least", "most"] (defScope s_is_int_within) := ⟨rfl, rfl, rfl, by decide +kernel, rfl, by decide +kernel, by decide +kernel⟩
abbrev s_is_tuple : Stmt := topS 9
theorem sc_is_tuple : FnScope ["thing", "least", "most"] ["thing", "least", "most"] (defScope s_is_tuple) := ⟨rfl, rfl, rfl, by decide +kernel, rfl, by decide +kernel, by decide +kernel⟩
abbrev s_first_outside : Stmt := topS 10
theorem sc_first_outside : FnScope ["things", "least", "most", "number", "thing"] ["things", "least", "most"] (defScope s_first_outside) := ⟨rfl, rfl, rfl, by decide +kernel, rfl, by decide +kernel, by decide +kernel⟩
abbrev s_need_rule : Stmt := topS 16
theorem sc_need_rule : FnScope ["thing", "number"] ["thing"] (defScope s_need_rule) := ⟨rfl, rfl, rfl, by decide +kernel, rfl, by decide +kernel, by decide +kernel⟩
abbrev s_is_rule : Stmt := topS 17
theorem sc_is_rule : FnScope ["thing"] ["thing"] (defScope s_is_rule) := ⟨rfl, rfl, rfl, by decide +kernel, rfl, by decide +kernel, by decide +kernel⟩
abbrev s_need_row : Stmt := topS 18
theorem sc_need_row : FnScope ["thing", "number"] ["thing"] (defScope s_need_row) := ⟨rfl, rfl, rfl, by decide +kernel, rfl, by decide +kernel, by decide +kernel⟩
abbrev s_is_row : Stmt := topS 19
theorem sc_is_row : FnScope ["thing"] ["thing"] (defScope s_is_row) := ⟨rfl, rfl, rfl, by decide +kernel, rfl, by decide +kernel, by decide +kernel⟩
abbrev s_index_of : Stmt := topS 20
theorem sc_index_of : FnScope ["rule", "results", "last", "weight", "result"] ["rule", "results"] (defScope s_index_of) := ⟨rfl, rfl, rfl, by decide +kernel, rfl, by decide +kernel, by decide +kernel⟩
abbrev s_indexes_by_ones : Stmt := topS 21
theorem sc_indexes_by_ones : FnScope ["rule", "told", "weight"] ["rule"] (defScope s_indexes_by_ones) := ⟨rfl, rfl, rfl, by decide +kernel, rfl, by decide +kernel, by decide +kernel⟩
abbrev s_many_of : Stmt := topS 24
theorem sc_many_of : FnScope ["base", "wide", "many", "_"] ["base", "wide"] (defScope s_many_of) := ⟨rfl, rfl, rfl, by decide +kernel, rfl, by decide +kernel, by decide +kernel⟩
abbrev s_signs_of : Stmt := topS 25
theorem sc_signs_of : FnScope ["number", "signs", "wide", "told", "_", "figure"] ["number", "signs", "wide"] (defScope s_signs_of) := ⟨rfl, rfl, rfl, by decide +kernel, rfl, by decide +kernel, by decide +kernel⟩
abbrev s_ones_of : Stmt := topS 26
theorem sc_ones_of : FnScope ["wide", "ones", "_", "many"] ["wide"] (defScope s_ones_of) := ⟨rfl, rfl, rfl, by decide +kernel, rfl, by decide +kernel, by decide +kernel⟩
abbrev s_need_bit_row : Stmt := topS 32
theorem sc_need_bit_row : FnScope ["thing", "number"] ["thing"] (defScope s_need_bit_row) := ⟨rfl, rfl, rfl, by decide +kernel, rfl, by decide +kernel, by decide +kernel⟩
abbrev s_need_many : Stmt := topS 33
theorem sc_need_many : FnScope ["thing"] ["thing"] (defScope s_need_many) := ⟨rfl, rfl, rfl, by decide +kernel, rfl, by decide +kernel, by decide +kernel⟩
abbrev s_ones_behind : Stmt := topS 34
theorem sc_ones_behind : FnScope ["row", "many", "at"] ["row", "many"] (defScope s_ones_behind) := ⟨rfl, rfl, rfl, by decide +kernel, rfl, by decide +kernel, by decide +kernel⟩
abbrev s_tells : Stmt := topS 35
theorem sc_tells : FnScope ["row", "many", "found", "ones"] ["row", "many"] (defScope s_tells) := ⟨rfl, rfl, rfl, by decide +kernel, rfl, by decide +kernel, by decide +kernel⟩
abbrev s_does_tell : Stmt := topS 36
theorem sc_does_tell : FnScope ["row", "many"] ["row", "many"] (defScope s_does_tell) := ⟨rfl, rfl, rfl, by decide +kernel, rfl, by decide +kernel, by decide +kernel⟩
abbrev s_telling_row : Stmt := topS 37
theorem sc_telling_row : FnScope ["many"] ["many"] (defScope s_telling_row) := ⟨rfl, rfl, rfl, by decide +kernel, rfl, by decide +kernel, by decide +kernel⟩
abbrev s_need_numbers : Stmt := topS 38
theorem sc_need_numbers : FnScope ["thing", "row", "many", "number"] ["thing", "row"] (defScope s_need_numbers) := ⟨rfl, rfl, rfl, by decide +kernel, rfl, by decide +kernel, by decide +kernel⟩
abbrev s_rule_told : Stmt := topS 39
theorem sc_rule_told : FnScope ["row", "numbers", "many", "told", "ones", "number", "rule"] ["row", "numbers"] (defScope s_rule_told) := ⟨rfl, rfl, rfl, by decide +kernel, rfl, by decide +kernel, by decide +kernel⟩
abbrev s_need_menu : Stmt := topS 40
theorem sc_need_menu : FnScope ["thing", "rule"] ["thing"] (defScope s_need_menu) := ⟨rfl, rfl, rfl, by decide +kernel, rfl, by decide +kernel, by decide +kernel⟩
abbrev s_is_seen_pair : Stmt := topS 41
theorem sc_is_seen_pair : FnScope ["thing"] ["thing"] (defScope s_is_seen_pair) := ⟨rfl, rfl, rfl, by decide +kernel, rfl, by decide +kernel, by decide +kernel⟩
abbrev s_need_seen : Stmt := topS 42
theorem sc_need_seen : FnScope ["thing", "pair"] ["thing"] (defScope s_need_seen) := ⟨rfl, rfl, rfl, by decide +kernel, rfl, by decide +kernel, by decide +kernel⟩
abbrev s_does_fit : Stmt := topS 43
theorem sc_does_fit : FnScope ["rule", "seen", "row", "number"] ["rule", "seen"] (defScope s_does_fit) := ⟨rfl, rfl, rfl, by decide +kernel, rfl, by decide +kernel, by decide +kernel⟩
abbrev s_fitting : Stmt := topS 44
theorem sc_fitting : FnScope ["menu", "seen", "number", "rule"] ["menu", "seen"] (defScope s_fitting) := ⟨rfl, rfl, rfl, by decide +kernel, rfl, by decide +kernel, by decide +kernel⟩
abbrev s_lots_by_row : Stmt := topS 45
theorem sc_lots_by_row : FnScope ["rules", "ones", "tables", "lots", "number", "indexes", "rule", "told", "many", "index"] ["rules"] (defScope s_lots_by_row) := ⟨rfl, rfl, rfl, by decide +kernel, rfl, by decide +kernel, by decide +kernel⟩
abbrev s_best_ask : Stmt := topS 46
theorem sc_best_ask : FnScope ["menu", "seen", "size", "fits", "lots", "least", "number"] ["menu", "seen", "size"] (defScope s_best_ask) := ⟨rfl, rfl, rfl, by decide +kernel, rfl, by decide +kernel, by decide +kernel⟩
abbrev s__law_begun : Stmt := topS 48
theorem sc__law_begun : FnScope ["script", "k", "cells", "great", "seed", "cell"] ["script", "k"] (defScope s__law_begun) := ⟨rfl, rfl, rfl, by decide +kernel, rfl, by decide +kernel, by decide +kernel⟩
abbrev s__law_draw : Stmt := topS 49
theorem sc__law_draw : FnScope ["m", "limit", "found", "spot", "cells", "added", "cell", "blend"] ["m", "limit"] (defScope s__law_draw) := ⟨rfl, rfl, rfl, by decide +kernel, rfl, by decide +kernel, by decide +kernel⟩
abbrev s__law_of : Stmt := topS 50
theorem sc__law_of : FnScope ["m", "some"] ["m", "some"] (defScope s__law_of) := ⟨rfl, rfl, rfl, by decide +kernel, rfl, by decide +kernel, by decide +kernel⟩
abbrev s__law_tune : Stmt := topS 51
theorem sc__law_tune : FnScope ["m", "limit", "k"] ["m", "limit"] (defScope s__law_tune) := ⟨rfl, rfl, rfl, by decide +kernel, rfl, by decide +kernel, by decide +kernel⟩
abbrev s__law_sum : Stmt := topS 52
theorem sc__law_sum : FnScope ["tune", "some", "weight", "one"] ["tune", "some"] (defScope s__law_sum) := ⟨rfl, rfl, rfl, by decide +kernel, rfl, by decide +kernel, by decide +kernel⟩
abbrev s__law_all : Stmt := topS 53
theorem sc__law_all : FnScope ["marks", "many", "found", "lap", "longer", "row", "mark"] ["marks", "many"] (defScope s__law_all) := ⟨rfl, rfl, rfl, by decide +kernel, rfl, by decide +kernel, by decide +kernel⟩
abbrev s__law_windows : Stmt := topS 54
theorem sc__law_windows : FnScope ["row_so", "many", "spot"] ["row_so", "many"] (defScope s__law_windows) := ⟨rfl, rfl, rfl, by decide +kernel, rfl, by decide +kernel, by decide +kernel⟩
noncomputable def cF__law_windows_1 : FI := (iRange1 (mCons (mBin addD (mBin subD (mBlt lenD (mCons (mVar 0) mNil)) (mVar 1)) (mK (.int 1))) mNil))
noncomputable def ct__law_windows_1 : FG := (gN 2)
noncomputable def ci__law_windows_1 : FT := mYes
noncomputable def ce__law_windows_1 : FE := (mSl slA (mVar 0) (mPart (mVar 2)) (mPart (mBin addD (mVar 2) (mVar 1))))
noncomputable def d__law_windows : FS := (mRet (mComp cF__law_windows_1 [2] ct__law_windows_1 ci__law_windows_1 ce__law_windows_1))
noncomputable def g__law_windows : Fn := denOf 3 d__law_windows
abbrev s__law_tells : Stmt := topS 55
theorem sc__law_tells : FnScope ["row_so", "many", "counts", "some", "count"] ["row_so", "many"] (defScope s__law_tells) := ⟨rfl, rfl, rfl, by decide +kernel, rfl, by decide +kernel, by decide +kernel⟩
noncomputable def cF__law_tells_1 : FI := (iSeq (mCall (g__law_windows) (mCons (mVar 0) (mCons (mVar 1) mNil))))
noncomputable def ct__law_tells_1 : FG := (gN 3)
noncomputable def ci__law_tells_1 : FT := mYes
noncomputable def ce__law_tells_1 : FE := (mBlt sumA (mCons (mVar 3) mNil))
noncomputable def cF__law_tells_2 : FI := (iRange2 (mCons (mK (.int 1)) (mCons (mBin addD (mVar 1) (mK (.int 1))) mNil)))
noncomputable def ct__law_tells_2 : FG := (gN 4)
noncomputable def ci__law_tells_2 : FT := (mTest (mBin (inQ true) (mVar 4) (mVar 2)))
noncomputable def ce__law_tells_2 : FE := (mVar 4)
noncomputable def d__law_tells : FS := (mSeq (mAsg (mComp cF__law_tells_1 [3] ct__law_tells_1 ci__law_tells_1 ce__law_tells_1) (gN 2))
  (mRet (mBin eqD (mComp cF__law_tells_2 [4] ct__law_tells_2 ci__law_tells_2 ce__law_tells_2) (mLst mNil))))
noncomputable def g__law_tells : Fn := denOf 5 d__law_tells
abbrev s__law_heard : Stmt := topS 56
theorem sc__law_heard : FnScope ["call", "found", "error", "caught"] ["call"] (defScope s__law_heard) := ⟨rfl, rfl, rfl, by decide +kernel, rfl, by decide +kernel, by decide +kernel⟩
noncomputable def d__law_heard (cl : Dv) (g : Sto → R Dv) : FS := (mSeq (mAsg (mTup (mCons (mK .non) (mCons (mK .non) mNil))) (gT 2 (gsC (gN 1) (gsC (gN 2) gs0))))
  (mSeq (mTryK [1, 4, 8] 4 8 3 (mAsg (mThk 0 cl g) (gN 1)) (mAsg (mVar 3) (gN 2)))
  (mSeq (mIfS (mTest (mBin isD (mVar 2) (mK .non))) (mRet (mLst (mCons (mVar 1) mNil))) mNext)
  (mRet (mIf (mTest (mBlt (isiJ [1, 4, 8]) (mCons (mVar 2) (mCons (mK (.cl 8)) mNil)))) (mTup (mCons (mK (.str "nothing")) (mCons (mUn (fldJ [1, 4, 8] "value") (mVar 2)) mNil))) (mTup (mCons (mK (.str "number")) (mCons (mUn (fldJ [1, 4, 8] "value") (mVar 2)) mNil))))))))
noncomputable def h__law_heard : (Sto → R Dv) → Fn := fun g wa s => finC s.length (d__law_heard .non g (startD 4 (.non :: wa)) s)
abbrev s__law_rows_right : Stmt := topS 57
theorem sc__law_rows_right : FnScope ["m", "row_so", "many", "some", "size", "k", "bits"] ["m"] (defScope s__law_rows_right) := ⟨rfl, rfl, rfl, by decide +kernel, rfl, by decide +kernel, by decide +kernel⟩
noncomputable def cF__law_rows_right_1 : FI := (iRange1 (mCons (mCall (g__law_draw) (mCons (mVar 0) (mCons (mK (.int 14)) mNil))) mNil))
noncomputable def ct__law_rows_right_1 : FG := (gN 5)
noncomputable def ci__law_rows_right_1 : FT := mYes
noncomputable def ce__law_rows_right_1 : FE := (mCall (g__law_draw) (mCons (mVar 0) (mCons (mK (.int 2)) mNil)))
noncomputable def F__law_rows_right_1 : FI := (iRange2 (mCons (mK (.int 1)) (mCons (mK (.int 7)) mNil)))
noncomputable def t__law_rows_right_1 : FG := (gN 2)
noncomputable def b__law_rows_right_1 : FS := (mIfS (mTest (mBin neD (mBlt reprD (mCons (mLst (mCons (mCall (g_does_tell) (mCons (mVar 1) (mCons (mVar 2) mNil))) (mCons (mCall (g_does_tell) (mCons (mVar 1) (mCons (mVar 2) mNil))) mNil))) mNil)) (mBlt reprD (mCons (mBin mulD (mLst (mCons (mCall (g__law_tells) (mCons (mVar 1) (mCons (mVar 2) mNil))) mNil)) (mK (.int 2))) mNil)))) (mRet (mK (.bl false))) mNext)
noncomputable def cF__law_rows_right_2 : FI := (iSeq (mCall (g__law_all) (mCons (mTup (mCons (mK (.int 0)) (mCons (mK (.int 1)) mNil))) (mCons (mVar 4) mNil))))
noncomputable def ct__law_rows_right_2 : FG := (gN 6)
noncomputable def ci__law_rows_right_2 : FT := (mTest (mCall (g__law_tells) (mCons (mVar 6) (mCons (mVar 2) mNil))))
noncomputable def ce__law_rows_right_2 : FE := (mVar 6)
noncomputable def F__law_rows_right_2 : FI := (iRange1 (mCons (mBin mulD (mK (.int 2)) (mVar 2)) mNil))
noncomputable def t__law_rows_right_2 : FG := (gN 4)
noncomputable def b__law_rows_right_2 : FS := (mAsg (mBin addD (mVar 3) (mComp cF__law_rows_right_2 [6] ct__law_rows_right_2 ci__law_rows_right_2 ce__law_rows_right_2)) (gN 3))
noncomputable def d__law_rows_right : FS := (mSeq (mAsg (mBlt tupleD (mCons (mComp cF__law_rows_right_1 [5] ct__law_rows_right_1 ci__law_rows_right_1 ce__law_rows_right_1) mNil)) (gN 1))
  (mSeq (mFor F__law_rows_right_1 t__law_rows_right_1 b__law_rows_right_1)
  (mSeq (mAsg (mBin addD (mK (.int 1)) (mCall (g__law_draw) (mCons (mVar 0) (mCons (mK (.int 4)) mNil)))) (gN 2))
  (mSeq (mAsg (mLst mNil) (gN 3))
  (mSeq (mFor F__law_rows_right_2 t__law_rows_right_2 b__law_rows_right_2)
  (mRet (mBin eqD (mBlt reprD (mCons (mLst (mCons (mCall (g_telling_row) (mCons (mVar 2) mNil)) (mCons (mCall (g_telling_row) (mCons (mVar 2) mNil)) mNil))) mNil)) (mBlt reprD (mCons (mLst (mCons (mBin ixA (mVar 3) (mK (.int 0))) (mCons (mBin ixA (mVar 3) (mK (.int 0))) mNil))) mNil)))))))))
noncomputable def g__law_rows_right : Fn := denOf 7 d__law_rows_right
abbrev s__law_due : Stmt := topS 58
theorem sc__law_due : FnScope ["row_so", "numbers_so", "many", "known", "some", "number", "found", "count"] ["row_so", "numbers_so"] (defScope s__law_due) := ⟨rfl, rfl, rfl, by decide +kernel, rfl, by decide +kernel, by decide +kernel⟩
noncomputable def F__law_due_1 : FI := (iZip2 (mCons (mCall (g__law_windows) (mCons (mVar 0) (mCons (mVar 2) mNil))) (mCons (mVar 1) mNil)))
noncomputable def t__law_due_1 : FG := (gT 2 (gsC (gN 4) (gsC (gN 5) gs0)))
noncomputable def b__law_due_1 : FS := (mSeq (mIfS (mTest (mBin neD (mDGet2 (mVar 3) (mBlt sumA (mCons (mVar 4) mNil)) (mVar 5)) (mVar 5))) (mRet (mTup (mCons (mK (.str "nothing")) (mCons (mVar 1) mNil)))) mNext)
  (mDPut (mVar 3) (mBlt sumA (mCons (mVar 4) mNil)) (mVar 5)))
noncomputable def cF__law_due_1 : FI := (iRange2 (mCons (mK (.int 1)) (mCons (mBin addD (mVar 2) (mK (.int 1))) mNil)))
noncomputable def ct__law_due_1 : FG := (gN 7)
noncomputable def ci__law_due_1 : FT := mYes
noncomputable def ce__law_due_1 : FE := (mBin subD (mBin ixA (mVar 3) (mVar 7)) (mBin ixA (mVar 3) (mBin subD (mVar 7) (mK (.int 1)))))
noncomputable def d__law_due : FS := (mSeq (mAsg (mBin subD (mBin addD (mBlt lenD (mCons (mVar 0) mNil)) (mK (.int 1))) (mBlt lenD (mCons (mVar 1) mNil))) (gN 2))
  (mSeq (mIfS (mOr (mTest (mBin eqD (mVar 1) (mTup mNil))) (mOr (mNot (mTest (mChain leD leD (mK (.int 1)) (mVar 2) (mK (.int 6))))) (mNot (mTest (mCall (g__law_tells) (mCons (mVar 0) (mCons (mVar 2) mNil))))))) (mRet (mTup (mCons (mK (.str "number")) (mCons (mVar 1) mNil)))) mNext)
  (mSeq (mAsg (mDctM [((mK (.int 0)), (mK (.int 0)))]) (gN 3))
  (mSeq (mFor F__law_due_1 t__law_due_1 b__law_due_1)
  (mSeq (mAsg (mComp cF__law_due_1 [7] ct__law_due_1 ci__law_due_1 ce__law_due_1) (gN 6))
  (mSeq (mAsg (mBlt tupleD (mCons (mRev (mVar 6)) mNil)) (gN 6))
  (mRet (mIf (mAnd (mTest (mBin leD (mBlt maxA (mCons (mVar 6) mNil)) (mK (.int 20)))) (mTest (mBin geD (mBlt minA (mCons (mVar 6) mNil)) (mUn negD (mK (.int 20)))))) (mLst (mCons (mVar 6) mNil)) (mTup (mCons (mK (.str "nothing")) (mCons (mVar 1) mNil)))))))))))
noncomputable def g__law_due : Fn := denOf 8 d__law_due
abbrev lq__law_back_right : Str := ("_law_back_right" : Str) ++ ".<locals>." ++ "<lambda>"
abbrev s__law_back_right : Stmt := topS 59
theorem sc__law_back_right : FnScope ["m", "tune", "row_so", "numbers_so", "at", "things", "thing", "due", "kept", "told_so", "k", "some", "more"] ["m"] (defScope s__law_back_right) := ⟨rfl, rfl, rfl, by decide +kernel, rfl, by decide +kernel, by decide +kernel⟩
noncomputable def cF__law_back_right_1 : FI := (iRange1 (mCons (mBin addD (mK (.int 1)) (mCall (g__law_draw) (mCons (mVar 0) (mCons (mK (.int 6)) mNil)))) mNil))
noncomputable def ct__law_back_right_1 : FG := (gN 10)
noncomputable def ci__law_back_right_1 : FT := mYes
noncomputable def ce__law_back_right_1 : FE := (mBin subD (mCall (g__law_draw) (mCons (mVar 0) (mCons (mK (.int 41)) mNil))) (mK (.int 20)))
noncomputable def cF__law_back_right_2 : FI := (iRange1 (mCons (mCall (g__law_draw) (mCons (mVar 0) (mCons (mK (.int 4)) mNil))) mNil))
noncomputable def ct__law_back_right_2 : FG := (gN 10)
noncomputable def ci__law_back_right_2 : FT := mYes
noncomputable def ce__law_back_right_2 : FE := (mCall (g__law_draw) (mCons (mVar 0) (mCons (mK (.int 2)) mNil)))
noncomputable def cF__law_back_right_3 : FI := (iRange1 (mCons (mCall (g__law_draw) (mCons (mVar 0) (mCons (mK (.int 3)) mNil))) mNil))
noncomputable def ct__law_back_right_3 : FG := (gN 10)
noncomputable def ci__law_back_right_3 : FT := mYes
noncomputable def ce__law_back_right_3 : FE := (mCall (g__law_draw) (mCons (mVar 0) (mCons (mK (.int 2)) mNil)))
noncomputable def cF__law_back_right_4 : FI := (iSeq (mCall (g__law_windows) (mCons (mVar 2) (mCons (mBlt lenD (mCons (mVar 1) mNil)) mNil))))
noncomputable def ct__law_back_right_4 : FG := (gN 11)
noncomputable def ci__law_back_right_4 : FT := mYes
noncomputable def ce__law_back_right_4 : FE := (mCall (g__law_sum) (mCons (mVar 1) (mCons (mVar 11) mNil)))
noncomputable def cF__law_back_right_5 : FI := (iSeq (mTup (mCons (mK (.int 1)) (mCons (mUn negD (mK (.int 1))) (mCons (mK (.int 100)) mNil)))))
noncomputable def ct__law_back_right_5 : FG := (gN 12)
noncomputable def ci__law_back_right_5 : FT := mYes
noncomputable def ce__law_back_right_5 : FE := (mBin addD (mBin addD (mSl slA (mVar 3) mNoPart (mPart (mVar 4))) (mTup (mCons (mBin addD (mBin ixA (mVar 3) (mVar 4)) (mVar 12)) mNil))) (mSl slA (mVar 3) (mPart (mBin addD (mVar 4) (mK (.int 1)))) mNoPart))
noncomputable def l__law_back_right_1 : FE := (mCall (g_rule_told) (mCons (mVar 2) (mCons (mVar 6) mNil)))
noncomputable def l__law_back_right_2 : FE := (mCall (g_rule_told) (mCons (mVar 2) (mCons (mVar 6) mNil)))
noncomputable def F__law_back_right_1 : FI := (iSeq (mVar 5))
noncomputable def t__law_back_right_1 : FG := (gN 6)
noncomputable def b__law_back_right_1 : FS := (mSeq (mPar 7 8 (mCons (mCall (g__law_due) (mCons (mVar 2) (mCons (mVar 6) mNil))) (mCons (mBlt reprD (mCons (mLst (mCons (mVar 2) (mCons (mVar 6) mNil))) mNil)) mNil)))
  (mSeq (mAsg (mLst (mCons (mLam 0 0 lq__law_back_right l__law_back_right_1 h__law_heard mNil) (mCons (mLam 0 0 lq__law_back_right l__law_back_right_2 h__law_heard mNil) mNil))) (gN 9))
  (mIfS (mOr (mTest (mBin neD (mBlt reprD (mCons (mVar 9) mNil)) (mBlt reprD (mCons (mLst (mCons (mVar 7) (mCons (mVar 7) mNil))) mNil)))) (mTest (mBin neD (mBlt reprD (mCons (mLst (mCons (mVar 2) (mCons (mVar 6) mNil))) mNil)) (mVar 8)))) (mRet (mK (.bl false))) mNext)))
noncomputable def d__law_back_right : FS := (mSeq (mAsg (mCall (g__law_tune) (mCons (mVar 0) (mCons (mK (.int 6)) mNil))) (gN 1))
  (mSeq (mIfS (mTest (mBin eqD (mCall (g__law_draw) (mCons (mVar 0) (mCons (mK (.int 2)) mNil))) (mK (.int 0)))) (mAsg (mBlt tupleD (mCons (mComp cF__law_back_right_1 [10] ct__law_back_right_1 ci__law_back_right_1 ce__law_back_right_1) mNil)) (gN 1)) mNext)
  (mSeq (mAsg (mBin addD (mCall (g_telling_row) (mCons (mBlt lenD (mCons (mVar 1) mNil)) mNil)) (mBlt tupleD (mCons (mComp cF__law_back_right_2 [10] ct__law_back_right_2 ci__law_back_right_2 ce__law_back_right_2) mNil))) (gN 2))
  (mSeq (mAsg (mBin addD (mBlt tupleD (mCons (mComp cF__law_back_right_3 [10] ct__law_back_right_3 ci__law_back_right_3 ce__law_back_right_3) mNil)) (mVar 2)) (gN 2))
  (mSeq (mAsg (mBlt tupleD (mCons (mComp cF__law_back_right_4 [11] ct__law_back_right_4 ci__law_back_right_4 ce__law_back_right_4) mNil)) (gN 3))
  (mSeq (mIfS (mTest (mBin neD (mBlt reprD (mCons (mLst (mCons (mCall (g_rule_told) (mCons (mVar 2) (mCons (mVar 3) mNil))) (mCons (mCall (g_rule_told) (mCons (mVar 2) (mCons (mVar 3) mNil))) mNil))) mNil)) (mBlt reprD (mCons (mLst (mCons (mVar 1) (mCons (mVar 1) mNil))) mNil)))) (mRet (mK (.bl false))) mNext)
  (mSeq (mAsg (mCall (g__law_draw) (mCons (mVar 0) (mCons (mBlt lenD (mCons (mVar 3) mNil)) mNil))) (gN 4))
  (mSeq (mAsg (mComp cF__law_back_right_5 [12] ct__law_back_right_5 ci__law_back_right_5 ce__law_back_right_5) (gN 5))
  (mSeq (mAsg (mBin addD (mVar 5) (mLst (mCons (mSl slA (mVar 3) (mPart (mK (.int 1))) mNoPart) (mCons (mBin addD (mVar 3) (mTup (mCons (mK (.int 0)) mNil))) (mCons (mRev (mVar 3)) (mCons (mTup mNil) (mCons (mSl slA (mVar 3) mNoPart (mPart (mK (.int 1)))) mNil))))))) (gN 5))
  (mSeq (mFor F__law_back_right_1 t__law_back_right_1 b__law_back_right_1)
  (mRet (mK (.bl true)))))))))))))
noncomputable def g__law_back_right : Fn := denOf 13 d__law_back_right
abbrev s__law_fits : Stmt := topS 60
theorem sc__law_fits : FnScope ["tune", "pairs", "film", "number"] ["tune", "pairs"] (defScope s__law_fits) := ⟨rfl, rfl, rfl, by decide +kernel, rfl, by decide +kernel, by decide +kernel⟩
noncomputable def F__law_fits_1 : FI := (iSeq (mVar 1))
noncomputable def t__law_fits_1 : FG := (gT 2 (gsC (gN 2) (gsC (gN 3) gs0)))
noncomputable def b__law_fits_1 : FS := (mIfS (mOr (mTest (mBin ltD (mBlt lenD (mCons (mVar 2) mNil)) (mBlt lenD (mCons (mVar 0) mNil)))) (mTest (mBin neD (mCall (g__law_sum) (mCons (mVar 0) (mCons (mSl slA (mVar 2) (mPart (mBin subD (mBlt lenD (mCons (mVar 2) mNil)) (mBlt lenD (mCons (mVar 0) mNil)))) mNoPart) mNil))) (mVar 3)))) (mRet (mK (.bl false))) mNext)
noncomputable def d__law_fits : FS := (mSeq (mFor F__law_fits_1 t__law_fits_1 b__law_fits_1)
  (mRet (mK (.bl true))))
noncomputable def g__law_fits : Fn := denOf 4 d__law_fits
abbrev s__law_best_bits : Stmt := topS 61
theorem sc__law_best_bits : FnScope ["tunes", "size_so", "best", "bits", "some", "most_so", "tune", "one"] ["tunes", "size_so"] (defScope s__law_best_bits) := ⟨rfl, rfl, rfl, by decide +kernel, rfl, by decide +kernel, by decide +kernel⟩
noncomputable def cF__law_best_bits_1 : FI := (iSeq (mVar 0))
noncomputable def ct__law_best_bits_1 : FG := (gN 6)
noncomputable def ci__law_best_bits_1 : FT := mYes
noncomputable def ce__law_best_bits_1 : FE := (mCall (g__law_sum) (mCons (mVar 6) (mCons (mSl slA (mVar 3) (mPart (mBin subD (mVar 1) (mBlt lenD (mCons (mVar 6) mNil)))) mNoPart) mNil)))
noncomputable def cF__law_best_bits_2 : FI := (iSeq (mVar 4))
noncomputable def ct__law_best_bits_2 : FG := (gN 7)
noncomputable def ci__law_best_bits_2 : FT := mYes
noncomputable def ce__law_best_bits_2 : FE := (mCount (mVar 4) (mVar 7))
noncomputable def F__law_best_bits_1 : FI := (iSeq (mCall (g__law_all) (mCons (mTup (mCons (mK (.int 0)) (mCons (mK (.int 1)) mNil))) (mCons (mVar 1) mNil))))
noncomputable def t__law_best_bits_1 : FG := (gN 3)
noncomputable def b__law_best_bits_1 : FS := (mSeq (mAsg (mComp cF__law_best_bits_1 [6] ct__law_best_bits_1 ci__law_best_bits_1 ce__law_best_bits_1) (gN 4))
  (mSeq (mAsg (mIf (mTest (mBin neD (mVar 4) (mLst mNil))) (mBlt maxLD (mCons (mComp cF__law_best_bits_2 [7] ct__law_best_bits_2 ci__law_best_bits_2 ce__law_best_bits_2) mNil)) (mK (.int 0))) (gN 5))
  (mIfS (mOr (mTest (mBin isD (mVar 2) (mK .non))) (mTest (mBin ltD (mVar 5) (mBin ixA (mVar 2) (mK (.int 0)))))) (mAsg (mTup (mCons (mVar 5) (mCons (mVar 3) mNil))) (gN 2)) mNext)))
noncomputable def d__law_best_bits : FS := (mSeq (mAsg (mK .non) (gN 2))
  (mSeq (mFor F__law_best_bits_1 t__law_best_bits_1 b__law_best_bits_1)
  (mRet (mIf (mAnd (mTest (mBin gtD (mBlt lenD (mCons (mVar 0) mNil)) (mK (.int 1)))) (mTest (mBin ltD (mBin ixA (mVar 2) (mK (.int 0))) (mBlt lenD (mCons (mVar 0) mNil))))) (mBin ixA (mVar 2) (mK (.int 1))) (mK .non)))))
noncomputable def g__law_best_bits : Fn := denOf 8 d__law_best_bits
abbrev s__law_menus_right : Stmt := topS 62
theorem sc__law_menus_right : FnScope ["m", "card", "hidden", "pairs", "k", "film", "number", "kept", "due", "first", "again", "j"] ["m"] (defScope s__law_menus_right) := ⟨rfl, rfl, rfl, by decide +kernel, rfl, by decide +kernel, by decide +kernel⟩
noncomputable def cF__law_menus_right_1 : FI := (iRange1 (mCons (mBin addD (mK (.int 1)) (mCall (g__law_draw) (mCons (mVar 0) (mCons (mK (.int 8)) mNil)))) mNil))
noncomputable def ct__law_menus_right_1 : FG := (gN 4)
noncomputable def ci__law_menus_right_1 : FT := mYes
noncomputable def ce__law_menus_right_1 : FE := (mCall (g__law_tune) (mCons (mVar 0) (mCons (mK (.int 4)) mNil)))
noncomputable def cF__law_menus_right_2 : FI := (iRange1 (mCons (mCall (g__law_of) (mCons (mVar 0) (mCons (mLst (mCons (mK (.int 4)) (mCons (mK (.int 6)) (mCons (mK (.int 2)) mNil)))) mNil))) mNil))
noncomputable def ct__law_menus_right_2 : FG := (gN 11)
noncomputable def ci__law_menus_right_2 : FT := mYes
noncomputable def ce__law_menus_right_2 : FE := (mCall (g__law_draw) (mCons (mVar 0) (mCons (mCall (g__law_of) (mCons (mVar 0) (mCons (mLst (mCons (mK (.int 2)) (mCons (mK (.int 5)) mNil))) mNil))) mNil)))
noncomputable def F__law_menus_right_1 : FI := (iRange1 (mCons (mCall (g__law_draw) (mCons (mVar 0) (mCons (mK (.int 3)) mNil))) mNil))
noncomputable def t__law_menus_right_1 : FG := (gN 4)
noncomputable def b__law_menus_right_1 : FS := (mSeq (mAsg (mBlt tupleD (mCons (mComp cF__law_menus_right_2 [11] ct__law_menus_right_2 ci__law_menus_right_2 ce__law_menus_right_2) mNil)) (gN 5))
  (mSeq (mAsg (mBin addD (mCall (g__law_sum) (mCons (mVar 2) (mCons (mSl slA (mVar 5) (mPart (mBlt max2D (mCons (mK (.int 0)) (mCons (mBin subD (mBlt lenD (mCons (mVar 5) mNil)) (mBlt lenD (mCons (mVar 2) mNil))) mNil)))) mNoPart) mNil))) (mCall (g__law_of) (mCons (mVar 0) (mCons (mLst (mCons (mK (.int 0)) (mCons (mK (.int 0)) (mCons (mK (.int 0)) (mCons (mK (.int 1)) mNil))))) mNil)))) (gN 6))
  (mAsg (mBin addD (mVar 3) (mTup (mCons (mTup (mCons (mVar 5) (mCons (mVar 6) mNil))) mNil))) (gN 3))))
noncomputable def cF__law_menus_right_3 : FI := (iRange1 (mCons (mBlt lenD (mCons (mVar 1) mNil)) mNil))
noncomputable def ct__law_menus_right_3 : FG := (gN 4)
noncomputable def ci__law_menus_right_3 : FT := (mTest (mCall (g__law_fits) (mCons (mBin ixA (mVar 1) (mVar 4)) (mCons (mVar 3) mNil))))
noncomputable def ce__law_menus_right_3 : FE := (mVar 4)
noncomputable def cF__law_menus_right_4 : FI := (iSeq (mVar 8))
noncomputable def ct__law_menus_right_4 : FG := (gN 4)
noncomputable def ci__law_menus_right_4 : FT := mYes
noncomputable def ce__law_menus_right_4 : FE := (mBin ixA (mVar 1) (mVar 4))
noncomputable def F__law_menus_right_2 : FI := (iRange1 (mCons (mK (.int 2)) mNil))
noncomputable def t__law_menus_right_2 : FG := (gN 10)
noncomputable def b__law_menus_right_2 : FS := (mIfS (mTest (mBin neD (mBlt reprD (mCons (mLst (mCons (mCall (g_fitting) (mCons (mVar 1) (mCons (mVar 3) mNil))) (mCons (mCall (g_best_ask) (mCons (mVar 1) (mCons (mVar 3) (mCons (mK (.int 6)) mNil)))) mNil))) mNil)) (mBlt reprD (mCons (mLst (mCons (mVar 8) (mCons (mVar 9) mNil))) mNil)))) (mRet (mK (.bl false))) mNext)
noncomputable def d__law_menus_right : FS := (mSeq (mAsg (mBlt tupleD (mCons (mComp cF__law_menus_right_1 [4] ct__law_menus_right_1 ci__law_menus_right_1 ce__law_menus_right_1) mNil)) (gN 1))
  (mSeq (mAsg (mTup (mCons (mCall (g__law_of) (mCons (mVar 0) (mCons (mVar 1) mNil))) (mCons (mTup mNil) mNil))) (gT 2 (gsC (gN 2) (gsC (gN 3) gs0))))
  (mSeq (mFor F__law_menus_right_1 t__law_menus_right_1 b__law_menus_right_1)
  (mSeq (mPar 7 8 (mCons (mBlt reprD (mCons (mLst (mCons (mVar 1) (mCons (mVar 3) mNil))) mNil)) (mCons (mBlt tupleD (mCons (mComp cF__law_menus_right_3 [4] ct__law_menus_right_3 ci__law_menus_right_3 ce__law_menus_right_3) mNil)) mNil)))
  (mSeq (mAsg (mCall (g__law_best_bits) (mCons (mComp cF__law_menus_right_4 [4] ct__law_menus_right_4 ci__law_menus_right_4 ce__law_menus_right_4) (mCons (mK (.int 6)) mNil))) (gN 9))
  (mSeq (mFor F__law_menus_right_2 t__law_menus_right_2 b__law_menus_right_2)
  (mRet (mBin eqD (mBlt reprD (mCons (mLst (mCons (mVar 1) (mCons (mVar 3) mNil))) mNil)) (mVar 7)))))))))
noncomputable def g__law_menus_right : Fn := denOf 12 d__law_menus_right
abbrev lq__law_hand_right : Str := ("_law_hand_right" : Str) ++ ".<locals>." ++ "<lambda>"
abbrev s__law_hand_right : Stmt := topS 63
theorem sc__law_hand_right : FnScope ["told_so", "card"] [] (defScope s__law_hand_right) := ⟨rfl, rfl, rfl, by decide +kernel, rfl, by decide +kernel, by decide +kernel⟩
noncomputable def l__law_hand_right_1 : FE := (mCall (g_rule_told) (mCons (mTup (mCons (mK (.int 0)) (mCons (mK (.int 0)) (mCons (mK (.int 1)) (mCons (mK (.int 1)) mNil))))) (mCons (mTup (mCons (mK (.int 1)) (mCons (mK (.int 7)) (mCons (mK (.int 9)) mNil)))) mNil)))
noncomputable def l__law_hand_right_2 : FE := (mCall (g_rule_told) (mCons (mTup (mCons (mK (.int 1)) mNil)) (mCons (mTup (mCons (mK (.int 21)) mNil)) mNil)))
noncomputable def d__law_hand_right : FS := (mSeq (mAsg (mLst (mCons (mCall (g_does_tell) (mCons (mTup (mCons (mK (.int 1)) (mCons (mK (.int 0)) (mCons (mK (.int 1)) (mCons (mK (.int 1)) mNil))))) (mCons (mK (.int 2)) mNil))) (mCons (mCall (g_does_tell) (mCons (mTup (mCons (mK (.int 0)) (mCons (mK (.int 1)) (mCons (mK (.int 0)) (mCons (mK (.int 1)) mNil))))) (mCons (mK (.int 2)) mNil))) (mCons (mCall (g_does_tell) (mCons (mTup (mCons (mK (.int 1)) mNil)) (mCons (mK (.int 1)) mNil))) (mCons (mCall (g_does_tell) (mCons (mTup mNil) (mCons (mK (.int 1)) mNil))) (mCons (mCall (g_does_tell) (mCons (mTup (mCons (mK (.int 1)) (mCons (mK (.int 1)) mNil))) (mCons (mK (.int 3)) mNil))) mNil)))))) (gN 0))
  (mSeq (mIfS (mOr (mTest (mBin neD (mVar 0) (mLst (mCons (mK (.bl true)) (mCons (mK (.bl false)) (mCons (mK (.bl true)) (mCons (mK (.bl false)) (mCons (mK (.bl false)) mNil)))))))) (mOr (mTest (mBin neD (mCall (g_telling_row) (mCons (mK (.int 3)) mNil)) (mTup (mCons (mK (.int 0)) (mCons (mK (.int 0)) (mCons (mK (.int 1)) (mCons (mK (.int 1)) (mCons (mK (.int 1)) mNil)))))))) (mTest (mBin neD (mSl slA (mCall (g_telling_row) (mCons (mK (.int 6)) mNil)) mNoPart (mPart (mK (.int 5)))) (mBin mulD (mTup (mCons (mK (.int 0)) mNil)) (mK (.int 5))))))) (mRet (mK (.bl false))) mNext)
  (mSeq (mIfS (mTest (mBin neD (mLst (mCons (mCall (g_rule_told) (mCons (mTup (mCons (mK (.int 0)) (mCons (mK (.int 1)) (mCons (mK (.int 1)) mNil)))) (mCons (mTup (mCons (mK (.int 5)) (mCons (mK (.int 3)) mNil))) mNil))) (mCons (mCall (g_rule_told) (mCons (mTup (mCons (mK (.int 1)) mNil)) (mCons (mTup (mCons (mUn negD (mK (.int 20))) mNil)) mNil))) (mCons (mCall (g_rule_told) (mCons (mTup (mCons (mK (.int 0)) (mCons (mK (.int 0)) (mCons (mK (.int 1)) (mCons (mK (.int 1)) mNil))))) (mCons (mTup (mCons (mK (.int 0)) (mCons (mK (.int 7)) (mCons (mUn negD (mK (.int 1))) mNil)))) mNil))) mNil)))) (mLst (mCons (mTup (mCons (mUn negD (mK (.int 2))) (mCons (mK (.int 5)) mNil))) (mCons (mTup (mCons (mUn negD (mK (.int 20))) mNil)) (mCons (mTup (mCons (mUn negD (mK (.int 8))) (mCons (mK (.int 7)) mNil))) mNil)))))) (mRet (mK (.bl false))) mNext)
  (mSeq (mAsg (mLst (mCons (mLam 1 1 lq__law_hand_right l__law_hand_right_1 h__law_heard mNil) (mCons (mLam 1 1 lq__law_hand_right l__law_hand_right_2 h__law_heard mNil) mNil))) (gN 0))
  (mSeq (mIfS (mTest (mBin neD (mVar 0) (mLst (mCons (mTup (mCons (mK (.str "nothing")) (mCons (mTup (mCons (mK (.int 1)) (mCons (mK (.int 7)) (mCons (mK (.int 9)) mNil)))) mNil))) (mCons (mTup (mCons (mK (.str "nothing")) (mCons (mTup (mCons (mK (.int 21)) mNil)) mNil))) mNil))))) (mRet (mK (.bl false))) mNext)
  (mSeq (mAsg (mTup (mCons (mTup (mCons (mK (.int 0)) (mCons (mK (.int 1)) mNil))) (mCons (mTup (mCons (mK (.int 1)) mNil)) (mCons (mTup (mCons (mK (.int 1)) (mCons (mK (.int 1)) mNil))) (mCons (mTup (mCons (mK (.int 0)) (mCons (mK (.int 0)) (mCons (mK (.int 1)) mNil)))) mNil))))) (gN 1))
  (mSeq (mIfS (mTest (mBin neD (mLst (mCons (mCall (g_fitting) (mCons (mVar 1) (mCons (mTup mNil) mNil))) (mCons (mCall (g_fitting) (mCons (mVar 1) (mCons (mTup (mCons (mTup (mCons (mTup (mCons (mK (.int 0)) (mCons (mK (.int 1)) mNil))) (mCons (mK (.int 1)) mNil))) mNil)) mNil))) (mCons (mCall (g_fitting) (mCons (mVar 1) (mCons (mTup (mCons (mTup (mCons (mTup (mCons (mK (.int 3)) (mCons (mK (.int 5)) (mCons (mK (.int 2)) mNil)))) (mCons (mK (.int 5)) mNil))) mNil)) mNil))) mNil)))) (mLst (mCons (mTup (mCons (mK (.int 0)) (mCons (mK (.int 1)) (mCons (mK (.int 2)) (mCons (mK (.int 3)) mNil))))) (mCons (mTup (mCons (mK (.int 0)) (mCons (mK (.int 1)) (mCons (mK (.int 2)) mNil)))) (mCons (mTup (mCons (mK (.int 0)) (mCons (mK (.int 3)) mNil))) mNil)))))) (mRet (mK (.bl false))) mNext)
  (mSeq (mIfS (mOr (mTest (mBin neD (mCall (g_best_ask) (mCons (mTup (mCons (mTup (mCons (mK (.int 0)) (mCons (mK (.int 1)) mNil))) (mCons (mTup (mCons (mK (.int 0)) (mCons (mK (.int 0)) (mCons (mK (.int 1)) mNil)))) mNil))) (mCons (mTup mNil) (mCons (mK (.int 10)) mNil)))) (mBin addD (mBin mulD (mTup (mCons (mK (.int 0)) mNil)) (mK (.int 7))) (mTup (mCons (mK (.int 1)) (mCons (mK (.int 0)) (mCons (mK (.int 0)) mNil))))))) (mNot (mTest (mCall (g_does_tell) (mCons (mBin addD (mBin mulD (mTup (mCons (mK (.int 0)) mNil)) (mK (.int 60))) (mTup (mCons (mK (.int 0)) (mCons (mK (.int 0)) (mCons (mK (.int 1)) (mCons (mK (.int 1)) (mCons (mK (.int 1)) mNil))))))) (mCons (mK (.int 3)) mNil)))))) (mRet (mK (.bl false))) mNext)
  (mSeq (mIfS (mTest (mBin neD (mCall (g_fitting) (mCons (mBin mulD (mTup (mCons (mTup (mCons (mK (.int 0)) (mCons (mK (.int 1)) mNil))) (mCons (mTup (mCons (mK (.int 1)) mNil)) mNil))) (mK (.int 10))) (mCons (mBin mulD (mTup (mCons (mTup (mCons (mTup (mCons (mK (.int 5)) (mCons (mK (.int 3)) mNil))) (mCons (mK (.int 5)) mNil))) mNil)) (mK (.int 50))) mNil))) (mTupRg3 (mCons (mK (.int 0)) (mCons (mK (.int 20)) (mCons (mK (.int 2)) mNil)))))) (mRet (mK (.bl false))) mNext)
  (mSeq (mAsg (mLst (mCons (mCall (g_best_ask) (mCons (mVar 1) (mCons (mTup mNil) (mCons (mK (.int 6)) mNil)))) (mCons (mCall (g_best_ask) (mCons (mSl slA (mVar 1) mNoPart (mPart (mK (.int 1)))) (mCons (mTup mNil) (mCons (mK (.int 6)) mNil)))) (mCons (mCall (g_best_ask) (mCons (mTup (mCons (mTup (mCons (mK (.int 1)) (mCons (mK (.int 2)) mNil))) (mCons (mTup (mCons (mK (.int 1)) (mCons (mK (.int 2)) mNil))) mNil))) (mCons (mTup mNil) (mCons (mK (.int 10)) mNil)))) (mCons (mCall (g_best_ask) (mCons (mTup (mCons (mTup (mCons (mK (.int 0)) (mCons (mK (.int 1)) mNil))) (mCons (mTup (mCons (mK (.int 0)) (mCons (mK (.int 0)) (mCons (mK (.int 1)) mNil)))) mNil))) (mCons (mTup mNil) (mCons (mK (.int 7)) mNil)))) mNil))))) (gN 0))
  (mRet (mBin eqD (mVar 0) (mLst (mCons (mTup (mCons (mK (.int 0)) (mCons (mK (.int 0)) (mCons (mK (.int 0)) (mCons (mK (.int 0)) (mCons (mK (.int 1)) (mCons (mK (.int 0)) mNil))))))) (mCons (mK .non) (mCons (mK .non) (mCons (mTup (mCons (mK (.int 0)) (mCons (mK (.int 0)) (mCons (mK (.int 0)) (mCons (mK (.int 0)) (mCons (mK (.int 1)) (mCons (mK (.int 0)) (mCons (mK (.int 0)) mNil)))))))) mNil)))))))))))))))))
noncomputable def g__law_hand_right : Fn := denOf 2 d__law_hand_right
abbrev s_law : Stmt := topS 64
theorem sc_law : FnScope ["script", "k", "m"] ["script"] (defScope s_law) := ⟨rfl, rfl, rfl, by decide +kernel, rfl, by decide +kernel, by decide +kernel⟩
noncomputable def F_law_1 : FI := (iRange1 (mCons (mBin addD (mK (.int 3)) (mBlt min2D (mCons (mBlt lenD (mCons (mVar 0) mNil)) (mCons (mK (.int 5)) mNil)))) mNil))
noncomputable def t_law_1 : FG := (gN 1)
noncomputable def b_law_1 : FS := (mSeq (mAsg (mCall (g__law_begun) (mCons (mVar 0) (mCons (mVar 1) mNil))) (gN 2))
  (mIfS (mOr (mNot (mTest (mCall (g__law_rows_right) (mCons (mVar 2) mNil)))) (mOr (mNot (mTest (mCall (g__law_back_right) (mCons (mVar 2) mNil)))) (mNot (mTest (mCall (g__law_menus_right) (mCons (mVar 2) mNil)))))) (mRet (mK (.bl false))) mNext))
noncomputable def d_law : FS := (mSeq (mFor F_law_1 t_law_1 b_law_1)
  (mRet (mCall g__law_hand_right mNil)))
noncomputable def g_law : Fn := denOf 3 d_law
section
variable {P : Program} {w : World} {mg : Str → Option Value} {base : Heap} {Γ : Ct} {f : Addr} {fd : FuncData}
theorem ok_is_int (n : Ns Γ mg) (F : Fun Γ.K "is_int" "is_int" s_is_int f fd) : FnG P w mg base Γ 1 f fd ["thing"] g_is_int :=
  have S := sc_is_int
  ok_fn (N := ["thing"]) (c := d_is_int) F S fun cdv A outer s H E W hr hg tk => (mb_one (ms_ret (me_and (me_callB cr_isiA (sIsiJ (js := [1, 4, 8]) rfl n.xj) (by rfl) n.n_isinstance (by decide +kernel) (ma_cons (me_var (pv 0)) (ma_cons (me_ty (by rfl) n.n_int (by decide +kernel)) ma_nil))) (me_and (me_cmp op_notC sIsntC (nomark _) (me_var (pv 0)) me_bl) (me_one (me_cmp op_notC sIsntC (nomark _) (me_var (pv 0)) me_bl))))))
theorem ok_is_int_within (n : Ns Γ mg) (F : Fun Γ.K "is_int_within" "is_int_within" s_is_int_within f fd) (c_is_int : Cal P w mg base Γ 1 "is_int" ["thing"] g_is_int) : FnG P w mg base Γ 2 f fd ["thing", "least", "most"] g_is_int_within :=
  have S := sc_is_int_within
  ok_fn (N := ["thing", "least", "most"]) (c := d_is_int_within) F S fun cdv A outer s H E W hr hg tk => (mb_one (ms_ret (me_and (me_cal c_is_int rfl (hr.mono (by decide)) hg tk (by rfl) (ma_cons (me_var (pv 0)) ma_nil) 1 (len_cons len_nil) rfl rfl) (me_one (me_chain op_le op_le sCmp sCmp (by rfl) (me_var (pv 1)) (me_var (pv 0)) (me_var (pv 2)))))))
theorem ok_is_tuple (n : Ns Γ mg) (F : Fun Γ.K "is_tuple" "is_tuple" s_is_tuple f fd) : FnG P w mg base Γ 1 f fd ["thing", "least", "most"] g_is_tuple :=
  have S := sc_is_tuple
  ok_fn (N := ["thing", "least", "most"]) (c := d_is_tuple) F S fun cdv A outer s H E W hr hg tk => (mb_one (ms_ret (me_and (me_callB cr_isiA (sIsiJ (js := [1, 4, 8]) rfl n.xj) (by rfl) n.n_isinstance (by decide +kernel) (ma_cons (me_var (pv 0)) (ma_cons (me_ty (by rfl) n.n_tuple (by decide +kernel)) ma_nil))) (me_one (me_chain op_le op_le sCmp sCmp (by rfl) (me_var (pv 1)) (me_callB call_len (sLen rfl) (by rfl) n.n_len (by decide +kernel) (ma_cons (me_var (pv 0)) ma_nil)) (me_var (pv 2)))))))
theorem ok_first_outside (n : Ns Γ mg) (F : Fun Γ.K "first_outside" "first_outside" s_first_outside f fd) : FnG P w mg base Γ 1 f fd ["things", "least", "most"] g_first_outside :=
  have S := sc_first_outside
  ok_fn (N := ["things", "least", "most", "number", "thing"]) (c := d_first_outside) F S fun cdv A outer s H E W hr hg tk => (mb_cons (ms_for (passes_of rfl) rfl (mi_enum rfl (by rfl) n.n_enumerate (ma_cons (me_var (pv 0)) ma_nil)) (mg_tup' rfl rfl (mgs_cons' (mg_name (pg_name (i := 3) S.nd rfl (.inl rfl))) (mgs_cons' (mg_name (pg_name (i := 4) S.nd rfl (.inl rfl))) mgs_nil))) (mb_one (ms_if (mt_w (mw_or (mt_not (mt_val (me_callB cr_isiA (sIsiJ (js := [1, 4, 8]) rfl n.xj) (by rfl) n.n_isinstance (by decide +kernel) (ma_cons (me_var (pv 4)) (ma_cons (me_ty (by rfl) n.n_int (by decide +kernel)) ma_nil))))) (mw_or (mt_cmp op_isC sIsC (nomark _) (me_var (pv 4)) me_bl) (mw_or (mt_cmp op_isC sIsC (nomark _) (me_var (pv 4)) me_bl) (mw_or1 (mt_not (mt_chain op_le op_le sCmp sCmp (by rfl) (me_var (pv 1)) (me_var (pv 4)) (me_var (pv 2))))))))) (mb_one (ms_ret (me_var (pv 3)))) mb_nil)))
  (mb_one (ms_ret me_non)))
theorem ok_need_rule (n : Ns Γ mg) (F : Fun Γ.K "need_rule" "need_rule" s_need_rule f fd) (x_BadRule : XcR P w Γ.K mg base (Γ.cls 1) "BadRule" "number") (c_is_tuple : Cal P w mg base Γ 1 "is_tuple" ["thing", "least", "most"] g_is_tuple) (c_first_outside : Cal P w mg base Γ 1 "first_outside" ["things", "least", "most"] g_first_outside) : FnG P w mg base Γ 3 f fd ["thing"] g_need_rule :=
  have S := sc_need_rule
  ok_fn (N := ["thing", "number"]) (c := d_need_rule) F S fun cdv A outer s H E W hr hg tk => (mb_cons (ms_if (mt_not (mt_val (me_cal c_is_tuple rfl (hr.mono (by decide)) hg tk (by rfl) (ma_cons (me_var (pv 0)) (ma_cons me_int (ma_cons (me_globJ (by rfl) n.c_MOST_WEIGHTS) ma_nil))) 3 (len_cons (len_cons (len_cons len_nil))) rfl rfl))) (mb_one (ms_raise rfl x_BadRule (hr.mono (by decide)) rfl tk (by rfl) me_non)) mb_nil)
  (mb_cons (ms_set (i := 1) S.nd rfl (.inl rfl) (me_cal c_first_outside rfl (hr.mono (by decide)) hg tk (by rfl) (ma_cons (me_var (pv 0)) (ma_cons (me_un un_neg sNeg (me_globJ (by rfl) n.c_GREATEST_WEIGHT)) (ma_cons (me_globJ (by rfl) n.c_GREATEST_WEIGHT) ma_nil))) 3 (len_cons (len_cons (len_cons len_nil))) rfl rfl))
  (mb_cons (ms_if (mt_cmp op_notC sIsntC (nomark _) (me_var (pv 1)) me_non) (mb_one (ms_raise rfl x_BadRule (hr.mono (by decide)) rfl tk (by rfl) (me_var (pv 1)))) mb_nil)
  (mb_one (ms_ret (me_var (pv 0)))))))
theorem ok_is_rule (n : Ns Γ mg) (F : Fun Γ.K "is_rule" "is_rule" s_is_rule f fd) (c_need_rule : Cal P w mg base Γ 3 "need_rule" ["thing"] g_need_rule) : FnG P w mg base Γ 4 f fd ["thing"] g_is_rule :=
  have S := sc_is_rule
  ok_fn (N := ["thing"]) (c := d_is_rule) F S fun cdv A outer s H E W hr hg tk => (mb_cons (ms_tryJ (j := 1) rfl rfl ⟨by rfl, by decide, .inl n.k_BadRule⟩ tk rfl n.xj (fun W pn xe tk => (mb_one (ms_expr (me_cal c_need_rule rfl (hr.mono (by decide)) hg tk (by rfl) (ma_cons (me_var (pv 0)) ma_nil) 1 (len_cons len_nil) rfl rfl)))) (fun a pn => (mb_one (ms_ret me_bl))))
  (mb_one (ms_ret me_bl)))
theorem ok_need_row (n : Ns Γ mg) (F : Fun Γ.K "need_row" "need_row" s_need_row f fd) (c_is_tuple : Cal P w mg base Γ 1 "is_tuple" ["thing", "least", "most"] g_is_tuple) (c_first_outside : Cal P w mg base Γ 1 "first_outside" ["things", "least", "most"] g_first_outside) : FnG P w mg base Γ 2 f fd ["thing"] g_need_row :=
  have S := sc_need_row
  ok_fn (N := ["thing", "number"]) (c := d_need_row) F S fun cdv A outer s H E W hr hg tk => (mb_cons (ms_if (mt_not (mt_val (me_cal c_is_tuple rfl (hr.mono (by decide)) hg tk (by rfl) (ma_cons (me_var (pv 0)) (ma_cons me_int (ma_cons (me_globJ (by rfl) n.c_MOST_RESULTS) ma_nil))) 3 (len_cons (len_cons (len_cons len_nil))) rfl rfl))) (mb_one ms_stuck) mb_nil)
  (mb_cons (ms_set (i := 1) S.nd rfl (.inl rfl) (me_cal c_first_outside rfl (hr.mono (by decide)) hg tk (by rfl) (ma_cons (me_var (pv 0)) (ma_cons me_int (ma_cons (me_globJ (by rfl) n.c_GREATEST_RESULT) ma_nil))) 3 (len_cons (len_cons (len_cons len_nil))) rfl rfl))
  (mb_cons (ms_if (mt_cmp op_notC sIsntC (nomark _) (me_var (pv 1)) me_non) (mb_one ms_stuck) mb_nil)
  (mb_one (ms_ret (me_var (pv 0)))))))
theorem ok_is_row (n : Ns Γ mg) (F : Fun Γ.K "is_row" "is_row" s_is_row f fd) (c_need_row : Cal P w mg base Γ 2 "need_row" ["thing"] g_need_row) : FnG P w mg base Γ 3 f fd ["thing"] g_is_row :=
  have S := sc_is_row
  ok_fn (N := ["thing"]) (c := d_is_row) F S fun cdv A outer s H E W hr hg tk => (mb_cons (ms_tryN (mb_one (ms_expr (me_cal c_need_row rfl (hr.mono (by decide)) hg tk0 (by rfl) (ma_cons (me_var (pv 0)) ma_nil) 1 (len_cons len_nil) rfl rfl))))
  (mb_one (ms_ret me_bl)))
theorem ok_index_of (n : Ns Γ mg) (F : Fun Γ.K "index_of" "index_of" s_index_of f fd) : FnG P w mg base Γ 1 f fd ["rule", "results"] g_index_of :=
  have S := sc_index_of
  ok_fn (N := ["rule", "results", "last", "weight", "result"]) (c := d_index_of) F S fun cdv A outer s H E W hr hg tk => (mb_cons (ms_set (i := 2) S.nd rfl (.inl rfl) (me_callB cr_sortedA (sSortedA rfl) (by rfl) n.n_sorted (by decide +kernel) (ma_cons (me_sl rfl (me_var (pv 1)) (mo_some (me_un un_neg sNeg (me_callB call_len (sLen rfl) (by rfl) n.n_len (by decide +kernel) (ma_cons (me_var (pv 0)) ma_nil)))) mo_none) ma_nil)))
  (mb_one (ms_ret (me_callB (cr_sumA rfl) (sSumA rfl) (by rfl) n.n_sum (by decide +kernel) (ma_cons (me_comp (own := [("weight", 3), ("result", 4)]) (g := (gTup Γ.K 2 (gCons (gName 3) (gCons (gName 4) gNil)))) rfl S.nd (mi_zip rfl (by rfl) n.n_zip (ma_cons (me_var (pv 0)) (ma_cons (me_var (pv 2)) ma_nil))) (blkOk_by (own := [("weight", 3), ("result", 4)]) (N := ["rule", "results", "last", "weight", "result"]) (sc := defScope s_index_of) (by decide +kernel)) (fun _ _ _ _ _ => pg_tup rfl (pgs_cons (pg_name (i := 3) S.nd rfl (.inl rfl)) (pgs_cons (pg_name (i := 4) S.nd rfl (.inl rfl)) pgs_nil))) (gw_tup rfl (gws_cons (gw_name (by decide)) (gws_cons (gw_name (by decide)) gws_nil))) (fun _ _ _ _ _ => mts_nil) (fun _ _ _ _ _ => (me_op opMul sMul (me_var (pv 3)) (me_var (pv 4))))) ma_nil)))))
theorem ok_indexes_by_ones (n : Ns Γ mg) (F : Fun Γ.K "indexes_by_ones" "indexes_by_ones" s_indexes_by_ones f fd) : FnG P w mg base Γ 1 f fd ["rule"] g_indexes_by_ones :=
  have S := sc_indexes_by_ones
  ok_fn (N := ["rule", "told", "weight"]) (c := d_indexes_by_ones) F S fun cdv A outer s H E W hr hg tk => (mb_cons (ms_set (i := 1) S.nd rfl (.inl rfl) (me_lstM (ma_cons me_int ma_nil)))
  (mb_cons (ms_for (passes_of rfl) rfl (mi_seq rfl (me_rev rfl (me_var (pv 0)))) (mg_name (pg_name (i := 2) S.nd rfl (.inl rfl))) (mb_one (ms_expr (me_app (pe_bm PySem.F.plainAttrs_list PySem.F.slot_list_append PySem.F.type_list_append mt_append (me_var (pv 1)) (pa_cons (me_op opAdd sAdd (me_ix rfl (hu_of hr) (me_var (pv 1)) (me_un un_neg sNeg me_int) (fun _ _ => rfl) (fun _ _ => rfl)) (me_var (pv 2))) pa_nil))))))
  (mb_one (ms_ret (me_var (pv 1))))))
theorem ok_many_of (n : Ns Γ mg) (F : Fun Γ.K "many_of" "many_of" s_many_of f fd) : FnG P w mg base Γ 1 f fd ["base", "wide"] g_many_of :=
  have S := sc_many_of
  ok_fn (N := ["base", "wide", "many", "_"]) (c := d_many_of) F S fun cdv A outer s H E W hr hg tk => (mb_cons (ms_set (i := 2) S.nd rfl (.inl rfl) me_int)
  (mb_cons (ms_for (passes_of rfl) rfl (mi_range1 (by rfl) n.n_range (ma_cons (me_var (pv 1)) ma_nil)) (mg_name (pg_name (i := 3) S.nd rfl (.inl rfl))) (mb_one (ms_set (i := 2) S.nd rfl (.inl rfl) (me_op opMul sMul (me_var (pv 0)) (me_var (pv 2))))))
  (mb_one (ms_ret (me_var (pv 2))))))
theorem ok_signs_of (n : Ns Γ mg) (F : Fun Γ.K "signs_of" "signs_of" s_signs_of f fd) : FnG P w mg base Γ 1 f fd ["number", "signs", "wide"] g_signs_of :=
  have S := sc_signs_of
  ok_fn (N := ["number", "signs", "wide", "told", "_", "figure"]) (c := d_signs_of) F S fun cdv A outer s H E W hr hg tk => (mb_cons (ms_set (i := 3) S.nd rfl (.inl rfl) (me_lstM ma_nil))
  (mb_cons (ms_for (passes_of rfl) rfl (mi_range1 (by rfl) n.n_range (ma_cons (me_var (pv 2)) ma_nil)) (mg_name (pg_name (i := 4) S.nd rfl (.inl rfl))) (mb_cons (ms_setT (me_callB call_divmod sDivmod (by rfl) n.n_divmod (by decide +kernel) (ma_cons (me_var (pv 0)) (ma_cons (me_callB call_len (sLen rfl) (by rfl) n.n_len (by decide +kernel) (ma_cons (me_var (pv 1)) ma_nil)) ma_nil))) (mg_tup' rfl rfl (mgs_cons' (mg_name (pg_name (i := 0) S.nd rfl (.inl rfl))) (mgs_cons' (mg_name (pg_name (i := 5) S.nd rfl (.inl rfl))) mgs_nil))))
  (mb_one (ms_expr (me_app (pe_bm PySem.F.plainAttrs_list PySem.F.slot_list_append PySem.F.type_list_append mt_append (me_var (pv 3)) (pa_cons (me_ix rfl (hu_of hr) (me_var (pv 1)) (me_var (pv 5)) (fun _ _ => rfl) (fun _ _ => rfl)) pa_nil)))))))
  (mb_one (ms_ret (me_callTy call_tuple_of (sTuple rfl) (by rfl) n.n_tuple (by decide +kernel) (ma_cons (me_rev rfl (me_var (pv 3))) ma_nil))))))
theorem ok_ones_of (n : Ns Γ mg) (F : Fun Γ.K "ones_of" "ones_of" s_ones_of f fd) : FnG P w mg base Γ 1 f fd ["wide"] g_ones_of :=
  have S := sc_ones_of
  ok_fn (N := ["wide", "ones", "_", "many"]) (c := d_ones_of) F S fun cdv A outer s H E W hr hg tk => (mb_cons (ms_set (i := 1) S.nd rfl (.inl rfl) (me_lst (ma_cons me_int ma_nil)))
  (mb_cons (ms_for (passes_of rfl) rfl (mi_range1 (by rfl) n.n_range (ma_cons (me_var (pv 0)) ma_nil)) (mg_name (pg_name (i := 2) S.nd rfl (.inl rfl))) (mb_one (ms_set (i := 1) S.nd rfl (.inl rfl) (me_op opAdd sAdd (me_var (pv 1)) (me_comp (own := [("many", 3)]) (g := (gName 3)) rfl S.nd (mi_seq rfl (me_var (pv 1))) (blkOk_by (own := [("many", 3)]) (N := ["wide", "ones", "_", "many"]) (sc := defScope s_ones_of) (by decide +kernel)) (fun _ _ _ _ _ => pg_name (i := 3) S.nd rfl (.inl rfl)) (gw_name (by decide)) (fun _ _ _ _ _ => mts_nil) (fun _ _ _ _ _ => (me_op opAdd sAdd (me_var (pv 3)) me_int)))))))
  (mb_one (ms_ret (me_var (pv 1))))))
theorem ok_need_bit_row (n : Ns Γ mg) (F : Fun Γ.K "need_bit_row" "need_bit_row" s_need_bit_row f fd) (c_first_outside : Cal P w mg base Γ 1 "first_outside" ["things", "least", "most"] g_first_outside) (c_need_row : Cal P w mg base Γ 2 "need_row" ["thing"] g_need_row) : FnG P w mg base Γ 3 f fd ["thing"] g_need_bit_row :=
  have S := sc_need_bit_row
  ok_fn (N := ["thing", "number"]) (c := d_need_bit_row) F S fun cdv A outer s H E W hr hg tk => (mb_cons (ms_set (i := 1) S.nd rfl (.inl rfl) (me_cal c_first_outside rfl (hr.mono (by decide)) hg tk (by rfl) (ma_cons (me_cal c_need_row rfl (hr.mono (by decide)) hg tk (by rfl) (ma_cons (me_var (pv 0)) ma_nil) 1 (len_cons len_nil) rfl rfl) (ma_cons me_int (ma_cons me_int ma_nil))) 3 (len_cons (len_cons (len_cons len_nil))) rfl rfl))
  (mb_cons (ms_if (mt_cmp op_notC sIsntC (nomark _) (me_var (pv 1)) me_non) (mb_one ms_stuck) mb_nil)
  (mb_one (ms_ret (me_var (pv 0))))))
theorem ok_need_many (n : Ns Γ mg) (F : Fun Γ.K "need_many" "need_many" s_need_many f fd) (x_BadNumber : XcR P w Γ.K mg base (Γ.cls 4) "BadNumber" "value") (c_is_int_within : Cal P w mg base Γ 2 "is_int_within" ["thing", "least", "most"] g_is_int_within) : FnG P w mg base Γ 3 f fd ["thing"] g_need_many :=
  have S := sc_need_many
  ok_fn (N := ["thing"]) (c := d_need_many) F S fun cdv A outer s H E W hr hg tk => (mb_cons (ms_if (mt_not (mt_val (me_cal c_is_int_within rfl (hr.mono (by decide)) hg tk (by rfl) (ma_cons (me_var (pv 0)) (ma_cons me_int (ma_cons (me_globJ (by rfl) n.c_MOST_WEIGHTS) ma_nil))) 3 (len_cons (len_cons (len_cons len_nil))) rfl rfl))) (mb_one (ms_raise rfl x_BadNumber (hr.mono (by decide)) rfl tk (by rfl) (me_var (pv 0)))) mb_nil)
  (mb_one (ms_ret (me_var (pv 0)))))
theorem ok_ones_behind (n : Ns Γ mg) (F : Fun Γ.K "ones_behind" "ones_behind" s_ones_behind f fd) : FnG P w mg base Γ 1 f fd ["row", "many"] g_ones_behind :=
  have S := sc_ones_behind
  ok_fn (N := ["row", "many", "at"]) (c := d_ones_behind) F S fun cdv A outer s H E W hr hg tk => (mb_one (ms_ret (me_comp (own := [("at", 2)]) (g := (gName 2)) rfl S.nd (mi_range1 (by rfl) n.n_range (ma_cons (me_op opAdd sAdd (me_op op_sub sSub (me_callB call_len (sLen rfl) (by rfl) n.n_len (by decide +kernel) (ma_cons (me_var (pv 0)) ma_nil)) (me_var (pv 1))) me_int) ma_nil)) (blkOk_by (own := [("at", 2)]) (N := ["row", "many", "at"]) (sc := defScope s_ones_behind) (by decide +kernel)) (fun _ _ _ _ _ => pg_name (i := 2) S.nd rfl (.inl rfl)) (gw_name (by decide)) (fun _ _ _ _ _ => mts_nil) (fun _ _ _ _ _ => (me_callB (cr_sumA rfl) (sSumA rfl) (by rfl) n.n_sum (by decide +kernel) (ma_cons (me_sl rfl (me_var (pv 0)) (mo_some (me_var (pv 2))) (mo_some (me_op opAdd sAdd (me_var (pv 2)) (me_var (pv 1))))) ma_nil))))))
theorem ok_tells (n : Ns Γ mg) (F : Fun Γ.K "tells" "tells" s_tells f fd) (c_ones_behind : Cal P w mg base Γ 1 "ones_behind" ["row", "many"] g_ones_behind) : FnG P w mg base Γ 2 f fd ["row", "many"] g_tells :=
  have S := sc_tells
  ok_fn (N := ["row", "many", "found", "ones"]) (c := d_tells) F S fun cdv A outer s H E W hr hg tk => (mb_cons (ms_set (i := 2) S.nd rfl (.inr rfl) (me_cal c_ones_behind rfl (hr.mono (by decide)) hg tk (by rfl) (ma_cons (me_var (pv 0)) (ma_cons (me_var (pv 1)) ma_nil)) 2 (len_cons (len_cons len_nil)) rfl rfl))
  (mb_one (ms_ret (me_callB (cr_all rfl) (sAll rfl) (by rfl) n.n_all (by decide +kernel) (ma_cons (me_comp (own := [("ones", 3)]) (g := (gName 3)) rfl S.nd (mi_range2 (by rfl) n.n_range (ma_cons me_int (ma_cons (me_op opAdd sAdd (me_var (pv 1)) me_int) ma_nil))) (blkOk_by (own := [("ones", 3)]) (N := ["row", "many", "found", "ones"]) (sc := defScope s_tells) (by decide +kernel)) (fun _ _ _ _ _ => pg_name (i := 3) S.nd rfl (.inl rfl)) (gw_name (by decide)) (fun _ _ _ _ _ => mts_nil) (fun _ _ _ _ _ => (me_cmp op_in_seq (sInQ rfl) (by rfl) (me_var (pv 3)) (me_var (pv 2))))) ma_nil)))))
theorem ok_does_tell (n : Ns Γ mg) (F : Fun Γ.K "does_tell" "does_tell" s_does_tell f fd) (c_need_bit_row : Cal P w mg base Γ 3 "need_bit_row" ["thing"] g_need_bit_row) (c_tells : Cal P w mg base Γ 2 "tells" ["row", "many"] g_tells) (c_need_many : Cal P w mg base Γ 3 "need_many" ["thing"] g_need_many) : FnG P w mg base Γ 4 f fd ["row", "many"] g_does_tell :=
  have S := sc_does_tell
  ok_fn (N := ["row", "many"]) (c := d_does_tell) F S fun cdv A outer s H E W hr hg tk => (mb_cons (ms_expr (me_cal c_need_bit_row rfl (hr.mono (by decide)) hg tk (by rfl) (ma_cons (me_var (pv 0)) ma_nil) 1 (len_cons len_nil) rfl rfl))
  (mb_one (ms_ret (me_cal c_tells rfl (hr.mono (by decide)) hg tk (by rfl) (ma_cons (me_var (pv 0)) (ma_cons (me_cal c_need_many rfl (hr.mono (by decide)) hg tk (by rfl) (ma_cons (me_var (pv 1)) ma_nil) 1 (len_cons len_nil) rfl rfl) ma_nil)) 2 (len_cons (len_cons len_nil)) rfl rfl))))
theorem ok_telling_row (n : Ns Γ mg) (F : Fun Γ.K "telling_row" "telling_row" s_telling_row f fd) (c_need_many : Cal P w mg base Γ 3 "need_many" ["thing"] g_need_many) : FnG P w mg base Γ 4 f fd ["many"] g_telling_row :=
  have S := sc_telling_row
  ok_fn (N := ["many"]) (c := d_telling_row) F S fun cdv A outer s H E W hr hg tk => (mb_cons (ms_expr (me_cal c_need_many rfl (hr.mono (by decide)) hg tk (by rfl) (ma_cons (me_var (pv 0)) ma_nil) 1 (len_cons len_nil) rfl rfl))
  (mb_one (ms_ret (me_op opAdd sAdd (me_op opMul sMul (me_tup (ma_cons me_int ma_nil)) (me_op op_sub sSub (me_var (pv 0)) me_int)) (me_op opMul sMul (me_tup (ma_cons me_int ma_nil)) (me_var (pv 0)))))))
theorem ok_need_numbers (n : Ns Γ mg) (F : Fun Γ.K "need_numbers" "need_numbers" s_need_numbers f fd) (x_BadNumber : XcR P w Γ.K mg base (Γ.cls 4) "BadNumber" "value") (c_is_tuple : Cal P w mg base Γ 1 "is_tuple" ["thing", "least", "most"] g_is_tuple) (c_is_int : Cal P w mg base Γ 1 "is_int" ["thing"] g_is_int) (c_tells : Cal P w mg base Γ 2 "tells" ["row", "many"] g_tells) : FnG P w mg base Γ 3 f fd ["thing", "row"] g_need_numbers :=
  have S := sc_need_numbers
  ok_fn (N := ["thing", "row", "many", "number"]) (c := d_need_numbers) F S fun cdv A outer s H E W hr hg tk => (mb_cons (ms_if (mt_w (mw_or (mt_not (mt_val (me_cal c_is_tuple rfl (hr.mono (by decide)) hg tk (by rfl) (ma_cons (me_var (pv 0)) (ma_cons me_int (ma_cons (me_callB call_len (sLen rfl) (by rfl) n.n_len (by decide +kernel) (ma_cons (me_var (pv 1)) ma_nil)) ma_nil))) 3 (len_cons (len_cons (len_cons len_nil))) rfl rfl))) (mw_or1 (mt_not (mt_val (me_callB (cr_all rfl) (sAll rfl) (by rfl) n.n_all (by decide +kernel) (ma_cons (me_comp (own := [("number", 3)]) (g := (gName 3)) rfl S.nd (mi_seq rfl (me_var (pv 0))) (blkOk_by (own := [("number", 3)]) (N := ["thing", "row", "many", "number"]) (sc := defScope s_need_numbers) (by decide +kernel)) (fun _ _ _ _ _ => pg_name (i := 3) S.nd rfl (.inl rfl)) (gw_name (by decide)) (fun _ _ _ _ _ => mts_nil) (fun _ _ _ _ _ => (me_cal c_is_int rfl (hr.mono (by decide)) hg tk0 (by rfl) (ma_cons (me_var (pv 3)) ma_nil) 1 (len_cons len_nil) rfl rfl))) ma_nil))))))) (mb_one (ms_raise rfl x_BadNumber (hr.mono (by decide)) rfl tk (by rfl) (me_var (pv 0)))) mb_nil)
  (mb_cons (ms_set (i := 2) S.nd rfl (.inl rfl) (me_op op_sub sSub (me_op opAdd sAdd (me_callB call_len (sLen rfl) (by rfl) n.n_len (by decide +kernel) (ma_cons (me_var (pv 1)) ma_nil)) me_int) (me_callB call_len (sLen rfl) (by rfl) n.n_len (by decide +kernel) (ma_cons (me_var (pv 0)) ma_nil))))
  (mb_cons (ms_if (mt_w (mw_or (mt_cmp op_gt sCmp (nomark _) (me_var (pv 2)) (me_globJ (by rfl) n.c_MOST_WEIGHTS)) (mw_or1 (mt_not (mt_val (me_cal c_tells rfl (hr.mono (by decide)) hg tk (by rfl) (ma_cons (me_var (pv 1)) (ma_cons (me_var (pv 2)) ma_nil)) 2 (len_cons (len_cons len_nil)) rfl rfl)))))) (mb_one (ms_raise rfl x_BadNumber (hr.mono (by decide)) rfl tk (by rfl) (me_var (pv 0)))) mb_nil)
  (mb_one (ms_ret (me_var (pv 2)))))))
theorem ok_rule_told (n : Ns Γ mg) (F : Fun Γ.K "rule_told" "rule_told" s_rule_told f fd) (y_Nothing : XgR P w Γ.K mg base (Γ.cls 8) "Nothing" "value") (c_need_bit_row : Cal P w mg base Γ 3 "need_bit_row" ["thing"] g_need_bit_row) (c_need_numbers : Cal P w mg base Γ 3 "need_numbers" ["thing", "row"] g_need_numbers) (c_ones_behind : Cal P w mg base Γ 1 "ones_behind" ["row", "many"] g_ones_behind) (c_is_rule : Cal P w mg base Γ 4 "is_rule" ["thing"] g_is_rule) : FnG P w mg base Γ 5 f fd ["row", "numbers"] g_rule_told :=
  have S := sc_rule_told
  ok_fn (N := ["row", "numbers", "many", "told", "ones", "number", "rule"]) (c := d_rule_told) F S fun cdv A outer s H E W hr hg tk => (mb_cons (ms_expr (me_cal c_need_bit_row rfl (hr.mono (by decide)) hg tk (by rfl) (ma_cons (me_var (pv 0)) ma_nil) 1 (len_cons len_nil) rfl rfl))
  (mb_cons (ms_set (i := 2) S.nd rfl (.inl rfl) (me_cal c_need_numbers rfl (hr.mono (by decide)) hg tk (by rfl) (ma_cons (me_var (pv 1)) (ma_cons (me_var (pv 0)) ma_nil)) 2 (len_cons (len_cons len_nil)) rfl rfl))
  (mb_cons (ms_set (i := 3) S.nd rfl (.inr rfl) (me_dctM (ps := [((mK (.int 0)), (mK (.int 0)))]) (pps_cons me_int me_int pps_nil) rfl rfl (by decide) (by decide)))
  (mb_cons (ms_for (passes_of rfl) rfl (mi_zip rfl (by rfl) n.n_zip (ma_cons (me_cal c_ones_behind rfl (hr.mono (by decide)) hg tk (by rfl) (ma_cons (me_var (pv 0)) (ma_cons (me_var (pv 2)) ma_nil)) 2 (len_cons (len_cons len_nil)) rfl rfl) (ma_cons (me_var (pv 1)) ma_nil))) (mg_tup' rfl rfl (mgs_cons' (mg_name (pg_name (i := 4) S.nd rfl (.inl rfl))) (mgs_cons' (mg_name (pg_name (i := 5) S.nd rfl (.inl rfl))) mgs_nil))) (mb_one (ms_if (mt_cmp (opNe hr.units) sNe (nomark _) (me_setd rfl (pe_bm PySem.F.plainAttrs_dict PySem.F.slot_dict_setdefault PySem.F.type_dict_setdefault mt_setd (me_var (pv 3)) (pa_cons (me_var (pv 4)) (pa_cons (me_var (pv 5)) pa_nil)))) (me_var (pv 5))) (mb_one (ms_raiseG rfl y_Nothing (hr.mono (by decide)) rfl tk (by rfl) (me_var (pv 1)))) mb_nil)))
  (mb_cons (ms_set (i := 6) S.nd rfl (.inl rfl) (me_callTy call_tuple_of (sTuple rfl) (by rfl) n.n_tuple (by decide +kernel) (ma_cons (me_comp (own := [("ones", 4)]) (g := (gName 4)) rfl S.nd (mi_revR2 (by rfl) n.n_reversed (by rfl) n.n_range me_int (me_op opAdd sAdd (me_var (pv 2)) me_int)) (blkOk_by (own := [("ones", 4)]) (N := ["row", "numbers", "many", "told", "ones", "number", "rule"]) (sc := defScope s_rule_told) (by decide +kernel)) (fun _ _ _ _ _ => pg_name (i := 4) S.nd rfl (.inl rfl)) (gw_name (by decide)) (fun _ _ _ _ _ => mts_nil) (fun _ _ _ _ _ => (me_op op_sub sSub (me_ix rfl (hu_of hr) (me_var (pv 3)) (me_var (pv 4)) (fun _ _ => rfl) (fun _ _ => rfl)) (me_ix rfl (hu_of hr) (me_var (pv 3)) (me_op op_sub sSub (me_var (pv 4)) me_int) (fun _ _ => rfl) (fun _ _ => rfl))))) ma_nil)))
  (mb_cons (ms_if (mt_not (mt_val (me_cal c_is_rule rfl (hr.mono (by decide)) hg tk (by rfl) (ma_cons (me_var (pv 6)) ma_nil) 1 (len_cons len_nil) rfl rfl))) (mb_one (ms_raiseG rfl y_Nothing (hr.mono (by decide)) rfl tk (by rfl) (me_var (pv 1)))) mb_nil)
  (mb_one (ms_ret (me_var (pv 6))))))))))
theorem ok_need_menu (n : Ns Γ mg) (F : Fun Γ.K "need_menu" "need_menu" s_need_menu f fd) (x_BadNumber : XcR P w Γ.K mg base (Γ.cls 4) "BadNumber" "value") (c_is_tuple : Cal P w mg base Γ 1 "is_tuple" ["thing", "least", "most"] g_is_tuple) (c_is_rule : Cal P w mg base Γ 4 "is_rule" ["thing"] g_is_rule) : FnG P w mg base Γ 5 f fd ["thing"] g_need_menu :=
  have S := sc_need_menu
  ok_fn (N := ["thing", "rule"]) (c := d_need_menu) F S fun cdv A outer s H E W hr hg tk => (mb_cons (ms_if (mt_w (mw_or (mt_not (mt_val (me_cal c_is_tuple rfl (hr.mono (by decide)) hg tk (by rfl) (ma_cons (me_var (pv 0)) (ma_cons me_int (ma_cons (me_globJ (by rfl) n.c_MOST_RULES) ma_nil))) 3 (len_cons (len_cons (len_cons len_nil))) rfl rfl))) (mw_or1 (mt_not (mt_val (me_callB (cr_all rfl) (sAll rfl) (by rfl) n.n_all (by decide +kernel) (ma_cons (me_comp (own := [("rule", 1)]) (g := (gName 1)) rfl S.nd (mi_seq rfl (me_var (pv 0))) (blkOk_by (own := [("rule", 1)]) (N := ["thing", "rule"]) (sc := defScope s_need_menu) (by decide +kernel)) (fun _ _ _ _ _ => pg_name (i := 1) S.nd rfl (.inl rfl)) (gw_name (by decide)) (fun _ _ _ _ _ => mts_nil) (fun _ _ _ _ _ => (me_cal c_is_rule rfl (hr.mono (by decide)) hg tk0 (by rfl) (ma_cons (me_var (pv 1)) ma_nil) 1 (len_cons len_nil) rfl rfl))) ma_nil))))))) (mb_one (ms_raise rfl x_BadNumber (hr.mono (by decide)) rfl tk (by rfl) (me_var (pv 0)))) mb_nil)
  (mb_one (ms_ret (me_var (pv 0)))))
theorem ok_is_seen_pair (n : Ns Γ mg) (F : Fun Γ.K "is_seen_pair" "is_seen_pair" s_is_seen_pair f fd) (c_is_tuple : Cal P w mg base Γ 1 "is_tuple" ["thing", "least", "most"] g_is_tuple) (c_is_row : Cal P w mg base Γ 3 "is_row" ["thing"] g_is_row) (c_is_int : Cal P w mg base Γ 1 "is_int" ["thing"] g_is_int) : FnG P w mg base Γ 4 f fd ["thing"] g_is_seen_pair :=
  have S := sc_is_seen_pair
  ok_fn (N := ["thing"]) (c := d_is_seen_pair) F S fun cdv A outer s H E W hr hg tk => (mb_one (ms_ret (me_and (me_cal c_is_tuple rfl (hr.mono (by decide)) hg tk (by rfl) (ma_cons (me_var (pv 0)) (ma_cons me_int (ma_cons me_int ma_nil))) 3 (len_cons (len_cons (len_cons len_nil))) rfl rfl) (me_and (me_cal c_is_row rfl (hr.mono (by decide)) hg tk (by rfl) (ma_cons (me_ix rfl (hu_of hr) (me_var (pv 0)) me_int (fun _ _ => rfl) (fun _ _ => rfl)) ma_nil) 1 (len_cons len_nil) rfl rfl) (me_one (me_cal c_is_int rfl (hr.mono (by decide)) hg tk (by rfl) (ma_cons (me_ix rfl (hu_of hr) (me_var (pv 0)) me_int (fun _ _ => rfl) (fun _ _ => rfl)) ma_nil) 1 (len_cons len_nil) rfl rfl))))))
theorem ok_need_seen (n : Ns Γ mg) (F : Fun Γ.K "need_seen" "need_seen" s_need_seen f fd) (x_BadNumber : XcR P w Γ.K mg base (Γ.cls 4) "BadNumber" "value") (c_is_tuple : Cal P w mg base Γ 1 "is_tuple" ["thing", "least", "most"] g_is_tuple) (c_is_seen_pair : Cal P w mg base Γ 4 "is_seen_pair" ["thing"] g_is_seen_pair) : FnG P w mg base Γ 5 f fd ["thing"] g_need_seen :=
  have S := sc_need_seen
  ok_fn (N := ["thing", "pair"]) (c := d_need_seen) F S fun cdv A outer s H E W hr hg tk => (mb_cons (ms_if (mt_w (mw_or (mt_not (mt_val (me_cal c_is_tuple rfl (hr.mono (by decide)) hg tk (by rfl) (ma_cons (me_var (pv 0)) (ma_cons me_int (ma_cons (me_globJ (by rfl) n.c_MOST_SEEN) ma_nil))) 3 (len_cons (len_cons (len_cons len_nil))) rfl rfl))) (mw_or1 (mt_not (mt_val (me_callB (cr_all rfl) (sAll rfl) (by rfl) n.n_all (by decide +kernel) (ma_cons (me_comp (own := [("pair", 1)]) (g := (gName 1)) rfl S.nd (mi_seq rfl (me_var (pv 0))) (blkOk_by (own := [("pair", 1)]) (N := ["thing", "pair"]) (sc := defScope s_need_seen) (by decide +kernel)) (fun _ _ _ _ _ => pg_name (i := 1) S.nd rfl (.inl rfl)) (gw_name (by decide)) (fun _ _ _ _ _ => mts_nil) (fun _ _ _ _ _ => (me_cal c_is_seen_pair rfl (hr.mono (by decide)) hg tk0 (by rfl) (ma_cons (me_var (pv 1)) ma_nil) 1 (len_cons len_nil) rfl rfl))) ma_nil))))))) (mb_one (ms_raise rfl x_BadNumber (hr.mono (by decide)) rfl tk (by rfl) (me_var (pv 0)))) mb_nil)
  (mb_one (ms_ret (me_var (pv 0)))))
theorem ok_does_fit (n : Ns Γ mg) (F : Fun Γ.K "does_fit" "does_fit" s_does_fit f fd) (c_index_of : Cal P w mg base Γ 1 "index_of" ["rule", "results"] g_index_of) : FnG P w mg base Γ 2 f fd ["rule", "seen"] g_does_fit :=
  have S := sc_does_fit
  ok_fn (N := ["rule", "seen", "row", "number"]) (c := d_does_fit) F S fun cdv A outer s H E W hr hg tk => (mb_cons (ms_for (passes_of rfl) rfl (mi_seq rfl (me_var (pv 1))) (mg_tup' rfl rfl (mgs_cons' (mg_name (pg_name (i := 2) S.nd rfl (.inl rfl))) (mgs_cons' (mg_name (pg_name (i := 3) S.nd rfl (.inl rfl))) mgs_nil))) (mb_one (ms_if (mt_w (mw_or (mt_cmp op_lt sCmp (nomark _) (me_callB call_len (sLen rfl) (by rfl) n.n_len (by decide +kernel) (ma_cons (me_var (pv 2)) ma_nil)) (me_callB call_len (sLen rfl) (by rfl) n.n_len (by decide +kernel) (ma_cons (me_var (pv 0)) ma_nil))) (mw_or1 (mt_cmp (opNe hr.units) sNe (nomark _) (me_cal c_index_of rfl (hr.mono (by decide)) hg tk (by rfl) (ma_cons (me_var (pv 0)) (ma_cons (me_var (pv 2)) ma_nil)) 2 (len_cons (len_cons len_nil)) rfl rfl) (me_var (pv 3)))))) (mb_one (ms_ret me_bl)) mb_nil)))
  (mb_one (ms_ret me_bl)))
theorem ok_fitting (n : Ns Γ mg) (F : Fun Γ.K "fitting" "fitting" s_fitting f fd) (c_need_menu : Cal P w mg base Γ 5 "need_menu" ["thing"] g_need_menu) (c_need_seen : Cal P w mg base Γ 5 "need_seen" ["thing"] g_need_seen) (c_does_fit : Cal P w mg base Γ 2 "does_fit" ["rule", "seen"] g_does_fit) : FnG P w mg base Γ 6 f fd ["menu", "seen"] g_fitting :=
  have S := sc_fitting
  ok_fn (N := ["menu", "seen", "number", "rule"]) (c := d_fitting) F S fun cdv A outer s H E W hr hg tk => (mb_cons (ms_expr (me_cal c_need_menu rfl (hr.mono (by decide)) hg tk (by rfl) (ma_cons (me_var (pv 0)) ma_nil) 1 (len_cons len_nil) rfl rfl))
  (mb_cons (ms_expr (me_cal c_need_seen rfl (hr.mono (by decide)) hg tk (by rfl) (ma_cons (me_var (pv 1)) ma_nil) 1 (len_cons len_nil) rfl rfl))
  (mb_one (ms_ret (me_callTy call_tuple_of (sTuple rfl) (by rfl) n.n_tuple (by decide +kernel) (ma_cons (me_comp (own := [("number", 2), ("rule", 3)]) (g := (gTup Γ.K 2 (gCons (gName 2) (gCons (gName 3) gNil)))) rfl S.nd (mi_enum rfl (by rfl) n.n_enumerate (ma_cons (me_var (pv 0)) ma_nil)) (blkOk_by (own := [("number", 2), ("rule", 3)]) (N := ["menu", "seen", "number", "rule"]) (sc := defScope s_fitting) (by decide +kernel)) (fun _ _ _ _ _ => pg_tup rfl (pgs_cons (pg_name (i := 2) S.nd rfl (.inl rfl)) (pgs_cons (pg_name (i := 3) S.nd rfl (.inl rfl)) pgs_nil))) (gw_tup rfl (gws_cons (gw_name (by decide)) (gws_cons (gw_name (by decide)) gws_nil))) (fun _ _ _ _ _ => mts_one (mt_val (me_cal c_does_fit rfl (hr.mono (by decide)) hg tk0 (by rfl) (ma_cons (me_var (pv 3)) (ma_cons (me_var (pv 1)) ma_nil)) 2 (len_cons (len_cons len_nil)) rfl rfl))) (fun _ _ _ _ _ => (me_var (pv 2)))) ma_nil))))))
theorem ok_lots_by_row (n : Ns Γ mg) (F : Fun Γ.K "lots_by_row" "lots_by_row" s_lots_by_row f fd) (c_ones_of : Cal P w mg base Γ 1 "ones_of" ["wide"] g_ones_of) (c_indexes_by_ones : Cal P w mg base Γ 1 "indexes_by_ones" ["rule"] g_indexes_by_ones) (c_many_of : Cal P w mg base Γ 1 "many_of" ["base", "wide"] g_many_of) : FnG P w mg base Γ 2 f fd ["rules"] g_lots_by_row :=
  have S := sc_lots_by_row
  ok_fn (N := ["rules", "ones", "tables", "lots", "number", "indexes", "rule", "told", "many", "index"]) (c := d_lots_by_row) F S fun cdv A outer s H E W hr hg tk => (mb_cons (ms_set (i := 1) S.nd rfl (.inr rfl) (me_cal c_ones_of rfl (hr.mono (by decide)) hg tk (by rfl) (ma_cons (me_callB (cr_max rfl) (sMaxL rfl) (by rfl) n.n_max (by decide +kernel) (ma_cons (me_comp (own := [("rule", 6)]) (g := (gName 6)) rfl S.nd (mi_seq rfl (me_var (pv 0))) (blkOk_by (own := [("rule", 6)]) (N := ["rules", "ones", "tables", "lots", "number", "indexes", "rule", "told", "many", "index"]) (sc := defScope s_lots_by_row) (by decide +kernel)) (fun _ _ _ _ _ => pg_name (i := 6) S.nd rfl (.inl rfl)) (gw_name (by decide)) (fun _ _ _ _ _ => mts_nil) (fun _ _ _ _ _ => (me_callB call_len (sLen rfl) (by rfl) n.n_len (by decide +kernel) (ma_cons (me_var (pv 6)) ma_nil)))) ma_nil)) ma_nil) 1 (len_cons len_nil) rfl rfl))
  (mb_cons (ms_setComp (i := 2) (own := [("rule", 6)]) (g := (gName 6)) rfl S.nd rfl rfl (sw_true rfl rfl rfl (by decide +kernel)) (mi_seq rfl (me_var (pv 0))) (blkOk_by (own := [("rule", 6)]) (N := ["rules", "ones", "tables", "lots", "number", "indexes", "rule", "told", "many", "index"]) (sc := defScope s_lots_by_row) (by decide +kernel)) (fun _ _ _ _ _ => pg_name (i := 6) S.nd rfl (.inl rfl)) (gw_name (by decide)) (fun _ _ _ _ _ => mts_nil) (fun _ _ _ _ _ => (me_tup (ma_cons (me_cal c_indexes_by_ones rfl (hr.mono (by decide)) hg tk0 (by rfl) (ma_cons (me_var (pv 6)) ma_nil) 1 (len_cons len_nil) rfl rfl) (ma_cons (me_cal c_many_of rfl (hr.mono (by decide)) hg tk0 (by rfl) (ma_cons me_int (ma_cons (me_callB call_len (sLen rfl) (by rfl) n.n_len (by decide +kernel) (ma_cons (me_var (pv 6)) ma_nil)) ma_nil)) 2 (len_cons (len_cons len_nil)) rfl rfl) ma_nil)))))
  (mb_cons (ms_set (i := 3) S.nd rfl (.inl rfl) (me_lstM ma_nil))
  (mb_cons (ms_for (passes_of rfl) rfl (mi_range1 (by rfl) n.n_range (ma_cons (me_callB call_len (sLen rfl) (by rfl) n.n_len (by decide +kernel) (ma_cons (me_var (pv 1)) ma_nil)) ma_nil)) (mg_name (pg_name (i := 4) S.nd rfl (.inr rfl))) (mb_cons (ms_set (i := 5) S.nd rfl (.inr rfl) (me_comp (own := [("told", 7), ("many", 8)]) (g := (gTup Γ.K 2 (gCons (gName 7) (gCons (gName 8) gNil)))) rfl S.nd (mi_seq rfl (me_var (pv 2))) (blkOk_by (own := [("told", 7), ("many", 8)]) (N := ["rules", "ones", "tables", "lots", "number", "indexes", "rule", "told", "many", "index"]) (sc := defScope s_lots_by_row) (by decide +kernel)) (fun _ _ _ _ _ => pg_tup rfl (pgs_cons (pg_name (i := 7) S.nd rfl (.inl rfl)) (pgs_cons (pg_name (i := 8) S.nd rfl (.inl rfl)) pgs_nil))) (gw_tup rfl (gws_cons (gw_name (by decide)) (gws_cons (gw_name (by decide)) gws_nil))) (fun _ _ _ _ _ => mts_nil) (fun _ _ _ _ _ => (me_ix rfl (hu_of hr) (me_var (pv 7)) (me_ix rfl (hu_of hr) (me_var (pv 1)) (me_op op_mod sMod (me_var (pv 4)) (me_var (pv 8))) (fun _ _ => rfl) (fun _ _ => rfl)) (fun _ _ => rfl) (fun _ _ => rfl)))))
  (mb_one (ms_expr (me_app (pe_bm PySem.F.plainAttrs_list PySem.F.slot_list_append PySem.F.type_list_append mt_append (me_var (pv 3)) (pa_cons (me_callB (cr_max rfl) (sMaxL rfl) (by rfl) n.n_max (by decide +kernel) (ma_cons (me_comp (own := [("index", 9)]) (g := (gName 9)) rfl S.nd (mi_seq rfl (me_var (pv 5))) (blkOk_by (own := [("index", 9)]) (N := ["rules", "ones", "tables", "lots", "number", "indexes", "rule", "told", "many", "index"]) (sc := defScope s_lots_by_row) (by decide +kernel)) (fun _ _ _ _ _ => pg_name (i := 9) S.nd rfl (.inl rfl)) (gw_name (by decide)) (fun _ _ _ _ _ => mts_nil) (fun _ _ _ _ _ => (me_count rfl (pe_bm PySem.F.plainAttrs_list PySem.F.slot_list_count PySem.F.type_list_count mt_lcount (me_var (pv 5)) (pa_cons (me_var (pv 9)) pa_nil))))) ma_nil)) pa_nil)))))))
  (mb_one (ms_ret (me_var (pv 3))))))))
theorem ok_best_ask (n : Ns Γ mg) (F : Fun Γ.K "best_ask" "best_ask" s_best_ask f fd) (x_BadNumber : XcR P w Γ.K mg base (Γ.cls 4) "BadNumber" "value") (c_fitting : Cal P w mg base Γ 6 "fitting" ["menu", "seen"] g_fitting) (c_is_int_within : Cal P w mg base Γ 2 "is_int_within" ["thing", "least", "most"] g_is_int_within) (c_lots_by_row : Cal P w mg base Γ 2 "lots_by_row" ["rules"] g_lots_by_row) (c_signs_of : Cal P w mg base Γ 1 "signs_of" ["number", "signs", "wide"] g_signs_of) : FnG P w mg base Γ 7 f fd ["menu", "seen", "size"] g_best_ask :=
  have S := sc_best_ask
  ok_fn (N := ["menu", "seen", "size", "fits", "lots", "least", "number"]) (c := d_best_ask) F S fun cdv A outer s H E W hr hg tk => (mb_cons (ms_setComp (i := 3) (own := [("number", 6)]) (g := (gName 6)) rfl S.nd rfl rfl (sw_true rfl rfl rfl (by decide +kernel)) (mi_seq rfl (me_cal c_fitting rfl (hr.mono (by decide)) hg tk (by rfl) (ma_cons (me_var (pv 0)) (ma_cons (me_var (pv 1)) ma_nil)) 2 (len_cons (len_cons len_nil)) rfl rfl)) (blkOk_by (own := [("number", 6)]) (N := ["menu", "seen", "size", "fits", "lots", "least", "number"]) (sc := defScope s_best_ask) (by decide +kernel)) (fun _ _ _ _ _ => pg_name (i := 6) S.nd rfl (.inl rfl)) (gw_name (by decide)) (fun _ _ _ _ _ => mts_nil) (fun _ _ _ _ _ => (me_ix rfl (hu_of hr) (me_var (pv 0)) (me_var (pv 6)) (fun _ _ => rfl) (fun _ _ => rfl))))
  (mb_cons (ms_if (mt_not (mt_val (me_cal c_is_int_within rfl (hr.mono (by decide)) hg tk (by rfl) (ma_cons (me_var (pv 2)) (ma_cons (me_globJ (by rfl) n.c_LEAST_SIZE) (ma_cons (me_globJ (by rfl) n.c_GREATEST_SIZE) ma_nil))) 3 (len_cons (len_cons (len_cons len_nil))) rfl rfl))) (mb_one (ms_raise rfl x_BadNumber (hr.mono (by decide)) rfl tk (by rfl) (me_var (pv 2)))) mb_nil)
  (mb_cons (ms_if (mt_cmp op_le sCmp (nomark _) (me_callB call_len (sLen rfl) (by rfl) n.n_len (by decide +kernel) (ma_cons (me_var (pv 3)) ma_nil)) me_int) (mb_one (ms_ret me_non)) mb_nil)
  (mb_cons (ms_set (i := 4) S.nd rfl (.inl rfl) (me_cal c_lots_by_row rfl (hr.mono (by decide)) hg tk (by rfl) (ma_cons (me_var (pv 3)) ma_nil) 1 (len_cons len_nil) rfl rfl))
  (mb_cons (ms_set (i := 5) S.nd rfl (.inl rfl) (me_callB (cr_min rfl) (sMinL rfl) (by rfl) n.n_min (by decide +kernel) (ma_cons (me_var (pv 4)) ma_nil)))
  (mb_cons (ms_if (mt_cmp (opEq hr.units) sEq (nomark _) (me_var (pv 5)) (me_callB call_len (sLen rfl) (by rfl) n.n_len (by decide +kernel) (ma_cons (me_var (pv 3)) ma_nil))) (mb_one (ms_ret me_non)) mb_nil)
  (mb_one (ms_ret (me_cal c_signs_of rfl (hr.mono (by decide)) hg tk (by rfl) (ma_cons (me_index rfl (pe_bm PySem.F.plainAttrs_list PySem.F.slot_list_index PySem.F.type_list_index mt_index (me_var (pv 4)) (pa_cons (me_var (pv 5)) pa_nil))) (ma_cons (me_globT rfl (by rfl) n.c_BITS) (ma_cons (me_var (pv 2)) ma_nil))) 3 (len_cons (len_cons (len_cons len_nil))) rfl rfl)))))))))
theorem ok__law_begun (n : Ns Γ mg) (F : Fun Γ.K "_law_begun" "_law_begun" s__law_begun f fd) : FnG P w mg base Γ 1 f fd ["script", "k"] g__law_begun :=
  have S := sc__law_begun
  ok_fn (N := ["script", "k", "cells", "great", "seed", "cell"]) (c := d__law_begun) F S fun cdv A outer s H E W hr hg tk => (mb_cons (ms_set (i := 2) S.nd rfl (.inl rfl) (me_op opAdd sAdd (me_sl rfl (me_var (pv 0)) (mo_some (me_var (pv 1))) mo_none) (me_sl rfl (me_var (pv 0)) mo_none (mo_some (me_var (pv 1))))))
  (mb_cons (ms_setComp (i := 3) (own := [("cell", 5)]) (g := (gName 5)) rfl S.nd rfl rfl (sw_true rfl rfl rfl (by decide +kernel)) (mi_seq rfl (me_var (pv 2))) (blkOk_by (own := [("cell", 5)]) (N := ["script", "k", "cells", "great", "seed", "cell"]) (sc := defScope s__law_begun) (by decide +kernel)) (fun _ _ _ _ _ => pg_name (i := 5) S.nd rfl (.inl rfl)) (gw_name (by decide)) (fun _ _ _ _ _ => mts_one (mt_cmp op_ge sCmp (nomark _) (me_var (pv 5)) (me_op op_pow sPow me_int me_int))) (fun _ _ _ _ _ => (me_var (pv 5))))
  (mb_cons (ms_set (i := 4) S.nd rfl (.inl rfl) (me_op opAdd sAdd me_int (me_var (pv 1))))
  (mb_cons (ms_for (passes_of rfl) rfl (mi_seq rfl (me_var (pv 2))) (mg_name (pg_name (i := 5) S.nd rfl (.inl rfl))) (mb_one (ms_set (i := 4) S.nd rfl (.inl rfl) (me_op op_mod sMod (me_callTy call_int1 sInt (by rfl) n.n_int (by decide +kernel) (ma_cons (me_op opAdd sAdd (me_op opMul sMul (me_var (pv 4)) me_int) (me_var (pv 5))) ma_nil)) me_int))))
  (mb_one (ms_ret (me_dctM (ps := [((mK (.str "left")), (mIf (mTest (mBin neD (mVar 3) (mLst mNil))) (mBin ixA (mVar 3) (mK (.int 0))) (mK (.int 0)))), ((mK (.str "seed")), (mVar 4)), ((mK (.str "cells")), (mBin addD (mVar 2) (mLst (mCons (mBin addD (mBin mulD (mK (.int 37)) (mVar 1)) (mK (.int 11))) mNil)))), ((mK (.str "spot")), (mK (.int 0)))]) (pps_cons me_str (me_if (mt_cmp (opNe hr.units) sNe (nomark _) (me_var (pv 3)) (me_lst ma_nil)) (me_ix rfl (hu_of hr) (me_var (pv 3)) me_int (fun _ _ => rfl) (fun _ _ => rfl)) me_int) (pps_cons me_str (me_var (pv 4)) (pps_cons me_str (me_op opAdd sAdd (me_var (pv 2)) (me_lst (ma_cons (me_op opAdd sAdd (me_op opMul sMul me_int (me_var (pv 1))) me_int) ma_nil))) (pps_cons me_str me_int pps_nil)))) rfl rfl (by decide) (by decide))))))))
theorem ok__law_draw (n : Ns Γ mg) (F : Fun Γ.K "_law_draw" "_law_draw" s__law_draw f fd) : FnG P w mg base Γ 1 f fd ["m", "limit"] g__law_draw :=
  have S := sc__law_draw
  ok_fn (N := ["m", "limit", "found", "spot", "cells", "added", "cell", "blend"]) (c := d__law_draw) F S fun cdv A outer s H E W hr hg tk => (mb_cons (ms_if (mt_cmp op_gt sCmp (nomark _) (me_ix rfl (hu_of hr) (me_var (pv 0)) me_str (fun _ _ => rfl) (fun _ _ => rfl)) me_int) (mb_cons (ms_set (i := 2) S.nd rfl (.inl rfl) (me_op op_mod sMod (me_callTy call_int1 sInt (by rfl) n.n_int (by decide +kernel) (ma_cons (me_ix rfl (hu_of hr) (me_var (pv 0)) me_str (fun _ _ => rfl) (fun _ _ => rfl)) ma_nil)) (me_var (pv 1))))
  (mb_cons (ms_dput (hu_of hr) (me_var (pv 0)) me_str (me_op op_fdiv sDiv (me_ix rfl (hu_of hr) (me_var (pv 0)) me_str (fun _ _ => rfl) (fun _ _ => rfl)) (me_var (pv 1))) (by rfl))
  (mb_one (ms_ret (me_var (pv 2)))))) mb_nil)
  (mb_cons (ms_set (i := 3) S.nd rfl (.inl rfl) (me_ix rfl (hu_of hr) (me_var (pv 0)) me_str (fun _ _ => rfl) (fun _ _ => rfl)))
  (mb_cons (ms_dput (hu_of hr) (me_var (pv 0)) me_str (me_op opAdd sAdd (me_var (pv 3)) me_int) (by rfl))
  (mb_cons (ms_par rfl S.nd rfl rfl (by decide) rfl rfl (ma_cons (me_ix rfl (hu_of hr) (me_var (pv 0)) me_str (fun _ _ => rfl) (fun _ _ => rfl)) (ma_cons (me_op opAdd sAdd (me_ix rfl (hu_of hr) (me_var (pv 0)) me_str (fun _ _ => rfl) (fun _ _ => rfl)) (me_op opMul sMul (me_op opMul sMul me_int (me_var (pv 3))) (me_var (pv 3)))) ma_nil)) (by rfl))
  (mb_cons (ms_set (i := 6) S.nd rfl (.inl rfl) (me_ix rfl (hu_of hr) (me_var (pv 4)) (me_op op_mod sMod (me_callTy call_int1 sInt (by rfl) n.n_int (by decide +kernel) (ma_cons (me_var (pv 3)) ma_nil)) (me_callB call_len (sLen rfl) (by rfl) n.n_len (by decide +kernel) (ma_cons (me_var (pv 4)) ma_nil))) (fun _ _ => rfl) (fun _ _ => rfl)))
  (mb_cons (ms_set (i := 7) S.nd rfl (.inl rfl) (me_op op_mod sMod (me_callTy call_int1 sInt (by rfl) n.n_int (by decide +kernel) (ma_cons (me_op opAdd sAdd (me_op opMul sMul (me_var (pv 6)) (me_op opAdd sAdd (me_op opMul sMul me_int (me_var (pv 3))) me_int)) (me_var (pv 5))) ma_nil)) me_int))
  (mb_cons (ms_set (i := 7) S.nd rfl (.inl rfl) (me_op op_mod sMod (me_callTy call_int1 sInt (by rfl) n.n_int (by decide +kernel) (ma_cons (me_op opAdd sAdd (me_op opAdd sAdd (me_op opMul sMul (me_var (pv 7)) (me_var (pv 7))) (me_op opMul sMul me_int (me_var (pv 3)))) (me_ix rfl (hu_of hr) (me_var (pv 0)) me_str (fun _ _ => rfl) (fun _ _ => rfl))) ma_nil)) me_int))
  (mb_one (ms_ret (me_op op_mod sMod (me_op op_fdiv sDiv (me_op op_mod sMod (me_callTy call_int1 sInt (by rfl) n.n_int (by decide +kernel) (ma_cons (me_op opAdd sAdd (me_op opMul sMul (me_var (pv 7)) me_int) (me_var (pv 3))) ma_nil)) me_int) me_int) (me_var (pv 1))))))))))))
theorem ok__law_of (n : Ns Γ mg) (F : Fun Γ.K "_law_of" "_law_of" s__law_of f fd) (c__law_draw : Cal P w mg base Γ 1 "_law_draw" ["m", "limit"] g__law_draw) : FnG P w mg base Γ 2 f fd ["m", "some"] g__law_of :=
  have S := sc__law_of
  ok_fn (N := ["m", "some"]) (c := d__law_of) F S fun cdv A outer s H E W hr hg tk => (mb_one (ms_ret (me_ix rfl (hu_of hr) (me_var (pv 1)) (me_cal c__law_draw rfl (hr.mono (by decide)) hg tk (by rfl) (ma_cons (me_var (pv 0)) (ma_cons (me_callB call_len (sLen rfl) (by rfl) n.n_len (by decide +kernel) (ma_cons (me_var (pv 1)) ma_nil)) ma_nil)) 2 (len_cons (len_cons len_nil)) rfl rfl) (fun _ _ => rfl) (fun _ _ => rfl))))
theorem ok__law_tune (n : Ns Γ mg) (F : Fun Γ.K "_law_tune" "_law_tune" s__law_tune f fd) (c__law_draw : Cal P w mg base Γ 1 "_law_draw" ["m", "limit"] g__law_draw) : FnG P w mg base Γ 2 f fd ["m", "limit"] g__law_tune :=
  have S := sc__law_tune
  ok_fn (N := ["m", "limit", "k"]) (c := d__law_tune) F S fun cdv A outer s H E W hr hg tk => (mb_one (ms_ret (me_callTy call_tuple_of (sTuple rfl) (by rfl) n.n_tuple (by decide +kernel) (ma_cons (me_comp (own := [("k", 2)]) (g := (gName 2)) rfl S.nd (mi_range1 (by rfl) n.n_range (ma_cons (me_op opAdd sAdd me_int (me_cal c__law_draw rfl (hr.mono (by decide)) hg tk (by rfl) (ma_cons (me_var (pv 0)) (ma_cons (me_var (pv 1)) ma_nil)) 2 (len_cons (len_cons len_nil)) rfl rfl)) ma_nil)) (blkOk_by (own := [("k", 2)]) (N := ["m", "limit", "k"]) (sc := defScope s__law_tune) (by decide +kernel)) (fun _ _ _ _ _ => pg_name (i := 2) S.nd rfl (.inl rfl)) (gw_name (by decide)) (fun _ _ _ _ _ => mts_nil) (fun _ _ _ _ _ => (me_op op_sub sSub (me_cal c__law_draw rfl (hr.mono (by decide)) hg tk0 (by rfl) (ma_cons (me_var (pv 0)) (ma_cons me_int ma_nil)) 2 (len_cons (len_cons len_nil)) rfl rfl) me_int))) ma_nil))))
theorem ok__law_sum (n : Ns Γ mg) (F : Fun Γ.K "_law_sum" "_law_sum" s__law_sum f fd) : FnG P w mg base Γ 1 f fd ["tune", "some"] g__law_sum :=
  have S := sc__law_sum
  ok_fn (N := ["tune", "some", "weight", "one"]) (c := d__law_sum) F S fun cdv A outer s H E W hr hg tk => (mb_one (ms_ret (me_callB (cr_sumA rfl) (sSumA rfl) (by rfl) n.n_sum (by decide +kernel) (ma_cons (me_comp (own := [("weight", 2), ("one", 3)]) (g := (gTup Γ.K 2 (gCons (gName 2) (gCons (gName 3) gNil)))) rfl S.nd (mi_zip rfl (by rfl) n.n_zip (ma_cons (me_var (pv 0)) (ma_cons (me_callB cr_sortedA (sSortedA rfl) (by rfl) n.n_sorted (by decide +kernel) (ma_cons (me_var (pv 1)) ma_nil)) ma_nil))) (blkOk_by (own := [("weight", 2), ("one", 3)]) (N := ["tune", "some", "weight", "one"]) (sc := defScope s__law_sum) (by decide +kernel)) (fun _ _ _ _ _ => pg_tup rfl (pgs_cons (pg_name (i := 2) S.nd rfl (.inl rfl)) (pgs_cons (pg_name (i := 3) S.nd rfl (.inl rfl)) pgs_nil))) (gw_tup rfl (gws_cons (gw_name (by decide)) (gws_cons (gw_name (by decide)) gws_nil))) (fun _ _ _ _ _ => mts_nil) (fun _ _ _ _ _ => (me_op opMul sMul (me_var (pv 2)) (me_var (pv 3))))) ma_nil))))
theorem ok__law_all (n : Ns Γ mg) (F : Fun Γ.K "_law_all" "_law_all" s__law_all f fd) : FnG P w mg base Γ 1 f fd ["marks", "many"] g__law_all :=
  have S := sc__law_all
  ok_fn (N := ["marks", "many", "found", "lap", "longer", "row", "mark"]) (c := d__law_all) F S fun cdv A outer s H E W hr hg tk => (mb_cons (ms_set (i := 2) S.nd rfl (.inl rfl) (me_lst (ma_cons (me_tup ma_nil) ma_nil)))
  (mb_cons (ms_for (passes_of rfl) rfl (mi_range1 (by rfl) n.n_range (ma_cons (me_var (pv 1)) ma_nil)) (mg_name (pg_name (i := 3) S.nd rfl (.inl rfl))) (mb_cons (ms_set (i := 4) S.nd rfl (.inl rfl) (me_lst ma_nil))
  (mb_cons (ms_for (passes_of rfl) rfl (mi_seq rfl (me_var (pv 2))) (mg_name (pg_name (i := 5) S.nd rfl (.inr rfl))) (mb_one (ms_set (i := 4) S.nd rfl (.inl rfl) (me_op opAdd sAdd (me_var (pv 4)) (me_comp (own := [("mark", 6)]) (g := (gName 6)) rfl S.nd (mi_seq rfl (me_var (pv 0))) (blkOk_by (own := [("mark", 6)]) (N := ["marks", "many", "found", "lap", "longer", "row", "mark"]) (sc := defScope s__law_all) (by decide +kernel)) (fun _ _ _ _ _ => pg_name (i := 6) S.nd rfl (.inl rfl)) (gw_name (by decide)) (fun _ _ _ _ _ => mts_nil) (fun _ _ _ _ _ => (me_op opAdd sAdd (me_var (pv 5)) (me_tup (ma_cons (me_var (pv 6)) ma_nil)))))))))
  (mb_one (ms_set (i := 2) S.nd rfl (.inl rfl) (me_var (pv 4)))))))
  (mb_one (ms_ret (me_var (pv 2))))))
theorem ok__law_windows (n : Ns Γ mg) (F : Fun Γ.K "_law_windows" "_law_windows" s__law_windows f fd) : FnG P w mg base Γ 1 f fd ["row_so", "many"] g__law_windows :=
  have S := sc__law_windows
  ok_fn (N := ["row_so", "many", "spot"]) (c := d__law_windows) F S fun cdv A outer s H E W hr hg tk => (mb_one (ms_ret (me_comp (own := [("spot", 2)]) (g := (gName 2)) rfl S.nd (mi_range1 (by rfl) n.n_range (ma_cons (me_op opAdd sAdd (me_op op_sub sSub (me_callB call_len (sLen rfl) (by rfl) n.n_len (by decide +kernel) (ma_cons (me_var (pv 0)) ma_nil)) (me_var (pv 1))) me_int) ma_nil)) (blkOk_by (own := [("spot", 2)]) (N := ["row_so", "many", "spot"]) (sc := defScope s__law_windows) (by decide +kernel)) (fun _ _ _ _ _ => pg_name (i := 2) S.nd rfl (.inl rfl)) (gw_name (by decide)) (fun _ _ _ _ _ => mts_nil) (fun _ _ _ _ _ => (me_sl rfl (me_var (pv 0)) (mo_some (me_var (pv 2))) (mo_some (me_op opAdd sAdd (me_var (pv 2)) (me_var (pv 1)))))))))
theorem ok__law_tells (n : Ns Γ mg) (F : Fun Γ.K "_law_tells" "_law_tells" s__law_tells f fd) (c__law_windows : Cal P w mg base Γ 1 "_law_windows" ["row_so", "many"] g__law_windows) : FnG P w mg base Γ 2 f fd ["row_so", "many"] g__law_tells :=
  have S := sc__law_tells
  ok_fn (N := ["row_so", "many", "counts", "some", "count"]) (c := d__law_tells) F S fun cdv A outer s H E W hr hg tk => (mb_cons (ms_set (i := 2) S.nd rfl (.inr rfl) (me_comp (own := [("some", 3)]) (g := (gName 3)) rfl S.nd (mi_seq rfl (me_cal c__law_windows rfl (hr.mono (by decide)) hg tk (by rfl) (ma_cons (me_var (pv 0)) (ma_cons (me_var (pv 1)) ma_nil)) 2 (len_cons (len_cons len_nil)) rfl rfl)) (blkOk_by (own := [("some", 3)]) (N := ["row_so", "many", "counts", "some", "count"]) (sc := defScope s__law_tells) (by decide +kernel)) (fun _ _ _ _ _ => pg_name (i := 3) S.nd rfl (.inl rfl)) (gw_name (by decide)) (fun _ _ _ _ _ => mts_nil) (fun _ _ _ _ _ => (me_callB (cr_sumA rfl) (sSumA rfl) (by rfl) n.n_sum (by decide +kernel) (ma_cons (me_var (pv 3)) ma_nil)))))
  (mb_one (ms_ret (me_cmp (opEq hr.units) sEq (nomark _) (me_comp (own := [("count", 4)]) (g := (gName 4)) rfl S.nd (mi_range2 (by rfl) n.n_range (ma_cons me_int (ma_cons (me_op opAdd sAdd (me_var (pv 1)) me_int) ma_nil))) (blkOk_by (own := [("count", 4)]) (N := ["row_so", "many", "counts", "some", "count"]) (sc := defScope s__law_tells) (by decide +kernel)) (fun _ _ _ _ _ => pg_name (i := 4) S.nd rfl (.inl rfl)) (gw_name (by decide)) (fun _ _ _ _ _ => mts_one (mt_cmp op_notIn_seq (sInQ rfl) (by rfl) (me_var (pv 4)) (me_var (pv 2)))) (fun _ _ _ _ _ => (me_var (pv 4)))) (me_lst ma_nil)))))
theorem ok__law_heard (n : Ns Γ mg) (F : Fun Γ.K "_law_heard" "_law_heard" s__law_heard f fd) (hden : ∀ (cl : Dv) (g : Sto → R Dv) (wa : List Dv) (s : Sto), finC s.length (d__law_heard cl g (startD 4 (cl :: wa)) s) = h__law_heard g wa s) : FnL P w mg base Γ 7 6 f fd ["call"] h__law_heard :=
  have S := sc__law_heard
  ok_fnL (N := ["call", "found", "error", "caught"]) (c := d__law_heard) F S (fun cdv A outer s H E W f' c' q ws vs g T hr hg tk => (mb_cons (ms_setT (me_tup (ma_cons me_non (ma_cons me_non ma_nil))) (mg_tup' rfl rfl (mgs_cons' (mg_name (pg_name (i := 1) S.nd rfl (.inl rfl))) (mgs_cons' (mg_name (pg_name (i := 2) S.nd rfl (.inl rfl))) mgs_nil))))
  (mb_cons (ms_tryK (i := 3) rfl rfl S.nd rfl rfl ⟨by rfl, by decide, .inl n.k_BadNumber⟩ ⟨by rfl, by decide, .inl n.k_Nothing⟩ tk rfl n.xj (fun W pn xe tk => (mb_one (ms_set (i := 1) S.nd rfl (.inl rfl) (me_thk T rfl rfl (hr.mono (by decide)) hg tk rfl (.inl rfl))))) (fun a pn => (mb_one (ms_set (i := 2) S.nd rfl (.inl rfl) (me_var (pv 3))))))
  (mb_cons (ms_if (mt_cmp op_isC sIsC (nomark _) (me_var (pv 2)) me_non) (mb_one (ms_ret (me_lst (ma_cons (me_var (pv 1)) ma_nil)))) mb_nil)
  (mb_one (ms_ret (me_if (mt_val (me_callB cr_isiA (sIsiJ (js := [1, 4, 8]) rfl n.xj) (by rfl) n.n_isinstance (by decide +kernel) (ma_cons (me_var (pv 2)) (ma_cons (me_cls (by rfl) n.k_Nothing) ma_nil)))) (me_tup (ma_cons me_str (ma_cons (me_fldJ rfl n.xj n.xj_value (me_var (pv 2))) ma_nil))) (me_tup (ma_cons me_str (ma_cons (me_fldJ rfl n.xj n.xj_value (me_var (pv 2))) ma_nil)))))))))) hden
theorem ok__law_rows_right (n : Ns Γ mg) (F : Fun Γ.K "_law_rows_right" "_law_rows_right" s__law_rows_right f fd) (c__law_draw : Cal P w mg base Γ 1 "_law_draw" ["m", "limit"] g__law_draw) (c_does_tell : Cal P w mg base Γ 4 "does_tell" ["row", "many"] g_does_tell) (c__law_tells : Cal P w mg base Γ 2 "_law_tells" ["row_so", "many"] g__law_tells) (c__law_all : Cal P w mg base Γ 1 "_law_all" ["marks", "many"] g__law_all) (c_telling_row : Cal P w mg base Γ 4 "telling_row" ["many"] g_telling_row) : FnG P w mg base Γ 5 f fd ["m"] g__law_rows_right :=
  have S := sc__law_rows_right
  ok_fn (N := ["m", "row_so", "many", "some", "size", "k", "bits"]) (c := d__law_rows_right) F S fun cdv A outer s H E W hr hg tk => (mb_cons (ms_set (i := 1) S.nd rfl (.inl rfl) (me_callTy call_tuple_of (sTuple rfl) (by rfl) n.n_tuple (by decide +kernel) (ma_cons (me_comp (own := [("k", 5)]) (g := (gName 5)) rfl S.nd (mi_range1 (by rfl) n.n_range (ma_cons (me_cal c__law_draw rfl (hr.mono (by decide)) hg tk (by rfl) (ma_cons (me_var (pv 0)) (ma_cons me_int ma_nil)) 2 (len_cons (len_cons len_nil)) rfl rfl) ma_nil)) (blkOk_by (own := [("k", 5)]) (N := ["m", "row_so", "many", "some", "size", "k", "bits"]) (sc := defScope s__law_rows_right) (by decide +kernel)) (fun _ _ _ _ _ => pg_name (i := 5) S.nd rfl (.inl rfl)) (gw_name (by decide)) (fun _ _ _ _ _ => mts_nil) (fun _ _ _ _ _ => (me_cal c__law_draw rfl (hr.mono (by decide)) hg tk0 (by rfl) (ma_cons (me_var (pv 0)) (ma_cons me_int ma_nil)) 2 (len_cons (len_cons len_nil)) rfl rfl))) ma_nil)))
  (mb_cons (ms_for (passes_of rfl) rfl (mi_range2 (by rfl) n.n_range (ma_cons me_int (ma_cons me_int ma_nil))) (mg_name (pg_name (i := 2) S.nd rfl (.inr rfl))) (mb_one (ms_if (mt_cmp (opNe hr.units) sNe (nomark _) (me_callB (call_repr hg hr.units) (sRepr rfl) (by rfl) n.n_repr (by decide +kernel) (ma_cons (me_lst (ma_cons (me_cal c_does_tell rfl (hr.mono (by decide)) hg tk (by rfl) (ma_cons (me_var (pv 1)) (ma_cons (me_var (pv 2)) ma_nil)) 2 (len_cons (len_cons len_nil)) rfl rfl) (ma_cons (me_cal c_does_tell rfl (hr.mono (by decide)) hg tk (by rfl) (ma_cons (me_var (pv 1)) (ma_cons (me_var (pv 2)) ma_nil)) 2 (len_cons (len_cons len_nil)) rfl rfl) ma_nil))) ma_nil)) (me_callB (call_repr hg hr.units) (sRepr rfl) (by rfl) n.n_repr (by decide +kernel) (ma_cons (me_op opMul sMul (me_lst (ma_cons (me_cal c__law_tells rfl (hr.mono (by decide)) hg tk (by rfl) (ma_cons (me_var (pv 1)) (ma_cons (me_var (pv 2)) ma_nil)) 2 (len_cons (len_cons len_nil)) rfl rfl) ma_nil)) me_int) ma_nil))) (mb_one (ms_ret me_bl)) mb_nil)))
  (mb_cons (ms_set (i := 2) S.nd rfl (.inr rfl) (me_op opAdd sAdd me_int (me_cal c__law_draw rfl (hr.mono (by decide)) hg tk (by rfl) (ma_cons (me_var (pv 0)) (ma_cons me_int ma_nil)) 2 (len_cons (len_cons len_nil)) rfl rfl)))
  (mb_cons (ms_set (i := 3) S.nd rfl (.inl rfl) (me_lst ma_nil))
  (mb_cons (ms_for (passes_of rfl) rfl (mi_range1 (by rfl) n.n_range (ma_cons (me_op opMul sMul me_int (me_var (pv 2))) ma_nil)) (mg_name (pg_name (i := 4) S.nd rfl (.inl rfl))) (mb_one (ms_set (i := 3) S.nd rfl (.inl rfl) (me_op opAdd sAdd (me_var (pv 3)) (me_comp (own := [("bits", 6)]) (g := (gName 6)) rfl S.nd (mi_seq rfl (me_cal c__law_all rfl (hr.mono (by decide)) hg tk (by rfl) (ma_cons (me_tup (ma_cons me_int (ma_cons me_int ma_nil))) (ma_cons (me_var (pv 4)) ma_nil)) 2 (len_cons (len_cons len_nil)) rfl rfl)) (blkOk_by (own := [("bits", 6)]) (N := ["m", "row_so", "many", "some", "size", "k", "bits"]) (sc := defScope s__law_rows_right) (by decide +kernel)) (fun _ _ _ _ _ => pg_name (i := 6) S.nd rfl (.inl rfl)) (gw_name (by decide)) (fun _ _ _ _ _ => mts_one (mt_val (me_cal c__law_tells rfl (hr.mono (by decide)) hg tk0 (by rfl) (ma_cons (me_var (pv 6)) (ma_cons (me_var (pv 2)) ma_nil)) 2 (len_cons (len_cons len_nil)) rfl rfl))) (fun _ _ _ _ _ => (me_var (pv 6))))))))
  (mb_one (ms_ret (me_cmp (opEq hr.units) sEq (nomark _) (me_callB (call_repr hg hr.units) (sRepr rfl) (by rfl) n.n_repr (by decide +kernel) (ma_cons (me_lst (ma_cons (me_cal c_telling_row rfl (hr.mono (by decide)) hg tk (by rfl) (ma_cons (me_var (pv 2)) ma_nil) 1 (len_cons len_nil) rfl rfl) (ma_cons (me_cal c_telling_row rfl (hr.mono (by decide)) hg tk (by rfl) (ma_cons (me_var (pv 2)) ma_nil) 1 (len_cons len_nil) rfl rfl) ma_nil))) ma_nil)) (me_callB (call_repr hg hr.units) (sRepr rfl) (by rfl) n.n_repr (by decide +kernel) (ma_cons (me_lst (ma_cons (me_ix rfl (hu_of hr) (me_var (pv 3)) me_int (fun _ _ => rfl) (fun _ _ => rfl)) (ma_cons (me_ix rfl (hu_of hr) (me_var (pv 3)) me_int (fun _ _ => rfl) (fun _ _ => rfl)) ma_nil))) ma_nil))))))))))
theorem ok__law_due (n : Ns Γ mg) (F : Fun Γ.K "_law_due" "_law_due" s__law_due f fd) (c__law_tells : Cal P w mg base Γ 2 "_law_tells" ["row_so", "many"] g__law_tells) (c__law_windows : Cal P w mg base Γ 1 "_law_windows" ["row_so", "many"] g__law_windows) : FnG P w mg base Γ 3 f fd ["row_so", "numbers_so"] g__law_due :=
  have S := sc__law_due
  ok_fn (N := ["row_so", "numbers_so", "many", "known", "some", "number", "found", "count"]) (c := d__law_due) F S fun cdv A outer s H E W hr hg tk => (mb_cons (ms_set (i := 2) S.nd rfl (.inl rfl) (me_op op_sub sSub (me_op opAdd sAdd (me_callB call_len (sLen rfl) (by rfl) n.n_len (by decide +kernel) (ma_cons (me_var (pv 0)) ma_nil)) me_int) (me_callB call_len (sLen rfl) (by rfl) n.n_len (by decide +kernel) (ma_cons (me_var (pv 1)) ma_nil))))
  (mb_cons (ms_if (mt_w (mw_or (mt_cmp (opEq hr.units) sEq (nomark _) (me_var (pv 1)) (me_tup ma_nil)) (mw_or (mt_not (mt_chain op_le op_le sCmp sCmp (by rfl) me_int (me_var (pv 2)) me_int)) (mw_or1 (mt_not (mt_val (me_cal c__law_tells rfl (hr.mono (by decide)) hg tk (by rfl) (ma_cons (me_var (pv 0)) (ma_cons (me_var (pv 2)) ma_nil)) 2 (len_cons (len_cons len_nil)) rfl rfl))))))) (mb_one (ms_ret (me_tup (ma_cons me_str (ma_cons (me_var (pv 1)) ma_nil))))) mb_nil)
  (mb_cons (ms_set (i := 3) S.nd rfl (.inr rfl) (me_dctM (ps := [((mK (.int 0)), (mK (.int 0)))]) (pps_cons me_int me_int pps_nil) rfl rfl (by decide) (by decide)))
  (mb_cons (ms_for (passes_of rfl) rfl (mi_zip rfl (by rfl) n.n_zip (ma_cons (me_cal c__law_windows rfl (hr.mono (by decide)) hg tk (by rfl) (ma_cons (me_var (pv 0)) (ma_cons (me_var (pv 2)) ma_nil)) 2 (len_cons (len_cons len_nil)) rfl rfl) (ma_cons (me_var (pv 1)) ma_nil))) (mg_tup' rfl rfl (mgs_cons' (mg_name (pg_name (i := 4) S.nd rfl (.inl rfl))) (mgs_cons' (mg_name (pg_name (i := 5) S.nd rfl (.inl rfl))) mgs_nil))) (mb_cons (ms_if (mt_cmp (opNe hr.units) sNe (nomark _) (me_dget2 hr.units (me_var (pv 3)) (me_callB (cr_sumA rfl) (sSumA rfl) (by rfl) n.n_sum (by decide +kernel) (ma_cons (me_var (pv 4)) ma_nil)) (me_var (pv 5)) ⟨by rfl, by rfl, by rfl, by rfl⟩) (me_var (pv 5))) (mb_one (ms_ret (me_tup (ma_cons me_str (ma_cons (me_var (pv 1)) ma_nil))))) mb_nil)
  (mb_one (ms_dput (hu_of hr) (me_var (pv 3)) (me_callB (cr_sumA rfl) (sSumA rfl) (by rfl) n.n_sum (by decide +kernel) (ma_cons (me_var (pv 4)) ma_nil)) (me_var (pv 5)) (by rfl)))))
  (mb_cons (ms_setComp (i := 6) (own := [("count", 7)]) (g := (gName 7)) rfl S.nd rfl rfl (sw_true rfl rfl rfl (by decide +kernel)) (mi_range2 (by rfl) n.n_range (ma_cons me_int (ma_cons (me_op opAdd sAdd (me_var (pv 2)) me_int) ma_nil))) (blkOk_by (own := [("count", 7)]) (N := ["row_so", "numbers_so", "many", "known", "some", "number", "found", "count"]) (sc := defScope s__law_due) (by decide +kernel)) (fun _ _ _ _ _ => pg_name (i := 7) S.nd rfl (.inl rfl)) (gw_name (by decide)) (fun _ _ _ _ _ => mts_nil) (fun _ _ _ _ _ => (me_op op_sub sSub (me_ix rfl (hu_of hr) (me_var (pv 3)) (me_var (pv 7)) (fun _ _ => rfl) (fun _ _ => rfl)) (me_ix rfl (hu_of hr) (me_var (pv 3)) (me_op op_sub sSub (me_var (pv 7)) me_int) (fun _ _ => rfl) (fun _ _ => rfl)))))
  (mb_cons (ms_set (i := 6) S.nd rfl (.inl rfl) (me_callTy call_tuple_of (sTuple rfl) (by rfl) n.n_tuple (by decide +kernel) (ma_cons (me_rev rfl (me_var (pv 6))) ma_nil)))
  (mb_one (ms_ret (me_if (mt_w (mw_and (mt_cmp op_le sCmp (nomark _) (me_callB (cr_maxA rfl) (sMaxA rfl) (by rfl) n.n_max (by decide +kernel) (ma_cons (me_var (pv 6)) ma_nil)) me_int) (mw_and1 (mt_cmp op_ge sCmp (nomark _) (me_callB (cr_minA rfl) (sMinA rfl) (by rfl) n.n_min (by decide +kernel) (ma_cons (me_var (pv 6)) ma_nil)) (me_un un_neg sNeg me_int))))) (me_lst (ma_cons (me_var (pv 6)) ma_nil)) (me_tup (ma_cons me_str (ma_cons (me_var (pv 1)) ma_nil))))))))))))
theorem ok__law_back_right {c0 : Addr} (n : Ns Γ mg) (F : Fun Γ.K "_law_back_right" "_law_back_right" s__law_back_right f fd) (hc : fd.code = .ref c0) (TB : LamX.TabB base mg c0 (Γ.tb 0)) (c__law_tune : Cal P w mg base Γ 2 "_law_tune" ["m", "limit"] g__law_tune) (c__law_draw : Cal P w mg base Γ 1 "_law_draw" ["m", "limit"] g__law_draw) (c_telling_row : Cal P w mg base Γ 4 "telling_row" ["many"] g_telling_row) (c__law_windows : Cal P w mg base Γ 1 "_law_windows" ["row_so", "many"] g__law_windows) (c__law_sum : Cal P w mg base Γ 1 "_law_sum" ["tune", "some"] g__law_sum) (c_rule_told : Cal P w mg base Γ 5 "rule_told" ["row", "numbers"] g_rule_told) (c__law_due : Cal P w mg base Γ 3 "_law_due" ["row_so", "numbers_so"] g__law_due) (c__law_heard : CalL P w mg base Γ 7 6 "_law_heard" ["call"] h__law_heard) : FnG P w mg base Γ 8 f fd ["m"] g__law_back_right :=
  have S := sc__law_back_right
  ok_fnC (N := ["m", "tune", "row_so", "numbers_so", "at", "things", "thing", "due", "kept", "told_so", "k", "some", "more"]) (c := d__law_back_right) F hc S fun A outer s H E W hr hg tk => (mb_cons (ms_set (i := 1) S.nd rfl (.inr rfl) (me_cal c__law_tune rfl (hr.mono (by decide)) hg tk (by rfl) (ma_cons (me_var (pv 0)) (ma_cons me_int ma_nil)) 2 (len_cons (len_cons len_nil)) rfl rfl))
  (mb_cons (ms_if (mt_cmp (opEq hr.units) sEq (nomark _) (me_cal c__law_draw rfl (hr.mono (by decide)) hg tk (by rfl) (ma_cons (me_var (pv 0)) (ma_cons me_int ma_nil)) 2 (len_cons (len_cons len_nil)) rfl rfl) me_int) (mb_one (ms_set (i := 1) S.nd rfl (.inr rfl) (me_callTy call_tuple_of (sTuple rfl) (by rfl) n.n_tuple (by decide +kernel) (ma_cons (me_comp (own := [("k", 10)]) (g := (gName 10)) rfl S.nd (mi_range1 (by rfl) n.n_range (ma_cons (me_op opAdd sAdd me_int (me_cal c__law_draw rfl (hr.mono (by decide)) hg tk (by rfl) (ma_cons (me_var (pv 0)) (ma_cons me_int ma_nil)) 2 (len_cons (len_cons len_nil)) rfl rfl)) ma_nil)) (blkOk_by (own := [("k", 10)]) (N := ["m", "tune", "row_so", "numbers_so", "at", "things", "thing", "due", "kept", "told_so", "k", "some", "more"]) (sc := defScope s__law_back_right) (by decide +kernel)) (fun _ _ _ _ _ => pg_name (i := 10) S.nd rfl (.inl rfl)) (gw_name (by decide)) (fun _ _ _ _ _ => mts_nil) (fun _ _ _ _ _ => (me_op op_sub sSub (me_cal c__law_draw rfl (hr.mono (by decide)) hg tk0 (by rfl) (ma_cons (me_var (pv 0)) (ma_cons me_int ma_nil)) 2 (len_cons (len_cons len_nil)) rfl rfl) me_int))) ma_nil)))) mb_nil)
  (mb_cons (ms_set (i := 2) S.nd rfl (.inr rfl) (me_op opAdd sAdd (me_cal c_telling_row rfl (hr.mono (by decide)) hg tk (by rfl) (ma_cons (me_callB call_len (sLen rfl) (by rfl) n.n_len (by decide +kernel) (ma_cons (me_var (pv 1)) ma_nil)) ma_nil) 1 (len_cons len_nil) rfl rfl) (me_callTy call_tuple_of (sTuple rfl) (by rfl) n.n_tuple (by decide +kernel) (ma_cons (me_comp (own := [("k", 10)]) (g := (gName 10)) rfl S.nd (mi_range1 (by rfl) n.n_range (ma_cons (me_cal c__law_draw rfl (hr.mono (by decide)) hg tk (by rfl) (ma_cons (me_var (pv 0)) (ma_cons me_int ma_nil)) 2 (len_cons (len_cons len_nil)) rfl rfl) ma_nil)) (blkOk_by (own := [("k", 10)]) (N := ["m", "tune", "row_so", "numbers_so", "at", "things", "thing", "due", "kept", "told_so", "k", "some", "more"]) (sc := defScope s__law_back_right) (by decide +kernel)) (fun _ _ _ _ _ => pg_name (i := 10) S.nd rfl (.inl rfl)) (gw_name (by decide)) (fun _ _ _ _ _ => mts_nil) (fun _ _ _ _ _ => (me_cal c__law_draw rfl (hr.mono (by decide)) hg tk0 (by rfl) (ma_cons (me_var (pv 0)) (ma_cons me_int ma_nil)) 2 (len_cons (len_cons len_nil)) rfl rfl))) ma_nil))))
  (mb_cons (ms_set (i := 2) S.nd rfl (.inr rfl) (me_op opAdd sAdd (me_callTy call_tuple_of (sTuple rfl) (by rfl) n.n_tuple (by decide +kernel) (ma_cons (me_comp (own := [("k", 10)]) (g := (gName 10)) rfl S.nd (mi_range1 (by rfl) n.n_range (ma_cons (me_cal c__law_draw rfl (hr.mono (by decide)) hg tk (by rfl) (ma_cons (me_var (pv 0)) (ma_cons me_int ma_nil)) 2 (len_cons (len_cons len_nil)) rfl rfl) ma_nil)) (blkOk_by (own := [("k", 10)]) (N := ["m", "tune", "row_so", "numbers_so", "at", "things", "thing", "due", "kept", "told_so", "k", "some", "more"]) (sc := defScope s__law_back_right) (by decide +kernel)) (fun _ _ _ _ _ => pg_name (i := 10) S.nd rfl (.inl rfl)) (gw_name (by decide)) (fun _ _ _ _ _ => mts_nil) (fun _ _ _ _ _ => (me_cal c__law_draw rfl (hr.mono (by decide)) hg tk0 (by rfl) (ma_cons (me_var (pv 0)) (ma_cons me_int ma_nil)) 2 (len_cons (len_cons len_nil)) rfl rfl))) ma_nil)) (me_var (pv 2))))
  (mb_cons (ms_set (i := 3) S.nd rfl (.inr rfl) (me_callTy call_tuple_of (sTuple rfl) (by rfl) n.n_tuple (by decide +kernel) (ma_cons (me_comp (own := [("some", 11)]) (g := (gName 11)) rfl S.nd (mi_seq rfl (me_cal c__law_windows rfl (hr.mono (by decide)) hg tk (by rfl) (ma_cons (me_var (pv 2)) (ma_cons (me_callB call_len (sLen rfl) (by rfl) n.n_len (by decide +kernel) (ma_cons (me_var (pv 1)) ma_nil)) ma_nil)) 2 (len_cons (len_cons len_nil)) rfl rfl)) (blkOk_by (own := [("some", 11)]) (N := ["m", "tune", "row_so", "numbers_so", "at", "things", "thing", "due", "kept", "told_so", "k", "some", "more"]) (sc := defScope s__law_back_right) (by decide +kernel)) (fun _ _ _ _ _ => pg_name (i := 11) S.nd rfl (.inl rfl)) (gw_name (by decide)) (fun _ _ _ _ _ => mts_nil) (fun _ _ _ _ _ => (me_cal c__law_sum rfl (hr.mono (by decide)) hg tk0 (by rfl) (ma_cons (me_var (pv 1)) (ma_cons (me_var (pv 11)) ma_nil)) 2 (len_cons (len_cons len_nil)) rfl rfl))) ma_nil)))
  (mb_cons (ms_if (mt_cmp (opNe hr.units) sNe (nomark _) (me_callB (call_repr hg hr.units) (sRepr rfl) (by rfl) n.n_repr (by decide +kernel) (ma_cons (me_lst (ma_cons (me_cal c_rule_told rfl (hr.mono (by decide)) hg tk (by rfl) (ma_cons (me_var (pv 2)) (ma_cons (me_var (pv 3)) ma_nil)) 2 (len_cons (len_cons len_nil)) rfl rfl) (ma_cons (me_cal c_rule_told rfl (hr.mono (by decide)) hg tk (by rfl) (ma_cons (me_var (pv 2)) (ma_cons (me_var (pv 3)) ma_nil)) 2 (len_cons (len_cons len_nil)) rfl rfl) ma_nil))) ma_nil)) (me_callB (call_repr hg hr.units) (sRepr rfl) (by rfl) n.n_repr (by decide +kernel) (ma_cons (me_lst (ma_cons (me_var (pv 1)) (ma_cons (me_var (pv 1)) ma_nil))) ma_nil))) (mb_one (ms_ret me_bl)) mb_nil)
  (mb_cons (ms_set (i := 4) S.nd rfl (.inr rfl) (me_cal c__law_draw rfl (hr.mono (by decide)) hg tk (by rfl) (ma_cons (me_var (pv 0)) (ma_cons (me_callB call_len (sLen rfl) (by rfl) n.n_len (by decide +kernel) (ma_cons (me_var (pv 3)) ma_nil)) ma_nil)) 2 (len_cons (len_cons len_nil)) rfl rfl))
  (mb_cons (ms_setComp (i := 5) (own := [("more", 12)]) (g := (gName 12)) rfl S.nd rfl rfl (sw_true rfl rfl rfl (by decide +kernel)) (mi_seq rfl (me_tup (ma_cons me_int (ma_cons (me_un un_neg sNeg me_int) (ma_cons me_int ma_nil))))) (blkOk_by (own := [("more", 12)]) (N := ["m", "tune", "row_so", "numbers_so", "at", "things", "thing", "due", "kept", "told_so", "k", "some", "more"]) (sc := defScope s__law_back_right) (by decide +kernel)) (fun _ _ _ _ _ => pg_name (i := 12) S.nd rfl (.inl rfl)) (gw_name (by decide)) (fun _ _ _ _ _ => mts_nil) (fun _ _ _ _ _ => (me_op opAdd sAdd (me_op opAdd sAdd (me_sl rfl (me_var (pv 3)) mo_none (mo_some (me_var (pv 4)))) (me_tup (ma_cons (me_op opAdd sAdd (me_ix rfl (hu_of hr) (me_var (pv 3)) (me_var (pv 4)) (fun _ _ => rfl) (fun _ _ => rfl)) (me_var (pv 12))) ma_nil))) (me_sl rfl (me_var (pv 3)) (mo_some (me_op opAdd sAdd (me_var (pv 4)) me_int)) mo_none))))
  (mb_cons (ms_set (i := 5) S.nd rfl (.inl rfl) (me_op opAdd sAdd (me_var (pv 5)) (me_lst (ma_cons (me_sl rfl (me_var (pv 3)) (mo_some me_int) mo_none) (ma_cons (me_op opAdd sAdd (me_var (pv 3)) (me_tup (ma_cons me_int ma_nil))) (ma_cons (me_rev rfl (me_var (pv 3))) (ma_cons (me_tup ma_nil) (ma_cons (me_sl rfl (me_var (pv 3)) mo_none (mo_some me_int)) ma_nil))))))))
  (mb_cons (ms_for (passes_of rfl) rfl (mi_seq rfl (me_var (pv 5))) (mg_name (pg_name (i := 6) S.nd rfl (.inr rfl))) (mb_cons (ms_par rfl S.nd rfl rfl (by decide) rfl rfl (ma_cons (me_cal c__law_due rfl (hr.mono (by decide)) hg tk (by rfl) (ma_cons (me_var (pv 2)) (ma_cons (me_var (pv 6)) ma_nil)) 2 (len_cons (len_cons len_nil)) rfl rfl) (ma_cons (me_callB (call_repr hg hr.units) (sRepr rfl) (by rfl) n.n_repr (by decide +kernel) (ma_cons (me_lst (ma_cons (me_var (pv 2)) (ma_cons (me_var (pv 6)) ma_nil))) ma_nil)) ma_nil)) (by rfl))
  (mb_cons (ms_set (i := 9) S.nd rfl (.inl rfl) (me_lst (ma_cons (me_lamC (nt := 0) (n := 0) (kb := 5) (gb := l__law_back_right_1) c__law_heard rfl (hr.mono (by decide)) hg tk (by rfl) TB rfl (.inl ⟨fun _ => rfl, fun _ _ _ _ _ _ _ => rfl⟩) (lamN_by (N := ["m", "tune", "row_so", "numbers_so", "at", "things", "thing", "due", "kept", "told_so", "k", "some", "more"]) (sc := defScope s__law_back_right) (by decide +kernel)) (fun f c' A outer s H E W hr hg tk => (me_cal c_rule_told rfl (hr.mono (by decide)) hg tk (by rfl) (ma_cons (me_var (pv 2)) (ma_cons (me_var (pv 6)) ma_nil)) 2 (len_cons (len_cons len_nil)) rfl rfl)) ma_nil 0 len_nil rfl) (ma_cons (me_lamC (nt := 0) (n := 0) (kb := 5) (gb := l__law_back_right_2) c__law_heard rfl (hr.mono (by decide)) hg tk (by rfl) TB rfl (.inr ⟨"x", 0, _, _, rfl, rfl, rfl, fun _ _ _ _ _ _ _ _ => ⟨_, rfl, fun _ => rfl⟩⟩) (lamN_by (N := ["m", "tune", "row_so", "numbers_so", "at", "things", "thing", "due", "kept", "told_so", "k", "some", "more"]) (sc := defScope s__law_back_right) (by decide +kernel)) (fun f c' A outer s H E W hr hg tk => (me_cal c_rule_told rfl (hr.mono (by decide)) hg tk (by rfl) (ma_cons (me_var (pv 2)) (ma_cons (me_var (pv 6)) ma_nil)) 2 (len_cons (len_cons len_nil)) rfl rfl)) ma_nil 0 len_nil rfl) ma_nil))))
  (mb_one (ms_if (mt_w (mw_or (mt_cmp (opNe hr.units) sNe (nomark _) (me_callB (call_repr hg hr.units) (sRepr rfl) (by rfl) n.n_repr (by decide +kernel) (ma_cons (me_var (pv 9)) ma_nil)) (me_callB (call_repr hg hr.units) (sRepr rfl) (by rfl) n.n_repr (by decide +kernel) (ma_cons (me_lst (ma_cons (me_var (pv 7)) (ma_cons (me_var (pv 7)) ma_nil))) ma_nil))) (mw_or1 (mt_cmp (opNe hr.units) sNe (nomark _) (me_callB (call_repr hg hr.units) (sRepr rfl) (by rfl) n.n_repr (by decide +kernel) (ma_cons (me_lst (ma_cons (me_var (pv 2)) (ma_cons (me_var (pv 6)) ma_nil))) ma_nil)) (me_var (pv 8)))))) (mb_one (ms_ret me_bl)) mb_nil)))))
  (mb_one (ms_ret me_bl))))))))))))
theorem ok__law_fits (n : Ns Γ mg) (F : Fun Γ.K "_law_fits" "_law_fits" s__law_fits f fd) (c__law_sum : Cal P w mg base Γ 1 "_law_sum" ["tune", "some"] g__law_sum) : FnG P w mg base Γ 2 f fd ["tune", "pairs"] g__law_fits :=
  have S := sc__law_fits
  ok_fn (N := ["tune", "pairs", "film", "number"]) (c := d__law_fits) F S fun cdv A outer s H E W hr hg tk => (mb_cons (ms_for (passes_of rfl) rfl (mi_seq rfl (me_var (pv 1))) (mg_tup' rfl rfl (mgs_cons' (mg_name (pg_name (i := 2) S.nd rfl (.inl rfl))) (mgs_cons' (mg_name (pg_name (i := 3) S.nd rfl (.inl rfl))) mgs_nil))) (mb_one (ms_if (mt_w (mw_or (mt_cmp op_lt sCmp (nomark _) (me_callB call_len (sLen rfl) (by rfl) n.n_len (by decide +kernel) (ma_cons (me_var (pv 2)) ma_nil)) (me_callB call_len (sLen rfl) (by rfl) n.n_len (by decide +kernel) (ma_cons (me_var (pv 0)) ma_nil))) (mw_or1 (mt_cmp (opNe hr.units) sNe (nomark _) (me_cal c__law_sum rfl (hr.mono (by decide)) hg tk (by rfl) (ma_cons (me_var (pv 0)) (ma_cons (me_sl rfl (me_var (pv 2)) (mo_some (me_op op_sub sSub (me_callB call_len (sLen rfl) (by rfl) n.n_len (by decide +kernel) (ma_cons (me_var (pv 2)) ma_nil)) (me_callB call_len (sLen rfl) (by rfl) n.n_len (by decide +kernel) (ma_cons (me_var (pv 0)) ma_nil)))) mo_none) ma_nil)) 2 (len_cons (len_cons len_nil)) rfl rfl) (me_var (pv 3)))))) (mb_one (ms_ret me_bl)) mb_nil)))
  (mb_one (ms_ret me_bl)))
theorem ok__law_best_bits (n : Ns Γ mg) (F : Fun Γ.K "_law_best_bits" "_law_best_bits" s__law_best_bits f fd) (c__law_all : Cal P w mg base Γ 1 "_law_all" ["marks", "many"] g__law_all) (c__law_sum : Cal P w mg base Γ 1 "_law_sum" ["tune", "some"] g__law_sum) : FnG P w mg base Γ 2 f fd ["tunes", "size_so"] g__law_best_bits :=
  have S := sc__law_best_bits
  ok_fn (N := ["tunes", "size_so", "best", "bits", "some", "most_so", "tune", "one"]) (c := d__law_best_bits) F S fun cdv A outer s H E W hr hg tk => (mb_cons (ms_set (i := 2) S.nd rfl (.inl rfl) me_non)
  (mb_cons (ms_for (passes_of rfl) rfl (mi_seq rfl (me_cal c__law_all rfl (hr.mono (by decide)) hg tk (by rfl) (ma_cons (me_tup (ma_cons me_int (ma_cons me_int ma_nil))) (ma_cons (me_var (pv 1)) ma_nil)) 2 (len_cons (len_cons len_nil)) rfl rfl)) (mg_name (pg_name (i := 3) S.nd rfl (.inr rfl))) (mb_cons (ms_set (i := 4) S.nd rfl (.inr rfl) (me_comp (own := [("tune", 6)]) (g := (gName 6)) rfl S.nd (mi_seq rfl (me_var (pv 0))) (blkOk_by (own := [("tune", 6)]) (N := ["tunes", "size_so", "best", "bits", "some", "most_so", "tune", "one"]) (sc := defScope s__law_best_bits) (by decide +kernel)) (fun _ _ _ _ _ => pg_name (i := 6) S.nd rfl (.inl rfl)) (gw_name (by decide)) (fun _ _ _ _ _ => mts_nil) (fun _ _ _ _ _ => (me_cal c__law_sum rfl (hr.mono (by decide)) hg tk0 (by rfl) (ma_cons (me_var (pv 6)) (ma_cons (me_sl rfl (me_var (pv 3)) (mo_some (me_op op_sub sSub (me_var (pv 1)) (me_callB call_len (sLen rfl) (by rfl) n.n_len (by decide +kernel) (ma_cons (me_var (pv 6)) ma_nil)))) mo_none) ma_nil)) 2 (len_cons (len_cons len_nil)) rfl rfl))))
  (mb_cons (ms_set (i := 5) S.nd rfl (.inl rfl) (me_if (mt_cmp (opNe hr.units) sNe (nomark _) (me_var (pv 4)) (me_lst ma_nil)) (me_callB (cr_max rfl) (sMaxL rfl) (by rfl) n.n_max (by decide +kernel) (ma_cons (me_comp (own := [("one", 7)]) (g := (gName 7)) rfl S.nd (mi_seq rfl (me_var (pv 4))) (blkOk_by (own := [("one", 7)]) (N := ["tunes", "size_so", "best", "bits", "some", "most_so", "tune", "one"]) (sc := defScope s__law_best_bits) (by decide +kernel)) (fun _ _ _ _ _ => pg_name (i := 7) S.nd rfl (.inl rfl)) (gw_name (by decide)) (fun _ _ _ _ _ => mts_nil) (fun _ _ _ _ _ => (me_count rfl (pe_bm PySem.F.plainAttrs_list PySem.F.slot_list_count PySem.F.type_list_count mt_lcount (me_var (pv 4)) (pa_cons (me_var (pv 7)) pa_nil))))) ma_nil)) me_int))
  (mb_one (ms_if (mt_w (mw_or (mt_cmp op_isC sIsC (nomark _) (me_var (pv 2)) me_non) (mw_or1 (mt_cmp op_lt sCmp (nomark _) (me_var (pv 5)) (me_ix rfl (hu_of hr) (me_var (pv 2)) me_int (fun _ _ => rfl) (fun _ _ => rfl)))))) (mb_one (ms_set (i := 2) S.nd rfl (.inl rfl) (me_tup (ma_cons (me_var (pv 5)) (ma_cons (me_var (pv 3)) ma_nil))))) mb_nil)))))
  (mb_one (ms_ret (me_if (mt_w (mw_and (mt_cmp op_gt sCmp (nomark _) (me_callB call_len (sLen rfl) (by rfl) n.n_len (by decide +kernel) (ma_cons (me_var (pv 0)) ma_nil)) me_int) (mw_and1 (mt_cmp op_lt sCmp (nomark _) (me_ix rfl (hu_of hr) (me_var (pv 2)) me_int (fun _ _ => rfl) (fun _ _ => rfl)) (me_callB call_len (sLen rfl) (by rfl) n.n_len (by decide +kernel) (ma_cons (me_var (pv 0)) ma_nil)))))) (me_ix rfl (hu_of hr) (me_var (pv 2)) me_int (fun _ _ => rfl) (fun _ _ => rfl)) me_non)))))
theorem ok__law_menus_right (n : Ns Γ mg) (F : Fun Γ.K "_law_menus_right" "_law_menus_right" s__law_menus_right f fd) (c__law_draw : Cal P w mg base Γ 1 "_law_draw" ["m", "limit"] g__law_draw) (c__law_tune : Cal P w mg base Γ 2 "_law_tune" ["m", "limit"] g__law_tune) (c__law_of : Cal P w mg base Γ 2 "_law_of" ["m", "some"] g__law_of) (c__law_sum : Cal P w mg base Γ 1 "_law_sum" ["tune", "some"] g__law_sum) (c__law_fits : Cal P w mg base Γ 2 "_law_fits" ["tune", "pairs"] g__law_fits) (c__law_best_bits : Cal P w mg base Γ 2 "_law_best_bits" ["tunes", "size_so"] g__law_best_bits) (c_fitting : Cal P w mg base Γ 6 "fitting" ["menu", "seen"] g_fitting) (c_best_ask : Cal P w mg base Γ 7 "best_ask" ["menu", "seen", "size"] g_best_ask) : FnG P w mg base Γ 8 f fd ["m"] g__law_menus_right :=
  have S := sc__law_menus_right
  ok_fn (N := ["m", "card", "hidden", "pairs", "k", "film", "number", "kept", "due", "first", "again", "j"]) (c := d__law_menus_right) F S fun cdv A outer s H E W hr hg tk => (mb_cons (ms_set (i := 1) S.nd rfl (.inr rfl) (me_callTy call_tuple_of (sTuple rfl) (by rfl) n.n_tuple (by decide +kernel) (ma_cons (me_comp (own := [("k", 4)]) (g := (gName 4)) rfl S.nd (mi_range1 (by rfl) n.n_range (ma_cons (me_op opAdd sAdd me_int (me_cal c__law_draw rfl (hr.mono (by decide)) hg tk (by rfl) (ma_cons (me_var (pv 0)) (ma_cons me_int ma_nil)) 2 (len_cons (len_cons len_nil)) rfl rfl)) ma_nil)) (blkOk_by (own := [("k", 4)]) (N := ["m", "card", "hidden", "pairs", "k", "film", "number", "kept", "due", "first", "again", "j"]) (sc := defScope s__law_menus_right) (by decide +kernel)) (fun _ _ _ _ _ => pg_name (i := 4) S.nd rfl (.inl rfl)) (gw_name (by decide)) (fun _ _ _ _ _ => mts_nil) (fun _ _ _ _ _ => (me_cal c__law_tune rfl (hr.mono (by decide)) hg tk0 (by rfl) (ma_cons (me_var (pv 0)) (ma_cons me_int ma_nil)) 2 (len_cons (len_cons len_nil)) rfl rfl))) ma_nil)))
  (mb_cons (ms_setT (me_tup (ma_cons (me_cal c__law_of rfl (hr.mono (by decide)) hg tk (by rfl) (ma_cons (me_var (pv 0)) (ma_cons (me_var (pv 1)) ma_nil)) 2 (len_cons (len_cons len_nil)) rfl rfl) (ma_cons (me_tup ma_nil) ma_nil))) (mg_tup' rfl rfl (mgs_cons' (mg_name (pg_name (i := 2) S.nd rfl (.inl rfl))) (mgs_cons' (mg_name (pg_name (i := 3) S.nd rfl (.inr rfl))) mgs_nil))))
  (mb_cons (ms_for (passes_of rfl) rfl (mi_range1 (by rfl) n.n_range (ma_cons (me_cal c__law_draw rfl (hr.mono (by decide)) hg tk (by rfl) (ma_cons (me_var (pv 0)) (ma_cons me_int ma_nil)) 2 (len_cons (len_cons len_nil)) rfl rfl) ma_nil)) (mg_name (pg_name (i := 4) S.nd rfl (.inl rfl))) (mb_cons (ms_set (i := 5) S.nd rfl (.inl rfl) (me_callTy call_tuple_of (sTuple rfl) (by rfl) n.n_tuple (by decide +kernel) (ma_cons (me_comp (own := [("j", 11)]) (g := (gName 11)) rfl S.nd (mi_range1 (by rfl) n.n_range (ma_cons (me_cal c__law_of rfl (hr.mono (by decide)) hg tk (by rfl) (ma_cons (me_var (pv 0)) (ma_cons (me_lst (ma_cons me_int (ma_cons me_int (ma_cons me_int ma_nil)))) ma_nil)) 2 (len_cons (len_cons len_nil)) rfl rfl) ma_nil)) (blkOk_by (own := [("j", 11)]) (N := ["m", "card", "hidden", "pairs", "k", "film", "number", "kept", "due", "first", "again", "j"]) (sc := defScope s__law_menus_right) (by decide +kernel)) (fun _ _ _ _ _ => pg_name (i := 11) S.nd rfl (.inl rfl)) (gw_name (by decide)) (fun _ _ _ _ _ => mts_nil) (fun _ _ _ _ _ => (me_cal c__law_draw rfl (hr.mono (by decide)) hg tk0 (by rfl) (ma_cons (me_var (pv 0)) (ma_cons (me_cal c__law_of rfl (hr.mono (by decide)) hg tk0 (by rfl) (ma_cons (me_var (pv 0)) (ma_cons (me_lst (ma_cons me_int (ma_cons me_int ma_nil))) ma_nil)) 2 (len_cons (len_cons len_nil)) rfl rfl) ma_nil)) 2 (len_cons (len_cons len_nil)) rfl rfl))) ma_nil)))
  (mb_cons (ms_set (i := 6) S.nd rfl (.inl rfl) (me_op opAdd sAdd (me_cal c__law_sum rfl (hr.mono (by decide)) hg tk (by rfl) (ma_cons (me_var (pv 2)) (ma_cons (me_sl rfl (me_var (pv 5)) (mo_some (me_callB (call_max2 rfl) sMax2 (by rfl) n.n_max (by decide +kernel) (ma_cons me_int (ma_cons (me_op op_sub sSub (me_callB call_len (sLen rfl) (by rfl) n.n_len (by decide +kernel) (ma_cons (me_var (pv 5)) ma_nil)) (me_callB call_len (sLen rfl) (by rfl) n.n_len (by decide +kernel) (ma_cons (me_var (pv 2)) ma_nil))) ma_nil)))) mo_none) ma_nil)) 2 (len_cons (len_cons len_nil)) rfl rfl) (me_cal c__law_of rfl (hr.mono (by decide)) hg tk (by rfl) (ma_cons (me_var (pv 0)) (ma_cons (me_lst (ma_cons me_int (ma_cons me_int (ma_cons me_int (ma_cons me_int ma_nil))))) ma_nil)) 2 (len_cons (len_cons len_nil)) rfl rfl)))
  (mb_one (ms_set (i := 3) S.nd rfl (.inr rfl) (me_op opAdd sAdd (me_var (pv 3)) (me_tup (ma_cons (me_tup (ma_cons (me_var (pv 5)) (ma_cons (me_var (pv 6)) ma_nil))) ma_nil))))))))
  (mb_cons (ms_par rfl S.nd rfl rfl (by decide) rfl rfl (ma_cons (me_callB (call_repr hg hr.units) (sRepr rfl) (by rfl) n.n_repr (by decide +kernel) (ma_cons (me_lst (ma_cons (me_var (pv 1)) (ma_cons (me_var (pv 3)) ma_nil))) ma_nil)) (ma_cons (me_callTy call_tuple_of (sTuple rfl) (by rfl) n.n_tuple (by decide +kernel) (ma_cons (me_comp (own := [("k", 4)]) (g := (gName 4)) rfl S.nd (mi_range1 (by rfl) n.n_range (ma_cons (me_callB call_len (sLen rfl) (by rfl) n.n_len (by decide +kernel) (ma_cons (me_var (pv 1)) ma_nil)) ma_nil)) (blkOk_by (own := [("k", 4)]) (N := ["m", "card", "hidden", "pairs", "k", "film", "number", "kept", "due", "first", "again", "j"]) (sc := defScope s__law_menus_right) (by decide +kernel)) (fun _ _ _ _ _ => pg_name (i := 4) S.nd rfl (.inl rfl)) (gw_name (by decide)) (fun _ _ _ _ _ => mts_one (mt_val (me_cal c__law_fits rfl (hr.mono (by decide)) hg tk0 (by rfl) (ma_cons (me_ix rfl (hu_of hr) (me_var (pv 1)) (me_var (pv 4)) (fun _ _ => rfl) (fun _ _ => rfl)) (ma_cons (me_var (pv 3)) ma_nil)) 2 (len_cons (len_cons len_nil)) rfl rfl))) (fun _ _ _ _ _ => (me_var (pv 4)))) ma_nil)) ma_nil)) (by rfl))
  (mb_cons (ms_set (i := 9) S.nd rfl (.inl rfl) (me_cal c__law_best_bits rfl (hr.mono (by decide)) hg tk (by rfl) (ma_cons (me_comp (own := [("k", 4)]) (g := (gName 4)) rfl S.nd (mi_seq rfl (me_var (pv 8))) (blkOk_by (own := [("k", 4)]) (N := ["m", "card", "hidden", "pairs", "k", "film", "number", "kept", "due", "first", "again", "j"]) (sc := defScope s__law_menus_right) (by decide +kernel)) (fun _ _ _ _ _ => pg_name (i := 4) S.nd rfl (.inl rfl)) (gw_name (by decide)) (fun _ _ _ _ _ => mts_nil) (fun _ _ _ _ _ => (me_ix rfl (hu_of hr) (me_var (pv 1)) (me_var (pv 4)) (fun _ _ => rfl) (fun _ _ => rfl)))) (ma_cons me_int ma_nil)) 2 (len_cons (len_cons len_nil)) rfl rfl))
  (mb_cons (ms_for (passes_of rfl) rfl (mi_range1 (by rfl) n.n_range (ma_cons me_int ma_nil)) (mg_name (pg_name (i := 10) S.nd rfl (.inl rfl))) (mb_one (ms_if (mt_cmp (opNe hr.units) sNe (nomark _) (me_callB (call_repr hg hr.units) (sRepr rfl) (by rfl) n.n_repr (by decide +kernel) (ma_cons (me_lst (ma_cons (me_cal c_fitting rfl (hr.mono (by decide)) hg tk (by rfl) (ma_cons (me_var (pv 1)) (ma_cons (me_var (pv 3)) ma_nil)) 2 (len_cons (len_cons len_nil)) rfl rfl) (ma_cons (me_cal c_best_ask rfl (hr.mono (by decide)) hg tk (by rfl) (ma_cons (me_var (pv 1)) (ma_cons (me_var (pv 3)) (ma_cons me_int ma_nil))) 3 (len_cons (len_cons (len_cons len_nil))) rfl rfl) ma_nil))) ma_nil)) (me_callB (call_repr hg hr.units) (sRepr rfl) (by rfl) n.n_repr (by decide +kernel) (ma_cons (me_lst (ma_cons (me_var (pv 8)) (ma_cons (me_var (pv 9)) ma_nil))) ma_nil))) (mb_one (ms_ret me_bl)) mb_nil)))
  (mb_one (ms_ret (me_cmp (opEq hr.units) sEq (nomark _) (me_callB (call_repr hg hr.units) (sRepr rfl) (by rfl) n.n_repr (by decide +kernel) (ma_cons (me_lst (ma_cons (me_var (pv 1)) (ma_cons (me_var (pv 3)) ma_nil))) ma_nil)) (me_var (pv 7)))))))))))
theorem ok__law_hand_right {c0 : Addr} (n : Ns Γ mg) (F : Fun Γ.K "_law_hand_right" "_law_hand_right" s__law_hand_right f fd) (hc : fd.code = .ref c0) (TB : LamX.TabB base mg c0 (Γ.tb 1)) (c_does_tell : Cal P w mg base Γ 4 "does_tell" ["row", "many"] g_does_tell) (c_telling_row : Cal P w mg base Γ 4 "telling_row" ["many"] g_telling_row) (c_rule_told : Cal P w mg base Γ 5 "rule_told" ["row", "numbers"] g_rule_told) (c__law_heard : CalL P w mg base Γ 7 6 "_law_heard" ["call"] h__law_heard) (c_fitting : Cal P w mg base Γ 6 "fitting" ["menu", "seen"] g_fitting) (c_best_ask : Cal P w mg base Γ 7 "best_ask" ["menu", "seen", "size"] g_best_ask) : FnG P w mg base Γ 8 f fd [] g__law_hand_right :=
  have S := sc__law_hand_right
  ok_fnC (N := ["told_so", "card"]) (c := d__law_hand_right) F hc S fun A outer s H E W hr hg tk => (mb_cons (ms_set (i := 0) S.nd rfl (.inl rfl) (me_lst (ma_cons (me_cal c_does_tell rfl (hr.mono (by decide)) hg tk (by rfl) (ma_cons (me_tup (ma_cons me_int (ma_cons me_int (ma_cons me_int (ma_cons me_int ma_nil))))) (ma_cons me_int ma_nil)) 2 (len_cons (len_cons len_nil)) rfl rfl) (ma_cons (me_cal c_does_tell rfl (hr.mono (by decide)) hg tk (by rfl) (ma_cons (me_tup (ma_cons me_int (ma_cons me_int (ma_cons me_int (ma_cons me_int ma_nil))))) (ma_cons me_int ma_nil)) 2 (len_cons (len_cons len_nil)) rfl rfl) (ma_cons (me_cal c_does_tell rfl (hr.mono (by decide)) hg tk (by rfl) (ma_cons (me_tup (ma_cons me_int ma_nil)) (ma_cons me_int ma_nil)) 2 (len_cons (len_cons len_nil)) rfl rfl) (ma_cons (me_cal c_does_tell rfl (hr.mono (by decide)) hg tk (by rfl) (ma_cons (me_tup ma_nil) (ma_cons me_int ma_nil)) 2 (len_cons (len_cons len_nil)) rfl rfl) (ma_cons (me_cal c_does_tell rfl (hr.mono (by decide)) hg tk (by rfl) (ma_cons (me_tup (ma_cons me_int (ma_cons me_int ma_nil))) (ma_cons me_int ma_nil)) 2 (len_cons (len_cons len_nil)) rfl rfl) ma_nil)))))))
  (mb_cons (ms_if (mt_w (mw_or (mt_cmp (opNe hr.units) sNe (nomark _) (me_var (pv 0)) (me_lst (ma_cons me_bl (ma_cons me_bl (ma_cons me_bl (ma_cons me_bl (ma_cons me_bl ma_nil))))))) (mw_or (mt_cmp (opNe hr.units) sNe (nomark _) (me_cal c_telling_row rfl (hr.mono (by decide)) hg tk (by rfl) (ma_cons me_int ma_nil) 1 (len_cons len_nil) rfl rfl) (me_tup (ma_cons me_int (ma_cons me_int (ma_cons me_int (ma_cons me_int (ma_cons me_int ma_nil))))))) (mw_or1 (mt_cmp (opNe hr.units) sNe (nomark _) (me_sl rfl (me_cal c_telling_row rfl (hr.mono (by decide)) hg tk (by rfl) (ma_cons me_int ma_nil) 1 (len_cons len_nil) rfl rfl) mo_none (mo_some me_int)) (me_op opMul sMul (me_tup (ma_cons me_int ma_nil)) me_int)))))) (mb_one (ms_ret me_bl)) mb_nil)
  (mb_cons (ms_if (mt_cmp (opNe hr.units) sNe (nomark _) (me_lst (ma_cons (me_cal c_rule_told rfl (hr.mono (by decide)) hg tk (by rfl) (ma_cons (me_tup (ma_cons me_int (ma_cons me_int (ma_cons me_int ma_nil)))) (ma_cons (me_tup (ma_cons me_int (ma_cons me_int ma_nil))) ma_nil)) 2 (len_cons (len_cons len_nil)) rfl rfl) (ma_cons (me_cal c_rule_told rfl (hr.mono (by decide)) hg tk (by rfl) (ma_cons (me_tup (ma_cons me_int ma_nil)) (ma_cons (me_tup (ma_cons (me_un un_neg sNeg me_int) ma_nil)) ma_nil)) 2 (len_cons (len_cons len_nil)) rfl rfl) (ma_cons (me_cal c_rule_told rfl (hr.mono (by decide)) hg tk (by rfl) (ma_cons (me_tup (ma_cons me_int (ma_cons me_int (ma_cons me_int (ma_cons me_int ma_nil))))) (ma_cons (me_tup (ma_cons me_int (ma_cons me_int (ma_cons (me_un un_neg sNeg me_int) ma_nil)))) ma_nil)) 2 (len_cons (len_cons len_nil)) rfl rfl) ma_nil)))) (me_lst (ma_cons (me_tup (ma_cons (me_un un_neg sNeg me_int) (ma_cons me_int ma_nil))) (ma_cons (me_tup (ma_cons (me_un un_neg sNeg me_int) ma_nil)) (ma_cons (me_tup (ma_cons (me_un un_neg sNeg me_int) (ma_cons me_int ma_nil))) ma_nil))))) (mb_one (ms_ret me_bl)) mb_nil)
  (mb_cons (ms_set (i := 0) S.nd rfl (.inl rfl) (me_lst (ma_cons (me_lamC (nt := 1) (n := 1) (kb := 5) (gb := l__law_hand_right_1) c__law_heard rfl (hr.mono (by decide)) hg tk (by rfl) TB rfl (.inl ⟨fun _ => rfl, fun _ _ _ _ _ _ _ => rfl⟩) (lamN_by (N := ["told_so", "card"]) (sc := defScope s__law_hand_right) (by decide +kernel)) (fun f c' A outer s H E W hr hg tk => (me_cal c_rule_told rfl (hr.mono (by decide)) hg tk (by rfl) (ma_cons (me_tup (ma_cons me_int (ma_cons me_int (ma_cons me_int (ma_cons me_int ma_nil))))) (ma_cons (me_tup (ma_cons me_int (ma_cons me_int (ma_cons me_int ma_nil)))) ma_nil)) 2 (len_cons (len_cons len_nil)) rfl rfl)) ma_nil 0 len_nil rfl) (ma_cons (me_lamC (nt := 1) (n := 1) (kb := 5) (gb := l__law_hand_right_2) c__law_heard rfl (hr.mono (by decide)) hg tk (by rfl) TB rfl (.inr ⟨"x", 0, _, _, rfl, rfl, rfl, fun _ _ _ _ _ _ _ _ => ⟨_, rfl, fun _ => rfl⟩⟩) (lamN_by (N := ["told_so", "card"]) (sc := defScope s__law_hand_right) (by decide +kernel)) (fun f c' A outer s H E W hr hg tk => (me_cal c_rule_told rfl (hr.mono (by decide)) hg tk (by rfl) (ma_cons (me_tup (ma_cons me_int ma_nil)) (ma_cons (me_tup (ma_cons me_int ma_nil)) ma_nil)) 2 (len_cons (len_cons len_nil)) rfl rfl)) ma_nil 0 len_nil rfl) ma_nil))))
  (mb_cons (ms_if (mt_cmp (opNe hr.units) sNe (nomark _) (me_var (pv 0)) (me_lst (ma_cons (me_tup (ma_cons me_str (ma_cons (me_tup (ma_cons me_int (ma_cons me_int (ma_cons me_int ma_nil)))) ma_nil))) (ma_cons (me_tup (ma_cons me_str (ma_cons (me_tup (ma_cons me_int ma_nil)) ma_nil))) ma_nil)))) (mb_one (ms_ret me_bl)) mb_nil)
  (mb_cons (ms_set (i := 1) S.nd rfl (.inl rfl) (me_tup (ma_cons (me_tup (ma_cons me_int (ma_cons me_int ma_nil))) (ma_cons (me_tup (ma_cons me_int ma_nil)) (ma_cons (me_tup (ma_cons me_int (ma_cons me_int ma_nil))) (ma_cons (me_tup (ma_cons me_int (ma_cons me_int (ma_cons me_int ma_nil)))) ma_nil))))))
  (mb_cons (ms_if (mt_cmp (opNe hr.units) sNe (nomark _) (me_lst (ma_cons (me_cal c_fitting rfl (hr.mono (by decide)) hg tk (by rfl) (ma_cons (me_var (pv 1)) (ma_cons (me_tup ma_nil) ma_nil)) 2 (len_cons (len_cons len_nil)) rfl rfl) (ma_cons (me_cal c_fitting rfl (hr.mono (by decide)) hg tk (by rfl) (ma_cons (me_var (pv 1)) (ma_cons (me_tup (ma_cons (me_tup (ma_cons (me_tup (ma_cons me_int (ma_cons me_int ma_nil))) (ma_cons me_int ma_nil))) ma_nil)) ma_nil)) 2 (len_cons (len_cons len_nil)) rfl rfl) (ma_cons (me_cal c_fitting rfl (hr.mono (by decide)) hg tk (by rfl) (ma_cons (me_var (pv 1)) (ma_cons (me_tup (ma_cons (me_tup (ma_cons (me_tup (ma_cons me_int (ma_cons me_int (ma_cons me_int ma_nil)))) (ma_cons me_int ma_nil))) ma_nil)) ma_nil)) 2 (len_cons (len_cons len_nil)) rfl rfl) ma_nil)))) (me_lst (ma_cons (me_tup (ma_cons me_int (ma_cons me_int (ma_cons me_int (ma_cons me_int ma_nil))))) (ma_cons (me_tup (ma_cons me_int (ma_cons me_int (ma_cons me_int ma_nil)))) (ma_cons (me_tup (ma_cons me_int (ma_cons me_int ma_nil))) ma_nil))))) (mb_one (ms_ret me_bl)) mb_nil)
  (mb_cons (ms_if (mt_w (mw_or (mt_cmp (opNe hr.units) sNe (nomark _) (me_cal c_best_ask rfl (hr.mono (by decide)) hg tk (by rfl) (ma_cons (me_tup (ma_cons (me_tup (ma_cons me_int (ma_cons me_int ma_nil))) (ma_cons (me_tup (ma_cons me_int (ma_cons me_int (ma_cons me_int ma_nil)))) ma_nil))) (ma_cons (me_tup ma_nil) (ma_cons me_int ma_nil))) 3 (len_cons (len_cons (len_cons len_nil))) rfl rfl) (me_op opAdd sAdd (me_op opMul sMul (me_tup (ma_cons me_int ma_nil)) me_int) (me_tup (ma_cons me_int (ma_cons me_int (ma_cons me_int ma_nil)))))) (mw_or1 (mt_not (mt_val (me_cal c_does_tell rfl (hr.mono (by decide)) hg tk (by rfl) (ma_cons (me_op opAdd sAdd (me_op opMul sMul (me_tup (ma_cons me_int ma_nil)) me_int) (me_tup (ma_cons me_int (ma_cons me_int (ma_cons me_int (ma_cons me_int (ma_cons me_int ma_nil))))))) (ma_cons me_int ma_nil)) 2 (len_cons (len_cons len_nil)) rfl rfl)))))) (mb_one (ms_ret me_bl)) mb_nil)
  (mb_cons (ms_if (mt_cmp (opNe hr.units) sNe (nomark _) (me_cal c_fitting rfl (hr.mono (by decide)) hg tk (by rfl) (ma_cons (me_op opMul sMul (me_tup (ma_cons (me_tup (ma_cons me_int (ma_cons me_int ma_nil))) (ma_cons (me_tup (ma_cons me_int ma_nil)) ma_nil))) me_int) (ma_cons (me_op opMul sMul (me_tup (ma_cons (me_tup (ma_cons (me_tup (ma_cons me_int (ma_cons me_int ma_nil))) (ma_cons me_int ma_nil))) ma_nil)) me_int) ma_nil)) 2 (len_cons (len_cons len_nil)) rfl rfl) (me_tupRg3 rfl (by rfl) n.n_tuple (by rfl) n.n_range (ma_cons me_int (ma_cons me_int (ma_cons me_int ma_nil))))) (mb_one (ms_ret me_bl)) mb_nil)
  (mb_cons (ms_set (i := 0) S.nd rfl (.inl rfl) (me_lst (ma_cons (me_cal c_best_ask rfl (hr.mono (by decide)) hg tk (by rfl) (ma_cons (me_var (pv 1)) (ma_cons (me_tup ma_nil) (ma_cons me_int ma_nil))) 3 (len_cons (len_cons (len_cons len_nil))) rfl rfl) (ma_cons (me_cal c_best_ask rfl (hr.mono (by decide)) hg tk (by rfl) (ma_cons (me_sl rfl (me_var (pv 1)) mo_none (mo_some me_int)) (ma_cons (me_tup ma_nil) (ma_cons me_int ma_nil))) 3 (len_cons (len_cons (len_cons len_nil))) rfl rfl) (ma_cons (me_cal c_best_ask rfl (hr.mono (by decide)) hg tk (by rfl) (ma_cons (me_tup (ma_cons (me_tup (ma_cons me_int (ma_cons me_int ma_nil))) (ma_cons (me_tup (ma_cons me_int (ma_cons me_int ma_nil))) ma_nil))) (ma_cons (me_tup ma_nil) (ma_cons me_int ma_nil))) 3 (len_cons (len_cons (len_cons len_nil))) rfl rfl) (ma_cons (me_cal c_best_ask rfl (hr.mono (by decide)) hg tk (by rfl) (ma_cons (me_tup (ma_cons (me_tup (ma_cons me_int (ma_cons me_int ma_nil))) (ma_cons (me_tup (ma_cons me_int (ma_cons me_int (ma_cons me_int ma_nil)))) ma_nil))) (ma_cons (me_tup ma_nil) (ma_cons me_int ma_nil))) 3 (len_cons (len_cons (len_cons len_nil))) rfl rfl) ma_nil))))))
  (mb_one (ms_ret (me_cmp (opEq hr.units) sEq (nomark _) (me_var (pv 0)) (me_lst (ma_cons (me_tup (ma_cons me_int (ma_cons me_int (ma_cons me_int (ma_cons me_int (ma_cons me_int (ma_cons me_int ma_nil))))))) (ma_cons me_non (ma_cons me_non (ma_cons (me_tup (ma_cons me_int (ma_cons me_int (ma_cons me_int (ma_cons me_int (ma_cons me_int (ma_cons me_int (ma_cons me_int ma_nil)))))))) ma_nil))))))))))))))))))
theorem ok_law (n : Ns Γ mg) (F : Fun Γ.K "law" "law" s_law f fd) (c__law_begun : Cal P w mg base Γ 1 "_law_begun" ["script", "k"] g__law_begun) (c__law_rows_right : Cal P w mg base Γ 5 "_law_rows_right" ["m"] g__law_rows_right) (c__law_back_right : Cal P w mg base Γ 8 "_law_back_right" ["m"] g__law_back_right) (c__law_menus_right : Cal P w mg base Γ 8 "_law_menus_right" ["m"] g__law_menus_right) (c__law_hand_right : Cal P w mg base Γ 8 "_law_hand_right" [] g__law_hand_right) : FnG P w mg base Γ 9 f fd ["script"] g_law :=
  have S := sc_law
  ok_fn (N := ["script", "k", "m"]) (c := d_law) F S fun cdv A outer s H E W hr hg tk => (mb_cons (ms_for (passes_of rfl) rfl (mi_range1 (by rfl) n.n_range (ma_cons (me_op opAdd sAdd me_int (me_callB (call_min2 rfl) sMin2 (by rfl) n.n_min (by decide +kernel) (ma_cons (me_callB call_len (sLen rfl) (by rfl) n.n_len (by decide +kernel) (ma_cons (me_var (pv 0)) ma_nil)) (ma_cons me_int ma_nil)))) ma_nil)) (mg_name (pg_name (i := 1) S.nd rfl (.inl rfl))) (mb_cons (ms_set (i := 2) S.nd rfl (.inl rfl) (me_cal c__law_begun rfl (hr.mono (by decide)) hg tk (by rfl) (ma_cons (me_var (pv 0)) (ma_cons (me_var (pv 1)) ma_nil)) 2 (len_cons (len_cons len_nil)) rfl rfl))
  (mb_one (ms_if (mt_w (mw_or (mt_not (mt_val (me_cal c__law_rows_right rfl (hr.mono (by decide)) hg tk (by rfl) (ma_cons (me_var (pv 2)) ma_nil) 1 (len_cons len_nil) rfl rfl))) (mw_or (mt_not (mt_val (me_cal c__law_back_right rfl (hr.mono (by decide)) hg tk (by rfl) (ma_cons (me_var (pv 2)) ma_nil) 1 (len_cons len_nil) rfl rfl))) (mw_or1 (mt_not (mt_val (me_cal c__law_menus_right rfl (hr.mono (by decide)) hg tk (by rfl) (ma_cons (me_var (pv 2)) ma_nil) 1 (len_cons len_nil) rfl rfl))))))) (mb_one (ms_ret me_bl)) mb_nil))))
  (mb_one (ms_ret (me_cal0 c__law_hand_right rfl (hr.mono (by decide)) hg tk (by rfl)))))
end
theorem all_mk {l : PySem.W.OpenLaw} {w : World} {K : PySem.W.Frag} {h : Heap} {mg : Str → Option Value} {fa : Addr} (X : K.In h) (G : h.Ns mainGlobals mg) (hfa : mg "law" = some (.ref fa))
    {cc1 : Addr}
    {cc4 : Addr}
    {cc8 : Addr}
    {cM0 TT0 : Addr} {ocM0 : Value} {odM0 : Option Addr} {vsM0 : Array Value} {slM0 : Array (Option Value)}
    {cM1 TT1 : Addr} {ocM1 : Value} {odM1 : Option Addr} {vsM1 : Array Value} {slM1 : Array (Option Value)}
    {f0 : Addr} {od0 an0 : Option Addr} {sl0 : Array (Option Value)} {oc0 kV0 dc0 pm0 cd0 ct0 : Value}
    {f1 : Addr} {od1 an1 : Option Addr} {sl1 : Array (Option Value)} {oc1 kV1 dc1 pm1 cd1 ct1 : Value}
    {f2 : Addr} {od2 an2 : Option Addr} {sl2 : Array (Option Value)} {oc2 kV2 dc2 pm2 cd2 ct2 : Value}
    {f3 : Addr} {od3 an3 : Option Addr} {sl3 : Array (Option Value)} {oc3 kV3 dc3 pm3 cd3 ct3 : Value}
    {f4 : Addr} {od4 an4 : Option Addr} {sl4 : Array (Option Value)} {oc4 kV4 dc4 pm4 cd4 ct4 : Value}
    {f5 : Addr} {od5 an5 : Option Addr} {sl5 : Array (Option Value)} {oc5 kV5 dc5 pm5 cd5 ct5 : Value}
    {f6 : Addr} {od6 an6 : Option Addr} {sl6 : Array (Option Value)} {oc6 kV6 dc6 pm6 cd6 ct6 : Value}
    {f7 : Addr} {od7 an7 : Option Addr} {sl7 : Array (Option Value)} {oc7 kV7 dc7 pm7 cd7 ct7 : Value}
    {f8 : Addr} {od8 an8 : Option Addr} {sl8 : Array (Option Value)} {oc8 kV8 dc8 pm8 cd8 ct8 : Value}
    {f9 : Addr} {od9 an9 : Option Addr} {sl9 : Array (Option Value)} {oc9 kV9 dc9 pm9 cd9 ct9 : Value}
    {f10 : Addr} {od10 an10 : Option Addr} {sl10 : Array (Option Value)} {oc10 kV10 dc10 pm10 cd10 ct10 : Value}
    {f11 : Addr} {od11 an11 : Option Addr} {sl11 : Array (Option Value)} {oc11 kV11 dc11 pm11 cd11 ct11 : Value}
    {f12 : Addr} {od12 an12 : Option Addr} {sl12 : Array (Option Value)} {oc12 kV12 dc12 pm12 cd12 ct12 : Value}
    {f13 : Addr} {od13 an13 : Option Addr} {sl13 : Array (Option Value)} {oc13 kV13 dc13 pm13 cd13 ct13 : Value}
    {f14 : Addr} {od14 an14 : Option Addr} {sl14 : Array (Option Value)} {oc14 kV14 dc14 pm14 cd14 ct14 : Value}
    {f15 : Addr} {od15 an15 : Option Addr} {sl15 : Array (Option Value)} {oc15 kV15 dc15 pm15 cd15 ct15 : Value}
    {f16 : Addr} {od16 an16 : Option Addr} {sl16 : Array (Option Value)} {oc16 kV16 dc16 pm16 cd16 ct16 : Value}
    {f17 : Addr} {od17 an17 : Option Addr} {sl17 : Array (Option Value)} {oc17 kV17 dc17 pm17 cd17 ct17 : Value}
    {f18 : Addr} {od18 an18 : Option Addr} {sl18 : Array (Option Value)} {oc18 kV18 dc18 pm18 cd18 ct18 : Value}
    {f19 : Addr} {od19 an19 : Option Addr} {sl19 : Array (Option Value)} {oc19 kV19 dc19 pm19 cd19 ct19 : Value}
    {f20 : Addr} {od20 an20 : Option Addr} {sl20 : Array (Option Value)} {oc20 kV20 dc20 pm20 cd20 ct20 : Value}
    {f21 : Addr} {od21 an21 : Option Addr} {sl21 : Array (Option Value)} {oc21 kV21 dc21 pm21 cd21 ct21 : Value}
    {f22 : Addr} {od22 an22 : Option Addr} {sl22 : Array (Option Value)} {oc22 kV22 dc22 pm22 cd22 ct22 : Value}
    {f23 : Addr} {od23 an23 : Option Addr} {sl23 : Array (Option Value)} {oc23 kV23 dc23 pm23 cd23 ct23 : Value}
    {f24 : Addr} {od24 an24 : Option Addr} {sl24 : Array (Option Value)} {oc24 kV24 dc24 pm24 cd24 ct24 : Value}
    {f25 : Addr} {od25 an25 : Option Addr} {sl25 : Array (Option Value)} {oc25 kV25 dc25 pm25 cd25 ct25 : Value}
    {f26 : Addr} {od26 an26 : Option Addr} {sl26 : Array (Option Value)} {oc26 kV26 dc26 pm26 cd26 ct26 : Value}
    {f27 : Addr} {od27 an27 : Option Addr} {sl27 : Array (Option Value)} {oc27 kV27 dc27 pm27 cd27 ct27 : Value}
    {f28 : Addr} {od28 an28 : Option Addr} {sl28 : Array (Option Value)} {oc28 kV28 dc28 pm28 cd28 ct28 : Value}
    {f29 : Addr} {od29 an29 : Option Addr} {sl29 : Array (Option Value)} {oc29 kV29 dc29 pm29 cd29 ct29 : Value}
    {f30 : Addr} {od30 an30 : Option Addr} {sl30 : Array (Option Value)} {oc30 kV30 dc30 pm30 cd30 ct30 : Value}
    {f31 : Addr} {od31 an31 : Option Addr} {sl31 : Array (Option Value)} {oc31 kV31 dc31 pm31 cd31 ct31 : Value}
    {f32 : Addr} {od32 an32 : Option Addr} {sl32 : Array (Option Value)} {oc32 kV32 dc32 pm32 cd32 ct32 : Value}
    {f33 : Addr} {od33 an33 : Option Addr} {sl33 : Array (Option Value)} {oc33 kV33 dc33 pm33 cd33 ct33 : Value}
    {f34 : Addr} {od34 an34 : Option Addr} {sl34 : Array (Option Value)} {oc34 kV34 dc34 pm34 cd34 ct34 : Value}
    {f35 : Addr} {od35 an35 : Option Addr} {sl35 : Array (Option Value)} {oc35 kV35 dc35 pm35 cd35 ct35 : Value}
    {f36 : Addr} {od36 an36 : Option Addr} {sl36 : Array (Option Value)} {oc36 kV36 dc36 pm36 cd36 ct36 : Value}
    {f37 : Addr} {od37 an37 : Option Addr} {sl37 : Array (Option Value)} {oc37 kV37 dc37 pm37 cd37 ct37 : Value}
    {f38 : Addr} {od38 an38 : Option Addr} {sl38 : Array (Option Value)} {oc38 kV38 dc38 pm38 cd38 ct38 : Value}
    {f39 : Addr} {od39 an39 : Option Addr} {sl39 : Array (Option Value)} {oc39 kV39 dc39 pm39 ct39 : Value}
    {f40 : Addr} {od40 an40 : Option Addr} {sl40 : Array (Option Value)} {oc40 kV40 dc40 pm40 cd40 ct40 : Value}
    {f41 : Addr} {od41 an41 : Option Addr} {sl41 : Array (Option Value)} {oc41 kV41 dc41 pm41 cd41 ct41 : Value}
    {f42 : Addr} {od42 an42 : Option Addr} {sl42 : Array (Option Value)} {oc42 kV42 dc42 pm42 cd42 ct42 : Value}
    {f43 : Addr} {od43 an43 : Option Addr} {sl43 : Array (Option Value)} {oc43 kV43 dc43 pm43 ct43 : Value}
    {f44 : Addr} {od44 an44 : Option Addr} {sl44 : Array (Option Value)} {oc44 kV44 dc44 pm44 cd44 ct44 : Value}
    {u0 : Value}
    {t1 : Tok}
    {t2 : Tok}
    {t3 : Tok}
    {t4 : Tok}
    {t5 : Tok}
    {t6 : Tok}
    {t7 : Tok}
    {t8 : Tok}
    {nm1 qn1 : Str} {N1 : Addr} {bs1 bm1 sb1 : List Value} {sn1 : List Str} {ab1 : Bool} {col1 : Option Bool} {dd1 : Option Addr} {ma1 mb1 mc1 md1 me1 : Option Value} {fI1 : Addr} {odI1 anI1 : Option Addr} {slI1 : Array (Option Value)} {ocI1 kVI1 dcI1 pmI1 cdI1 ctI1 : Value}
    {nm4 qn4 : Str} {N4 : Addr} {bs4 bm4 sb4 : List Value} {sn4 : List Str} {ab4 : Bool} {col4 : Option Bool} {dd4 : Option Addr} {ma4 mb4 mc4 md4 me4 : Option Value} {fI4 : Addr} {odI4 anI4 : Option Addr} {slI4 : Array (Option Value)} {ocI4 kVI4 dcI4 pmI4 cdI4 ctI4 : Value}
    {nm8 qn8 : Str} {N8 : Addr} {bs8 bm8 sb8 : List Value} {sn8 : List Str} {ab8 : Bool} {col8 : Option Bool} {dd8 : Option Addr} {ma8 mb8 mc8 md8 me8 : Option Value} {fI8 : Addr} {odI8 anI8 : Option Addr} {slI8 : Array (Option Value)} {ocI8 kVI8 dcI8 pmI8 cdI8 ctI8 : Value}
    (a0 : PySem.W.nsIn K mainGlobals "is_int" = some (some (.ref f0)))
    (l0 : K.lookup f0 = some ⟨oc0, od0, .func (PySem.W.fnOf "is_int" "is_int" (defArgs s_is_int) (defBody s_is_int) (defScope s_is_int) .none kV0 dc0 pm0 an0 cd0 ct0), sl0⟩)
    (c0 : PySem.W.codeIn K cd0 "is_int" = true)
    (k0 : PySem.W.keepIn K (.ref f0) = true)
    (a1 : PySem.W.nsIn K mainGlobals "is_int_within" = some (some (.ref f1)))
    (l1 : K.lookup f1 = some ⟨oc1, od1, .func (PySem.W.fnOf "is_int_within" "is_int_within" (defArgs s_is_int_within) (defBody s_is_int_within) (defScope s_is_int_within) .none kV1 dc1 pm1 an1 cd1 ct1), sl1⟩)
    (c1 : PySem.W.codeIn K cd1 "is_int_within" = true)
    (k1 : PySem.W.keepIn K (.ref f1) = true)
    (a2 : PySem.W.nsIn K mainGlobals "is_tuple" = some (some (.ref f2)))
    (l2 : K.lookup f2 = some ⟨oc2, od2, .func (PySem.W.fnOf "is_tuple" "is_tuple" (defArgs s_is_tuple) (defBody s_is_tuple) (defScope s_is_tuple) .none kV2 dc2 pm2 an2 cd2 ct2), sl2⟩)
    (c2 : PySem.W.codeIn K cd2 "is_tuple" = true)
    (k2 : PySem.W.keepIn K (.ref f2) = true)
    (a3 : PySem.W.nsIn K mainGlobals "first_outside" = some (some (.ref f3)))
    (l3 : K.lookup f3 = some ⟨oc3, od3, .func (PySem.W.fnOf "first_outside" "first_outside" (defArgs s_first_outside) (defBody s_first_outside) (defScope s_first_outside) .none kV3 dc3 pm3 an3 cd3 ct3), sl3⟩)
    (c3 : PySem.W.codeIn K cd3 "first_outside" = true)
    (k3 : PySem.W.keepIn K (.ref f3) = true)
    (a4 : PySem.W.nsIn K mainGlobals "need_rule" = some (some (.ref f4)))
    (l4 : K.lookup f4 = some ⟨oc4, od4, .func (PySem.W.fnOf "need_rule" "need_rule" (defArgs s_need_rule) (defBody s_need_rule) (defScope s_need_rule) .none kV4 dc4 pm4 an4 cd4 ct4), sl4⟩)
    (c4 : PySem.W.codeIn K cd4 "need_rule" = true)
    (k4 : PySem.W.keepIn K (.ref f4) = true)
    (a5 : PySem.W.nsIn K mainGlobals "is_rule" = some (some (.ref f5)))
    (l5 : K.lookup f5 = some ⟨oc5, od5, .func (PySem.W.fnOf "is_rule" "is_rule" (defArgs s_is_rule) (defBody s_is_rule) (defScope s_is_rule) .none kV5 dc5 pm5 an5 cd5 ct5), sl5⟩)
    (c5 : PySem.W.codeIn K cd5 "is_rule" = true)
    (k5 : PySem.W.keepIn K (.ref f5) = true)
    (a6 : PySem.W.nsIn K mainGlobals "need_row" = some (some (.ref f6)))
    (l6 : K.lookup f6 = some ⟨oc6, od6, .func (PySem.W.fnOf "need_row" "need_row" (defArgs s_need_row) (defBody s_need_row) (defScope s_need_row) .none kV6 dc6 pm6 an6 cd6 ct6), sl6⟩)
    (c6 : PySem.W.codeIn K cd6 "need_row" = true)
    (k6 : PySem.W.keepIn K (.ref f6) = true)
    (a7 : PySem.W.nsIn K mainGlobals "is_row" = some (some (.ref f7)))
    (l7 : K.lookup f7 = some ⟨oc7, od7, .func (PySem.W.fnOf "is_row" "is_row" (defArgs s_is_row) (defBody s_is_row) (defScope s_is_row) .none kV7 dc7 pm7 an7 cd7 ct7), sl7⟩)
    (c7 : PySem.W.codeIn K cd7 "is_row" = true)
    (k7 : PySem.W.keepIn K (.ref f7) = true)
    (a8 : PySem.W.nsIn K mainGlobals "index_of" = some (some (.ref f8)))
    (l8 : K.lookup f8 = some ⟨oc8, od8, .func (PySem.W.fnOf "index_of" "index_of" (defArgs s_index_of) (defBody s_index_of) (defScope s_index_of) .none kV8 dc8 pm8 an8 cd8 ct8), sl8⟩)
    (c8 : PySem.W.codeIn K cd8 "index_of" = true)
    (k8 : PySem.W.keepIn K (.ref f8) = true)
    (a9 : PySem.W.nsIn K mainGlobals "indexes_by_ones" = some (some (.ref f9)))
    (l9 : K.lookup f9 = some ⟨oc9, od9, .func (PySem.W.fnOf "indexes_by_ones" "indexes_by_ones" (defArgs s_indexes_by_ones) (defBody s_indexes_by_ones) (defScope s_indexes_by_ones) .none kV9 dc9 pm9 an9 cd9 ct9), sl9⟩)
    (c9 : PySem.W.codeIn K cd9 "indexes_by_ones" = true)
    (k9 : PySem.W.keepIn K (.ref f9) = true)
    (a10 : PySem.W.nsIn K mainGlobals "many_of" = some (some (.ref f10)))
    (l10 : K.lookup f10 = some ⟨oc10, od10, .func (PySem.W.fnOf "many_of" "many_of" (defArgs s_many_of) (defBody s_many_of) (defScope s_many_of) .none kV10 dc10 pm10 an10 cd10 ct10), sl10⟩)
    (c10 : PySem.W.codeIn K cd10 "many_of" = true)
    (k10 : PySem.W.keepIn K (.ref f10) = true)
    (a11 : PySem.W.nsIn K mainGlobals "signs_of" = some (some (.ref f11)))
    (l11 : K.lookup f11 = some ⟨oc11, od11, .func (PySem.W.fnOf "signs_of" "signs_of" (defArgs s_signs_of) (defBody s_signs_of) (defScope s_signs_of) .none kV11 dc11 pm11 an11 cd11 ct11), sl11⟩)
    (c11 : PySem.W.codeIn K cd11 "signs_of" = true)
    (k11 : PySem.W.keepIn K (.ref f11) = true)
    (a12 : PySem.W.nsIn K mainGlobals "ones_of" = some (some (.ref f12)))
    (l12 : K.lookup f12 = some ⟨oc12, od12, .func (PySem.W.fnOf "ones_of" "ones_of" (defArgs s_ones_of) (defBody s_ones_of) (defScope s_ones_of) .none kV12 dc12 pm12 an12 cd12 ct12), sl12⟩)
    (c12 : PySem.W.codeIn K cd12 "ones_of" = true)
    (k12 : PySem.W.keepIn K (.ref f12) = true)
    (a13 : PySem.W.nsIn K mainGlobals "need_bit_row" = some (some (.ref f13)))
    (l13 : K.lookup f13 = some ⟨oc13, od13, .func (PySem.W.fnOf "need_bit_row" "need_bit_row" (defArgs s_need_bit_row) (defBody s_need_bit_row) (defScope s_need_bit_row) .none kV13 dc13 pm13 an13 cd13 ct13), sl13⟩)
    (c13 : PySem.W.codeIn K cd13 "need_bit_row" = true)
    (k13 : PySem.W.keepIn K (.ref f13) = true)
    (a14 : PySem.W.nsIn K mainGlobals "need_many" = some (some (.ref f14)))
    (l14 : K.lookup f14 = some ⟨oc14, od14, .func (PySem.W.fnOf "need_many" "need_many" (defArgs s_need_many) (defBody s_need_many) (defScope s_need_many) .none kV14 dc14 pm14 an14 cd14 ct14), sl14⟩)
    (c14 : PySem.W.codeIn K cd14 "need_many" = true)
    (k14 : PySem.W.keepIn K (.ref f14) = true)
    (a15 : PySem.W.nsIn K mainGlobals "ones_behind" = some (some (.ref f15)))
    (l15 : K.lookup f15 = some ⟨oc15, od15, .func (PySem.W.fnOf "ones_behind" "ones_behind" (defArgs s_ones_behind) (defBody s_ones_behind) (defScope s_ones_behind) .none kV15 dc15 pm15 an15 cd15 ct15), sl15⟩)
    (c15 : PySem.W.codeIn K cd15 "ones_behind" = true)
    (k15 : PySem.W.keepIn K (.ref f15) = true)
    (a16 : PySem.W.nsIn K mainGlobals "tells" = some (some (.ref f16)))
    (l16 : K.lookup f16 = some ⟨oc16, od16, .func (PySem.W.fnOf "tells" "tells" (defArgs s_tells) (defBody s_tells) (defScope s_tells) .none kV16 dc16 pm16 an16 cd16 ct16), sl16⟩)
    (c16 : PySem.W.codeIn K cd16 "tells" = true)
    (k16 : PySem.W.keepIn K (.ref f16) = true)
    (a17 : PySem.W.nsIn K mainGlobals "does_tell" = some (some (.ref f17)))
    (l17 : K.lookup f17 = some ⟨oc17, od17, .func (PySem.W.fnOf "does_tell" "does_tell" (defArgs s_does_tell) (defBody s_does_tell) (defScope s_does_tell) .none kV17 dc17 pm17 an17 cd17 ct17), sl17⟩)
    (c17 : PySem.W.codeIn K cd17 "does_tell" = true)
    (k17 : PySem.W.keepIn K (.ref f17) = true)
    (a18 : PySem.W.nsIn K mainGlobals "telling_row" = some (some (.ref f18)))
    (l18 : K.lookup f18 = some ⟨oc18, od18, .func (PySem.W.fnOf "telling_row" "telling_row" (defArgs s_telling_row) (defBody s_telling_row) (defScope s_telling_row) .none kV18 dc18 pm18 an18 cd18 ct18), sl18⟩)
    (c18 : PySem.W.codeIn K cd18 "telling_row" = true)
    (k18 : PySem.W.keepIn K (.ref f18) = true)
    (a19 : PySem.W.nsIn K mainGlobals "need_numbers" = some (some (.ref f19)))
    (l19 : K.lookup f19 = some ⟨oc19, od19, .func (PySem.W.fnOf "need_numbers" "need_numbers" (defArgs s_need_numbers) (defBody s_need_numbers) (defScope s_need_numbers) .none kV19 dc19 pm19 an19 cd19 ct19), sl19⟩)
    (c19 : PySem.W.codeIn K cd19 "need_numbers" = true)
    (k19 : PySem.W.keepIn K (.ref f19) = true)
    (a20 : PySem.W.nsIn K mainGlobals "rule_told" = some (some (.ref f20)))
    (l20 : K.lookup f20 = some ⟨oc20, od20, .func (PySem.W.fnOf "rule_told" "rule_told" (defArgs s_rule_told) (defBody s_rule_told) (defScope s_rule_told) .none kV20 dc20 pm20 an20 cd20 ct20), sl20⟩)
    (c20 : PySem.W.codeIn K cd20 "rule_told" = true)
    (k20 : PySem.W.keepIn K (.ref f20) = true)
    (a21 : PySem.W.nsIn K mainGlobals "need_menu" = some (some (.ref f21)))
    (l21 : K.lookup f21 = some ⟨oc21, od21, .func (PySem.W.fnOf "need_menu" "need_menu" (defArgs s_need_menu) (defBody s_need_menu) (defScope s_need_menu) .none kV21 dc21 pm21 an21 cd21 ct21), sl21⟩)
    (c21 : PySem.W.codeIn K cd21 "need_menu" = true)
    (k21 : PySem.W.keepIn K (.ref f21) = true)
    (a22 : PySem.W.nsIn K mainGlobals "is_seen_pair" = some (some (.ref f22)))
    (l22 : K.lookup f22 = some ⟨oc22, od22, .func (PySem.W.fnOf "is_seen_pair" "is_seen_pair" (defArgs s_is_seen_pair) (defBody s_is_seen_pair) (defScope s_is_seen_pair) .none kV22 dc22 pm22 an22 cd22 ct22), sl22⟩)
    (c22 : PySem.W.codeIn K cd22 "is_seen_pair" = true)
    (k22 : PySem.W.keepIn K (.ref f22) = true)
    (a23 : PySem.W.nsIn K mainGlobals "need_seen" = some (some (.ref f23)))
    (l23 : K.lookup f23 = some ⟨oc23, od23, .func (PySem.W.fnOf "need_seen" "need_seen" (defArgs s_need_seen) (defBody s_need_seen) (defScope s_need_seen) .none kV23 dc23 pm23 an23 cd23 ct23), sl23⟩)
    (c23 : PySem.W.codeIn K cd23 "need_seen" = true)
    (k23 : PySem.W.keepIn K (.ref f23) = true)
    (a24 : PySem.W.nsIn K mainGlobals "does_fit" = some (some (.ref f24)))
    (l24 : K.lookup f24 = some ⟨oc24, od24, .func (PySem.W.fnOf "does_fit" "does_fit" (defArgs s_does_fit) (defBody s_does_fit) (defScope s_does_fit) .none kV24 dc24 pm24 an24 cd24 ct24), sl24⟩)
    (c24 : PySem.W.codeIn K cd24 "does_fit" = true)
    (k24 : PySem.W.keepIn K (.ref f24) = true)
    (a25 : PySem.W.nsIn K mainGlobals "fitting" = some (some (.ref f25)))
    (l25 : K.lookup f25 = some ⟨oc25, od25, .func (PySem.W.fnOf "fitting" "fitting" (defArgs s_fitting) (defBody s_fitting) (defScope s_fitting) .none kV25 dc25 pm25 an25 cd25 ct25), sl25⟩)
    (c25 : PySem.W.codeIn K cd25 "fitting" = true)
    (k25 : PySem.W.keepIn K (.ref f25) = true)
    (a26 : PySem.W.nsIn K mainGlobals "lots_by_row" = some (some (.ref f26)))
    (l26 : K.lookup f26 = some ⟨oc26, od26, .func (PySem.W.fnOf "lots_by_row" "lots_by_row" (defArgs s_lots_by_row) (defBody s_lots_by_row) (defScope s_lots_by_row) .none kV26 dc26 pm26 an26 cd26 ct26), sl26⟩)
    (c26 : PySem.W.codeIn K cd26 "lots_by_row" = true)
    (k26 : PySem.W.keepIn K (.ref f26) = true)
    (a27 : PySem.W.nsIn K mainGlobals "best_ask" = some (some (.ref f27)))
    (l27 : K.lookup f27 = some ⟨oc27, od27, .func (PySem.W.fnOf "best_ask" "best_ask" (defArgs s_best_ask) (defBody s_best_ask) (defScope s_best_ask) .none kV27 dc27 pm27 an27 cd27 ct27), sl27⟩)
    (c27 : PySem.W.codeIn K cd27 "best_ask" = true)
    (k27 : PySem.W.keepIn K (.ref f27) = true)
    (a28 : PySem.W.nsIn K mainGlobals "_law_begun" = some (some (.ref f28)))
    (l28 : K.lookup f28 = some ⟨oc28, od28, .func (PySem.W.fnOf "_law_begun" "_law_begun" (defArgs s__law_begun) (defBody s__law_begun) (defScope s__law_begun) .none kV28 dc28 pm28 an28 cd28 ct28), sl28⟩)
    (c28 : PySem.W.codeIn K cd28 "_law_begun" = true)
    (k28 : PySem.W.keepIn K (.ref f28) = true)
    (a29 : PySem.W.nsIn K mainGlobals "_law_draw" = some (some (.ref f29)))
    (l29 : K.lookup f29 = some ⟨oc29, od29, .func (PySem.W.fnOf "_law_draw" "_law_draw" (defArgs s__law_draw) (defBody s__law_draw) (defScope s__law_draw) .none kV29 dc29 pm29 an29 cd29 ct29), sl29⟩)
    (c29 : PySem.W.codeIn K cd29 "_law_draw" = true)
    (k29 : PySem.W.keepIn K (.ref f29) = true)
    (a30 : PySem.W.nsIn K mainGlobals "_law_of" = some (some (.ref f30)))
    (l30 : K.lookup f30 = some ⟨oc30, od30, .func (PySem.W.fnOf "_law_of" "_law_of" (defArgs s__law_of) (defBody s__law_of) (defScope s__law_of) .none kV30 dc30 pm30 an30 cd30 ct30), sl30⟩)
    (c30 : PySem.W.codeIn K cd30 "_law_of" = true)
    (k30 : PySem.W.keepIn K (.ref f30) = true)
    (a31 : PySem.W.nsIn K mainGlobals "_law_tune" = some (some (.ref f31)))
    (l31 : K.lookup f31 = some ⟨oc31, od31, .func (PySem.W.fnOf "_law_tune" "_law_tune" (defArgs s__law_tune) (defBody s__law_tune) (defScope s__law_tune) .none kV31 dc31 pm31 an31 cd31 ct31), sl31⟩)
    (c31 : PySem.W.codeIn K cd31 "_law_tune" = true)
    (k31 : PySem.W.keepIn K (.ref f31) = true)
    (a32 : PySem.W.nsIn K mainGlobals "_law_sum" = some (some (.ref f32)))
    (l32 : K.lookup f32 = some ⟨oc32, od32, .func (PySem.W.fnOf "_law_sum" "_law_sum" (defArgs s__law_sum) (defBody s__law_sum) (defScope s__law_sum) .none kV32 dc32 pm32 an32 cd32 ct32), sl32⟩)
    (c32 : PySem.W.codeIn K cd32 "_law_sum" = true)
    (k32 : PySem.W.keepIn K (.ref f32) = true)
    (a33 : PySem.W.nsIn K mainGlobals "_law_all" = some (some (.ref f33)))
    (l33 : K.lookup f33 = some ⟨oc33, od33, .func (PySem.W.fnOf "_law_all" "_law_all" (defArgs s__law_all) (defBody s__law_all) (defScope s__law_all) .none kV33 dc33 pm33 an33 cd33 ct33), sl33⟩)
    (c33 : PySem.W.codeIn K cd33 "_law_all" = true)
    (k33 : PySem.W.keepIn K (.ref f33) = true)
    (a34 : PySem.W.nsIn K mainGlobals "_law_windows" = some (some (.ref f34)))
    (l34 : K.lookup f34 = some ⟨oc34, od34, .func (PySem.W.fnOf "_law_windows" "_law_windows" (defArgs s__law_windows) (defBody s__law_windows) (defScope s__law_windows) .none kV34 dc34 pm34 an34 cd34 ct34), sl34⟩)
    (c34 : PySem.W.codeIn K cd34 "_law_windows" = true)
    (k34 : PySem.W.keepIn K (.ref f34) = true)
    (a35 : PySem.W.nsIn K mainGlobals "_law_tells" = some (some (.ref f35)))
    (l35 : K.lookup f35 = some ⟨oc35, od35, .func (PySem.W.fnOf "_law_tells" "_law_tells" (defArgs s__law_tells) (defBody s__law_tells) (defScope s__law_tells) .none kV35 dc35 pm35 an35 cd35 ct35), sl35⟩)
    (c35 : PySem.W.codeIn K cd35 "_law_tells" = true)
    (k35 : PySem.W.keepIn K (.ref f35) = true)
    (a36 : PySem.W.nsIn K mainGlobals "_law_heard" = some (some (.ref f36)))
    (l36 : K.lookup f36 = some ⟨oc36, od36, .func (PySem.W.fnOf "_law_heard" "_law_heard" (defArgs s__law_heard) (defBody s__law_heard) (defScope s__law_heard) .none kV36 dc36 pm36 an36 cd36 ct36), sl36⟩)
    (c36 : PySem.W.codeIn K cd36 "_law_heard" = true)
    (k36 : PySem.W.keepIn K (.ref f36) = true)
    (a37 : PySem.W.nsIn K mainGlobals "_law_rows_right" = some (some (.ref f37)))
    (l37 : K.lookup f37 = some ⟨oc37, od37, .func (PySem.W.fnOf "_law_rows_right" "_law_rows_right" (defArgs s__law_rows_right) (defBody s__law_rows_right) (defScope s__law_rows_right) .none kV37 dc37 pm37 an37 cd37 ct37), sl37⟩)
    (c37 : PySem.W.codeIn K cd37 "_law_rows_right" = true)
    (k37 : PySem.W.keepIn K (.ref f37) = true)
    (a38 : PySem.W.nsIn K mainGlobals "_law_due" = some (some (.ref f38)))
    (l38 : K.lookup f38 = some ⟨oc38, od38, .func (PySem.W.fnOf "_law_due" "_law_due" (defArgs s__law_due) (defBody s__law_due) (defScope s__law_due) .none kV38 dc38 pm38 an38 cd38 ct38), sl38⟩)
    (c38 : PySem.W.codeIn K cd38 "_law_due" = true)
    (k38 : PySem.W.keepIn K (.ref f38) = true)
    (a39 : PySem.W.nsIn K mainGlobals "_law_back_right" = some (some (.ref f39)))
    (l39 : K.lookup f39 = some ⟨oc39, od39, .func (PySem.W.fnOf "_law_back_right" "_law_back_right" (defArgs s__law_back_right) (defBody s__law_back_right) (defScope s__law_back_right) .none kV39 dc39 pm39 an39 (.ref cM0) ct39), sl39⟩)
    (c39 : PySem.W.codeIn K (.ref cM0) "_law_back_right" = true)
    (k39 : PySem.W.keepIn K (.ref f39) = true)
    (a40 : PySem.W.nsIn K mainGlobals "_law_fits" = some (some (.ref f40)))
    (l40 : K.lookup f40 = some ⟨oc40, od40, .func (PySem.W.fnOf "_law_fits" "_law_fits" (defArgs s__law_fits) (defBody s__law_fits) (defScope s__law_fits) .none kV40 dc40 pm40 an40 cd40 ct40), sl40⟩)
    (c40 : PySem.W.codeIn K cd40 "_law_fits" = true)
    (k40 : PySem.W.keepIn K (.ref f40) = true)
    (a41 : PySem.W.nsIn K mainGlobals "_law_best_bits" = some (some (.ref f41)))
    (l41 : K.lookup f41 = some ⟨oc41, od41, .func (PySem.W.fnOf "_law_best_bits" "_law_best_bits" (defArgs s__law_best_bits) (defBody s__law_best_bits) (defScope s__law_best_bits) .none kV41 dc41 pm41 an41 cd41 ct41), sl41⟩)
    (c41 : PySem.W.codeIn K cd41 "_law_best_bits" = true)
    (k41 : PySem.W.keepIn K (.ref f41) = true)
    (a42 : PySem.W.nsIn K mainGlobals "_law_menus_right" = some (some (.ref f42)))
    (l42 : K.lookup f42 = some ⟨oc42, od42, .func (PySem.W.fnOf "_law_menus_right" "_law_menus_right" (defArgs s__law_menus_right) (defBody s__law_menus_right) (defScope s__law_menus_right) .none kV42 dc42 pm42 an42 cd42 ct42), sl42⟩)
    (c42 : PySem.W.codeIn K cd42 "_law_menus_right" = true)
    (k42 : PySem.W.keepIn K (.ref f42) = true)
    (a43 : PySem.W.nsIn K mainGlobals "_law_hand_right" = some (some (.ref f43)))
    (l43 : K.lookup f43 = some ⟨oc43, od43, .func (PySem.W.fnOf "_law_hand_right" "_law_hand_right" (defArgs s__law_hand_right) (defBody s__law_hand_right) (defScope s__law_hand_right) .none kV43 dc43 pm43 an43 (.ref cM1) ct43), sl43⟩)
    (c43 : PySem.W.codeIn K (.ref cM1) "_law_hand_right" = true)
    (k43 : PySem.W.keepIn K (.ref f43) = true)
    (a44 : PySem.W.nsIn K mainGlobals "law" = some (some (.ref f44)))
    (l44 : K.lookup f44 = some ⟨oc44, od44, .func (PySem.W.fnOf "law" "law" (defArgs s_law) (defBody s_law) (defScope s_law) .none kV44 dc44 pm44 an44 cd44 ct44), sl44⟩)
    (c44 : PySem.W.codeIn K cd44 "law" = true)
    (k44 : PySem.W.keepIn K (.ref f44) = true)
    (z0 : PySem.W.nsIn K mainGlobals "all" = some none)
    (z1 : PySem.W.nsIn K mainGlobals "divmod" = some none)
    (z2 : PySem.W.nsIn K mainGlobals "enumerate" = some none)
    (z3 : PySem.W.nsIn K mainGlobals "int" = some none)
    (z4 : PySem.W.nsIn K mainGlobals "isinstance" = some none)
    (z5 : PySem.W.nsIn K mainGlobals "len" = some none)
    (z6 : PySem.W.nsIn K mainGlobals "max" = some none)
    (z7 : PySem.W.nsIn K mainGlobals "min" = some none)
    (z8 : PySem.W.nsIn K mainGlobals "range" = some none)
    (z9 : PySem.W.nsIn K mainGlobals "repr" = some none)
    (z10 : PySem.W.nsIn K mainGlobals "reversed" = some none)
    (z11 : PySem.W.nsIn K mainGlobals "sorted" = some none)
    (z12 : PySem.W.nsIn K mainGlobals "sum" = some none)
    (z13 : PySem.W.nsIn K mainGlobals "tuple" = some none)
    (z14 : PySem.W.nsIn K mainGlobals "zip" = some none)
    (v0 : PySem.W.nsIn K mainGlobals "BITS" = some (some u0))
    (w0 : krvB K (.tup [.int 0, .int 1]) u0 = true)
    (v1 : PySem.W.nsIn K mainGlobals "GREATEST_RESULT" = some (some (.int 1000000 t1)))
    (v2 : PySem.W.nsIn K mainGlobals "GREATEST_SIZE" = some (some (.int 10 t2)))
    (v3 : PySem.W.nsIn K mainGlobals "GREATEST_WEIGHT" = some (some (.int 20 t3)))
    (v4 : PySem.W.nsIn K mainGlobals "LEAST_SIZE" = some (some (.int 6 t4)))
    (v5 : PySem.W.nsIn K mainGlobals "MOST_RESULTS" = some (some (.int 200 t5)))
    (v6 : PySem.W.nsIn K mainGlobals "MOST_RULES" = some (some (.int 20 t6)))
    (v7 : PySem.W.nsIn K mainGlobals "MOST_SEEN" = some (some (.int 50 t7)))
    (v8 : PySem.W.nsIn K mainGlobals "MOST_WEIGHTS" = some (some (.int 6 t8)))
    (xt0 : K.lookup cM0 = some ⟨ocM0, odM0, .fields vsM0, slM0⟩)
    (xp0 : vsM0[11]? = some (.ref TT0))
    (xn0 : K.lookup TT0 = none)
    (xt1 : K.lookup cM1 = some ⟨ocM1, odM1, .fields vsM1, slM1⟩)
    (xp1 : vsM1[11]? = some (.ref TT1))
    (xn1 : K.lookup TT1 = none)
    (xd0_1 : Nat.beq TT0 TT1 = false)
    (ka1 : PySem.W.nsIn K mainGlobals "BadRule" = some (some (.ref cc1)))
    (ka4 : PySem.W.nsIn K mainGlobals "BadNumber" = some (some (.ref cc4)))
    (ka8 : PySem.W.nsIn K mainGlobals "Nothing" = some (some (.ref cc8)))
    (kg1 : PySem.W.findIn K (.ref cc1) "__getattribute__" = some (some (.builtin "BaseException.__getattribute__")))
    (kk1 : PySem.W.findIn K (.ref cc1) "__getattr__" = some none)
    (ks1 : PySem.W.subIn K (.ref cc1) (.type "BaseException") = some true)
    (kd1 : PySem.W.hasDictIn K cc1 = true)
    (kc1 : PySem.W.findIn K (.ref cc1) "__class__" = some (some (.builtin "object.__class__")))
    (km1 : PySem.W.mroIn K cc1 (.type "object") = some true)
    (ki1 : PySem.W.isClsIn K cc1 = true)
    (ky1 : PySem.W.typeIn K (.ref cc1) = some (.type "type"))
    (kv1 : PySem.W.subIn K (.ref cc1) (.type "ValueError") = some true)
    (kw1 : PySem.W.subIn K (.ref cc1) (.type "LookupError") = some false)
    (kf1_number : PySem.W.findIn K (.ref cc1) "number" = some none)
    (kf1_value : PySem.W.findIn K (.ref cc1) "value" = some none)
    (s1_1 : PySem.W.subIn K (.ref cc1) (.ref cc1) = some true)
    (s1_4 : PySem.W.subIn K (.ref cc1) (.ref cc4) = some false)
    (s1_8 : PySem.W.subIn K (.ref cc1) (.ref cc8) = some false)
    (kg4 : PySem.W.findIn K (.ref cc4) "__getattribute__" = some (some (.builtin "BaseException.__getattribute__")))
    (kk4 : PySem.W.findIn K (.ref cc4) "__getattr__" = some none)
    (ks4 : PySem.W.subIn K (.ref cc4) (.type "BaseException") = some true)
    (kd4 : PySem.W.hasDictIn K cc4 = true)
    (kc4 : PySem.W.findIn K (.ref cc4) "__class__" = some (some (.builtin "object.__class__")))
    (km4 : PySem.W.mroIn K cc4 (.type "object") = some true)
    (ki4 : PySem.W.isClsIn K cc4 = true)
    (ky4 : PySem.W.typeIn K (.ref cc4) = some (.type "type"))
    (kv4 : PySem.W.subIn K (.ref cc4) (.type "ValueError") = some true)
    (kw4 : PySem.W.subIn K (.ref cc4) (.type "LookupError") = some false)
    (kf4_number : PySem.W.findIn K (.ref cc4) "number" = some none)
    (kf4_value : PySem.W.findIn K (.ref cc4) "value" = some none)
    (s4_1 : PySem.W.subIn K (.ref cc4) (.ref cc1) = some false)
    (s4_4 : PySem.W.subIn K (.ref cc4) (.ref cc4) = some true)
    (s4_8 : PySem.W.subIn K (.ref cc4) (.ref cc8) = some false)
    (kg8 : PySem.W.findIn K (.ref cc8) "__getattribute__" = some (some (.builtin "BaseException.__getattribute__")))
    (kk8 : PySem.W.findIn K (.ref cc8) "__getattr__" = some none)
    (ks8 : PySem.W.subIn K (.ref cc8) (.type "BaseException") = some true)
    (kd8 : PySem.W.hasDictIn K cc8 = true)
    (kc8 : PySem.W.findIn K (.ref cc8) "__class__" = some (some (.builtin "object.__class__")))
    (km8 : PySem.W.mroIn K cc8 (.type "object") = some true)
    (ki8 : PySem.W.isClsIn K cc8 = true)
    (ky8 : PySem.W.typeIn K (.ref cc8) = some (.type "type"))
    (kv8 : PySem.W.subIn K (.ref cc8) (.type "ValueError") = some false)
    (kw8 : PySem.W.subIn K (.ref cc8) (.type "LookupError") = some true)
    (kf8_number : PySem.W.findIn K (.ref cc8) "number" = some none)
    (kf8_value : PySem.W.findIn K (.ref cc8) "value" = some none)
    (s8_1 : PySem.W.subIn K (.ref cc8) (.ref cc1) = some false)
    (s8_4 : PySem.W.subIn K (.ref cc8) (.ref cc4) = some false)
    (s8_8 : PySem.W.subIn K (.ref cc8) (.ref cc8) = some true)
    (kn : PySem.W.specialIn K (.builtin "object.__class__") "__get__" = some (some (.builtin "getset_descriptor.__get__")))
    (kt : PySem.W.takesIn K (.builtin "object.__class__") = some true)
    (xl1 : K.lookup cc1 = some (excClassObj nm1 qn1 cc1 N1 bs1 bm1 true sn1 sb1 ab1 col1 dd1 ma1 mb1 mc1 md1 me1 "ValueError.__new__"))
    (xr1 : PySem.HandSPX.refsVE bm1 = true)
    (xs1 : PySem.W.findIn K (.ref cc1) "__setattr__" = some (some (.builtin "object.__setattr__")))
    (xk1 : PySem.W.keepIn K (.ref cc1) = true)
    (xi1 : PySem.W.findIn K (.ref cc1) "__init__" = some (some (.ref fI1)))
    (xy1 : PySem.W.typeIn K (.ref fI1) = some (.type "function"))
    (xf1 : K.lookup fI1 = some ⟨ocI1, odI1, .func (PySem.W.fnOf "__init__" "BadRule.__init__" (defArgs sI_BadRule) (defBody sI_BadRule) (defScope sI_BadRule) .none kVI1 dcI1 pmI1 anI1 cdI1 ctI1), slI1⟩)
    (xc1 : PySem.W.codeIn K cdI1 "BadRule.__init__" = true)
    (xl4 : K.lookup cc4 = some (excClassObj nm4 qn4 cc4 N4 bs4 bm4 true sn4 sb4 ab4 col4 dd4 ma4 mb4 mc4 md4 me4 "ValueError.__new__"))
    (xr4 : PySem.HandSPX.refsVE bm4 = true)
    (xs4 : PySem.W.findIn K (.ref cc4) "__setattr__" = some (some (.builtin "object.__setattr__")))
    (xk4 : PySem.W.keepIn K (.ref cc4) = true)
    (xi4 : PySem.W.findIn K (.ref cc4) "__init__" = some (some (.ref fI4)))
    (xy4 : PySem.W.typeIn K (.ref fI4) = some (.type "function"))
    (xf4 : K.lookup fI4 = some ⟨ocI4, odI4, .func (PySem.W.fnOf "__init__" "BadNumber.__init__" (defArgs sI_BadNumber) (defBody sI_BadNumber) (defScope sI_BadNumber) .none kVI4 dcI4 pmI4 anI4 cdI4 ctI4), slI4⟩)
    (xc4 : PySem.W.codeIn K cdI4 "BadNumber.__init__" = true)
    (xl8 : K.lookup cc8 = some (excClassObj nm8 qn8 cc8 N8 bs8 bm8 true sn8 sb8 ab8 col8 dd8 ma8 mb8 mc8 md8 me8 "LookupError.__new__"))
    (xe8 : PySem.W.excTail [.type "LookupError", .type "Exception", .type "BaseException", .type "object"] bm8 = true)
    (xs8 : PySem.W.findIn K (.ref cc8) "__setattr__" = some (some (.builtin "object.__setattr__")))
    (xk8 : PySem.W.keepIn K (.ref cc8) = true)
    (xi8 : PySem.W.findIn K (.ref cc8) "__init__" = some (some (.ref fI8)))
    (xy8 : PySem.W.typeIn K (.ref fI8) = some (.type "function"))
    (xf8 : K.lookup fI8 = some ⟨ocI8, odI8, .func (PySem.W.fnOf "__init__" "Nothing.__init__" (defArgs sI_Nothing) (defBody sI_Nothing) (defScope sI_Nothing) .none kVI8 dcI8 pmI8 anI8 cdI8 ctI8), slI8⟩)
    (xc8 : PySem.W.codeIn K cdI8 "Nothing.__init__" = true)
    (hd__law_heard : ∀ (cl : Dv) (g : Sto → R Dv) (wa : List Dv) (s : Sto), finC s.length (d__law_heard cl g (startD 4 (cl :: wa)) s) = h__law_heard g wa s)
    (hden : ∀ ns : List Int, ns.length ≤ 63 → ∃ s', g_law [.sq (ns.map .int)] [.tab 0 lq__law_back_right, .tab 1 lq__law_hand_right] = .ok (.bl true) s')
    : ∃ (Γ : Ct) (fd : FuncData) (den : Fn) (tabs : List Tb), Γ.K = K ∧ (∀ (i : Nat) (t : Tb), tabs[i]? = some t → Γ.tb i = t.T) ∧ (Ts tabs).Nodup ∧ (∀ t ∈ tabs, ∃ y ∈ (["_law_back_right", "_law_hand_right"] : List Str), PySem.W.tabIn Γ.K y = some (t.c, t.T) ∧ Γ.K.lookup t.T = none) ∧ tabs.map (·.q) = [lq__law_back_right, lq__law_hand_right] ∧ (∀ (s : Shared) (u : Value), BindsTo s fd ⟨[u], []⟩ [("script", u)]) ∧
      (∀ base : Heap, Γ.K.In base → base.Ns mainGlobals mg → (∀ t ∈ tabs, LamX.TabB base mg t.c t.T) → FnG l.prog w mg base Γ 9 fa fd ["script"] den) ∧
      ∀ ns : List Int, ns.length ≤ 63 → ∃ s', den [.sq (ns.map .int)] (tabsOf 0 (([lq__law_back_right, lq__law_hand_right] : List Str).map fun q => ⟨0, 0, q⟩)) = .ok (.bl true) s' := by
  have e := hfa.symm.trans (PySem.W.mg_of X G a44)
  cases e
  let Γ : Ct := ⟨K, fun n => ([0, cc1, 0, 0, cc4, 0, 0, 0, cc8, 0, 0, 0] : List Addr).getD n 0, fun n => ([TT0, TT1] : List Addr).getD n 0⟩
  have n : Ns Γ mg := {
    n_all := PySem.W.mg_none_of X G z0
    n_divmod := PySem.W.mg_none_of X G z1
    n_enumerate := PySem.W.mg_none_of X G z2
    n_int := PySem.W.mg_none_of X G z3
    n_isinstance := PySem.W.mg_none_of X G z4
    n_len := PySem.W.mg_none_of X G z5
    n_max := PySem.W.mg_none_of X G z6
    n_min := PySem.W.mg_none_of X G z7
    n_range := PySem.W.mg_none_of X G z8
    n_repr := PySem.W.mg_none_of X G z9
    n_reversed := PySem.W.mg_none_of X G z10
    n_sorted := PySem.W.mg_none_of X G z11
    n_sum := PySem.W.mg_none_of X G z12
    n_tuple := PySem.W.mg_none_of X G z13
    n_zip := PySem.W.mg_none_of X G z14
    c_BITS := ⟨_, PySem.W.mg_of X G v0, krvB_ok _ w0⟩
    c_GREATEST_RESULT := ⟨_, PySem.W.mg_of X G v1⟩
    c_GREATEST_SIZE := ⟨_, PySem.W.mg_of X G v2⟩
    c_GREATEST_WEIGHT := ⟨_, PySem.W.mg_of X G v3⟩
    c_LEAST_SIZE := ⟨_, PySem.W.mg_of X G v4⟩
    c_MOST_RESULTS := ⟨_, PySem.W.mg_of X G v5⟩
    c_MOST_RULES := ⟨_, PySem.W.mg_of X G v6⟩
    c_MOST_SEEN := ⟨_, PySem.W.mg_of X G v7⟩
    c_MOST_WEIGHTS := ⟨_, PySem.W.mg_of X G v8⟩
    k_BadRule := PySem.W.mg_of X G ka1
    k_BadNumber := PySem.W.mg_of X G ka4
    k_Nothing := PySem.W.mg_of X G ka8
    xj := ⟨fun c hc => by
      simp only [List.mem_cons, List.mem_nil_iff, or_false] at hc
      rcases hc with rfl | rfl | rfl
      · exact ⟨⟨kg1, kk1, ks1, kd1, kc1, kn, kt, km1⟩, ki1, ky1⟩
      · exact ⟨⟨kg4, kk4, ks4, kd4, kc4, kn, kt, km4⟩, ki4, ky4⟩
      · exact ⟨⟨kg8, kk8, ks8, kd8, kc8, kn, kt, km8⟩, ki8, ky8⟩, fun c hc j hj => by
      simp only [List.mem_cons, List.mem_nil_iff, or_false] at hc hj
      rcases hc with rfl | rfl | rfl <;> rcases hj with rfl | rfl | rfl
      · exact s1_1
      · exact s1_4
      · exact s1_8
      · exact s4_1
      · exact s4_4
      · exact s4_8
      · exact s8_1
      · exact s8_4
      · exact s8_8, by decide⟩
    xj_value := fun c hc => by
      simp only [List.mem_cons, List.mem_nil_iff, or_false] at hc
      rcases hc with rfl | rfl | rfl
      · exact kf1_value
      · exact kf4_value
      · exact kf8_value
    }
  have ne0_1 : TT0 ≠ TT1 := fun z => by rw [z] at xd0_1; exact absurd xd0_1 (by simp)
  let tabs : List Tb := [⟨cM0, TT0, lq__law_back_right⟩, ⟨cM1, TT1, lq__law_hand_right⟩]
  refine ⟨Γ, PySem.W.fnOf "law" "law" (defArgs s_law) (defBody s_law) (defScope s_law) .none kV44 dc44 pm44 an44 cd44 ct44, g_law, tabs, rfl, fun i t h => ?_, ?_, fun t h => ?_, rfl, fun s v => .of_eq rfl, fun base _ _ TB => ?_, hden⟩
  · match i, h with
    | 0, h => cases h; rfl
    | 1, h => cases h; rfl
    | n + 2, h => cases h
  · simp [Ts, tabs, ne0_1]
  · simp only [tabs, List.mem_cons, List.mem_nil_iff, or_false] at h
    rcases h with rfl | rfl
    · exact ⟨"_law_back_right", by simp, tabIn_of a39 l39 rfl xt0 xp0, xn0⟩
    · exact ⟨"_law_hand_right", by simp, tabIn_of a43 l43 rfl xt1 xp1, xn1⟩
  have TB0 : LamX.TabB base mg cM0 TT0 := TB _ (show ⟨cM0, TT0, lq__law_back_right⟩ ∈ tabs by simp [tabs])
  have TB1 : LamX.TabB base mg cM1 TT1 := TB _ (show ⟨cM1, TT1, lq__law_hand_right⟩ ∈ tabs by simp [tabs])
  have X1 : XcR l.prog w Γ.K mg base (Γ.cls 1) "BadRule" "number" := xcr_of ⟨⟨_, _, _, _, _, _, _, _, _, _, _, _, _, _, _, xl1, xr1⟩, xs1, ks1, ky1, xk1⟩ kf1_number (PySem.W.mg_of X G ka1) xi1 xy1 xf1 xc1 ⟨rfl, rfl, rfl, by decide +kernel, rfl, by decide +kernel, by decide +kernel⟩ (.inl rfl) (.inl rfl) (by decide) (by decide) (fun us hl => match us, hl with | [_, _], _ => rfl)
  have X4 : XcR l.prog w Γ.K mg base (Γ.cls 4) "BadNumber" "value" := xcr_of ⟨⟨_, _, _, _, _, _, _, _, _, _, _, _, _, _, _, xl4, xr4⟩, xs4, ks4, ky4, xk4⟩ kf4_value (PySem.W.mg_of X G ka4) xi4 xy4 xf4 xc4 ⟨rfl, rfl, rfl, by decide +kernel, rfl, by decide +kernel, by decide +kernel⟩ (.inl rfl) (.inl rfl) (by decide) (by decide) (fun us hl => match us, hl with | [_, _], _ => rfl)
  have Y8 : XgR l.prog w Γ.K mg base (Γ.cls 8) "Nothing" "value" := xgr_of ⟨PySem.F.excBase_LookupError, PySem.F.store_LookupError, ⟨_, _, _, _, _, _, _, _, _, _, _, _, _, _, _, xl8, xe8⟩, xs8, ks8, ky8, xk8⟩ kf8_value (PySem.W.mg_of X G ka8) xi8 xy8 xf8 xc8 ⟨rfl, rfl, rfl, by decide +kernel, rfl, by decide +kernel, by decide +kernel⟩ (.inl rfl) (.inl rfl) (by decide) (by decide) (fun _ _ => rfl) (fun _ _ => rfl)
  have F0 := fun_mk (st := s_is_int) l0 c0 k0
  have C0 : Cal l.prog w mg base Γ 1 "is_int" ["thing"] g_is_int := ⟨_, _, ok_is_int n F0, PySem.W.mg_of X G a0, k0, F0.binds fun _ _ _ _ _ _ us hl => match us, hl with | [_], _ => rfl⟩
  have F1 := fun_mk (st := s_is_int_within) l1 c1 k1
  have C1 : Cal l.prog w mg base Γ 2 "is_int_within" ["thing", "least", "most"] g_is_int_within := ⟨_, _, ok_is_int_within n F1 C0, PySem.W.mg_of X G a1, k1, F1.binds fun _ _ _ _ _ _ us hl => match us, hl with | [_, _, _], _ => rfl⟩
  have F2 := fun_mk (st := s_is_tuple) l2 c2 k2
  have C2 : Cal l.prog w mg base Γ 1 "is_tuple" ["thing", "least", "most"] g_is_tuple := ⟨_, _, ok_is_tuple n F2, PySem.W.mg_of X G a2, k2, F2.binds fun _ _ _ _ _ _ us hl => match us, hl with | [_, _, _], _ => rfl⟩
  have F3 := fun_mk (st := s_first_outside) l3 c3 k3
  have C3 : Cal l.prog w mg base Γ 1 "first_outside" ["things", "least", "most"] g_first_outside := ⟨_, _, ok_first_outside n F3, PySem.W.mg_of X G a3, k3, F3.binds fun _ _ _ _ _ _ us hl => match us, hl with | [_, _, _], _ => rfl⟩
  have F4 := fun_mk (st := s_need_rule) l4 c4 k4
  have C4 : Cal l.prog w mg base Γ 3 "need_rule" ["thing"] g_need_rule := ⟨_, _, ok_need_rule n F4 X1 C2 C3, PySem.W.mg_of X G a4, k4, F4.binds fun _ _ _ _ _ _ us hl => match us, hl with | [_], _ => rfl⟩
  have F5 := fun_mk (st := s_is_rule) l5 c5 k5
  have C5 : Cal l.prog w mg base Γ 4 "is_rule" ["thing"] g_is_rule := ⟨_, _, ok_is_rule n F5 C4, PySem.W.mg_of X G a5, k5, F5.binds fun _ _ _ _ _ _ us hl => match us, hl with | [_], _ => rfl⟩
  have F6 := fun_mk (st := s_need_row) l6 c6 k6
  have C6 : Cal l.prog w mg base Γ 2 "need_row" ["thing"] g_need_row := ⟨_, _, ok_need_row n F6 C2 C3, PySem.W.mg_of X G a6, k6, F6.binds fun _ _ _ _ _ _ us hl => match us, hl with | [_], _ => rfl⟩
  have F7 := fun_mk (st := s_is_row) l7 c7 k7
  have C7 : Cal l.prog w mg base Γ 3 "is_row" ["thing"] g_is_row := ⟨_, _, ok_is_row n F7 C6, PySem.W.mg_of X G a7, k7, F7.binds fun _ _ _ _ _ _ us hl => match us, hl with | [_], _ => rfl⟩
  have F8 := fun_mk (st := s_index_of) l8 c8 k8
  have C8 : Cal l.prog w mg base Γ 1 "index_of" ["rule", "results"] g_index_of := ⟨_, _, ok_index_of n F8, PySem.W.mg_of X G a8, k8, F8.binds fun _ _ _ _ _ _ us hl => match us, hl with | [_, _], _ => rfl⟩
  have F9 := fun_mk (st := s_indexes_by_ones) l9 c9 k9
  have C9 : Cal l.prog w mg base Γ 1 "indexes_by_ones" ["rule"] g_indexes_by_ones := ⟨_, _, ok_indexes_by_ones n F9, PySem.W.mg_of X G a9, k9, F9.binds fun _ _ _ _ _ _ us hl => match us, hl with | [_], _ => rfl⟩
  have F10 := fun_mk (st := s_many_of) l10 c10 k10
  have C10 : Cal l.prog w mg base Γ 1 "many_of" ["base", "wide"] g_many_of := ⟨_, _, ok_many_of n F10, PySem.W.mg_of X G a10, k10, F10.binds fun _ _ _ _ _ _ us hl => match us, hl with | [_, _], _ => rfl⟩
  have F11 := fun_mk (st := s_signs_of) l11 c11 k11
  have C11 : Cal l.prog w mg base Γ 1 "signs_of" ["number", "signs", "wide"] g_signs_of := ⟨_, _, ok_signs_of n F11, PySem.W.mg_of X G a11, k11, F11.binds fun _ _ _ _ _ _ us hl => match us, hl with | [_, _, _], _ => rfl⟩
  have F12 := fun_mk (st := s_ones_of) l12 c12 k12
  have C12 : Cal l.prog w mg base Γ 1 "ones_of" ["wide"] g_ones_of := ⟨_, _, ok_ones_of n F12, PySem.W.mg_of X G a12, k12, F12.binds fun _ _ _ _ _ _ us hl => match us, hl with | [_], _ => rfl⟩
  have F13 := fun_mk (st := s_need_bit_row) l13 c13 k13
  have C13 : Cal l.prog w mg base Γ 3 "need_bit_row" ["thing"] g_need_bit_row := ⟨_, _, ok_need_bit_row n F13 C3 C6, PySem.W.mg_of X G a13, k13, F13.binds fun _ _ _ _ _ _ us hl => match us, hl with | [_], _ => rfl⟩
  have F14 := fun_mk (st := s_need_many) l14 c14 k14
  have C14 : Cal l.prog w mg base Γ 3 "need_many" ["thing"] g_need_many := ⟨_, _, ok_need_many n F14 X4 C1, PySem.W.mg_of X G a14, k14, F14.binds fun _ _ _ _ _ _ us hl => match us, hl with | [_], _ => rfl⟩
  have F15 := fun_mk (st := s_ones_behind) l15 c15 k15
  have C15 : Cal l.prog w mg base Γ 1 "ones_behind" ["row", "many"] g_ones_behind := ⟨_, _, ok_ones_behind n F15, PySem.W.mg_of X G a15, k15, F15.binds fun _ _ _ _ _ _ us hl => match us, hl with | [_, _], _ => rfl⟩
  have F16 := fun_mk (st := s_tells) l16 c16 k16
  have C16 : Cal l.prog w mg base Γ 2 "tells" ["row", "many"] g_tells := ⟨_, _, ok_tells n F16 C15, PySem.W.mg_of X G a16, k16, F16.binds fun _ _ _ _ _ _ us hl => match us, hl with | [_, _], _ => rfl⟩
  have F17 := fun_mk (st := s_does_tell) l17 c17 k17
  have C17 : Cal l.prog w mg base Γ 4 "does_tell" ["row", "many"] g_does_tell := ⟨_, _, ok_does_tell n F17 C13 C16 C14, PySem.W.mg_of X G a17, k17, F17.binds fun _ _ _ _ _ _ us hl => match us, hl with | [_, _], _ => rfl⟩
  have F18 := fun_mk (st := s_telling_row) l18 c18 k18
  have C18 : Cal l.prog w mg base Γ 4 "telling_row" ["many"] g_telling_row := ⟨_, _, ok_telling_row n F18 C14, PySem.W.mg_of X G a18, k18, F18.binds fun _ _ _ _ _ _ us hl => match us, hl with | [_], _ => rfl⟩
  have F19 := fun_mk (st := s_need_numbers) l19 c19 k19
  have C19 : Cal l.prog w mg base Γ 3 "need_numbers" ["thing", "row"] g_need_numbers := ⟨_, _, ok_need_numbers n F19 X4 C2 C0 C16, PySem.W.mg_of X G a19, k19, F19.binds fun _ _ _ _ _ _ us hl => match us, hl with | [_, _], _ => rfl⟩
  have F20 := fun_mk (st := s_rule_told) l20 c20 k20
  have C20 : Cal l.prog w mg base Γ 5 "rule_told" ["row", "numbers"] g_rule_told := ⟨_, _, ok_rule_told n F20 Y8 C13 C19 C15 C5, PySem.W.mg_of X G a20, k20, F20.binds fun _ _ _ _ _ _ us hl => match us, hl with | [_, _], _ => rfl⟩
  have F21 := fun_mk (st := s_need_menu) l21 c21 k21
  have C21 : Cal l.prog w mg base Γ 5 "need_menu" ["thing"] g_need_menu := ⟨_, _, ok_need_menu n F21 X4 C2 C5, PySem.W.mg_of X G a21, k21, F21.binds fun _ _ _ _ _ _ us hl => match us, hl with | [_], _ => rfl⟩
  have F22 := fun_mk (st := s_is_seen_pair) l22 c22 k22
  have C22 : Cal l.prog w mg base Γ 4 "is_seen_pair" ["thing"] g_is_seen_pair := ⟨_, _, ok_is_seen_pair n F22 C2 C7 C0, PySem.W.mg_of X G a22, k22, F22.binds fun _ _ _ _ _ _ us hl => match us, hl with | [_], _ => rfl⟩
  have F23 := fun_mk (st := s_need_seen) l23 c23 k23
  have C23 : Cal l.prog w mg base Γ 5 "need_seen" ["thing"] g_need_seen := ⟨_, _, ok_need_seen n F23 X4 C2 C22, PySem.W.mg_of X G a23, k23, F23.binds fun _ _ _ _ _ _ us hl => match us, hl with | [_], _ => rfl⟩
  have F24 := fun_mk (st := s_does_fit) l24 c24 k24
  have C24 : Cal l.prog w mg base Γ 2 "does_fit" ["rule", "seen"] g_does_fit := ⟨_, _, ok_does_fit n F24 C8, PySem.W.mg_of X G a24, k24, F24.binds fun _ _ _ _ _ _ us hl => match us, hl with | [_, _], _ => rfl⟩
  have F25 := fun_mk (st := s_fitting) l25 c25 k25
  have C25 : Cal l.prog w mg base Γ 6 "fitting" ["menu", "seen"] g_fitting := ⟨_, _, ok_fitting n F25 C21 C23 C24, PySem.W.mg_of X G a25, k25, F25.binds fun _ _ _ _ _ _ us hl => match us, hl with | [_, _], _ => rfl⟩
  have F26 := fun_mk (st := s_lots_by_row) l26 c26 k26
  have C26 : Cal l.prog w mg base Γ 2 "lots_by_row" ["rules"] g_lots_by_row := ⟨_, _, ok_lots_by_row n F26 C12 C9 C10, PySem.W.mg_of X G a26, k26, F26.binds fun _ _ _ _ _ _ us hl => match us, hl with | [_], _ => rfl⟩
  have F27 := fun_mk (st := s_best_ask) l27 c27 k27
  have C27 : Cal l.prog w mg base Γ 7 "best_ask" ["menu", "seen", "size"] g_best_ask := ⟨_, _, ok_best_ask n F27 X4 C25 C1 C26 C11, PySem.W.mg_of X G a27, k27, F27.binds fun _ _ _ _ _ _ us hl => match us, hl with | [_, _, _], _ => rfl⟩
  have F28 := fun_mk (st := s__law_begun) l28 c28 k28
  have C28 : Cal l.prog w mg base Γ 1 "_law_begun" ["script", "k"] g__law_begun := ⟨_, _, ok__law_begun n F28, PySem.W.mg_of X G a28, k28, F28.binds fun _ _ _ _ _ _ us hl => match us, hl with | [_, _], _ => rfl⟩
  have F29 := fun_mk (st := s__law_draw) l29 c29 k29
  have C29 : Cal l.prog w mg base Γ 1 "_law_draw" ["m", "limit"] g__law_draw := ⟨_, _, ok__law_draw n F29, PySem.W.mg_of X G a29, k29, F29.binds fun _ _ _ _ _ _ us hl => match us, hl with | [_, _], _ => rfl⟩
  have F30 := fun_mk (st := s__law_of) l30 c30 k30
  have C30 : Cal l.prog w mg base Γ 2 "_law_of" ["m", "some"] g__law_of := ⟨_, _, ok__law_of n F30 C29, PySem.W.mg_of X G a30, k30, F30.binds fun _ _ _ _ _ _ us hl => match us, hl with | [_, _], _ => rfl⟩
  have F31 := fun_mk (st := s__law_tune) l31 c31 k31
  have C31 : Cal l.prog w mg base Γ 2 "_law_tune" ["m", "limit"] g__law_tune := ⟨_, _, ok__law_tune n F31 C29, PySem.W.mg_of X G a31, k31, F31.binds fun _ _ _ _ _ _ us hl => match us, hl with | [_, _], _ => rfl⟩
  have F32 := fun_mk (st := s__law_sum) l32 c32 k32
  have C32 : Cal l.prog w mg base Γ 1 "_law_sum" ["tune", "some"] g__law_sum := ⟨_, _, ok__law_sum n F32, PySem.W.mg_of X G a32, k32, F32.binds fun _ _ _ _ _ _ us hl => match us, hl with | [_, _], _ => rfl⟩
  have F33 := fun_mk (st := s__law_all) l33 c33 k33
  have C33 : Cal l.prog w mg base Γ 1 "_law_all" ["marks", "many"] g__law_all := ⟨_, _, ok__law_all n F33, PySem.W.mg_of X G a33, k33, F33.binds fun _ _ _ _ _ _ us hl => match us, hl with | [_, _], _ => rfl⟩
  have F34 := fun_mk (st := s__law_windows) l34 c34 k34
  have C34 : Cal l.prog w mg base Γ 1 "_law_windows" ["row_so", "many"] g__law_windows := ⟨_, _, ok__law_windows n F34, PySem.W.mg_of X G a34, k34, F34.binds fun _ _ _ _ _ _ us hl => match us, hl with | [_, _], _ => rfl⟩
  have F35 := fun_mk (st := s__law_tells) l35 c35 k35
  have C35 : Cal l.prog w mg base Γ 2 "_law_tells" ["row_so", "many"] g__law_tells := ⟨_, _, ok__law_tells n F35 C34, PySem.W.mg_of X G a35, k35, F35.binds fun _ _ _ _ _ _ us hl => match us, hl with | [_, _], _ => rfl⟩
  have F36 := fun_mk (st := s__law_heard) l36 c36 k36
  have C36 : CalL l.prog w mg base Γ 7 6 "_law_heard" ["call"] h__law_heard := ⟨_, _, ok__law_heard n F36 hd__law_heard, PySem.W.mg_of X G a36, k36, F36.binds fun _ _ _ _ _ _ us hl => match us, hl with | [_], _ => rfl⟩
  have F37 := fun_mk (st := s__law_rows_right) l37 c37 k37
  have C37 : Cal l.prog w mg base Γ 5 "_law_rows_right" ["m"] g__law_rows_right := ⟨_, _, ok__law_rows_right n F37 C29 C17 C35 C33 C18, PySem.W.mg_of X G a37, k37, F37.binds fun _ _ _ _ _ _ us hl => match us, hl with | [_], _ => rfl⟩
  have F38 := fun_mk (st := s__law_due) l38 c38 k38
  have C38 : Cal l.prog w mg base Γ 3 "_law_due" ["row_so", "numbers_so"] g__law_due := ⟨_, _, ok__law_due n F38 C35 C34, PySem.W.mg_of X G a38, k38, F38.binds fun _ _ _ _ _ _ us hl => match us, hl with | [_, _], _ => rfl⟩
  have F39 := fun_mk (st := s__law_back_right) l39 c39 k39
  have C39 : Cal l.prog w mg base Γ 8 "_law_back_right" ["m"] g__law_back_right := ⟨_, _, ok__law_back_right n F39 rfl TB0 C31 C29 C18 C34 C32 C20 C38 C36, PySem.W.mg_of X G a39, k39, F39.binds fun _ _ _ _ _ _ us hl => match us, hl with | [_], _ => rfl⟩
  have F40 := fun_mk (st := s__law_fits) l40 c40 k40
  have C40 : Cal l.prog w mg base Γ 2 "_law_fits" ["tune", "pairs"] g__law_fits := ⟨_, _, ok__law_fits n F40 C32, PySem.W.mg_of X G a40, k40, F40.binds fun _ _ _ _ _ _ us hl => match us, hl with | [_, _], _ => rfl⟩
  have F41 := fun_mk (st := s__law_best_bits) l41 c41 k41
  have C41 : Cal l.prog w mg base Γ 2 "_law_best_bits" ["tunes", "size_so"] g__law_best_bits := ⟨_, _, ok__law_best_bits n F41 C33 C32, PySem.W.mg_of X G a41, k41, F41.binds fun _ _ _ _ _ _ us hl => match us, hl with | [_, _], _ => rfl⟩
  have F42 := fun_mk (st := s__law_menus_right) l42 c42 k42
  have C42 : Cal l.prog w mg base Γ 8 "_law_menus_right" ["m"] g__law_menus_right := ⟨_, _, ok__law_menus_right n F42 C29 C31 C30 C32 C40 C41 C25 C27, PySem.W.mg_of X G a42, k42, F42.binds fun _ _ _ _ _ _ us hl => match us, hl with | [_], _ => rfl⟩
  have F43 := fun_mk (st := s__law_hand_right) l43 c43 k43
  have C43 : Cal l.prog w mg base Γ 8 "_law_hand_right" [] g__law_hand_right := ⟨_, _, ok__law_hand_right n F43 rfl TB1 C17 C18 C20 C36 C25 C27, PySem.W.mg_of X G a43, k43, F43.binds fun _ _ _ _ _ _ us hl => match us, hl with | [], _ => rfl⟩
  have F44 := fun_mk (st := s_law) l44 c44 k44
  exact ok_law n F44 C28 C37 C39 C42 C43
end MP.K47
set_option Elab.async false
set_option linter.all false
set_option maxRecDepth 100000
set_option maxHeartbeats 1000000
namespace MP.K47
open PySem PySem.Spec MP MP.PG
open PyProof.Rows hiding St
open L2 hiding St r1
section
variable {s : Sto}
theorem windows_ok {ns : List Int} {k : Nat} (hl : ns.length ≤ 200) (hk : k ≤ 200) : g__law_windows [tI ns, .int (k : Int)] s = .ok (.lst ((winL ns k).map tI)) s := by
  let E (x : Option Dv) : Env := [some (tI ns), some (.int (k : Int)), x]
  have e0 : startD 3 [tI ns, .int (k : Int)] = E none := rfl
  have hF : cF__law_windows_1 (E none) s = .ok { ws := (List.range (ns.length + 1 - k)).map fun i : Nat => .int (i : Int) } s := by
    have := range1_ok (fa := mCons (mBin addD (mBin subD (mBlt lenD (mCons (mVar 0) mNil)) (mVar 1)) (mK (.int 1))) mNil) (ρ := E none) (s := s) (j := (ns.length : Int) - k + 1) (cons_v (bin_v (x := .int ((ns.length : Int) - k)) (y := .int 1) (bin_v (x := .int (ns.length : Int)) (y := .int (k : Int)) (blt_v (cons_v (w := tI ns) rfl nil_ev) (by rw [tI, len_tup, List.length_map])) rfl sub_ev) k_ev add_ii) nil_ev) (okR_s (by omega) (by omega))
    refine this.trans ?_
    rw [rng_ev, show ((ns.length : Int) - k + 1).toNat = ns.length + 1 - k by omega]
    simp only [Int.zero_add]
  have hc := comp_mapA (vs := [2]) (g := ct__law_windows_1) (elt := ce__law_windows_1) (fun i : Nat => tI ((ns.drop i).take k)) hF (by rw [List.length_range]; unfold lim; omega) fun i hi => ⟨E (some (.int (i : Int))), rfl, by
    have hi' := List.mem_range.mp hi
    refine sl_v (x := tI ns) (a := some (i : Int)) (b := some ((i + k : Nat) : Int)) rfl (part_v (f := mVar 2) rfl) (part_v (bin_v (x := .int (i : Int)) (y := .int (k : Int)) rfl rfl (by rw [add_ii, Int.natCast_add]))) ?_
    show some (Dv.tup (cutD (ns.map .int) _ _)) = _
    rw [cut_mid (by rw [List.length_map]; omega) (by rw [List.length_map]; omega), Nat.add_sub_cancel_left, ← List.map_drop, ← List.map_take]⟩
  have e : ((List.range (ns.length + 1 - k)).map fun i : Nat => tI ((ns.drop i).take k)) = (winL ns k).map tI := by unfold winL; rw [List.map_map]; rfl
  rw [e] at hc
  unfold g__law_windows d__law_windows
  rw [den_ev, e0]
  exact (congrArg (finC _) (ret_v hc)).trans finC_rt
theorem law_tells_ok {ns : List Int} {k : Nat} (hl : ns.length ≤ 200) (hk : k ≤ 200) : g__law_tells [tI ns, .int (k : Int)] s = .ok (.bl (tellF ns k)) s := by
  let E (x2 x3 x4 : Option Dv) : Env := [some (tI ns), some (.int (k : Int)), x2, x3, x4]
  have e0 : startD 5 [tI ns, .int (k : Int)] = E none none none := rfl
  have hF1 : cF__law_tells_1 (E none none none) s = .ok { ws := (winL ns k).map tI } s := by
    have h : mCall (g__law_windows) (mCons (mVar 0) (mCons (mVar 1) mNil)) (E none none none) s = .ok (.lst ((winL ns k).map tI)) s := call_v (cons_v (w := tI ns) rfl (cons_v (w := .int (k : Int)) rfl nil_ev)) (windows_ok hl hk)
    show iSeq _ _ _ = _
    unfold iSeq
    rw [h]
    rfl
  have hwl : (winL ns k).length ≤ 201 := by unfold winL; rw [List.length_map, List.length_range]; omega
  have hc1 := comp_mapA (vs := [3]) (g := ct__law_tells_1) (elt := ce__law_tells_1) (fun w : List Int => Dv.int w.sum) hF1 (by unfold lim; omega) fun w _ => ⟨E none (some (tI w)) none, rfl, blt_v (cons_v (w := tI w) rfl nil_ev) sum_TI⟩
  have e1 : ((winL ns k).map fun w => Dv.int w.sum) = (onesL ns k).map .int := by unfold onesL; rw [List.map_map]; rfl
  rw [e1] at hc1
  let O : Option Dv := some (lI (onesL ns k))
  have a1 : mAsg (mComp cF__law_tells_1 [3] ct__law_tells_1 ci__law_tells_1 ce__law_tells_1) (gN 2) (E none none none) s = .nx (E O none none) s := asg_v (w := lI (onesL ns k)) hc1
  have hF2 : cF__law_tells_2 (E O none none) s = .ok { ws := (List.range k).map fun i : Nat => .int ((i : Int) + 1) } s :=
    range1k k_ev (bin_v (x := .int (k : Int)) (y := .int 1) rfl k_ev add_ii) (by omega)
  let t : Nat → Bool := fun i => !(onesL ns k).contains ((i : Int) + 1)
  have hc2 : mComp cF__law_tells_2 [4] ct__law_tells_2 ci__law_tells_2 ce__law_tells_2 (E O none none) s = .ok (.lst (((List.range k).filter t).map fun i : Nat => Dv.int ((i : Int) + 1))) s :=
    comp_filt (vs := [4]) (g := ct__law_tells_2) (tt := ci__law_tells_2) (elt := ce__law_tells_2) (fun i : Nat => Dv.int ((i : Int) + 1)) t hF2 (by rw [List.length_range]; unfold lim; omega) fun i _ => ⟨E O none (some (.int ((i : Int) + 1))), rfl, test_v (bin_v (x := .int ((i : Int) + 1)) (y := lI (onesL ns k)) rfl rfl (in_list.trans rfl)), fun _ => rfl⟩
  have e2 : (((List.range k).filter t).map fun i : Nat => Dv.int ((i : Int) + 1)) = (((List.range k).filter t).map fun i : Nat => (i : Int) + 1).map .int := by rw [List.map_map]; rfl
  rw [e2] at hc2
  have hq : eqD s (lI (((List.range k).filter t).map fun i : Nat => (i : Int) + 1)) (.lst []) = some (.bl (tellF ns k)) := by
    rw [eq_l_nil (pl_lI (ns := ((List.range k).filter t).map fun i : Nat => (i : Int) + 1) fun x hx => by
      obtain ⟨i, hi, rfl⟩ := List.mem_map.mp hx
      have := List.mem_range.mp (List.mem_filter.mp hi).1
      exact smN (by omega)) (by decide)]
    refine congrArg (fun b => some (Dv.bl b)) ?_
    unfold tellF
    have key : ((((List.range k).filter t).map fun i : Nat => (i : Int) + 1).map Dv.int = []) ↔ ((List.range k).all fun i : Nat => (onesL ns k).contains ((i : Int) + 1)) = true := by
      rw [List.map_eq_nil_iff, List.map_eq_nil_iff, List.filter_eq_nil_iff, List.all_eq_true]
      exact ⟨fun h i hi => by
        have := h i hi
        dsimp only [t] at this
        cases q : (onesL ns k).contains ((i : Int) + 1) with
        | true => rfl
        | false => rw [q] at this; exact absurd rfl this, fun h i hi => by
        have := h i hi
        dsimp only [t]
        rw [this]
        exact Bool.false_ne_true⟩
    by_cases hh : ((List.range k).all fun i : Nat => (onesL ns k).contains ((i : Int) + 1)) = true
    · rw [hh]
      exact decide_eq_true (key.mpr hh)
    · rw [decide_eq_false fun z => hh (key.mp z)]
      exact (Bool.eq_false_iff.mpr hh).symm
  unfold g__law_tells d__law_tells
  rw [den_ev, e0]
  exact fin_nx a1 ((congrArg (finC _) (ret_v (bin_v (y := .lst []) hc2 rfl hq))).trans finC_rt)
theorem start4 (wa : List Dv) : ∃ a b c r, ∀ cl : Dv, startD 4 (cl :: wa) = some cl :: a :: b :: c :: r := by
  match wa with
  | [] => exact ⟨none, none, none, [], fun _ => rfl⟩
  | [x] => exact ⟨some x, none, none, [], fun _ => rfl⟩
  | [x, y] => exact ⟨some x, some y, none, [], fun _ => rfl⟩
  | x :: y :: z :: t => exact ⟨some x, some y, some z, t.map some ++ List.replicate (4 - (t.length + 4)) none, fun _ => rfl⟩
def wordH (c : Nat) : Str := if c = 8 then ("nothing" : Str) else ("number" : Str)
theorem out_ev {cl : Dv} {g : Sto → R Dv} {a b c : Option Dv} {r : Env} : d__law_heard cl g (some cl :: a :: b :: c :: r) s = (match g s with
    | .ok v s1 => .rt (.lst [v]) s1
    | .er x s1 => if x.c = 4 ∨ x.c = 8 then (if x.f = ("value" : Str) then .rt (.tup [.str (wordH x.c), x.w]) s1 else .no) else .no
    | .no => .no) := by
  have e1 : mAsg (mTup (mCons (mK .non) (mCons (mK .non) mNil))) (gT 2 (gsC (gN 1) (gsC (gN 2) gs0))) (some cl :: a :: b :: c :: r) s = .nx (some cl :: some .non :: some .non :: c :: r) s := rfl
  have t1 : mThk 0 cl g (some cl :: some .non :: some .non :: c :: r) s = g s := thk_ev
  unfold d__law_heard
  rw [seq_ev, e1, seqK_nx, seq_ev]
  cases e : g s with
  | ok v s1 =>
    have e2 : mTryK [1, 4, 8] 4 8 3 (mAsg (mThk 0 cl g) (gN 1)) (mAsg (mVar 3) (gN 2)) (some cl :: some .non :: some .non :: c :: r) s = .nx (some cl :: some v :: some .non :: c :: r) s1 := by
      unfold mTryK
      rw [asgN_ev, t1, e, then_ok]
      rfl
    rw [e2, seqK_nx]
    have u : mTest (mBin isD (mVar 2) (mK .non)) (some cl :: some v :: some .non :: c :: r) s1 = .ok true s1 := rfl
    rw [seq_rt ((ifS_t u).trans (ret_v (w := .lst [v]) (lst_v (cons_v (w := v) rfl nil_ev) (by show 1 ≤ 1000000; decide))))]
  | er x s1 =>
    have e0 : mAsg (mThk 0 cl g) (gN 1) (some cl :: some .non :: some .non :: c :: r) s = .er x (some cl :: some .non :: some .non :: c :: r) s1 := by rw [asgN_ev, t1, e, then_er]
    dsimp only
    by_cases hx : x.c = 4 ∨ x.c = 8
    · rw [if_pos hx]
      have e2 : mTryK [1, 4, 8] 4 8 3 (mAsg (mThk 0 cl g) (gN 1)) (mAsg (mVar 3) (gN 2)) (some cl :: some .non :: some .non :: c :: r) s = .nx (some cl :: some .non :: some (.exc x.c x.f x.w) :: none :: r) s1 := by
        unfold mTryK
        rw [e0]
        dsimp only
        rw [if_pos (by rcases hx with h | h <;> rw [h] <;> decide)]
        rfl
      rw [e2, seqK_nx]
      have u : mTest (mBin isD (mVar 2) (mK .non)) (some cl :: some .non :: some (.exc x.c x.f x.w) :: none :: r) s1 = .ok false s1 := rfl
      have nx : mIfS (mTest (mBin isD (mVar 2) (mK .non))) (mRet (mLst (mCons (mVar 1) mNil))) mNext (some cl :: some .non :: some (.exc x.c x.f x.w) :: none :: r) s1 = .nx (some cl :: some .non :: some (.exc x.c x.f x.w) :: none :: r) s1 := (ifS_f u).trans rfl
      rw [seq_ev, nx, seqK_nx]
      have i : isiJ [1, 4, 8] s1 [.exc x.c x.f x.w, .cl 8] = some (.bl (decide (x.c = 8))) := by
        show isxJ [1, 4, 8] s1 [.exc x.c x.f x.w, .cl 8] = _
        unfold isxJ
        dsimp only
        rcases hx with h | h <;> rw [h] <;> rfl
      have fl : fldJ [1, 4, 8] "value" s1 (.exc x.c x.f x.w) = if x.f = ("value" : Str) then some x.w else none := by
        unfold fldJ
        dsimp only
        by_cases hf : x.f = ("value" : Str)
        · rw [if_pos hf, if_pos ⟨by rcases hx with h | h <;> rw [h] <;> decide, hf.symm⟩]
        · rw [if_neg hf, if_neg fun z => hf z.2.symm]
      have ut : mTest (mBlt (isiJ [1, 4, 8]) (mCons (mVar 2) (mCons (mK (.cl 8)) mNil))) (some cl :: some .non :: some (.exc x.c x.f x.w) :: none :: r) s1 = .ok (decide (x.c = 8)) s1 :=
        test_v (blt_v (cons_v (w := .exc x.c x.f x.w) rfl (cons_v k_ev nil_ev)) i)
      have fv : mUn (fldJ [1, 4, 8] "value") (mVar 2) (some cl :: some .non :: some (.exc x.c x.f x.w) :: none :: r) s1 = if x.f = ("value" : Str) then .ok x.w s1 else .no := by
        rw [un_ev]
        show (R.ok (Dv.exc x.c x.f x.w) s1).bind _ = _
        rw [bind_ok, fl]
        by_cases hf : x.f = ("value" : Str)
        · rw [if_pos hf, if_pos hf]; rfl
        · rw [if_neg hf, if_neg hf]; rfl
      by_cases hf : x.f = ("value" : Str)
      · rw [if_pos hf] at fv ⊢
        by_cases h8 : x.c = 8
        · rw [decide_eq_true h8] at ut
          rw [ret_v (if_vt ut (tup_v (cons_v (w := .str "nothing") k_ev (cons_v fv nil_ev)) (by show 2 ≤ 1000000; decide)))]
          unfold wordH
          rw [if_pos h8]
        · rw [decide_eq_false h8] at ut
          rw [ret_v (if_vf ut (tup_v (cons_v (w := .str "number") k_ev (cons_v fv nil_ev)) (by show 2 ≤ 1000000; decide)))]
          unfold wordH
          rw [if_neg h8]
      · rw [if_neg hf] at fv ⊢
        have tn : ∀ t : Str, mTup (mCons (mK (.str t)) (mCons (mUn (fldJ [1, 4, 8] "value") (mVar 2)) mNil)) (some cl :: some .non :: some (.exc x.c x.f x.w) :: none :: r) s1 = .no := fun t => by
          rw [tup_ev]
          unfold mCons
          rw [k_ev, bind_ok, fv]
          rfl
        cases hd : decide (x.c = 8) with
        | true =>
          rw [hd] at ut
          unfold mRet
          rw [if_vt ut (tn _)]
          rfl
        | false =>
          rw [hd] at ut
          unfold mRet
          rw [if_vf ut (tn _)]
          rfl
    · rw [if_neg hx]
      have hn : ¬ (x.c ∈ [1, 4, 8] ∧ 4 ∈ [1, 4, 8] ∧ 8 ∈ [1, 4, 8] ∧ (under x.c 4 || under x.c 8) = true) := fun z => by
        obtain ⟨z1, _, _, z4⟩ := z
        simp only [List.mem_cons, List.mem_nil_iff, or_false] at z1
        rcases z1 with h | h | h
        · rw [h] at z4; exact absurd z4 (by decide)
        · exact hx (.inl h)
        · exact hx (.inr h)
      unfold mTryK
      rw [e0]
      dsimp only
      rw [if_neg hn]
      rfl
  | no =>
    unfold mTryK
    rw [asgN_ev, t1, e]
    rfl
theorem hd__law_heard (cl : Dv) (g : Sto → R Dv) (wa : List Dv) (s : Sto) : finC s.length (d__law_heard cl g (startD 4 (cl :: wa)) s) = h__law_heard g wa s := by
  obtain ⟨a, b, c, r, e⟩ := start4 wa
  unfold h__law_heard
  rw [e cl, e .non, out_ev, out_ev]
theorem out_ok {g : Sto → R Dv} {v : Dv} (h : g s = .ok v s) : h__law_heard g [] s = .ok (.lst [v]) s := by
  unfold h__law_heard
  rw [show startD 4 [Dv.non] = [some .non, none, none, none] from rfl, out_ev, h]
  exact finC_rt
theorem out_er {g : Sto → R Dv} {c : Nat} {w : Dv} (h : g s = .er ⟨c, "value", w⟩ s) (hc : c = 4 ∨ c = 8) : h__law_heard g [] s = .ok (.tup [.str (wordH c), w]) s := by
  unfold h__law_heard
  rw [show startD 4 [Dv.non] = [some .non, none, none, none] from rfl, out_ev, h]
  dsimp only
  rw [if_pos hc, if_pos rfl]
  exact finC_rt
end
end MP.K47
set_option Elab.async false
set_option linter.all false
set_option maxRecDepth 100000
set_option maxHeartbeats 1000000
namespace MP.K47
open PySem PySem.Spec MP MP.PG
open PyProof.Rows hiding St
open L2 hiding St r1
def codeO (c : Nat) : Nat := if c = 4 then 4 else 8
def dueD (row th : List Int) : Dv := match outT row th with
  | .inl c => .tup [.str (wordH (codeO c)), tI th]
  | .inr rs => .lst [tI rs]
section
variable {s : Sto}
theorem heard_ok {row th : List Int} {g : Sto → R Dv} (hs : Cl s) (hr : Bt row) (ht : th.length ≤ 400) (hg : g s = g_rule_told [tI row, tI th] s) : h__law_heard g [] s = .ok (dueD row th) s := by
  rw [rule_told_ok hs hr ht] at hg
  unfold dueD
  cases ho : outT row th with
  | inl c =>
    rw [ho] at hg
    refine out_er hg ?_
    by_cases h : c = 4
    · exact .inl (if_pos h)
    · exact .inr (if_neg h)
  | inr rs =>
    rw [ho] at hg
    exact out_ok hg
theorem max_tI {l : List Int} (h : l ≠ []) : maxA s [tI l] = some (.int (maxO 0 l)) := by
  cases l with
  | nil => exact absurd rfl h
  | cons a l =>
    show (match intsOf ((a :: l).map .int) with
      | some (n :: ns) => some (Dv.int (maxO 0 (n :: ns)))
      | _ => none) = _
    rw [intsOf_I]
theorem min_tI {l : List Int} (h : l ≠ []) : minA s [tI l] = some (.int (minO 0 l)) := by
  cases l with
  | nil => exact absurd rfl h
  | cons a l =>
    show (match intsOf ((a :: l).map .int) with
      | some (n :: ns) => some (Dv.int (minO 0 (n :: ns)))
      | _ => none) = _
    rw [intsOf_I]
theorem ge_ii {i j : Int} : geD s (.int i) (.int j) = some (.bl (decide (j ≤ i))) := rfl
theorem rev_rule {g : Int → Int} {k : Nat} : ((List.range k).map fun i : Nat => g ((i : Int) + 1) - g (i : Int)).reverse = (List.range k).map fun i : Nat => g ((k : Int) - i) - g ((k : Int) - i - 1) := by
  refine List.ext_getElem? fun i => ?_
  by_cases hi : i < k
  · rw [List.getElem?_reverse (by rw [List.length_map, List.length_range]; exact hi), List.getElem?_map, List.getElem?_map, List.length_map, List.length_range, List.getElem?_range (by omega), List.getElem?_range hi]
    show some (g (((k - 1 - i : Nat) : Int) + 1) - g ((k - 1 - i : Nat) : Int)) = some (g ((k : Int) - i) - g ((k : Int) - i - 1))
    rw [show ((k - 1 - i : Nat) : Int) + 1 = (k : Int) - i by omega, show ((k - 1 - i : Nat) : Int) = (k : Int) - i - 1 by omega]
  · rw [List.getElem?_eq_none (by rw [List.length_reverse, List.length_map, List.length_range]; omega), List.getElem?_eq_none (by rw [List.length_map, List.length_range]; omega)]
theorem zip_wins : ∀ (ws : List (List Int)) (ms : List Int), zipD (ws.map tI) (ms.map .int) = (ws.zip ms).map fun p => .tup [tI p.1, .int p.2]
  | [], _ => by simp [zipD]
  | _ :: _, [] => by simp [zipD]
  | a :: r, b :: t => by simp [zipD, zip_wins r t]
theorem zip_sum : ∀ (ws : List (List Int)) (ms : List Int), ((ws.zip ms).map fun p => (p.1.sum, p.2)) = (ws.map List.sum).zip ms
  | [], _ => by simp
  | _ :: _, [] => by simp
  | a :: r, b :: t => by simp [zip_sum r t]
theorem law_due_ok {row th : List Int} (hs : Cl s) (hr : row.length ≤ 200) (ht : th.length ≤ 400) (hsm : ∀ i ∈ th, MP.Sm i) : g__law_due [tI row, tI th] s = .ok (dueD row th) s := by
  let E (x2 x3 x4 x5 x6 x7 : Option Dv) : Env := [some (tI row), some (tI th), x2, x3, x4, x5, x6, x7]
  have e0 : startD 8 [tI row, tI th] = E none none none none none none := rfl
  have lr : ∀ x2 x3 x4 x5 x6 x7, mBlt lenD (mCons (mVar 0) mNil) (E x2 x3 x4 x5 x6 x7) s = .ok (.int (row.length : Int)) s := fun _ _ _ _ _ _ => blt_v (cons_v (w := tI row) rfl nil_ev) (by rw [tI, len_tup, List.length_map])
  have lt : ∀ x2 x3 x4 x5 x6 x7, mBlt lenD (mCons (mVar 1) mNil) (E x2 x3 x4 x5 x6 x7) s = .ok (.int (th.length : Int)) s := fun _ _ _ _ _ _ => blt_v (cons_v (w := tI th) rfl nil_ev) (by rw [tI, len_tup, List.length_map])
  let m : Int := (row.length : Int) + 1 - th.length
  let K : Option Dv := some (.int m)
  have a1 : mAsg (mBin subD (mBin addD (mBlt lenD (mCons (mVar 0) mNil)) (mK (.int 1))) (mBlt lenD (mCons (mVar 1) mNil))) (gN 2) (E none none none none none none) s = .nx (E K none none none none none) s :=
    asg_v (w := .int m) (bin_v (x := .int ((row.length : Int) + 1)) (y := .int (th.length : Int)) (bin_v (x := .int (row.length : Int)) (y := .int 1) (lr _ _ _ _ _ _) k_ev add_ii) (lt _ _ _ _ _ _) sub_ev)
  have u1 : mTest (mBin eqD (mVar 1) (mTup mNil)) (E K none none none none none) s = .ok (decide (th.map Dv.int = [])) s := test_v (bin_v (x := tI th) (y := .tup []) rfl rfl (eq_t_nil (pl_tI hsm) (by decide)))
  have u2 : mTest (mChain leD leD (mK (.int 1)) (mVar 2) (mK (.int 6))) (E K none none none none none) s = .ok (decide (1 ≤ m ∧ m ≤ 6)) s := by
    refine test_v ?_
    rw [chain_ev, k_ev, bind_ok]
    show (R.ok (Dv.int m) s).bind _ = _
    rw [bind_ok, le_ii, chainK_bl]
    by_cases h1 : 1 ≤ m
    · rw [decide_eq_true h1, if_pos rfl, k_ev, bind_ok, le_ii]
      by_cases h2 : m ≤ 6
      · rw [decide_eq_true h2, decide_eq_true ⟨h1, h2⟩]; rfl
      · rw [decide_eq_false h2, decide_eq_false fun z => h2 z.2]; rfl
    · rw [decide_eq_false h1, decide_eq_false fun z => h1 z.1, if_neg Bool.false_ne_true]
  have bad : ∀ S : Sto, mRet (mTup (mCons (mK (.str "number")) (mCons (mVar 1) mNil))) (E K none none none none none) S = .rt (.tup [.str "number", tI th]) S := fun S => ret_v (tup_v (cons_v k_ev (cons_v (w := tI th) rfl nil_ev)) (by show 2 ≤ 1000000; decide))
  have hcl : clean s.length (tI th) = true := cleans_int _ th
  unfold g__law_due d__law_due
  rw [den_ev, e0]
  refine fin_nx a1 ?_
  unfold dueD outT
  by_cases hg : isG row th = true
  · rw [if_pos hg]
    obtain ⟨g1, g2, g3, g4⟩ := isG_of hg
    have hat : ∀ ps, runF row th = .inr ps → ∀ i : Nat, i ≤ row.length + 1 - th.length → vI ps (i : Int) = some (gI ps (i : Int)) := fun ps h => run_at hg h
    have hzl : ((winL row (row.length + 1 - th.length)).zip th).length ≤ 400 := by rw [List.length_zip]; omega
    have hmk : m = ((row.length + 1 - th.length : Nat) : Int) := by show (row.length : Int) + 1 - th.length = _; omega
    unfold runF at hat ⊢
    generalize hkk : row.length + 1 - th.length = k at hat hzl g3 g4 hmk ⊢
    have hk1 : 1 ≤ k := by omega
    have u3 : mTest (mCall (g__law_tells) (mCons (mVar 0) (mCons (mVar 2) mNil))) (E K none none none none none) s = .ok true s := by
      refine test_v (call_v (cons_v (w := tI row) rfl (cons_v (w := .int m) rfl nil_ev)) ?_)
      rw [hmk, law_tells_ok hr (by omega), g4]
    rw [decide_eq_true ⟨by omega, by omega⟩] at u2
    rw [decide_eq_false (fun z => by
      rw [List.map_eq_nil_iff.mp z] at g1
      exact absurd g1 (by decide))] at u1
    refine fin_nx (ρ1 := E K none none none none none) (s1 := s) ((ifS_f (or_f u1 (or_f (not_vt u2) (not_vt u3)))).trans rfl) ?_
    let T : Option Dv := some (.ref s.length)
    have a3 : mAsg (mDctM [((mK (.int 0)), (mK (.int 0)))]) (gN 3) (E K none none none none none) s = .nx (E K T none none none none) (s ++ [dI [(0, 0)]]) := rfl
    have hF : F__law_due_1 (E K T none none none none) (s ++ [dI [(0, 0)]]) = .ok { ws := ((winL row k).zip th).map fun p => .tup [tI p.1, .int p.2] } (s ++ [dI [(0, 0)]]) := by
      have h1 : mCons (mCall (g__law_windows) (mCons (mVar 0) (mCons (mVar 2) mNil))) (mCons (mVar 1) mNil) (E K T none none none none) (s ++ [dI [(0, 0)]]) = .ok [.lst ((winL row k).map tI), tI th] (s ++ [dI [(0, 0)]]) :=
        cons_v (call_v (cons_v (w := tI row) rfl (cons_v (w := .int m) rfl nil_ev)) (by rw [hmk]; exact windows_ok hr (by omega))) (cons_v rfl nil_ev)
      rw [← zip_wins]
      show iZip2 _ _ _ = _
      unfold iZip2
      rw [h1]
      rfl
    have R := for_runG (g := t__law_due_1) (body := b__law_due_1) (fun i ps ρ S => ∃ x4 x5 x6 x7, ρ = E K T x4 x5 x6 x7 ∧ S = s ++ [dI ps] ∧ ps.length ≤ i + 1 ∧ UI ps) (fun (_ : Unit) c => ∃ ps, c = .rt (.tup [.str "nothing", tI th]) (s ++ [dI ps])) (fun w c ⟨ps, h⟩ => .inl ⟨_, _, h⟩) (fun ps (p : List Int × Int) => stF ps (p.1.sum, p.2)) [(0, 0)] hF ⟨_, _, _, _, rfl, rfl, Nat.le_refl _, fun p hp => by
        obtain rfl := List.mem_singleton.mp hp
        rfl⟩ fun i p hp ps ρ S ⟨x4, x5, x6, x7, hρ, hS, hl, hu⟩ => by
      subst hρ hS
      have hi : i < ((winL row k).zip th).length := (List.getElem?_eq_some_iff.mp hp).1
      let E1 := E K T (some (tI p.1)) (some (.int p.2)) x6 x7
      refine ⟨E1, rfl, ?_⟩
      have hsum : mBlt sumA (mCons (mVar 4) mNil) E1 (s ++ [dI ps]) = .ok (.int p.1.sum) (s ++ [dI ps]) := blt_v (cons_v (w := tI p.1) rfl nil_ev) sum_TI
      have hget := get_v (s := s) (ps := ps) (c := p.1.sum) (n := p.2) (f := mVar 3) (g := mBlt sumA (mCons (mVar 4) mNil)) (k := mVar 5) (ρ := E1) rfl hsum rfl
      have hput := put_v (s := s) (ps := ps) (c := p.1.sum) (n := p.2) (f := mVar 3) (g := mBlt sumA (mCons (mVar 4) mNil)) (k := mVar 5) (ρ := E1) rfl hsum rfl (by omega)
      have ht : mTest (mBin neD (mDGet2 (mVar 3) (mBlt sumA (mCons (mVar 4) mNil)) (mVar 5)) (mVar 5)) E1 (s ++ [dI ps]) = .ok (!decide ((vI ps p.1.sum).getD p.2 = p.2)) (s ++ [dI ps]) := test_v (bin_v (x := .int ((vI ps p.1.sum).getD p.2)) (y := .int p.2) hget rfl ne_ii)
      unfold b__law_due_1 stF
      cases hv : vI ps p.1.sum with
      | some v =>
        rw [hv] at ht
        dsimp only
        by_cases h : v = p.2
        · rw [if_pos h]
          rw [show (!decide ((some v).getD p.2 = p.2)) = false by rw [show (some v).getD p.2 = v from rfl, decide_eq_true h]; rfl] at ht
          rw [putD_old hu (by rw [hv, h])] at hput
          exact ⟨E1, s ++ [dI ps], seq_nx ((ifS_f ht).trans rfl) hput, _, _, _, _, rfl, rfl, by omega, hu⟩
        · rw [if_neg h]
          rw [show (!decide ((some v).getD p.2 = p.2)) = true by rw [show (some v).getD p.2 = v from rfl, decide_eq_false h]; rfl] at ht
          exact ⟨ps, seq_rt ((ifS_t ht).trans (ret_v (tup_v (cons_v k_ev (cons_v (w := tI th) rfl nil_ev)) (by show 2 ≤ 1000000; decide))))⟩
      | none =>
        rw [hv] at ht
        dsimp only
        rw [show (!decide ((none : Option Int).getD p.2 = p.2)) = false by rw [show (none : Option Int).getD p.2 = p.2 from rfl, decide_eq_true rfl]; rfl] at ht
        rw [putD_new hv] at hput
        exact ⟨E1, s ++ [dI (ps ++ [(p.1.sum, p.2)])], seq_nx ((ifS_f ht).trans rfl) hput, _, _, _, _, rfl, rfl, by rw [List.length_append, List.length_singleton]; omega, UI_new hu hv⟩
    rw [runG_map (f := fun p : List Int × Int => (p.1.sum, p.2)), zip_sum] at R
    refine fin_nx a3 ?_
    show finC _ _ = _
    cases hrun : runG stF [(0, 0)] ((onesL row k).zip th) with
    | inl u =>
      have R' := R
      rw [show (winL row k).map List.sum = onesL row k from rfl, hrun] at R'
      obtain ⟨ps, h⟩ := R'
      refine fin_rtS h (fin_sn hs (by simp) ?_)
      unfold fz
      rw [if_pos (show clean s.length (.tup [.str "nothing", tI th]) = true by show (true && (cleans s.length (th.map .int) && true)) = true; rw [cleans_int]; rfl)]
      rfl
    | inr ps =>
      have R' := R
      rw [show (winL row k).map List.sum = onesL row k from rfl, hrun] at R'
      obtain ⟨ρ', S', h, x4, x5, x6, x7, rfl, rfl, hl, hu⟩ := R'
      have hat := hat ps hrun
      dsimp only
      refine fin_nx h ?_
      have hR : cF__law_due_1 (E K T x4 x5 x6 x7) (s ++ [dI ps]) = .ok { ws := (List.range k).map fun i : Nat => .int ((i : Int) + 1) } (s ++ [dI ps]) :=
        range1k k_ev (bin_v (x := .int m) (y := .int 1) rfl k_ev (by rw [add_ii, hmk])) (by omega)
      have hc := comp_mapA (vs := [7]) (g := ct__law_due_1) (elt := ce__law_due_1) (fun i : Nat => Dv.int (gI ps ((i : Int) + 1) - gI ps (i : Int))) hR (by rw [List.length_range]; unfold lim; omega) fun i hi => ⟨E K T x4 x5 x6 (some (.int ((i : Int) + 1))), rfl, by
        have hi' := List.mem_range.mp hi
        have q1 := hat (i + 1) (by omega)
        have q2 := hat i (by omega)
        have q1 : vI ps ((i : Int) + 1) = some (gI ps ((i : Int) + 1)) := q1
        exact bin_v (bin_v (x := .ref s.length) (y := .int ((i : Int) + 1)) rfl rfl (ix_I q1)) (bin_v (x := .ref s.length) (y := .int (i : Int)) rfl (bin_v (x := .int ((i : Int) + 1)) (y := .int 1) rfl k_ev (by rw [sub_ev, Int.add_sub_cancel])) (ix_I q2)) sub_ev⟩
      let fd : List Int := (List.range k).map fun i : Nat => gI ps ((i : Int) + 1) - gI ps (i : Int)
      have e : ((List.range k).map fun i : Nat => Dv.int (gI ps ((i : Int) + 1) - gI ps (i : Int))) = fd.map .int := by rw [List.map_map]; rfl
      rw [e] at hc
      have a4 : mAsg (mComp cF__law_due_1 [7] ct__law_due_1 ci__law_due_1 ce__law_due_1) (gN 6) (E K T x4 x5 x6 x7) (s ++ [dI ps]) = .nx (E K T x4 x5 (some (lI fd)) x7) (s ++ [dI ps]) := asg_v (w := lI fd) hc
      have er : fd.reverse = ruleF ps k := rev_rule (g := gI ps)
      have a5 : mAsg (mBlt tupleD (mCons (mRev (mVar 6)) mNil)) (gN 6) (E K T x4 x5 (some (lI fd)) x7) (s ++ [dI ps]) = .nx (E K T x4 x5 (some (tI (ruleF ps k))) x7) (s ++ [dI ps]) := by
        have hv : mRev (mVar 6) (E K T x4 x5 (some (lI fd)) x7) (s ++ [dI ps]) = .ok (.lst ((ruleF ps k).map .int)) (s ++ [dI ps]) := by
          rw [← er, List.map_reverse]
          rfl
        exact asg_v (w := tI (ruleF ps k)) (blt_v (cons_v hv nil_ev) tuple_lst)
      have hne : ruleF ps k ≠ [] := fun z => by
        have := congrArg List.length z
        unfold ruleF at this
        rw [List.length_map, List.length_range] at this
        simp at this
        omega
      obtain ⟨x1, x2⟩ := maxO_in hne
      obtain ⟨n1, n2⟩ := minO_in hne
      have t1 : mTest (mBin leD (mBlt maxA (mCons (mVar 6) mNil)) (mK (.int 20))) (E K T x4 x5 (some (tI (ruleF ps k))) x7) (s ++ [dI ps]) = .ok (decide (maxO 0 (ruleF ps k) ≤ 20)) (s ++ [dI ps]) :=
        test_v (bin_v (x := .int (maxO 0 (ruleF ps k))) (y := .int 20) (blt_v (cons_v (w := tI (ruleF ps k)) rfl nil_ev) (max_tI hne)) k_ev le_ii)
      have t2 : mTest (mBin geD (mBlt minA (mCons (mVar 6) mNil)) (mUn negD (mK (.int 20)))) (E K T x4 x5 (some (tI (ruleF ps k))) x7) (s ++ [dI ps]) = .ok (decide (-20 ≤ minO 0 (ruleF ps k))) (s ++ [dI ps]) :=
        test_v (bin_v (x := .int (minO 0 (ruleF ps k))) (y := .int (-20)) (blt_v (cons_v (w := tI (ruleF ps k)) rfl nil_ev) (min_tI hne)) rfl ge_ii)
      have tt : mAnd (mTest (mBin leD (mBlt maxA (mCons (mVar 6) mNil)) (mK (.int 20)))) (mTest (mBin geD (mBlt minA (mCons (mVar 6) mNil)) (mUn negD (mK (.int 20))))) (E K T x4 x5 (some (tI (ruleF ps k))) x7) (s ++ [dI ps]) = .ok (decide (∀ i ∈ ruleF ps k, -20 ≤ i ∧ i ≤ 20)) (s ++ [dI ps]) := by
        by_cases h1 : maxO 0 (ruleF ps k) ≤ 20
        · rw [decide_eq_true h1] at t1
          refine (and_t t1 t2).trans ?_
          congr 1
          refine decide_eq_decide.mpr ⟨fun h i hi => ?_, fun h => (h _ n1).1⟩
          have := x2 i hi
          have := n2 i hi
          omega
        · rw [decide_eq_false h1] at t1
          rw [and_f t1, decide_eq_false fun z => h1 (z _ x1).2]
      refine fin_nx a4 (fin_nx a5 ?_)
      by_cases hok : ∀ i ∈ ruleF ps k, -20 ≤ i ∧ i ≤ 20
      · rw [decide_eq_true hok] at tt
        rw [if_pos hok]
        refine (congrArg (finC _) (ret_v (w := .lst [tI (ruleF ps k)]) (if_vt tt (lst_v (cons_v (w := tI (ruleF ps k)) rfl nil_ev) (by show 1 ≤ 1000000; decide))))).trans (fin_sn hs (by simp) ?_)
        unfold fz
        rw [if_pos (show clean s.length (.lst [tI (ruleF ps k)]) = true by show (cleans s.length ((ruleF ps k).map .int) && true) = true; rw [cleans_int]; rfl)]
      · rw [decide_eq_false hok] at tt
        rw [if_neg hok]
        refine (congrArg (finC _) (ret_v (w := .tup [.str "nothing", tI th]) (if_vf tt (tup_v (cons_v k_ev (cons_v (w := tI th) rfl nil_ev)) (by show 2 ≤ 1000000; decide))))).trans (fin_sn hs (by simp) ?_)
        unfold fz
        rw [if_pos (show clean s.length (.tup [.str "nothing", tI th]) = true by show (true && (cleans s.length (th.map .int) && true)) = true; rw [cleans_int]; rfl)]
        rfl
  · rw [if_neg hg]
    have fin : finC s.length (.rt (.tup [.str "number", tI th]) s) = .ok (.tup [.str (wordH (codeO 4)), tI th]) s := finC_rt
    by_cases h0 : th = []
    · rw [decide_eq_true (by rw [h0]; rfl)] at u1
      exact fin_rtS ((ifS_t (or_t u1)).trans (bad s)) fin
    · have hl : 1 ≤ th.length := by cases th with
        | nil => exact absurd rfl h0
        | cons a l => rw [List.length_cons]; omega
      rw [decide_eq_false (fun z => h0 (List.map_eq_nil_iff.mp z))] at u1
      by_cases h1 : 1 ≤ m ∧ m ≤ 6
      · rw [decide_eq_true h1] at u2
        have h1 : 1 ≤ (row.length : Int) + 1 - th.length ∧ (row.length : Int) + 1 - th.length ≤ 6 := h1
        have hmk : m = ((row.length + 1 - th.length : Nat) : Int) := by show (row.length : Int) + 1 - th.length = _; omega
        have hT : tellF row (row.length + 1 - th.length) = false := by
          cases q : tellF row (row.length + 1 - th.length) with
          | false => rfl
          | true =>
            exfalso
            apply hg
            unfold isG
            rw [q, decide_eq_true ⟨hl, by omega, by omega⟩]
            rfl
        have u3 : mTest (mCall (g__law_tells) (mCons (mVar 0) (mCons (mVar 2) mNil))) (E K none none none none none) s = .ok false s := by
          refine test_v (call_v (cons_v (w := tI row) rfl (cons_v (w := .int m) rfl nil_ev)) ?_)
          rw [hmk, law_tells_ok hr (by omega), hT]
        exact fin_rtS ((ifS_t (or_f u1 (or_f (not_vt u2) (not_vf u3)))).trans (bad s)) fin
      · rw [decide_eq_false h1] at u2
        exact fin_rtS ((ifS_t (or_f u1 (or_t (not_vf u2)))).trans (bad s)) fin
end
end MP.K47
set_option Elab.async false
set_option linter.all false
set_option maxRecDepth 100000
set_option maxHeartbeats 1000000
namespace MP.K47
open PySem PySem.Spec MP MP.PG
open PyProof.Rows hiding St
open L2 hiding St r1
theorem draw_v {pre : Sto} {cs : List Int} {l p many : Int} (hc : cs ≠ []) (hm : 0 < many) (hm2 : many ≤ 1000000) (hp : 0 ≤ p) (hp2 : p < 1000000) : ∃ d l' p', g__law_draw [.ref pre.length, .int many] (St pre [] cs l p) = .ok (.int d) (St pre [] cs l' p') ∧ 0 ≤ d ∧ d < many ∧ 0 ≤ p' ∧ p' ≤ p + 1 :=
  (draw_ok (l := l) hc hm (by omega) hp hp2).ok
section
variable {pre : Sto} {cs : List Int}
theorem comp_dr {α : Type} {n b : Nat} {f : FI} {vs : List Nat} {g : FG} {elt : FE} {ρ : Env} {l p l1 p1 : Int} (e : α → Dv) (Q : α → Prop) (hf : f ρ (St pre [] cs l p) = .ok { ws := rng 0 n } (St pre [] cs l1 p1)) (h0 : 0 ≤ p1) (hn : n ≤ 100) (hb : b ≤ 1000) (hp : p1 ≤ 500000)
    (h : ∀ (i : Nat) (l p : Int), i < n → 0 ≤ p → p ≤ p1 + 100000 → ∃ ρ1 a l' p', g (.int (i : Int)) (wipeD ρ vs) (St pre [] cs l p) = some ρ1 ∧ elt ρ1 (St pre [] cs l p) = .ok (e a) (St pre [] cs l' p') ∧ Q a ∧ 0 ≤ p' ∧ p' ≤ p + b) :
    ∃ (as : List α) (l' p' : Int), mComp f vs g mYes elt ρ (St pre [] cs l p) = .ok (.lst (as.map e)) (St pre [] cs l' p') ∧ as.length = n ∧ (∀ a ∈ as, Q a) ∧ 0 ≤ p' ∧ p' ≤ p1 + (n * b : Nat) := by
  obtain ⟨zs, s', c1, c2, as, l3, p3, rfl, rfl, r1, r2, r3, r4⟩ := comp_ix (vs := vs) (g := g) (elt := elt) (fun i acc s => ∃ (as : List α) (l3 p3 : Int), acc = as.map e ∧ s = St pre [] cs l3 p3 ∧ as.length = i ∧ (∀ a ∈ as, Q a) ∧ 0 ≤ p3 ∧ p3 ≤ p1 + (i * b : Nat))
    hf (by rw [rng_len]; unfold lim; omega) ⟨[], l1, p1, rfl, rfl, rfl, fun _ h => (nomatch h), h0, by omega⟩ fun i x acc s hx hJ => by
      obtain ⟨as, l3, p3, rfl, rfl, r1, r2, r3, r4⟩ := hJ
      obtain ⟨hi, rfl⟩ := rng_get hx
      have hi' : i < n := hi
      have hib : i * b ≤ 100 * 1000 := Nat.mul_le_mul (by omega) hb
      rw [Int.zero_add]
      obtain ⟨ρ1, a, l4, p4, g1, g2, g3, g4, g5⟩ := h i l3 p3 hi' r3 (by omega)
      refine ⟨ρ1, e a, _, g1, g2, as ++ [a], l4, p4, by rw [List.map_append]; rfl, rfl, by rw [List.length_append, r1]; rfl, fun n hn => ?_, g4, by rw [Nat.succ_mul]; omega⟩
      rcases List.mem_append.mp hn with h | h
      · exact r2 n h
      · rw [List.mem_singleton.mp h]; exact g3
  rw [rng_len] at r1 r4
  exact ⟨as, l3, p3, c1, r1, r2, r3, r4⟩
/-- so many bits, drawn -/
theorem bits_dr {k : Nat} {f : FI} {vs : List Nat} {g : FG} {elt : FE} {ρ : Env} {l p l1 p1 : Int} {n : Nat} (hc : cs ≠ []) (hf : f ρ (St pre [] cs l p) = .ok { ws := rng 0 n } (St pre [] cs l1 p1)) (h0 : 0 ≤ p1) (hn : n ≤ 100) (hp : p1 ≤ 500000)
    (h : ∀ (i : Nat) (s : Sto) (d : Int) (s2 : Sto), g__law_draw [.ref pre.length, .int 2] s = .ok (.int d) s2 → ∃ ρ1, g (.int (i : Int)) (wipeD ρ vs) s = some ρ1 ∧ elt ρ1 s = .ok (.int d) s2) :
    ∃ ns l' p', mComp f vs g mYes elt ρ (St pre [] cs l p) = .ok (lI ns) (St pre [] cs l' p') ∧ ns.length = n ∧ (∀ i ∈ ns, 0 ≤ i ∧ i ≤ 1) ∧ 0 ≤ p' ∧ p' ≤ p1 + n := by
  obtain ⟨as, l2, p2, h1, h2, h3, h4, h5⟩ := comp_dr (pre := pre) (cs := cs) (n := n) (b := 1) (vs := vs) (g := g) (elt := elt) (Dv.int) (fun i : Int => 0 ≤ i ∧ i ≤ 1) hf h0 hn (by decide) hp fun i l p hi q0 q1 => by
    obtain ⟨d, l3, p3, d1, d0, d2, p30, p31⟩ := draw_v (pre := pre) (l := l) (p := p) (many := 2) hc (by decide) (by decide) q0 (by omega)
    obtain ⟨ρ1, e1, e2⟩ := h i _ d _ d1
    exact ⟨ρ1, d, l3, p3, e1, e2, ⟨d0, by omega⟩, p30, by omega⟩
  rw [Nat.mul_one] at h5
  exact ⟨as, l2, p2, h1, h2, h3, h4, h5⟩
end
theorem rD_ne {s s1 : Sto} {f g : FE} {ρ : Env} {w : Dv} (h1 : f ρ s = .ok w s1) (h2 : g ρ s1 = .ok w s1) (r : ∃ t, reprD s1 [w] = some (.str t)) : mTest (mBin neD (mBlt reprD (mCons f mNil)) (mBlt reprD (mCons g mNil))) ρ s = .ok false s1 := by
  obtain ⟨t, ht⟩ := r
  exact test_v (bin_v (x := .str t) (y := .str t) (blt_v (cons_v h1 nil_ev) ht) (blt_v (cons_v h2 nil_ev) ht) (ne_of_eq eq_refl_ss))
theorem rD_eq {s s1 : Sto} {f g : FE} {ρ : Env} {w : Dv} (h1 : f ρ s = .ok w s1) (h2 : g ρ s1 = .ok w s1) (r : ∃ t, reprD s1 [w] = some (.str t)) : mBin eqD (mBlt reprD (mCons f mNil)) (mBlt reprD (mCons g mNil)) ρ s = .ok (.bl true) s1 := by
  obtain ⟨t, ht⟩ := r
  exact bin_v (x := .str t) (y := .str t) (blt_v (cons_v h1 nil_ev) ht) (blt_v (cons_v h2 nil_ev) ht) eq_refl_ss
theorem two_v {s s1 s2 : Sto} {f g : FE} {ρ : Env} {w v : Dv} (h1 : f ρ s = .ok w s1) (h2 : g ρ s1 = .ok v s2) : mLst (mCons f (mCons g mNil)) ρ s = .ok (.lst [w, v]) s2 := lst_v (cons_v h1 (cons_v h2 nil_ev)) (by show 2 ≤ 1000000; decide)
/-- rows of fewer signs than that that tell -/
def telL (k i : Nat) : List (List Int) := (List.range i).flatMap fun z => (allR [0, 1] z).filter fun r => tellF r k
theorem telL_head : ∀ k : Nat, 1 ≤ k → k ≤ 4 → (telL k (2 * k))[0]? = some (trow k) := fun k h1 h4 => by
  have : k = 1 ∨ k = 2 ∨ k = 3 ∨ k = 4 := by omega
  rcases this with rfl | rfl | rfl | rfl <;> decide +kernel
theorem telL_succ {k i : Nat} : telL k (i + 1) = telL k i ++ (allR [0, 1] i).filter fun r => tellF r k := by
  unfold telL
  rw [List.range_succ, List.flatMap_append, List.flatMap_singleton]
theorem telL_len {k : Nat} : ∀ i, i ≤ 8 → (telL k i).length ≤ 2 ^ i
  | 0, _ => by show 0 ≤ _; omega
  | i + 1, h => by
    rw [telL_succ, List.length_append]
    have h1 := telL_len (k := k) i (by omega)
    have h2 := List.length_filter_le (fun r => tellF r k) (allR [0, 1] i)
    rw [allR_count] at h2
    have h3 : ([0, 1] : List Int).length ^ i = 2 ^ i := rfl
    rw [h3] at h2
    rw [Nat.pow_succ]
    omega
section
variable {pre : Sto} {cs : List Int}
theorem rows_right_ok {l p : Int} (ho : ClP pre []) (hc : cs ≠ []) (hp : 0 ≤ p) (hp2 : p ≤ 300000) : ∃ l' p', g__law_rows_right [.ref pre.length] (St pre [] cs l p) = .ok (.bl true) (St pre [] cs l' p') ∧ 0 ≤ p' ∧ p' ≤ p + 100 := by
  let M : Option Dv := some (.ref pre.length)
  let E (x1 x2 x3 x4 x5 x6 : Option Dv) : Env := [M, x1, x2, x3, x4, x5, x6]
  have e0 : startD 7 [.ref pre.length] = E none none none none none none := rfl
  obtain ⟨d, l1, p1, d1, d0, d2, q10, q11⟩ := draw_v (pre := pre) (cs := cs) (l := l) (p := p) (many := 14) hc (by decide) (by decide) hp (by omega)
  obtain ⟨j, rfl⟩ := Int.eq_ofNat_of_zero_le d0
  have hF1 : cF__law_rows_right_1 (E none none none none none none) (St pre [] cs l p) = .ok { ws := rng 0 j } (St pre [] cs l1 p1) :=
    range1_ok (j := (j : Int)) (cons_v (call_v (cons_v (w := .ref pre.length) rfl (cons_v (w := .int 14) rfl nil_ev)) d1) nil_ev) (okR_s (by omega) (by omega))
  obtain ⟨ns, l2, p2, b1, b2, b3, q20, q21⟩ := bits_dr (k := 0) (pre := pre) (cs := cs) (vs := [5]) (g := ct__law_rows_right_1) (elt := ce__law_rows_right_1) hc hF1 q10 (by omega) (by omega) fun i s d s2 h => ⟨E none none none none (some (.int (i : Int))) none, rfl, call_v (cons_v (w := .ref pre.length) rfl (cons_v (w := .int 2) rfl nil_ev)) h⟩
  have hB : Bt ns := ⟨by omega, b3⟩
  let R : Option Dv := some (tI ns)
  have a1 : mAsg (mBlt tupleD (mCons (mComp cF__law_rows_right_1 [5] ct__law_rows_right_1 ci__law_rows_right_1 ce__law_rows_right_1) mNil)) (gN 1) (E none none none none none none) (St pre [] cs l p) = .nx (E R none none none none none) (St pre [] cs l2 p2) :=
    asg_v (w := tI ns) (blt_v (cons_v b1 nil_ev) tuple_lst)
  obtain ⟨ρ', s', f1, x2, hρ, hs'⟩ := for_ix (F := F__law_rows_right_1) (g := t__law_rows_right_1) (body := b__law_rows_right_1) (ρ := E R none none none none none) (s := St pre [] cs l2 p2) (s1 := St pre [] cs l2 p2) (xs := rng 1 6)
    (fun i ρ s => ∃ x2, ρ = E R x2 none none none none ∧ s = St pre [] cs l2 p2) (range2_ok (i := 1) (j := 7) (cons_v k_ev (cons_v k_ev nil_ev)) (by decide) (by decide)) ⟨_, rfl, rfl⟩ fun i x ρ s hx ⟨x2, hρ, hs⟩ => by
      subst hρ hs
      obtain ⟨hi, rfl⟩ := rng_get hx
      have hi6 : i < 6 := hi
      let k := i + 1
      have hk : (1 : Int) + (i : Int) = ((i + 1 : Nat) : Int) := by omega
      rw [hk]
      let E1 := E R (some (.int ((i + 1 : Nat) : Int))) none none none none
      refine ⟨E1, E1, St pre [] cs l2 p2, rfl, .inl ?_, _, rfl, rfl⟩
      generalize St pre [] cs l2 p2 = S
      have v1 : mCall (g_does_tell) (mCons (mVar 1) (mCons (mVar 2) mNil)) E1 S = .ok (.bl (tellF ns (i + 1))) S := call_v (cons_v (w := tI ns) rfl (cons_v (w := .int ((i + 1 : Nat) : Int)) rfl nil_ev)) (does_tell_ok hB (by omega) (by omega))
      have v2 : mCall (g__law_tells) (mCons (mVar 1) (mCons (mVar 2) mNil)) E1 S = .ok (.bl (tellF ns (i + 1))) S := call_v (cons_v (w := tI ns) rfl (cons_v (w := .int ((i + 1 : Nat) : Int)) rfl nil_ev)) (law_tells_ok hB.most (by omega))
      have v3 : mBin mulD (mLst (mCons (mCall (g__law_tells) (mCons (mVar 1) (mCons (mVar 2) mNil))) mNil)) (mK (.int 2)) E1 S = .ok (.lst [.bl (tellF ns (i + 1)), .bl (tellF ns (i + 1))]) S :=
        bin_v (x := .lst [.bl (tellF ns (i + 1))]) (y := .int ((2 : Nat) : Int)) (lst_v (cons_v v2 nil_ev) (by show 1 ≤ 1000000; decide)) rfl (mul_lst (by show 1 * 2 ≤ 1000000; decide) (by decide))
      have pl : Pl _ 1 (.lst [.bl (tellF ns (i + 1)), .bl (tellF ns (i + 1))]) _ := pl_lst (pls_cons pl_bl (pls_cons pl_bl (pls_nil (k := 0))))
      exact (ifS_f (rD_ne (two_v v1 v1) v3 ⟨_, repr_lst pl (by decide) (by decide)⟩)).trans rfl
  subst hρ hs'
  obtain ⟨d, l3, p3, d3, d0, d4, q30, q31⟩ := draw_v (pre := pre) (cs := cs) (l := l2) (p := p2) (many := 4) hc (by decide) (by decide) q20 (by omega)
  obtain ⟨a, rfl⟩ := Int.eq_ofNat_of_zero_le d0
  let k := 1 + a
  have hk1 : 1 ≤ k := Nat.le_add_right 1 a
  have hk4 : k ≤ 4 := by show 1 + a ≤ 4; omega
  let K : Option Dv := some (.int (k : Int))
  have a2 : mAsg (mBin addD (mK (.int 1)) (mCall (g__law_draw) (mCons (mVar 0) (mCons (mK (.int 4)) mNil)))) (gN 2) (E R x2 none none none none) (St pre [] cs l2 p2) = .nx (E R K none none none none) (St pre [] cs l3 p3) :=
    asg_v (w := .int (k : Int)) (bin_v (x := .int 1) (y := .int (a : Int)) k_ev (call_v (cons_v (w := .ref pre.length) rfl (cons_v (w := .int 4) rfl nil_ev)) d3) (by rw [add_ii]; show some (Dv.int ((1 : Int) + a)) = some (Dv.int ((1 + a : Nat) : Int)); rw [Int.natCast_add]; rfl))
  refine ⟨l3, p3, ?_, q30, by omega⟩
  generalize hS : St pre [] cs l3 p3 = S at a2
  let T (i : Nat) : Option Dv := some (.lst ((telL k i).map tI))
  have a3 : mAsg (mLst mNil) (gN 3) (E R K none none none none) S = .nx (E R K (T 0) none none none) S := rfl
  obtain ⟨ρ', s', f2, x4, x6, hρ, hs'⟩ := for_ix (F := F__law_rows_right_2) (g := t__law_rows_right_2) (body := b__law_rows_right_2) (ρ := E R K (T 0) none none none) (s := S) (s1 := S) (xs := rng 0 (2 * k))
    (fun i ρ s => ∃ x4 x6, ρ = E R K (T i) x4 none x6 ∧ s = S) (by
      refine range1_ok (j := ((2 * k : Nat) : Int)) (cons_v (bin_v (x := .int ((2 : Nat) : Int)) (y := .int (k : Int)) rfl rfl (mul_nn (by omega))) nil_ev) (okR_s (by omega) (by omega))) ⟨_, _, rfl, rfl⟩ fun i x ρ s hx ⟨x4, x6, hρ, hs⟩ => by
      subst hρ hs
      obtain ⟨hi, rfl⟩ := rng_get hx
      have hi8 : i < 2 * k := hi
      rw [Int.zero_add]
      let I : Option Dv := some (.int (i : Int))
      have hpi : 2 ^ i ≤ 2 ^ 8 := Nat.pow_le_pow_right (by decide) (by omega)
      have hF : cF__law_rows_right_2 (E R K (T i) I none x6) s = .ok { ws := (allR [0, 1] i).map tI } s := by
        have h : mCall (g__law_all) (mCons (mTup (mCons (mK (.int 0)) (mCons (mK (.int 1)) mNil))) (mCons (mVar 4) mNil)) (E R K (T i) I none x6) s = .ok (.lst ((allR [0, 1] i).map tI)) s :=
          call_v (cons_v (w := tI [0, 1]) rfl (cons_v (w := .int (i : Int)) rfl nil_ev)) (law_all_ok (marks := [0, 1]) (by decide) (Nat.le_trans hpi (by decide)) (by omega) _ (.inl rfl))
        show iSeq _ _ _ = _
        unfold iSeq
        rw [h]
        rfl
      have hcount : (allR [0, 1] i).length = 2 ^ i := allR_count i
      have hc : mComp cF__law_rows_right_2 [6] ct__law_rows_right_2 ci__law_rows_right_2 ce__law_rows_right_2 (E R K (T i) I none x6) s = .ok (.lst (((allR [0, 1] i).filter fun r => tellF r k).map tI)) s :=
        comp_filt (vs := [6]) (g := ct__law_rows_right_2) (tt := ci__law_rows_right_2) (elt := ce__law_rows_right_2) tI (fun r => tellF r k) hF (by rw [hcount]; unfold lim; omega) fun r hr => ⟨E R K (T i) I none (some (tI r)), rfl, test_v (call_v (cons_v (w := tI r) rfl (cons_v (w := .int (k : Int)) rfl nil_ev)) (law_tells_ok (by rw [allR_len hr]; omega) (by omega))), fun _ => rfl⟩
      have hl1 := telL_len (k := k) i (by omega)
      have hl2 := List.length_filter_le (fun r => tellF r k) (allR [0, 1] i)
      refine ⟨E R K (T i) I none x6, E R K (T (i + 1)) I none x6, s, rfl, .inl ?_, _, _, rfl, rfl⟩
      unfold b__law_rows_right_2
      refine (asg_v (w := .lst ((telL k (i + 1)).map tI)) (bin_v (x := .lst ((telL k i).map tI)) rfl hc ?_)).trans rfl
      rw [add_lst (by rw [List.length_map, List.length_map]; omega), telL_succ, List.map_append]
  rw [rng_len] at hρ
  subst hρ
  have hh := telL_head k hk1 hk4
  let E2 := E R K (T (2 * k)) x4 none x6
  have t1 : mCall (g_telling_row) (mCons (mVar 2) mNil) E2 S = .ok (tI (trow k)) S := call_v (cons_v (w := .int (k : Int)) rfl nil_ev) (telling_ok hk1 (by omega))
  have t2 : mBin ixA (mVar 3) (mK (.int 0)) E2 S = .ok (tI (trow k)) S := bin_v (x := .lst ((telL k (2 * k)).map tI)) (y := .int ((0 : Nat) : Int)) rfl rfl (ixA_list rfl (MP.PG.atI_nat (by rw [List.getElem?_map, hh]; rfl)))
  have trl : (trow k).length ≤ 12 := by unfold trow; rw [List.length_append, List.length_replicate, List.length_replicate]; omega
  have p1 : Pl 13 1 (tI (trow k)) _ := (pl_tI (ns := trow k) fun i hi => by
    unfold trow at hi
    rcases List.mem_append.mp hi with h | h
    · rw [(List.mem_replicate.mp h).2]; exact smN (by decide)
    · rw [(List.mem_replicate.mp h).2]; exact smN (by decide)).mono (by omega) (Nat.le_refl _)
  have pl : Pl _ 2 (.lst [tI (trow k), tI (trow k)]) _ := pl_lst (pls_cons p1 (pls_cons p1 (pls_nil (k := 1))))
  have fin := rD_eq (two_v t1 t1) (two_v t2 t2) ⟨_, repr_lst (s := S) pl (by decide) (by decide)⟩
  unfold g__law_rows_right d__law_rows_right
  rw [den_ev, e0]
  subst hs'
  refine fin_nx a1 (fin_nx f1 (fin_nx a2 (fin_nx a3 (fin_nx f2 ?_))))
  rw [ret_v fin, ← hS]
  exact fin_St
end
end MP.K47
set_option Elab.async false
set_option linter.all false
set_option maxRecDepth 100000
set_option maxHeartbeats 1000000
namespace MP.K47
open PySem PySem.Spec MP MP.PG
open PyProof.Rows hiding St
open L2 hiding St r1
theorem toI_sum : ∀ bs : List Nat, (toI bs).sum = (bs.sum : Int)
  | [] => rfl
  | b :: bs => by
    have := toI_sum bs
    simp only [toI, List.map_cons, List.sum_cons] at this ⊢
    rw [this]
    omega
theorem bits_nat : ∀ w : List Int, (∀ i ∈ w, 0 ≤ i ∧ i ≤ 1) → ∃ bs : List Nat, Bits01 bs ∧ w = toI bs
  | [], _ => ⟨[], fun _ h => (nomatch h), rfl⟩
  | i :: w, h => by
    obtain ⟨bs, h1, h2⟩ := bits_nat w fun j hj => h j (List.mem_cons_of_mem _ hj)
    have hi := h i List.mem_cons_self
    refine ⟨i.toNat :: bs, fun b hb => ?_, ?_⟩
    · rcases List.mem_cons.mp hb with rfl | hb
      · omega
      · exact h1 b hb
    · show i :: w = ((i.toNat : Nat) : Int) :: toI bs
      rw [← h2, Int.toNat_of_nonneg hi.1]
theorem dot_w {rs w : List Int} (hb : ∀ i ∈ w, 0 ≤ i ∧ i ≤ 1) (hl : w.length = rs.length) : ∃ c : Nat, w.sum = (c : Int) ∧ c ≤ rs.length ∧ dot rs (srt w) = idb rs c := by
  obtain ⟨bs, h1, rfl⟩ := bits_nat w hb
  have hl' : bs.length = rs.length := by rw [toI, List.length_map] at hl; exact hl
  refine ⟨bs.sum, toI_sum bs, ?_, ?_⟩
  · rw [← hl']; exact (srt_bits h1).2
  · rw [dot_bits h1 hl', pop_num h1]
def numsF (row rs : List Int) : List Int := (winL row rs.length).map fun w => dot rs (srt w)
theorem win_ok {row : List Int} {k : Nat} {w : List Int} (h : w ∈ winL row k) (hk : k ≤ row.length) : w.length = k ∧ ∀ i ∈ w, i ∈ row := by
  unfold winL at h
  obtain ⟨i, hi, rfl⟩ := List.mem_map.mp h
  have := List.mem_range.mp hi
  exact ⟨by rw [List.length_take, List.length_drop]; omega, fun j hj => List.mem_of_mem_drop (List.mem_of_mem_take hj)⟩
def FixI (rs : List Int) (ps : List (Int × Int)) : Prop := ∀ c v, vI ps c = some v → ∃ k : Nat, c = (k : Int) ∧ k ≤ rs.length ∧ v = idb rs k
theorem run_fix {rs : List Int} : ∀ (l ps0 : List (Int × Int)), FixI rs ps0 → (∀ p ∈ l, ∃ k : Nat, p.1 = (k : Int) ∧ k ≤ rs.length ∧ p.2 = idb rs k) → ∃ ps, runG stF ps0 l = .inr ps ∧ FixI rs ps
  | [], ps0, h0, _ => ⟨ps0, rfl, h0⟩
  | p :: l, ps0, h0, h => by
    obtain ⟨k, k1, k2, k3⟩ := h p List.mem_cons_self
    have hl : ∀ q ∈ l, ∃ k : Nat, q.1 = (k : Int) ∧ k ≤ rs.length ∧ q.2 = idb rs k := fun q hq => h q (List.mem_cons_of_mem _ hq)
    unfold runG
    cases hv : vI ps0 p.1 with
    | some v =>
      obtain ⟨k', e1, e2, e3⟩ := h0 _ _ hv
      have hk : k' = k := by omega
      have e : stF ps0 p = .inr ps0 := by
        unfold stF
        rw [hv]
        exact if_pos (by rw [e3, k3, hk])
      rw [e]
      exact run_fix l ps0 h0 hl
    | none =>
      have e : stF ps0 p = .inr (ps0 ++ [p]) := by
        unfold stF
        rw [hv]
      rw [e]
      refine run_fix l _ (fun c v hc => ?_) hl
      rw [vI_app] at hc
      cases q : vI ps0 c with
      | some v' =>
        rw [q] at hc
        cases hc
        exact h0 c v q
      | none =>
        rw [q] at hc
        dsimp only at hc
        split at hc
        · rename_i z
          cases hc
          exact ⟨k, by rw [← z, k1], k2, k3⟩
        · cases hc
theorem trow_len {n : Nat} (h : 1 ≤ n) : (trow n).length = 2 * n - 1 := by unfold trow; rw [List.length_append, List.length_replicate, List.length_replicate]; omega
theorem sum_rep : ∀ n : Nat, (List.replicate n (1 : Int)).sum = n
  | 0 => rfl
  | n + 1 => by rw [List.replicate_succ, List.sum_cons, sum_rep n]; omega
theorem sum_rep0 : ∀ n : Nat, (List.replicate n (0 : Int)).sum = 0
  | 0 => rfl
  | n + 1 => by rw [List.replicate_succ, List.sum_cons, sum_rep0 n]; rfl
theorem tell_row {p2 p1 : List Int} {n : Nat} (hn : 1 ≤ n) : tellF (p2 ++ (trow n ++ p1)) n = true := by
  unfold tellF
  refine List.all_eq_true.mpr fun i hi => ?_
  have hi := List.mem_range.mp hi
  have hm : ((i : Int) + 1) ∈ onesL (p2 ++ (trow n ++ p1)) n := by
    refine List.mem_map.mpr ⟨((p2 ++ (trow n ++ p1)).drop (p2.length + i)).take n, List.mem_map.mpr ⟨p2.length + i, List.mem_range.mpr ?_, rfl⟩, ?_⟩
    · rw [List.length_append, List.length_append, trow_len hn]; omega
    · have e : ((p2 ++ (trow n ++ p1)).drop (p2.length + i)).take n = List.replicate (n - 1 - i) 0 ++ List.replicate (i + 1) 1 := by
        rw [← List.drop_drop, List.drop_left' rfl, List.drop_append_of_le_length (by rw [trow_len hn]; omega)]
        unfold trow
        rw [List.drop_append_of_le_length (by rw [List.length_replicate]; omega), List.drop_replicate, List.append_assoc, List.take_append, List.length_replicate, List.take_of_length_le (by rw [List.length_replicate]; omega), List.take_append_of_le_length (by rw [List.length_replicate]; omega), List.take_replicate]
        congr 2
        omega
      rw [e, List.sum_append, sum_rep, sum_rep0]
      omega
  simpa using hm
theorem zip_map2 {α β γ : Type} {f : α → β} {g : α → γ} : ∀ l : List α, (l.map f).zip (l.map g) = l.map fun a => (f a, g a)
  | [] => rfl
  | a :: l => by rw [List.map_cons, List.map_cons, List.zip_cons_cons, zip_map2 l]; rfl
theorem told_back {row rs : List Int} (hr : Rule rs) (hb : ∀ i ∈ row, 0 ≤ i ∧ i ≤ 1) (hl : 2 * rs.length - 1 ≤ row.length) (ht : tellF row rs.length = true) : outT row (numsF row rs) = .inr rs := by
  have h1 := hr.one
  have h6 := hr.six
  have hnl : (numsF row rs).length = row.length + 1 - rs.length := by unfold numsF winL; rw [List.length_map, List.length_map, List.length_range]
  have hk : row.length + 1 - (numsF row rs).length = rs.length := by rw [hnl]; omega
  have hg : isG row (numsF row rs) = true := by
    unfold isG
    rw [hk, ht, decide_eq_true ⟨by omega, by omega, by omega⟩]
    rfl
  have hz : (onesL row rs.length).zip (numsF row rs) = (winL row rs.length).map fun w => (w.sum, dot rs (srt w)) := zip_map2 _
  obtain ⟨ps, hrun, hfix⟩ := run_fix (rs := rs) ((onesL row rs.length).zip (numsF row rs)) [(0, 0)] (fun c v hc => by
    rw [vI_cons] at hc
    split at hc
    · rename_i z
      cases hc
      exact ⟨0, by rw [← z]; rfl, by omega, rfl⟩
    · cases hc) fun p hp => by
    rw [hz] at hp
    obtain ⟨w, hw, rfl⟩ := List.mem_map.mp hp
    obtain ⟨w1, w2⟩ := win_ok hw (by omega)
    obtain ⟨c, c1, c2, c3⟩ := dot_w (rs := rs) (fun i hi => hb i (w2 i hi)) w1
    exact ⟨c, c1, c2, c3⟩
  have hrun' : runF row (numsF row rs) = .inr ps := by unfold runF; rw [hk]; exact hrun
  have hat := run_at hg hrun'
  rw [hk] at hat
  have hgi : ∀ i : Nat, i ≤ rs.length → gI ps (i : Int) = idb rs i := fun i hi => by
    obtain ⟨k, k1, k2, k3⟩ := hfix _ _ (hat i hi)
    have : k = i := by omega
    rw [k3, this]
  have hrule : ruleF ps rs.length = rs := by
    refine List.ext_getElem? fun i => ?_
    unfold ruleF
    rw [List.getElem?_map]
    by_cases hi : i < rs.length
    · rw [List.getElem?_range hi]
      show some (gI ps ((rs.length : Int) - i) - gI ps ((rs.length : Int) - i - 1)) = rs[i]?
      obtain ⟨j, hj⟩ : ∃ j, rs.length = i + j + 1 := ⟨rs.length - i - 1, by omega⟩
      have a1 := hgi (j + 1) (by omega)
      have a2 := hgi j (by omega)
      have e := idb_succ (rs := rs) (k := j) (w := rs[i]) (by
        rw [List.getElem?_reverse (by omega), show rs.length - 1 - j = i by omega, List.getElem?_eq_getElem hi])
      rw [show (rs.length : Int) - i = ((j + 1 : Nat) : Int) by omega, show ((j + 1 : Nat) : Int) - 1 = (j : Int) by omega, a1, a2, e, List.getElem?_eq_getElem hi]
      exact congrArg some (by omega)
    · rw [List.getElem?_eq_none (by rw [List.length_range]; omega), List.getElem?_eq_none (by omega)]
      rfl
  unfold outT
  rw [if_pos hg, hrun', hk]
  dsimp only
  rw [hrule, if_pos hr.ok]
theorem pl_w {c : Nat} : Pl 1 0 (.str (wordH c)) (.str (wordH c)) := by
  unfold wordH
  by_cases h : c = 8
  · rw [if_pos h]; exact ⟨rfl, by decide +kernel, by decide +kernel, by decide +kernel, by decide +kernel, by decide +kernel⟩
  · rw [if_neg h]; exact ⟨rfl, by decide +kernel, by decide +kernel, by decide +kernel, by decide +kernel, by decide +kernel⟩
theorem due_pl {row th : List Int} (hl : th.length ≤ 100) (hs : ∀ i ∈ th, MP.Sm i) : ∃ d, Pl 120 2 (dueD row th) d := by
  unfold dueD
  cases ho : outT row th with
  | inl c => exact ⟨_, (pl_tup (pls_cons (pl_w.mono (Nat.le_refl _) (by decide : 0 ≤ 1)) (pls_cons (pl_tI hs) (pls_nil (k := 1))))).mono (by omega) (Nat.le_refl _)⟩
  | inr rs =>
    have : rs.length ≤ 6 ∧ ∀ i ∈ rs, -20 ≤ i ∧ i ≤ 20 := by
      unfold outT at ho
      split at ho
      · rename_i hg
        have g3 := (isG_of hg).2.2.1
        split at ho
        · cases ho
        · split at ho
          · rename_i h
            cases ho
            exact ⟨by unfold ruleF; rw [List.length_map, List.length_range]; exact g3, h⟩
          · cases ho
      · cases ho
    exact ⟨_, (pl_lst (pls_cons (pl_tI (ns := rs) fun i hi => smN (by have := this.2 i hi; omega)) (pls_nil (k := 1)))).mono (by omega) (Nat.le_refl _)⟩
end MP.K47
set_option Elab.async false
set_option linter.all false
set_option maxRecDepth 100000
set_option maxHeartbeats 1000000
namespace MP.K47
open PySem PySem.Spec MP MP.PG
open PyProof.Rows hiding St
open L2 hiding St r1
section
variable {pre : Sto} {cs : List Int}
/-- a drawn rule -/
theorem tune_ok {l p : Int} {m : Nat} (hc : cs ≠ []) (hp : 0 ≤ p) (hp2 : p ≤ 450000) (hm : 1 ≤ m) (hm6 : m ≤ 6) : ∃ rs l' p', g__law_tune [.ref pre.length, .int (m : Int)] (St pre [] cs l p) = .ok (tI rs) (St pre [] cs l' p') ∧ 1 ≤ rs.length ∧ rs.length ≤ m ∧ (∀ r ∈ rs, -3 ≤ r ∧ r ≤ 5) ∧ 0 ≤ p' ∧ p' ≤ p + 10 := by
  let E (x2 : Option Dv) : Env := [some (.ref pre.length), some (.int (m : Int)), x2]
  have e0 : startD 3 [.ref pre.length, .int (m : Int)] = E none := rfl
  obtain ⟨d, l1, p1, d1, d0, d3, p10, p11⟩ := draw_v (pre := pre) (l := l) (many := (m : Int)) hc (by omega) (by omega) hp (by omega)
  obtain ⟨j, rfl⟩ := Int.eq_ofNat_of_zero_le d0
  have hF : cF__law_tune_1 (E none) (St pre [] cs l p) = .ok { ws := rng 0 (1 + j) } (St pre [] cs l1 p1) := by
    refine range1_ok (j := ((1 + j : Nat) : Int)) ?_ (okR_s (by omega) (by omega))
    refine cons_v (bin_v (x := .int 1) (y := .int (j : Int)) k_ev (call_v (cons_v (w := .ref pre.length) rfl (cons_v (w := .int (m : Int)) rfl nil_ev)) d1) ?_) nil_ev
    rw [add_ii, Int.natCast_add]
    rfl
  obtain ⟨ns, l3, p3, c1, r1, r2, r3, r4⟩ := comp_dr (pre := pre) (cs := cs) (n := 1 + j) (b := 1) (vs := [2]) (g := ct__law_tune_1) (elt := ce__law_tune_1) Dv.int (fun n : Int => -3 ≤ n ∧ n ≤ 5) hF p10 (by omega) (by decide) (by omega) fun i l p hi q0 q1 => by
    obtain ⟨a, l5, p5, d5, a0, a1, p50, p51⟩ := draw_v (pre := pre) (l := l) (p := p) (many := 9) hc (by decide) (by decide) q0 (by omega)
    exact ⟨E (some (.int (i : Int))), a - 3, l5, p5, rfl, bin_v (x := .int a) (y := .int 3) (call_v (cons_v (w := .ref pre.length) rfl (cons_v (w := .int 9) rfl nil_ev)) d5) k_ev sub_ev, by omega, p50, by omega⟩
  refine ⟨ns, l3, p3, ?_, by omega, by omega, r2, r3, by omega⟩
  unfold g__law_tune d__law_tune
  rw [den_ev, e0]
  refine (congrArg (finC _) (ret_v (blt_v (cons_v c1 nil_ev) tuple_lst))).trans ?_
  exact fin_St
theorem numsF_len {row rs : List Int} : (numsF row rs).length = row.length + 1 - rs.length := by unfold numsF winL; rw [List.length_map, List.length_map, List.length_range]
theorem numsF_abs {row rs : List Int} (hr : Rule rs) (hb : ∀ i ∈ row, 0 ≤ i ∧ i ≤ 1) (hl : rs.length ≤ row.length) : ∀ i ∈ numsF row rs, i.natAbs ≤ 120 := fun i hi => by
  unfold numsF at hi
  obtain ⟨w, hw, rfl⟩ := List.mem_map.mp hi
  obtain ⟨w1, w2⟩ := win_ok hw hl
  obtain ⟨bs, h1, rfl⟩ := bits_nat w fun i hi => hb i (w2 i hi)
  have hs := srt_bits h1
  have := dot_abs (M := 1) (rs := rs) (ls := srt (toI bs)) hr.ok fun n hn => by
    rw [hs.1] at hn
    rcases List.mem_append.mp hn with h | h
    · rw [(List.mem_replicate.mp h).2]; decide
    · rw [(List.mem_replicate.mp h).2]; decide
  have h6 := hr.six
  omega
def oneF (ns : List Int) (at' : Nat) (more : Int) : List Int := ns.take at' ++ [ns.getD at' 0 + more] ++ ns.drop (at' + 1)
def thsF (ns : List Int) (at' : Nat) : List (List Int) := [oneF ns at' 1, oneF ns at' (-1), oneF ns at' 100, ns.drop 1, ns ++ [0], ns.reverse, [], ns.take 1]
theorem thsF_ok {ns : List Int} {at' : Nat} (hl : ns.length ≤ 50) (hn : ∀ i ∈ ns, i.natAbs ≤ 120) : ∀ th ∈ thsF ns at', th.length ≤ 60 ∧ ∀ i ∈ th, MP.Sm i := by
  have hg : (ns.getD at' 0).natAbs ≤ 120 := by
    rw [List.getD_eq_getElem?_getD]
    cases q : ns[at']? with
    | none => decide
    | some v => exact hn v (List.mem_of_getElem? q)
  have one : ∀ more : Int, more.natAbs ≤ 100 → (oneF ns at' more).length ≤ 60 ∧ ∀ i ∈ oneF ns at' more, MP.Sm i := fun more hm => by
    unfold oneF
    refine ⟨by rw [List.length_append, List.length_append, List.length_take, List.length_drop, List.length_singleton]; omega, fun i hi => smN ?_⟩
    rcases List.mem_append.mp hi with h | h
    · rcases List.mem_append.mp h with h | h
      · have := hn i (List.mem_of_mem_take h); omega
      · rw [List.mem_singleton.mp h]; omega
    · have := hn i (List.mem_of_mem_drop h); omega
  intro th h
  unfold thsF at h
  simp only [List.mem_cons, List.mem_nil_iff, or_false] at h
  rcases h with rfl | rfl | rfl | rfl | rfl | rfl | rfl | rfl
  · exact one 1 (by decide)
  · exact one (-1) (by decide)
  · exact one 100 (by decide)
  · exact ⟨by rw [List.length_drop]; omega, fun i hi => smN (by have := hn i (List.mem_of_mem_drop hi); omega)⟩
  · refine ⟨by rw [List.length_append, List.length_singleton]; omega, fun i hi => smN ?_⟩
    rcases List.mem_append.mp hi with h | h
    · have := hn i h; omega
    · rw [List.mem_singleton.mp h]; decide
  · exact ⟨by rw [List.length_reverse]; omega, fun i hi => smN (by have := hn i (List.mem_reverse.mp hi); omega)⟩
  · exact ⟨by decide, fun _ h => nomatch h⟩
  · exact ⟨by rw [List.length_take]; omega, fun i hi => smN (by have := hn i (List.mem_of_mem_take hi); omega)⟩
/-- the law's look at one thing -/
theorem look_ok {S : Sto} {row th : List Int} {x0 x1 x3 x4 x5 x7 x8 x9 x10 x11 x12 : Option Dv} (hs : Cl S) (ht : S[0]? = some (.tab 0 lq__law_back_right)) (hr : Bt row) (hl : th.length ≤ 60) (hr20 : row.length ≤ 60) (hsm : ∀ i ∈ th, MP.Sm i) :
    ∃ y7 y8 y9, b__law_back_right_1 [x0, x1, some (tI row), x3, x4, x5, some (tI th), x7, x8, x9, x10, x11, x12] S = .nx [x0, x1, some (tI row), x3, x4, x5, some (tI th), y7, y8, y9, x10, x11, x12] S := by
  let E (x7 x8 x9 : Option Dv) : Env := [x0, x1, some (tI row), x3, x4, x5, some (tI th), x7, x8, x9, x10, x11, x12]
  let D := dueD row th
  obtain ⟨dd, hp⟩ := due_pl (row := row) (th := th) (by omega) hsm
  have p1 := pl_tI (ns := row) fun i hi => smN (by have := hr.ok i hi; omega)
  have p2 := pl_tI (ns := th) hsm
  have pk : Pl 130 2 (.lst [tI row, tI th]) _ := (pl_lst (pls_cons p1 (pls_cons p2 (pls_nil (k := 1))))).mono (by omega) (Nat.le_refl _)
  obtain ⟨t, hk⟩ : ∃ t, ∀ s, reprD s [.lst [tI row, tI th]] = some (.str t) := ⟨_, fun s => repr_lst pk (by decide) (by decide)⟩
  have pD : Pl _ 3 (.lst [D, D]) _ := pl_lst (pls_cons hp (pls_cons hp (pls_nil (k := 2))))
  have kv : ∀ x7 x8 x9, mBlt reprD (mCons (mLst (mCons (mVar 2) (mCons (mVar 6) mNil))) mNil) (E x7 x8 x9) S = .ok (.str t) S := fun x7 x8 x9 => blt_v (cons_v (two_v (w := tI row) (v := tI th) rfl rfl) nil_ev) (hk S)
  have v1 : mCall (g__law_due) (mCons (mVar 2) (mCons (mVar 6) mNil)) (E x7 x8 x9) S = .ok D S := call_v (cons_v (w := tI row) rfl (cons_v (w := tI th) rfl nil_ev)) (law_due_ok hs hr.most (by omega) hsm)
  have a1 : mPar 7 8 (mCons (mCall (g__law_due) (mCons (mVar 2) (mCons (mVar 6) mNil))) (mCons (mBlt reprD (mCons (mLst (mCons (mVar 2) (mCons (mVar 6) mNil))) mNil)) mNil)) (E x7 x8 x9) S = .nx (E (some D) (some (.str t)) x9) S := by
    rw [par_ev, v1, then_ok, kv, then_ok]
    rfl
  have hc : ∀ x7 x8 x9, mCall (g_rule_told) (mCons (mVar 2) (mCons (mVar 6) mNil)) (E x7 x8 x9) S = g_rule_told [tI row, tI th] S := fun _ _ _ => call_v (cons_v (w := tI row) rfl (cons_v (w := tI th) rfl nil_ev)) rfl
  have l1 : mLam 0 0 lq__law_back_right l__law_back_right_1 h__law_heard mNil (E (some D) (some (.str t)) x9) S = .ok D S := by
    rw [lam_ev ht, nil_ev, bind_ok]
    exact heard_ok hs hr (by omega) (hc _ _ _)
  have l2 : mLam 0 0 lq__law_back_right l__law_back_right_2 h__law_heard mNil (E (some D) (some (.str t)) x9) S = .ok D S := by
    rw [lam_ev ht, nil_ev, bind_ok]
    exact heard_ok hs hr (by omega) (hc _ _ _)
  have a2 : mAsg (mLst (mCons (mLam 0 0 lq__law_back_right l__law_back_right_1 h__law_heard mNil) (mCons (mLam 0 0 lq__law_back_right l__law_back_right_2 h__law_heard mNil) mNil))) (gN 9) (E (some D) (some (.str t)) x9) S = .nx (E (some D) (some (.str t)) (some (.lst [D, D]))) S := asg_v (two_v l1 l2)
  let E2 := E (some D) (some (.str t)) (some (.lst [D, D]))
  have u1 : mTest (mBin neD (mBlt reprD (mCons (mVar 9) mNil)) (mBlt reprD (mCons (mLst (mCons (mVar 7) (mCons (mVar 7) mNil))) mNil))) E2 S = .ok false S := rD_ne (w := .lst [D, D]) rfl (two_v (w := D) (v := D) rfl rfl) ⟨_, repr_lst pD (by decide) (by decide)⟩
  have u2 : mTest (mBin neD (mBlt reprD (mCons (mLst (mCons (mVar 2) (mCons (mVar 6) mNil))) mNil)) (mVar 8)) E2 S = .ok false S := test_v (bin_v (x := .str t) (y := .str t) (kv _ _ _) rfl ne_refl_ss)
  refine ⟨some D, some (.str t), some (.lst [D, D]), ?_⟩
  unfold b__law_back_right_1
  refine seq_nx a1 (seq_nx a2 ?_)
  exact (ifS_f (or_f u1 u2)).trans rfl
theorem sl_to {s : Sto} {f g : FE} {ρ : Env} {ns : List Int} {k : Nat} (hf : f ρ s = .ok (tI ns) s) (hg : g ρ s = .ok (.int (k : Int)) s) : mSl slA f mNoPart (mPart g) ρ s = .ok (tI (ns.take k)) s := by
  refine sl_v (x := tI ns) (a := none) (b := some (k : Int)) hf rfl (part_v hg) ?_
  show some (Dv.tup (cutD (ns.map .int) _ _)) = _
  rw [cut_to, ← List.map_take]
theorem sl_fr {s : Sto} {f g : FE} {ρ : Env} {ns : List Int} {k : Nat} (hf : f ρ s = .ok (tI ns) s) (hg : g ρ s = .ok (.int (k : Int)) s) : mSl slA f (mPart g) mNoPart ρ s = .ok (tI (ns.drop k)) s := by
  refine sl_v (x := tI ns) (a := some (k : Int)) (b := none) hf (part_v hg) rfl ?_
  show some (Dv.tup (cutD (ns.map .int) _ _)) = _
  rw [cut_from, ← List.map_drop]
theorem add_tI {s : Sto} {f g : FE} {ρ : Env} {ns ms : List Int} (hf : f ρ s = .ok (tI ns) s) (hg : g ρ s = .ok (tI ms) s) (h : ns.length + ms.length ≤ 1000) : mBin addD f g ρ s = .ok (tI (ns ++ ms)) s := by
  refine bin_v hf hg ((add_tup (by rw [List.length_map, List.length_map]; omega)).trans ?_)
  rw [← List.map_append]
theorem back_right_ok {l p : Int} (ho : ClP pre []) (htb : pre[0]? = some (.tab 0 lq__law_back_right)) (hc : cs ≠ []) (hp : 0 ≤ p) (hp2 : p ≤ 300000) : ∃ l' p', g__law_back_right [.ref pre.length] (St pre [] cs l p) = .ok (.bl true) (St pre [] cs l' p') ∧ 0 ≤ p' ∧ p' ≤ p + 200 := by
  let M : Option Dv := some (.ref pre.length)
  let E (x1 x2 x3 x4 x5 x6 x7 x8 x9 x10 x11 x12 : Option Dv) : Env := [M, x1, x2, x3, x4, x5, x6, x7, x8, x9, x10, x11, x12]
  have e0 : startD 13 [.ref pre.length] = E none none none none none none none none none none none none := rfl
  have dv : ∀ {x1 x2 x3 x4 x5 x6 x7 x8 x9 x10 x11 x12 : Option Dv} {S S2 : Sto} {many : Int} {w : Dv}, g__law_draw [.ref pre.length, .int many] S = .ok w S2 → mCall (g__law_draw) (mCons (mVar 0) (mCons (mK (.int many)) mNil)) (E x1 x2 x3 x4 x5 x6 x7 x8 x9 x10 x11 x12) S = .ok w S2 := fun h => call_v (cons_v (w := .ref pre.length) rfl (cons_v k_ev nil_ev)) h
  obtain ⟨r0, l1, p1, t1, r01, r02, r03, q10, q11⟩ := tune_ok (pre := pre) (cs := cs) (l := l) (p := p) (m := 6) hc hp (by omega) (by decide) (by decide)
  have a1 : mAsg (mCall (g__law_tune) (mCons (mVar 0) (mCons (mK (.int 6)) mNil))) (gN 1) (E none none none none none none none none none none none none) (St pre [] cs l p) = .nx (E (some (tI r0)) none none none none none none none none none none none) (St pre [] cs l1 p1) := asg_v (w := tI r0) (call_v (cons_v (w := .ref pre.length) rfl (cons_v (w := .int ((6 : Nat) : Int)) rfl nil_ev)) t1)
  obtain ⟨d, l2, p2, d1, d10, d11, q20, q21⟩ := draw_v (pre := pre) (cs := cs) (l := l1) (p := p1) (many := 2) hc (by decide) (by decide) q10 (by omega)
  have u1 : mTest (mBin eqD (mCall (g__law_draw) (mCons (mVar 0) (mCons (mK (.int 2)) mNil))) (mK (.int 0))) (E (some (tI r0)) none none none none none none none none none none none) (St pre [] cs l1 p1) = .ok (decide (d = 0)) (St pre [] cs l2 p2) := test_v (bin_v (x := .int d) (y := .int 0) (dv d1) k_ev eq_ii)
  have a2 : ∃ rs l3 p3, mIfS (mTest (mBin eqD (mCall (g__law_draw) (mCons (mVar 0) (mCons (mK (.int 2)) mNil))) (mK (.int 0)))) (mAsg (mBlt tupleD (mCons (mComp cF__law_back_right_1 [10] ct__law_back_right_1 ci__law_back_right_1 ce__law_back_right_1) mNil)) (gN 1)) mNext (E (some (tI r0)) none none none none none none none none none none none) (St pre [] cs l1 p1) = .nx (E (some (tI rs)) none none none none none none none none none none none) (St pre [] cs l3 p3) ∧ Rule rs ∧ 0 ≤ p3 ∧ p3 ≤ p2 + 10 := by
    by_cases h0 : d = 0
    · rw [decide_eq_true h0] at u1
      obtain ⟨d, l3, p3, d3, d30, d31, q30, q31⟩ := draw_v (pre := pre) (cs := cs) (l := l2) (p := p2) (many := 6) hc (by decide) (by decide) q20 (by omega)
      obtain ⟨j, rfl⟩ := Int.eq_ofNat_of_zero_le d30
      have hF : cF__law_back_right_1 (E (some (tI r0)) none none none none none none none none none none none) (St pre [] cs l2 p2) = .ok { ws := rng 0 (1 + j) } (St pre [] cs l3 p3) := by
        refine range1_ok (j := ((1 + j : Nat) : Int)) (cons_v (bin_v (x := .int 1) (y := .int (j : Int)) k_ev (dv d3) ?_) nil_ev) (okR_s (by omega) (by omega))
        rw [add_ii, Int.natCast_add]
        rfl
      obtain ⟨ns, l4, p4, c1, r1, r2, r3, r4⟩ := comp_dr (pre := pre) (cs := cs) (n := 1 + j) (b := 1) (vs := [10]) (g := ct__law_back_right_1) (elt := ce__law_back_right_1) Dv.int (fun n : Int => -20 ≤ n ∧ n ≤ 20) hF q30 (by omega) (by decide) (by omega) fun i l p hi q0 q1 => by
        obtain ⟨a, l5, p5, d5, a0, a1, p50, p51⟩ := draw_v (pre := pre) (l := l) (p := p) (many := 41) hc (by decide) (by decide) q0 (by omega)
        exact ⟨E (some (tI r0)) none none none none none none none none (some (.int (i : Int))) none none, a - 20, l5, p5, rfl, bin_v (x := .int a) (y := .int 20) (dv d5) k_ev sub_ev, by omega, p50, by omega⟩
      exact ⟨ns, l4, p4, (ifS_t u1).trans (asg_v (w := tI ns) (blt_v (cons_v c1 nil_ev) tuple_lst)), ⟨by omega, by omega, r2⟩, r3, by omega⟩
    · rw [decide_eq_false h0] at u1
      exact ⟨r0, l2, p2, (ifS_f u1).trans rfl, ⟨r01, r02, fun r hr => by have := r03 r hr; omega⟩, q20, by omega⟩
  obtain ⟨rs, l3, p3, a2, hR, q30, q31⟩ := a2
  have h1 := hR.one
  have h6 := hR.six
  let T : Option Dv := some (tI rs)
  -- the row
  obtain ⟨d, l4, p4, d4, d40, d41, q40, q41⟩ := draw_v (pre := pre) (cs := cs) (l := l3) (p := p3) (many := 4) hc (by decide) (by decide) q30 (by omega)
  obtain ⟨j1, rfl⟩ := Int.eq_ofNat_of_zero_le d40
  obtain ⟨b1, l5, p5, c5, b11, b12, q50, q51⟩ := bits_dr (k := 0) (pre := pre) (cs := cs) (vs := [10]) (f := cF__law_back_right_2) (g := ct__law_back_right_2) (elt := ce__law_back_right_2) (ρ := E T none none none none none none none none none none none) (l := l3) (p := p3) (n := j1) hc (range1_ok (j := (j1 : Int)) (cons_v (dv d4) nil_ev) (okR_s (by omega) (by omega))) q40 (by omega) (by omega) fun i s d s2 h => ⟨E T none none none none none none none none (some (.int (i : Int))) none none, rfl, dv h⟩
  have tr : (trow rs.length).length ≤ 11 := by rw [trow_len h1]; omega
  have a3 : mAsg (mBin addD (mCall (g_telling_row) (mCons (mBlt lenD (mCons (mVar 1) mNil)) mNil)) (mBlt tupleD (mCons (mComp cF__law_back_right_2 [10] ct__law_back_right_2 ci__law_back_right_2 ce__law_back_right_2) mNil))) (gN 2) (E T none none none none none none none none none none none) (St pre [] cs l3 p3) = .nx (E T (some (tI (trow rs.length ++ b1))) none none none none none none none none none none) (St pre [] cs l5 p5) := by
    refine asg_v (w := tI (trow rs.length ++ b1)) (bin_v (x := tI (trow rs.length)) (y := tI b1) (call_v (cons_v (w := .int (rs.length : Int)) (blt_v (cons_v (w := tI rs) rfl nil_ev) (by rw [tI, len_tup, List.length_map])) nil_ev) (telling_ok h1 h6)) (blt_v (cons_v c5 nil_ev) tuple_lst) ?_)
    refine (add_tup (by rw [List.length_map, List.length_map]; omega)).trans ?_
    rw [← List.map_append]
  obtain ⟨d, l6, p6, d6, d60, d61, q60, q61⟩ := draw_v (pre := pre) (cs := cs) (l := l5) (p := p5) (many := 3) hc (by decide) (by decide) q50 (by omega)
  obtain ⟨j2, rfl⟩ := Int.eq_ofNat_of_zero_le d60
  obtain ⟨b2, l7, p7, c7, b21, b22, q70, q71⟩ := bits_dr (k := 0) (pre := pre) (cs := cs) (vs := [10]) (f := cF__law_back_right_3) (g := ct__law_back_right_3) (elt := ce__law_back_right_3) (ρ := E T (some (tI (trow rs.length ++ b1))) none none none none none none none none none none) (l := l5) (p := p5) (n := j2) hc (range1_ok (j := (j2 : Int)) (cons_v (dv d6) nil_ev) (okR_s (by omega) (by omega))) q60 (by omega) (by omega) fun i s d s2 h => ⟨E T (some (tI (trow rs.length ++ b1))) none none none none none none none (some (.int (i : Int))) none none, rfl, dv h⟩
  have hrow : ∀ i ∈ b2 ++ (trow rs.length ++ b1), 0 ≤ i ∧ i ≤ 1 := fun i hi => by
    rcases List.mem_append.mp hi with h | h
    · exact b22 i h
    · rcases List.mem_append.mp h with h | h
      · unfold trow at h
        rcases List.mem_append.mp h with h | h
        · rw [(List.mem_replicate.mp h).2]; decide
        · rw [(List.mem_replicate.mp h).2]; decide
      · exact b12 i h
  have htell := tell_row (p2 := b2) (p1 := b1) h1
  have hlen : (b2 ++ (trow rs.length ++ b1)).length ≤ 16 ∧ 2 * rs.length - 1 ≤ (b2 ++ (trow rs.length ++ b1)).length := by
    rw [List.length_append, List.length_append, trow_len h1]; omega
  have a4 : mAsg (mBin addD (mBlt tupleD (mCons (mComp cF__law_back_right_3 [10] ct__law_back_right_3 ci__law_back_right_3 ce__law_back_right_3) mNil)) (mVar 2)) (gN 2) (E T (some (tI (trow rs.length ++ b1))) none none none none none none none none none none) (St pre [] cs l5 p5) = .nx (E T (some (tI (b2 ++ (trow rs.length ++ b1)))) none none none none none none none none none none) (St pre [] cs l7 p7) := by
    refine asg_v (w := tI (b2 ++ (trow rs.length ++ b1))) (bin_v (x := tI b2) (y := tI (trow rs.length ++ b1)) (blt_v (cons_v c7 nil_ev) tuple_lst) rfl ?_)
    refine (add_tup (by rw [List.length_map, List.length_map, List.length_append]; omega)).trans ?_
    rw [← List.map_append]
  generalize hrw : b2 ++ (trow rs.length ++ b1) = row at a4 hrow htell hlen
  have hB : Bt row := ⟨by omega, hrow⟩
  let R : Option Dv := some (tI row)
  have hnl := numsF_len (row := row) (rs := rs)
  have hna := numsF_abs hR hrow (by omega)
  have htb' := told_back hR hrow hlen.2 htell
  generalize hnums : numsF row rs = ns at hnl hna htb'
  let Nn : Option Dv := some (tI ns)
  -- the numbers
  have a5 : ∀ S, mAsg (mBlt tupleD (mCons (mComp cF__law_back_right_4 [11] ct__law_back_right_4 ci__law_back_right_4 ce__law_back_right_4) mNil)) (gN 3) (E T R none none none none none none none none none none) S = .nx (E T R Nn none none none none none none none none none) S := fun S => by
    have hF : cF__law_back_right_4 (E T R none none none none none none none none none none) S = .ok { ws := (winL row rs.length).map tI } S := by
      have h : mCall (g__law_windows) (mCons (mVar 2) (mCons (mBlt lenD (mCons (mVar 1) mNil)) mNil)) (E T R none none none none none none none none none none) S = .ok (.lst ((winL row rs.length).map tI)) S := call_v (cons_v (w := tI row) rfl (cons_v (w := .int (rs.length : Int)) (blt_v (cons_v (w := tI rs) rfl nil_ev) (by rw [tI, len_tup, List.length_map])) nil_ev)) (windows_ok hB.most (by omega))
      show iSeq _ _ _ = _
      unfold iSeq
      rw [h]
      rfl
    have hwl : (winL row rs.length).length ≤ 100 := by unfold winL; rw [List.length_map, List.length_range]; omega
    have hcc := comp_mapA (vs := [11]) (g := ct__law_back_right_4) (elt := ce__law_back_right_4) (fun w : List Int => Dv.int (dot rs (srt w))) hF (by unfold lim; omega) fun w hw => ⟨E T R none none none none none none none none (some (tI w)) none, rfl, call_v (cons_v (w := tI rs) rfl (cons_v (w := tI w) rfl nil_ev)) (law_sum_ok (Fit.of hR) (by have := (win_ok hw (by omega)).1; omega))⟩
    have e : ((winL row rs.length).map fun w => Dv.int (dot rs (srt w))) = ns.map .int := by rw [← hnums]; unfold numsF; rw [List.map_map]; rfl
    rw [e] at hcc
    exact asg_v (w := tI ns) (blt_v (cons_v hcc nil_ev) tuple_lst)
  have hs7 : Cl (St pre [] cs l7 p7) := fun n => St_clean ho
  have prs : Pl 7 1 (tI rs) _ := (pl_tI (ns := rs) fun i hi => smN (by have := hR.ok i hi; omega)).mono (by omega) (Nat.le_refl _)
  have told1 : mCall (g_rule_told) (mCons (mVar 2) (mCons (mVar 3) mNil)) (E T R Nn none none none none none none none none none) (St pre [] cs l7 p7) = .ok (tI rs) (St pre [] cs l7 p7) := by
    refine call_v (cons_v (w := tI row) rfl (cons_v (w := tI ns) rfl nil_ev)) ?_
    rw [rule_told_ok hs7 hB (by omega), htb']
  have a6 : mIfS (mTest (mBin neD (mBlt reprD (mCons (mLst (mCons (mCall (g_rule_told) (mCons (mVar 2) (mCons (mVar 3) mNil))) (mCons (mCall (g_rule_told) (mCons (mVar 2) (mCons (mVar 3) mNil))) mNil))) mNil)) (mBlt reprD (mCons (mLst (mCons (mVar 1) (mCons (mVar 1) mNil))) mNil)))) (mRet (mK (.bl false))) mNext (E T R Nn none none none none none none none none none) (St pre [] cs l7 p7) = .nx (E T R Nn none none none none none none none none none) (St pre [] cs l7 p7) := by
    have pl : Pl _ 2 (.lst [tI rs, tI rs]) _ := pl_lst (pls_cons prs (pls_cons prs (pls_nil (k := 1))))
    exact (ifS_f (rD_ne (two_v told1 told1) (two_v (w := tI rs) (v := tI rs) rfl rfl) ⟨_, repr_lst pl (by decide) (by decide)⟩)).trans rfl
  have hn1 : 1 ≤ ns.length := by omega
  obtain ⟨d, l8, p8, d8, d80, d81, q80, q81⟩ := draw_v (pre := pre) (cs := cs) (l := l7) (p := p7) (many := (ns.length : Int)) hc (by omega) (by omega) q70 (by omega)
  obtain ⟨at', rfl⟩ := Int.eq_ofNat_of_zero_le d80
  have hat : at' < ns.length := by omega
  let A : Option Dv := some (.int (at' : Int))
  have a7 : mAsg (mCall (g__law_draw) (mCons (mVar 0) (mCons (mBlt lenD (mCons (mVar 3) mNil)) mNil))) (gN 4) (E T R Nn none none none none none none none none none) (St pre [] cs l7 p7) = .nx (E T R Nn A none none none none none none none none) (St pre [] cs l8 p8) :=
    asg_v (w := .int (at' : Int)) (call_v (cons_v (w := .ref pre.length) rfl (cons_v (w := .int (ns.length : Int)) (blt_v (cons_v (w := tI ns) rfl nil_ev) (by rw [tI, len_tup, List.length_map])) nil_ev)) d8)
  refine ⟨l8, p8, ?_, q80, by omega⟩
  have hs8 : Cl (St pre [] cs l8 p8) := fun n => St_clean ho
  have htab : (St pre [] cs l8 p8)[0]? = some (.tab 0 lq__law_back_right) := by
    have h0 : 0 < pre.length := (List.getElem?_eq_some_iff.mp htb).1
    unfold St
    rw [List.getElem?_append_left h0, htb]
  generalize hS : St pre [] cs l8 p8 = S at hs8 htab a7
  have one : ∀ (more : Int), ce__law_back_right_5 (E T R Nn A none none none none none none none (some (.int more))) S = .ok (tI (oneF ns at' more)) S := fun more => by
    refine add_tI (ns := ns.take at' ++ [ns.getD at' 0 + more]) (ms := ns.drop (at' + 1)) (add_tI (ns := ns.take at') (ms := [ns.getD at' 0 + more]) (sl_to rfl rfl) ?_ (by rw [List.length_take]; show _ + 1 ≤ _; omega)) (sl_fr (k := at' + 1) rfl (bin_v (x := .int (at' : Int)) (y := .int 1) rfl k_ev (by rw [add_ii]; rfl))) (by rw [List.length_append, List.length_take, List.length_drop]; show _ + 1 + _ ≤ _; omega)
    have hx : ixA S (tI ns) (.int (at' : Int)) = some (.int (ns.getD at' 0)) := ix_tup (by rw [List.getElem?_map, List.getElem?_eq_getElem hat, List.getD_eq_getElem?_getD, List.getElem?_eq_getElem hat]; rfl)
    exact tup_v (cons_v (w := .int (ns.getD at' 0 + more)) (bin_v (x := .int (ns.getD at' 0)) (y := .int more) (bin_v (x := tI ns) (y := .int (at' : Int)) rfl rfl hx) rfl add_ii) nil_ev) (by show 1 ≤ 1000000; decide)
  have hc5 := comp_mapA (vs := [12]) (g := ct__law_back_right_5) (elt := ce__law_back_right_5) (f := cF__law_back_right_5) (ρ := E T R Nn A none none none none none none none none) (s := S) (l := ([1, -1, 100] : List Int)) (e := .int) (fun more : Int => tI (oneF ns at' more)) rfl (by unfold lim; decide) fun more _ => ⟨E T R Nn A none none none none none none none (some (.int more)), rfl, one more⟩
  let L3 : Dv := .lst ([oneF ns at' 1, oneF ns at' (-1), oneF ns at' 100].map tI)
  have a8 : mAsg (mComp cF__law_back_right_5 [12] ct__law_back_right_5 ci__law_back_right_5 ce__law_back_right_5) (gN 5) (E T R Nn A none none none none none none none none) S = .nx (E T R Nn A (some L3) none none none none none none none) S := asg_v (w := L3) hc5
  let L8 : Dv := .lst ((thsF ns at').map tI)
  have a9 : mAsg (mBin addD (mVar 5) (mLst (mCons (mSl slA (mVar 3) (mPart (mK (.int 1))) mNoPart) (mCons (mBin addD (mVar 3) (mTup (mCons (mK (.int 0)) mNil))) (mCons (mRev (mVar 3)) (mCons (mTup mNil) (mCons (mSl slA (mVar 3) mNoPart (mPart (mK (.int 1)))) mNil))))))) (gN 5) (E T R Nn A (some L3) none none none none none none none) S = .nx (E T R Nn A (some L8) none none none none none none none) S := by
    have w1 : mSl slA (mVar 3) (mPart (mK (.int 1))) mNoPart (E T R Nn A (some L3) none none none none none none none) S = .ok (tI (ns.drop 1)) S := sl_fr (k := 1) rfl rfl
    have w2 : mBin addD (mVar 3) (mTup (mCons (mK (.int 0)) mNil)) (E T R Nn A (some L3) none none none none none none none) S = .ok (tI (ns ++ [0])) S := add_tI (ms := [0]) rfl rfl (by show _ + 1 ≤ _; omega)
    have w3 : mRev (mVar 3) (E T R Nn A (some L3) none none none none none none none) S = .ok (tI ns.reverse) S := by
      show MP.R.of (some (Dv.tup (ns.map .int).reverse)) S = _
      rw [← List.map_reverse]
      rfl
    have w4 : mSl slA (mVar 3) mNoPart (mPart (mK (.int 1))) (E T R Nn A (some L3) none none none none none none none) S = .ok (tI (ns.take 1)) S := sl_to (k := 1) rfl rfl
    have w5 : mTup mNil (E T R Nn A (some L3) none none none none none none none) S = .ok (tI []) S := rfl
    refine asg_v (w := L8) (bin_v (x := L3) rfl (lst_v (cons_v w1 (cons_v w2 (cons_v w3 (cons_v w5 (cons_v w4 nil_ev))))) (by show 5 ≤ 1000000; decide)) ?_)
    refine (add_lst (by show 3 + 5 ≤ 1000000; decide)).trans rfl
  obtain ⟨ρ', s', f1, x6, x7, x8, x9, hρ, hs'⟩ := for_ix (F := F__law_back_right_1) (g := t__law_back_right_1) (body := b__law_back_right_1) (ρ := E T R Nn A (some L8) none none none none none none none) (s := S) (s1 := S) (xs := (thsF ns at').map tI)
    (fun i ρ s => ∃ x6 x7 x8 x9, ρ = E T R Nn A (some L8) x6 x7 x8 x9 none none none ∧ s = S) rfl ⟨_, _, _, _, rfl, rfl⟩ fun i x ρ s hx ⟨x6, x7, x8, x9, hρ, hs⟩ => by
      subst hρ hs
      obtain ⟨th, hth, rfl⟩ := List.mem_map.mp (List.mem_of_getElem? hx)
      obtain ⟨h60, hsm⟩ := thsF_ok (at' := at') (by omega) hna th hth
      obtain ⟨y7, y8, y9, hb⟩ := look_ok (S := s) (row := row) (th := th) (x0 := M) (x1 := T) (x3 := Nn) (x4 := A) (x5 := some L8) (x7 := x7) (x8 := x8) (x9 := x9) (x10 := none) (x11 := none) (x12 := none) hs8 htab hB h60 (by omega) hsm
      exact ⟨_, _, _, rfl, .inl hb, _, _, _, _, rfl, rfl⟩
  subst hρ hs'
  unfold g__law_back_right d__law_back_right
  rw [den_ev, e0]
  refine fin_nx a1 (fin_nx a2 (fin_nx a3 (fin_nx a4 (fin_nx (a5 _) (fin_nx a6 (fin_nx a7 (fin_nx a8 (fin_nx a9 (fin_nx f1 ?_)))))))))
  rw [ret_v (w := .bl true) k_ev, ← hS]
  exact fin_St
end
end MP.K47
set_option Elab.async false
set_option linter.all false
set_option maxRecDepth 100000
set_option maxHeartbeats 1000000
namespace MP.K47
open PySem PySem.Spec MP MP.PG
open PyProof.Rows hiding St
open L2 hiding St r1
theorem digs_drop {m k n : Nat} : (digs 2 m n).drop k = digs 2 (m - k) n := by
  unfold digs
  rw [List.drop_reverse, List.length_map, List.length_range, ← List.map_take, List.take_range]
  congr 3
  omega
theorem num_dig {w n : Nat} : num (digs 2 w n) = n % 2 ^ w := by
  unfold num digs
  rw [List.reverse_reverse]
  exact rnum_digs w n
theorem digs_snoc {m n b : Nat} (hb : b < 2) : digs 2 (m + 1) (2 * n + b) = digs 2 m n ++ [b] := by
  unfold digs
  rw [List.range_succ_eq_map, List.map_cons, List.reverse_cons, List.map_map]
  have e1 : (2 * n + b) / 2 ^ 0 % 2 = b := by
    rw [Nat.pow_zero, Nat.div_one]
    omega
  rw [e1]
  congr 2
  refine List.map_congr_left fun i _ => ?_
  show (2 * n + b) / 2 ^ (i + 1) % 2 = n / 2 ^ i % 2
  rw [Nat.pow_succ', ← Nat.div_div_eq_div_mul, show (2 * n + b) / 2 = n by omega]
theorem range_two {α : Type} {g : Nat → α} : ∀ k : Nat, (List.range (2 * k)).map g = (List.range k).flatMap fun n => [g (2 * n), g (2 * n + 1)]
  | 0 => rfl
  | k + 1 => by
    rw [show 2 * (k + 1) = 2 * k + 1 + 1 by omega, List.range_succ, List.range_succ, List.map_append, List.map_append, range_two k, List.range_succ, List.flatMap_append, List.append_assoc]
    rfl
theorem allR_bits : ∀ m : Nat, allR [0, 1] m = (List.range (2 ^ m)).map fun n => toI (digs 2 m n)
  | 0 => rfl
  | m + 1 => by
    show ((allR [0, 1] m).flatMap fun r => [0, 1].map fun b => r ++ [b]) = _
    rw [allR_bits m, Nat.pow_succ, Nat.mul_comm, range_two, List.flatMap_map]
    rw [List.flatMap_def, List.flatMap_def]
    congr 1
    refine List.map_congr_left fun n _ => ?_
    have e0 := digs_snoc (m := m) (n := n) (b := 0) (by omega)
    have e1 := digs_snoc (m := m) (n := n) (b := 1) (by omega)
    have e0' : digs 2 (m + 1) (2 * n) = digs 2 m n ++ [0] := e0
    rw [e0', e1, toI, toI, toI, List.map_append, List.map_append]
    rfl
section
variable {s : Sto} {ps : List (List Int × Int)}
theorem law_fits_ok {rs : List Int} (hr : Rule rs) (h : Seen ps) : g__law_fits [tI rs, sD ps] s = .ok (.bl (fitB ps rs)) s := by
  let E (x2 x3 : Option Dv) : Env := [some (tI rs), some (sD ps), x2, x3]
  have e0 : startD 4 [tI rs, sD ps] = E none none := rfl
  have R := for_run (g := t__law_fits_1) (body := b__law_fits_1) (F := F__law_fits_1) (ρ := E none none) (s0 := s) (s := s) (l := ps) (e := pD) (fun (_ : Unit) ρ => ∃ x2 x3, ρ = E x2 x3) (fitS rs) () rfl ⟨_, _, rfl⟩ fun p hp _ ρ ⟨x2, x3, hρ⟩ => by
    subst hρ
    have hrow := h.ok p hp
    let E1 := E (some (tI p.1)) (some (.int p.2))
    refine ⟨E1, rfl, ?_⟩
    have ln2 : mBlt lenD (mCons (mVar 2) mNil) E1 s = .ok (.int (p.1.length : Int)) s := blt_v (cons_v (w := tI p.1) rfl nil_ev) (by rw [tI, len_tup, List.length_map])
    have ln0 : mBlt lenD (mCons (mVar 0) mNil) E1 s = .ok (.int (rs.length : Int)) s := blt_v (cons_v (w := tI rs) rfl nil_ev) (by rw [tI, len_tup, List.length_map])
    have u1 : mTest (mBin ltD (mBlt lenD (mCons (mVar 2) mNil)) (mBlt lenD (mCons (mVar 0) mNil))) E1 s = .ok (decide ((p.1.length : Int) < rs.length)) s := test_v (bin_v ln2 ln0 lt_ii)
    unfold fitS
    by_cases h1 : rs.length ≤ p.1.length
    · rw [decide_eq_false (by omega)] at u1
      have hsl : mSl slA (mVar 2) (mPart (mBin subD (mBlt lenD (mCons (mVar 2) mNil)) (mBlt lenD (mCons (mVar 0) mNil)))) mNoPart E1 s = .ok (tI (p.1.drop (p.1.length - rs.length))) s :=
        sl_fr rfl (bin_v ln2 ln0 (by rw [sub_ev, Int.natCast_sub h1]))
      have u2 : mTest (mBin neD (mCall (g__law_sum) (mCons (mVar 0) (mCons (mSl slA (mVar 2) (mPart (mBin subD (mBlt lenD (mCons (mVar 2) mNil)) (mBlt lenD (mCons (mVar 0) mNil)))) mNoPart) mNil))) (mVar 3)) E1 s = .ok (!decide (idx rs p.1 = p.2)) s :=
        test_v (bin_v (x := .int (idx rs p.1)) (y := .int p.2) (call_v (cons_v (w := tI rs) rfl (cons_v hsl nil_ev)) (law_sum_ok (Fit.of hr) (by rw [List.length_drop]; have := hrow.most; omega))) rfl ne_ii)
      by_cases h2 : idx rs p.1 = p.2
      · rw [decide_eq_true h2] at u2
        rw [if_pos ⟨h1, h2⟩]
        exact ⟨E1, (ifS_f (or_f u1 u2)).trans rfl, _, _, rfl⟩
      · rw [decide_eq_false h2] at u2
        rw [if_neg fun z => h2 z.2]
        exact (ifS_t (or_f u1 u2)).trans rfl
    · rw [decide_eq_true (by omega)] at u1
      rw [if_neg fun z => h1 z.1]
      exact (ifS_t (or_t u1)).trans rfl
  rw [fit_run] at R
  unfold g__law_fits d__law_fits
  rw [den_ev, e0]
  cases hb : fitB ps rs with
  | true =>
    rw [hb, if_pos rfl] at R
    obtain ⟨ρ', h1, x2, x3, rfl⟩ := R
    exact fin_nx h1 finC_rt
  | false =>
    rw [hb, if_neg Bool.false_ne_true] at R
    exact fin_rtS R finC_rt
theorem idb_abs {rs : List Int} (hr : Rule rs) (k : Nat) : (idb rs k).natAbs ≤ 120 := by
  unfold idb
  have h6 := hr.six
  have := sum_abs (M := 20) (l := rs.reverse.take k) fun n hn => by
    have := hr.ok n (List.mem_reverse.mp (List.mem_of_mem_take hn))
    omega
  have hl : (rs.reverse.take k).length ≤ 6 := by rw [List.length_take, List.length_reverse]; omega
  have : (rs.reverse.take k).length * 20 ≤ 6 * 20 := Nat.mul_le_mul hl (Nat.le_refl _)
  omega
theorem ixs_mod {F : List (List Int)} {n : Nat} (h : ∀ rs ∈ F, rs.length ≤ wdF F) : ixs F (n % 2 ^ wdF F) = ixs F n := by
  unfold ixs
  refine List.map_congr_left fun rs hrs => ?_
  rw [Nat.mod_mod_of_dvd _ (Nat.pow_dvd_pow 2 (h rs hrs))]
theorem lotF_mod {F : List (List Int)} {n : Nat} (h : ∀ rs ∈ F, rs.length ≤ wdF F) : lotF F (n % 2 ^ wdF F) = lotF F n := by
  unfold lotF
  rw [ixs_mod h]
theorem lotF_le {F : List (List Int)} {n : Nat} (h0 : F ≠ []) : lotF F n ≤ (F.length : Int) := by
  have hne : ((ixs F n).map fun i => ((ixs F n).count i : Int)) ≠ [] := by unfold ixs; simp [h0]
  obtain ⟨h1, _⟩ := maxO_in hne
  obtain ⟨i, _, e⟩ := List.mem_map.mp h1
  have := List.count_le_length (a := i) (l := ixs F n)
  have hl : (ixs F n).length = F.length := by unfold ixs; rw [List.length_map]
  unfold lotF
  rw [← e]
  omega
/-- n is the first best of i rows -/
def Bst (F : List (List Int)) (i n : Nat) : Prop := n < i ∧ (∀ j, j < i → lotF F n ≤ lotF F j) ∧ ∀ j, j < n → lotF F n < lotF F j
theorem ask_eq {F : List (List Int)} {n : Nat} (h1 : 1 < F.length) (hr : ∀ rs ∈ F, Rule rs) (hb : Bst F 64 n) : askF F = if lotF F n < (F.length : Int) then some n else none := by
  have h0 : F ≠ [] := fun z => by rw [z] at h1; exact absurd h1 (by decide)
  obtain ⟨w1, w2, w3⟩ := wdF_ok h0 hr
  have w4 : 2 ^ wdF F ≤ 64 := Nat.pow_le_pow_right (show 0 < 2 by decide) w2
  have hp : 0 < 2 ^ wdF F := Nat.pow_pos (by decide)
  obtain ⟨b1, b2, b3⟩ := hb
  have hn : n < 2 ^ wdF F := by
    have e := lotF_mod (F := F) (n := n) w3
    have hm : n % 2 ^ wdF F < 2 ^ wdF F := Nat.mod_lt _ hp
    have hle : n % 2 ^ wdF F ≤ n := Nat.mod_le _ _
    rcases Nat.lt_or_ge (n % 2 ^ wdF F) n with h | h
    · have := b3 _ h; omega
    · omega
  have hat : ∀ k, k < 2 ^ wdF F → (lotsL F)[k]? = some (lotF F k) := fun k hk => lf_get hk
  obtain ⟨m1, m2⟩ := minO_in (l := lotsL F) lotsL_ne
  have hmin : minO 0 (lotsL F) = lotF F n := by
    have c1 := m2 _ (List.mem_of_getElem? (hat n hn))
    obtain ⟨k, hk, e⟩ := List.mem_iff_getElem.mp m1
    have hk' : k < 2 ^ wdF F := by have := hk; unfold lotsL at this; rwa [lf_len] at this
    have e2 : lotF F k = minO 0 (lotsL F) := by
      have := hat k hk'
      rw [List.getElem?_eq_getElem hk, e] at this
      exact (Option.some.inj this).symm
    have c2 := b2 k (by omega)
    omega
  have hf : fstI (minO 0 (lotsL F)) (lotsL F) = n := by
    obtain ⟨f1, f2⟩ := fst_at m1
    generalize fstI (minO 0 (lotsL F)) (lotsL F) = f at f1 f2
    have hf' : f < 2 ^ wdF F := by
      have := (List.getElem?_eq_some_iff.mp f1).1
      unfold lotsL at this
      rwa [lf_len] at this
    rw [hat f hf', hmin] at f1
    have f1 := Option.some.inj f1
    rcases Nat.lt_trichotomy n f with h | h | h
    · exact absurd (by rw [hat n hn, hmin]) (f2 n h)
    · exact h.symm
    · have := b3 f h; omega
  have hle := lotF_le (F := F) (n := n) h0
  unfold askF
  rw [if_neg (by omega), hf, hmin]
  by_cases h : lotF F n = (F.length : Int)
  · rw [if_pos h, if_neg (by omega)]
  · rw [if_neg h, if_pos (by omega)]
def rowB (n : Nat) : Dv := tI (toI (digs 2 6 n))
def bD (F : List (List Int)) : Option Nat → Dv
  | none => .non
  | some n => .tup [.int (lotF F n), rowB n]
theorem best_bits_ok {F : List (List Int)} (hF20 : F.length ≤ 20) (hr : ∀ rs ∈ F, Rule rs) : g__law_best_bits [.lst (F.map tI), .int 6] s = .ok (askD 6 (askF F)) s := by
  let T : Option Dv := some (.lst (F.map tI))
  let Z : Option Dv := some (.int 6)
  let E (x2 x3 x4 x5 x6 x7 : Option Dv) : Env := [T, Z, x2, x3, x4, x5, x6, x7]
  have e0 : startD 8 [.lst (F.map tI), .int 6] = E none none none none none none := rfl
  obtain ⟨N, hN⟩ : ∃ N : Nat, N = 64 := ⟨_, rfl⟩
  have a1 : mAsg (mK .non) (gN 2) (E none none none none none none) s = .nx (E (some (bD F none)) none none none none none) s := rfl
  have hFs : F__law_best_bits_1 (E (some (bD F none)) none none none none none) s = .ok { ws := (List.range N).map rowB } s := by
    rw [hN]
    have h : mCall (g__law_all) (mCons (mTup (mCons (mK (.int 0)) (mCons (mK (.int 1)) mNil))) (mCons (mVar 1) mNil)) (E (some (bD F none)) none none none none none) s = .ok (.lst ((allR [0, 1] 6).map tI)) s :=
      call_v (cons_v (w := tI [0, 1]) rfl (cons_v (w := .int ((6 : Nat) : Int)) rfl nil_ev)) (law_all_ok (marks := [0, 1]) (by decide) (by decide) (by decide) _ (.inl rfl))
    rw [allR_bits, List.map_map] at h
    show iSeq _ _ _ = _
    unfold iSeq
    rw [h]
    rfl
  obtain ⟨ρ', s', f1, rfl, bo, x3, x4, x5, x6, x7, rfl, hb⟩ := for_ix (g := t__law_best_bits_1) (body := b__law_best_bits_1)
    (fun i ρ s' => s' = s ∧ ∃ bo x3 x4 x5 x6 x7, ρ = E (some (bD F bo)) x3 x4 x5 x6 x7 ∧ (i = 0 ∧ bo = none ∨ ∃ n, bo = some n ∧ Bst F i n)) hFs ⟨rfl, _, _, _, _, _, _, rfl, .inl ⟨rfl, rfl⟩⟩ fun i x ρ s' hx hJ => by
      obtain ⟨rfl, bo, x3, x4, x5, x6, x7, rfl, hb⟩ := hJ
      have hi : i < N := by have := (List.getElem?_eq_some_iff.mp hx).1; rwa [List.length_map, List.length_range] at this
      rw [List.getElem?_map, List.getElem?_range hi] at hx
      cases hx
      let Rw : Option Dv := some (rowB i)
      let B : Option Dv := some (bD F bo)
      have hc1 := comp_mapA (vs := [6]) (g := ct__law_best_bits_1) (elt := ce__law_best_bits_1) (f := cF__law_best_bits_1) (ρ := E B Rw x4 x5 x6 x7) (s := s') (l := F) (e := tI) (fun rs : List Int => Dv.int (idb rs (pop (i % 2 ^ rs.length)))) rfl (by unfold lim; omega) fun rs hrs => ⟨E B Rw x4 x5 (some (tI rs)) x7, rfl, by
        have h6 := (hr rs hrs).six
        have hsl : mSl slA (mVar 3) (mPart (mBin subD (mVar 1) (mBlt lenD (mCons (mVar 6) mNil)))) mNoPart (E B Rw x4 x5 (some (tI rs)) x7) s' = .ok (tI ((toI (digs 2 6 i)).drop (6 - rs.length))) s' :=
          sl_fr rfl (bin_v (x := .int ((6 : Nat) : Int)) (y := .int (rs.length : Int)) rfl (blt_v (cons_v (w := tI rs) rfl nil_ev) (by rw [tI, len_tup, List.length_map])) (by rw [sub_ev, Int.natCast_sub h6]))
        have hd : (toI (digs 2 6 i)).drop (6 - rs.length) = toI (digs 2 rs.length i) := by
          rw [toI, ← List.map_drop, digs_drop, show 6 - (6 - rs.length) = rs.length by omega]
        rw [hd] at hsl
        refine call_v (cons_v (w := tI rs) rfl (cons_v hsl nil_ev)) ?_
        rw [law_sum_ok (Fit.of (hr rs hrs)) (by rw [toI, List.length_map, digs_len]; omega), dot_bits digs_bits digs_len, num_dig]⟩
      have e1 : (F.map fun rs => Dv.int (idb rs (pop (i % 2 ^ rs.length)))) = (ixs F i).map .int := by unfold ixs; rw [List.map_map]; rfl
      rw [e1] at hc1
      let X : Option Dv := some (lI (ixs F i))
      have b1 : mAsg (mComp cF__law_best_bits_1 [6] ct__law_best_bits_1 ci__law_best_bits_1 ce__law_best_bits_1) (gN 4) (E B Rw x4 x5 x6 x7) s' = .nx (E B Rw X x5 x6 x7) s' := asg_v (w := lI (ixs F i)) hc1
      have hsm : ∀ j ∈ ixs F i, MP.Sm j := fun j hj => by
        unfold ixs at hj
        obtain ⟨rs, hrs, rfl⟩ := List.mem_map.mp hj
        exact smN (by have := idb_abs (hr rs hrs) (pop (i % 2 ^ rs.length)); omega)
      have t1 : mTest (mBin neD (mVar 4) (mLst mNil)) (E B Rw X x5 x6 x7) s' = .ok (!decide ((ixs F i).map Dv.int = [])) s' := test_v (bin_v (x := lI (ixs F i)) (y := .lst []) rfl rfl (ne_of_eq (eq_l_nil (pl_lI hsm) (by decide))))
      have hil : (ixs F i).length = F.length := by unfold ixs; rw [List.length_map]
      have v5 : mIf (mTest (mBin neD (mVar 4) (mLst mNil))) (mBlt maxLD (mCons (mComp cF__law_best_bits_2 [7] ct__law_best_bits_2 ci__law_best_bits_2 ce__law_best_bits_2) mNil)) (mK (.int 0)) (E B Rw X x5 x6 x7) s' = .ok (.int (lotF F i)) s' := by
        by_cases h0 : F = []
        · rw [decide_eq_true (by rw [h0]; rfl)] at t1
          refine if_vf t1 ?_
          rw [h0]
          exact k_ev
        · rw [decide_eq_false (fun z => h0 (by
            have := congrArg List.length z
            rw [List.length_map, hil] at this
            exact List.length_eq_zero_iff.mp this))] at t1
          have hc2 := comp_mapA (vs := [7]) (g := ct__law_best_bits_2) (elt := ce__law_best_bits_2) (f := cF__law_best_bits_2) (ρ := E B Rw X x5 x6 x7) (s := s') (l := ixs F i) (e := .int) (fun j : Int => Dv.int ((ixs F i).count j : Nat)) rfl (by rw [hil]; unfold lim; omega) fun j _ => ⟨E B Rw X x5 x6 (some (.int j)), rfl, count_v (l := ixs F i) rfl rfl⟩
          have e2 : ((ixs F i).map fun j => Dv.int ((ixs F i).count j : Nat)) = ((ixs F i).map fun j => ((ixs F i).count j : Int)).map .int := by rw [List.map_map]; rfl
          rw [e2] at hc2
          exact if_vt t1 (blt_v (cons_v hc2 nil_ev) (max_I (by unfold ixs; simp [h0])))
      let Mo : Option Dv := some (.int (lotF F i))
      have b2 : mAsg (mIf (mTest (mBin neD (mVar 4) (mLst mNil))) (mBlt maxLD (mCons (mComp cF__law_best_bits_2 [7] ct__law_best_bits_2 ci__law_best_bits_2 ce__law_best_bits_2) mNil)) (mK (.int 0))) (gN 5) (E B Rw X x5 x6 x7) s' = .nx (E B Rw X Mo x6 x7) s' := asg_v (w := .int (lotF F i)) v5
      have take : mAsg (mTup (mCons (mVar 5) (mCons (mVar 3) mNil))) (gN 2) (E B Rw X Mo x6 x7) s' = .nx (E (some (bD F (some i))) Rw X Mo x6 x7) s' := asg_v (w := bD F (some i)) (tup_v (cons_v (w := .int (lotF F i)) rfl (cons_v (w := rowB i) rfl nil_ev)) (by show 2 ≤ 1000000; decide))
      rcases hb with ⟨rfl, rfl⟩ | ⟨n, rfl, n1, n2, n3⟩
      · have u1 : mTest (mBin isD (mVar 2) (mK .non)) (E B Rw X Mo x6 x7) s' = .ok true s' := rfl
        refine ⟨E B Rw x4 x5 x6 x7, E (some (bD F (some 0))) Rw X Mo x6 x7, s', rfl, .inl ?_, rfl, _, _, _, _, _, _, rfl, .inr ⟨0, rfl, by omega, fun j hj => by
          obtain rfl : j = 0 := by omega
          exact Int.le_refl _, fun j hj => absurd hj (Nat.not_lt_zero j)⟩⟩
        unfold b__law_best_bits_1
        exact seq_nx b1 (seq_nx b2 ((ifS_t (or_t u1)).trans take))
      · have u1 : mTest (mBin isD (mVar 2) (mK .non)) (E B Rw X Mo x6 x7) s' = .ok false s' := rfl
        have u2 : mTest (mBin ltD (mVar 5) (mBin ixA (mVar 2) (mK (.int 0)))) (E B Rw X Mo x6 x7) s' = .ok (decide (lotF F i < lotF F n)) s' := test_v (bin_v (x := .int (lotF F i)) (y := .int (lotF F n)) rfl (bin_v (x := bD F (some n)) (y := .int 0) rfl k_ev ix_tup0) lt_ii)
        by_cases hlt : lotF F i < lotF F n
        · rw [decide_eq_true hlt] at u2
          refine ⟨E B Rw x4 x5 x6 x7, E (some (bD F (some i))) Rw X Mo x6 x7, s', rfl, .inl ?_, rfl, _, _, _, _, _, _, rfl, .inr ⟨i, rfl, by omega, fun j hj => ?_, fun j hj => ?_⟩⟩
          · unfold b__law_best_bits_1
            exact seq_nx b1 (seq_nx b2 ((ifS_t (or_f u1 u2)).trans take))
          · by_cases hji : j = i
            · rw [hji]; exact Int.le_refl _
            · have := n2 j (by omega); omega
          · have := n2 j hj; omega
        · rw [decide_eq_false hlt] at u2
          refine ⟨E B Rw x4 x5 x6 x7, E B Rw X Mo x6 x7, s', rfl, .inl ?_, rfl, some n, _, _, _, _, _, rfl, .inr ⟨n, rfl, by omega, fun j hj => ?_, n3⟩⟩
          · unfold b__law_best_bits_1
            exact seq_nx b1 (seq_nx b2 ((ifS_f (or_f u1 u2)).trans rfl))
          · by_cases hji : j = i
            · rw [hji]; omega
            · exact n2 j (by omega)
  rw [List.length_map, List.length_range] at hb
  obtain ⟨n, hbo, hB⟩ : ∃ n, bo = some n ∧ Bst F 64 n := by
    rcases hb with ⟨h, _⟩ | ⟨n, h1, h2⟩
    · omega
    · exact ⟨n, h1, by rw [← hN]; exact h2⟩
  subst hbo
  let EE := E (some (bD F (some n))) x3 x4 x5 x6 x7
  have ln : mBlt lenD (mCons (mVar 0) mNil) EE s' = .ok (.int (F.length : Int)) s' := blt_v (cons_v (w := .lst (F.map tI)) rfl nil_ev) (by rw [len_lst, List.length_map])
  have w1 : mTest (mBin gtD (mBlt lenD (mCons (mVar 0) mNil)) (mK (.int 1))) EE s' = .ok (decide (1 < F.length)) s' := by
    have hd : decide ((1 : Int) < (F.length : Int)) = decide (1 < F.length) := decide_eq_decide.mpr ⟨fun h => by omega, fun h => by omega⟩
    rw [← hd]
    exact test_v (bin_v (x := .int (F.length : Int)) (y := .int 1) ln k_ev gt_ii)
  have w2 : mTest (mBin ltD (mBin ixA (mVar 2) (mK (.int 0))) (mBlt lenD (mCons (mVar 0) mNil))) EE s' = .ok (decide (lotF F n < (F.length : Int))) s' := test_v (bin_v (x := .int (lotF F n)) (y := .int (F.length : Int)) (bin_v (x := bD F (some n)) (y := .int 0) rfl k_ev ix_tup0) ln lt_ii)
  have w3 : mBin ixA (mVar 2) (mK (.int 1)) EE s' = .ok (rowB n) s' := bin_v (x := bD F (some n)) (y := .int 1) rfl k_ev ix_tup1
  unfold g__law_best_bits d__law_best_bits
  rw [den_ev, e0]
  refine fin_nx a1 (fin_nx f1 ?_)
  by_cases h1 : 1 < F.length
  · rw [decide_eq_true h1] at w1
    rw [ask_eq h1 hr hB]
    by_cases h2 : lotF F n < (F.length : Int)
    · rw [decide_eq_true h2] at w2
      rw [if_pos h2]
      exact (congrArg (finC _) (ret_v (if_vt (and_t w1 w2) w3))).trans finC_rt
    · rw [decide_eq_false h2] at w2
      rw [if_neg h2]
      exact (congrArg (finC _) (ret_v (if_vf (and_t w1 w2) k_ev))).trans finC_rt
  · rw [decide_eq_false h1] at w1
    have e : askF F = none := by unfold askF; rw [if_pos (by omega)]
    rw [e]
    exact (congrArg (finC _) (ret_v (if_vf (and_f w1) k_ev))).trans finC_rt
end
end MP.K47
set_option Elab.async false
set_option linter.all false
set_option maxRecDepth 100000
set_option maxHeartbeats 1000000
namespace MP.K47
open PySem PySem.Spec MP MP.PG
open PyProof.Rows hiding St
open L2 hiding St r1
theorem pls_all {α : Type} {e : α → Dv} {n k : Nat} : ∀ l : List α, (∀ a ∈ l, ∃ d, Pl n k (e a) d) → ∃ ds, Pls (l.length * n) k (l.map e) ds
  | [], _ => by
    rw [show ([] : List α).length * n = 0 by simp]
    exact ⟨[], pls_nil⟩
  | a :: l, h => by
    obtain ⟨d, hd⟩ := h a List.mem_cons_self
    obtain ⟨ds, hds⟩ := pls_all l fun b hb => h b (List.mem_cons_of_mem _ hb)
    rw [show (a :: l).length * n = n + l.length * n by rw [List.length_cons, Nat.succ_mul, Nat.add_comm]]
    exact ⟨d :: ds, pls_cons hd hds⟩
structure Smalls (ps : List (List Int × Int)) : Prop where
  len : ps.length ≤ 4
  ok : ∀ p ∈ ps, (Row p.1 ∧ p.1.length ≤ 6) ∧ p.2.natAbs ≤ 1000
theorem Smalls.seen {ps : List (List Int × Int)} (h : Smalls ps) : Seen ps := ⟨by have := h.len; omega, fun p hp => (h.ok p hp).1.1⟩
theorem cp_repr {rules : List (List Int)} {ps : List (List Int × Int)} (hm : Menu rules) (h : Smalls ps) : ∃ t, ∀ s, reprD s [.lst [mD rules, sD ps]] = some (.str t) := by
  obtain ⟨d1, p1⟩ := pls_all (n := 7) (k := 1) (e := tI) rules fun r hr => ⟨_, (pl_tI (ns := r) fun i hi => smN (by have := (hm.ok r hr).ok i hi; omega)).mono (by have := (hm.ok r hr).six; omega) (Nat.le_refl _)⟩
  obtain ⟨d2, p2⟩ := pls_all (n := 10) (k := 2) (e := pD) ps fun p hp => by
    obtain ⟨⟨hr, h6⟩, hn⟩ := h.ok p hp
    have q1 := pl_tI (ns := p.1) fun i hi => row_sm hr i hi
    have q2 := pl_small (i := p.2) (by omega)
    exact ⟨_, (pl_tup (pls_cons q1 (pls_cons (q2.mono (Nat.le_refl _) (by decide : 0 ≤ 1)) (pls_nil (k := 1))))).mono (by omega) (Nat.le_refl _)⟩
  have l1 := hm.most
  have l2 := h.len
  have q1 := (pl_tup p1).mono (show _ ≤ 200 by omega) (show 2 ≤ 3 by decide)
  have q2 := (pl_tup p2).mono (show _ ≤ 200 by omega) (show 3 ≤ 3 by decide)
  have pl : Pl _ 4 (.lst [mD rules, sD ps]) _ := pl_lst (pls_cons q1 (pls_cons q2 (pls_nil (k := 3))))
  exact ⟨_, fun s => repr_lst pl (by decide) (by decide)⟩
theorem da_repr {rules : List (List Int)} {ps : List (List Int × Int)} {o : Option Nat} (hm : Menu rules) : ∃ t, ∀ s, reprD s [.lst [.tup ((fitL ps rules).map fun k : Nat => .int (k : Int)), askD 6 o]] = some (.str t) := by
  have l1 := hm.most
  have e : (fitL ps rules).length ≤ 20 := by
    unfold fitL
    refine Nat.le_trans (List.length_filter_le _ _) ?_
    rw [List.length_range]
    exact l1
  obtain ⟨d1, p1⟩ := pls_all (n := 1) (k := 0) (e := fun k : Nat => Dv.int (k : Int)) (fitL ps rules) fun k hk => ⟨_, pl_small (by
    have := List.mem_range.mp (List.mem_filter.mp (show k ∈ (List.range rules.length).filter _ from hk)).1
    omega)⟩
  have q1 := (pl_tup p1).mono (show _ ≤ 30 by omega) (Nat.le_refl 1)
  obtain ⟨d2, q2⟩ : ∃ d, Pl 30 1 (askD 6 o) d := by
    cases o with
    | none => exact ⟨_, pl_non.mono (by decide) (by decide)⟩
    | some n => exact ⟨_, (pl_tI (ns := toI (digs 2 6 n)) fun i hi => smN (by
        obtain ⟨b, hb, rfl⟩ := List.mem_map.mp hi
        have := digs_bits b hb
        omega)).mono (by rw [toI, List.length_map, digs_len]; decide) (Nat.le_refl _)⟩
  have pl : Pl _ 2 (.lst [.tup ((fitL ps rules).map fun k : Nat => .int (k : Int)), askD 6 o]) _ := pl_lst (pls_cons q1 (pls_cons q2 (pls_nil (k := 1))))
  exact ⟨_, fun s => repr_lst pl (by decide) (by decide)⟩
section
variable {pre : Sto} {cs : List Int}
theorem of_tup {l p : Int} {rules : List (List Int)} (hc : cs ≠ []) (hp : 0 ≤ p) (hp2 : p < 900000) (h1 : 1 ≤ rules.length) (h2 : rules.length ≤ 20) : ∃ r l' p', r ∈ rules ∧ g__law_of [.ref pre.length, mD rules] (St pre [] cs l p) = .ok (tI r) (St pre [] cs l' p') ∧ 0 ≤ p' ∧ p' ≤ p + 1 := by
  have e0 : startD 2 [.ref pre.length, mD rules] = [some (.ref pre.length), some (mD rules)] := rfl
  obtain ⟨d, l1, p1, d1, d0, d2, q0, q1⟩ := draw_v (pre := pre) (cs := cs) (l := l) (p := p) (many := (rules.length : Int)) hc (by omega) (by omega) hp (by omega)
  obtain ⟨j, rfl⟩ := Int.eq_ofNat_of_zero_le d0
  have hj : j < rules.length := by omega
  refine ⟨rules[j], l1, p1, List.getElem_mem hj, ?_, q0, q1⟩
  unfold g__law_of d__law_of
  rw [den_ev, e0]
  have v : mBin ixA (mVar 1) (mCall (g__law_draw) (mCons (mVar 0) (mCons (mBlt lenD (mCons (mVar 1) mNil)) mNil))) [some (.ref pre.length), some (mD rules)] (St pre [] cs l p) = .ok (tI rules[j]) (St pre [] cs l1 p1) :=
    bin_v (x := mD rules) (y := .int (j : Int)) rfl (call_v (cons_v (w := .ref pre.length) rfl (cons_v (w := .int (rules.length : Int)) (blt_v (cons_v (w := mD rules) rfl nil_ev) (by rw [len_tup, List.length_map])) nil_ev)) d1) (ix_tup (by rw [List.getElem?_map, List.getElem?_eq_getElem hj]; rfl))
  rw [ret_v v]
  exact fin_St
theorem max2_z {a : Int} {s : Sto} : max2D s [.int 0, .int a] = some (.int (a.toNat : Int)) := by
  show some (Dv.int (if a > (0 : Int) then a else (0 : Int))) = _
  congr 2
  split <;> omega
theorem menus_right_ok {l p : Int} (ho : ClP pre []) (hc : cs ≠ []) (hp : 0 ≤ p) (hp2 : p ≤ 300000) : ∃ l' p', g__law_menus_right [.ref pre.length] (St pre [] cs l p) = .ok (.bl true) (St pre [] cs l' p') ∧ 0 ≤ p' ∧ p' ≤ p + 1000 := by
  let M : Option Dv := some (.ref pre.length)
  let E (x1 x2 x3 x4 x5 x6 x7 x8 x9 x10 x11 : Option Dv) : Env := [M, x1, x2, x3, x4, x5, x6, x7, x8, x9, x10, x11]
  have e0 : startD 12 [.ref pre.length] = E none none none none none none none none none none none := rfl
  have dv : ∀ {x1 x2 x3 x4 x5 x6 x7 x8 x9 x10 x11 : Option Dv} {S S2 : Sto} {many : Int} {w : Dv}, g__law_draw [.ref pre.length, .int many] S = .ok w S2 → mCall (g__law_draw) (mCons (mVar 0) (mCons (mK (.int many)) mNil)) (E x1 x2 x3 x4 x5 x6 x7 x8 x9 x10 x11) S = .ok w S2 := fun h => call_v (cons_v (w := .ref pre.length) rfl (cons_v k_ev nil_ev)) h
  -- the menu
  obtain ⟨d, l1, p1, d1, d10, d11, q10, q11⟩ := draw_v (pre := pre) (cs := cs) (l := l) (p := p) (many := 8) hc (by decide) (by decide) hp (by omega)
  obtain ⟨j, rfl⟩ := Int.eq_ofNat_of_zero_le d10
  have hF1 : cF__law_menus_right_1 (E none none none none none none none none none none none) (St pre [] cs l p) = .ok { ws := rng 0 (1 + j) } (St pre [] cs l1 p1) := by
    refine range1_ok (j := ((1 + j : Nat) : Int)) (cons_v (bin_v (x := .int 1) (y := .int (j : Int)) k_ev (dv d1) ?_) nil_ev) (okR_s (by omega) (by omega))
    rw [add_ii, Int.natCast_add]
    rfl
  obtain ⟨rules, l2, p2, c1, r1, r2, q20, q21⟩ := comp_dr (pre := pre) (cs := cs) (n := 1 + j) (b := 10) (vs := [4]) (g := ct__law_menus_right_1) (elt := ce__law_menus_right_1) tI (fun r : List Int => 1 ≤ r.length ∧ r.length ≤ 4 ∧ ∀ i ∈ r, -3 ≤ i ∧ i ≤ 5) hF1 q10 (by omega) (by decide) (by omega) fun i l p hi q0 q1 => by
    obtain ⟨rs, l5, p5, t, r1, r2, r3, p50, p51⟩ := tune_ok (pre := pre) (cs := cs) (l := l) (p := p) (m := 4) hc q0 (by omega) (by decide) (by decide)
    exact ⟨E none none none (some (.int (i : Int))) none none none none none none none, rs, l5, p5, rfl, call_v (cons_v (w := .ref pre.length) rfl (cons_v (w := .int ((4 : Nat) : Int)) rfl nil_ev)) t, ⟨r1, r2, r3⟩, p50, by omega⟩
  have hm : Menu rules := ⟨by omega, by omega, fun r hr => ⟨(r2 r hr).1, by have := (r2 r hr).2.1; omega, fun i hi => by have := (r2 r hr).2.2 i hi; omega⟩⟩
  let C1 : Option Dv := some (mD rules)
  have a1 : mAsg (mBlt tupleD (mCons (mComp cF__law_menus_right_1 [4] ct__law_menus_right_1 ci__law_menus_right_1 ce__law_menus_right_1) mNil)) (gN 1) (E none none none none none none none none none none none) (St pre [] cs l p) = .nx (E C1 none none none none none none none none none none) (St pre [] cs l2 p2) := asg_v (w := mD rules) (blt_v (cons_v c1 nil_ev) tuple_lst)
  obtain ⟨hid, l3, p3, hh, t3, q30, q31⟩ := of_tup (pre := pre) (cs := cs) (l := l2) (p := p2) (rules := rules) hc q20 (by omega) hm.one hm.most
  have hH := hm.ok hid hh
  have hH4 := (r2 hid hh).2.1
  let H : Option Dv := some (tI hid)
  have a2 : mAsg (mTup (mCons (mCall (g__law_of) (mCons (mVar 0) (mCons (mVar 1) mNil))) (mCons (mTup mNil) mNil))) (gT 2 (gsC (gN 2) (gsC (gN 3) gs0))) (E C1 none none none none none none none none none none) (St pre [] cs l2 p2) = .nx (E C1 H (some (sD [])) none none none none none none none none) (St pre [] cs l3 p3) :=
    asg_gv (w := .tup [tI hid, .tup []]) (tup_v (cons_v (call_v (cons_v (w := .ref pre.length) rfl (cons_v (w := mD rules) rfl nil_ev)) t3) (cons_v (w := .tup []) rfl nil_ev)) (by show 2 ≤ 1000000; decide)) rfl
  -- what was seen
  obtain ⟨d, l4, p4, d4, d40, d41, q40, q41⟩ := draw_v (pre := pre) (cs := cs) (l := l3) (p := p3) (many := 3) hc (by decide) (by decide) q30 (by omega)
  obtain ⟨n, rfl⟩ := Int.eq_ofNat_of_zero_le d40
  obtain ⟨ρ', s', f1, ps, x4, x5, x6, x11, l5, p5, rfl, rfl, hps, q50, q51, hpl⟩ := for_ix (F := F__law_menus_right_1) (g := t__law_menus_right_1) (body := b__law_menus_right_1) (ρ := E C1 H (some (sD [])) none none none none none none none none) (s := St pre [] cs l3 p3) (s1 := St pre [] cs l4 p4) (xs := rng 0 n)
    (fun i ρ s => ∃ ps x4 x5 x6 x11 l5 p5, ρ = E C1 H (some (sD ps)) x4 x5 x6 none none none none x11 ∧ s = St pre [] cs l5 p5 ∧ (i ≤ 4 → Smalls ps) ∧ 0 ≤ p5 ∧ p5 ≤ p4 + (i * 50 : Nat) ∧ ps.length = i) (range1_ok (j := (n : Int)) (cons_v (dv d4) nil_ev) (okR_s (by omega) (by omega))) ⟨[], none, none, none, none, l4, p4, rfl, rfl, fun _ => ⟨by decide, fun _ h => nomatch h⟩, q40, by omega, rfl⟩ fun i x ρ s hx hJ => by
      obtain ⟨ps, x4, x5, x6, x11, l5, p5, rfl, rfl, hps, q50, q51, hpl⟩ := hJ
      obtain ⟨hi, rfl⟩ := rng_get hx
      have hi' : i < n := hi
      have hps := hps (by omega)
      rw [Int.zero_add]
      let I : Option Dv := some (.int (i : Int))
      let P : Option Dv := some (sD ps)
      obtain ⟨v, l6, p6, hv, d6, q60, q61⟩ := law_of_ok (pre := pre) (tl := []) (l := l5) (ws := [.int 4, .int 6, .int 2]) hc q50 (by omega) (by simp) (by simp)
      have hvi : ∃ w : Nat, v = .int (w : Int) ∧ w ≤ 6 := by
        simp only [List.mem_cons, List.mem_nil_iff, or_false] at hv
        rcases hv with rfl | rfl | rfl
        · exact ⟨4, rfl, by decide⟩
        · exact ⟨6, rfl, by decide⟩
        · exact ⟨2, rfl, by decide⟩
      obtain ⟨w, rfl, w6⟩ := hvi
      have hF2 : cF__law_menus_right_2 (E C1 H P I x5 x6 none none none none x11) (St pre [] cs l5 p5) = .ok { ws := rng 0 w } (St pre [] cs l6 p6) :=
        range1_ok (j := (w : Int)) (cons_v (call_v (cons_v (w := .ref pre.length) rfl (cons_v (w := .lst [.int 4, .int 6, .int 2]) rfl nil_ev)) d6) nil_ev) (okR_s (by omega) (by omega))
      obtain ⟨fm, l7, p7, c7, f1, f2, q70, q71⟩ := comp_dr (pre := pre) (cs := cs) (n := w) (b := 2) (vs := [11]) (g := ct__law_menus_right_2) (elt := ce__law_menus_right_2) Dv.int (fun i : Int => 0 ≤ i ∧ i ≤ 4) hF2 q60 (by omega) (by decide) (by omega) fun i l p hi q0 q1 => by
        obtain ⟨v, l8, p8, hv, d8, q80, q81⟩ := law_of_ok (pre := pre) (tl := []) (l := l) (p := p) (ws := [.int 2, .int 5]) hc q0 (by omega) (by simp) (by simp)
        have hvi : ∃ m : Int, v = .int m ∧ 0 < m ∧ m ≤ 5 := by
          simp only [List.mem_cons, List.mem_nil_iff, or_false] at hv
          rcases hv with rfl | rfl
          · exact ⟨2, rfl, by decide, by decide⟩
          · exact ⟨5, rfl, by decide, by decide⟩
        obtain ⟨m, rfl, m0, m1⟩ := hvi
        obtain ⟨a, l9, p9, d9, a0, a1, q90, q91⟩ := draw_v (pre := pre) (cs := cs) (l := l8) (p := p8) (many := m) hc m0 (by omega) q80 (by omega)
        exact ⟨E C1 H P I x5 x6 none none none none (some (.int (i : Int))), a, l9, p9, rfl, call_v (cons_v (w := .ref pre.length) rfl (cons_v (w := .int m) (call_v (cons_v (w := .ref pre.length) rfl (cons_v (w := .lst [.int 2, .int 5]) rfl nil_ev)) d8) nil_ev)) d9, by omega, q90, by omega⟩
      have b1 : mAsg (mBlt tupleD (mCons (mComp cF__law_menus_right_2 [11] ct__law_menus_right_2 ci__law_menus_right_2 ce__law_menus_right_2) mNil)) (gN 5) (E C1 H P I x5 x6 none none none none x11) (St pre [] cs l5 p5) = .nx (E C1 H P I (some (tI fm)) x6 none none none none x11) (St pre [] cs l7 p7) := asg_v (w := tI fm) (blt_v (cons_v c7 nil_ev) tuple_lst)
      have hrow : Row fm := ⟨by omega, fun i hi => by have := f2 i hi; omega⟩
      let cut := fm.drop ((fm.length : Int) - hid.length).toNat
      have hsl : ∀ S, mSl slA (mVar 5) (mPart (mBlt max2D (mCons (mK (.int 0)) (mCons (mBin subD (mBlt lenD (mCons (mVar 5) mNil)) (mBlt lenD (mCons (mVar 2) mNil))) mNil)))) mNoPart (E C1 H P I (some (tI fm)) x6 none none none none x11) S = .ok (tI cut) S := fun S =>
        sl_fr rfl (blt_v (cons_v k_ev (cons_v (w := .int ((fm.length : Int) - hid.length)) (bin_v (x := .int (fm.length : Int)) (y := .int (hid.length : Int)) (blt_v (cons_v (w := tI fm) rfl nil_ev) (by rw [tI, len_tup, List.length_map])) (blt_v (cons_v (w := tI hid) rfl nil_ev) (by rw [tI, len_tup, List.length_map])) sub_ev) nil_ev)) max2_z)
      have hcl : cut.length ≤ 6 := by rw [List.length_drop]; omega
      obtain ⟨v, l8, p8, hv, d8, q80, q81⟩ := law_of_ok (pre := pre) (tl := []) (l := l7) (p := p7) (ws := [.int 0, .int 0, .int 0, .int 1]) hc q70 (by omega) (by simp) (by simp)
      have hvi : ∃ m : Int, v = .int m ∧ m.natAbs ≤ 1 := by
        simp only [List.mem_cons, List.mem_nil_iff, or_false] at hv
        rcases hv with rfl | rfl | rfl | rfl
        · exact ⟨0, rfl, by decide⟩
        · exact ⟨0, rfl, by decide⟩
        · exact ⟨0, rfl, by decide⟩
        · exact ⟨1, rfl, by decide⟩
      obtain ⟨m, rfl, m1⟩ := hvi
      let nu := dot hid (srt cut) + m
      have hnu : nu.natAbs ≤ 1000 := by
        have := dot_abs (M := 4) (rs := hid) (ls := srt cut) hH.ok fun n hn => by
          have hn' : n ∈ cut := (srt_perm cut).mem_iff.mp hn
          have := f2 n (List.mem_of_mem_drop hn')
          omega
        show (dot hid (srt cut) + m).natAbs ≤ 1000
        omega
      have b2 : mAsg (mBin addD (mCall (g__law_sum) (mCons (mVar 2) (mCons (mSl slA (mVar 5) (mPart (mBlt max2D (mCons (mK (.int 0)) (mCons (mBin subD (mBlt lenD (mCons (mVar 5) mNil)) (mBlt lenD (mCons (mVar 2) mNil))) mNil)))) mNoPart) mNil))) (mCall (g__law_of) (mCons (mVar 0) (mCons (mLst (mCons (mK (.int 0)) (mCons (mK (.int 0)) (mCons (mK (.int 0)) (mCons (mK (.int 1)) mNil))))) mNil)))) (gN 6) (E C1 H P I (some (tI fm)) x6 none none none none x11) (St pre [] cs l7 p7) = .nx (E C1 H P I (some (tI fm)) (some (.int nu)) none none none none x11) (St pre [] cs l8 p8) :=
        asg_v (w := .int nu) (bin_v (x := .int (dot hid (srt cut))) (y := .int m) (call_v (cons_v (w := tI hid) rfl (cons_v (hsl _) nil_ev)) (law_sum_ok (Fit.of hH) (by omega))) (call_v (cons_v (w := .ref pre.length) rfl (cons_v (w := .lst [.int 0, .int 0, .int 0, .int 1]) rfl nil_ev)) d8) add_ii)
      have b3 : ∀ S, mAsg (mBin addD (mVar 3) (mTup (mCons (mTup (mCons (mVar 5) (mCons (mVar 6) mNil))) mNil))) (gN 3) (E C1 H P I (some (tI fm)) (some (.int nu)) none none none none x11) S = .nx (E C1 H (some (sD (ps ++ [(fm, nu)]))) I (some (tI fm)) (some (.int nu)) none none none none x11) S := fun S => by
        refine asg_v (w := sD (ps ++ [(fm, nu)])) (bin_v (x := sD ps) (y := .tup [pD (fm, nu)]) rfl (tup_v (cons_v (tup_v (cons_v (w := tI fm) rfl (cons_v (w := .int nu) rfl nil_ev)) (by show 2 ≤ 1000000; decide)) nil_ev) (by show 1 ≤ 1000000; decide)) ?_)
        refine (add_tup (by rw [List.length_map, List.length_singleton]; omega)).trans ?_
        show some (Dv.tup (ps.map pD ++ [pD (fm, nu)])) = some (Dv.tup ((ps ++ [(fm, nu)]).map pD))
        rw [List.map_append]
        rfl
      refine ⟨E C1 H P I x5 x6 none none none none x11, E C1 H (some (sD (ps ++ [(fm, nu)]))) I (some (tI fm)) (some (.int nu)) none none none none x11, St pre [] cs l8 p8, rfl, .inl ?_, ps ++ [(fm, nu)], _, _, _, _, l8, p8, rfl, rfl, fun h4 => ⟨by rw [List.length_append, List.length_singleton]; omega, fun q hq => ?_⟩, q80, by rw [Nat.succ_mul]; omega, by rw [List.length_append, List.length_singleton, hpl]⟩
      · unfold b__law_menus_right_1
        exact seq_nx b1 (seq_nx b2 (b3 _))
      · rcases List.mem_append.mp hq with h | h
        · exact hps.ok q h
        · rw [List.mem_singleton.mp h]
          exact ⟨⟨hrow, by show fm.length ≤ 6; omega⟩, hnu⟩
  rw [rng_len] at hps q51 hpl
  have hps := hps (by omega)
  have hse := hps.seen
  refine ⟨l5, p5, ?_, q50, by omega⟩
  have hS5 : Cl (St pre [] cs l5 p5) := fun n => St_clean ho
  let P : Option Dv := some (sD ps)
  obtain ⟨t, ht⟩ := cp_repr hm hps
  have kv : ∀ (S : Sto) x4 x5 x6 x7 x8 x9 x10 x11, mBlt reprD (mCons (mLst (mCons (mVar 1) (mCons (mVar 3) mNil))) mNil) (E C1 H P x4 x5 x6 x7 x8 x9 x10 x11) S = .ok (.str t) S := fun S _ _ _ _ _ _ _ _ => blt_v (cons_v (two_v (w := mD rules) (v := sD ps) rfl rfl) nil_ev) (ht S)
  generalize hS : St pre [] cs l5 p5 = S at f1 hS5
  let Du : Dv := .tup ((fitL ps rules).map fun k : Nat => .int (k : Int))
  have hF3 : cF__law_menus_right_3 (E C1 H P x4 x5 x6 none none none none x11) S = .ok { ws := (List.range rules.length).map fun k : Nat => .int (k : Int) } S := by
    have := range1_ok (fa := mCons (mBlt lenD (mCons (mVar 1) mNil)) mNil) (ρ := E C1 H P x4 x5 x6 none none none none x11) (s := S) (j := (rules.length : Int)) (cons_v (blt_v (cons_v (w := mD rules) rfl nil_ev) (by rw [len_tup, List.length_map])) nil_ev) (okR_s (by omega) (by omega))
    refine this.trans ?_
    rw [rng_ev, Int.toNat_natCast]
    simp only [Int.zero_add]
  have hix : ∀ k, k < rules.length → ∀ S : Sto, ixA S (mD rules) (.int (k : Int)) = some (tI (rules.getD k [])) := fun k hk S => ix_tup (by rw [List.getElem?_map, List.getElem?_eq_getElem hk, getD_at hk]; rfl)
  have hc3 : mComp cF__law_menus_right_3 [4] ct__law_menus_right_3 ci__law_menus_right_3 ce__law_menus_right_3 (E C1 H P x4 x5 x6 none none none none x11) S = .ok (.lst ((fitL ps rules).map fun k : Nat => .int (k : Int))) S :=
    comp_filt (vs := [4]) (g := ct__law_menus_right_3) (tt := ci__law_menus_right_3) (elt := ce__law_menus_right_3) (fun k : Nat => Dv.int (k : Int)) (fun k => fitB ps (rules.getD k [])) hF3 (by rw [List.length_range]; unfold lim; omega) fun k hk => ⟨E C1 H P (some (.int (k : Int))) x5 x6 none none none none x11, rfl, test_v (call_v (cons_v (w := tI (rules.getD k [])) (bin_v (x := mD rules) (y := .int (k : Int)) rfl rfl (hix k (List.mem_range.mp hk) S)) (cons_v (w := sD ps) rfl nil_ev)) (law_fits_ok (hm.ok _ (getD_mem (List.mem_range.mp hk))) hse)), fun _ => rfl⟩
  have a4 : mPar 7 8 (mCons (mBlt reprD (mCons (mLst (mCons (mVar 1) (mCons (mVar 3) mNil))) mNil)) (mCons (mBlt tupleD (mCons (mComp cF__law_menus_right_3 [4] ct__law_menus_right_3 ci__law_menus_right_3 ce__law_menus_right_3) mNil)) mNil)) (E C1 H P x4 x5 x6 none none none none x11) S = .nx (E C1 H P x4 x5 x6 (some (.str t)) (some Du) none none x11) S := by
    rw [par_ev, kv, then_ok, blt_v (z := Du) (cons_v hc3 nil_ev) tuple_lst, then_ok]
    rfl
  have hc4 := comp_mapA (vs := [4]) (g := ct__law_menus_right_4) (elt := ce__law_menus_right_4) (f := cF__law_menus_right_4) (ρ := E C1 H P x4 x5 x6 (some (.str t)) (some Du) none none x11) (s := S) (l := fitL ps rules) (e := fun k : Nat => Dv.int (k : Int)) (fun k : Nat => tI (rules.getD k [])) rfl (by
    have : (fitL ps rules).length ≤ rules.length := by
      unfold fitL
      refine Nat.le_trans (List.length_filter_le _ _) ?_
      rw [List.length_range]
      exact Nat.le_refl _
    have := hm.most
    unfold lim
    omega) fun k hk => ⟨E C1 H P (some (.int (k : Int))) x5 x6 (some (.str t)) (some Du) none none x11, rfl, bin_v (x := mD rules) (y := .int (k : Int)) rfl rfl (hix k (List.mem_range.mp (List.mem_filter.mp (show k ∈ (List.range rules.length).filter _ from hk)).1) S)⟩
  have e4 : ((fitL ps rules).map fun k : Nat => tI (rules.getD k [])) = (fitsL ps rules).map tI := by unfold fitsL; rw [List.map_map]; rfl
  rw [e4] at hc4
  let An : Dv := askD 6 (askF (fitsL ps rules))
  have a5 : mAsg (mCall (g__law_best_bits) (mCons (mComp cF__law_menus_right_4 [4] ct__law_menus_right_4 ci__law_menus_right_4 ce__law_menus_right_4) (mCons (mK (.int 6)) mNil))) (gN 9) (E C1 H P x4 x5 x6 (some (.str t)) (some Du) none none x11) S = .nx (E C1 H P x4 x5 x6 (some (.str t)) (some Du) (some An) none x11) S :=
    asg_v (w := An) (call_v (cons_v hc4 (cons_v k_ev nil_ev)) (best_bits_ok (fits_len hm) (fits_mem hm)))
  obtain ⟨ρ', s', f2, x10, hρ, hs'⟩ := for_ix (F := F__law_menus_right_2) (g := t__law_menus_right_2) (body := b__law_menus_right_2) (ρ := E C1 H P x4 x5 x6 (some (.str t)) (some Du) (some An) none x11) (s := S) (s1 := S) (xs := rng 0 2)
    (fun i ρ s => ∃ x10, ρ = E C1 H P x4 x5 x6 (some (.str t)) (some Du) (some An) x10 x11 ∧ s = S) (range1_ok (j := 2) (cons_v k_ev nil_ev) (by decide)) ⟨_, rfl, rfl⟩ fun i x ρ s hx ⟨x10, hρ, hs⟩ => by
      subst hρ hs
      let E1 := E C1 H P x4 x5 x6 (some (.str t)) (some Du) (some An) (some x) x11
      have v1 : mCall (g_fitting) (mCons (mVar 1) (mCons (mVar 3) mNil)) E1 s = .ok Du s := call_v (cons_v (w := mD rules) rfl (cons_v (w := sD ps) rfl nil_ev)) (fitting_ok hm hse)
      have v2 : mCall (g_best_ask) (mCons (mVar 1) (mCons (mVar 3) (mCons (mK (.int 6)) mNil))) E1 s = .ok An s := call_v (cons_v (w := mD rules) rfl (cons_v (w := sD ps) rfl (cons_v (w := .int ((6 : Nat) : Int)) rfl nil_ev))) (best_ask_ok hS5 hm hse (by decide) (by decide))
      obtain ⟨t2, ht2⟩ := da_repr (rules := rules) (ps := ps) (o := askF (fitsL ps rules)) hm
      exact ⟨E1, E1, s, rfl, .inl ((ifS_f (rD_ne (w := .lst [Du, An]) (two_v v1 v2) (two_v (w := Du) (v := An) rfl rfl) ⟨t2, ht2 s⟩)).trans rfl), _, rfl, rfl⟩
  subst hρ
  have fin : mBin eqD (mBlt reprD (mCons (mLst (mCons (mVar 1) (mCons (mVar 3) mNil))) mNil)) (mVar 7) (E C1 H P x4 x5 x6 (some (.str t)) (some Du) (some An) x10 x11) S = .ok (.bl true) S := bin_v (x := .str t) (y := .str t) (kv _ _ _ _ _ _ _ _ _) rfl eq_refl_ss
  subst hs'
  unfold g__law_menus_right d__law_menus_right
  rw [den_ev, e0]
  refine fin_nx a1 (fin_nx a2 (fin_nx f1 (fin_nx a4 (fin_nx a5 (fin_nx f2 ?_)))))
  rw [ret_v fin, ← hS]
  exact fin_St
end
end MP.K47
set_option Elab.async false
set_option linter.all false
set_option maxRecDepth 100000
set_option maxHeartbeats 1000000
namespace MP.K47
open PySem PySem.Spec MP MP.PG
open PyProof.Rows hiding St
open L2 hiding St r1
def popC : Nat → Nat → Nat
  | 0, _ => 0
  | f + 1, n => n % 2 + popC f (n / 2)
theorem pop_C : ∀ (f n : Nat), n < 2 ^ f → pop n = popC f n
  | 0, n, h => by
    obtain rfl : n = 0 := by rw [Nat.pow_zero] at h; omega
    exact pop_0
  | f + 1, n, h => by
    rw [pop_eq n, pop_C f (n / 2) (by rw [Nat.pow_succ] at h; omega)]
    rfl
def ixsC (F : List (List Int)) (n : Nat) : List Int := F.map fun rs => idb rs (popC 6 (n % 2 ^ rs.length))
def lotC (F : List (List Int)) (n : Nat) : Int := maxO 0 ((ixsC F n).map fun i => ((ixsC F n).count i : Int))
def lotsC (F : List (List Int)) : List Int := lf (2 ^ wdF F) (lotC F)
def askC (F : List (List Int)) : Option Nat := if F.length ≤ 1 then none else if minO 0 (lotsC F) = (F.length : Int) then none else some (fstI (minO 0 (lotsC F)) (lotsC F))
theorem ixsC_eq {F : List (List Int)} (h : ∀ rs ∈ F, rs.length ≤ 6) : ixs F = ixsC F := by
  funext n
  unfold ixs ixsC
  refine List.map_congr_left fun rs hrs => ?_
  rw [pop_C 6 _ (Nat.lt_of_lt_of_le (Nat.mod_lt _ (Nat.pow_pos (by decide))) (Nat.pow_le_pow_right (by decide) (h rs hrs)))]
theorem askC_eq {F : List (List Int)} (h : ∀ rs ∈ F, rs.length ≤ 6) : askF F = askC F := by
  have e : lotF F = lotC F := by
    funext n
    unfold lotF lotC
    rw [ixsC_eq h]
  have e2 : lotsL F = lotsC F := by unfold lotsL lotsC; rw [e]
  unfold askF askC
  rw [e2]
section
variable {s : Sto} {ρ : Env} {fa : FA} {rules : List (List Int)} {ps : List (List Int × Int)}
theorem mn {rules : List (List Int)} (h : (1 ≤ rules.length ∧ rules.length ≤ 20) ∧ ∀ r ∈ rules, (1 ≤ r.length ∧ r.length ≤ 6) ∧ ∀ i ∈ r, -20 ≤ i ∧ i ≤ 20) : Menu rules := ⟨h.1.1, h.1.2, fun r hr => ⟨(h.2 r hr).1.1, (h.2 r hr).1.2, (h.2 r hr).2⟩⟩
theorem sn {ps : List (List Int × Int)} (h : ps.length ≤ 50 ∧ ∀ p ∈ ps, p.1.length ≤ 200 ∧ ∀ i ∈ p.1, 0 ≤ i ∧ i ≤ 1000000) : Seen ps := ⟨h.1, fun p hp => ⟨(h.2 p hp).1, (h.2 p hp).2⟩⟩
theorem bt {ns : List Int} (h : ns.length ≤ 200 ∧ ∀ i ∈ ns, 0 ≤ i ∧ i ≤ 1) : Bt ns := ⟨h.1, h.2⟩
theorem ask_v {w : Nat} (hs : Cl s) (ha : fa ρ s = .ok [mD rules, sD ps, .int (w : Int)] s) (o : Option Nat) (hm : Menu rules) (hse : Seen ps) (hw : 6 ≤ w) (hw2 : w ≤ 10) (h : askC (fitsL ps rules) = o) : mCall g_best_ask fa ρ s = .ok (askD w o) s := by
  rw [← h, ← askC_eq fun rs hrs => (fits_mem hm rs hrs).six]
  exact call_v ha (best_ask_ok hs hm hse hw hw2)
theorem fit_v (ha : fa ρ s = .ok [mD rules, sD ps] s) (ks : List Nat) (hm : Menu rules) (hse : Seen ps) (h : fitL ps rules = ks) : mCall g_fitting fa ρ s = .ok (.tup (ks.map fun k : Nat => .int (k : Int))) s := by
  rw [← h]
  exact call_v ha (fitting_ok hm hse)
theorem tell_v {ns : List Int} {k : Nat} (ha : fa ρ s = .ok [tI ns, .int (k : Int)] s) (b : Bool) (hb : Bt ns) (h1 : 1 ≤ k) (h6 : k ≤ 6) (h : tellF ns k = b) : mCall g_does_tell fa ρ s = .ok (.bl b) s := by
  rw [← h]
  exact call_v ha (does_tell_ok hb h1 h6)
theorem told_v {row th : List Int} (hs : Cl s) (ha : fa ρ s = .ok [tI row, tI th] s) (rs : List Int) (hb : Bt row) (hl : th.length ≤ 400) (h : outT row th = .inr rs) : mCall g_rule_told fa ρ s = .ok (tI rs) s := by
  refine call_v ha ?_
  rw [rule_told_ok hs hb hl, h]
theorem if_no {t : FT} {c : FS} (h : t ρ s = .ok false s) : mIfS t c mNext ρ s = .nx ρ s := by
  rw [ifS_f h]
  rfl
theorem ne_v {f g : FE} {x y : Dv} (h : f ρ s = .ok x s) (h2 : g ρ s = .ok y s) (e : neD s x y = some (.bl false)) : mTest (mBin neD f g) ρ s = .ok false s := test_v (bin_v h h2 e)
theorem mul_tupK {ws : List Dv} {k : Nat} (h : ws.length * k ≤ 1000000) (hk : k ≤ 1000000) : mulD s (.tup ws) (.int (k : Int)) = some (.tup (List.replicate k ws).flatten) := by
  unfold mulD
  dsimp only
  rw [if_pos ⟨by omega, by omega, by rw [Int.toNat_natCast]; unfold lim; omega⟩, Int.toNat_natCast]
theorem heard_v {row th : List Int} {l : FE} (hs : Cl s) (ht : s[1]? = some (.tab 1 lq__law_hand_right)) (hr : Bt row) (hl : th.length ≤ 400) (hg : l ρ s = g_rule_told [tI row, tI th] s) (h : outT row th = .inl 8) : mLam 1 1 lq__law_hand_right l h__law_heard mNil ρ s = .ok (.tup [.str "nothing", tI th]) s := by
  rw [lam_ev ht, nil_ev, bind_ok, heard_ok (row := row) (th := th) hs hr hl hg]
  unfold dueD
  rw [h]
  rfl
def cardL : List (List Int) := [[0, 1], [1], [1, 1], [0, 0, 1]]
def rowL : List Int := List.replicate 60 0 ++ [0, 0, 1, 1, 1]
def manyL : List (List Int) := (List.replicate 10 [[0, 1], [1]]).flatten
def seenL : List (List Int × Int) := List.replicate 50 ([5, 3], 5)
theorem hand_ok (hs : Cl s) (ht : s[1]? = some (.tab 1 lq__law_hand_right)) : g__law_hand_right [] s = .ok (.bl true) s := by
  let E (x y : Option Dv) : Env := [x, y]
  have e0 : startD 2 [] = E none none := rfl
  unfold g__law_hand_right d__law_hand_right
  rw [den_ev, e0]
  -- what tells
  let L1 : Dv := .lst [.bl true, .bl false, .bl true, .bl false, .bl false]
  refine fin_nx (ρ1 := E (some L1) none) (s1 := s) (asg_v (w := L1) (lst_v (cons_v (tell_v (ns := [1, 0, 1, 1]) (k := 2) rfl true (bt (by decide)) (by decide) (by decide) (by decide +kernel)) (cons_v (tell_v (ns := [0, 1, 0, 1]) (k := 2) rfl false (bt (by decide)) (by decide) (by decide) (by decide +kernel)) (cons_v (tell_v (ns := [1]) (k := 1) rfl true (bt (by decide)) (by decide) (by decide) (by decide +kernel)) (cons_v (tell_v (ns := []) (k := 1) rfl false (bt (by decide)) (by decide) (by decide) (by decide +kernel)) (cons_v (tell_v (ns := [1, 1]) (k := 3) rfl false (bt (by decide)) (by decide) (by decide) (by decide +kernel)) nil_ev))))) (by show 5 ≤ 1000000; decide))) ?_
  have t3 : mCall g_telling_row (mCons (mK (.int 3)) mNil) (E (some L1) none) s = .ok (tI (trow 3)) s := call_v (cons_v (w := .int ((3 : Nat) : Int)) rfl nil_ev) (telling_ok (by decide) (by decide))
  have t6 : mCall g_telling_row (mCons (mK (.int 6)) mNil) (E (some L1) none) s = .ok (tI (trow 6)) s := call_v (cons_v (w := .int ((6 : Nat) : Int)) rfl nil_ev) (telling_ok (by decide) (by decide))
  have m5 : mBin mulD (mTup (mCons (mK (.int 0)) mNil)) (mK (.int 5)) (E (some L1) none) s = .ok (tI (List.replicate 5 0)) s := bin_v (x := .tup [.int 0]) (y := .int ((5 : Nat) : Int)) rfl rfl (mul_one_tup (by decide))
  refine fin_nx (if_no (or_f (ne_v (x := L1) (y := L1) rfl rfl rfl) (or_f (ne_v (y := tI [0, 0, 1, 1, 1]) t3 rfl rfl) (ne_v (x := tI ((trow 6).take 5)) (y := tI (List.replicate 5 0)) (sl_to (k := 5) t6 rfl) m5 rfl)))) ?_
  -- rules told
  let L2 : Dv := .lst [tI [-2, 5], tI [-20], tI [-8, 7]]
  refine fin_nx (if_no (ne_v (x := L2) (y := L2) (lst_v (cons_v (told_v (row := [0, 1, 1]) (th := [5, 3]) hs rfl [-2, 5] (bt (by decide)) (by decide) (by decide +kernel)) (cons_v (told_v (row := [1]) (th := [-20]) hs rfl [-20] (bt (by decide)) (by decide) (by decide +kernel)) (cons_v (told_v (row := [0, 0, 1, 1]) (th := [0, 7, -1]) hs rfl [-8, 7] (bt (by decide)) (by decide) (by decide +kernel)) nil_ev))) (by show 3 ≤ 1000000; decide)) rfl rfl)) ?_
  let L3 : Dv := .lst [.tup [.str "nothing", tI [1, 7, 9]], .tup [.str "nothing", tI [21]]]
  refine fin_nx (ρ1 := E (some L3) none) (s1 := s) (asg_v (w := L3) (two_v (heard_v (row := [0, 0, 1, 1]) (th := [1, 7, 9]) hs ht (bt (by decide)) (by decide) (call_v (cons_v (w := tI [0, 0, 1, 1]) rfl (cons_v (w := tI [1, 7, 9]) rfl nil_ev)) rfl) (by decide +kernel)) (heard_v (row := [1]) (th := [21]) hs ht (bt (by decide)) (by decide) (call_v (cons_v (w := tI [1]) rfl (cons_v (w := tI [21]) rfl nil_ev)) rfl) (by decide +kernel)))) ?_
  have p3 : Pl _ 3 L3 _ := pl_lst (pls_cons (pl_tup (pls_cons ((pl_w (c := 8)).mono (Nat.le_refl _) (by decide : 0 ≤ 1)) (pls_cons (pl_tI (ns := [1, 7, 9]) fun i hi => smN (by
    simp only [List.mem_cons, List.mem_nil_iff, or_false] at hi
    rcases hi with rfl | rfl | rfl <;> decide)) (pls_nil (k := 1))))) (pls_cons ((pl_tup (pls_cons ((pl_w (c := 8)).mono (Nat.le_refl _) (by decide : 0 ≤ 1)) (pls_cons (pl_tI (ns := [21]) fun i hi => smN (by
    simp only [List.mem_cons, List.mem_nil_iff, or_false] at hi
    subst hi
    decide)) (pls_nil (k := 1)))))) (pls_nil (k := 2))))
  refine fin_nx (if_no (ne_v (x := L3) (y := L3) rfl rfl (ne_of_eq (eq_l_refl p3 (by decide))))) ?_
  -- menus
  let Cd : Option Dv := some (mD cardL)
  refine fin_nx (ρ1 := E (some L3) Cd) (s1 := s) rfl ?_
  have mC : Menu cardL := mn (by decide)
  have s0 : Seen [] := sn (by decide)
  let L4 : Dv := .lst [tI [0, 1, 2, 3], tI [0, 1, 2], tI [0, 3]]
  refine fin_nx (if_no (ne_v (x := L4) (y := L4) (lst_v (cons_v (fit_v (rules := cardL) (ps := []) rfl [0, 1, 2, 3] mC s0 (by decide +kernel)) (cons_v (fit_v (rules := cardL) (ps := [([0, 1], 1)]) rfl [0, 1, 2] mC (sn (by decide)) (by decide +kernel)) (cons_v (fit_v (rules := cardL) (ps := [([3, 5, 2], 5)]) rfl [0, 3] mC (sn (by decide)) (by decide +kernel)) nil_ev))) (by show 3 ≤ 1000000; decide)) rfl rfl)) ?_
  have mT : Menu [[0, 1], [0, 0, 1]] := mn (by decide)
  have k10 := ask_v (ρ := E (some L3) Cd) (fa := (mCons (mTup (mCons (mTup (mCons (mK (.int 0)) (mCons (mK (.int 1)) mNil))) (mCons (mTup (mCons (mK (.int 0)) (mCons (mK (.int 0)) (mCons (mK (.int 1)) mNil)))) mNil))) (mCons (mTup mNil) (mCons (mK (.int 10)) mNil)))) (rules := [[0, 1], [0, 0, 1]]) (ps := []) (w := 10) hs rfl (some 4) mT s0 (by decide) (by decide) (by decide +kernel)
  have m7 : mBin addD (mBin mulD (mTup (mCons (mK (.int 0)) mNil)) (mK (.int 7))) (mTup (mCons (mK (.int 1)) (mCons (mK (.int 0)) (mCons (mK (.int 0)) mNil)))) (E (some L3) Cd) s = .ok (tI (List.replicate 7 0 ++ [1, 0, 0])) s :=
    add_tI (bin_v (x := .tup [.int 0]) (y := .int ((7 : Nat) : Int)) rfl rfl (mul_one_tup (by decide))) rfl (by decide)
  have m60 : mBin addD (mBin mulD (mTup (mCons (mK (.int 0)) mNil)) (mK (.int 60))) (mTup (mCons (mK (.int 0)) (mCons (mK (.int 0)) (mCons (mK (.int 1)) (mCons (mK (.int 1)) (mCons (mK (.int 1)) mNil)))))) (E (some L3) Cd) s = .ok (tI rowL) s :=
    add_tI (bin_v (x := .tup [.int 0]) (y := .int ((60 : Nat) : Int)) rfl rfl (mul_one_tup (by decide))) rfl (by decide)
  have tl := tell_v (ρ := E (some L3) Cd) (fa := (mCons (mBin addD (mBin mulD (mTup (mCons (mK (.int 0)) mNil)) (mK (.int 60))) (mTup (mCons (mK (.int 0)) (mCons (mK (.int 0)) (mCons (mK (.int 1)) (mCons (mK (.int 1)) (mCons (mK (.int 1)) mNil))))))) (mCons (mK (.int 3)) mNil))) (ns := rowL) (k := 3) (cons_v m60 (cons_v k_ev nil_ev)) true (bt (by decide +kernel)) (by decide) (by decide) (by decide +kernel)
  refine fin_nx (if_no (or_f (ne_v k10 m7 (by rfl)) (not_vt (test_v tl)))) ?_
  -- many
  have x1 : mBin mulD (mTup (mCons (mTup (mCons (mK (.int 0)) (mCons (mK (.int 1)) mNil))) (mCons (mTup (mCons (mK (.int 1)) mNil)) mNil))) (mK (.int 10)) (E (some L3) Cd) s = .ok (mD manyL) s :=
    bin_v (x := mD [[0, 1], [1]]) (y := .int ((10 : Nat) : Int)) rfl rfl ((mul_tupK (by decide) (by decide)).trans rfl)
  have x2 : mBin mulD (mTup (mCons (mTup (mCons (mTup (mCons (mK (.int 5)) (mCons (mK (.int 3)) mNil))) (mCons (mK (.int 5)) mNil))) mNil)) (mK (.int 50)) (E (some L3) Cd) s = .ok (sD seenL) s :=
    bin_v (x := sD [([5, 3], 5)]) (y := .int ((50 : Nat) : Int)) rfl rfl ((mul_tupK (by decide) (by decide)).trans rfl)
  have x3 := fit_v (ρ := E (some L3) Cd) (fa := (mCons (mBin mulD (mTup (mCons (mTup (mCons (mK (.int 0)) (mCons (mK (.int 1)) mNil))) (mCons (mTup (mCons (mK (.int 1)) mNil)) mNil))) (mK (.int 10))) (mCons (mBin mulD (mTup (mCons (mTup (mCons (mTup (mCons (mK (.int 5)) (mCons (mK (.int 3)) mNil))) (mCons (mK (.int 5)) mNil))) mNil)) (mK (.int 50))) mNil))) (rules := manyL) (ps := seenL) (cons_v x1 (cons_v x2 nil_ev)) [0, 2, 4, 6, 8, 10, 12, 14, 16, 18] (mn (by decide +kernel)) (sn (by decide +kernel)) (by decide +kernel)
  have x4 : mTupRg3 (mCons (mK (.int 0)) (mCons (mK (.int 20)) (mCons (mK (.int 2)) mNil))) (E (some L3) Cd) s = .ok (tI [0, 2, 4, 6, 8, 10, 12, 14, 16, 18]) s := by
    unfold mTupRg3
    rw [cons_v k_ev (cons_v k_ev (cons_v k_ev nil_ev)), bind_ok]
    dsimp only
    rw [if_pos (by decide +kernel)]
    rfl
  refine fin_nx (if_no (ne_v x3 x4 (by rfl))) ?_
  -- rows asked
  have hcut : mSl slA (mVar 1) mNoPart (mPart (mK (.int 1))) (E (some L3) Cd) s = .ok (mD [[0, 1]]) s := by
    refine sl_v (x := mD cardL) (a := none) (b := some ((1 : Nat) : Int)) rfl rfl (part_v rfl) ?_
    show some (Dv.tup (cutD (cardL.map tI) _ _)) = _
    rw [cut_to]
    rfl
  let L5 : Dv := .lst [askD 6 (some 2), .non, .non, askD 7 (some 4)]
  have q1 := ask_v (ρ := E (some L3) Cd) (fa := (mCons (mVar 1) (mCons (mTup mNil) (mCons (mK (.int 6)) mNil)))) (rules := cardL) (ps := []) (w := 6) hs rfl (some 2) mC s0 (by decide) (by decide) (by decide +kernel)
  have q2 := ask_v (ρ := E (some L3) Cd) (fa := (mCons (mSl slA (mVar 1) mNoPart (mPart (mK (.int 1)))) (mCons (mTup mNil) (mCons (mK (.int 6)) mNil)))) (rules := [[0, 1]]) (ps := []) (w := 6) hs (cons_v hcut (cons_v (w := .tup []) rfl (cons_v k_ev nil_ev))) none (mn (by decide)) s0 (by decide) (by decide) (by decide +kernel)
  have q3 := ask_v (ρ := E (some L3) Cd) (fa := (mCons (mTup (mCons (mTup (mCons (mK (.int 1)) (mCons (mK (.int 2)) mNil))) (mCons (mTup (mCons (mK (.int 1)) (mCons (mK (.int 2)) mNil))) mNil))) (mCons (mTup mNil) (mCons (mK (.int 10)) mNil)))) (rules := [[1, 2], [1, 2]]) (ps := []) (w := 10) hs rfl none (mn (by decide)) s0 (by decide) (by decide) (by decide +kernel)
  have q4 := ask_v (ρ := E (some L3) Cd) (fa := (mCons (mTup (mCons (mTup (mCons (mK (.int 0)) (mCons (mK (.int 1)) mNil))) (mCons (mTup (mCons (mK (.int 0)) (mCons (mK (.int 0)) (mCons (mK (.int 1)) mNil)))) mNil))) (mCons (mTup mNil) (mCons (mK (.int 7)) mNil)))) (rules := [[0, 1], [0, 0, 1]]) (ps := []) (w := 7) hs rfl (some 4) mT s0 (by decide) (by decide) (by decide +kernel)
  refine fin_nx (ρ1 := E (some L5) Cd) (s1 := s) (asg_v (w := L5) (lst_v (cons_v q1 (cons_v q2 (cons_v q3 (cons_v q4 nil_ev)))) (by show 4 ≤ 1000000; decide))) ?_
  refine (congrArg (finC _) (ret_v (w := .bl true) (bin_v (x := L5) (y := .lst [tI [0, 0, 0, 0, 1, 0], .non, .non, tI [0, 0, 0, 0, 1, 0, 0]]) rfl rfl (by rfl)))).trans finC_rt
end
end MP.K47
set_option Elab.async false
set_option linter.all false
set_option maxRecDepth 100000
set_option maxHeartbeats 1000000
namespace MP.K47
open PySem PySem.Spec MP MP.PG
open PyProof.Rows hiding St
open L2 hiding St r1
theorem fact (ns : List Int) (hn : ns.length ≤ 63) : ∃ s', g_law [.sq (ns.map .int)] [.tab 0 lq__law_back_right, .tab 1 lq__law_hand_right] = .ok (.bl true) s' := by
  let S0 : Sto := [.tab 0 lq__law_back_right, .tab 1 lq__law_hand_right]
  let Sc : Option Dv := some (.sq (ns.map .int))
  let E (x1 x2 : Option Dv) : Env := [Sc, x1, x2]
  have e0 : startD 3 [.sq (ns.map .int)] = E none none := rfl
  obtain ⟨ρ', s', f1, ⟨hcl, t0, t1⟩, x1, x2, rfl⟩ := for_ix (F := F_law_1) (g := t_law_1) (body := b_law_1) (ρ := E none none) (s := S0) (s1 := S0) (xs := rng 0 (3 + min ns.length 5))
    (fun i ρ s => (Cl s ∧ s[0]? = some (.tab 0 lq__law_back_right) ∧ s[1]? = some (.tab 1 lq__law_hand_right)) ∧ ∃ x1 x2, ρ = E x1 x2) (by
      refine range1_ok (j := ((3 + min ns.length 5 : Nat) : Int)) (cons_v (bin_v (x := .int 3) (y := .int ((min ns.length 5 : Nat) : Int)) k_ev (blt_v (cons_v (w := .int (ns.length : Int)) (blt_v (cons_v (w := .sq (ns.map .int)) rfl nil_ev) (by rw [len_sq, List.length_map])) (cons_v (w := .int 5) k_ev nil_ev)) ?_) ?_) nil_ev) (okR_s (by omega) (by omega))
      · show some (Dv.int (if (5 : Int) < (ns.length : Int) then 5 else (ns.length : Int))) = _
        congr 2
        split <;> omega
      · rw [add_ii, Int.natCast_add]
        rfl) ⟨⟨fun _ => rfl, rfl, rfl⟩, _, _, rfl⟩ fun i x ρ s hx ⟨⟨hcl, t0, t1⟩, x1, x2, hρ⟩ => by
      subst hρ
      obtain ⟨hi, rfl⟩ := rng_get hx
      have hi9 : i < 3 + min ns.length 5 := hi
      rw [Int.zero_add]
      let K : Option Dv := some (.int (i : Int))
      have ho : ClP s [] := fun n => ⟨hcl n, rfl⟩
      obtain ⟨l0, hb⟩ := begun_ok (pre := s) (ns := ns) (k := i) hn (by omega)
      generalize hcs : cellsOf ns i ++ [37 * (i : Int) + 11] = cs at hb
      have hc : cs ≠ [] := by rw [← hcs]; simp
      let M : Option Dv := some (.ref s.length)
      have a1 : mAsg (mCall (g__law_begun) (mCons (mVar 0) (mCons (mVar 1) mNil))) (gN 2) (E K x2) s = .nx (E K M) (St s [] cs l0 0) :=
        asg_v (w := .ref s.length) (call_v (cons_v (w := .sq (ns.map .int)) rfl (cons_v (w := .int (i : Int)) rfl nil_ev)) hb)
      obtain ⟨l1, p1, g1, q10, q11⟩ := rows_right_ok (pre := s) (cs := cs) (l := l0) (p := 0) ho hc (by decide) (by decide)
      obtain ⟨l2, p2, g2, q20, q21⟩ := back_right_ok (pre := s) (cs := cs) (l := l1) (p := p1) ho t0 hc q10 (by omega)
      obtain ⟨l3, p3, g3, q30, q31⟩ := menus_right_ok (pre := s) (cs := cs) (l := l2) (p := p2) ho hc q20 (by omega)
      have cv : ∀ {d : Fn} {S S2 : Sto} {w : Dv}, d [.ref s.length] S = .ok w S2 → mCall d (mCons (mVar 2) mNil) (E K M) S = .ok w S2 := fun h => call_v (cons_v (w := .ref s.length) rfl nil_ev) h
      have w1 : mTest (mCall (g__law_rows_right) (mCons (mVar 2) mNil)) (E K M) (St s [] cs l0 0) = .ok true (St s [] cs l1 p1) := test_v (cv g1)
      have w2 : mTest (mCall (g__law_back_right) (mCons (mVar 2) mNil)) (E K M) (St s [] cs l1 p1) = .ok true (St s [] cs l2 p2) := test_v (cv g2)
      have w3 : mTest (mCall (g__law_menus_right) (mCons (mVar 2) mNil)) (E K M) (St s [] cs l2 p2) = .ok true (St s [] cs l3 p3) := test_v (cv g3)
      have hl : 1 < s.length := (List.getElem?_eq_some_iff.mp t1).1
      refine ⟨E K x2, E K M, St s [] cs l3 p3, rfl, .inl ?_, ⟨fun n => St_clean ho, by unfold St; rw [List.getElem?_append_left (by omega), t0], by unfold St; rw [List.getElem?_append_left hl, t1]⟩, _, _, rfl⟩
      unfold b_law_1
      refine seq_nx a1 ?_
      rw [ifS_f (or_f (not_vt w1) (or_f (not_vt w2) (not_vt w3)))]
      rfl
  have fin : finC S0.length (mRet (mCall g__law_hand_right mNil) (E x1 x2) s') = finC S0.length (.rt (.bl true) s') := congrArg (finC _) (ret_v (w := .bl true) (call_v (fa := mNil) (ws := []) nil_ev (hand_ok hcl t1)))
  have hlast : ∃ s2, finC S0.length (.rt (.bl true) s') = .ok (.bl true) s2 := by
    show ∃ s2, finW S0.length (.bl true) s' = .ok (.bl true) s2
    unfold finW
    split
    · exact ⟨_, rfl⟩
    · rw [if_pos (by
        have := hcl S0.length
        exact List.all_eq_true.mpr fun o ho => List.all_eq_true.mp this o (List.mem_of_mem_take ho))]
      exact ⟨_, rfl⟩
  obtain ⟨s2, h2⟩ := hlast
  refine ⟨s2, ?_⟩
  unfold g_law d_law
  rw [den_ev, e0]
  exact fin_nx f1 (fin.trans h2)
end MP.K47
set_option Elab.async false
set_option linter.all false
set_option maxRecDepth 100000
open PySem PySem.W PyProof.Rows
set_option maxHeartbeats 0 in
theorem PySem.Challenge.cw_bestoflast_k47_whole_rules_told_back_holds : PySem.Challenge.rw_bestoflast_k47_whole_rules_told_back.Holds := by
  w_on; o_law; k_head; (case hw => w_witness2)
  k_fill
  refine MP.walk_GTs (l := PySem.Challenge.rw_bestoflast_k47_whole_rules_told_back) (n := 63) (k := 9) (x := "script") (ys := ["_law_back_right", "_law_hand_right"]) (qs := [MP.K47.lq__law_back_right, MP.K47.lq__law_hand_right]) rfl (by decide) rfl ⟨rfl, by decide, by decide⟩ (fun w h Y => PySem.W.km_in_of Y) ?Y ?F
  case Y =>
    intro y hy
    simp only [List.mem_cons, List.mem_nil_iff, or_false] at hy
    rcases hy with rfl | rfl <;> exact ⟨_, rfl⟩
  case F =>
    intro w mg fa h KX G hmg
    refine' MP.K47.all_mk KX G hmg ?a0 ?l0 ?c0 ?k0 ?a1 ?l1 ?c1 ?k1 ?a2 ?l2 ?c2 ?k2 ?a3 ?l3 ?c3 ?k3 ?a4 ?l4 ?c4 ?k4 ?a5 ?l5 ?c5 ?k5 ?a6 ?l6 ?c6 ?k6 ?a7 ?l7 ?c7 ?k7 ?a8 ?l8 ?c8 ?k8 ?a9 ?l9 ?c9 ?k9 ?a10 ?l10 ?c10 ?k10 ?a11 ?l11 ?c11 ?k11 ?a12 ?l12 ?c12 ?k12 ?a13 ?l13 ?c13 ?k13 ?a14 ?l14 ?c14 ?k14 ?a15 ?l15 ?c15 ?k15 ?a16 ?l16 ?c16 ?k16 ?a17 ?l17 ?c17 ?k17 ?a18 ?l18 ?c18 ?k18 ?a19 ?l19 ?c19 ?k19 ?a20 ?l20 ?c20 ?k20 ?a21 ?l21 ?c21 ?k21 ?a22 ?l22 ?c22 ?k22 ?a23 ?l23 ?c23 ?k23 ?a24 ?l24 ?c24 ?k24 ?a25 ?l25 ?c25 ?k25 ?a26 ?l26 ?c26 ?k26 ?a27 ?l27 ?c27 ?k27 ?a28 ?l28 ?c28 ?k28 ?a29 ?l29 ?c29 ?k29 ?a30 ?l30 ?c30 ?k30 ?a31 ?l31 ?c31 ?k31 ?a32 ?l32 ?c32 ?k32 ?a33 ?l33 ?c33 ?k33 ?a34 ?l34 ?c34 ?k34 ?a35 ?l35 ?c35 ?k35 ?a36 ?l36 ?c36 ?k36 ?a37 ?l37 ?c37 ?k37 ?a38 ?l38 ?c38 ?k38 ?a39 ?l39 ?c39 ?k39 ?a40 ?l40 ?c40 ?k40 ?a41 ?l41 ?c41 ?k41 ?a42 ?l42 ?c42 ?k42 ?a43 ?l43 ?c43 ?k43 ?a44 ?l44 ?c44 ?k44 ?z0 ?z1 ?z2 ?z3 ?z4 ?z5 ?z6 ?z7 ?z8 ?z9 ?z10 ?z11 ?z12 ?z13 ?z14 ?v0 ?w0 ?v1 ?v2 ?v3 ?v4 ?v5 ?v6 ?v7 ?v8 ?xt0 ?xp0 ?xn0 ?xt1 ?xp1 ?xn1 ?xd0_1 ?ka1 ?ka4 ?ka8 ?kg1 ?kk1 ?ks1 ?kd1 ?kc1 ?km1 ?ki1 ?ky1 ?kv1 ?kw1 ?kf1_number ?kf1_value ?s1_1 ?s1_4 ?s1_8 ?kg4 ?kk4 ?ks4 ?kd4 ?kc4 ?km4 ?ki4 ?ky4 ?kv4 ?kw4 ?kf4_number ?kf4_value ?s4_1 ?s4_4 ?s4_8 ?kg8 ?kk8 ?ks8 ?kd8 ?kc8 ?km8 ?ki8 ?ky8 ?kv8 ?kw8 ?kf8_number ?kf8_value ?s8_1 ?s8_4 ?s8_8 ?kn ?kt ?xl1 ?xr1 ?xs1 ?xk1 ?xi1 ?xy1 ?xf1 ?xc1 ?xl4 ?xr4 ?xs4 ?xk4 ?xi4 ?xy4 ?xf4 ?xc4 ?xl8 ?xe8 ?xs8 ?xk8 ?xi8 ?xy8 ?xf8 ?xc8 MP.K47.hd__law_heard MP.K47.fact
    (case a0 => k_is)
    (case l0 => k_is)
    (case c0 => k_is)
    (case k0 => k_is)
    (case a1 => k_is)
    (case l1 => k_is)
    (case c1 => k_is)
    (case k1 => k_is)
    (case a2 => k_is)
    (case l2 => k_is)
    (case c2 => k_is)
    (case k2 => k_is)
    (case a3 => k_is)
    (case l3 => k_is)
    (case c3 => k_is)
    (case k3 => k_is)
    (case a4 => k_is)
    (case l4 => k_is)
    (case c4 => k_is)
    (case k4 => k_is)
    (case a5 => k_is)
    (case l5 => k_is)
    (case c5 => k_is)
    (case k5 => k_is)
    (case a6 => k_is)
    (case l6 => k_is)
    (case c6 => k_is)
    (case k6 => k_is)
    (case a7 => k_is)
    (case l7 => k_is)
    (case c7 => k_is)
    (case k7 => k_is)
    (case a8 => k_is)
    (case l8 => k_is)
    (case c8 => k_is)
    (case k8 => k_is)
    (case a9 => k_is)
    (case l9 => k_is)
    (case c9 => k_is)
    (case k9 => k_is)
    (case a10 => k_is)
    (case l10 => k_is)
    (case c10 => k_is)
    (case k10 => k_is)
    (case a11 => k_is)
    (case l11 => k_is)
    (case c11 => k_is)
    (case k11 => k_is)
    (case a12 => k_is)
    (case l12 => k_is)
    (case c12 => k_is)
    (case k12 => k_is)
    (case a13 => k_is)
    (case l13 => k_is)
    (case c13 => k_is)
    (case k13 => k_is)
    (case a14 => k_is)
    (case l14 => k_is)
    (case c14 => k_is)
    (case k14 => k_is)
    (case a15 => k_is)
    (case l15 => k_is)
    (case c15 => k_is)
    (case k15 => k_is)
    (case a16 => k_is)
    (case l16 => k_is)
    (case c16 => k_is)
    (case k16 => k_is)
    (case a17 => k_is)
    (case l17 => k_is)
    (case c17 => k_is)
    (case k17 => k_is)
    (case a18 => k_is)
    (case l18 => k_is)
    (case c18 => k_is)
    (case k18 => k_is)
    (case a19 => k_is)
    (case l19 => k_is)
    (case c19 => k_is)
    (case k19 => k_is)
    (case a20 => k_is)
    (case l20 => k_is)
    (case c20 => k_is)
    (case k20 => k_is)
    (case a21 => k_is)
    (case l21 => k_is)
    (case c21 => k_is)
    (case k21 => k_is)
    (case a22 => k_is)
    (case l22 => k_is)
    (case c22 => k_is)
    (case k22 => k_is)
    (case a23 => k_is)
    (case l23 => k_is)
    (case c23 => k_is)
    (case k23 => k_is)
    (case a24 => k_is)
    (case l24 => k_is)
    (case c24 => k_is)
    (case k24 => k_is)
    (case a25 => k_is)
    (case l25 => k_is)
    (case c25 => k_is)
    (case k25 => k_is)
    (case a26 => k_is)
    (case l26 => k_is)
    (case c26 => k_is)
    (case k26 => k_is)
    (case a27 => k_is)
    (case l27 => k_is)
    (case c27 => k_is)
    (case k27 => k_is)
    (case a28 => k_is)
    (case l28 => k_is)
    (case c28 => k_is)
    (case k28 => k_is)
    (case a29 => k_is)
    (case l29 => k_is)
    (case c29 => k_is)
    (case k29 => k_is)
    (case a30 => k_is)
    (case l30 => k_is)
    (case c30 => k_is)
    (case k30 => k_is)
    (case a31 => k_is)
    (case l31 => k_is)
    (case c31 => k_is)
    (case k31 => k_is)
    (case a32 => k_is)
    (case l32 => k_is)
    (case c32 => k_is)
    (case k32 => k_is)
    (case a33 => k_is)
    (case l33 => k_is)
    (case c33 => k_is)
    (case k33 => k_is)
    (case a34 => k_is)
    (case l34 => k_is)
    (case c34 => k_is)
    (case k34 => k_is)
    (case a35 => k_is)
    (case l35 => k_is)
    (case c35 => k_is)
    (case k35 => k_is)
    (case a36 => k_is)
    (case l36 => k_is)
    (case c36 => k_is)
    (case k36 => k_is)
    (case a37 => k_is)
    (case l37 => k_is)
    (case c37 => k_is)
    (case k37 => k_is)
    (case a38 => k_is)
    (case l38 => k_is)
    (case c38 => k_is)
    (case k38 => k_is)
    (case a39 => k_is)
    (case l39 => k_is)
    (case c39 => k_is)
    (case k39 => k_is)
    (case a40 => k_is)
    (case l40 => k_is)
    (case c40 => k_is)
    (case k40 => k_is)
    (case a41 => k_is)
    (case l41 => k_is)
    (case c41 => k_is)
    (case k41 => k_is)
    (case a42 => k_is)
    (case l42 => k_is)
    (case c42 => k_is)
    (case k42 => k_is)
    (case a43 => k_is)
    (case l43 => k_is)
    (case c43 => k_is)
    (case k43 => k_is)
    (case a44 => k_is)
    (case l44 => k_is)
    (case c44 => k_is)
    (case k44 => k_is)
    (case z0 => k_is)
    (case z1 => k_is)
    (case z2 => k_is)
    (case z3 => k_is)
    (case z4 => k_is)
    (case z5 => k_is)
    (case z6 => k_is)
    (case z7 => k_is)
    (case z8 => k_is)
    (case z9 => k_is)
    (case z10 => k_is)
    (case z11 => k_is)
    (case z12 => k_is)
    (case z13 => k_is)
    (case z14 => k_is)
    (case v0 => k_is)
    (case w0 => first | rfl | kernel_rfl)
    (case v1 => k_is)
    (case v2 => k_is)
    (case v3 => k_is)
    (case v4 => k_is)
    (case v5 => k_is)
    (case v6 => k_is)
    (case v7 => k_is)
    (case v8 => k_is)
    (case xt0 => k_is)
    (case xp0 => rfl)
    (case xn0 => kernel_rfl)
    (case xt1 => k_is)
    (case xp1 => rfl)
    (case xn1 => kernel_rfl)
    (case xd0_1 => rfl)
    (case ka1 => k_is)
    (case ka4 => k_is)
    (case ka8 => k_is)
    (case kg1 => k_is)
    (case kk1 => k_is)
    (case ks1 => k_is)
    (case kd1 => k_is)
    (case kc1 => k_is)
    (case km1 => k_is)
    (case ki1 => k_is)
    (case ky1 => k_is)
    (case kv1 => k_is)
    (case kw1 => k_is)
    (case kf1_number => k_is)
    (case kf1_value => k_is)
    (case s1_1 => k_is)
    (case s1_4 => k_is)
    (case s1_8 => k_is)
    (case kg4 => k_is)
    (case kk4 => k_is)
    (case ks4 => k_is)
    (case kd4 => k_is)
    (case kc4 => k_is)
    (case km4 => k_is)
    (case ki4 => k_is)
    (case ky4 => k_is)
    (case kv4 => k_is)
    (case kw4 => k_is)
    (case kf4_number => k_is)
    (case kf4_value => k_is)
    (case s4_1 => k_is)
    (case s4_4 => k_is)
    (case s4_8 => k_is)
    (case kg8 => k_is)
    (case kk8 => k_is)
    (case ks8 => k_is)
    (case kd8 => k_is)
    (case kc8 => k_is)
    (case km8 => k_is)
    (case ki8 => k_is)
    (case ky8 => k_is)
    (case kv8 => k_is)
    (case kw8 => k_is)
    (case kf8_number => k_is)
    (case kf8_value => k_is)
    (case s8_1 => k_is)
    (case s8_4 => k_is)
    (case s8_8 => k_is)
    (case kn => k_is)
    (case kt => k_is)
    (case xl1 => k_is)
    (case xr1 => rfl)
    (case xs1 => k_is)
    (case xk1 => k_is)
    (case xi1 => k_is)
    (case xy1 => k_is)
    (case xf1 => k_is)
    (case xc1 => k_is)
    (case xl4 => k_is)
    (case xr4 => rfl)
    (case xs4 => k_is)
    (case xk4 => k_is)
    (case xi4 => k_is)
    (case xy4 => k_is)
    (case xf4 => k_is)
    (case xc4 => k_is)
    (case xl8 => k_is)
    (case xe8 => rfl)
    (case xs8 => k_is)
    (case xk8 => k_is)
    (case xi8 => k_is)
    (case xy8 => k_is)
    (case xf8 => k_is)
    (case xc8 => k_is)
