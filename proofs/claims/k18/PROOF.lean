import PyProof.Rows.All
import Wide.All
import OpenK.AllK
import Wide.FinOn
import HandS.ForMost
import HandS.ForExc
import HandS.WideBits
import HandS.Wide
import HandS.TupAny
import HandS.IsInst
import HandS.SortInts
import HandS.CallSlots
import HandS.MakeKw
import HandS.Flow
import HandS.ExcInit
import HandS.ExcValue
import HandS.Lambda
import KE.KDictKeyed
import HandS.TupMul
import KE.GoesNew
import KE.GoesMore
import KE.GoesEnum
import HandS.SetFor
import HandS.Strs
import HandS.Style
import KE.DataMinMax
import HandS.SortKw
import HandS.Zip
import KE.KDictZip
import HandS.ExcIs
import HandS.ExcField
import KE.KExcIs
import HandS.TryMany
import KE.KDflt
import HandS.EndTab
import PyProof.EqAt
import PyProof.NeKinds
import HandS.StrMore
import HandS.FStr
import HandS.RaiseMore
import KE.GoesEnumKw
import HandS.Text
import PyProof.StrLaws
import PyProof.StrLawsRepr
import PyProof.StrBlock2
import KE.KExcInit
import HandS.Property
import HandS.Star
import HandS.MakeKwOnly
import OpenK.KOps
import OpenK.KMeth
import HandS.Conv
import HandS.Finally
import HandS.HotCalls
import KE.KWithOwn
import KE.KIsAll
import PyProof.InstEq
import HandS.TryOnly
import HandS.RevRange
import HandS.Dict
import HandS.Flt
import HandS.Deep
import KE.KDictCopyH
import KE.KEqDict
import HandS.HeadWalk
import HandS.HeadEnd
import PySem.Challenge.RW_bestoflast_k18_copies_and_trials
set_option Elab.async false
set_option linter.all false
set_option maxRecDepth 100000
set_option maxHeartbeats 4000000
namespace MP
open PySem PySem.Spec PyProof.Rows L2
inductive Dv where
  | non | bl (b : Bool) | int (i : Int) | str (x : Str) | ty (n : String) | cl (c : Nat) | ref (n : Nat)
  | tup (ws : List Dv) | lst (ws : List Dv) | sq (ws : List Dv) | dct (ks : List Key) (ws : List Dv) | dtt (kd ws : List Dv) | exc (c : Nat) (f : Str) (w : Dv) | exn (c : Nat) | clo (a c : Addr) (q : Str) (ws : List Dv) (vs : List V)
  deriving Inhabited
inductive Ob where
  | lst (ws : List Dv) | dct (kws : List (Key × Dv)) | dtt (fr : Bool) (kws : List (Dv × Dv)) | obj (c : Nat) (fs : List (Str × Dv)) | tab (n : Nat) (q : Str)
  deriving Inhabited
abbrev Sto := List Ob
abbrev Env := List (Option Dv)
mutual
/-- an int, a tuple of ints and such tuples: as a key of a dict -/
def nk : Dv → Option PySem.NestedKey
  | .int i => some (.num i)
  | .tup ws => (nks ws).map .tup
  | _ => none
def nks : List Dv → Option (List PySem.NestedKey)
  | [] => some []
  | w :: ws => match nk w, nks ws with
    | some k, some ks => some (k :: ks)
    | _, _ => none
end
/-- what a dict's object tells: its keys, each with what stands for it, and its values -/
def DTf (a : Addr) (kvs : List (PySem.NestedKey × V × V)) : Heap → Prop := fun h => (a == sysModules) = false ∧ kvs.length ≤ sizeLine ∧ (∀ p ∈ kvs, p.1.depth ≤ 8) ∧
  ∃ xs : List (PySem.NestedKey × Addr × Value), Paired (fun (p : PySem.NestedKey × V × V) (q : PySem.NestedKey × Addr × Value) => p.1 = q.1 ∧ p.2.1 = .ref q.2.1 ∧ RelV p.2.2 q.2.2) kvs xs ∧
    ∃ (o : Obj) (es : Array DictEntry) (ep : Nat), h.get? a = some o ∧ o.ExactDict ∧ o.data = .dict es ep ∧ (∀ (P : Program) (w : World), es.toList = xs.map (entryOfKey (nestedKind P w))) ∧ (xs.map (·.1)).Nodup
abbrev DTO (a : Addr) (kvs : List (PySem.NestedKey × V × V)) : HO := .ext (DTf a kvs)
/-- such a dict stands at a, to be written or not any more -/
def HD (H : Hp) (a : Addr) (fr : Bool) (kvs : List (PySem.NestedKey × V × V)) : Prop := if fr = true then ∃ od, H a = some (.frz od (DTO a kvs)) else H a = some (DTO a kvs)
theorem HD.eq {H H' : Hp} {a : Addr} {fr : Bool} {kvs : List (PySem.NestedKey × V × V)} (h : HD H a fr kvs) (e : H' a = H a) : HD H' a fr kvs := by
  unfold HD at *
  rw [e]
  exact h
theorem HD.some {H : Hp} {a : Addr} {fr : Bool} {kvs : List (PySem.NestedKey × V × V)} (h : HD H a fr kvs) : H a ≠ none := by
  unfold HD at h
  split at h
  · obtain ⟨od, h⟩ := h
    rw [h]
    intro z; cases z
  · rw [h]
    intro z; cases z
/-- keys and values, told by data -/
def KVs (kd ws : List Dv) (kvs : List (PySem.NestedKey × V × V)) : Prop := kd.map nk = kvs.map (fun p => Option.some p.1) ∧ ws.length = kvs.length
structure Ex where
  c : Nat
  f : Str
  w : Dv
inductive R (α : Type) where
  | ok (a : α) (s : Sto) | er (x : Ex) (s : Sto) | no
def R.bind {α β : Type} (r : R α) (k : α → Sto → R β) : R β := match r with
  | .ok a s => k a s | .er x s => .er x s | .no => .no
inductive C where
  | nx (ρ : Env) (s : Sto) | rt (w : Dv) (s : Sto) | bk (ρ : Env) (s : Sto) | ct (ρ : Env) (s : Sto) | er (x : Ex) (ρ : Env) (s : Sto) | no
abbrev FE := Env → Sto → R Dv
abbrev FT := Env → Sto → R Bool
abbrev FA := Env → Sto → R (List Dv)
abbrev FS := Env → Sto → C
abbrev Fn := List Dv → Sto → R Dv
def lim : Nat := 16000000
abbrev Mu := Nat → Option Addr
/-- what is fixed: the written part, the classes of exceptions, the tables of code objects -/
structure Ct where
  K : PySem.W.Frag
  cls : Nat → Addr
  tb : Nat → Addr
abbrev Zs := Addr → Prop
def Fz (μ : Mu) (Z : Zs) (a : Addr) : Prop := (∀ n, μ n ≠ some a) ∧ ¬ Z a
def KL (K : PySem.W.Frag) (a : Addr) (xs : List V) : Prop := ∃ (o : Obj) (its : Array Value) (n : Nat), K.lookup a = some o ∧ o.cls = .type "list" ∧ o.dict = none ∧ o.data = .seq its n ∧ its.size ≤ sizeLine ∧ Vals xs its.toList
def KT (K : PySem.W.Frag) (a : Addr) (xs : List V) : Prop := ∃ (o : Obj) (its : Array Value) (n : Nat), K.lookup a = some o ∧ o.cls = .type "tuple" ∧ o.data = .seq its n ∧ its.size ≤ sizeLine ∧ Vals xs its.toList
def AtL (K : PySem.W.Frag) (H : Hp) (μ : Mu) (Z : Zs) (a : Addr) (xs : List V) : Prop := (Rd H a (.lst xs) ∧ Fz μ Z a) ∨ KL K a xs
def AtT (K : PySem.W.Frag) (H : Hp) (μ : Mu) (Z : Zs) (a : Addr) (xs : List V) : Prop := (Rd H a (.tup xs) ∧ Fz μ Z a) ∨ KT K a xs
theorem AtL.sq {K : PySem.W.Frag} {H : Hp} {μ : Mu} {Z : Zs} {a : Addr} {xs : List V} (h : AtL K H μ Z a xs) : SqL K H a xs := h.elim (fun z => .inl z.1) .inr
theorem AtT.sq {K : PySem.W.Frag} {H : Hp} {μ : Mu} {Z : Zs} {a : Addr} {xs : List V} (h : AtT K H μ Z a xs) : SqT K H a xs := h.elim (fun z => .inl z.1) .inr
structure Evo (H : Hp) (μ : Mu) (H' : Hp) (μ' : Mu) : Prop where
  keep : ∀ a o, H a = some o → (∀ n, μ n ≠ some a) → H' a = some o
  mu : ∀ n a, μ n = some a → μ' n = some a
  new : ∀ n a, μ' n = some a → μ n = some a ∨ H a = none
  stay : ∀ n a, μ n = some a → H a ≠ none → H' a ≠ none
section
variable {H H1 H' : Hp} {μ μ1 μ' : Mu} {Z : Zs} {a : Addr} {o : HO} {xs : List V} {K : PySem.W.Frag}
theorem Evo.refl : Evo H μ H μ := ⟨fun _ _ h _ => h, fun _ _ h => h, fun _ _ h => .inl h, fun _ _ _ h => h⟩
theorem Evo.alive (e : Evo H μ H' μ') (h : H a ≠ none) : H' a ≠ none := by
  by_cases hm : ∃ n, μ n = some a
  · obtain ⟨n, hn⟩ := hm
    exact e.stay n a hn h
  · cases q : H a with
    | none => exact absurd q h
    | some o => rw [e.keep a o q (fun n hn => hm ⟨n, hn⟩)]; intro z; cases z
theorem Evo.fz (e : Evo H μ H' μ') (h : H a ≠ none) (f : Fz μ Z a) : Fz μ' Z a := ⟨fun n hn => by
  rcases e.new n a hn with q | q
  · exact f.1 n q
  · exact h q, f.2⟩
theorem Evo.trans (e : Evo H μ H1 μ1) (f : Evo H1 μ1 H' μ') : Evo H μ H' μ' where
  keep := fun a o h hn => by
    have h1 := e.keep a o h hn
    exact f.keep a o h1 fun n q => by
      rcases e.new n a q with z | z
      · exact hn n z
      · rw [h] at z; cases z
  mu := fun n a h => f.mu n a (e.mu n a h)
  new := fun n a h => by
    rcases f.new n a h with q | q
    · exact e.new n a q
    · right
      cases z : H a with
      | none => rfl
      | some o => exact absurd q (e.alive (by rw [z]; intro y; cases y))
  stay := fun n a h q => f.alive (e.alive q)
theorem Rd.alive (h : Rd H a o) : H a ≠ none := by
  rcases h with h | ⟨_, h⟩ <;> (rw [h]; intro z; cases z)
theorem Rd.evo (e : Evo H μ H' μ') (h : Rd H a o) (f : Fz μ Z a) : Rd H' a o := by
  rcases h with h | ⟨u, h⟩
  · exact .inl (e.keep _ _ h f.1)
  · exact .inr ⟨u, e.keep _ _ h f.1⟩
theorem AtL.mono (e : Evo H μ H' μ') (h : AtL K H μ Z a xs) : AtL K H' μ' Z a xs := h.elim (fun ⟨r, f⟩ => .inl ⟨Rd.evo e r f, e.fz (Rd.alive r) f⟩) .inr
theorem AtT.mono (e : Evo H μ H' μ') (h : AtT K H μ Z a xs) : AtT K H' μ' Z a xs := h.elim (fun ⟨r, f⟩ => .inl ⟨Rd.evo e r f, e.fz (Rd.alive r) f⟩) .inr
/-- a new object -/
theorem Evo.laid {p : Addr} (hp : H p = none) : Evo H μ (upd H p o) μ where
  keep := fun a o h _ => by rw [upd_ne (ne_of_none h hp)]; exact h
  mu := fun _ _ h => h
  new := fun _ _ h => .inl h
  stay := fun n a _ h => by
    by_cases e : a = p
    · subst e; exact absurd hp h
    · rw [upd_ne e]; exact h
end
/-- an exception of the class at C, held as a value; its dict is at dx -/
def ExK (a C dx : Addr) : HO := .ext fun h => ∃ (oe : Obj) (vs : Array Value), h.get? a = some oe ∧ Zc (.ref C) (some dx) oe ∧ oe.data = .fields vs
mutual
def RV (Γ : Ct) (H : Hp) (μ : Mu) (Z : Zs) : Dv → V → Prop
  | .non, v => v = .non
  | .bl b, v => v = .bl b
  | .int i, v => v = .int i
  | .str x, v => v = .str x
  | .ty n, v => v = .ty n
  | .cl c, v => v = .ref (Γ.cls c)
  | .ref n, v => ∃ a, v = .ref a ∧ μ n = some a
  | .tup ws, v => ∃ a xs, v = .ref a ∧ AtT Γ.K H μ Z a xs ∧ RVs Γ H μ Z ws xs
  | .lst ws, v => ∃ a xs, v = .ref a ∧ H a = some (.lst xs) ∧ Fz μ Z a ∧ RVs Γ H μ Z ws xs
  | .sq ws, v => ∃ a xs, v = .ref a ∧ AtL Γ.K H μ Z a xs ∧ RVs Γ H μ Z ws xs
  | .dct ks ws, v => ∃ a kvs, v = .ref a ∧ H a = some (.dK kvs) ∧ Fz μ Z a ∧ kvs.map (·.1) = ks ∧ RVs Γ H μ Z ws (kvs.map (·.2))
  | .dtt kd ws, v => ∃ a kvs, v = .ref a ∧ HD H a true kvs ∧ Fz μ Z a ∧ KVs kd ws kvs ∧ RVs Γ H μ Z kd (kvs.map (·.2.1)) ∧ RVs Γ H μ Z ws (kvs.map (·.2.2))
  | .exc c f w, v => ∃ a dx x, v = .ref a ∧ H a = some (ExK a (Γ.cls c) dx) ∧ Fz μ Z a ∧ H dx = some (.xd [(f, x)]) ∧ Fz μ Z dx ∧ RV Γ H μ Z w x
  | .exn c, v => ∃ a, v = .ref a ∧ H a = some (ExO (.ref (Γ.cls c)) a) ∧ Fz μ Z a
  | .clo a c q ws vs, v => v = .ref a ∧ H c = some (LamX.CodeO c q) ∧ Fz μ Z c ∧ RVs Γ H μ Z ws vs
def RVs (Γ : Ct) (H : Hp) (μ : Mu) (Z : Zs) : List Dv → List V → Prop
  | [], vs => vs = []
  | w :: ws, vs => ∃ x xs, vs = x :: xs ∧ RV Γ H μ Z w x ∧ RVs Γ H μ Z ws xs
end
section
variable {Γ : Ct} {H H1 H' : Hp} {μ μ1 μ' : Mu} {Z Z' : Zs}
mutual
theorem RV.mono (e : Evo H μ H' μ') : ∀ (w : Dv) {v : V}, RV Γ H μ Z w v → RV Γ H' μ' Z w v
  | .non, _, h => h
  | .bl _, _, h => h
  | .int _, _, h => h
  | .str _, _, h => h
  | .ty _, _, h => h
  | .cl _, _, h => h
  | .ref n, _, h => by
    obtain ⟨a, h1, h2⟩ := h
    exact ⟨a, h1, e.mu n a h2⟩
  | .tup ws, _, h => by
    obtain ⟨a, xs, h1, h2, h3⟩ := h
    exact ⟨a, xs, h1, h2.mono e, RVs.mono e ws h3⟩
  | .lst ws, _, h => by
    obtain ⟨a, xs, h1, h2, h3, h4⟩ := h
    exact ⟨a, xs, h1, e.keep _ _ h2 h3.1, e.fz (by rw [h2]; intro z; cases z) h3, RVs.mono e ws h4⟩
  | .sq ws, _, h => by
    obtain ⟨a, xs, h1, h2, h3⟩ := h
    exact ⟨a, xs, h1, h2.mono e, RVs.mono e ws h3⟩
  | .dct ks ws, _, h => by
    obtain ⟨a, kvs, h1, h2, h3, h4, h5⟩ := h
    exact ⟨a, kvs, h1, e.keep _ _ h2 h3.1, e.fz (by rw [h2]; intro z; cases z) h3, h4, RVs.mono e ws h5⟩
  | .dtt kd ws, _, h => by
    obtain ⟨a, kvs, h1, h2, h3, h4, h5, h6⟩ := h
    exact ⟨a, kvs, h1, let ⟨od, z⟩ := h2; ⟨od, e.keep _ _ z h3.1⟩, e.fz h2.some h3, h4, RVs.mono e kd h5, RVs.mono e ws h6⟩
  | .exc c f w, _, h => by
    obtain ⟨a, dx, x, h1, h2, h3, h4, h5, h6⟩ := h
    exact ⟨a, dx, x, h1, e.keep _ _ h2 h3.1, e.fz (by rw [h2]; intro z; cases z) h3, e.keep _ _ h4 h5.1, e.fz (by rw [h4]; intro z; cases z) h5, RV.mono e w h6⟩
  | .exn c, _, h => by
    obtain ⟨a, h1, h2, h3⟩ := h
    exact ⟨a, h1, e.keep _ _ h2 h3.1, e.fz (by rw [h2]; intro z; cases z) h3⟩
  | .clo a c q ws vs, _, h => by
    obtain ⟨h1, h2, h3, h4⟩ := h
    exact ⟨h1, e.keep _ _ h2 h3.1, e.fz (by rw [h2]; intro z; cases z) h3, RVs.mono e ws h4⟩
theorem RVs.mono (e : Evo H μ H' μ') : ∀ (ws : List Dv) {vs : List V}, RVs Γ H μ Z ws vs → RVs Γ H' μ' Z ws vs
  | [], _, h => h
  | w :: ws, _, h => by
    obtain ⟨x, xs, h1, h2, h3⟩ := h
    exact ⟨x, xs, h1, RV.mono e w h2, RVs.mono e ws h3⟩
end
/-- what is hidden may change -/
structure EvoZ (Z : Zs) (H : Hp) (μ : Mu) (H' : Hp) (μ' : Mu) : Prop where
  keep : ∀ a o, H a = some o → (∀ n, μ n ≠ some a) → ¬ Z a → H' a = some o
  mu : ∀ n a, μ n = some a → μ' n = some a
  new : ∀ n a, μ' n = some a → μ n = some a ∨ H a = none
  live : ∀ a, H a ≠ none → H' a ≠ none
theorem Evo.z {H H' : Hp} {μ μ' : Mu} {Z : Zs} (e : Evo H μ H' μ') : EvoZ Z H μ H' μ' := ⟨fun a o h hn _ => e.keep a o h hn, e.mu, e.new, fun _ h => e.alive h⟩
theorem EvoZ.more {H H' : Hp} {μ μ' : Mu} {Z Z' : Zs} (h : ∀ a, Z a → Z' a) (e : EvoZ Z H μ H' μ') : EvoZ Z' H μ H' μ' := ⟨fun a o q hn z => e.keep a o q hn fun y => z (h a y), e.mu, e.new, e.live⟩
theorem EvoZ.trans {H H1 H' : Hp} {μ μ1 μ' : Mu} {Z : Zs} (e : EvoZ Z H μ H1 μ1) (f : EvoZ Z H1 μ1 H' μ') : EvoZ Z H μ H' μ' where
  keep := fun a o h hn z => by
    have h1 := e.keep a o h hn z
    exact f.keep a o h1 (fun n q => by
      rcases e.new n a q with y | y
      · exact hn n y
      · rw [h] at y; cases y) z
  mu := fun n a h => f.mu n a (e.mu n a h)
  new := fun n a h => by
    rcases f.new n a h with q | q
    · exact e.new n a q
    · right
      cases z : H a with
      | none => rfl
      | some o => exact absurd q (e.live a (by rw [z]; intro y; cases y))
  live := fun a h => f.live a (e.live a h)
theorem EvoZ.fz {H H' : Hp} {μ μ' : Mu} {Z : Zs} {a : Addr} (e : EvoZ Z H μ H' μ') (h : H a ≠ none) (f : Fz μ Z a) : Fz μ' Z a := ⟨fun n hn => by
  rcases e.new n a hn with q | q
  · exact f.1 n q
  · exact h q, f.2⟩
theorem Rd.evoZ {H H' : Hp} {μ μ' : Mu} {Z : Zs} {a : Addr} {o : HO} (e : EvoZ Z H μ H' μ') (h : Rd H a o) (f : Fz μ Z a) : Rd H' a o := by
  rcases h with h | ⟨u, h⟩
  · exact .inl (e.keep _ _ h f.1 f.2)
  · exact .inr ⟨u, e.keep _ _ h f.1 f.2⟩
theorem AtL.monoZ {K : PySem.W.Frag} {H H' : Hp} {μ μ' : Mu} {Z : Zs} {a : Addr} {xs : List V} (e : EvoZ Z H μ H' μ') (h : AtL K H μ Z a xs) : AtL K H' μ' Z a xs := h.elim (fun ⟨r, f⟩ => .inl ⟨Rd.evoZ e r f, e.fz (Rd.alive r) f⟩) .inr
theorem AtT.monoZ {K : PySem.W.Frag} {H H' : Hp} {μ μ' : Mu} {Z : Zs} {a : Addr} {xs : List V} (e : EvoZ Z H μ H' μ') (h : AtT K H μ Z a xs) : AtT K H' μ' Z a xs := h.elim (fun ⟨r, f⟩ => .inl ⟨Rd.evoZ e r f, e.fz (Rd.alive r) f⟩) .inr
mutual
theorem RV.monoZ (e : EvoZ Z H μ H' μ') : ∀ (w : Dv) {v : V}, RV Γ H μ Z w v → RV Γ H' μ' Z w v
  | .non, _, h => h
  | .bl _, _, h => h
  | .int _, _, h => h
  | .str _, _, h => h
  | .ty _, _, h => h
  | .cl _, _, h => h
  | .ref n, _, h => by
    obtain ⟨a, h1, h2⟩ := h
    exact ⟨a, h1, e.mu n a h2⟩
  | .tup ws, _, h => by
    obtain ⟨a, xs, h1, h2, h3⟩ := h
    exact ⟨a, xs, h1, h2.monoZ e, RVs.monoZ e ws h3⟩
  | .lst ws, _, h => by
    obtain ⟨a, xs, h1, h2, h3, h4⟩ := h
    exact ⟨a, xs, h1, e.keep _ _ h2 h3.1 h3.2, e.fz (by rw [h2]; intro z; cases z) h3, RVs.monoZ e ws h4⟩
  | .sq ws, _, h => by
    obtain ⟨a, xs, h1, h2, h3⟩ := h
    exact ⟨a, xs, h1, h2.monoZ e, RVs.monoZ e ws h3⟩
  | .dct ks ws, _, h => by
    obtain ⟨a, kvs, h1, h2, h3, h4, h5⟩ := h
    exact ⟨a, kvs, h1, e.keep _ _ h2 h3.1 h3.2, e.fz (by rw [h2]; intro z; cases z) h3, h4, RVs.monoZ e ws h5⟩
  | .dtt kd ws, _, h => by
    obtain ⟨a, kvs, h1, h2, h3, h4, h5, h6⟩ := h
    exact ⟨a, kvs, h1, let ⟨od, z⟩ := h2; ⟨od, e.keep _ _ z h3.1 h3.2⟩, e.fz h2.some h3, h4, RVs.monoZ e kd h5, RVs.monoZ e ws h6⟩
  | .exc c f w, _, h => by
    obtain ⟨a, dx, x, h1, h2, h3, h4, h5, h6⟩ := h
    exact ⟨a, dx, x, h1, e.keep _ _ h2 h3.1 h3.2, e.fz (by rw [h2]; intro z; cases z) h3, e.keep _ _ h4 h5.1 h5.2, e.fz (by rw [h4]; intro z; cases z) h5, RV.monoZ e w h6⟩
  | .exn c, _, h => by
    obtain ⟨a, h1, h2, h3⟩ := h
    exact ⟨a, h1, e.keep _ _ h2 h3.1 h3.2, e.fz (by rw [h2]; intro z; cases z) h3⟩
  | .clo a c q ws vs, _, h => by
    obtain ⟨h1, h2, h3, h4⟩ := h
    exact ⟨h1, e.keep _ _ h2 h3.1 h3.2, e.fz (by rw [h2]; intro z; cases z) h3, RVs.monoZ e ws h4⟩
theorem RVs.monoZ (e : EvoZ Z H μ H' μ') : ∀ (ws : List Dv) {vs : List V}, RVs Γ H μ Z ws vs → RVs Γ H' μ' Z ws vs
  | [], _, h => h
  | w :: ws, _, h => by
    obtain ⟨x, xs, h1, h2, h3⟩ := h
    exact ⟨x, xs, h1, RV.monoZ e w h2, RVs.monoZ e ws h3⟩
end
theorem Fz.weak {a : Addr} (h : ∀ a, Z a → Z' a) (f : Fz μ Z' a) : Fz μ Z a := ⟨f.1, fun z => f.2 (h a z)⟩
mutual
theorem RV.weak (h : ∀ a, Z a → Z' a) : ∀ (w : Dv) {v : V}, RV Γ H μ Z' w v → RV Γ H μ Z w v
  | .non, _, q => q
  | .bl _, _, q => q
  | .int _, _, q => q
  | .str _, _, q => q
  | .ty _, _, q => q
  | .cl _, _, q => q
  | .ref n, _, q => q
  | .tup ws, _, q => by
    obtain ⟨a, xs, h1, h2, h3⟩ := q
    exact ⟨a, xs, h1, h2.elim (fun z => .inl ⟨z.1, z.2.weak h⟩) .inr, RVs.weak h ws h3⟩
  | .lst ws, _, q => by
    obtain ⟨a, xs, h1, h2, h3, h4⟩ := q
    exact ⟨a, xs, h1, h2, h3.weak h, RVs.weak h ws h4⟩
  | .sq ws, _, q => by
    obtain ⟨a, xs, h1, h2, h3⟩ := q
    exact ⟨a, xs, h1, h2.elim (fun z => .inl ⟨z.1, z.2.weak h⟩) .inr, RVs.weak h ws h3⟩
  | .dct ks ws, _, q => by
    obtain ⟨a, kvs, h1, h2, h3, h4, h5⟩ := q
    exact ⟨a, kvs, h1, h2, h3.weak h, h4, RVs.weak h ws h5⟩
  | .dtt kd ws, _, q => by
    obtain ⟨a, kvs, h1, h2, h3, h4, h5, h6⟩ := q
    exact ⟨a, kvs, h1, h2, h3.weak h, h4, RVs.weak h kd h5, RVs.weak h ws h6⟩
  | .exc c f w, _, q => by
    obtain ⟨a, dx, x, h1, h2, h3, h4, h5, h6⟩ := q
    exact ⟨a, dx, x, h1, h2, h3.weak h, h4, h5.weak h, RV.weak h w h6⟩
  | .exn c, _, q => by
    obtain ⟨a, h1, h2, h3⟩ := q
    exact ⟨a, h1, h2, h3.weak h⟩
  | .clo a c _ ws vs, _, q => by
    obtain ⟨h1, h2, h3, h4⟩ := q
    exact ⟨h1, h2, h3.weak h, RVs.weak h ws h4⟩
theorem RVs.weak (h : ∀ a, Z a → Z' a) : ∀ (ws : List Dv) {vs : List V}, RVs Γ H μ Z' ws vs → RVs Γ H μ Z ws vs
  | [], _, q => q
  | w :: ws, _, q => by
    obtain ⟨x, xs, h1, h2, h3⟩ := q
    exact ⟨x, xs, h1, RV.weak h w h2, RVs.weak h ws h3⟩
end
/-- under a reserved address all may change -/
theorem Fz.evoZ {p a : Addr} (f : Fz μ (fun b => b = p ∨ Z b) a) : a ≠ p := fun e => f.2 (.inl e)
mutual
theorem RV.updZ {p : Addr} {o : HO} : ∀ (w : Dv) {v : V}, RV Γ H μ (fun b => b = p ∨ Z b) w v → RV Γ (upd H p o) μ (fun b => b = p ∨ Z b) w v
  | .non, _, q => q
  | .bl _, _, q => q
  | .int _, _, q => q
  | .str _, _, q => q
  | .ty _, _, q => q
  | .cl _, _, q => q
  | .ref n, _, q => q
  | .tup ws, _, q => by
    obtain ⟨a, xs, h1, h2, h3⟩ := q
    refine ⟨a, xs, h1, ?_, RVs.updZ ws h3⟩
    rcases h2 with ⟨h2, f⟩ | h2
    · refine .inl ⟨?_, f⟩
      unfold Rd
      rw [upd_ne f.evoZ]
      exact h2
    · exact .inr h2
  | .lst ws, _, q => by
    obtain ⟨a, xs, h1, h2, h3, h4⟩ := q
    exact ⟨a, xs, h1, by rw [upd_ne h3.evoZ]; exact h2, h3, RVs.updZ ws h4⟩
  | .sq ws, _, q => by
    obtain ⟨a, xs, h1, h2, h3⟩ := q
    refine ⟨a, xs, h1, ?_, RVs.updZ ws h3⟩
    rcases h2 with ⟨h2, f⟩ | h2
    · refine .inl ⟨?_, f⟩
      unfold Rd
      rw [upd_ne f.evoZ]
      exact h2
    · exact .inr h2
  | .dct ks ws, _, q => by
    obtain ⟨a, kvs, h1, h2, h3, h4, h5⟩ := q
    exact ⟨a, kvs, h1, by rw [upd_ne h3.evoZ]; exact h2, h3, h4, RVs.updZ ws h5⟩
  | .dtt kd ws, _, q => by
    obtain ⟨a, kvs, h1, h2, h3, h4, h5, h6⟩ := q
    exact ⟨a, kvs, h1, h2.eq (upd_ne h3.evoZ), h3, h4, RVs.updZ kd h5, RVs.updZ ws h6⟩
  | .exc c f w, _, q => by
    obtain ⟨a, dx, x, h1, h2, h3, h4, h5, h6⟩ := q
    exact ⟨a, dx, x, h1, by rw [upd_ne h3.evoZ]; exact h2, h3, by rw [upd_ne h5.evoZ]; exact h4, h5, RV.updZ w h6⟩
  | .exn c, _, q => by
    obtain ⟨a, h1, h2, h3⟩ := q
    exact ⟨a, h1, by rw [upd_ne h3.evoZ]; exact h2, h3⟩
  | .clo a c _ ws vs, _, q => by
    obtain ⟨h1, h2, h3, h4⟩ := q
    exact ⟨h1, by rw [upd_ne h3.evoZ]; exact h2, h3, RVs.updZ ws h4⟩
theorem RVs.updZ {p : Addr} {o : HO} : ∀ (ws : List Dv) {vs : List V}, RVs Γ H μ (fun b => b = p ∨ Z b) ws vs → RVs Γ (upd H p o) μ (fun b => b = p ∨ Z b) ws vs
  | [], _, q => q
  | w :: ws, _, q => by
    obtain ⟨x, xs, h1, h2, h3⟩ := q
    exact ⟨x, xs, h1, RV.updZ w h2, RVs.updZ ws h3⟩
end
theorem RVs.nil : RVs Γ H μ Z [] [] := rfl
theorem RVs.cons {w : Dv} {ws : List Dv} {x : V} {xs : List V} (h : RV Γ H μ Z w x) (t : RVs Γ H μ Z ws xs) : RVs Γ H μ Z (w :: ws) (x :: xs) := ⟨x, xs, rfl, h, t⟩
theorem RVs.len : ∀ {ws : List Dv} {xs : List V}, RVs Γ H μ Z ws xs → xs.length = ws.length
  | [], _, h => by rw [show _ = [] from h]; rfl
  | w :: ws, _, h => by
    obtain ⟨x, xs, rfl, _, h3⟩ := h
    rw [List.length_cons, List.length_cons, RVs.len h3]
theorem RVs.get : ∀ {ws : List Dv} {xs : List V} {i : Nat} {w : Dv}, RVs Γ H μ Z ws xs → ws[i]? = some w → ∃ x, xs[i]? = some x ∧ RV Γ H μ Z w x
  | [], _, _, _, _, e => by cases e
  | a :: ws, _, 0, w, h, e => by
    obtain ⟨x, xs, rfl, h2, _⟩ := h
    cases e
    exact ⟨x, rfl, h2⟩
  | a :: ws, _, i + 1, w, h, e => by
    obtain ⟨x, xs, rfl, _, h3⟩ := h
    obtain ⟨y, e1, e2⟩ := RVs.get (i := i) (w := w) h3 (by simpa using e)
    exact ⟨y, by simpa using e1, e2⟩
theorem RVs.append : ∀ {ws us : List Dv} {xs ys : List V}, RVs Γ H μ Z ws xs → RVs Γ H μ Z us ys → RVs Γ H μ Z (ws ++ us) (xs ++ ys)
  | [], _, _, _, h, q => by rw [show _ = [] from h]; exact q
  | a :: ws, _, _, _, h, q => by
    obtain ⟨x, xs, rfl, h2, h3⟩ := h
    exact RVs.cons h2 (RVs.append h3 q)
theorem RVs.drop : ∀ {ws : List Dv} {xs : List V} (n : Nat), RVs Γ H μ Z ws xs → RVs Γ H μ Z (ws.drop n) (xs.drop n)
  | _, _, 0, h => h
  | [], _, _ + 1, h => by rw [show _ = [] from h]; exact rfl
  | _ :: ws, _, n + 1, h => by
    obtain ⟨x, xs, rfl, _, h3⟩ := h
    exact RVs.drop n h3
theorem RVs.take : ∀ {ws : List Dv} {xs : List V} (n : Nat), RVs Γ H μ Z ws xs → RVs Γ H μ Z (ws.take n) (xs.take n)
  | _, _, 0, _ => rfl
  | [], _, _ + 1, h => by rw [show _ = [] from h]; exact rfl
  | _ :: ws, _, n + 1, h => by
    obtain ⟨x, xs, rfl, h2, h3⟩ := h
    exact RVs.cons h2 (RVs.take n h3)
theorem RVs.ints : ∀ {ns : List Int} {xs : List V}, RVs Γ H μ Z (ns.map .int) xs → xs = ns.map .int
  | [], _, h => h
  | n :: ns, _, h => by
    obtain ⟨x, xs, rfl, h2, h3⟩ := h
    rw [show x = V.int n from h2, RVs.ints h3]
    rfl
theorem RVs.of_ints : ∀ (ns : List Int), RVs Γ H μ Z (ns.map .int) (ns.map .int)
  | [] => rfl
  | n :: ns => RVs.cons rfl (RVs.of_ints ns)
theorem RVs.rep {ws : List Dv} {xs : List V} (h : RVs Γ H μ Z ws xs) : ∀ k : Nat, RVs Γ H μ Z (List.replicate k ws).flatten (List.replicate k xs).flatten
  | 0 => rfl
  | k + 1 => by
    rw [List.replicate_succ, List.replicate_succ, List.flatten_cons, List.flatten_cons]
    exact RVs.append h (RVs.rep h k)
end
def RO (Γ : Ct) (H : Hp) (μ : Mu) (Z : Zs) (a : Addr) : Ob → Prop
  | .lst ws => ∃ xs, H a = some (.lst xs) ∧ RVs Γ H μ Z ws xs
  | .dct kws => ∃ kvs, H a = some (.dK kvs) ∧ kvs.map (·.1) = kws.map (·.1) ∧ RVs Γ H μ Z (kws.map (·.2)) (kvs.map (·.2))
  | .dtt fr kws => ∃ kvs, HD H a fr kvs ∧ KVs (kws.map (·.1)) (kws.map (·.2)) kvs ∧ RVs Γ H μ Z (kws.map (·.1)) (kvs.map (·.2.1)) ∧ RVs Γ H μ Z (kws.map (·.2)) (kvs.map (·.2.2))
  | .obj c fs => ∃ dx kvs, H a = some (.ins (Γ.cls c) dx kvs) ∧ kvs.map (·.1) = fs.map (·.1) ∧ RVs Γ H μ Z (fs.map (·.2)) (kvs.map (·.2))
  | .tab n q => a = Γ.tb n ∧ ∃ ps : Array Value, H a = some (.tbl ps) ∧ TriplesOk ps.toList ∧ ∀ (pos : Pos) (cv : Value), codeAmong pos ps.toList = some cv → ∃ c, cv = .ref c ∧ H c = some (LamX.CodeO c q) ∧ Fz μ Z c
theorem tab_imp {H H' : Hp} {μ μ' : Mu} {Z Z' : Zs} {a : Addr} {q : Str} (hH : H' a = H a) (k : ∀ c, H c = some (LamX.CodeO c q) → Fz μ Z c → H' c = some (LamX.CodeO c q) ∧ Fz μ' Z' c)
    (h : ∃ ps : Array Value, H a = some (.tbl ps) ∧ TriplesOk ps.toList ∧ ∀ (pos : Pos) (cv : Value), codeAmong pos ps.toList = some cv → ∃ c, cv = .ref c ∧ H c = some (LamX.CodeO c q) ∧ Fz μ Z c) :
    ∃ ps : Array Value, H' a = some (.tbl ps) ∧ TriplesOk ps.toList ∧ ∀ (pos : Pos) (cv : Value), codeAmong pos ps.toList = some cv → ∃ c, cv = .ref c ∧ H' c = some (LamX.CodeO c q) ∧ Fz μ' Z' c := by
  obtain ⟨ps, h1, h2, h3⟩ := h
  refine ⟨ps, hH.trans h1, h2, fun pos cv e => ?_⟩
  obtain ⟨c, e1, e2, e3⟩ := h3 pos cv e
  exact ⟨c, e1, k c e2 e3⟩
structure Rep (Γ : Ct) (H : Hp) (μ : Mu) (Z : Zs) (s : Sto) : Prop where
  «at» : ∀ (n : Nat) (o : Ob), s[n]? = some o → ∃ a, μ n = some a ∧ ¬ Z a ∧ RO Γ H μ Z a o
  inj : ∀ n m a, μ n = some a → μ m = some a → n = m
  dom : ∀ n a, μ n = some a → n < s.length
  za : ∀ a, Z a → H a ≠ none
def RE (Γ : Ct) (H : Hp) (μ : Mu) (Z : Zs) (ρ : Env) (σ : L2.St) : Prop := ρ.length = σ.length ∧ ∀ (i : Nat) (w : Dv), ρ[i]? = some (some w) → ∃ v, σ[i]? = some (some v) ∧ RV Γ H μ Z w v
/-- an exception on its way: its class, its dict -/
def RX (Γ : Ct) (H : Hp) (μ : Mu) (Z : Zs) (x : Ex) (cls : Value) (d : Option Addr) : Prop := (x.c = 99 ∧ cls = .type "KeyError") ∨ (x.c ≠ 99 ∧ cls = .ref (Γ.cls x.c) ∧ ∃ dd v, d = some dd ∧ H dd = some (.xd [(x.f, v)]) ∧ Fz μ Z dd ∧ RV Γ H μ Z x.w v)
section
variable {Γ : Ct} {H H1 H' : Hp} {μ μ1 μ' : Mu} {Z Z' : Zs} {ρ : Env} {σ : L2.St} {s : Sto} {p : Addr} {o : HO}
theorem RE.mono (e : Evo H μ H' μ') (h : RE Γ H μ Z ρ σ) : RE Γ H' μ' Z ρ σ := ⟨h.1, fun i w q => by
  obtain ⟨v, h1, h2⟩ := h.2 i w q
  exact ⟨v, h1, h2.mono e⟩⟩
theorem RE.set {w : Dv} {v : V} (i : Nat) (h : RE Γ H μ Z ρ σ) (r : RV Γ H μ Z w v) : RE Γ H μ Z (ρ.set i (some w)) (σ.set i (some v)) := by
  refine ⟨by rw [List.length_set, List.length_set]; exact h.1, fun j u q => ?_⟩
  by_cases e : i = j
  · subst e
    have hl : i < ρ.length := by
      have := (List.getElem?_eq_some_iff.mp q).1
      simpa using this
    rw [List.getElem?_set_self hl] at q
    cases q
    exact ⟨v, List.getElem?_set_self (by rw [← h.1]; exact hl), r⟩
  · rw [List.getElem?_set_ne e] at q
    rw [List.getElem?_set_ne e]
    exact h.2 j u q
theorem RE.del (i : Nat) (h : RE Γ H μ Z ρ σ) : RE Γ H μ Z (ρ.set i none) (σ.set i none) := by
  refine ⟨by rw [List.length_set, List.length_set]; exact h.1, fun j u q => ?_⟩
  by_cases e : i = j
  · subst e
    have hl : i < ρ.length := by
      have := (List.getElem?_eq_some_iff.mp q).1
      simpa using this
    rw [List.getElem?_set_self hl] at q
    cases q
  · rw [List.getElem?_set_ne e] at q
    rw [List.getElem?_set_ne e]
    exact h.2 j u q
theorem RE.weak (h : ∀ a, Z a → Z' a) (r : RE Γ H μ Z' ρ σ) : RE Γ H μ Z ρ σ := ⟨r.1, fun i w q => by
  obtain ⟨v, h1, h2⟩ := r.2 i w q
  exact ⟨v, h1, h2.weak h⟩⟩
theorem RX.mono {x : Ex} {cls : Value} {d : Option Addr} (e : Evo H μ H' μ') (h : RX Γ H μ Z x cls d) : RX Γ H' μ' Z x cls d := by
  rcases h with h | ⟨h0, h1, dd, v, h2, h3, h4, h5⟩
  · exact .inl h
  · exact .inr ⟨h0, h1, dd, v, h2, e.keep _ _ h3 h4.1, e.fz (by rw [h3]; intro z; cases z) h4, h5.mono e⟩
/-- the store's objects stay where the heap grows beside them -/
theorem Rep.keep (R : Rep Γ H μ Z s) (e : Evo H μ H' μ) (h : ∀ n a, μ n = some a → H' a = H a) : Rep Γ H' μ Z s := ⟨fun n o q => by
  obtain ⟨a, h1, h2, h3⟩ := R.at n o q
  refine ⟨a, h1, h2, ?_⟩
  cases o with
  | lst ws =>
    obtain ⟨xs, h4, h5⟩ := h3
    exact ⟨xs, (h n a h1).trans h4, h5.mono e⟩
  | dct kws =>
    obtain ⟨kvs, h4, h5, h6⟩ := h3
    exact ⟨kvs, (h n a h1).trans h4, h5, h6.mono e⟩
  | dtt fr kws =>
    obtain ⟨kvs, h4, h5, h6, h7⟩ := h3
    exact ⟨kvs, h4.eq (h n a h1), h5, h6.mono e, h7.mono e⟩
  | obj c fs =>
    obtain ⟨dx, kvs, h4, h5, h6⟩ := h3
    exact ⟨dx, kvs, (h n a h1).trans h4, h5, h6.mono e⟩
  | tab m q => exact ⟨h3.1, tab_imp (h n a h1) (fun c e1 e2 => ⟨e.keep _ _ e1 e2.1, e.fz (by rw [e1]; intro z; cases z) e2⟩) h3.2⟩, R.inj, R.dom, fun a q => e.alive (R.za a q)⟩
theorem RO.alive {a : Addr} {o : Ob} (h : RO Γ H μ Z a o) : H a ≠ none := by
  cases o with
  | lst ws => obtain ⟨_, h, _⟩ := h; rw [h]; intro z; cases z
  | dct kws => obtain ⟨_, h, _⟩ := h; rw [h]; intro z; cases z
  | dtt fr kws => obtain ⟨_, h, _⟩ := h; exact h.some
  | obj c fs => obtain ⟨_, _, h, _⟩ := h; rw [h]; intro z; cases z
  | tab m q => obtain ⟨_, _, h, _⟩ := h; rw [h]; intro z; cases z
theorem Rep.alive (R : Rep Γ H μ Z s) {n : Nat} {a : Addr} (h : μ n = some a) : H a ≠ none := by
  have hl := R.dom n a h
  obtain ⟨b, h1, _, h3⟩ := R.at n _ (List.getElem?_eq_getElem hl)
  rw [h] at h1
  cases h1
  exact h3.alive
theorem Rep.notZ (R : Rep Γ H μ Z s) {n : Nat} {a : Addr} (h : μ n = some a) : ¬ Z a := by
  have hl := R.dom n a h
  obtain ⟨b, h1, h2, h3⟩ := R.at n _ (List.getElem?_eq_getElem hl)
  rw [h] at h1
  cases h1
  exact h2
theorem Rep.laid (R : Rep Γ H μ Z s) (hp : H p = none) : Rep Γ (upd H p o) μ Z s := R.keep (Evo.laid hp) fun n a h => upd_ne fun e => R.alive h (e ▸ hp)
theorem Rep.fz (R : Rep Γ H μ Z s) (hp : H p = none) : Fz μ Z p := ⟨fun n h => R.alive h hp, fun z => R.za p z hp⟩
end
end MP
set_option Elab.async false
set_option linter.all false
set_option maxRecDepth 100000
set_option maxHeartbeats 4000000
namespace MP
open PySem PySem.Spec PyProof.Rows L2
section
variable (Γ : Ct) (W : WX) (H : Hp) (μ : Mu) (Z : Zs) (σ : L2.St)
def PostE (Q : VK) : R Dv → Prop
  | .ok w s' => ∀ v H' μ', Evo H μ H' μ' → Rep Γ H' μ' Z s' → RV Γ H' μ' Z w v → Q v H'
  | .er x s' => ∀ cls d H' μ', Evo H μ H' μ' → Rep Γ H' μ' Z s' → RX Γ H' μ' Z x cls d → W cls d σ H'
  | .no => False
def PostT (Q : Bool → Hp → Prop) : R Bool → Prop
  | .ok b s' => ∀ H' μ', Evo H μ H' μ' → Rep Γ H' μ' Z s' → Q b H'
  | .er x s' => ∀ cls d H' μ', Evo H μ H' μ' → Rep Γ H' μ' Z s' → RX Γ H' μ' Z x cls d → W cls d σ H'
  | .no => False
def PostA (Q : List V → Hp → Prop) : R (List Dv) → Prop
  | .ok ws s' => ∀ vs H' μ', Evo H μ H' μ' → Rep Γ H' μ' Z s' → RVs Γ H' μ' Z ws vs → Q vs H'
  | .er x s' => ∀ cls d H' μ', Evo H μ H' μ' → Rep Γ H' μ' Z s' → RX Γ H' μ' Z x cls d → W cls d σ H'
  | .no => False
def PostS (D : Ends) : C → Prop
  | .nx ρ' s' => ∀ σ' H' μ', Evo H μ H' μ' → Rep Γ H' μ' Z s' → RE Γ H' μ' Z ρ' σ' → D.nx σ' H'
  | .bk ρ' s' => ∀ σ' H' μ', Evo H μ H' μ' → Rep Γ H' μ' Z s' → RE Γ H' μ' Z ρ' σ' → D.bk σ' H'
  | .ct ρ' s' => ∀ σ' H' μ', Evo H μ H' μ' → Rep Γ H' μ' Z s' → RE Γ H' μ' Z ρ' σ' → D.ct σ' H'
  | .rt w s' => ∀ v H' μ', Evo H μ H' μ' → Rep Γ H' μ' Z s' → RV Γ H' μ' Z w v → D.rt v H'
  | .er x ρ' s' => ∀ cls d σ' H' μ', Evo H μ H' μ' → Rep Γ H' μ' Z s' → RE Γ H' μ' Z ρ' σ' → RX Γ H' μ' Z x cls d → W cls d σ' H'
  | .no => False
end
def rdE (Γ : Ct) (W : WX) (f : FE) : TE := fun σ H Q => ∃ μ Z ρ s, RE Γ H μ Z ρ σ ∧ Rep Γ H μ Z s ∧ PostE Γ W H μ Z σ Q (f ρ s)
def rdT (Γ : Ct) (W : WX) (f : FT) : TT := fun σ H Q => ∃ μ Z ρ s, RE Γ H μ Z ρ σ ∧ Rep Γ H μ Z s ∧ PostT Γ W H μ Z σ Q (f ρ s)
def rdA (Γ : Ct) (W : WX) (f : FA) : TA := fun σ H Q => ∃ μ Z ρ s, RE Γ H μ Z ρ σ ∧ Rep Γ H μ Z s ∧ PostA Γ W H μ Z σ Q (f ρ s)
def rdS (Γ : Ct) (W : WX) (f : FS) : TS := fun D σ H => ∃ μ Z ρ s, RE Γ H μ Z ρ σ ∧ Rep Γ H μ Z s ∧ PostS Γ W H μ Z D (f ρ s)
def ME (X : Cx) (Γ : Ct) (W : WX) (e : Expr) (f : FE) : Prop := PE X e (rdE Γ W f)
def MT (X : Cx) (Γ : Ct) (W : WX) (e : Expr) (f : FT) : Prop := PT X e (rdT Γ W f)
def MW (X : Cx) (Γ : Ct) (W : WX) (e : Expr) (f : FT) : Prop := PW X e (rdT Γ W f)
def MA (X : Cx) (Γ : Ct) (W : WX) (es : List Expr) (f : FA) : Prop := PA X es (rdA Γ W f)
def MS (X : Cx) (Γ : Ct) (W : WX) (st : Stmt) (f : FS) : Prop := PS X st (rdS Γ W f)
def MB (X : Cx) (Γ : Ct) (W : WX) (st : List Stmt) (f : FS) : Prop := PSs X st (rdS Γ W f)
theorem PE.imp {X : Cx} {e : Expr} {t t' : TE} (h : PE X e t) (k : ∀ σ H Q, t' σ H Q → t σ H Q) : PE X e t' := ⟨fun pins s σ H Q I q => h.run pins s σ H Q I (k σ H Q q)⟩
theorem PT.imp {X : Cx} {e : Expr} {t t' : TT} (h : PT X e t) (k : ∀ σ H Q, t' σ H Q → t σ H Q) : PT X e t' := ⟨fun pins s σ H Q I q => h.run pins s σ H Q I (k σ H Q q)⟩
theorem PW.imp {X : Cx} {e : Expr} {t t' : TT} (h : PW X e t) (k : ∀ σ H Q, t' σ H Q → t σ H Q) : PW X e t' := ⟨fun wh pins s σ H Q I q => h.run wh pins s σ H Q I (k σ H Q q)⟩
theorem PA.imp {X : Cx} {e : List Expr} {t t' : TA} (h : PA X e t) (k : ∀ σ H Q, t' σ H Q → t σ H Q) : PA X e t' := ⟨fun pos pins s σ H Q I q => h.run pos pins s σ H Q I (k σ H Q q)⟩
theorem PS.imp {X : Cx} {e : Stmt} {t t' : TS} (h : PS X e t) (k : ∀ D σ H, t' D σ H → t D σ H) : PS X e t' := ⟨fun pins s σ H D I q => h.run pins s σ H D I (k D σ H q)⟩
theorem PSs.imp {X : Cx} {e : List Stmt} {t t' : TS} (h : PSs X e t) (k : ∀ D σ H, t' D σ H → t D σ H) : PSs X e t' := ⟨fun pins s σ H D I q => h.run pins s σ H D I (k D σ H q)⟩
theorem PE.or {X : Cx} {e : Expr} {t t' : TE} (h : PE X e t) (h' : PE X e t') : PE X e (fun σ H Q => t σ H Q ∨ t' σ H Q) := ⟨fun pins s σ H Q I q => q.elim (h.run pins s σ H Q I) (h'.run pins s σ H Q I)⟩
theorem OpR.or2 {X : Cx} {f : Value → Value → Sem Value} {r r' : R2} (h : OpR X f r) (h' : OpR X f r') : OpR X f (fun x y H Q => r x y H Q ∨ r' x y H Q) := fun pins s σ H x y v u Q I rx ry q => q.elim (h pins s σ H x y v u Q I rx ry) (h' pins s σ H x y v u Q I rx ry)
theorem CallR.or2 {X : Cx} {f : Value} {r r' : List V → Hp → VK → Prop} (h : CallR X f r) (h' : CallR X f r') : CallR X f (fun x H Q => r x H Q ∨ r' x H Q) := fun pins s σ H x v Q I rx q => q.elim (h pins s σ H x v Q I rx) (h' pins s σ H x v Q I rx)
def R.thenC {α : Type} (r : R α) (ρ : Env) (k : α → Sto → C) : C := match r with
  | .ok a s => k a s | .er x s => .er x ρ s | .no => .no
def R.of {α : Type} (o : Option α) (s : Sto) : R α := match o with
  | some a => .ok a s | none => .no
section
variable {Γ : Ct} {W : WX} {H H1 : Hp} {μ μ1 : Mu} {Z : Zs} {σ : L2.St} {ρ : Env} {s : Sto}
theorem PostE.evo {Q : VK} {r : R Dv} (e : Evo H μ H1 μ1) (h : PostE Γ W H μ Z σ Q r) : PostE Γ W H1 μ1 Z σ Q r := by
  cases r with
  | ok w s' => exact fun v H' μ' e' => h v H' μ' (e.trans e')
  | er x s' => exact fun c d H' μ' e' => h c d H' μ' (e.trans e')
  | no => exact h
theorem PostT.evo {Q : Bool → Hp → Prop} {r : R Bool} (e : Evo H μ H1 μ1) (h : PostT Γ W H μ Z σ Q r) : PostT Γ W H1 μ1 Z σ Q r := by
  cases r with
  | ok w s' => exact fun H' μ' e' => h H' μ' (e.trans e')
  | er x s' => exact fun c d H' μ' e' => h c d H' μ' (e.trans e')
  | no => exact h
theorem PostA.evo {Q : List V → Hp → Prop} {r : R (List Dv)} (e : Evo H μ H1 μ1) (h : PostA Γ W H μ Z σ Q r) : PostA Γ W H1 μ1 Z σ Q r := by
  cases r with
  | ok w s' => exact fun v H' μ' e' => h v H' μ' (e.trans e')
  | er x s' => exact fun c d H' μ' e' => h c d H' μ' (e.trans e')
  | no => exact h
theorem PostS.evo {D : Ends} {r : C} (e : Evo H μ H1 μ1) (h : PostS Γ W H μ Z D r) : PostS Γ W H1 μ1 Z D r := by
  cases r with
  | nx ρ' s' => exact fun v H' μ' e' => h v H' μ' (e.trans e')
  | bk ρ' s' => exact fun v H' μ' e' => h v H' μ' (e.trans e')
  | ct ρ' s' => exact fun v H' μ' e' => h v H' μ' (e.trans e')
  | rt w s' => exact fun v H' μ' e' => h v H' μ' (e.trans e')
  | er x ρ' s' => exact fun c d σ' H' μ' e' => h c d σ' H' μ' (e.trans e')
  | no => exact h
theorem eE {f : FE} {k : Dv → Sto → R Dv} {Q Q' : VK} (hE : RE Γ H μ Z ρ σ) (hR : Rep Γ H μ Z s) (h : PostE Γ W H μ Z σ Q ((f ρ s).bind k))
    (hk : ∀ x s1 v H1 μ1, Evo H μ H1 μ1 → RE Γ H1 μ1 Z ρ σ → Rep Γ H1 μ1 Z s1 → RV Γ H1 μ1 Z x v → PostE Γ W H1 μ1 Z σ Q (k x s1) → Q' v H1) : rdE Γ W f σ H Q' := by
  refine ⟨μ, Z, ρ, s, hE, hR, ?_⟩
  cases e : f ρ s with
  | ok x s1 =>
    rw [e] at h
    exact fun v H1 μ1 ev R1 r1 => hk x s1 v H1 μ1 ev (hE.mono ev) R1 r1 (PostE.evo ev h)
  | er x s1 => rw [e] at h; exact h
  | no => rw [e] at h; exact h.elim
theorem eT {f : FE} {k : Dv → Sto → R Bool} {Q : Bool → Hp → Prop} {Q' : VK} (hE : RE Γ H μ Z ρ σ) (hR : Rep Γ H μ Z s) (h : PostT Γ W H μ Z σ Q ((f ρ s).bind k))
    (hk : ∀ x s1 v H1 μ1, Evo H μ H1 μ1 → RE Γ H1 μ1 Z ρ σ → Rep Γ H1 μ1 Z s1 → RV Γ H1 μ1 Z x v → PostT Γ W H1 μ1 Z σ Q (k x s1) → Q' v H1) : rdE Γ W f σ H Q' := by
  refine ⟨μ, Z, ρ, s, hE, hR, ?_⟩
  cases e : f ρ s with
  | ok x s1 =>
    rw [e] at h
    exact fun v H1 μ1 ev R1 r1 => hk x s1 v H1 μ1 ev (hE.mono ev) R1 r1 (PostT.evo ev h)
  | er x s1 => rw [e] at h; exact h
  | no => rw [e] at h; exact h.elim
theorem eA {f : FE} {k : Dv → Sto → R (List Dv)} {Q : List V → Hp → Prop} {Q' : VK} (hE : RE Γ H μ Z ρ σ) (hR : Rep Γ H μ Z s) (h : PostA Γ W H μ Z σ Q ((f ρ s).bind k))
    (hk : ∀ x s1 v H1 μ1, Evo H μ H1 μ1 → RE Γ H1 μ1 Z ρ σ → Rep Γ H1 μ1 Z s1 → RV Γ H1 μ1 Z x v → PostA Γ W H1 μ1 Z σ Q (k x s1) → Q' v H1) : rdE Γ W f σ H Q' := by
  refine ⟨μ, Z, ρ, s, hE, hR, ?_⟩
  cases e : f ρ s with
  | ok x s1 =>
    rw [e] at h
    exact fun v H1 μ1 ev R1 r1 => hk x s1 v H1 μ1 ev (hE.mono ev) R1 r1 (PostA.evo ev h)
  | er x s1 => rw [e] at h; exact h
  | no => rw [e] at h; exact h.elim
theorem eS {f : FE} {k : Dv → Sto → C} {D : Ends} {Q' : VK} (hE : RE Γ H μ Z ρ σ) (hR : Rep Γ H μ Z s) (h : PostS Γ W H μ Z D ((f ρ s).thenC ρ k))
    (hk : ∀ x s1 v H1 μ1, Evo H μ H1 μ1 → RE Γ H1 μ1 Z ρ σ → Rep Γ H1 μ1 Z s1 → RV Γ H1 μ1 Z x v → PostS Γ W H1 μ1 Z D (k x s1) → Q' v H1) : rdE Γ W f σ H Q' := by
  refine ⟨μ, Z, ρ, s, hE, hR, ?_⟩
  cases e : f ρ s with
  | ok x s1 =>
    rw [e] at h
    exact fun v H1 μ1 ev R1 r1 => hk x s1 v H1 μ1 ev (hE.mono ev) R1 r1 (PostS.evo ev h)
  | er x s1 => rw [e] at h; exact fun c d H' μ' ev R' rx => h c d σ H' μ' ev R' (hE.mono ev) rx
  | no => rw [e] at h; exact h.elim
theorem tE {f : FT} {k : Bool → Sto → R Dv} {Q : VK} {Q' : Bool → Hp → Prop} (hE : RE Γ H μ Z ρ σ) (hR : Rep Γ H μ Z s) (h : PostE Γ W H μ Z σ Q ((f ρ s).bind k))
    (hk : ∀ b s1 H1 μ1, Evo H μ H1 μ1 → RE Γ H1 μ1 Z ρ σ → Rep Γ H1 μ1 Z s1 → PostE Γ W H1 μ1 Z σ Q (k b s1) → Q' b H1) : rdT Γ W f σ H Q' := by
  refine ⟨μ, Z, ρ, s, hE, hR, ?_⟩
  cases e : f ρ s with
  | ok x s1 =>
    rw [e] at h
    exact fun H1 μ1 ev R1 => hk x s1 H1 μ1 ev (hE.mono ev) R1 (PostE.evo ev h)
  | er x s1 => rw [e] at h; exact h
  | no => rw [e] at h; exact h.elim
theorem tT {f : FT} {k : Bool → Sto → R Bool} {Q Q' : Bool → Hp → Prop} (hE : RE Γ H μ Z ρ σ) (hR : Rep Γ H μ Z s) (h : PostT Γ W H μ Z σ Q ((f ρ s).bind k))
    (hk : ∀ b s1 H1 μ1, Evo H μ H1 μ1 → RE Γ H1 μ1 Z ρ σ → Rep Γ H1 μ1 Z s1 → PostT Γ W H1 μ1 Z σ Q (k b s1) → Q' b H1) : rdT Γ W f σ H Q' := by
  refine ⟨μ, Z, ρ, s, hE, hR, ?_⟩
  cases e : f ρ s with
  | ok x s1 =>
    rw [e] at h
    exact fun H1 μ1 ev R1 => hk x s1 H1 μ1 ev (hE.mono ev) R1 (PostT.evo ev h)
  | er x s1 => rw [e] at h; exact h
  | no => rw [e] at h; exact h.elim
theorem tS {f : FT} {k : Bool → Sto → C} {D : Ends} {Q' : Bool → Hp → Prop} (hE : RE Γ H μ Z ρ σ) (hR : Rep Γ H μ Z s) (h : PostS Γ W H μ Z D ((f ρ s).thenC ρ k))
    (hk : ∀ b s1 H1 μ1, Evo H μ H1 μ1 → RE Γ H1 μ1 Z ρ σ → Rep Γ H1 μ1 Z s1 → PostS Γ W H1 μ1 Z D (k b s1) → Q' b H1) : rdT Γ W f σ H Q' := by
  refine ⟨μ, Z, ρ, s, hE, hR, ?_⟩
  cases e : f ρ s with
  | ok x s1 =>
    rw [e] at h
    exact fun H1 μ1 ev R1 => hk x s1 H1 μ1 ev (hE.mono ev) R1 (PostS.evo ev h)
  | er x s1 => rw [e] at h; exact fun c d H' μ' ev R' rx => h c d σ H' μ' ev R' (hE.mono ev) rx
  | no => rw [e] at h; exact h.elim
theorem aE {f : FA} {k : List Dv → Sto → R Dv} {Q : VK} {Q' : List V → Hp → Prop} (hE : RE Γ H μ Z ρ σ) (hR : Rep Γ H μ Z s) (h : PostE Γ W H μ Z σ Q ((f ρ s).bind k))
    (hk : ∀ ws s1 vs H1 μ1, Evo H μ H1 μ1 → RE Γ H1 μ1 Z ρ σ → Rep Γ H1 μ1 Z s1 → RVs Γ H1 μ1 Z ws vs → PostE Γ W H1 μ1 Z σ Q (k ws s1) → Q' vs H1) : rdA Γ W f σ H Q' := by
  refine ⟨μ, Z, ρ, s, hE, hR, ?_⟩
  cases e : f ρ s with
  | ok x s1 =>
    rw [e] at h
    exact fun v H1 μ1 ev R1 r1 => hk x s1 v H1 μ1 ev (hE.mono ev) R1 r1 (PostE.evo ev h)
  | er x s1 => rw [e] at h; exact h
  | no => rw [e] at h; exact h.elim
theorem aA {f : FA} {k : List Dv → Sto → R (List Dv)} {Q : List V → Hp → Prop} {Q' : List V → Hp → Prop} (hE : RE Γ H μ Z ρ σ) (hR : Rep Γ H μ Z s) (h : PostA Γ W H μ Z σ Q ((f ρ s).bind k))
    (hk : ∀ ws s1 vs H1 μ1, Evo H μ H1 μ1 → RE Γ H1 μ1 Z ρ σ → Rep Γ H1 μ1 Z s1 → RVs Γ H1 μ1 Z ws vs → PostA Γ W H1 μ1 Z σ Q (k ws s1) → Q' vs H1) : rdA Γ W f σ H Q' := by
  refine ⟨μ, Z, ρ, s, hE, hR, ?_⟩
  cases e : f ρ s with
  | ok x s1 =>
    rw [e] at h
    exact fun v H1 μ1 ev R1 r1 => hk x s1 v H1 μ1 ev (hE.mono ev) R1 r1 (PostA.evo ev h)
  | er x s1 => rw [e] at h; exact h
  | no => rw [e] at h; exact h.elim
theorem aS {f : FA} {k : List Dv → Sto → C} {D : Ends} {Q' : List V → Hp → Prop} (hE : RE Γ H μ Z ρ σ) (hR : Rep Γ H μ Z s) (h : PostS Γ W H μ Z D ((f ρ s).thenC ρ k))
    (hk : ∀ ws s1 vs H1 μ1, Evo H μ H1 μ1 → RE Γ H1 μ1 Z ρ σ → Rep Γ H1 μ1 Z s1 → RVs Γ H1 μ1 Z ws vs → PostS Γ W H1 μ1 Z D (k ws s1) → Q' vs H1) : rdA Γ W f σ H Q' := by
  refine ⟨μ, Z, ρ, s, hE, hR, ?_⟩
  cases e : f ρ s with
  | ok x s1 =>
    rw [e] at h
    exact fun v H1 μ1 ev R1 r1 => hk x s1 v H1 μ1 ev (hE.mono ev) R1 r1 (PostS.evo ev h)
  | er x s1 => rw [e] at h; exact fun c d H' μ' ev R' rx => h c d σ H' μ' ev R' (hE.mono ev) rx
  | no => rw [e] at h; exact h.elim
theorem okE {w : Dv} {Q : VK} {v : V} (hR : Rep Γ H μ Z s) (r : RV Γ H μ Z w v) (h : PostE Γ W H μ Z σ Q (.ok w s)) : Q v H := h v H μ .refl hR r
theorem okT {b : Bool} {Q : Bool → Hp → Prop} (hR : Rep Γ H μ Z s) (h : PostT Γ W H μ Z σ Q (.ok b s)) : Q b H := h H μ .refl hR
/-- a value at a new address -/
theorem newE {w : Dv} {Q : VK} {p : Addr} {o : HO} (hR : Rep Γ H μ Z s) (hp : H p = none) (r : RV Γ (upd H p o) μ Z w (.ref p)) (h : PostE Γ W H μ Z σ Q (.ok w s)) : Q (.ref p) (upd H p o) := h _ _ μ (Evo.laid hp) (hR.laid hp) r
end
section
variable {X : Cx} {Γ : Ct} {W : WX}
def mVar (i : Nat) : FE := fun ρ s => match ρ[i]? with
  | some (some w) => .ok w s
  | _ => .no
def mK (w : Dv) : FE := fun _ s => .ok w s
theorem me_var {i : Nat} {e : Expr} (h : PE X e (tVar i)) : ME X Γ W e (mVar i) := PE.imp h fun σ H Q ⟨μ, Z, ρ, s, hE, hR, q⟩ => by
  unfold mVar at q
  split at q
  · rename_i w e
    obtain ⟨v, h1, h2⟩ := hE.2 i w e
    exact ⟨v, h1, okE hR h2 q⟩
  · exact q.elim
theorem me_int {i : Int} {j pos} : ME X Γ W (.Constant (.int i) j pos) (mK (.int i)) := PE.imp pe_int fun σ H Q ⟨μ, Z, ρ, s, hE, hR, q⟩ => okE (w := .int i) hR rfl q
theorem me_bl {i : Bool} {j pos} : ME X Γ W (.Constant (.bool i) j pos) (mK (.bl i)) := PE.imp pe_bl fun σ H Q ⟨μ, Z, ρ, s, hE, hR, q⟩ => okE (w := .bl i) hR rfl q
theorem me_str {i : Str} {j pos} : ME X Γ W (.Constant (.str i) j pos) (mK (.str i)) := PE.imp pe_str fun σ H Q ⟨μ, Z, ρ, s, hE, hR, q⟩ => okE (w := .str i) hR rfl q
theorem me_non {j pos} : ME X Γ W (.Constant .none j pos) (mK .non) := PE.imp pe_non fun σ H Q ⟨μ, Z, ρ, s, hE, hR, q⟩ => okE (w := .non) hR rfl q
/-- a module's constant: an int, a class -/
theorem me_globI {x : Str} {i : Int} {t : Tok} {pos : Pos} (hg : Gl X x) (hm : X.mg x = some (.int i t)) (hd : (x == ("__debug__" : Str)) = false := by decide) : ME X Γ W (.Name x pos) (mK (.int i)) :=
  PE.imp (pe_glob (v := .int i) hg hm ⟨t, rfl⟩ hd) fun σ H Q ⟨μ, Z, ρ, s, hE, hR, q⟩ => okE (w := .int i) hR rfl q
theorem me_ty {x : Str} {n : String} {pos : Pos} (hg : Gl X x) (hm : X.mg x = none) (hv : bootBuiltins x = some (.type n)) (hn : x ≠ "__name__" := by decide) (hd : (x == ("__debug__" : Str)) = false := by decide) : ME X Γ W (.Name x pos) (mK (.ty n)) :=
  PE.imp (pe_bltn (v := .ty n) hg hm hv rfl hn hd) fun σ H Q ⟨μ, Z, ρ, s, hE, hR, q⟩ => okE (w := .ty n) hR rfl q
abbrev O2 := Sto → Dv → Dv → Option Dv
abbrev O1 := Sto → Dv → Option Dv
def mBin (op : O2) (f g : FE) : FE := fun ρ s => (f ρ s).bind fun x s1 => (g ρ s1).bind fun y s2 => R.of (op s2 x y) s2
def mUn (op : O1) (f : FE) : FE := fun ρ s => (f ρ s).bind fun x s1 => R.of (op s1 x) s1
/-- what an operator gives: its rule r is met -/
def Op2 (Γ : Ct) (r : R2) (op : O2) : Prop := ∀ (H : Hp) (μ : Mu) (Z : Zs) (s : Sto) (x y w : Dv) (u v : V) (Q : VK), Rep Γ H μ Z s → RV Γ H μ Z x u → RV Γ H μ Z y v → op s x y = some w →
  (∀ v' H', Evo H μ H' μ → Rep Γ H' μ Z s → RV Γ H' μ Z w v' → Q v' H') → r u v H Q
def Op1 (Γ : Ct) (r : V → Hp → VK → Prop) (op : O1) : Prop := ∀ (H : Hp) (μ : Mu) (Z : Zs) (s : Sto) (x w : Dv) (u : V) (Q : VK), Rep Γ H μ Z s → RV Γ H μ Z x u → op s x = some w →
  (∀ v' H', Evo H μ H' μ → Rep Γ H' μ Z s → RV Γ H' μ Z w v' → Q v' H') → r u H Q
theorem ofE {H : Hp} {μ : Mu} {Z : Zs} {σ : L2.St} {s : Sto} {o : Option Dv} {Q : VK} (h : PostE Γ W H μ Z σ Q (R.of o s)) : ∃ w, o = some w ∧ ∀ v' H', Evo H μ H' μ → Rep Γ H' μ Z s → RV Γ H' μ Z w v' → Q v' H' := by
  cases o with
  | none => exact h.elim
  | some w => exact ⟨w, rfl, fun v' H' e R r => h v' H' μ e R r⟩
variable {a b c : Expr} {f g h' : FE} {pos : Pos}
theorem me_op {op : Operator} {r : R2} {o : O2} (ho : OpR X (binaryOp op) r) (hs : Op2 Γ r o) (ha : ME X Γ W a f) (hb : ME X Γ W b g) : ME X Γ W (.BinOp a op b pos) (mBin o f g) :=
  PE.imp (pe_op ho ha hb) fun σ H Q ⟨μ, Z, ρ, s, hE, hR, q⟩ => eE hE hR q fun x s1 u H1 μ1 e1 hE1 R1 r1 q1 => eE hE1 R1 q1 fun y s2 v H2 μ2 e2 hE2 R2 r2 q2 => by
    obtain ⟨w, hw, k⟩ := ofE q2
    exact hs H2 μ2 Z s2 x y w u v Q R2 (r1.mono e2) r2 hw k
theorem me_cmp {op : CmpOp} {r : R2} {o : O2} (ho : OpR X (compareOp op) r) (hs : Op2 Γ r o) (hm : behindInMarks op b = false) (ha : ME X Γ W a f) (hb : ME X Γ W b g) : ME X Γ W (.Compare a [op] [b] pos) (mBin o f g) :=
  PE.imp (pe_cmpR ho ha hb hm) fun σ H Q ⟨μ, Z, ρ, s, hE, hR, q⟩ => eE hE hR q fun x s1 u H1 μ1 e1 hE1 R1 r1 q1 => eE hE1 R1 q1 fun y s2 v H2 μ2 e2 hE2 R2 r2 q2 => by
    obtain ⟨w, hw, k⟩ := ofE q2
    exact hs H2 μ2 Z s2 x y w u v Q R2 (r1.mono e2) r2 hw k
theorem me_un {op : UnaryOp} {r : V → Hp → VK → Prop} {o : O1} (ho : UnR X (unaryOp op) r) (hs : Op1 Γ r o) (ha : ME X Γ W a f) : ME X Γ W (.UnaryOp op a pos) (mUn o f) :=
  PE.imp (pe_un ho ha) fun σ H Q ⟨μ, Z, ρ, s, hE, hR, q⟩ => eE hE hR q fun x s1 u H1 μ1 e1 hE1 R1 r1 q1 => by
    obtain ⟨w, hw, k⟩ := ofE q1
    exact hs H1 μ1 Z s1 x w u Q R1 r1 hw k
/-- a < b < c -/
def mChain (o o' : O2) (f g h : FE) : FE := fun ρ s => (f ρ s).bind fun x s1 => (g ρ s1).bind fun y s2 => match o s2 x y with
  | some (.bl true) => (h ρ s2).bind fun z s3 => R.of (o' s3 y z) s3
  | some (.bl false) => .ok (.bl false) s2
  | _ => .no
theorem me_chain {op op' : CmpOp} {r r' : R2} {o o' : O2} (ho : OpR X (compareOp op) r) (ho' : OpR X (compareOp op') r') (hs : Op2 Γ r o) (hs' : Op2 Γ r' o') (hm : lastMarks [op, op'] [b, c] = false)
    (ha : ME X Γ W a f) (hb : ME X Γ W b g) (hc : ME X Γ W c h') : ME X Γ W (.Compare a [op, op'] [b, c] pos) (mChain o o' f g h') :=
  PE.imp (pe_chain ho ho' ha hb hc hm) fun σ H Q ⟨μ, Z, ρ, s, hE, hR, q⟩ => eE hE hR q fun x s1 u H1 μ1 e1 hE1 R1 r1 q1 => eE hE1 R1 q1 fun y s2 v H2 μ2 e2 hE2 R2 r2 q2 => by
    cases hw : o s2 x y with
    | none => rw [hw] at q2; exact q2.elim
    | some w =>
      rw [hw] at q2
      refine hs H2 μ2 Z s2 x y w u v _ R2 (r1.mono e2) r2 hw fun z H3 e3 R3 r3 => ?_
      cases w with
      | bl k =>
        refine ⟨k, r3, ?_⟩
        cases k with
        | true =>
          rw [if_pos rfl]
          exact eE (hE2.mono e3) R3 (PostE.evo e3 q2) fun z' s3 v3 H4 μ4 e4 hE4 R4 r4 q4 => by
            obtain ⟨w', hw', k'⟩ := ofE q4
            exact hs' H4 μ4 Z s3 y z' w' v v3 Q R4 ((r2.mono e3).mono e4) r4 hw' k'
        | false =>
          rw [if_neg Bool.false_ne_true]
          exact okE R3 (w := .bl false) rfl (PostE.evo e3 q2)
      | _ => exact q2.elim
def mTest (f : FE) : FT := fun ρ s => (f ρ s).bind fun x s1 => match x with
  | .bl b => .ok b s1
  | _ => .no
theorem mt_of {e : Expr} (h : ∀ (t : TE), PE X e t → PT X e (tTest t)) (ha : ME X Γ W e f) : MT X Γ W e (mTest f) :=
  PT.imp (h _ ha) fun σ H Q ⟨μ, Z, ρ, s, hE, hR, q⟩ => eT hE hR q fun x s1 u H1 μ1 e1 hE1 R1 r1 q1 => by
    cases x with
    | bl b => exact ⟨b, r1, okT R1 q1⟩
    | _ => exact q1.elim
theorem mt_val {e : Expr} (ha : ME X Γ W e f) (he : ∀ whole, isTrue e X.env whole = (do let v ← whole; standAt e.pos; holding [v] (truthy v)) := by intro _; rfl) : MT X Γ W e (mTest f) :=
  mt_of (fun t h => pt_val h he) ha
theorem mt_cmp {op : CmpOp} {r : R2} {o : O2} (ho : OpR X (compareOp op) r) (hs : Op2 Γ r o) (hm : behindInMarks op b = false) (ha : ME X Γ W a f) (hb : ME X Γ W b g) : MT X Γ W (.Compare a [op] [b] pos) (mTest (mBin o f g)) :=
  PT.imp (pt_cmpR ho ha hb hm) fun σ H Q ⟨μ, Z, ρ, s, hE, hR, q⟩ => by
    have q' : PostT Γ W H μ Z σ Q ((f ρ s).bind fun x s1 => (g ρ s1).bind fun y s2 => (R.of (o s2 x y) s2).bind fun x s1 => match x with
      | .bl b => .ok b s1
      | _ => .no) := by
      unfold mTest mBin at q
      revert q
      cases f ρ s with
      | ok x s1 =>
        dsimp only [R.bind]
        cases g ρ s1 <;> exact id
      | er x s1 => exact id
      | no => exact id
    exact eT hE hR q' fun x s1 u H1 μ1 e1 hE1 R1 r1 q1 => eT hE1 R1 q1 fun y s2 v H2 μ2 e2 hE2 R2 r2 q2 => by
      cases hw : o s2 x y with
      | none => rw [hw] at q2; exact q2.elim
      | some w =>
        rw [hw] at q2
        refine hs H2 μ2 Z s2 x y w u v _ R2 (r1.mono e2) r2 hw fun z H3 e3 R3 r3 => ?_
        cases w with
        | bl k => exact ⟨k, r3, okT R3 (PostT.evo e3 q2)⟩
        | _ => exact q2.elim
def mAnd (t u : FT) : FT := fun ρ s => (t ρ s).bind fun c s1 => if c = true then u ρ s1 else .ok false s1
def mOr (t u : FT) : FT := fun ρ s => (t ρ s).bind fun c s1 => if c = true then .ok true s1 else u ρ s1
def mNot (t : FT) : FT := fun ρ s => (t ρ s).bind fun c s1 => .ok (!c) s1
variable {t u : FT} {rest : List Expr}
theorem mw_and1 (ha : MT X Γ W a t) : MW X Γ W (.BoolOp .And [a] pos) t := pw_and1 ha
theorem mw_or1 (ha : MT X Γ W a t) : MW X Γ W (.BoolOp .Or [a] pos) t := pw_or1 ha
theorem ifT {H : Hp} {μ : Mu} {Z : Zs} {σ : L2.St} {ρ : Env} {s : Sto} {Q : Bool → Hp → Prop} {v : FT} (hE : RE Γ H μ Z ρ σ) (hR : Rep Γ H μ Z s) (q : PostT Γ W H μ Z σ Q (v ρ s)) : rdT Γ W v σ H Q := ⟨μ, Z, ρ, s, hE, hR, q⟩
theorem ifE {H : Hp} {μ : Mu} {Z : Zs} {σ : L2.St} {ρ : Env} {s : Sto} {Q : VK} {v : FE} (hE : RE Γ H μ Z ρ σ) (hR : Rep Γ H μ Z s) (q : PostE Γ W H μ Z σ Q (v ρ s)) : rdE Γ W v σ H Q := ⟨μ, Z, ρ, s, hE, hR, q⟩
theorem mw_and (ha : MT X Γ W a t) (hb : MW X Γ W (.BoolOp .And (b :: rest) pos) u) : MW X Γ W (.BoolOp .And (a :: b :: rest) pos) (mAnd t u) :=
  PW.imp (pw_and ha hb) fun σ H Q ⟨μ, Z, ρ, s, hE, hR, q⟩ => tT hE hR q fun c s1 H1 μ1 e1 hE1 R1 q1 => by
    cases c with
    | true => rw [if_pos rfl] at q1 ⊢; exact ifT hE1 R1 q1
    | false => rw [if_neg Bool.false_ne_true] at q1 ⊢; exact okT R1 q1
theorem mw_or (ha : MT X Γ W a t) (hb : MW X Γ W (.BoolOp .Or (b :: rest) pos) u) : MW X Γ W (.BoolOp .Or (a :: b :: rest) pos) (mOr t u) :=
  PW.imp (pw_or ha hb) fun σ H Q ⟨μ, Z, ρ, s, hE, hR, q⟩ => tT hE hR q fun c s1 H1 μ1 e1 hE1 R1 q1 => by
    cases c with
    | true => rw [if_pos rfl] at q1 ⊢; exact okT R1 q1
    | false => rw [if_neg Bool.false_ne_true] at q1 ⊢; exact ifT hE1 R1 q1
theorem mt_w {e : Expr} (h : MW X Γ W e t) : MT X Γ W e t := PW.pt h
theorem mt_not (ha : MT X Γ W a t) : MT X Γ W (.UnaryOp .Not a pos) (mNot t) :=
  PT.imp (pt_not ha) fun σ H Q ⟨μ, Z, ρ, s, hE, hR, q⟩ => tT hE hR q fun c s1 H1 μ1 e1 hE1 R1 q1 => okT R1 q1
/-- and, or, not as values: bools -/
def mAndV (f g : FE) : FE := fun ρ s => (f ρ s).bind fun x s1 => match x with
  | .bl true => g ρ s1
  | .bl false => .ok (.bl false) s1
  | _ => .no
def mOrV (f g : FE) : FE := fun ρ s => (f ρ s).bind fun x s1 => match x with
  | .bl false => g ρ s1
  | .bl true => .ok (.bl true) s1
  | _ => .no
def mNotV (f : FE) : FE := fun ρ s => (f ρ s).bind fun x s1 => match x with
  | .bl c => .ok (.bl (!c)) s1
  | _ => .no
theorem me_one {op} (h : ME X Γ W a f) : ME X Γ W (.BoolOp op [a] pos) f := pe_one h
theorem me_and (ha : ME X Γ W a f) (hb : ME X Γ W (.BoolOp .And (b :: rest) pos) g) : ME X Γ W (.BoolOp .And (a :: b :: rest) pos) (mAndV f g) :=
  PE.imp (pe_and ha hb) fun σ H Q ⟨μ, Z, ρ, s, hE, hR, q⟩ => eE hE hR q fun x s1 u H1 μ1 e1 hE1 R1 r1 q1 => by
    cases x with
    | bl c =>
      refine ⟨c, r1, ?_⟩
      cases c with
      | true => rw [if_pos rfl]; exact ifE hE1 R1 q1
      | false => rw [if_neg Bool.false_ne_true]; exact okE (w := .bl false) R1 rfl q1
    | _ => exact q1.elim
def mIf (t : FT) (f g : FE) : FE := fun ρ s => (t ρ s).bind fun c s1 => if c = true then f ρ s1 else g ρ s1
theorem me_if {c : Expr} (hc : MT X Γ W c t) (ha : ME X Γ W a f) (hb : ME X Γ W b g) : ME X Γ W (.IfExp c a b pos) (mIf t f g) :=
  PE.imp (pe_ifExp hc ha hb) fun σ H Q ⟨μ, Z, ρ, s, hE, hR, q⟩ => tE hE hR q fun c s1 H1 μ1 e1 hE1 R1 q1 => by
    cases c with
    | true => rw [if_pos rfl] at q1 ⊢; exact ifE hE1 R1 q1
    | false => rw [if_neg Bool.false_ne_true] at q1 ⊢; exact ifE hE1 R1 q1
def mNil : FA := fun _ s => .ok [] s
def mCons (f : FE) (g : FA) : FA := fun ρ s => (f ρ s).bind fun x s1 => (g ρ s1).bind fun xs s2 => .ok (x :: xs) s2
theorem ma_nil : MA X Γ W [] mNil := PA.imp pa_nil fun σ H Q ⟨μ, Z, ρ, s, hE, hR, q⟩ => q _ H μ .refl hR rfl
theorem ma_cons {e : Expr} {es : List Expr} {g : FA} (ha : ME X Γ W e f) (hr : MA X Γ W es g) (hs : starEach (e :: es) X.env = (false, eval e X.env) :: starEach es X.env := by rfl) : MA X Γ W (e :: es) (mCons f g) :=
  PA.imp (pa_cons ha hr hs) fun σ H Q ⟨μ, Z, ρ, s, hE, hR, q⟩ => eA hE hR q fun x s1 u H1 μ1 e1 hE1 R1 r1 q1 => aA hE1 R1 q1 fun ws s2 vs H2 μ2 e2 hE2 R2 r2 q2 =>
    q2 _ H2 μ2 .refl R2 (RVs.cons (r1.mono e2) r2)
def mTup (g : FA) : FE := fun ρ s => (g ρ s).bind fun ws s1 => if ws.length ≤ lim then .ok (.tup ws) s1 else .no
def mLst (g : FA) : FE := fun ρ s => (g ρ s).bind fun ws s1 => if ws.length ≤ lim then .ok (.lst ws) s1 else .no
/-- a list that will be changed: an object of the store -/
def mLstM (g : FA) : FE := fun ρ s => (g ρ s).bind fun ws s1 => if ws.length ≤ lim then .ok (.ref s1.length) (s1 ++ [.lst ws]) else .no
theorem lim_ok {n : Nat} (h : n ≤ lim) : n ≤ sizeLine := Nat.le_trans h (by rw [sizeLine_eq]; decide)
theorem lim_lt {n : Nat} (h : n ≤ lim) : n < sizeLine := Nat.lt_of_le_of_lt h (by rw [sizeLine_eq]; decide)
section
variable {H : Hp} {μ : Mu} {Z : Zs} {s : Sto} {p : Addr} {ws : List Dv} {vs : List V}
theorem new_tup (hR : Rep Γ H μ Z s) (hp : H p = none) (r : RVs Γ H μ Z ws vs) : RV Γ (upd H p (.tup vs)) μ Z (.tup ws) (.ref p) :=
  ⟨p, vs, rfl, .inl ⟨.inl upd_same, hR.fz hp⟩, r.mono (Evo.laid hp)⟩
theorem new_lst (hR : Rep Γ H μ Z s) (hp : H p = none) (r : RVs Γ H μ Z ws vs) : RV Γ (upd H p (.lst vs)) μ Z (.lst ws) (.ref p) :=
  ⟨p, vs, rfl, upd_same, hR.fz hp, r.mono (Evo.laid hp)⟩
/-- a new object of the store -/
def ext (μ : Mu) (n : Nat) (p : Addr) : Mu := fun m => if m = n then some p else μ m
theorem Evo.ext {o : HO} (hp : H p = none) (hn : μ n = none) : Evo H μ (upd H p o) (ext μ n p) where
  keep := fun a o h _ => by rw [upd_ne (ne_of_none h hp)]; exact h
  mu := fun m a h => by
    unfold MP.ext
    rw [if_neg fun e => by rw [e, hn] at h; cases h]
    exact h
  new := fun m a h => by
    unfold MP.ext at h
    split at h
    · cases h; exact .inr hp
    · exact .inl h
  stay := fun m a h q => by
    by_cases e : a = p
    · subst e; exact absurd hp q
    · rw [upd_ne e]; exact q
theorem Rep.mu_new (hR : Rep Γ H μ Z s) : μ s.length = none := by
  cases e : μ s.length with
  | none => rfl
  | some a => exact absurd (hR.dom _ _ e) (Nat.lt_irrefl _)
theorem RO.mono' {a : Addr} {o : Ob} {H' : Hp} {μ' : Mu} (e : Evo H μ H' μ') (q : H' a = H a) (h : RO Γ H μ Z a o) : RO Γ H' μ' Z a o := by
  cases o with
  | lst ws =>
    obtain ⟨xs, h4, h5⟩ := h
    exact ⟨xs, q.trans h4, h5.mono e⟩
  | dct kws =>
    obtain ⟨kvs, h4, h5, h6⟩ := h
    exact ⟨kvs, q.trans h4, h5, h6.mono e⟩
  | dtt fr kws =>
    obtain ⟨kvs, h4, h5, h6, h7⟩ := h
    exact ⟨kvs, h4.eq q, h5, h6.mono e, h7.mono e⟩
  | obj c fs =>
    obtain ⟨dx, kvs, h4, h5, h6⟩ := h
    exact ⟨dx, kvs, q.trans h4, h5, h6.mono e⟩
  | tab m y => exact ⟨h.1, tab_imp q (fun c e1 e2 => ⟨e.keep _ _ e1 e2.1, e.fz (by rw [e1]; intro z; cases z) e2⟩) h.2⟩
theorem Rep.push (hR : Rep Γ H μ Z s) (hp : H p = none) {o : HO} {ob : Ob} (ho : RO Γ (upd H p o) (MP.ext μ s.length p) Z p ob) : Rep Γ (upd H p o) (MP.ext μ s.length p) Z (s ++ [ob]) := by
  have ev : Evo H μ (upd H p o) (MP.ext μ s.length p) := Evo.ext hp hR.mu_new
  refine ⟨fun n o' q => ?_, fun n m a h1 h2 => ?_, fun n a h => ?_, fun a q => ev.alive (hR.za a q)⟩
  · by_cases hn : n = s.length
    · subst hn
      rw [List.getElem?_append_right (Nat.le_refl _)] at q
      simp at q
      subst q
      exact ⟨p, by unfold MP.ext; rw [if_pos rfl], fun z => hR.za p z hp, ho⟩
    · have hl : n < s.length := by
        have := (List.getElem?_eq_some_iff.mp q).1
        rw [List.length_append, List.length_singleton] at this
        omega
      rw [List.getElem?_append_left hl] at q
      obtain ⟨a, h1, h2, h3⟩ := hR.at n o' q
      exact ⟨a, ev.mu _ _ h1, h2, h3.mono' ev (upd_ne fun e => hR.alive h1 (e ▸ hp))⟩
  · unfold MP.ext at h1 h2
    split at h1 <;> split at h2
    · rename_i e1 e2; rw [e1, e2]
    · cases h1; exact absurd hp (hR.alive h2)
    · cases h2; exact absurd hp (hR.alive h1)
    · exact hR.inj _ _ _ h1 h2
  · unfold MP.ext at h
    rw [List.length_append, List.length_singleton]
    split at h
    · omega
    · have := hR.dom _ _ h
      omega
end
theorem me_tup {es : List Expr} {g : FA} {x1} (h : MA X Γ W es g) : ME X Γ W (.Tuple es x1 pos) (mTup g) :=
  PE.imp (pe_tup h) fun σ H Q ⟨μ, Z, ρ, s, hE, hR, q⟩ => aE hE hR q fun ws s1 vs H1 μ1 e1 hE1 R1 r1 q1 => by
    split at q1
    · rename_i hl
      exact ⟨by rw [r1.len]; exact lim_ok hl, fun p hp => newE R1 hp (new_tup R1 hp r1) q1⟩
    · exact q1.elim
theorem me_lst {es : List Expr} {g : FA} (h : MA X Γ W es g) : ME X Γ W (.List es pos) (mLst g) :=
  PE.imp (pe_lst h) fun σ H Q ⟨μ, Z, ρ, s, hE, hR, q⟩ => aE hE hR q fun ws s1 vs H1 μ1 e1 hE1 R1 r1 q1 => by
    split at q1
    · rename_i hl
      exact ⟨by rw [r1.len]; exact lim_ok hl, fun p hp => newE R1 hp (new_lst R1 hp r1) q1⟩
    · exact q1.elim
theorem me_lstM {es : List Expr} {g : FA} (h : MA X Γ W es g) : ME X Γ W (.List es pos) (mLstM g) :=
  PE.imp (pe_lst h) fun σ H Q ⟨μ, Z, ρ, s, hE, hR, q⟩ => aE hE hR q fun ws s1 vs H1 μ1 e1 hE1 R1 r1 q1 => by
    split at q1
    · rename_i hl
      refine ⟨by rw [r1.len]; exact lim_ok hl, fun p hp => ?_⟩
      have ev : Evo H1 μ1 (upd H1 p (.lst vs)) (ext μ1 s1.length p) := Evo.ext hp R1.mu_new
      exact q1 _ _ _ ev (R1.push hp ⟨vs, upd_same, r1.mono ev⟩) ⟨p, rfl, by unfold ext; rw [if_pos rfl]⟩
    · exact q1.elim
end
end MP
set_option Elab.async false
set_option linter.all false
set_option maxRecDepth 100000
set_option maxHeartbeats 4000000
namespace MP
open PySem PySem.Spec PyProof.Rows L2
theorem tuple_mul1 (l : Addr) (items : Array Value) (n : Nat) (dd : Option Addr) (sl : Array (Option Value)) (x : Int) (u : Tok) (c0 : (decide (x < -(2 ^ 63)) || decide (x ≥ 2 ^ 63)) = false) (c1 : (items.isEmpty || x == 1) = true) :
    Meets (Builtin.«tuple.__mul__» ⟨[.ref l, .int x u], []⟩) (fun _ R s => s.heap.get? l = some { cls := .type "tuple", dict := dd, data := .seq items n, slots := sl } ∧
      R (.ok (.ret (Value.ref l))) s) :=
  .of_wp fun prog w A R s h => by
    obtain ⟨hp, g, d, tk, os⟩ := s
    obtain ⟨hl, h⟩ := h
    have f1 := AutoSeq1.idx_int
    wp_walk using wpAny_loadPart' hl
    repeat (first
      | (refine wpAny_ite_false (decide_eq_false (by rw [c0]; exact Bool.false_ne_true)) ?_; wp_walk using wpAny_loadPart' hl)
      | (refine wpAny_ite_true (decide_eq_true c1) ?_; wp_walk using wpAny_loadPart' hl))
    exact ⟨_, rfl, h⟩
theorem tuple_mul0 (l : Addr) (items : Array Value) (n : Nat) (dd : Option Addr) (sl : Array (Option Value)) (x : Int) (u : Tok) (c0 : (decide (x < -(2 ^ 63)) || decide (x ≥ 2 ^ 63)) = false) (c1 : (items.isEmpty || x == 1) = false) (c2 : (decide (x ≤ 0) || items.isEmpty) = true) :
    Meets (Builtin.«tuple.__mul__» ⟨[.ref l, .int x u], []⟩) (fun _ R s => s.heap.get? l = some { cls := .type "tuple", dict := dd, data := .seq items n, slots := sl } ∧
      R (.ok (.ret (Value.ref s.heap.objs.size))) { s with heap := s.heap.push { cls := Value.type "tuple", data := Data.seq #[] } }) :=
  .of_wp fun prog w A R s h => by
    obtain ⟨hp, g, d, tk, os⟩ := s
    obtain ⟨hl, h⟩ := h
    have f1 := AutoSeq1.idx_int
    wp_walk using wpAny_loadPart' hl
    repeat (first
      | (refine wpAny_ite_false (decide_eq_false (by rw [c0]; exact Bool.false_ne_true)) ?_; wp_walk using wpAny_loadPart' hl)
      | (refine wpAny_ite_false (decide_eq_false (by rw [c1]; exact Bool.false_ne_true)) ?_; wp_walk using wpAny_loadPart' hl)
      | (refine wpAny_ite_true (decide_eq_true c2) ?_; wp_walk using wpAny_loadPart' hl))
    exact ⟨_, rfl, h⟩
theorem tuple_mulN (l : Addr) (items : Array Value) (n : Nat) (dd : Option Addr) (sl : Array (Option Value)) (x : Int) (u : Tok) (c0 : (decide (x < -(2 ^ 63)) || decide (x ≥ 2 ^ 63)) = false) (c1 : (items.isEmpty || x == 1) = false) (c2 : (decide (x ≤ 0) || items.isEmpty) = false)
    (c3 : ¬ ((items.size : Nat) : Int) * x > (2 ^ 63 - 1) / 8) (c4 : Builtin.Tuple.tupleTooMany (((items.size : Nat) : Int) * x) = false) (hsz : (List.foldl (fun x1 x2 => x1 ++ x2) #[] (List.replicate x.toNat items)).size ≤ sizeLine) :
    Meets (Builtin.«tuple.__mul__» ⟨[.ref l, .int x u], []⟩) (fun _ R s => s.heap.get? l = some { cls := .type "tuple", dict := dd, data := .seq items n, slots := sl } ∧
      R (.ok (.ret (Value.ref s.heap.objs.size))) { s with heap := s.heap.push { cls := Value.type "tuple", data := Data.seq (List.foldl (fun x1 x2 => x1 ++ x2) #[] (List.replicate x.toNat items)) }, toks := s.toks }) := L2.tuple_mulW l items n dd sl x u c0 c1 c2 c3 c4 hsz
def rRepA (K : PySem.W.Frag) : R2 := fun x y H Q => ∃ l k xs, x = .ref l ∧ y = .int k ∧ SqT K H l xs ∧ -(2 ^ 63) ≤ k ∧ k < 2 ^ 63 ∧ xs.length * k.toNat ≤ 16000000 ∧
  (xs = [] ∨ k = 1 → Q (.ref l) H) ∧ (¬ (xs = [] ∨ k = 1) → ∀ p, H p = none → Q (.ref p) (upd H p (.tup (List.replicate k.toNat xs).flatten)))
section
variable {X : Cx}
theorem op_repA : OpR X (binaryOp .Mult) (rRepA X.K) := by
  intro pins s σ H x y v u Q I rx ry h
  obtain ⟨l, k, xs, rfl, rfl, hT, h1, h2, hz, qs, qn⟩ := h
  cases rx
  obtain ⟨t, rfl⟩ := ry
  obtain ⟨its, r, ⟨⟨cls, dd, data, sl⟩, ho, hc, n, hd⟩, hs⟩ := I.tuple hT
  simp only at hc hd
  subst hc hd
  have hle : its.length = xs.length := r.length.symm
  have hsz0 : its.toArray.size = xs.length := by rw [List.size_toArray, hle]
  have he : (its.toArray.isEmpty = true) ↔ xs = [] := by
    rw [← List.length_eq_zero_iff (l := xs), ← hle]
    clear hT r ho hs hle hsz0 qs qn hz
    cases its with
    | nil => exact ⟨fun _ => rfl, fun _ => rfl⟩
    | cons a b => exact ⟨fun z => (Bool.false_ne_true z).elim, fun z => (Nat.succ_ne_zero _ z).elim⟩
  have c0 : (decide (k < -(2 ^ 63)) || decide (k ≥ 2 ^ 63)) = false := by
    clear he qs qn
    rw [decide_eq_false (Int.not_lt.mpr h1), decide_eq_false (Int.not_le.mpr h2)] <;> rfl
  by_cases hsame : xs = [] ∨ k = 1
  · have c1 : (its.toArray.isEmpty || k == 1) = true := by
      rw [Bool.or_eq_true]
      rcases hsame with z | z
      · exact .inl (he.mpr z)
      · exact .inr (beq_iff_eq.mpr z)
    refine wpAny_binaryOp_repeat_ref (T := "tuple") (U := "int") (by decide) ⟨_, ho, rfl⟩ (fun s' => typeIs_int s' k t) noFill_tuple_mul F.fills_int_mul F.slot_int_rmul repeat_tuple F.slot_int_index.lookup
      (call_meets F.slot_int_rmul (typeIs_int s k t) F.entry_int_rmul (F.args_int_rmul_2 _ _) (int_rmul_tuple k t l its.toArray n dd sl)
        ⟨ho, rfl, ⟨_, ho, rfl⟩, call_meets F.slot_tuple_mul ⟨_, ho, rfl⟩ F.entry_tuple_mul (F.args_tuple_mul_2 _ _) (tuple_mul1 l its.toArray n dd sl k t c0 c1) ⟨ho, ?_⟩⟩)
    exact ⟨.ref l, H, I, rfl, qs hsame⟩
  · have hx : xs ≠ [] := fun z => hsame (.inl z)
    have hk : k ≠ 1 := fun z => hsame (.inr z)
    have hi : its.toArray.isEmpty = false := by
      cases e : its.toArray.isEmpty with
      | false => rfl
      | true => exact absurd (he.mp e) hx
    have c1 : (its.toArray.isEmpty || k == 1) = false := by
      rw [hi, Bool.false_or]
      exact beq_eq_false_iff_ne.mpr hk
    by_cases hk0 : k ≤ 0
    · have c2 : (decide (k ≤ 0) || its.toArray.isEmpty) = true := by rw [decide_eq_true hk0, Bool.true_or]
      have q := qn hsame
      have hk' : k.toNat = 0 := by omega
      rw [hk'] at q
      refine wpAny_binaryOp_repeat_ref (T := "tuple") (U := "int") (by decide) ⟨_, ho, rfl⟩ (fun s' => typeIs_int s' k t) noFill_tuple_mul F.fills_int_mul F.slot_int_rmul repeat_tuple F.slot_int_index.lookup
        (call_meets F.slot_int_rmul (typeIs_int s k t) F.entry_int_rmul (F.args_int_rmul_2 _ _) (int_rmul_tuple k t l its.toArray n dd sl)
          ⟨ho, rfl, ⟨_, ho, rfl⟩, call_meets F.slot_tuple_mul ⟨_, ho, rfl⟩ F.entry_tuple_mul (F.args_tuple_mul_2 _ _) (tuple_mul0 l its.toArray n dd sl k t c0 c1 c2) ⟨ho, ?_⟩⟩)
      refine ⟨.ref s.heap.objs.size, _, I.laid (t' := s.toks) (o := .tup []) (fun b ob q => Heap.get?_push_of_some _ q) (Nat.le_refl _) ?_, rfl, q _ (I.hok.fresh (Nat.le_refl _))⟩
      exact ⟨Nat.zero_le _, [], .nil, IsTup.new _ _⟩
    · have c2 : (decide (k ≤ 0) || its.toArray.isEmpty) = false := by
        rw [hi, Bool.or_false]
        exact decide_eq_false hk0
      have hkk : (k.toNat : Int) = k := Int.toNat_of_nonneg (by omega)
      have hm : ((its.toArray.size : Nat) : Int) * k ≤ 16000000 := by
        have z1 : ((xs.length * k.toNat : Nat) : Int) ≤ ((16000000 : Nat) : Int) := Int.ofNat_le.mpr hz
        rw [Int.natCast_mul, hkk] at z1
        rw [hsz0]
        exact z1
      have c4 : Builtin.Tuple.tupleTooMany (((its.toArray.size : Nat) : Int) * k) = false := by
        unfold Builtin.Tuple.tupleTooMany
        rw [sizeLine_eq]
        exact decide_eq_false (by omega)
      have flen : (List.replicate k.toNat its).flatten.length ≤ sizeLine := by
        rw [PyProof.Rows.lm_len_rep_flat, hle, sizeLine_eq, Nat.mul_comm]
        omega
      refine wpAny_binaryOp_repeat_ref (T := "tuple") (U := "int") (by decide) ⟨_, ho, rfl⟩ (fun s' => typeIs_int s' k t) noFill_tuple_mul F.fills_int_mul F.slot_int_rmul repeat_tuple F.slot_int_index.lookup
        (call_meets F.slot_int_rmul (typeIs_int s k t) F.entry_int_rmul (F.args_int_rmul_2 _ _) (int_rmul_tuple k t l its.toArray n dd sl)
          ⟨ho, rfl, ⟨_, ho, rfl⟩, call_meets F.slot_tuple_mul ⟨_, ho, rfl⟩ F.entry_tuple_mul (F.args_tuple_mul_2 _ _) (tuple_mulN l its.toArray n dd sl k t c0 c1 c2 (by omega) c4 (by rw [size_rep, List.size_toArray]; exact flen)) ⟨ho, ?_⟩⟩)
      rw [size_rep]
      refine ⟨.ref s.heap.objs.size, _, I.laid (t' := s.toks) (o := .tup (List.replicate k.toNat xs).flatten) (fun b ob q => Heap.get?_push_of_some _ q) (Nat.le_refl _) ?_, rfl, qn hsame _ (I.hok.fresh (Nat.le_refl _))⟩
      exact ⟨by rw [PyProof.Rows.lm_len_rep_flat, sizeLine_eq, Nat.mul_comm]; omega, _, r.rep k.toNat, IsTup.new _ _⟩
end
def lstOf (s : Sto) : Dv → Option (List Dv)
  | .lst ws => some ws
  | .ref n => match s[n]? with
    | some (.lst ws) => some ws
    | _ => none
  | _ => none
/-- a sequence that is read -/
def seqOf (s : Sto) : Dv → Option (List Dv)
  | .tup ws => some ws
  | .sq ws => some ws
  | w => lstOf s w
def tupOf : Dv → Option (List Dv)
  | .tup ws => some ws
  | _ => none
def flat : Dv → Option V
  | .non => some .non | .bl b => some (.bl b) | .int i => some (.int i) | .str x => some (.str x)
  | _ => none
mutual
def toD0 : Dv → Option PyData
  | .non => some .none | .bl b => some (.bool b) | .int i => some (.int i) | .str x => some (.str x)
  | .tup ws => (toDs ws).map .tuple
  | .lst ws => (toDs ws).map .list
  | .sq ws => (toDs ws).map .list
  | _ => none
def toDs : List Dv → Option (List PyData)
  | [] => some []
  | w :: ws => match toD0 w, toDs ws with
    | some d, some ds => some (d :: ds)
    | _, _ => none
end
def toD (s : Sto) : Dv → Option PyData
  | .ref n => match s[n]? with
    | some (.lst ws) => (toDs ws).map .list
    | _ => none
  | w => toD0 w
section
variable {Γ : Ct} {H : Hp} {μ : Mu} {Z : Zs} {s : Sto}
theorem lstOf_ok {w : Dv} {v : V} {ws : List Dv} (hR : Rep Γ H μ Z s) (r : RV Γ H μ Z w v) (e : lstOf s w = some ws) : ∃ a xs, v = .ref a ∧ H a = some (.lst xs) ∧ RVs Γ H μ Z ws xs := by
  cases w with
  | lst us =>
    cases e
    obtain ⟨a, xs, h1, h2, _, h4⟩ := r
    exact ⟨a, xs, h1, h2, h4⟩
  | ref n =>
    simp only [lstOf] at e
    split at e
    · rename_i us q
      cases e
      obtain ⟨a, h1, h2⟩ := r
      obtain ⟨b, h3, _, xs, h4, h5⟩ := hR.at n _ q
      rw [h2] at h3
      cases h3
      exact ⟨a, xs, h1, h4, h5⟩
    · cases e
  | _ => cases e
theorem seqOf_ok {w : Dv} {v : V} {ws : List Dv} (hR : Rep Γ H μ Z s) (r : RV Γ H μ Z w v) (e : seqOf s w = some ws) : ∃ a xs, v = .ref a ∧ (SqL Γ.K H a xs ∨ SqT Γ.K H a xs) ∧ RVs Γ H μ Z ws xs := by
  cases w with
  | tup us =>
    cases e
    obtain ⟨a, xs, h1, h2, h3⟩ := r
    exact ⟨a, xs, h1, .inr h2.sq, h3⟩
  | sq us =>
    cases e
    obtain ⟨a, xs, h1, h2, h3⟩ := r
    exact ⟨a, xs, h1, .inl h2.sq, h3⟩
  | lst us =>
    obtain ⟨a, xs, h1, h2, h3⟩ := lstOf_ok hR r (show lstOf s (.lst us) = some ws from e)
    exact ⟨a, xs, h1, .inl (SqL.of h2), h3⟩
  | ref n =>
    obtain ⟨a, xs, h1, h2, h3⟩ := lstOf_ok hR r (show lstOf s (.ref n) = some ws from e)
    exact ⟨a, xs, h1, .inl (SqL.of h2), h3⟩
  | _ => cases e
theorem flat_ok {w : Dv} {v u : V} (r : RV Γ H μ Z w v) (e : flat w = some u) : v = u := by
  cases w <;> first
    | (cases e; exact r)
    | cases e
mutual
theorem toD0_ok : ∀ (w : Dv) {v : V} {d : PyData}, RV Γ H μ Z w v → toD0 w = some d → Dp Γ.K H v d
  | .non, _, _, r, e => by cases e; rw [show _ = _ from r]; exact .non
  | .bl b, _, _, r, e => by cases e; rw [show _ = _ from r]; exact .bl b
  | .int b, _, _, r, e => by cases e; rw [show _ = _ from r]; exact .int b
  | .str b, _, _, r, e => by cases e; rw [show _ = _ from r]; exact .str b
  | .tup ws, _, d, r, e => by
    obtain ⟨a, xs, rfl, h2, h3⟩ := r
    simp only [toD0] at e
    cases q : toDs ws with
    | none => rw [q] at e; cases e
    | some ds => rw [q] at e; cases e; exact .tup h2.sq (toDs_ok ws h3 q)
  | .sq ws, _, d, r, e => by
    obtain ⟨a, xs, rfl, h2, h3⟩ := r
    simp only [toD0] at e
    cases q : toDs ws with
    | none => rw [q] at e; cases e
    | some ds => rw [q] at e; cases e; exact .lst h2.sq (toDs_ok ws h3 q)
  | .lst ws, _, d, r, e => by
    obtain ⟨a, xs, rfl, h2, _, h3⟩ := r
    simp only [toD0] at e
    cases q : toDs ws with
    | none => rw [q] at e; cases e
    | some ds => rw [q] at e; cases e; exact .lst (SqL.of h2) (toDs_ok ws h3 q)
  | .ty _, _, _, _, e => by cases e
  | .cl _, _, _, _, e => by cases e
  | .ref _, _, _, _, e => by cases e
  | .dct _ _, _, _, _, e => by cases e
  | .dtt _ _, _, _, _, e => by cases e
  | .exc _ _ _, _, _, _, e => by cases e
  | .exn _, _, _, _, e => by cases e
  | .clo _ _ _ _ _, _, _, _, e => by cases e
theorem toDs_ok : ∀ (ws : List Dv) {vs : List V} {ds : List PyData}, RVs Γ H μ Z ws vs → toDs ws = some ds → DpAll Γ.K H vs ds
  | [], _, _, r, e => by cases e; rw [show _ = _ from r]; exact .nil
  | w :: ws, _, _, r, e => by
    obtain ⟨x, xs, rfl, h2, h3⟩ := r
    simp only [toDs] at e
    split at e
    · rename_i d ds q1 q2
      cases e
      exact .cons (toD0_ok w h2 q1) (toDs_ok ws h3 q2)
    · cases e
end
theorem toD_ok {w : Dv} {v : V} {d : PyData} (hR : Rep Γ H μ Z s) (r : RV Γ H μ Z w v) (e : toD s w = some d) : Dp Γ.K H v d := by
  cases w with
  | ref n =>
    simp only [toD] at e
    split at e
    · rename_i us q
      obtain ⟨a, h1, h2⟩ := r
      obtain ⟨b, h3, _, xs, h4, h5⟩ := hR.at n _ q
      rw [h2] at h3
      cases h3
      subst h1
      cases q2 : toDs us with
      | none => rw [q2] at e; cases e
      | some ds => rw [q2] at e; cases e; exact .lst (SqL.of h4) (toDs_ok us h5 q2)
    · cases e
  | _ => exact toD0_ok _ r e
end
def cm (i j : Int) : Bool := decide ((-(2 ^ 64) < i ∧ i < 2 ^ 64) ∨ (-(2 ^ 64) < j ∧ j < 2 ^ 64))
theorem cm_ok {i j : Int} (h : cm i j = true) : CMul i j := (of_decide_eq_true h : (-(2 ^ 64) < i ∧ i < 2 ^ 64) ∨ (-(2 ^ 64) < j ∧ j < 2 ^ 64))
def addD : O2 := fun s x y => match x, y with
  | .int i, .int j => some (.int (i + j))
  | .str a, .str b => if a.length + b.length ≤ lim then some (.str (a ++ b)) else none
  | .tup a, .tup b => if a.length + b.length ≤ lim then some (.tup (a ++ b)) else none
  | x, y => match lstOf s x, lstOf s y with
    | some a, some b => if a.length + b.length ≤ lim then some (.lst (a ++ b)) else none
    | _, _ => none
def subD : O2 := fun _ x y => match x, y with
  | .int i, .int j => some (.int (i - j))
  | _, _ => none
def mulD : O2 := fun s x y => match x, y with
  | .int i, .int j => if cm i j = true then some (.int (i * j)) else none
  | .tup a, .int k => if -(2 ^ 63) ≤ k ∧ k < 2 ^ 63 ∧ a.length * k.toNat ≤ lim then some (.tup (List.replicate k.toNat a).flatten) else none
  | x, .int k => match lstOf s x with
    | some a => if -(2 ^ 63) ≤ k ∧ k < 2 ^ 63 ∧ a.length * k.toNat ≤ lim then some (.lst (List.replicate k.toNat a).flatten) else none
    | none => none
  | _, _ => none
def modD : O2 := fun _ x y => match x, y with
  | .int i, .int j => if 0 < j then some (.int (i % j)) else none
  | _, _ => none
def divD : O2 := fun _ x y => match x, y with
  | .int i, .int j => if 0 < j ∧ j < 1073741824 then some (.int (i / j)) else none
  | _, _ => none
def powD : O2 := fun _ x y => match x, y with
  | .int i, .int j => if 0 ≤ j ∧ j ≤ 1000000 ∧ i.natAbs < 2 ^ 64 then some (.int (i ^ j.toNat)) else none
  | _, _ => none
def negD : O1 := fun _ x => match x with
  | .int i => some (.int (-i))
  | _ => none
def cmpD (p : Int → Int → Bool) : O2 := fun _ x y => match x, y with
  | .int i, .int j => some (.bl (p i j))
  | _, _ => none
abbrev ltD : O2 := cmpD fun i j => decide (i < j)
abbrev leD : O2 := cmpD fun i j => decide (i ≤ j)
abbrev gtD : O2 := cmpD fun i j => decide (j < i)
abbrev geD : O2 := cmpD fun i j => decide (j ≤ i)
def eqB (s : Sto) (x y : Dv) : Option Bool := match flat x, flat y with
  | some a, some b => if scal a b = true then some (decide (a = b)) else none
  | _, _ => match toD s x, toD s y with
    | some d, some e => if SeqAt.shaped d = true ∧ SeqAt.shaped e = true then some (PyData.eqv d e) else none
    | _, _ => none
def eqD : O2 := fun s x y => (eqB s x y).map .bl
def neD : O2 := fun s x y => (eqB s x y).map fun b => .bl (!b)
def isN : Dv → Option Bool
  | .non => some true
  | .bl _ => some false | .int _ => some false | .str _ => some false | .tup _ => some false | .lst _ => some false | .sq _ => some false | .dct _ _ => some false | .dtt _ _ => some false | .exc _ _ _ => some false | .exn _ => some false | .ref _ => some false | .ty _ => some false | .cl _ => some false | .clo _ _ _ _ _ => some false
def isBl (c : Bool) : Dv → Bool
  | .bl b => b == c
  | _ => false
def isD : O2 := fun _ x y => match y with
  | .non => (isN x).map .bl
  | .bl c => some (.bl (isBl c x))
  | _ => none
def isntD : O2 := fun _ x y => match y with
  | .non => (isN x).map fun b => .bl (!b)
  | .bl c => some (.bl (!isBl c x))
  | _ => none
section
variable {Γ : Ct} {X : Cx}
abbrev rAdd (K : PySem.W.Frag) : R2 := fun x y H Q => ((rI0 fun i j => .int (i + j)) x y H Q ∨ (∃ i j, x = .str i ∧ y = .str j ∧ i.length + j.length ≤ sizeLine ∧ Q (.str (i ++ j)) H)) ∨ (rCatA K x y H Q ∨ rCat x y H Q)
theorem opAdd : OpR X (binaryOp .Add) (rAdd X.K) := OpR.or2 (OpR.or2 op_add op_add_str) (OpR.or2 op_catA op_cat)
theorem sAdd : Op2 Γ (rAdd Γ.K) addD := fun H μ Z s x y w u v Q hR r1 r2 e k => by
  unfold addD at e
  split at e
  · cases e
    exact .inl (.inl ⟨_, _, r1, r2, k _ H .refl hR rfl⟩)
  · rename_i a b
    split at e
    · rename_i hl
      cases e
      exact .inl (.inr ⟨_, _, r1, r2, lim_ok hl, k _ H .refl hR rfl⟩)
    · cases e
  · rename_i a b
    split at e
    · rename_i hl
      cases e
      obtain ⟨p, xs, h1, h2, h3⟩ := id r1
      obtain ⟨p', ys, g1, g2, g3⟩ := id r2
      refine .inr (.inl ⟨p, p', xs, ys, h1, g1, h2.sq, g2.sq, by rw [h3.len, g3.len]; exact lim_ok hl, fun z => ?_, fun z z' => ?_, fun z z' q hq => ?_⟩)
      · have hn : a = [] := by
          have := h3.len
          rw [z] at this
          exact List.eq_nil_of_length_eq_zero this.symm
        rw [hn, List.nil_append] at k
        exact k _ H .refl hR (g1 ▸ r2)
      · have hn : b = [] := by
          have := g3.len
          rw [z'] at this
          exact List.eq_nil_of_length_eq_zero this.symm
        rw [hn, List.append_nil] at k
        exact k _ H .refl hR (h1 ▸ r1)
      · exact k _ _ (Evo.laid hq) (hR.laid hq) (new_tup hR hq (h3.append g3))
    · cases e
  · split at e
    · rename_i a b q1 q2
      split at e
      · rename_i hl
        cases e
        obtain ⟨p, xs, h1, h2, h3⟩ := lstOf_ok hR r1 q1
        obtain ⟨p', ys, g1, g2, g3⟩ := lstOf_ok hR r2 q2
        exact .inr (.inr ⟨p, p', xs, ys, h1, g1, h2, g2, by rw [h3.len, g3.len]; exact lim_ok hl, fun q hq => k _ _ (Evo.laid hq) (hR.laid hq) (new_lst hR hq (h3.append g3))⟩)
      · cases e
    · cases e
theorem sSub : Op2 Γ (rI0 fun i j => .int (i - j)) subD := fun H μ Z s x y w u v Q hR r1 r2 e k => by
  unfold subD at e
  split at e
  · cases e
    exact ⟨_, _, r1, r2, k _ H .refl hR rfl⟩
  · cases e
abbrev rMul (K : PySem.W.Frag) : R2 := fun x y H Q => (rI CMul fun i j => .int (i * j)) x y H Q ∨ (rRepA K x y H Q ∨ rRep x y H Q)
theorem opMul : OpR X (binaryOp .Mult) (rMul X.K) := OpR.or2 op_mul (OpR.or2 op_repA op_rep)
theorem flat_one {α : Type} (l : List α) : (List.replicate 1 l).flatten = l := by simp
theorem flat_nil {α : Type} (n : Nat) : (List.replicate n ([] : List α)).flatten = [] := by
  induction n with
  | zero => rfl
  | succ n ih => rw [List.replicate_succ, List.flatten_cons, ih]; rfl
theorem sMul : Op2 Γ (rMul Γ.K) mulD := fun H μ Z s x y w u v Q hR r1 r2 e k => by
  unfold mulD at e
  split at e
  · split at e
    · rename_i hc
      cases e
      exact .inl ⟨_, _, r1, r2, cm_ok hc, k _ H .refl hR rfl⟩
    · cases e
  · rename_i a n
    split at e
    · rename_i hl
      cases e
      obtain ⟨p, xs, h1, h2, h3⟩ := id r1
      refine .inr (.inl ⟨p, n, xs, h1, r2, h2.sq, hl.1, hl.2.1, by rw [h3.len]; exact hl.2.2, fun z => ?_, fun z q hq => ?_⟩)
      · have hn : (List.replicate n.toNat a).flatten = a := by
          rcases z with z | z
          · have h0 : a = [] := by
              have := h3.len
              rw [z] at this
              exact List.eq_nil_of_length_eq_zero this.symm
            rw [h0, flat_nil]
          · rw [z]
            exact flat_one a
        rw [hn] at k
        exact k _ H .refl hR (h1 ▸ r1)
      · exact k _ _ (Evo.laid hq) (hR.laid hq) (new_tup hR hq (h3.rep _))
    · cases e
  · rename_i n _ _
    split at e
    · rename_i a q1
      split at e
      · rename_i hl
        cases e
        obtain ⟨p, xs, h1, h2, h3⟩ := lstOf_ok hR r1 q1
        exact .inr (.inr ⟨p, n, xs, h1, r2, h2, hl.1, hl.2.1, by rw [h3.len]; exact lim_ok hl.2.2, fun q hq => k _ _ (Evo.laid hq) (hR.laid hq) (new_lst hR hq (h3.rep _))⟩)
      · cases e
    · cases e
  · cases e
theorem sMod : Op2 Γ (rI (fun _ j => 0 < j) fun i j => .int (i % j)) modD := fun H μ Z s x y w u v Q hR r1 r2 e k => by
  unfold modD at e
  split at e
  · split at e
    · rename_i hc
      cases e
      exact ⟨_, _, r1, r2, hc, k _ H .refl hR rfl⟩
    · cases e
  · cases e
theorem sDiv : Op2 Γ (rI CDiv fun i j => .int (i / j)) divD := fun H μ Z s x y w u v Q hR r1 r2 e k => by
  unfold divD at e
  split at e
  · split at e
    · rename_i hc
      cases e
      exact ⟨_, _, r1, r2, hc, k _ H .refl hR rfl⟩
    · cases e
  · cases e
theorem sPow : Op2 Γ (rI CPow fun i j => .int (i ^ j.toNat)) powD := fun H μ Z s x y w u v Q hR r1 r2 e k => by
  unfold powD at e
  split at e
  · split at e
    · rename_i hc
      cases e
      exact ⟨_, _, r1, r2, hc, k _ H .refl hR rfl⟩
    · cases e
  · cases e
theorem sNeg : Op1 Γ (rU fun i => .int (-i)) negD := fun H μ Z s x w u Q hR r1 e k => by
  unfold negD at e
  split at e
  · cases e
    exact ⟨_, r1, k _ H .refl hR rfl⟩
  · cases e
theorem sCmp {p : Int → Int → Bool} : Op2 Γ (rI0 fun i j => .bl (p i j)) (cmpD p) := fun H μ Z s x y w u v Q hR r1 r2 e k => by
  unfold cmpD at e
  split at e
  · cases e
    exact ⟨_, _, r1, r2, k _ H .refl hR rfl⟩
  · cases e
abbrev rEqM (K : PySem.W.Frag) : R2 := fun x y H Q => rEq x y H Q ∨ rEqD K x y H Q
abbrev rNeM (K : PySem.W.Frag) : R2 := fun x y H Q => rNe x y H Q ∨ rNeD K x y H Q
theorem opEq (hu : X.A.units + 64 < cLine) : OpR X (compareOp .Eq) (rEqM X.K) := OpR.or2 op_eq (op_eqD hu)
theorem opNe (hu : X.A.units + 64 < cLine) : OpR X (compareOp .NotEq) (rNeM X.K) := OpR.or2 op_ne (op_neD hu)
theorem sEq : Op2 Γ (rEqM Γ.K) eqD := fun H μ Z s x y w u v Q hR r1 r2 e k => by
  unfold eqD eqB at e
  split at e
  · rename_i a b q1 q2
    split at e
    · rename_i hs
      cases e
      rw [flat_ok r1 q1, flat_ok r2 q2]
      exact .inl ⟨hs, k _ H .refl hR rfl⟩
    · cases e
  · split at e
    · rename_i d d' q1 q2
      split at e
      · rename_i hs
        cases e
        exact .inr ⟨d, d', toD_ok hR r1 q1, toD_ok hR r2 q2, hs.1, hs.2, k _ H .refl hR rfl⟩
      · cases e
    · cases e
theorem sNe : Op2 Γ (rNeM Γ.K) neD := fun H μ Z s x y w u v Q hR r1 r2 e k => by
  unfold neD eqB at e
  split at e
  · rename_i a b q1 q2
    split at e
    · rename_i hs
      cases e
      rw [flat_ok r1 q1, flat_ok r2 q2]
      exact .inl ⟨hs, k _ H .refl hR rfl⟩
    · cases e
  · split at e
    · rename_i d d' q1 q2
      split at e
      · rename_i hs
        cases e
        exact .inr ⟨d, d', toD_ok hR r1 q1, toD_ok hR r2 q2, hs.1, hs.2, k _ H .refl hR rfl⟩
      · cases e
    · cases e
theorem isN_ok {H : Hp} {μ : Mu} {Z : Zs} {w : Dv} {v : V} {b : Bool} (r : RV Γ H μ Z w v) (e : isN w = some b) : decide (v = V.non) = b := by
  cases w with
  | non => cases e; rw [show v = _ from r]; rfl
  | bl _ => cases e; rw [show v = _ from r]; rfl
  | int _ => cases e; rw [show v = _ from r]; rfl
  | str _ => cases e; rw [show v = _ from r]; rfl
  | ty _ => cases e; rw [show v = _ from r]; rfl
  | cl _ => cases e; rw [show v = _ from r]; rfl
  | ref n => cases e; obtain ⟨_, h, _⟩ := r; rw [h]; rfl
  | tup _ => cases e; obtain ⟨_, _, h, _⟩ := r; rw [h]; rfl
  | lst _ => cases e; obtain ⟨_, _, h, _⟩ := r; rw [h]; rfl
  | sq _ => cases e; obtain ⟨_, _, h, _⟩ := r; rw [h]; rfl
  | dct _ _ => cases e; obtain ⟨_, _, h, _⟩ := r; rw [h]; rfl
  | dtt _ _ => cases e; obtain ⟨_, _, h, _⟩ := r; rw [h]; rfl
  | exc _ _ _ => cases e; obtain ⟨_, _, _, h, _⟩ := r; rw [h]; rfl
  | exn _ => cases e; obtain ⟨_, h, _⟩ := r; rw [h]; rfl
  | clo _ _ _ _ _ => cases e; rw [show v = _ from r.1]; rfl
theorem isBl_ok {H : Hp} {μ : Mu} {Z : Zs} {w : Dv} {v : V} {c : Bool} (r : RV Γ H μ Z w v) : decide (v = V.bl c) = isBl c w := by
  cases w with
  | non => rw [show v = _ from r]; rfl
  | bl b => rw [show v = _ from r]; cases b <;> cases c <;> rfl
  | int _ => rw [show v = _ from r]; rfl
  | str _ => rw [show v = _ from r]; rfl
  | ty _ => rw [show v = _ from r]; rfl
  | cl _ => rw [show v = _ from r]; rfl
  | ref n => obtain ⟨_, h, _⟩ := r; rw [h]; rfl
  | tup _ => obtain ⟨_, _, h, _⟩ := r; rw [h]; rfl
  | lst _ => obtain ⟨_, _, h, _⟩ := r; rw [h]; rfl
  | sq _ => obtain ⟨_, _, h, _⟩ := r; rw [h]; rfl
  | dct _ _ => obtain ⟨_, _, h, _⟩ := r; rw [h]; rfl
  | dtt _ _ => obtain ⟨_, _, h, _⟩ := r; rw [h]; rfl
  | exc _ _ _ => obtain ⟨_, _, _, h, _⟩ := r; rw [h]; rfl
  | exn _ => obtain ⟨_, h, _⟩ := r; rw [h]; rfl
  | clo _ _ _ _ _ => rw [show v = _ from r.1]; rfl
/-- x is c, c one of None, True, False -/
def rIsC (n : Bool) : R2 := fun x y H Q => (y = .non ∨ ∃ b, y = .bl b) ∧ Q (.bl (decide (x = y) != n)) H
theorem rel_bl {x : V} {v : Value} (r : RelV x v) (b : Bool) : plainIs v (.bool b) = true ∧ (v == Value.bool b) = decide (x = V.bl b) := by
  cases x with
  | bl c => cases r; cases b <;> cases c <;> exact ⟨rfl, rfl⟩
  | ref a => cases r; exact ⟨rfl, rfl⟩
  | non => cases r; exact ⟨rfl, rfl⟩
  | int i => obtain ⟨t, rfl⟩ := r; exact ⟨rfl, rfl⟩
  | str x => obtain ⟨t, rfl⟩ := r; exact ⟨rfl, rfl⟩
  | byt x => obtain ⟨t, rfl⟩ := r; exact ⟨rfl, rfl⟩
  | flt x => obtain ⟨t, rfl⟩ := r; exact ⟨rfl, rfl⟩
  | ty n => cases r; exact ⟨rfl, rfl⟩
theorem op_isC : OpR X (compareOp .Is) (rIsC false) := by
  intro pins s σ H x y v u Q I rx ry h
  obtain ⟨hy | ⟨b, hy⟩, q⟩ := h
  · subst hy
    exact op_isN pins s σ H x .non v u Q I rx ry ⟨rfl, by simpa using q⟩
  · subst hy
    cases ry
    obtain ⟨h1, h2⟩ := rel_bl rx b
    exact wpAny_is_plain h1 (fin_bl I q (by rw [h2]; simp))
theorem op_notC : OpR X (compareOp .IsNot) (rIsC true) := by
  intro pins s σ H x y v u Q I rx ry h
  obtain ⟨hy | ⟨b, hy⟩, q⟩ := h
  · subst hy
    exact op_notN pins s σ H x .non v u Q I rx ry ⟨rfl, by simpa using q⟩
  · subst hy
    cases ry
    obtain ⟨h1, h2⟩ := rel_bl rx b
    exact wpAny_isNot_plain h1 (fin_bl I q (by rw [h2]; simp))
theorem sIsC : Op2 Γ (rIsC false) isD := fun H μ Z s x y w u v Q hR r1 r2 e k => by
  unfold isD at e
  split at e
  · cases q : isN x with
    | none => rw [q] at e; cases e
    | some b =>
      rw [q] at e
      cases e
      refine ⟨.inl r2, k _ H .refl hR ?_⟩
      rw [show v = _ from r2, isN_ok r1 q]
      simp [RV]
  · rename_i c
    cases e
    refine ⟨.inr ⟨c, r2⟩, k _ H .refl hR ?_⟩
    rw [show v = _ from r2, isBl_ok r1]
    simp [RV]
  · cases e
theorem sIsntC : Op2 Γ (rIsC true) isntD := fun H μ Z s x y w u v Q hR r1 r2 e k => by
  unfold isntD at e
  split at e
  · cases q : isN x with
    | none => rw [q] at e; cases e
    | some b =>
      rw [q] at e
      cases e
      refine ⟨.inl r2, k _ H .refl hR ?_⟩
      rw [show v = _ from r2, isN_ok r1 q]
      simp [RV]
  · rename_i c
    cases e
    refine ⟨.inr ⟨c, r2⟩, k _ H .refl hR ?_⟩
    rw [show v = _ from r2, isBl_ok r1]
    simp [RV]
  · cases e
end
end MP
set_option Elab.async false
set_option linter.all false
set_option maxRecDepth 100000
set_option maxHeartbeats 4000000
namespace MP
open PySem PySem.Spec PyProof.Rows L2
section
variable {X : Cx} {Γ : Ct} {W : WX} {st : Stmt} {rest : List Stmt} {e : Expr} {f : FE} {c c' : FS} {t : FT} {pos : Pos}
def mNext : FS := fun ρ s => .nx ρ s
def mSeq (c c' : FS) : FS := fun ρ s => match c ρ s with
  | .nx ρ' s' => c' ρ' s'
  | r => r
theorem mb_nil : MB X Γ W [] mNext := PSs.imp pss_nil fun D σ H ⟨μ, Z, ρ, s, hE, hR, q⟩ => q σ H μ .refl hR hE
theorem goS {H : Hp} {μ : Mu} {Z : Zs} {σ : L2.St} {ρ : Env} {s : Sto} {D : Ends} (hE : RE Γ H μ Z ρ σ) (hR : Rep Γ H μ Z s) (q : PostS Γ W H μ Z D (c ρ s)) : rdS Γ W c D σ H := ⟨μ, Z, ρ, s, hE, hR, q⟩
/-- a statement, then what goes on -/
theorem sS {H : Hp} {μ : Mu} {Z : Zs} {σ : L2.St} {ρ : Env} {s : Sto} {D : Ends} {nx : L2.St → Hp → Prop} (hE : RE Γ H μ Z ρ σ) (hR : Rep Γ H μ Z s) (h : PostS Γ W H μ Z D (mSeq c c' ρ s))
    (hk : ∀ ρ1 s1 σ1 H1 μ1, Evo H μ H1 μ1 → RE Γ H1 μ1 Z ρ1 σ1 → Rep Γ H1 μ1 Z s1 → PostS Γ W H1 μ1 Z D (c' ρ1 s1) → nx σ1 H1) : rdS Γ W c { D with nx := nx } σ H := by
  refine ⟨μ, Z, ρ, s, hE, hR, ?_⟩
  unfold mSeq at h
  cases q : c ρ s with
  | nx ρ1 s1 =>
    rw [q] at h
    exact fun σ1 H1 μ1 ev R1 E1 => hk ρ1 s1 σ1 H1 μ1 ev E1 R1 (PostS.evo ev h)
  | bk ρ1 s1 => rw [q] at h; exact h
  | ct ρ1 s1 => rw [q] at h; exact h
  | rt w s1 => rw [q] at h; exact h
  | er x ρ1 s1 => rw [q] at h; exact h
  | no => rw [q] at h; exact h
theorem mb_cons (h1 : MS X Γ W st c) (h2 : MB X Γ W rest c') : MB X Γ W (st :: rest) (mSeq c c') :=
  PSs.imp (pss_cons h1 h2) fun D σ H ⟨μ, Z, ρ, s, hE, hR, q⟩ => sS hE hR q fun ρ1 s1 σ1 H1 μ1 _ E1 R1 q1 => goS E1 R1 q1
theorem mb_one (h1 : MS X Γ W st c) : MB X Γ W [st] c := pss_one h1
def mExpr (f : FE) : FS := fun ρ s => (f ρ s).thenC ρ fun _ s1 => .nx ρ s1
theorem ms_expr (he : ME X Γ W e f) (hs : swapsWith e none pos.line X.env = pure false := by rfl) : MS X Γ W (.Expr e pos) (mExpr f) :=
  PS.imp (ps_expr he hs) fun D σ H ⟨μ, Z, ρ, s, hE, hR, q⟩ => eS hE hR q fun x s1 v H1 μ1 _ E1 R1 _ q1 => q1 σ H1 μ1 .refl R1 E1
def mRet (f : FE) : FS := fun ρ s => (f ρ s).thenC ρ fun w s1 => .rt w s1
theorem ms_ret (he : ME X Γ W e f) : MS X Γ W (.Return (some e) pos) (mRet f) :=
  PS.imp (ps_ret he) fun D σ H ⟨μ, Z, ρ, s, hE, hR, q⟩ => eS hE hR q fun x s1 v H1 μ1 _ E1 R1 r1 q1 => q1 v H1 μ1 .refl R1 r1
def mIfS (t : FT) (c c' : FS) : FS := fun ρ s => (t ρ s).thenC ρ fun b s1 => if b = true then c ρ s1 else c' ρ s1
theorem ms_if {cond : Expr} {a b : List Stmt} (hc : MT X Γ W cond t) (ha : MB X Γ W a c) (hb : MB X Γ W b c') : MS X Γ W (.If cond a b pos) (mIfS t c c') :=
  PS.imp (ps_if hc ha hb) fun D σ H ⟨μ, Z, ρ, s, hE, hR, q⟩ => tS hE hR q fun b s1 H1 μ1 _ E1 R1 q1 => by
    cases b with
    | true => rw [if_pos rfl] at q1 ⊢; exact goS E1 R1 q1
    | false => rw [if_neg Bool.false_ne_true] at q1 ⊢; exact goS E1 R1 q1
abbrev FG := Dv → Env → Sto → Option Env
/-- a target: what it does to the names -/
def GOk (Γ : Ct) (g : TG) (fg : FG) : Prop := ∀ (H : Hp) (μ : Mu) (Z : Zs) (ρ ρ' : Env) (s : Sto) (σ : L2.St) (w : Dv) (v : V) (Q : L2.St → Hp → Prop), RE Γ H μ Z ρ σ → Rep Γ H μ Z s → RV Γ H μ Z w v → fg w ρ s = some ρ' →
  (∀ σ', RE Γ H μ Z ρ' σ' → Q σ' H) → g v σ H Q
def GsOk (Γ : Ct) (g : TGs) (fg : List Dv → Env → Sto → Option Env) : Prop := ∀ (H : Hp) (μ : Mu) (Z : Zs) (ρ ρ' : Env) (s : Sto) (σ : L2.St) (ws : List Dv) (vs : List V) (Q : L2.St → Hp → Prop), RE Γ H μ Z ρ σ → Rep Γ H μ Z s → RVs Γ H μ Z ws vs → fg ws ρ s = some ρ' →
  (∀ σ', RE Γ H μ Z ρ' σ' → Q σ' H) → g vs σ H Q
def MG (X : Cx) (Γ : Ct) (tg : Expr) (g : TG) (fg : FG) : Prop := PG X tg g ∧ GOk Γ g fg
def MGs (X : Cx) (Γ : Ct) (tg : List Expr) (g : TGs) (fg : List Dv → Env → Sto → Option Env) : Prop := PGs X tg g ∧ GsOk Γ g fg
def gN (i : Nat) : FG := fun w ρ _ => some (ρ.set i (some w))
theorem mg_name {tg : Expr} {i : Nat} (h : PG X tg (gName i)) : MG X Γ tg (gName i) (gN i) := ⟨h, fun H μ Z ρ ρ' s σ w v Q hE hR r e k => by
  cases e
  exact k _ (hE.set i r)⟩
def gs0 : List Dv → Env → Sto → Option Env := fun ws ρ _ => match ws with
  | [] => some ρ
  | _ => none
def gsC (g : FG) (gs : List Dv → Env → Sto → Option Env) : List Dv → Env → Sto → Option Env := fun ws ρ s => match ws with
  | w :: r => (g w ρ s).bind fun ρ1 => gs r ρ1 s
  | [] => none
theorem mgs_nil : MGs X Γ [] gNil gs0 := ⟨pgs_nil, fun H μ Z ρ ρ' s σ ws vs Q hE hR r e k => by
  cases ws with
  | nil => cases e; exact ⟨r, k σ hE⟩
  | cons _ _ => cases e⟩
theorem mgs_cons {tg : Expr} {tgs : List Expr} {g : TG} {gs : TGs} {fg : FG} {fgs : List Dv → Env → Sto → Option Env} (h1 : MG X Γ tg g fg) (h2 : MGs X Γ tgs gs fgs) (h : PGs X (tg :: tgs) (gCons g gs)) : MGs X Γ (tg :: tgs) (gCons g gs) (gsC fg fgs) := ⟨h, fun H μ Z ρ ρ' s σ ws vs Q hE hR r e k => by
  cases ws with
  | nil => cases e
  | cons w ws =>
    obtain ⟨x, xs, rfl, r1, r2⟩ := r
    simp only [gsC] at e
    cases q : fg w ρ s with
    | none => rw [q] at e; cases e
    | some ρ1 =>
      rw [q] at e
      exact ⟨x, xs, rfl, h1.2 H μ Z ρ ρ1 s σ w x _ hE hR r1 q fun σ1 E1 => h2.2 H μ Z ρ1 ρ' s σ1 ws xs Q E1 hR r2 e k⟩⟩
def gT (n : Nat) (gs : List Dv → Env → Sto → Option Env) : FG := fun w ρ s => match tupOf w with
  | some ws => if ws.length = n then gs ws ρ s else none
  | none => none
theorem mg_tup {tg : Expr} {K : PySem.W.Frag} {n : Nat} {gs : TGs} {fgs : List Dv → Env → Sto → Option Env} (hK : K = Γ.K) (h : PG X tg (gTup K n gs)) (h2 : GsOk Γ gs fgs) : MG X Γ tg (gTup K n gs) (gT n fgs) := ⟨h, fun H μ Z ρ ρ' s σ w v Q hE hR r e k => by
  subst hK
  unfold gT at e
  split at e
  · rename_i ws q
    split at e
    · rename_i hl
      cases w with
      | tup us =>
        cases q
        obtain ⟨a, xs, h1, h3, h4⟩ := r
        exact ⟨a, xs, h1, h3.sq, by rw [h4.len]; exact hl, h2 H μ Z ρ ρ' s σ _ xs Q hE hR h4 e k⟩
      | _ => cases q
    · cases e
  · cases e⟩
/-- g = e -/
def mAsg (f : FE) (g : FG) : FS := fun ρ s => (f ρ s).thenC ρ fun w s1 => match g w ρ s1 with
  | some ρ' => .nx ρ' s1
  | none => .no
theorem asg_ok {g : TG} {fg : FG} {D : Ends} {σ : L2.St} {H : Hp} (hg : GOk Γ g fg) (h : rdS Γ W (mAsg f fg) D σ H) : tAsg (rdE Γ W f) g D σ H := by
  obtain ⟨μ, Z, ρ, s, hE, hR, q⟩ := h
  exact eS hE hR q fun w s1 v H1 μ1 _ E1 R1 r1 q1 => by
    split at q1
    · rename_i ρ' e
      exact hg H1 μ1 Z ρ ρ' s1 σ w v _ E1 R1 r1 e fun σ' E' => q1 σ' H1 μ1 .refl R1 E'
    · exact q1.elim
theorem ms_asg {g : TG} {fg : FG} (h : PS X st (tAsg (rdE Γ W f) g)) (hg : GOk Γ g fg) : MS X Γ W st (mAsg f fg) := PS.imp h fun D σ H => asg_ok hg
/-- the walk J yields these items -/
def Walks (Γ : Ct) (Z : Zs) (H : Hp) (μ : Mu) (ow : Option (Nat × List Dv)) (J : It) (ws : List Dv) : Prop := ∀ (H' : Hp) (μ' : Mu) (Z' : Zs) (s' : Sto), EvoZ Z H μ H' μ' → Rep Γ H' μ' Z' s' → (∀ a, Z a → Z' a) → (∀ a, Z' a → Z a ∨ H a = none) → (∀ n us, ow = some (n, us) → s'[n]? = some (.lst us)) →
  J.stop ws.length H' ∧ ∀ i w, ws[i]? = some w → J.go i H' ∧ ∀ x H'', J.yld i H' x H'' → Evo H' μ' H'' μ' ∧ Rep Γ H'' μ' Z' s' ∧ RV Γ H'' μ' Z' w x
structure Src where
  ws : List Dv
  ow : Option (Nat × List Dv) := none
abbrev FI := Env → Sto → R Src
def PostI (Γ : Ct) (W : WX) (H : Hp) (μ : Mu) (Z : Zs) (σ : L2.St) (Q : It → Hp → Prop) : R Src → Prop
  | .ok r s' => ∀ J H' μ', Evo H μ H' μ' → Rep Γ H' μ' Z s' → Walks Γ Z H' μ' r.ow J r.ws → Q J H'
  | .er x s' => ∀ cls d H' μ', Evo H μ H' μ' → Rep Γ H' μ' Z s' → RX Γ H' μ' Z x cls d → W cls d σ H'
  | .no => False
def rdI (Γ : Ct) (W : WX) (f : FI) : TI := fun σ H Q => ∃ μ Z ρ s, RE Γ H μ Z ρ σ ∧ Rep Γ H μ Z s ∧ PostI Γ W H μ Z σ Q (f ρ s)
def MI (X : Cx) (Γ : Ct) (W : WX) (tg iter : Expr) (f : FI) : Prop := PI X tg iter (rdI Γ W f)
theorem PI.imp {tg iter : Expr} {t t' : TI} (h : PI X tg iter t) (k : ∀ σ H Q, t' σ H Q → t σ H Q) : PI X tg iter t' := ⟨fun pins s σ H Q I q => h.run pins s σ H Q I (k σ H Q q)⟩
theorem PI.or {tg iter : Expr} {t t' : TI} (h : PI X tg iter t) (h' : PI X tg iter t') : PI X tg iter (fun σ H Q => t σ H Q ∨ t' σ H Q) := ⟨fun pins s σ H Q I q => q.elim (h.run pins s σ H Q I) (h'.run pins s σ H Q I)⟩
def srcOf (s : Sto) : Dv → Option Src
  | .tup ws => some { ws := ws }
  | .lst ws => some { ws := ws }
  | .sq ws => some { ws := ws }
  | .ref n => match s[n]? with
    | some (.lst ws) => some { ws := ws, ow := some (n, ws) }
    | _ => none
  | _ => none
def iSeq (f : FE) : FI := fun ρ s => (f ρ s).bind fun w s1 => R.of (srcOf s1 w) s1
mutual
theorem RV.strong {H : Hp} {μ : Mu} {Z Z' : Zs} (h : ∀ a, Z' a → Z a ∨ H a = none) : ∀ (w : Dv) {v : V}, RV Γ H μ Z w v → RV Γ H μ Z' w v
  | .non, _, q => q
  | .bl _, _, q => q
  | .int _, _, q => q
  | .str _, _, q => q
  | .ty _, _, q => q
  | .cl _, _, q => q
  | .ref n, _, q => q
  | .tup ws, _, q => by
    obtain ⟨a, xs, h1, h2, h3⟩ := q
    refine ⟨a, xs, h1, ?_, RVs.strong h ws h3⟩
    rcases h2 with ⟨h2, f⟩ | h2
    · exact .inl ⟨h2, f.1, fun z => (h a z).elim f.2 (Rd.alive h2)⟩
    · exact .inr h2
  | .sq ws, _, q => by
    obtain ⟨a, xs, h1, h2, h3⟩ := q
    refine ⟨a, xs, h1, ?_, RVs.strong h ws h3⟩
    rcases h2 with ⟨h2, f⟩ | h2
    · exact .inl ⟨h2, f.1, fun z => (h a z).elim f.2 (Rd.alive h2)⟩
    · exact .inr h2
  | .lst ws, _, q => by
    obtain ⟨a, xs, h1, h2, h3, h4⟩ := q
    exact ⟨a, xs, h1, h2, ⟨h3.1, fun z => (h a z).elim h3.2 (by rw [h2]; intro y; cases y)⟩, RVs.strong h ws h4⟩
  | .dct ks ws, _, q => by
    obtain ⟨a, kvs, h1, h2, h3, h4, h5⟩ := q
    exact ⟨a, kvs, h1, h2, ⟨h3.1, fun z => (h a z).elim h3.2 (by rw [h2]; intro y; cases y)⟩, h4, RVs.strong h ws h5⟩
  | .dtt kd ws, _, q => by
    obtain ⟨a, kvs, h1, h2, h3, h4, h5, h6⟩ := q
    exact ⟨a, kvs, h1, h2, ⟨h3.1, fun z => (h a z).elim h3.2 h2.some⟩, h4, RVs.strong h kd h5, RVs.strong h ws h6⟩
  | .exc c f w, _, q => by
    obtain ⟨a, dx, x, h1, h2, h3, h4, h5, h6⟩ := q
    exact ⟨a, dx, x, h1, h2, ⟨h3.1, fun z => (h a z).elim h3.2 (by rw [h2]; intro y; cases y)⟩, h4, ⟨h5.1, fun z => (h dx z).elim h5.2 (by rw [h4]; intro y; cases y)⟩, RV.strong h w h6⟩
  | .exn c, _, q => by
    obtain ⟨a, h1, h2, h3⟩ := q
    exact ⟨a, h1, h2, ⟨h3.1, fun z => (h a z).elim h3.2 (by rw [h2]; intro y; cases y)⟩⟩
  | .clo a c _ ws vs, _, q => by
    obtain ⟨h1, h2, h3, h4⟩ := q
    exact ⟨h1, h2, ⟨h3.1, fun z => (h c z).elim h3.2 (by rw [h2]; intro y; cases y)⟩, RVs.strong h ws h4⟩
theorem RVs.strong {H : Hp} {μ : Mu} {Z Z' : Zs} (h : ∀ a, Z' a → Z a ∨ H a = none) : ∀ (ws : List Dv) {vs : List V}, RVs Γ H μ Z ws vs → RVs Γ H μ Z' ws vs
  | [], _, q => q
  | w :: ws, _, q => by
    obtain ⟨x, xs, h1, h2, h3⟩ := q
    exact ⟨x, xs, h1, RV.strong h w h2, RVs.strong h ws h3⟩
end
/-- a list, a tuple: walked -/
theorem walk_l {H : Hp} {μ : Mu} {Z : Zs} {a : Addr} {xs : List V} {ws : List Dv} (h : ∀ H' μ', EvoZ Z H μ H' μ' → SqL Γ.K H' a xs) (r : RVs Γ H μ Z ws xs) : Walks Γ Z H μ none (Itl Γ.K a) ws := fun H' μ' Z' s' ev hR hy hz _ => by
  have q := h H' μ' ev
  refine ⟨⟨xs, q, by rw [r.len]; exact Nat.le_refl _⟩, fun i w e => ?_⟩
  obtain ⟨x, e1, e2⟩ := r.get e
  refine ⟨⟨xs, x, q, e1⟩, fun y H'' hq => ?_⟩
  obtain ⟨rfl, hq⟩ := hq
  have e3 := hq xs q
  rw [e1] at e3
  cases e3
  exact ⟨.refl, hR, (RV.strong hz w e2).monoZ (ev.more hy)⟩
theorem walk_t {H : Hp} {μ : Mu} {Z : Zs} {a : Addr} {xs : List V} {ws : List Dv} (h : ∀ H' μ', EvoZ Z H μ H' μ' → SqT Γ.K H' a xs) (r : RVs Γ H μ Z ws xs) : Walks Γ Z H μ none (Itt Γ.K a) ws := fun H' μ' Z' s' ev hR hy hz _ => by
  have q := h H' μ' ev
  refine ⟨⟨xs, q, by rw [r.len]; exact Nat.le_refl _⟩, fun i w e => ?_⟩
  obtain ⟨x, e1, e2⟩ := r.get e
  refine ⟨⟨xs, x, q, e1⟩, fun y H'' hq => ?_⟩
  obtain ⟨rfl, hq⟩ := hq
  have e3 := hq xs q
  rw [e1] at e3
  cases e3
  exact ⟨.refl, hR, (RV.strong hz w e2).monoZ (ev.more hy)⟩
/-- a list of the store: walked while it stands -/
theorem walk_m {H : Hp} {μ : Mu} {Z : Zs} {a : Addr} {n : Nat} {xs : List V} {ws : List Dv} (hn : μ n = some a) (hH : H a = some (.lst xs)) (r : RVs Γ H μ Z ws xs) : Walks Γ Z H μ (some (n, ws)) (Itl Γ.K a) ws := fun H' μ' Z' s' ev hR hy hz ho => by
  obtain ⟨b, h1, _, ys, h3, h4⟩ := hR.at n _ (ho n ws rfl)
  rw [ev.mu n a hn] at h1
  cases h1
  have q : SqL Γ.K H' a ys := SqL.of h3
  refine ⟨⟨ys, q, by rw [h4.len]; exact Nat.le_refl _⟩, fun i w e => ?_⟩
  obtain ⟨x, e1, e2⟩ := h4.get e
  refine ⟨⟨ys, x, q, e1⟩, fun y H'' hq => ?_⟩
  obtain ⟨rfl, hq⟩ := hq
  have e3 := hq ys q
  rw [e1] at e3
  cases e3
  exact ⟨.refl, hR, e2⟩
theorem iA {H : Hp} {μ : Mu} {Z : Zs} {σ : L2.St} {ρ : Env} {s : Sto} {f : FA} {k : List Dv → Sto → R Src} {Q : It → Hp → Prop} {Q' : List V → Hp → Prop} (hE : RE Γ H μ Z ρ σ) (hR : Rep Γ H μ Z s) (h : PostI Γ W H μ Z σ Q ((f ρ s).bind k))
    (hk : ∀ x s1 v H1 μ1, Evo H μ H1 μ1 → RE Γ H1 μ1 Z ρ σ → Rep Γ H1 μ1 Z s1 → RVs Γ H1 μ1 Z x v → PostI Γ W H1 μ1 Z σ Q (k x s1) → Q' v H1) : rdA Γ W f σ H Q' := by
  refine ⟨μ, Z, ρ, s, hE, hR, ?_⟩
  cases e : f ρ s with
  | ok x s1 =>
    rw [e] at h
    refine fun v H1 μ1 ev R1 r1 => hk x s1 v H1 μ1 ev (hE.mono ev) R1 r1 ?_
    have h' : PostI Γ W H μ Z σ Q (k x s1) := h
    cases q : k x s1 with
    | ok r s' => rw [q] at h'; exact fun J H' μ' e' => h' J H' μ' (ev.trans e')
    | er y s' => rw [q] at h'; exact fun c d H' μ' e' => h' c d H' μ' (ev.trans e')
    | no => rw [q] at h'; exact h'.elim
  | er x s1 => rw [e] at h; exact h
  | no => rw [e] at h; exact h.elim
theorem mi_seq {tg l : Expr} {f : FE} (hK : Γ.K = X.K) (hl : ME X Γ W l f) : MI X Γ W tg l (iSeq f) :=
  PI.imp (PI.or (pi_list hl) (pi_tup hl)) fun σ H Q ⟨μ, Z, ρ, s, hE, hR, q⟩ => by
    rw [← hK]
    unfold iSeq at q
    cases e : f ρ s with
    | no => rw [e] at q; exact q.elim
    | er x s1 => rw [e] at q; exact .inl ⟨μ, Z, ρ, s, hE, hR, by rw [e]; exact q⟩
    | ok x s1 =>
      rw [e] at q
      have q' : PostI Γ W H μ Z σ Q (R.of (srcOf s1 x) s1) := q
      cases x with
      | tup ws =>
        refine .inr ⟨μ, Z, ρ, s, hE, hR, ?_⟩
        rw [e]
        rintro v H1 μ1 e1 R1 ⟨a, xs, h1, h2, h3⟩
        exact ⟨a, h1, ⟨xs, h2.sq⟩, q' _ _ _ e1 R1 (walk_t (fun H' μ' ev => (h2.monoZ ev).sq) h3)⟩
      | sq ws =>
        refine .inl ⟨μ, Z, ρ, s, hE, hR, ?_⟩
        rw [e]
        rintro v H1 μ1 e1 R1 ⟨a, xs, h1, h2, h3⟩
        exact ⟨a, h1, ⟨xs, h2.sq⟩, q' _ _ _ e1 R1 (walk_l (fun H' μ' ev => (h2.monoZ ev).sq) h3)⟩
      | lst ws =>
        refine .inl ⟨μ, Z, ρ, s, hE, hR, ?_⟩
        rw [e]
        rintro v H1 μ1 e1 R1 ⟨a, xs, h1, h2, h3, h4⟩
        exact ⟨a, h1, ⟨xs, SqL.of h2⟩, q' _ _ _ e1 R1 (walk_l (fun H' μ' ev => SqL.of (ev.keep _ _ h2 h3.1 h3.2)) h4)⟩
      | ref n =>
        simp only [srcOf] at q'
        split at q'
        · rename_i us e2
          refine .inl ⟨μ, Z, ρ, s, hE, hR, ?_⟩
          rw [e]
          rintro v H1 μ1 e1 R1 ⟨a, h1, h2⟩
          obtain ⟨b, g1, _, xs, g3, g4⟩ := R1.at n _ e2
          rw [h2] at g1
          cases g1
          exact ⟨a, h1, ⟨xs, SqL.of g3⟩, q' _ _ _ e1 R1 (walk_m h2 g3 g4)⟩
        · exact q'.elim
      | _ => exact q'.elim
/-- range(n), range(a, b) -/
def rng (lo : Int) (n : Nat) : List Dv := (List.range n).map fun (i : Nat) => .int (lo + i)
theorem rng_get {lo : Int} {n i : Nat} {w : Dv} (h : (rng lo n)[i]? = some w) : i < n ∧ w = .int (lo + i) := by
  unfold rng at h
  rw [List.getElem?_map] at h
  cases e : (List.range n)[i]? with
  | none => rw [e] at h; cases h
  | some j =>
    rw [e] at h
    cases h
    obtain ⟨h1, h2⟩ := List.getElem?_eq_some_iff.mp e
    rw [List.length_range] at h1
    rw [List.getElem_range] at h2
    exact ⟨h1, by rw [h2]⟩
theorem rng_len (lo : Int) (n : Nat) : (rng lo n).length = n := by unfold rng; rw [List.length_map, List.length_range]
theorem walk_r {H : Hp} {μ : Mu} {Z : Zs} {lo : Int} {n : Nat} : Walks Γ Z H μ none (Itr lo n) (rng lo n) := fun H' μ' Z' s' ev hR hy hz _ => by
  refine ⟨by rw [rng_len]; exact Nat.le_refl n, fun i w e => ?_⟩
  obtain ⟨h1, rfl⟩ := rng_get e
  refine ⟨h1, fun x H'' hq => ?_⟩
  obtain ⟨rfl, rfl⟩ := hq
  exact ⟨.refl, hR, rfl⟩
def okR (i : Int) : Bool := decide (-(2 ^ 62) ≤ i ∧ i < 2 ^ 62)
def iRange1 (fa : FA) : FI := fun ρ s => (fa ρ s).bind fun ws s1 => match ws with
  | [.int j] => if okR j = true then .ok { ws := rng 0 j.toNat } s1 else .no
  | _ => .no
def iRange2 (fa : FA) : FI := fun ρ s => (fa ρ s).bind fun ws s1 => match ws with
  | [.int i, .int j] => if okR i = true ∧ okR j = true then .ok { ws := rng i (j - i).toNat } s1 else .no
  | _ => .no
theorem mi_range1 {tg a : Expr} {fa : FA} {p pos : Pos} (hg : Gl X "range") (hm : X.mg "range" = none) (ha : MA X Γ W [a] fa) (hs : starEach [a] X.env = [(false, eval a X.env)] := by rfl) : MI X Γ W tg (.Call (.Name "range" p) [a] [] pos) (iRange1 fa) :=
  PI.imp (pi_range1 hg hm ha hs) fun σ H Q ⟨μ, Z, ρ, s, hE, hR, q⟩ => iA hE hR q fun ws s1 vs H1 μ1 e1 E1 R1 r1 q1 => by
    split at q1
    · rename_i j
      split at q1
      · rename_i hj
        have hj' : -(2 ^ 62) ≤ j ∧ j < 2 ^ 62 := of_decide_eq_true hj
        obtain ⟨x, xs, rfl, g1, g2⟩ := r1
        rw [show x = .int j from g1, show xs = [] from g2]
        exact ⟨j, rfl, hj'.1, hj'.2, q1 _ _ _ .refl R1 walk_r⟩
      · exact q1.elim
    · exact q1.elim
theorem mi_range2 {tg a b : Expr} {fa : FA} {p pos : Pos} (hg : Gl X "range") (hm : X.mg "range" = none) (ha : MA X Γ W [a, b] fa) (hs : starEach [a, b] X.env = [(false, eval a X.env), (false, eval b X.env)] := by rfl) (hs2 : starEach [b] X.env = [(false, eval b X.env)] := by rfl) :
    MI X Γ W tg (.Call (.Name "range" p) [a, b] [] pos) (iRange2 fa) :=
  PI.imp (pi_range2 hg hm ha hs hs2) fun σ H Q ⟨μ, Z, ρ, s, hE, hR, q⟩ => iA hE hR q fun ws s1 vs H1 μ1 e1 E1 R1 r1 q1 => by
    split at q1
    · rename_i i j
      split at q1
      · rename_i hj
        have hi : -(2 ^ 62) ≤ i ∧ i < 2 ^ 62 := of_decide_eq_true hj.1
        have hj' : -(2 ^ 62) ≤ j ∧ j < 2 ^ 62 := of_decide_eq_true hj.2
        obtain ⟨x, xs, rfl, g1, y, ys, rfl, g2, g3⟩ := r1
        rw [show x = .int i from g1, show y = .int j from g2, show ys = [] from g3]
        exact ⟨i, j, rfl, ⟨hi.1, hi.2, hj'.1, hj'.2⟩, q1 _ _ _ .refl R1 walk_r⟩
      · exact q1.elim
    · exact q1.elim
/-- whether the list that is walked stands as it did -/
def still (s : Sto) (r : Option (Nat × List Dv)) : Prop := ∀ n us, r = some (n, us) → s[n]? = some (.lst us)
open Classical in
noncomputable def stB (s : Sto) (r : Option (Nat × List Dv)) : Bool := decide (still s r)
noncomputable def forL (ow : Option (Nat × List Dv)) (g : FG) (body : FS) : List Dv → FS
  | [], ρ, s => if ow.isNone = true ∨ stB s ow = true then .nx ρ s else .no
  | w :: ws, ρ, s => if ow.isNone = true ∨ stB s ow = true then match g w ρ s with
    | none => .no
    | some ρ1 => match body ρ1 s with
      | .nx ρ2 s2 => forL ow g body ws ρ2 s2
      | .ct ρ2 s2 => forL ow g body ws ρ2 s2
      | .bk ρ2 s2 => .nx ρ2 s2
      | .rt v s2 => .rt v s2
      | .er x ρ2 s2 => .er x ρ2 s2
      | .no => .no
    else .no
noncomputable def mFor (f : FI) (g : FG) (body : FS) : FS := fun ρ s => (f ρ s).thenC ρ fun r s1 => forL r.ow g body r.ws ρ s1
open Classical in
theorem st_of {s : Sto} {ow : Option (Nat × List Dv)} (h : ow.isNone = true ∨ stB s ow = true) : still s ow := by
  rcases h with h | h
  · intro n us e
    rw [e] at h
    cases h
  · unfold stB at h
    exact of_decide_eq_true h
theorem iS {H : Hp} {μ : Mu} {Z : Zs} {σ : L2.St} {ρ : Env} {s : Sto} {f : FI} {k : Src → Sto → C} {D : Ends} {Q' : It → Hp → Prop} (hE : RE Γ H μ Z ρ σ) (hR : Rep Γ H μ Z s) (h : PostS Γ W H μ Z D ((f ρ s).thenC ρ k))
    (hk : ∀ r s1 J H1 μ1, Evo H μ H1 μ1 → RE Γ H1 μ1 Z ρ σ → Rep Γ H1 μ1 Z s1 → Walks Γ Z H1 μ1 r.ow J r.ws → PostS Γ W H1 μ1 Z D (k r s1) → Q' J H1) : rdI Γ W f σ H Q' := by
  refine ⟨μ, Z, ρ, s, hE, hR, ?_⟩
  cases e : f ρ s with
  | ok r s1 => rw [e] at h; exact fun J H1 μ1 ev R1 w => hk r s1 J H1 μ1 ev (hE.mono ev) R1 w (PostS.evo ev h)
  | er x s1 => rw [e] at h; exact fun c d H' μ' ev R' rx => h c d σ H' μ' ev R' (hE.mono ev) rx
  | no => rw [e] at h; exact h.elim
theorem for_ok {H : Hp} {μ : Mu} {Z : Zs} {σ : L2.St} {ρ : Env} {s : Sto} {D : Ends} {g : TG} {fg : FG} {body : FS} {ow : Option (Nat × List Dv)} {ws : List Dv} {J : It} (hg : GOk Γ g fg) (hE : RE Γ H μ Z ρ σ) (hR : Rep Γ H μ Z s) (hw : Walks Γ Z H μ ow J ws)
    (q : PostS Γ W H μ Z D (forL ow fg body ws ρ s)) :
    ∃ Wn : Nat → Nat → L2.St → Hp → Prop, (∃ m, Wn 0 m σ H) ∧ ∀ i m σ H, Wn i m σ H → (J.stop i H ∧ D.nx σ H) ∨ (J.go i H ∧ ∃ N : L2.St → Hp → Prop, (∀ σ' H', N σ' H' → ∃ m', m' < m ∧ Wn (i + 1) m' σ' H') ∧
      ∀ x H', J.yld i H x H' → g x σ H' fun σ2 H2 => rdS Γ W body { D with nx := N, ct := N, bk := D.nx } σ2 H2) := by
  let P : Nat → L2.St → Hp → Prop := fun i σ1 H1 => ∃ μ1 ρ1 s1, Evo H μ H1 μ1 ∧ RE Γ H1 μ1 Z ρ1 σ1 ∧ Rep Γ H1 μ1 Z s1 ∧ PostS Γ W H1 μ1 Z D (forL ow fg body (ws.drop i) ρ1 s1)
  refine ⟨fun i m σ1 H1 => m = ws.length - i ∧ i ≤ ws.length ∧ P i σ1 H1, ⟨ws.length, by omega, Nat.zero_le _, μ, ρ, s, .refl, hE, hR, q⟩, ?_⟩
  rintro i m σ1 H1 ⟨rfl, hi, μ1, ρ1, s1, ev, E1, R1, q1⟩
  by_cases hl : i < ws.length
  · have hd : ws.drop i = ws[i] :: ws.drop (i + 1) := List.drop_eq_getElem_cons hl
    rw [hd] at q1
    simp only [forL] at q1
    split at q1
    · rename_i hst
      obtain ⟨_, hgo⟩ := hw H1 μ1 Z s1 ev.z R1 (fun _ z => z) (fun a z => .inl z) (st_of hst)
      obtain ⟨h1, h2⟩ := hgo i ws[i] (List.getElem?_eq_getElem hl)
      refine .inr ⟨h1, P (i + 1), fun σ' H' p => ⟨_, by omega, rfl, hl, p⟩, fun x H' hy => ?_⟩
      obtain ⟨e2, R2, r2⟩ := h2 x H' hy
      cases eg : fg ws[i] ρ1 s1 with
      | none => rw [eg] at q1; exact q1.elim
      | some ρ2 =>
        rw [eg] at q1
        dsimp only at q1
        refine hg H' μ1 Z ρ1 ρ2 s1 σ1 ws[i] x _ (E1.mono e2) R2 r2 eg fun σ2 E2 => ⟨μ1, Z, ρ2, s1, E2, R2, ?_⟩
        cases eb : body ρ2 s1 with
        | nx ρ3 s3 => rw [eb] at q1; exact fun σ3 H3 μ3 e3 R3 E3 => ⟨μ3, ρ3, s3, (ev.trans e2).trans e3, E3, R3, PostS.evo (e2.trans e3) q1⟩
        | ct ρ3 s3 => rw [eb] at q1; exact fun σ3 H3 μ3 e3 R3 E3 => ⟨μ3, ρ3, s3, (ev.trans e2).trans e3, E3, R3, PostS.evo (e2.trans e3) q1⟩
        | bk ρ3 s3 => rw [eb] at q1; exact fun σ3 H3 μ3 e3 R3 E3 => q1 σ3 H3 μ3 (e2.trans e3) R3 E3
        | rt v s3 => rw [eb] at q1; exact fun v3 H3 μ3 e3 R3 r3 => q1 v3 H3 μ3 (e2.trans e3) R3 r3
        | er x3 ρ3 s3 => rw [eb] at q1; exact fun c d σ3 H3 μ3 e3 R3 E3 r3 => q1 c d σ3 H3 μ3 (e2.trans e3) R3 E3 r3
        | no => rw [eb] at q1; exact q1.elim
    · exact q1.elim
  · have he : i = ws.length := by omega
    subst he
    rw [List.drop_length] at q1
    simp only [forL] at q1
    split at q1
    · rename_i hst
      obtain ⟨hs, _⟩ := hw H1 μ1 Z s1 ev.z R1 (fun _ z => z) (fun a z => .inl z) (st_of hst)
      exact .inl ⟨hs, q1 σ1 H1 μ1 .refl R1 E1⟩
    · exact q1.elim
theorem ms_for {tg iter : Expr} {bd : List Stmt} {f : FI} {g : TG} {fg : FG} {body : FS} (hp : PassesOwn (model X.prog X.w) X.A X.env X.xe) (hc : X.calm = true) (hi : MI X Γ W tg iter f) (hg : MG X Γ tg g fg) (hb : MB X Γ W bd body)
    (hs : ∀ x, foldedSetIterable iter X.env x = pure x := by intro _; rfl) : MS X Γ W (.For tg iter bd [] pos) (mFor f fg body) :=
  PS.imp (ps_for hp hc hi hg.1 hb hs) fun D σ H ⟨μ, Z, ρ, s, hE, hR, q⟩ => iS hE hR q fun r s1 J H1 μ1 e1 E1 R1 w1 q1 => for_ok hg.2 E1 R1 w1 q1
end
end MP
set_option Elab.async false
set_option linter.all false
set_option maxRecDepth 100000
set_option maxHeartbeats 4000000
namespace MP
open PySem PySem.Spec PyProof.Rows L2
/-- nothing is raised here -/
abbrev W0 : WX := fun _ _ _ _ => False
section
variable {X : Cx} {Γ : Ct} {W : WX} {H H1 H' : Hp} {μ μ1 μ' : Mu} {Z Z' : Zs} {ρ : Env} {σ : L2.St} {s : Sto} {p : Addr} {o : HO}
abbrev hid (p : Addr) (Z : Zs) : Zs := fun b => b = p ∨ Z b
theorem RO.strong {a : Addr} {ob : Ob} (h : ∀ a, Z' a → Z a ∨ H a = none) (r : RO Γ H μ Z a ob) : RO Γ H μ Z' a ob := by
  cases ob with
  | lst ws =>
    obtain ⟨xs, h4, h5⟩ := r
    exact ⟨xs, h4, RVs.strong h ws h5⟩
  | dct kws =>
    obtain ⟨kvs, h4, h5, h6⟩ := r
    exact ⟨kvs, h4, h5, RVs.strong h _ h6⟩
  | dtt fr kws =>
    obtain ⟨kvs, h4, h5, h6, h7⟩ := r
    exact ⟨kvs, h4, h5, RVs.strong h _ h6, RVs.strong h _ h7⟩
  | obj c fs =>
    obtain ⟨dx, kvs, h4, h5, h6⟩ := r
    exact ⟨dx, kvs, h4, h5, RVs.strong h _ h6⟩
  | tab m q => exact ⟨r.1, tab_imp rfl (fun c e1 e2 => ⟨e1, e2.1, fun z => (h c z).elim e2.2 (by rw [e1]; intro y; cases y)⟩) r.2⟩
theorem RO.weak {a : Addr} {ob : Ob} (h : ∀ a, Z a → Z' a) (r : RO Γ H μ Z' a ob) : RO Γ H μ Z a ob := by
  cases ob with
  | lst ws =>
    obtain ⟨xs, h4, h5⟩ := r
    exact ⟨xs, h4, RVs.weak h ws h5⟩
  | dct kws =>
    obtain ⟨kvs, h4, h5, h6⟩ := r
    exact ⟨kvs, h4, h5, RVs.weak h _ h6⟩
  | dtt fr kws =>
    obtain ⟨kvs, h4, h5, h6, h7⟩ := r
    exact ⟨kvs, h4, h5, RVs.weak h _ h6, RVs.weak h _ h7⟩
  | obj c fs =>
    obtain ⟨dx, kvs, h4, h5, h6⟩ := r
    exact ⟨dx, kvs, h4, h5, RVs.weak h _ h6⟩
  | tab m q => exact ⟨r.1, tab_imp rfl (fun c e1 e2 => ⟨e1, e2.weak h⟩) r.2⟩
theorem Rep.weak (h : ∀ a, Z a → Z' a) (hR : Rep Γ H μ Z' s) : Rep Γ H μ Z s := ⟨fun n ob q => by
  obtain ⟨a, h1, h2, h3⟩ := hR.at n ob q
  exact ⟨a, h1, fun z => h2 (h a z), h3.weak h⟩, hR.inj, hR.dom, fun a z => hR.za a (h a z)⟩
/-- a fresh object, hidden -/
theorem Rep.hide (hR : Rep Γ H μ Z s) (hp : H p = none) : Rep Γ (upd H p o) μ (hid p Z) s := by
  have hz : ∀ a, hid p Z a → Z a ∨ H a = none := fun a z => z.elim (fun e => .inr (e ▸ hp)) .inl
  have ev : Evo H μ (upd H p o) μ := Evo.laid hp
  refine ⟨fun n ob q => ?_, hR.inj, hR.dom, fun a z => ?_⟩
  · obtain ⟨a, h1, h2, h3⟩ := hR.at n ob q
    have hne : a ≠ p := fun e => hR.alive h1 (e ▸ hp)
    exact ⟨a, h1, fun z => z.elim hne h2, (h3.strong hz).mono' ev (upd_ne hne)⟩
  · by_cases e : a = p
    · rw [e, upd_same]; intro y; cases y
    · rw [upd_ne e]
      exact hR.za a (z.resolve_left e)
theorem RE.hide (hE : RE Γ H μ Z ρ σ) (hp : H p = none) : RE Γ (upd H p o) μ (hid p Z) ρ σ := ⟨hE.1, fun i w q => by
  obtain ⟨v, h1, h2⟩ := hE.2 i w q
  exact ⟨v, h1, (RV.strong (fun a z => z.elim (fun e => .inr (e ▸ hp)) .inl) w h2).mono (Evo.laid hp)⟩⟩
theorem Evo.hid (e : Evo H μ H1 μ1) (hp : H p = none) : Evo H μ (upd H1 p o) μ1 where
  keep := fun a ob h hn => by rw [upd_ne (ne_of_none h hp)]; exact e.keep a ob h hn
  mu := e.mu
  new := e.new
  stay := fun n a h q => by
    rw [upd_ne (fun z : a = p => q (by rw [z]; exact hp))]
    exact e.stay n a h q
theorem RO.updZ {a : Addr} {ob : Ob} (hne : a ≠ p) (r : RO Γ H μ (MP.hid p Z) a ob) : RO Γ (upd H p o) μ (MP.hid p Z) a ob := by
  cases ob with
  | lst ws =>
    obtain ⟨xs, h4, h5⟩ := r
    exact ⟨xs, by rw [upd_ne hne]; exact h4, RVs.updZ ws h5⟩
  | dct kws =>
    obtain ⟨kvs, h4, h5, h6⟩ := r
    exact ⟨kvs, by rw [upd_ne hne]; exact h4, h5, RVs.updZ _ h6⟩
  | dtt fr kws =>
    obtain ⟨kvs, h4, h5, h6, h7⟩ := r
    exact ⟨kvs, h4.eq (upd_ne hne), h5, RVs.updZ _ h6, RVs.updZ _ h7⟩
  | obj c fs =>
    obtain ⟨dx, kvs, h4, h5, h6⟩ := r
    exact ⟨dx, kvs, by rw [upd_ne hne]; exact h4, h5, RVs.updZ _ h6⟩
  | tab m q => exact ⟨r.1, tab_imp (upd_ne hne) (fun c e1 e2 => ⟨by rw [upd_ne e2.evoZ]; exact e1, e2⟩) r.2⟩
theorem Rep.updZ (hR : Rep Γ H μ (MP.hid p Z) s) : Rep Γ (upd H p o) μ (MP.hid p Z) s := ⟨fun n ob q => by
  obtain ⟨a, h1, h2, h3⟩ := hR.at n ob q
  exact ⟨a, h1, h2, h3.updZ fun e => h2 (.inl e)⟩, hR.inj, hR.dom, fun a z => by
    by_cases e : a = p
    · rw [e, upd_same]; intro y; cases y
    · rw [upd_ne e]; exact hR.za a z⟩
theorem RE.wipe (hE : RE Γ H μ Z ρ σ) : ∀ vs : List Nat, RE Γ H μ Z (vs.foldr (fun v r => r.set v none) ρ) (L2.wipe σ vs)
  | [] => hE
  | v :: vs => (RE.wipe hE vs).del v
end
def wipeD (ρ : Env) (vs : List Nat) : Env := vs.foldr (fun v r => r.set v none) ρ
noncomputable def compL (ow : Option (Nat × List Dv)) (vs : List Nat) (g : FG) (tt : FT) (elt : FE) (ρ : Env) : List Dv → Sto → Option (List Dv × Sto)
  | [], s => if ow.isNone = true ∨ stB s ow = true then some ([], s) else none
  | w :: ws, s => if ow.isNone = true ∨ stB s ow = true then match g w (wipeD ρ vs) s with
    | none => none
    | some ρ1 => match tt ρ1 s with
      | .ok true s2 => match elt ρ1 s2 with
        | .ok y s3 => (compL ow vs g tt elt ρ ws s3).map fun r => (y :: r.1, r.2)
        | _ => none
      | .ok false s2 => compL ow vs g tt elt ρ ws s2
      | _ => none
    else none
noncomputable def mComp (f : FI) (vs : List Nat) (g : FG) (tt : FT) (elt : FE) : FE := fun ρ s => (f ρ s).bind fun r s1 => match compL r.ow vs g tt elt ρ r.ws s1 with
  | some (ws, s2) => if ws.length ≤ lim then .ok (.lst ws) s2 else .no
  | none => .no
def mYes : FT := fun _ s => .ok true s
/-- a target within the block's own names -/
def GWk (Γ : Ct) (g : TG) (fg : FG) (vs : List Nat) : Prop := ∀ (H : Hp) (μ : Mu) (Z : Zs) (ρ ρ' : Env) (s : Sto) (σ : L2.St) (w : Dv) (v : V) (Q : L2.St → Hp → Prop), RE Γ H μ Z ρ σ → Rep Γ H μ Z s → RV Γ H μ Z w v → fg w ρ s = some ρ' →
  (∀ σ', RE Γ H μ Z ρ' σ' → L2.wipe σ' vs = L2.wipe σ vs → Q σ' H) → g v σ H Q
def GsWk (Γ : Ct) (g : TGs) (fg : List Dv → Env → Sto → Option Env) (vs : List Nat) : Prop := ∀ (H : Hp) (μ : Mu) (Z : Zs) (ρ ρ' : Env) (s : Sto) (σ : L2.St) (ws : List Dv) (xs : List V) (Q : L2.St → Hp → Prop), RE Γ H μ Z ρ σ → Rep Γ H μ Z s → RVs Γ H μ Z ws xs → fg ws ρ s = some ρ' →
  (∀ σ', RE Γ H μ Z ρ' σ' → L2.wipe σ' vs = L2.wipe σ vs → Q σ' H) → g xs σ H Q
theorem wipe_set (σ : L2.St) (i : Nat) (v : Option V) : ∀ vs : List Nat, i ∈ vs → L2.wipe (σ.set i v) vs = L2.wipe σ vs
  | [], h => nomatch h
  | j :: vs, h => by
    show (L2.wipe (σ.set i v) vs).set j none = (L2.wipe σ vs).set j none
    by_cases hm : i ∈ vs
    · rw [wipe_set σ i v vs hm]
    · have e : i = j := (List.mem_cons.mp h).resolve_right hm
      subst e
      have comm : ∀ (us : List Nat), i ∉ us → L2.wipe (σ.set i v) us = (L2.wipe σ us).set i v := fun us => by
        induction us with
        | nil => intro _; rfl
        | cons k us ih =>
          intro hk
          show (L2.wipe (σ.set i v) us).set k none = ((L2.wipe σ us).set k none).set i v
          rw [ih fun z => hk (List.mem_cons_of_mem _ z)]
          exact List.set_comm _ _ fun z => hk (by rw [z]; exact List.mem_cons_self)
      rw [comm vs hm, List.set_set]
theorem wipe_wipe (σ : L2.St) (vs : List Nat) : L2.wipe (L2.wipe σ vs) vs = L2.wipe σ vs := by
  have key : ∀ (us : List Nat), (∀ i ∈ us, i ∈ vs) → L2.wipe (L2.wipe σ us) vs = L2.wipe σ vs := fun us => by
    induction us with
    | nil => intro _; rfl
    | cons j us ih =>
      intro h
      show L2.wipe ((L2.wipe σ us).set j none) vs = _
      rw [wipe_set _ j none vs (h j List.mem_cons_self)]
      exact ih fun i hi => h i (List.mem_cons_of_mem _ hi)
  exact key vs fun _ h => h
section
variable {X : Cx} {Γ : Ct} {W : WX}
theorem gw_name {i : Nat} {vs : List Nat} (h : i ∈ vs) : GWk Γ (gName i) (gN i) vs := fun H μ Z ρ ρ' s σ w v Q hE hR r e k => by
  cases e
  exact k _ (hE.set i r) (wipe_set σ i (some v) vs h)
theorem gws_nil {vs : List Nat} : GsWk Γ gNil gs0 vs := fun H μ Z ρ ρ' s σ ws xs Q hE hR r e k => by
  cases ws with
  | nil => cases e; exact ⟨r, k σ hE rfl⟩
  | cons _ _ => cases e
theorem gws_cons {g : TG} {gs : TGs} {fg : FG} {fgs : List Dv → Env → Sto → Option Env} {vs : List Nat} (h1 : GWk Γ g fg vs) (h2 : GsWk Γ gs fgs vs) : GsWk Γ (gCons g gs) (gsC fg fgs) vs := fun H μ Z ρ ρ' s σ ws xs Q hE hR r e k => by
  cases ws with
  | nil => cases e
  | cons w ws =>
    obtain ⟨x, xs, rfl, r1, r2⟩ := r
    simp only [gsC] at e
    cases q : fg w ρ s with
    | none => rw [q] at e; cases e
    | some ρ1 =>
      rw [q] at e
      exact ⟨x, xs, rfl, h1 H μ Z ρ ρ1 s σ w x _ hE hR r1 q fun σ1 E1 hw => h2 H μ Z ρ1 ρ' s σ1 ws xs Q E1 hR r2 e fun σ' E' hw' => k σ' E' (hw'.trans hw)⟩
theorem gw_tup {K : PySem.W.Frag} {n : Nat} {gs : TGs} {fgs : List Dv → Env → Sto → Option Env} {vs : List Nat} (hK : K = Γ.K) (h2 : GsWk Γ gs fgs vs) : GWk Γ (gTup K n gs) (gT n fgs) vs := fun H μ Z ρ ρ' s σ w v Q hE hR r e k => by
  subst hK
  unfold gT at e
  split at e
  · rename_i ws q
    split at e
    · rename_i hl
      cases w with
      | tup us =>
        cases q
        obtain ⟨a, xs, h1, h3, h4⟩ := r
        exact ⟨a, xs, h1, h3.sq, by rw [h4.len]; exact hl, h2 H μ Z ρ ρ' s σ _ xs Q hE hR h4 e k⟩
      | _ => cases q
    · cases e
  · cases e
theorem iE {H : Hp} {μ : Mu} {Z : Zs} {σ : L2.St} {ρ : Env} {s : Sto} {f : FI} {k : Src → Sto → R Dv} {Q : VK} {Q' : It → Hp → Prop} (hE : RE Γ H μ Z ρ σ) (hR : Rep Γ H μ Z s) (h : PostE Γ W H μ Z σ Q ((f ρ s).bind k))
    (hk : ∀ r s1 J H1 μ1, Evo H μ H1 μ1 → RE Γ H1 μ1 Z ρ σ → Rep Γ H1 μ1 Z s1 → Walks Γ Z H1 μ1 r.ow J r.ws → PostE Γ W H1 μ1 Z σ Q (k r s1) → Q' J H1) : rdI Γ W f σ H Q' := by
  refine ⟨μ, Z, ρ, s, hE, hR, ?_⟩
  cases e : f ρ s with
  | ok r s1 => rw [e] at h; exact fun J H1 μ1 ev R1 w => hk r s1 J H1 μ1 ev (hE.mono ev) R1 w (PostE.evo ev h)
  | er x s1 => rw [e] at h; exact h
  | no => rw [e] at h; exact h.elim
/-- the walk of a comprehension -/
theorem comp_ok {H1 : Hp} {μ1 : Mu} {Z : Zs} {σ : L2.St} {ρ : Env} {s1 s2 : Sto} {g : TG} {fg : FG} {tt : FT} {elt : FE} {vs : List Nat} {ow : Option (Nat × List Dv)} {ws tot : List Dv} {J : It} {Qd : Hp → Prop} {D : Addr} (hg : GWk Γ g fg vs) (hE : RE Γ H1 μ1 Z ρ σ) (hR : Rep Γ H1 μ1 Z s1) (hw : Walks Γ Z H1 μ1 ow J ws) (hD : H1 D = none)
    (q : compL ow vs fg tt elt ρ ws s1 = some (tot, s2)) (hl : tot.length ≤ lim)
    (fin : ∀ H μ acc, Evo H1 μ1 H μ → Rep Γ H μ (hid D Z) s2 → H D = some (.lst acc) → RVs Γ H μ (hid D Z) tot acc → Qd H) :
    ∃ Wn : Nat → Nat → Hp → Prop, (∃ m, Wn 0 m (upd H1 D (.lst []))) ∧ ∀ i m H, Wn i m H → (J.stop i H ∧ Qd H) ∨ (J.go i H ∧ ∃ Nx : Hp → Prop, (∀ H', Nx H' → ∃ m', m' < m ∧ Wn (i + 1) m' H') ∧
      ∀ x H', J.yld i H x H' → g x (L2.wipe σ vs) H' fun σ2 H2 => L2.wipe σ2 vs = L2.wipe σ vs ∧ rdT Γ W0 tt σ2 H2 fun b H3 =>
        if b = true then rdE Γ W0 elt σ2 H3 fun y H4 => ∃ acc, H4 D = some (.lst acc) ∧ acc.length < sizeLine ∧ Nx (upd H4 D (.lst (acc ++ [y]))) else Nx H3) := by
  let P : Nat → Hp → Prop := fun i H => ∃ μ s wa acc r, Evo H1 μ1 H μ ∧ Rep Γ H μ (hid D Z) s ∧ H D = some (.lst acc) ∧ RVs Γ H μ (hid D Z) wa acc ∧ compL ow vs fg tt elt ρ (ws.drop i) s = some (r, s2) ∧ wa ++ r = tot
  refine ⟨fun i m H => m = ws.length - i ∧ i ≤ ws.length ∧ P i H, ⟨ws.length, by omega, Nat.zero_le _, μ1, s1, [], [], tot, Evo.laid hD, hR.hide hD, upd_same, rfl, q, rfl⟩, ?_⟩
  rintro i m H ⟨rfl, hi, μ, s, wa, acc, r, ev, R, hH, ra, qr, ht⟩
  have hz : ∀ a, hid D Z a → Z a ∨ H1 a = none := fun a z => z.elim (fun e => .inr (e ▸ hD)) .inl
  have E : RE Γ H μ (hid D Z) ρ σ := ⟨hE.1, fun j w e => by
    obtain ⟨v, g1, g2⟩ := hE.2 j w e
    exact ⟨v, g1, (RV.strong hz w g2).mono ev⟩⟩
  by_cases hlt : i < ws.length
  · have hd : ws.drop i = ws[i] :: ws.drop (i + 1) := List.drop_eq_getElem_cons hlt
    rw [hd] at qr
    simp only [compL] at qr
    split at qr
    · rename_i hst
      obtain ⟨_, hgo⟩ := hw H μ (hid D Z) s ev.z R (fun a z => .inr z) hz (st_of hst)
      obtain ⟨h1, h2⟩ := hgo i ws[i] (List.getElem?_eq_getElem hlt)
      refine .inr ⟨h1, P (i + 1), fun H' p => ⟨_, by omega, rfl, hlt, p⟩, fun x H' hy => ?_⟩
      obtain ⟨e2, R2, r2⟩ := h2 x H' hy
      cases eg : fg ws[i] (wipeD ρ vs) s with
      | none => rw [eg] at qr; cases qr
      | some ρ2 =>
        rw [eg] at qr
        dsimp only at qr
        refine hg H' μ (hid D Z) (wipeD ρ vs) ρ2 s (L2.wipe σ vs) ws[i] x _ ((E.mono e2).wipe vs) R2 r2 eg fun σ2 E2 hwp => ⟨hwp.trans (wipe_wipe σ vs), μ, hid D Z, ρ2, s, E2, R2, ?_⟩
        cases et : tt ρ2 s with
        | no => rw [et] at qr; cases qr
        | er x3 s3 => rw [et] at qr; cases qr
        | ok b s3 =>
          rw [et] at qr
          intro H3 μ3 e3 R3
          have hH3 : H3 D = some (.lst acc) := e3.keep _ _ (e2.keep _ _ hH fun n hn => R.notZ hn (.inl rfl)) fun n hn => R2.notZ hn (.inl rfl)
          have ra3 : RVs Γ H3 μ3 (hid D Z) wa acc := (ra.mono e2).mono e3
          cases b with
          | false =>
            rw [if_neg Bool.false_ne_true]
            exact ⟨μ3, s3, wa, acc, r, (ev.trans e2).trans e3, R3, hH3, ra3, qr, ht⟩
          | true =>
            rw [if_pos rfl]
            dsimp only at qr
            refine ⟨μ3, hid D Z, ρ2, s3, E2.mono e3, R3, ?_⟩
            cases ee : elt ρ2 s3 with
            | no => rw [ee] at qr; cases qr
            | er x4 s4 => rw [ee] at qr; cases qr
            | ok y s4 =>
              rw [ee] at qr
              dsimp only at qr
              intro v H4 μ4 e4 R4 r4
              cases ec : compL ow vs fg tt elt ρ (ws.drop (i + 1)) s4 with
              | none => rw [ec] at qr; cases qr
              | some rr =>
                rw [ec] at qr
                obtain ⟨r', s''⟩ := rr
                cases qr
                have hH4 : H4 D = some (.lst acc) := e4.keep _ _ hH3 fun n hn => R3.notZ hn (.inl rfl)
                have hlen : acc.length < sizeLine := by
                  have := ra.len
                  rw [← ht, List.length_append] at hl
                  exact lim_lt (by omega)
                refine ⟨acc, hH4, hlen, μ4, s4, wa ++ [y], acc ++ [v], r', (((ev.trans e2).trans e3).trans e4).hid hD, R4.updZ, upd_same, RVs.append (RVs.updZ wa (ra3.mono e4)) (RVs.cons (RV.updZ y r4) rfl), ec, ?_⟩
                rw [← ht]
                simp
    · cases qr
  · have he : i = ws.length := by omega
    subst he
    rw [List.drop_length] at qr
    simp only [compL] at qr
    split at qr
    · rename_i hst
      cases qr
      obtain ⟨hs, _⟩ := hw H μ (hid D Z) _ ev.z R (fun a z => .inr z) hz (st_of hst)
      rw [List.append_nil] at ht
      subst ht
      exact .inl ⟨hs, fin H μ acc ev R hH ra⟩
    · cases qr
theorem PTs.imp {ifs : List Expr} {t t' : TT} (h : PTs X ifs t) (k : ∀ σ H Q, t' σ H Q → t σ H Q) : PTs X ifs t' := ⟨fun pins s σ H Q I q => h.run pins s σ H Q I (k σ H Q q)⟩
def MTs (X : Cx) (Γ : Ct) (ifs : List Expr) (t : FT) : Prop := PTs X ifs (rdT Γ W0 t)
theorem mts_nil : MTs X Γ [] mYes := PTs.imp pts_nil fun σ H Q ⟨μ, Z, ρ, s, hE, hR, q⟩ => q H μ .refl hR
theorem mts_one {c : Expr} {t : FT} (h : MT X Γ W0 c t) : MTs X Γ [c] t := pts_one h
theorem fin_lst {H1 H : Hp} {μ1 μ : Mu} {Z : Zs} {σ : L2.St} {s1 s2 : Sto} {tot : List Dv} {acc : List V} {D : Addr} {Q : VK} (hR1 : Rep Γ H1 μ1 Z s1) (hD : H1 D = none) (ev : Evo H1 μ1 H μ) (R : Rep Γ H μ (hid D Z) s2) (hH : H D = some (.lst acc)) (ra : RVs Γ H μ (hid D Z) tot acc)
    (q : PostE Γ W H1 μ1 Z σ Q (.ok (.lst tot) s2)) : Q (.ref D) H :=
  q _ H μ ev (R.weak fun a z => .inr z) ⟨D, acc, rfl, hH, ⟨fun n hn => R.notZ hn (.inl rfl), fun z => hR1.za D z hD⟩, RVs.weak (fun a z => .inr z) tot ra⟩
theorem me_comp {elt tg iter : Expr} {ifs : List Expr} {scope : Scope} {own : List (Str × Nat)} {pos : Pos} {f : FI} {g : TG} {fg : FG} {tt : FT} {fe : FE} (hc : X.calm = true) (hN : X.N.Nodup) (hi : MI X Γ W tg iter f) (ok : BlkOk X.N X.env.scope scope own)
    (hg : ∀ (s : Shared) (H : Hp) (C : Addr) (cl : List (Str × Addr)) (fp : List Addr), PG (X.blk s H scope (compEnvC scope cl C X.env) fp) tg g) (hw : GWk Γ g fg (own.map (·.2)))
    (ht : ∀ (s : Shared) (H : Hp) (C : Addr) (cl : List (Str × Addr)) (fp : List Addr), MTs (X.blk s H scope (compEnvC scope cl C X.env) fp) Γ ifs tt)
    (he : ∀ (s : Shared) (H : Hp) (C : Addr) (cl : List (Str × Addr)) (fp : List Addr), ME (X.blk s H scope (compEnvC scope cl C X.env) fp) Γ W0 elt fe) (hs : ∀ x, foldedSetIterable iter X.env x = pure x := by intro _; rfl) :
    ME X Γ W (.ListComp elt [⟨tg, iter, ifs, 0⟩] scope pos) (mComp f (own.map (·.2)) fg tt fe) :=
  PE.imp (pe_lc hc hN hi ok hg ht he hs) fun σ H Q ⟨μ, Z, ρ, s, hE, hR, q⟩ => iE hE hR q fun r s1 J H1 μ1 e1 E1 R1 w1 q1 D hD => by
    cases e : compL r.ow (own.map (·.2)) fg tt fe ρ r.ws s1 with
    | none => rw [e] at q1; exact q1.elim
    | some p =>
      obtain ⟨tot, s2⟩ := p
      rw [e] at q1
      dsimp only at q1
      split at q1
      · rename_i hl
        exact comp_ok hw E1 R1 w1 hD e hl fun H2 μ2 acc ev R2 hH ra => fin_lst R1 hD ev R2 hH ra q1
      · exact q1.elim
theorem asg_post {H : Hp} {μ : Mu} {Z : Zs} {σ : L2.St} {ρ : Env} {s : Sto} {f : FE} {i : Nat} {D : Ends} (hE : RE Γ H μ Z ρ σ) (q : PostS Γ W H μ Z D (mAsg f (gN i) ρ s)) : PostE Γ W H μ Z σ (fun x H1 => D.nx (σ.set i (some x)) H1) (f ρ s) := by
  unfold mAsg at q
  cases e : f ρ s with
  | ok w s1 => rw [e] at q; exact fun v H1 μ1 ev R1 r1 => q _ H1 μ1 ev R1 ((hE.mono ev).set i r1)
  | er x s1 => rw [e] at q; exact fun c d H1 μ1 ev R1 r1 => q c d σ H1 μ1 ev R1 (hE.mono ev) r1
  | no => rw [e] at q; exact q
/-- name = [..] on one line -/
theorem ms_setComp {i : Nat} {y : Str} {py : Pos} {elt tg iter : Expr} {ifs : List Expr} {scope : Scope} {own : List (Str × Nat)} {pos spos : Pos} {f : FI} {g : TG} {fg : FG} {tt : FT} {fe : FE} (hc : X.calm = true) (hN : X.N.Nodup) (hy : X.N[i]? = some y) (hyl : X.env.scope.names.lookup y = some .local)
    (hsw : swapsWith (.ListComp elt [⟨tg, iter, ifs, 0⟩] scope pos) (some (.Name y py)) spos.line X.env = pure true) (hi : MI X Γ W tg iter f) (ok : BlkOk X.N X.env.scope scope own)
    (hg : ∀ (s : Shared) (H : Hp) (C : Addr) (cl : List (Str × Addr)) (fp : List Addr), PG (X.blk s H scope (compEnvC scope cl C X.env) fp) tg g) (hw : GWk Γ g fg (own.map (·.2)))
    (ht : ∀ (s : Shared) (H : Hp) (C : Addr) (cl : List (Str × Addr)) (fp : List Addr), MTs (X.blk s H scope (compEnvC scope cl C X.env) fp) Γ ifs tt)
    (he : ∀ (s : Shared) (H : Hp) (C : Addr) (cl : List (Str × Addr)) (fp : List Addr), ME (X.blk s H scope (compEnvC scope cl C X.env) fp) Γ W0 elt fe) (hs : ∀ x, foldedSetIterable iter X.env x = pure x := by intro _; rfl) :
    MS X Γ W (.Assign [.Name y py] (.ListComp elt [⟨tg, iter, ifs, 0⟩] scope pos) spos) (mAsg (mComp f (own.map (·.2)) fg tt fe) (gN i)) :=
  PS.imp (ps_setLc hc hN hy hyl hsw hi ok hg ht he hs) fun D σ H h => by
    obtain ⟨μ, Z, ρ, s, hE, hR, q⟩ := h
    replace q := asg_post hE q
    exact iE hE hR q fun r s1 J H1 μ1 e1 E1 R1 w1 q1 D hD => by
      cases e : compL r.ow (own.map (·.2)) fg tt fe ρ r.ws s1 with
      | none => rw [e] at q1; exact q1.elim
      | some p =>
        obtain ⟨tot, s2⟩ := p
        rw [e] at q1
        dsimp only at q1
        split at q1
        · rename_i hl
          exact comp_ok hw E1 R1 w1 hD e hl fun H2 μ2 acc ev R2 hH ra => fin_lst R1 hD ev R2 hH ra q1
        · exact q1.elim
end
mutual
def clean (n : Nat) : Dv → Bool
  | .ref k => decide (k < n)
  | .tup ws => cleans n ws
  | .lst ws => cleans n ws
  | .sq ws => cleans n ws
  | .dct _ ws => cleans n ws
  | .dtt kd ws => cleans n kd && cleans n ws
  | .exc _ _ w => clean n w
  | .clo _ _ _ ws _ => cleans n ws
  | _ => true
def cleans (n : Nat) : List Dv → Bool
  | [] => true
  | w :: ws => clean n w && cleans n ws
end
def Ob.clean (n : Nat) : Ob → Bool
  | .lst ws => cleans n ws
  | .dct kws => cleans n (kws.map (·.2))
  | .dtt _ kws => cleans n (kws.map (·.1)) && cleans n (kws.map (·.2))
  | .obj _ fs => cleans n (fs.map (·.2))
  | .tab _ _ => true
def mapO {α β : Type} (f : α → Option β) : List α → Option (List β)
  | [] => some []
  | a :: r => match f a, mapO f r with
    | some b, some bs => some (b :: bs)
    | _, _ => none
/-- lists of the callee's own are handed out as they stand -/
def fz : Nat → Sto → Nat → Dv → Option Dv
  | 0, _, n, w => if clean n w = true then some w else none
  | f + 1, s, n, w => if clean n w = true then some w else match w with
    | .tup ws => (mapO (fz f s n) ws).map .tup
    | .lst ws => (mapO (fz f s n) ws).map .lst
    | .ref k => match s[k]? with
      | some (.lst ws) => (mapO (fz f s n) ws).map .lst
      | some (.dtt true kws) => if cleans n (kws.map (·.1)) = true then (mapO (fz f s n) (kws.map (·.2))).map (.dtt (kws.map (·.1))) else none
      | _ => none
    | _ => none
/-- a def's end: what it made and nobody holds is forgotten -/
def finW (n : Nat) (w : Dv) (s : Sto) : R Dv :=
  if s.length ≤ n then .ok w s else if (s.take n).all (Ob.clean n) = true then match fz 4 s n w with
    | some w' => .ok w' (s.take n)
    | none => .ok w s
  else .ok w s
def finX (n : Nat) (x : Ex) (s : Sto) : R Dv :=
  if s.length ≤ n then .er x s else if (s.take n).all (Ob.clean n) = true then match fz 4 s n x.w with
    | some w' => .er { x with w := w' } (s.take n)
    | none => .er x s
  else .er x s
def finC (n : Nat) : C → R Dv
  | .nx _ s => finW n .non s
  | .rt w s => finW n w s
  | .er x _ s => finX n x s
  | _ => .no
def res (n : Nat) (μ : Mu) : Mu := fun m => if m < n then μ m else none
section
variable {Γ : Ct} {H : Hp} {μ : Mu} {Z : Zs} {s : Sto} {n : Nat}
theorem res_some {m : Nat} {a : Addr} (h : res n μ m = some a) : m < n ∧ μ m = some a := by
  unfold res at h
  split at h
  · exact ⟨by assumption, h⟩
  · cases h
theorem res_lt {m : Nat} {a : Addr} (h : m < n) (q : μ m = some a) : res n μ m = some a := by
  unfold res
  rw [if_pos h, q]
theorem Fz.res {a : Addr} (f : Fz μ Z a) : Fz (res n μ) Z a := ⟨fun m h => f.1 m (res_some h).2, f.2⟩
mutual
theorem RV.res : ∀ (w : Dv) {v : V}, clean n w = true → RV Γ H μ Z w v → RV Γ H (MP.res n μ) Z w v
  | .non, _, _, q => q
  | .bl _, _, _, q => q
  | .int _, _, _, q => q
  | .str _, _, _, q => q
  | .ty _, _, _, q => q
  | .cl _, _, _, q => q
  | .ref k, _, c, q => by
    obtain ⟨a, h1, h2⟩ := q
    exact ⟨a, h1, res_lt (of_decide_eq_true c) h2⟩
  | .tup ws, _, c, q => by
    obtain ⟨a, xs, h1, h2, h3⟩ := q
    exact ⟨a, xs, h1, h2.elim (fun z => .inl ⟨z.1, z.2.res⟩) .inr, RVs.res ws c h3⟩
  | .sq ws, _, c, q => by
    obtain ⟨a, xs, h1, h2, h3⟩ := q
    exact ⟨a, xs, h1, h2.elim (fun z => .inl ⟨z.1, z.2.res⟩) .inr, RVs.res ws c h3⟩
  | .lst ws, _, c, q => by
    obtain ⟨a, xs, h1, h2, h3, h4⟩ := q
    exact ⟨a, xs, h1, h2, h3.res, RVs.res ws c h4⟩
  | .dct ks ws, _, c, q => by
    obtain ⟨a, kvs, h1, h2, h3, h4, h5⟩ := q
    exact ⟨a, kvs, h1, h2, h3.res, h4, RVs.res ws c h5⟩
  | .dtt kd ws, _, c, q => by
    obtain ⟨a, kvs, h1, h2, h3, h4, h5, h6⟩ := q
    have c' : cleans n kd = true ∧ cleans n ws = true := Bool.and_eq_true_iff.mp c
    exact ⟨a, kvs, h1, h2, h3.res, h4, RVs.res kd c'.1 h5, RVs.res ws c'.2 h6⟩
  | .exc cc f w, _, c, q => by
    obtain ⟨a, dx, x, h1, h2, h3, h4, h5, h6⟩ := q
    exact ⟨a, dx, x, h1, h2, h3.res, h4, h5.res, RV.res w c h6⟩
  | .exn cc, _, c, q => by
    obtain ⟨a, h1, h2, h3⟩ := q
    exact ⟨a, h1, h2, h3.res⟩
  | .clo a b _ ws vs, _, c, q => by
    obtain ⟨h1, h2, h3, h4⟩ := q
    exact ⟨h1, h2, h3.res, RVs.res ws c h4⟩
theorem RVs.res : ∀ (ws : List Dv) {vs : List V}, cleans n ws = true → RVs Γ H μ Z ws vs → RVs Γ H (MP.res n μ) Z ws vs
  | [], _, _, q => q
  | w :: ws, _, c, q => by
    obtain ⟨x, xs, h1, h2, h3⟩ := q
    have c' : clean n w = true ∧ cleans n ws = true := Bool.and_eq_true_iff.mp c
    exact ⟨x, xs, h1, RV.res w c'.1 h2, RVs.res ws c'.2 h3⟩
end
theorem mapO_ok {f : Dv → Option Dv} (hf : ∀ w w' v, f w = some w' → RV Γ H μ Z w v → RV Γ H (res n μ) Z w' v) : ∀ (ws ws' : List Dv) (vs : List V), mapO f ws = some ws' → RVs Γ H μ Z ws vs → RVs Γ H (res n μ) Z ws' vs
  | [], _, _, e, q => by cases e; exact q
  | w :: ws, _, _, e, q => by
    obtain ⟨x, xs, rfl, h2, h3⟩ := q
    simp only [mapO] at e
    split at e
    · rename_i b bs e1 e2
      cases e
      exact RVs.cons (hf _ _ _ e1 h2) (mapO_ok hf ws bs xs e2 h3)
    · cases e
theorem fz_ok (hR : Rep Γ H μ Z s) : ∀ (f : Nat) (w w' : Dv) (v : V), fz f s n w = some w' → RV Γ H μ Z w v → RV Γ H (res n μ) Z w' v := fun f => by
  induction f with
  | zero =>
    intro w w' v e q
    simp only [fz] at e
    split at e
    · cases e; exact q.res w (by assumption)
    · cases e
  | succ f ih =>
    intro w w' v e q
    simp only [fz] at e
    split at e
    · cases e; exact q.res w (by assumption)
    · rename_i hc
      split at e
      · rename_i ws
        cases em : mapO (fz f s n) ws with
        | none => rw [em] at e; cases e
        | some us =>
          rw [em] at e
          cases e
          obtain ⟨a, xs, h1, h2, h3⟩ := q
          exact ⟨a, xs, h1, h2.elim (fun z => .inl ⟨z.1, z.2.res⟩) .inr, mapO_ok (fun w w' v => ih w w' v) _ _ _ em h3⟩
      · rename_i ws
        cases em : mapO (fz f s n) ws with
        | none => rw [em] at e; cases e
        | some us =>
          rw [em] at e
          cases e
          obtain ⟨a, xs, h1, h2, h3, h4⟩ := q
          exact ⟨a, xs, h1, h2, h3.res, mapO_ok (fun w w' v => ih w w' v) _ _ _ em h4⟩
      · rename_i k
        split at e
        · rename_i ws es
          cases em : mapO (fz f s n) ws with
          | none => rw [em] at e; cases e
          | some us =>
            rw [em] at e
            cases e
            obtain ⟨a, h1, h2⟩ := q
            obtain ⟨b, g1, g2, xs, g3, g4⟩ := hR.at k _ es
            rw [h2] at g1
            cases g1
            refine ⟨a, xs, h1, g3, ⟨fun m hm => ?_, g2⟩, mapO_ok (fun w w' v => ih w w' v) _ _ _ em g4⟩
            obtain ⟨m1, m2⟩ := res_some hm
            have := hR.inj _ _ _ m2 h2
            subst this
            exact hc (decide_eq_true m1)
        · rename_i kws es
          split at e
          · rename_i hck
            cases em : mapO (fz f s n) (kws.map (·.2)) with
            | none => rw [em] at e; cases e
            | some us =>
              rw [em] at e
              cases e
              obtain ⟨a, h1, h2⟩ := q
              obtain ⟨b, g1, g2, kvs, g3, g4, g5, g6⟩ := hR.at k _ es
              rw [h2] at g1
              cases g1
              have r6 := mapO_ok (fun w w' v => ih w w' v) _ _ _ em g6
              refine ⟨a, kvs, h1, g3, ⟨fun m hm => ?_, g2⟩, ⟨g4.1, ?_⟩, RVs.res _ hck g5, r6⟩
              · obtain ⟨m1, m2⟩ := res_some hm
                have := hR.inj _ _ _ m2 h2
                subst this
                exact hc (decide_eq_true m1)
              · have l6 := r6.len
                rw [List.length_map] at l6
                exact l6.symm
          · cases e
        · cases e
      · cases e
theorem RO.res {a : Addr} {ob : Ob} (c : ob.clean n = true) (h : RO Γ H μ Z a ob) : RO Γ H (MP.res n μ) Z a ob := by
  cases ob with
  | lst ws =>
    obtain ⟨xs, h1, h2⟩ := h
    exact ⟨xs, h1, h2.res ws c⟩
  | dct kws =>
    obtain ⟨kvs, h1, h2, h3⟩ := h
    exact ⟨kvs, h1, h2, h3.res _ c⟩
  | dtt fr kws =>
    obtain ⟨kvs, h1, h2, h3, h4⟩ := h
    have c' : cleans n (kws.map (·.1)) = true ∧ cleans n (kws.map (·.2)) = true := Bool.and_eq_true_iff.mp c
    exact ⟨kvs, h1, h2, h3.res _ c'.1, h4.res _ c'.2⟩
  | obj c fs =>
    obtain ⟨dx, kvs, h1, h2, h3⟩ := h
    exact ⟨dx, kvs, h1, h2, h3.res _ c⟩
  | tab m q => exact ⟨h.1, tab_imp rfl (fun c e1 e2 => ⟨e1, e2.res⟩) h.2⟩
theorem Rep.res (hR : Rep Γ H μ Z s) (hn : n ≤ s.length) (c : (s.take n).all (Ob.clean n) = true) : Rep Γ H (MP.res n μ) Z (s.take n) := ⟨fun m ob q => by
  have hm : m < n := by
    have := (List.getElem?_eq_some_iff.mp q).1
    rw [List.length_take] at this
    omega
  have q' : s[m]? = some ob := by rw [List.getElem?_take_of_lt hm] at q; exact q
  obtain ⟨a, h1, h2, h3⟩ := hR.at m ob q'
  exact ⟨a, res_lt hm h1, h2, h3.res (List.all_eq_true.mp c ob (List.mem_of_getElem? q))⟩,
  fun m k a h1 h2 => hR.inj _ _ _ (res_some h1).2 (res_some h2).2, fun m a h => by rw [List.length_take]; have := (res_some h).1; omega, hR.za⟩
theorem Evo.res {H0 : Hp} {μ0 : Mu} (e : Evo H0 μ0 H μ) (hd : ∀ m a, μ0 m = some a → m < n) : Evo H0 μ0 H (MP.res n μ) :=
  ⟨e.keep, fun m a h => res_lt (hd m a h) (e.mu m a h), fun m a h => e.new m a (res_some h).2, e.stay⟩
end
/-- what a def promises -/
def spM (Γ : Ct) (ps : List Str) (den : Fn) : Sp := fun vs H Q E => vs.length = ps.length ∧ ∃ μ Z s ws, Rep Γ H μ Z s ∧ RVs Γ H μ Z ws vs ∧ PostE Γ (fun c d _ H => E c d H) H μ Z [] Q (den ws s)
structure FnG (P : Program) (w : World) (mg : Str → Option Value) (base : Heap) (Γ : Ct) (k : Nat) (f : Addr) (fd : FuncData) (ps : List Str) (den : Fn) : Prop where
  run : ∀ (A : Around) (outer : List PySem.Env) (s : Shared) (H : Hp) (args : Args) (us : List Value) (vs : List V) (Q : VK) (E : XK), Room k A → A.guards = some [] → Env0 P w Γ.K mg base A outer s H → BindsTo s fd args (ps.zip us) → Vals vs us → spM Γ ps den vs H Q E →
    codeAny (model P w) A (.call (.ref f) args) (CR (L2.CX P w) outer P w H s Q E) s
def startD (n : Nat) (ws : List Dv) : Env := ws.map some ++ List.replicate (n - ws.length) none
def denOf (n : Nat) (body : FS) : Fn := fun ws s => finC s.length (body (startD n ws) s)
theorem re_start {Γ : Ct} {H : Hp} {μ : Mu} {Z : Zs} {N : List Str} {ws : List Dv} {vs : List V} (r : RVs Γ H μ Z ws vs) : RE Γ H μ Z (startD N.length ws) (L2.start N vs) := by
  have hl := r.len
  refine ⟨?_, fun i w q => ?_⟩
  · unfold startD L2.start
    rw [List.length_append, List.length_append, List.length_map, List.length_map, List.length_replicate, List.length_replicate, hl]
  · unfold startD at q
    unfold L2.start
    by_cases hi : i < ws.length
    · rw [List.getElem?_append_left (by rw [List.length_map]; exact hi), List.getElem?_map] at q
      rw [List.getElem?_append_left (by rw [List.length_map, hl]; exact hi), List.getElem?_map]
      cases e : ws[i]? with
      | none => rw [e] at q; cases q
      | some u =>
        rw [e] at q
        cases q
        obtain ⟨x, h1, h2⟩ := r.get e
        exact ⟨x, by rw [h1]; rfl, h2⟩
    · rw [List.getElem?_append_right (by rw [List.length_map]; omega), List.getElem?_replicate] at q
      split at q <;> cases q
end MP
set_option Elab.async false
set_option linter.all false
set_option maxRecDepth 100000
set_option maxHeartbeats 4000000
namespace MP
open PySem PySem.Spec PyProof.Rows L2
/-- the end of a body is the end of its def -/
theorem body_end {Γ : Ct} {H : Hp} {μ : Mu} {Z : Zs} {s : Sto} {Q : VK} {E : XK} {c : C} (hR : Rep Γ H μ Z s) (q : PostE Γ (fun c d _ H => E c d H) H μ Z [] Q (finC s.length c)) :
    PostS Γ (fun c d _ H => E c d H) H μ Z { nx := fun _ H' => Q .non H', rt := Q } c := by
  have key : ∀ (w : Dv) (s' : Sto), PostE Γ (fun c d _ H => E c d H) H μ Z [] Q (finW s.length w s') → ∀ v H' μ', Evo H μ H' μ' → Rep Γ H' μ' Z s' → RV Γ H' μ' Z w v → Q v H' := fun w s' q v H' μ' ev R' r' => by
    unfold finW at q
    split at q
    · exact q v H' μ' ev R' r'
    · rename_i hl
      split at q
      · rename_i hc
        split at q
        · rename_i w' e
          exact q v H' _ (ev.res hR.dom) (R'.res (by omega) hc) (fz_ok R' 4 w w' v e r')
        · exact q v H' μ' ev R' r'
      · exact q v H' μ' ev R' r'
  cases c with
  | nx ρ' s' => exact fun σ' H' μ' ev R' _ => key .non s' q .non H' μ' ev R' rfl
  | rt w s' => exact fun v H' μ' ev R' r' => key w s' q v H' μ' ev R' r'
  | bk ρ' s' => exact q.elim
  | ct ρ' s' => exact q.elim
  | no => exact q.elim
  | er x ρ' s' =>
    intro c d σ' H' μ' ev R' _ rx
    unfold finC finX at q
    dsimp only at q
    split at q
    · exact q c d H' μ' ev R' rx
    · rename_i hl
      split at q
      · rename_i hc
        split at q
        · rename_i w' e
          rcases rx with rx | ⟨h0, h1, dd, v, h2, h3, h4, h5⟩
          · exact q c d H' _ (ev.res hR.dom) (R'.res (by omega) hc) (.inl rx)
          · exact q c d H' _ (ev.res hR.dom) (R'.res (by omega) hc) (.inr ⟨h0, h1, dd, v, h2, h3, h4.res, fz_ok R' 4 _ w' v e h5⟩)
        · exact q c d H' μ' ev R' rx
      · exact q c d H' μ' ev R' rx
abbrev envF (qual : Str) (st : Stmt) (s : Shared) (f : Addr) (cdv : Value) : PySem.Env := envOfC qual (defScope st) s.heap.objs.size f cdv
abbrev cxF (Γ : Ct) (P : Program) (w : World) (mg : Str → Option Value) (base : Heap) (N : List Str) (qual : Str) (st : Stmt) (f : Addr) (cdv : Value) (A : Around) (outer : List PySem.Env) (s : Shared) (H : Hp) (E : XK) : Cx :=
  cxOf (L2.CX P w) P w Γ.K mg base N qual (defScope st) f cdv A outer s H E
/-- A def keeps what its body's reading says -/
theorem ok_fn {P : Program} {w : World} {mg : Str → Option Value} {base : Heap} {Γ : Ct} {x qual : Str} {st : Stmt} {f : Addr} {fd : FuncData} {N ps : List Str} {k : Nat} {c : FS} (F : Fun Γ.K x qual st f fd) (S : FnScope N ps (defScope st))
    (hbody : ∀ (cdv : Value) (A : Around) (outer : List PySem.Env) (s : Shared) (H : Hp) (E : XK) (W : WX), Room k (A.deeper (envF qual st s f cdv)) → (A.deeper (envF qual st s f cdv)).guards = some [] → Takes (cxF Γ P w mg base N qual st f cdv A outer s H E) W →
      MB (cxF Γ P w mg base N qual st f cdv A outer s H E) Γ W (defBody st) c) : FnG P w mg base Γ (k + 1) f fd ps (denOf N.length c) := by
  obtain ⟨oc, od, kV, doc, pm, an, cdv, ct, osl, rfl, lk, hcd⟩ := F.ex
  refine ⟨fun A outer s H args us vs Q E room guards e0 binds rel ⟨hlen, μ, Z, st0, ws, hR, rws, post⟩ => ?_⟩
  have stays : ∀ b o, base.get? b = some o → s.heap.get? b = some o := fun b o e => (e0.bs b o e).1
  have inK : Γ.K.In s.heap := e0.mod.kin.keeps stays
  have kinds : ∀ y ∈ ps.zip us, (defScope st).names.lookup y.1 = some .local ∨ ((defScope st).names.lookup y.1 = some .cell ∧ ((cellsFrom (s.heap.objs.size + 1) (defScope st).names []).lookup y.1).isSome = true) := by
    rintro ⟨n, v⟩ hy
    exact (S.par n (List.of_mem_zip hy).1).imp id fun q => ⟨q, PySem.W.cellsFrom_some _ _ _ (.inl q)⟩
  refine codeAny_call_function room.depth (inK _ _ lk) rfl S.co S.gen rfl (PySem.W.codeRec_of inK hcd) (binds _ _ _ _ ?_)
  refine wpAny_newFunctionEnv_cells S.kind kinds fun env he s1 entered => ?_
  subst he
  refine ⟨(e0.mod.nolimit.keeps stays).keeps entered.toInCall.keep, codeAny_func ?_⟩
  have I := inv_start (CX := L2.CX P w) (E := E) (cd := cdv) S room.hd e0 hlen rel entered
  have tk : Takes (cxF Γ P w mg base N qual st f cdv A outer s H E) (fun cls d _ H' => E cls d H') := takes_of rfl rfl rfl rfl
  have run := (hbody cdv A outer s H E _ (room.deeper _) (by show (A.deeper _).guards = _; rw [← guards]; rfl) tk).run [] s1 (L2.start N vs) H { nx := fun _ H' => Q .non H', rt := Q } I
    ⟨μ, Z, startD N.length ws, st0, re_start rws, hR, body_end hR post⟩
  refine wpAny_mono run (fun fl s' hs => ?_) fun e s' hs => hs
  cases fl with
  | ret u =>
    obtain ⟨v, σ', H', J, rv, q⟩ := hs
    exact ⟨v, H', J.os, J.bare, J.base, J.hok, rv, q⟩
  | next =>
    obtain ⟨σ', H', J, q⟩ := hs
    exact ⟨V.non, H', J.os, J.bare, J.base, J.hok, rfl, q⟩
  | brk => exact hs.elim fun _ z => z.elim fun _ z => z.2.elim
  | cont => exact hs.elim fun _ z => z.elim fun _ z => z.2.elim
section
variable {X : Cx} {Γ : Ct} {W : WX} {k : Nat} {f : Addr} {fd : FuncData} {ps : List Str} {den : Fn} {x : Str} {p pos : Pos} {e : Expr} {es : List Expr} {fa : FA}
def mCall (den : Fn) (fa : FA) : FE := fun ρ s => (fa ρ s).bind den
theorem post_call {H : Hp} {μ : Mu} {Z : Zs} {σ : L2.St} {Q : VK} {r : R Dv} (h : PostE Γ W H μ Z σ Q r) : PostE Γ (fun c d _ H' => WE W σ c d H') H μ Z [] Q r := by
  cases r with
  | ok w s => exact h
  | er x s => exact h
  | no => exact h
theorem run_G {pins : List (Addr × Obj)} {σ : L2.St} {H : Hp} {s : Shared} {Q : VK} {us : List Value} {ds : List Value} {vs dvs : List V} (F : FnG X.prog X.w X.mg X.base Γ k f fd ps den) (hK : Γ.K = X.K) (hr : Room k X.A) (hg : X.A.guards = some []) (hb : Binds X.K fd ps ds) (hd : Vals dvs ds) (tk : Takes X W)
    (I : Inv X pins σ H s) (r : Vals vs us) (h : spM Γ ps den (vs ++ dvs) H Q (WE W σ)) : wpAny (model X.prog X.w) X.A (call (.ref f) us) (EP X pins σ Q) X.xe s := by
  have r2 : Vals (vs ++ dvs) (us ++ ds) := r.append hd
  have hl : (us ++ ds).length = ps.length := r2.length.symm.trans h.1
  refine wpAny_call (codeAny_mono (F.run X.A X.stack s H ⟨us, []⟩ (us ++ ds) (vs ++ dvs) Q (WE W σ) hr hg (by rw [hK]; exact I.env0) (hb s us I.kIn hl) r2 h) fun r' s' hq => ?_)
  cases r' with
  | error e => exact passAt tk σ pins H s e s' I hq
  | ok fl =>
    cases fl with
    | ret u => exact I.after hq
    | next => exact hq.elim
    | brk => exact hq.elim
    | cont => exact hq.elim
/-- f(e, ..), f a def of the text; ds its defaults -/
theorem me_call {ds : List Value} {dvs : List V} {dws : List Dv} (F : FnG X.prog X.w X.mg X.base Γ k f fd ps den) (hK : Γ.K = X.K) (hr : Room k X.A) (hg : X.A.guards = some []) (hgl : Gl X x) (hm : X.mg x = some (.ref f)) (hk : PySem.W.keepIn X.K (.ref f) = true) (hb : Binds X.K fd ps ds) (hd : Vals dvs ds)
    (hdw : ∀ H μ Z, RVs Γ H μ Z dws dvs) (n : Nat) (hn : n + dws.length = ps.length) (hnl : (e :: es).length = n) (tk : Takes X W) (ha : MA X Γ W (e :: es) fa) (hlen : ∀ ρ s ws s', fa ρ s = .ok ws s' → ws.length = n) (hdb : (x == ("__debug__" : Str)) = false := by decide)
    (he : starEach (e :: es) X.env = (false, eval e X.env) :: starEach es X.env := by rfl) (hpl : (backTo pos (starEach es X.env)).any (·.1) = false := by rfl) :
    ME X Γ W (.Call (.Name x p) (e :: es) [] pos) (mCall (fun ws => den (ws ++ dws)) fa) := by
  refine ⟨fun pins s σ H Q I ⟨μ, Z, ρ, s0, hE, hR, q⟩ => ?_⟩
  refine wpAny_Call_Name_kw (ld_glob I hgl hm ?_ hdb)
  have q' : rdA Γ W fa σ H fun vs H1 => spM Γ ps den (vs ++ dvs) H1 Q (WE W σ) := by
    refine ⟨μ, Z, ρ, s0, hE, hR, ?_⟩
    unfold mCall at q
    cases e1 : fa ρ s0 with
    | ok ws s1 =>
      rw [e1] at q
      have q2 : PostE Γ W H μ Z σ Q (den (ws ++ dws) s1) := q
      intro vs H1 μ1 ev R1 r1
      refine ⟨?_, μ1, Z, s1, ws ++ dws, R1, r1.append (hdw H1 μ1 Z), post_call (PostE.evo ev q2)⟩
      rw [List.length_append, r1.len, hlen _ _ _ _ e1, (hdw H1 μ1 Z).len, hn]
    | er x1 s1 => rw [e1] at q; exact q
    | no => rw [e1] at q; exact q
  refine PySem.W.callWith_K (h₀ := X.base) I.ok.mod.kin hk (thn (ha.run pos pins s σ H _ I q') fun us s1 ⟨vs, H1, I1, r, z⟩ => ⟨I1.kIn, ?_⟩) he hpl
  exact run_G F hK hr hg hb hd tk I1 r z
end
end MP
set_option Elab.async false
set_option linter.all false
set_option maxRecDepth 100000
set_option maxHeartbeats 4000000
namespace MP
open PySem PySem.Spec PyProof.Rows L2
abbrev ON := Sto → List Dv → Option Dv
def OpN (Γ : Ct) (r : List V → Hp → VK → Prop) (op : ON) : Prop := ∀ (H : Hp) (μ : Mu) (Z : Zs) (s : Sto) (xs : List Dv) (w : Dv) (vs : List V) (Q : VK), Rep Γ H μ Z s → RVs Γ H μ Z xs vs → op s xs = some w →
  (∀ v' H', Evo H μ H' μ → Rep Γ H' μ Z s → RV Γ H' μ Z w v' → Q v' H') → r vs H Q
def mBlt (op : ON) (fa : FA) : FE := fun ρ s => (fa ρ s).bind fun ws s1 => R.of (op s1 ws) s1
section
variable {X : Cx} {Γ : Ct} {W : WX} {x : Str} {p pos : Pos} {e : Expr} {es : List Expr} {fa : FA} {id T : String} {r r' : List V → Hp → VK → Prop} {op op' : ON}
theorem blt_ok {t : TE} {ta : TA} (ht : t = tCB r (rdA Γ W fa)) (hs : OpN Γ r op) (h : PE X e t) : ME X Γ W e (mBlt op fa) := by
  subst ht
  exact PE.imp h fun σ H Q ⟨μ, Z, ρ, s, hE, hR, q⟩ => aE hE hR q fun ws s1 vs H1 μ1 e1 E1 R1 r1 q1 => by
    obtain ⟨w, hw, k⟩ := ofE q1
    exact hs H1 μ1 Z s1 ws w vs Q R1 r1 hw k
theorem me_callB (hc : CallR X (.builtin id) r) (hs : OpN Γ r op) (hg : Gl X x) (hm : X.mg x = none) (hv : bootBuiltins x = some (.builtin id)) (ha : MA X Γ W (e :: es) fa) (hn : x ≠ "__name__" := by decide) (hdb : (x == ("__debug__" : Str)) = false := by decide)
    (he : starEach (e :: es) X.env = (false, eval e X.env) :: starEach es X.env := by rfl) (hpl : (backTo pos (starEach es X.env)).any (·.1) = false := by rfl) : ME X Γ W (.Call (.Name x p) (e :: es) [] pos) (mBlt op fa) :=
  blt_ok (ta := rdA Γ W fa) rfl hs (pe_callB hc hg hm hv ha hn hdb he hpl)
theorem me_callTy (hc : CallR X (.type T) r) (hs : OpN Γ r op) (hg : Gl X x) (hm : X.mg x = none) (hv : bootBuiltins x = some (.type T)) (ha : MA X Γ W (e :: es) fa) (hn : x ≠ "__name__" := by decide) (hdb : (x == ("__debug__" : Str)) = false := by decide)
    (he : starEach (e :: es) X.env = (false, eval e X.env) :: starEach es X.env := by rfl) (hpl : (backTo pos (starEach es X.env)).any (·.1) = false := by rfl) : ME X Γ W (.Call (.Name x p) (e :: es) [] pos) (mBlt op fa) :=
  blt_ok (ta := rdA Γ W fa) rfl hs (pe_callTy hc hg hm hv ha hn hdb he hpl)
theorem OpN.or (h : OpN Γ r op) (h' : OpN Γ r' op') : OpN Γ (fun x H Q => r x H Q ∨ r' x H Q) (fun s xs => match op s xs with
    | some w => some w
    | none => op' s xs) := fun H μ Z s xs w vs Q hR rx e k => by
  dsimp only at e
  split at e
  · rename_i w' e'
    cases e
    exact .inl (h H μ Z s xs _ vs Q hR rx e' k)
  · exact .inr (h' H μ Z s xs w vs Q hR rx e k)
/-- len -/
def lenD : ON := fun s xs => match xs with
  | [.str x] => if x.length ≤ lim then some (.int x.length) else none
  | [x] => (seqOf s x).map fun ws => .int ws.length
  | _ => none
theorem one {H : Hp} {μ : Mu} {Z : Zs} {x : Dv} {vs : List V} (r : RVs Γ H μ Z [x] vs) : ∃ v, vs = [v] ∧ RV Γ H μ Z x v := by
  obtain ⟨v, xs, rfl, h1, h2⟩ := r
  exact ⟨v, by rw [show xs = [] from h2], h1⟩
theorem two {H : Hp} {μ : Mu} {Z : Zs} {x y : Dv} {vs : List V} (r : RVs Γ H μ Z [x, y] vs) : ∃ v u, vs = [v, u] ∧ RV Γ H μ Z x v ∧ RV Γ H μ Z y u := by
  obtain ⟨v, xs, rfl, h1, u, ys, rfl, h2, h3⟩ := r
  exact ⟨v, u, by rw [show ys = [] from h3], h1, h2⟩
theorem sLen (hK : Γ.K = X.K) : OpN Γ (fun xs H Q => ∃ x n, xs = [x] ∧ LenV X.K x H n ∧ Q (.int n) H) lenD := fun H μ Z s xs w vs Q hR rx e k => by
  rw [← hK]
  unfold lenD at e
  split at e
  · rename_i y
    split at e
    · rename_i hl
      cases e
      obtain ⟨v, rfl, r1⟩ := one rx
      exact ⟨v, _, rfl, by rw [show v = .str y from r1]; exact ⟨lim_ok hl, rfl⟩, k _ H .refl hR rfl⟩
    · cases e
  · rename_i y _
    cases q : seqOf s y with
    | none => rw [q] at e; cases e
    | some ws =>
      rw [q] at e
      cases e
      obtain ⟨v, rfl, r1⟩ := one rx
      obtain ⟨a, ys, rfl, h2, h3⟩ := seqOf_ok hR r1 q
      refine ⟨_, ws.length, rfl, ?_, k _ H .refl hR rfl⟩
      rcases h2 with h2 | h2
      · exact .inl ⟨ys, h2, h3.len.symm⟩
      · exact .inr ⟨ys, h2, h3.len.symm⟩
  · cases e
/-- tuple(xs), list(xs) -/
def tupleD : ON := fun s xs => match xs with
  | [.tup ws] => some (.tup ws)
  | [.sq ws] => some (.tup ws)
  | [x] => (lstOf s x).map .tup
  | _ => none
theorem sTuple (hK : Γ.K = X.K) : OpN Γ (fun xs H Q => ∃ p ys, xs = [.ref p] ∧ ((SqL X.K H p ys ∧ ∀ l, H l = none → Q (.ref l) (upd H l (.tup ys))) ∨ (SqT X.K H p ys ∧ Q (.ref p) H))) tupleD := fun H μ Z s xs w vs Q hR rx e k => by
  rw [← hK]
  unfold tupleD at e
  split at e
  · cases e
    obtain ⟨v, rfl, a, ys, rfl, h2, h3⟩ := one rx
    exact ⟨a, ys, rfl, .inr ⟨h2.sq, k _ H .refl hR ⟨a, ys, rfl, h2, h3⟩⟩⟩
  · cases e
    obtain ⟨v, rfl, a, ys, rfl, h2, h3⟩ := one rx
    exact ⟨a, ys, rfl, .inl ⟨h2.sq, fun l hl => k _ _ (Evo.laid hl) (hR.laid hl) (new_tup hR hl h3)⟩⟩
  · rename_i y _ _
    cases q : lstOf s y with
    | none => rw [q] at e; cases e
    | some ws =>
      rw [q] at e
      cases e
      obtain ⟨v, rfl, r1⟩ := one rx
      obtain ⟨a, ys, rfl, h2, h3⟩ := lstOf_ok hR r1 q
      exact ⟨a, ys, rfl, .inl ⟨SqL.of h2, fun l hl => k _ _ (Evo.laid hl) (hR.laid hl) (new_tup hR hl h3)⟩⟩
  · cases e
def listD : ON := fun s xs => match xs with
  | [x] => (seqOf s x).map .lst
  | _ => none
theorem sList (hK : Γ.K = X.K) : OpN Γ (fun xs H Q => ∃ p ys, xs = [.ref p] ∧ (SqL X.K H p ys ∨ SqT X.K H p ys) ∧ ∀ l, H l = none → Q (.ref l) (upd H l (.lst ys))) listD := fun H μ Z s xs w vs Q hR rx e k => by
  rw [← hK]
  unfold listD at e
  split at e
  · rename_i y
    cases q : seqOf s y with
    | none => rw [q] at e; cases e
    | some ws =>
      rw [q] at e
      cases e
      obtain ⟨v, rfl, r1⟩ := one rx
      obtain ⟨a, ys, rfl, h2, h3⟩ := seqOf_ok hR r1 q
      exact ⟨a, ys, rfl, h2, fun l hl => k _ _ (Evo.laid hl) (hR.laid hl) (new_lst hR hl h3)⟩
  · cases e
/-- ints of a list -/
def intOf : Dv → Option Int
  | .int i => some i
  | _ => none
def intsOf (ws : List Dv) : Option (List Int) := mapO intOf ws
theorem intsOf_ok : ∀ {ws : List Dv} {ns : List Int}, intsOf ws = some ns → ws = ns.map .int
  | [], ns, e => by cases e; rfl
  | w :: ws, ns, e => by
    unfold intsOf at e
    simp only [mapO] at e
    split at e
    · rename_i b bs e1 e2
      cases e
      rw [intsOf_ok (ws := ws) (ns := bs) e2]
      cases w with
      | int i => cases e1; rfl
      | _ => cases e1
    · cases e
theorem intsOf_map : ∀ ns : List Int, intsOf (ns.map .int) = some ns
  | [] => rfl
  | n :: ns => by
    have := intsOf_map ns
    unfold intsOf at this ⊢
    rw [List.map_cons, mapO, this]
    rfl
/-- sorting by insertion -/
def ins (a : Int) : List Int → List Int
  | [] => [a]
  | b :: r => if a ≤ b then a :: b :: r else b :: ins a r
def srt : List Int → List Int
  | [] => []
  | a :: r => ins a (srt r)
theorem ins_perm (a : Int) : ∀ l : List Int, (ins a l).Perm (a :: l)
  | [] => .refl _
  | b :: r => by
    unfold ins
    split
    · exact .refl _
    · exact ((ins_perm a r).cons b).trans (.swap a b r)
theorem srt_perm : ∀ l : List Int, (srt l).Perm l
  | [] => .refl _
  | a :: r => (ins_perm a (srt r)).trans ((srt_perm r).cons a)
theorem ins_sorted (a : Int) : ∀ l : List Int, l.Pairwise (· ≤ ·) → (ins a l).Pairwise (· ≤ ·)
  | [], _ => List.pairwise_singleton _ _
  | b :: r, h => by
    unfold ins
    obtain ⟨h1, h2⟩ := List.pairwise_cons.mp h
    split
    · rename_i hab
      refine List.pairwise_cons.mpr ⟨fun c hc => ?_, h⟩
      rcases List.mem_cons.mp hc with e | e
      · rw [e]; exact hab
      · exact Int.le_trans hab (h1 c e)
    · rename_i hab
      refine List.pairwise_cons.mpr ⟨fun c hc => ?_, ins_sorted a r h2⟩
      rcases List.mem_cons.mp ((ins_perm a r).mem_iff.mp hc) with e | e
      · rw [e]; omega
      · exact h1 c e
theorem srt_sorted : ∀ l : List Int, (srt l).Pairwise (· ≤ ·)
  | [] => .nil
  | a :: r => ins_sorted a _ (srt_sorted r)
theorem sorted_eq : ∀ {l l' : List Int}, l.Perm l' → l.Pairwise (· ≤ ·) → l'.Pairwise (· ≤ ·) → l = l'
  | [], l', p, _, _ => (List.nil_perm.mp p).symm
  | a :: r, [], p, _, _ => (List.cons_ne_nil a r (List.perm_nil.mp p)).elim
  | a :: r, b :: t, p, h, h' => by
    obtain ⟨h1, h2⟩ := List.pairwise_cons.mp h
    obtain ⟨g1, g2⟩ := List.pairwise_cons.mp h'
    have hab : a = b := by
      have ha : a ∈ b :: t := p.mem_iff.mp List.mem_cons_self
      have hb : b ∈ a :: r := p.mem_iff.mpr List.mem_cons_self
      rcases List.mem_cons.mp ha with e | e
      · exact e
      · rcases List.mem_cons.mp hb with e' | e'
        · exact e'.symm
        · exact Int.le_antisymm (h1 b e') (g1 a e)
    subst hab
    rw [sorted_eq (List.perm_cons a |>.mp p) h2 g2]
theorem srt_uniq {l l' : List Int} (p : l'.Perm l) (h : l'.Pairwise (· ≤ ·)) : l' = srt l := sorted_eq (p.trans (srt_perm l).symm) h (srt_sorted l)
def sortedD : ON := fun s xs => match xs with
  | [x] => match lstOf s x with
    | some ws => (intsOf ws).map fun ns => .lst ((srt ns).map .int)
    | none => none
  | _ => none
theorem sSorted (hK : Γ.K = X.K) : OpN Γ (rSortedI X.K) sortedD := fun H μ Z s xs w vs Q hR rx e k => by
  rw [← hK]
  unfold sortedD at e
  split at e
  · rename_i y
    split at e
    · rename_i ws q
      cases q2 : intsOf ws with
      | none => rw [q2] at e; cases e
      | some ns =>
        rw [q2] at e
        cases e
        obtain ⟨v, rfl, r1⟩ := one rx
        obtain ⟨a, ys, rfl, h2, h3⟩ := lstOf_ok hR r1 q
        rw [intsOf_ok q2] at h3
        have h4 := h3.ints
        subst h4
        refine ⟨a, ns, rfl, SqL.of h2, fun ns' p hp hs hn => ?_⟩
        rw [srt_uniq hp hs]
        exact k _ _ (Evo.laid hn) (hR.laid hn) (new_lst hR hn (RVs.of_ints _))
    · cases e
  · cases e
def sumD : ON := fun s xs => match xs with
  | [x] => match lstOf s x with
    | some ws => (intsOf ws).map fun ns => .int ns.sum
    | none => none
  | _ => none
theorem sSum (hK : Γ.K = X.K) : OpN Γ (rSum X.K) sumD := fun H μ Z s xs w vs Q hR rx e k => by
  rw [← hK]
  unfold sumD at e
  split at e
  · rename_i y
    split at e
    · rename_i ws q
      cases q2 : intsOf ws with
      | none => rw [q2] at e; cases e
      | some ns =>
        rw [q2] at e
        cases e
        obtain ⟨v, rfl, r1⟩ := one rx
        obtain ⟨a, ys, rfl, h2, h3⟩ := lstOf_ok hR r1 q
        rw [intsOf_ok q2] at h3
        have h4 := h3.ints
        subst h4
        exact ⟨a, ns, rfl, SqL.of h2, k _ H .refl hR rfl⟩
    · cases e
  · cases e
def min2D : ON := fun _ xs => match xs with
  | [.int i, .int j] => some (.int (if j < i then j else i))
  | _ => none
theorem sMin2 : OpN Γ (fun xs H Q => ∃ i j, xs = [.int i, .int j] ∧ Q (.int (if j < i then j else i)) H) min2D := fun H μ Z s xs w vs Q hR rx e k => by
  unfold min2D at e
  split at e
  · rename_i i j
    cases e
    obtain ⟨v, u, rfl, r1, r2⟩ := two rx
    exact ⟨i, j, by rw [show v = _ from r1, show u = _ from r2], k _ H .refl hR rfl⟩
  · cases e
def intD : ON := fun _ xs => match xs with
  | [.int i] => some (.int i)
  | [.bl b] => some (.int (if b then 1 else 0))
  | _ => none
theorem sInt : OpN Γ (fun xs H Q => (∃ i, xs = [.int i] ∧ Q (.int i) H) ∨ ∃ k, xs = [.bl k] ∧ Q (.int (if k then 1 else 0)) H) intD := fun H μ Z s xs w vs Q hR rx e k => by
  unfold intD at e
  split at e
  · rename_i i
    cases e
    obtain ⟨v, rfl, r1⟩ := one rx
    exact .inl ⟨i, by rw [show v = _ from r1], k _ H .refl hR rfl⟩
  · rename_i b
    cases e
    obtain ⟨v, rfl, r1⟩ := one rx
    exact .inr ⟨b, by rw [show v = _ from r1], k _ H .refl hR rfl⟩
  · cases e
/-- isinstance of a built-in class -/
def tyName : Dv → Option String
  | .non => some "NoneType" | .bl _ => some "bool" | .int _ => some "int" | .str _ => some "str" | .tup _ => some "tuple" | .lst _ => some "list" | .dct _ _ => some "dict"
  | _ => none
def sub (a b : String) : Option Bool := match a, b with
  | "NoneType", "int" => some false | "NoneType", "bool" => some false | "NoneType", "tuple" => some false | "NoneType", "str" => some false | "NoneType", "list" => some false
  | "bool", "int" => some true | "bool", "bool" => some true | "bool", "tuple" => some false | "bool", "str" => some false | "bool", "list" => some false
  | "int", "int" => some true | "int", "bool" => some false | "int", "tuple" => some false | "int", "str" => some false | "int", "list" => some false
  | "str", "int" => some false | "str", "bool" => some false | "str", "tuple" => some false | "str", "str" => some true | "str", "list" => some false
  | "tuple", "int" => some false | "tuple", "bool" => some false | "tuple", "tuple" => some true | "tuple", "str" => some false | "tuple", "list" => some false
  | "list", "int" => some false | "list", "bool" => some false | "list", "tuple" => some false | "list", "str" => some false | "list", "list" => some true
  | "dict", "int" => some false | "dict", "bool" => some false | "dict", "tuple" => some false | "dict", "str" => some false | "dict", "list" => some false
  | _, _ => none
theorem sub_ok {a b : String} {r : Bool} (h : sub a b = some r) : kitB a b = some r := by
  unfold sub at h
  split at h <;> first
    | (cases h; decide +kernel)
    | cases h
def isiD : ON := fun _ xs => match xs with
  | [x, .ty n] => match tyName x with
    | some t => (sub t n).map .bl
    | none => none
  | _ => none
theorem tyName_ok {H : Hp} {μ : Mu} {Z : Zs} {x : Dv} {v : V} {t : String} (r : RV Γ H μ Z x v) (e : tyName x = some t) : TyX Γ.K H v (.type t) := by
  cases x with
  | non => cases e; rw [show v = _ from r]; exact .base .non
  | bl b => cases e; rw [show v = _ from r]; exact .base (.bl b)
  | int b => cases e; rw [show v = _ from r]; exact .base (.int b)
  | str b => cases e; rw [show v = _ from r]; exact .base (.str b)
  | tup ws =>
    cases e
    obtain ⟨a, xs, rfl, h2, h3⟩ := r
    rcases h2 with ⟨h2 | ⟨o, h2⟩, _⟩ | ⟨o, its, n, h2, h4, _⟩
    · exact .base (.tup h2)
    · exact .fTuple h2
    · exact .kTuple h2 h4
  | lst ws =>
    cases e
    obtain ⟨a, xs, rfl, h2, h3⟩ := r
    exact .base (.lst h2)
  | dct ks ws =>
    cases e
    obtain ⟨a, kvs, rfl, h2, h3⟩ := r
    exact .base (.dK h2)
  | _ => cases e
theorem sIsi (hK : Γ.K = X.K) : OpN Γ (rIsi X.K) isiD := fun H μ Z s xs w vs Q hR rx e k => by
  rw [← hK]
  unfold isiD at e
  split at e
  · rename_i y n
    split at e
    · rename_i t q
      cases q2 : sub t n with
      | none => rw [q2] at e; cases e
      | some b =>
        rw [q2] at e
        cases e
        obtain ⟨v, u, rfl, r1, r2⟩ := two rx
        exact ⟨v, u, .type t, .type n, b, rfl, by rw [show u = _ from r2]; exact .ty n, tyName_ok r1 q, kit_ty (sub_ok q2), k _ H .refl hR rfl⟩
    · cases e
  · cases e
def rRepr (K : PySem.W.Frag) : List V → Hp → VK → Prop := fun xs H Q => ∃ (x : V) (a : Addr) (d : PyData), xs = [x] ∧ x = .ref a ∧ Dp K H x d ∧ d.showable = true ∧ d.hasDict = false ∧ d.depth ≤ 60 ∧ d.shown.length ≤ sizeLine ∧ Q (.str d.shown) H
theorem call_repr (hg : X.A.guards = some []) (hu : X.A.units + 64 < cLine) : CallR X (.builtin "repr") (rRepr X.K) := by
  intro pins s σ H xs us Q I r h
  obtain ⟨x, a, d, rfl, rfl, hd, h1, h2, h3, h4, q⟩ := h
  obtain ⟨us', e, _⟩ : ∃ u, us = [u] ∧ RelV (.ref a) u := by
    cases r with
    | cons ru rn => cases rn; exact ⟨_, rfl, ru⟩
  subst e
  have er : us' = Value.ref a := by
    cases r with
    | cons ru rn => exact ru
  subst er
  obtain ⟨as, rd⟩ := hd.reads I d _ _ rfl
  exact repr_of_reads' rd h1 (fun z => by rw [h2] at z; cases z) hg (by omega) (fun _ _ z => z) (fun h' u tk k => ⟨.str d.shown, H, I.kept (t' := tk) k, ⟨u, rfl⟩, q⟩) h4
end
end MP
set_option Elab.async false
set_option linter.all false
set_option maxRecDepth 100000
set_option maxHeartbeats 4000000
namespace MP
open PySem PySem.Spec PyProof.Rows L2
section
variable {X : Cx} {Γ : Ct} {W : WX} {a b e : Expr} {f g : FE} {pos : Pos}
def orO (o o' : O2) : O2 := fun s x y => match o s x y with
  | some w => some w
  | none => o' s x y
theorem bin_or {o o' : O2} (h : ME X Γ W e (mBin o f g)) (h' : ME X Γ W e (mBin o' f g)) : ME X Γ W e (mBin (orO o o') f g) :=
  PE.imp (PE.or h h') fun σ H Q ⟨μ, Z, ρ, s, hE, hR, q⟩ => by
    have key : PostE Γ W H μ Z σ Q (mBin o f g ρ s) ∨ PostE Γ W H μ Z σ Q (mBin o' f g ρ s) := by
      unfold mBin at q ⊢
      revert q
      cases f ρ s with
      | no => exact .inl
      | er x s1 => exact .inl
      | ok x s1 =>
        dsimp only [R.bind]
        cases g ρ s1 with
        | no => exact .inl
        | er y s2 => exact .inl
        | ok y s2 =>
          dsimp only
          intro q
          unfold orO at q
          cases e1 : o s2 x y with
          | some w => rw [e1] at q; exact .inl q
          | none => rw [e1] at q; exact .inr q
    exact key.imp (fun z => ⟨μ, Z, ρ, s, hE, hR, z⟩) fun z => ⟨μ, Z, ρ, s, hE, hR, z⟩
theorem RVs.at {H : Hp} {μ : Mu} {Z : Zs} {ws : List Dv} {xs : List V} {i : Int} {w : Dv} (r : RVs Γ H μ Z ws xs) (e : atI ws i = some w) : ∃ x, atI xs i = some x ∧ RV Γ H μ Z w x := by
  unfold atI at e ⊢
  rw [r.len]
  cases q : ixN ws.length i with
  | none => rw [q] at e; cases e
  | some j =>
    rw [q] at e
    exact r.get e
def lstOrSq (s : Sto) : Dv → Option (List Dv)
  | .sq ws => some ws
  | w => lstOf s w
def ixL : O2 := fun s x y => match y with
  | .int i => (lstOrSq s x).bind fun ws => atI ws i
  | _ => none
def ixT : O2 := fun _ x y => match y with
  | .int i => (tupOf x).bind fun ws => atI ws i
  | _ => none
theorem lstOrSq_ok {H : Hp} {μ : Mu} {Z : Zs} {s : Sto} {w : Dv} {v : V} {ws : List Dv} (hR : Rep Γ H μ Z s) (r : RV Γ H μ Z w v) (e : lstOrSq s w = some ws) : ∃ a xs, v = .ref a ∧ SqL Γ.K H a xs ∧ RVs Γ H μ Z ws xs := by
  unfold lstOrSq at e
  split at e
  · cases e
    obtain ⟨a, xs, h1, h2, h3⟩ := r
    exact ⟨a, xs, h1, h2.sq, h3⟩
  · obtain ⟨a, xs, h1, h2, h3⟩ := lstOf_ok hR r e
    exact ⟨a, xs, h1, SqL.of h2, h3⟩
theorem tupOf_ok {H : Hp} {μ : Mu} {Z : Zs} {w : Dv} {v : V} {ws : List Dv} (r : RV Γ H μ Z w v) (e : tupOf w = some ws) : ∃ a xs, v = .ref a ∧ SqT Γ.K H a xs ∧ RVs Γ H μ Z ws xs := by
  cases w with
  | tup us =>
    cases e
    obtain ⟨a, xs, h1, h2, h3⟩ := r
    exact ⟨a, xs, h1, h2.sq, h3⟩
  | _ => cases e
theorem sIxL : Op2 Γ (rIxL Γ.K) ixL := fun H μ Z s x y w u v Q hR r1 r2 e k => by
  unfold ixL at e
  split at e
  · rename_i i
    cases q : lstOrSq s x with
    | none => rw [q] at e; cases e
    | some ws =>
      rw [q] at e
      obtain ⟨p, xs, h1, h2, h3⟩ := lstOrSq_ok hR r1 q
      obtain ⟨z, g1, g2⟩ := h3.at e
      exact ⟨p, xs, i, z, h1, r2, h2, g1, k _ H .refl hR g2⟩
  · cases e
theorem sIxT : Op2 Γ (rIxT Γ.K) ixT := fun H μ Z s x y w u v Q hR r1 r2 e k => by
  unfold ixT at e
  split at e
  · rename_i i
    cases q : tupOf x with
    | none => rw [q] at e; cases e
    | some ws =>
      rw [q] at e
      obtain ⟨p, xs, h1, h2, h3⟩ := tupOf_ok r1 q
      obtain ⟨z, g1, g2⟩ := h3.at e
      exact ⟨p, xs, i, z, h1, r2, h2, g1, k _ H .refl hR g2⟩
  · cases e
/-- dicts of the store -/
def keyOf : Dv → Option Key
  | .int i => some (.inl i)
  | .str x => some (.inr x)
  | _ => none
def valD (kws : List (Key × Dv)) (k : Key) : Option Dv := (kws.find? fun p => decide (p.1 = k)).map (·.2)
def putD (kws : List (Key × Dv)) (k : Key) (w : Dv) : List (Key × Dv) :=
  if (kws.any fun p => decide (p.1 = k)) = true then kws.map (fun p => if p.1 = k then (p.1, w) else p) else kws ++ [(k, w)]
def dctOf (s : Sto) : Dv → Option (List (Key × Dv))
  | .ref n => match s[n]? with
    | some (.dct kws) => some kws
    | _ => none
  | _ => none
def ixD : O2 := fun s x y => match dctOf s x, keyOf y with
  | some kws, some k => valD kws k
  | _, _ => none
theorem keyOf_ok {H : Hp} {μ : Mu} {Z : Zs} {w : Dv} {v : V} {k : Key} (r : RV Γ H μ Z w v) (e : keyOf w = some k) : v = kV k := by
  cases w with
  | int i => cases e; exact r
  | str x => cases e; exact r
  | _ => cases e
theorem valD_ok {H : Hp} {μ : Mu} {Z : Zs} {k : Key} {w : Dv} : ∀ {kws : List (Key × Dv)} {kvs : List (Key × V)}, kvs.map (·.1) = kws.map (·.1) → RVs Γ H μ Z (kws.map (·.2)) (kvs.map (·.2)) → valD kws k = some w → ∃ v, valV kvs k = some v ∧ RV Γ H μ Z w v
  | [], kvs, _, _, e => by cases e
  | p :: kws, [], h, _, e => by cases h
  | p :: kws, q :: kvs, h, r, e => by
    obtain ⟨h1, h2⟩ := List.cons.inj h
    obtain ⟨x, xs, h3, r1, r2⟩ := r
    obtain ⟨h4, h5⟩ := List.cons.inj h3
    subst h4
    by_cases hk : p.1 = k
    · have e1 : valD (p :: kws) k = some p.2 := by simp [valD, List.find?_cons, hk]
      rw [e1] at e
      cases e
      exact ⟨q.2, valV_pos (show q.1 = k from h1.trans hk), r1⟩
    · have e1 : valD (p :: kws) k = valD kws k := by simp [valD, List.find?_cons, hk]
      rw [e1] at e
      obtain ⟨v, g1, g2⟩ := valD_ok (kvs := kvs) h2 (h5 ▸ r2) e
      exact ⟨v, by rw [valV_neg (show ¬ q.1 = k from fun z => hk (h1.symm.trans z))]; exact g1, g2⟩
theorem putD_ok {H : Hp} {μ : Mu} {Z : Zs} {k : Key} {w : Dv} {v : V} (rw' : RV Γ H μ Z w v) {kws : List (Key × Dv)} {kvs : List (Key × V)} (h : kvs.map (·.1) = kws.map (·.1)) (r : RVs Γ H μ Z (kws.map (·.2)) (kvs.map (·.2))) :
    (putK kvs k v).map (·.1) = (putD kws k w).map (·.1) ∧ RVs Γ H μ Z ((putD kws k w).map (·.2)) ((putK kvs k v).map (·.2)) := by
  have hany : ∀ (kws : List (Key × Dv)) (kvs : List (Key × V)), kvs.map (·.1) = kws.map (·.1) → (kvs.any fun p => decide (p.1 = k)) = (kws.any fun p => decide (p.1 = k)) := fun kws => by
    induction kws with
    | nil => intro kvs h; cases kvs with
      | nil => rfl
      | cons _ _ => cases h
    | cons p kws ih => intro kvs h; cases kvs with
      | nil => cases h
      | cons q kvs =>
        obtain ⟨h1, h2⟩ := List.cons.inj h
        have h1' : q.1 = p.1 := h1
        rw [List.any_cons, List.any_cons, ih kvs h2, h1']
  have hmap : ∀ (kws : List (Key × Dv)) (kvs : List (Key × V)), kvs.map (·.1) = kws.map (·.1) → RVs Γ H μ Z (kws.map (·.2)) (kvs.map (·.2)) →
      (kvs.map (fun p => if p.1 = k then (p.1, v) else p)).map (·.1) = (kws.map (fun p => if p.1 = k then (p.1, w) else p)).map (·.1) ∧ RVs Γ H μ Z ((kws.map (fun p => if p.1 = k then (p.1, w) else p)).map (·.2)) ((kvs.map (fun p => if p.1 = k then (p.1, v) else p)).map (·.2)) := fun kws => by
    induction kws with
    | nil => intro kvs h r; cases kvs with
      | nil => exact ⟨rfl, rfl⟩
      | cons _ _ => cases h
    | cons p kws ih => intro kvs h r; cases kvs with
      | nil => cases h
      | cons q kvs =>
        obtain ⟨h1, h2⟩ := List.cons.inj h
        obtain ⟨x, xs, h3, r1, r2⟩ := r
        obtain ⟨h4, h5⟩ := List.cons.inj h3
        have h1' : q.1 = p.1 := h1
        subst h4
        obtain ⟨i1, i2⟩ := ih kvs h2 (h5 ▸ r2)
        by_cases hk : p.1 = k
        · have e1 : (if q.1 = k then (q.1, v) else q) = (q.1, v) := if_pos (h1'.trans hk)
          have e2 : (if p.1 = k then (p.1, w) else p) = (p.1, w) := if_pos hk
          have m1 : ((q :: kvs).map fun p => if p.1 = k then (p.1, v) else p) = (q.1, v) :: kvs.map fun p => if p.1 = k then (p.1, v) else p := by rw [List.map_cons, e1]
          have m2 : ((p :: kws).map fun p => if p.1 = k then (p.1, w) else p) = (p.1, w) :: kws.map fun p => if p.1 = k then (p.1, w) else p := by rw [List.map_cons, e2]
          rw [m1, m2]
          exact ⟨by rw [List.map_cons, List.map_cons, i1, h1'], RVs.cons rw' i2⟩
        · have e1 : (if q.1 = k then (q.1, v) else q) = q := if_neg fun z => hk (h1'.symm.trans z)
          have e2 : (if p.1 = k then (p.1, w) else p) = p := if_neg hk
          have m1 : ((q :: kvs).map fun p => if p.1 = k then (p.1, v) else p) = q :: kvs.map fun p => if p.1 = k then (p.1, v) else p := by rw [List.map_cons, e1]
          have m2 : ((p :: kws).map fun p => if p.1 = k then (p.1, w) else p) = p :: kws.map fun p => if p.1 = k then (p.1, w) else p := by rw [List.map_cons, e2]
          rw [m1, m2]
          exact ⟨by rw [List.map_cons, List.map_cons, i1, h1'], RVs.cons r1 i2⟩
  unfold putK putD
  rw [hany kws kvs h]
  split
  · exact hmap kws kvs h r
  · rw [List.map_append, List.map_append, List.map_append, List.map_append, h]
    exact ⟨rfl, r.append (RVs.cons rw' rfl)⟩
theorem dctOf_ok {H : Hp} {μ : Mu} {Z : Zs} {s : Sto} {w : Dv} {v : V} {kws : List (Key × Dv)} (hR : Rep Γ H μ Z s) (r : RV Γ H μ Z w v) (e : dctOf s w = some kws) : ∃ a kvs, v = .ref a ∧ H a = some (.dK kvs) ∧ kvs.map (·.1) = kws.map (·.1) ∧ RVs Γ H μ Z (kws.map (·.2)) (kvs.map (·.2)) := by
  cases w with
  | ref n =>
    simp only [dctOf] at e
    split at e
    · rename_i us q
      cases e
      obtain ⟨a, h1, h2⟩ := r
      obtain ⟨b', h3, _, kvs, h4, h5, h6⟩ := hR.at n _ q
      rw [h2] at h3
      cases h3
      exact ⟨a, kvs, h1, h4, h5, h6⟩
    · cases e
  | _ => cases e
theorem sIxD : Op2 Γ (fun x y H Q => ∃ a v, x = .ref a ∧ DGet H a y (some v) ∧ Q v H) ixD := fun H μ Z s x y w u v Q hR r1 r2 e k => by
  unfold ixD at e
  split at e
  · rename_i kws kk q1 q2
    obtain ⟨p, kvs, h1, h2, h3, h4⟩ := dctOf_ok hR r1 q1
    obtain ⟨z, g1, g2⟩ := valD_ok h3 h4 e
    refine ⟨p, z, h1, ?_, k _ H .refl hR g2⟩
    rw [keyOf_ok r2 q2, ← g1]
    exact DGet.k h2
  · cases e
theorem me_ixL (hK : Γ.K = X.K) (ha : ME X Γ W a f) (hb : ME X Γ W b g) (hs : PlainIx b) : ME X Γ W (.Subscript a b pos) (mBin ixL f g) :=
  PE.imp (pe_ix ix_list ha hb hs) fun σ H Q ⟨μ, Z, ρ, s, hE, hR, q⟩ => eE hE hR q fun x s1 u H1 μ1 e1 hE1 R1 r1 q1 => eE hE1 R1 q1 fun y s2 v H2 μ2 e2 hE2 R2 r2 q2 => by
    obtain ⟨w, hw, k⟩ := ofE q2
    rw [← hK]
    exact sIxL H2 μ2 Z s2 x y w u v Q R2 (r1.mono e2) r2 hw k
theorem me_ixT (hK : Γ.K = X.K) (ha : ME X Γ W a f) (hb : ME X Γ W b g) (hs : PlainIx b) : ME X Γ W (.Subscript a b pos) (mBin ixT f g) :=
  PE.imp (pe_ix ix_tup ha hb hs) fun σ H Q ⟨μ, Z, ρ, s, hE, hR, q⟩ => eE hE hR q fun x s1 u H1 μ1 e1 hE1 R1 r1 q1 => eE hE1 R1 q1 fun y s2 v H2 μ2 e2 hE2 R2 r2 q2 => by
    obtain ⟨w, hw, k⟩ := ofE q2
    rw [← hK]
    exact sIxT H2 μ2 Z s2 x y w u v Q R2 (r1.mono e2) r2 hw k
theorem me_ixD (hu : X.A.units + 1 < cLine) (ha : ME X Γ W a f) (hb : ME X Γ W b g) (hs : NoSl b) : ME X Γ W (.Subscript a b pos) (mBin ixD f g) :=
  PE.imp (pe_dget hu ha hb hs) fun σ H Q ⟨μ, Z, ρ, s, hE, hR, q⟩ => eE hE hR q fun x s1 u H1 μ1 e1 hE1 R1 r1 q1 => eE hE1 R1 q1 fun y s2 v H2 μ2 e2 hE2 R2 r2 q2 => by
    obtain ⟨w, hw, k⟩ := ofE q2
    exact sIxD H2 μ2 Z s2 x y w u v Q R2 (r1.mono e2) r2 hw k
/-- a[b]: of a list, a tuple, a dict -/
def ixA : O2 := orO (orO ixL ixT) ixD
theorem me_ix (hK : Γ.K = X.K) (hu : X.A.units + 1 < cLine) (ha : ME X Γ W a f) (hb : ME X Γ W b g) (hs : PlainIx b) (hs' : NoSl b) : ME X Γ W (.Subscript a b pos) (mBin ixA f g) :=
  bin_or (bin_or (me_ixL hK ha hb hs) (me_ixT hK ha hb hs)) (me_ixD hu ha hb hs')
abbrev FO := Env → Sto → R (Option Int)
def PostO (Γ : Ct) (W : WX) (H : Hp) (μ : Mu) (Z : Zs) (σ : L2.St) (Q : Option Int → Hp → Prop) : R (Option Int) → Prop
  | .ok b s' => ∀ H' μ', Evo H μ H' μ' → Rep Γ H' μ' Z s' → Q b H'
  | .er x s' => ∀ cls d H' μ', Evo H μ H' μ' → Rep Γ H' μ' Z s' → RX Γ H' μ' Z x cls d → W cls d σ H'
  | .no => False
def rdO (Γ : Ct) (W : WX) (f : FO) : TO := fun σ H Q => ∃ μ Z ρ s, RE Γ H μ Z ρ σ ∧ Rep Γ H μ Z s ∧ PostO Γ W H μ Z σ Q (f ρ s)
def MO (X : Cx) (Γ : Ct) (W : WX) (e : Option Expr) (f : FO) : Prop := PO X e (rdO Γ W f)
theorem PO.imp {e : Option Expr} {t t' : TO} (h : PO X e t) (k : ∀ σ H Q, t' σ H Q → t σ H Q) : PO X e t' := ⟨fun pins s σ H Q I q => h.run pins s σ H Q I (k σ H Q q)⟩
def mPart (f : FE) : FO := fun ρ s => (f ρ s).bind fun x s1 => match x with
  | .int i => .ok (some i) s1
  | _ => .no
def mNoPart : FO := fun _ s => .ok none s
theorem mo_none : MO X Γ W none mNoPart := PO.imp po_none fun σ H Q ⟨μ, Z, ρ, s, hE, hR, q⟩ => q H μ .refl hR
theorem mo_some (h : ME X Γ W e f) : MO X Γ W (some e) (mPart f) := PO.imp (po_some h) fun σ H Q ⟨μ, Z, ρ, s, hE, hR, q⟩ => by
  refine ⟨μ, Z, ρ, s, hE, hR, ?_⟩
  unfold mPart at q
  cases e1 : f ρ s with
  | no => rw [e1] at q; exact q.elim
  | er x s1 => rw [e1] at q; exact q
  | ok x s1 =>
    rw [e1] at q
    intro v H1 μ1 ev R1 r1
    cases x with
    | int i => exact ⟨i, r1, q H1 μ1 ev R1⟩
    | _ => exact q.elim
abbrev OS := Sto → Dv → Option Int → Option Int → Option Dv
def mSl (op : OS) (f : FE) (lo hi : FO) : FE := fun ρ s => (f ρ s).bind fun x s1 => (lo ρ s1).bind fun l s2 => (hi ρ s2).bind fun u s3 => R.of (op s3 x l u) s3
theorem oE {H : Hp} {μ : Mu} {Z : Zs} {σ : L2.St} {ρ : Env} {s : Sto} {fo : FO} {k : Option Int → Sto → R Dv} {Q : VK} {Q' : Option Int → Hp → Prop} (hE : RE Γ H μ Z ρ σ) (hR : Rep Γ H μ Z s) (h : PostE Γ W H μ Z σ Q ((fo ρ s).bind k))
    (hk : ∀ b s1 H1 μ1, Evo H μ H1 μ1 → RE Γ H1 μ1 Z ρ σ → Rep Γ H1 μ1 Z s1 → PostE Γ W H1 μ1 Z σ Q (k b s1) → Q' b H1) : rdO Γ W fo σ H Q' := by
  refine ⟨μ, Z, ρ, s, hE, hR, ?_⟩
  cases e : fo ρ s with
  | ok x s1 =>
    rw [e] at h
    exact fun H1 μ1 ev R1 => hk x s1 H1 μ1 ev (hE.mono ev) R1 (PostE.evo ev h)
  | er x s1 => rw [e] at h; exact h
  | no => rw [e] at h; exact h.elim
def cutD (ws : List Dv) (lo hi : Option Int) : List Dv := (ws.drop (HT.sIx ws.length 0 lo)).take (HT.sIx ws.length ws.length hi - HT.sIx ws.length 0 lo)
theorem cut_ok {H : Hp} {μ : Mu} {Z : Zs} {ws : List Dv} {xs : List V} (r : RVs Γ H μ Z ws xs) (lo hi : Option Int) : RVs Γ H μ Z (cutD ws lo hi) (cutV xs lo hi) := by
  unfold cutD cutV
  rw [r.len]
  exact (r.drop _).take _
def slL : OS := fun s x lo hi => (lstOrSq s x).map fun ws => .lst (cutD ws lo hi)
def slT : OS := fun _ x lo hi => (tupOf x).map fun ws => .tup (cutD ws lo hi)
variable {lo hi : Option Expr} {flo fhi : FO} {p2 : Pos}
theorem me_slL (hK : Γ.K = X.K) (ha : ME X Γ W e f) (hl : MO X Γ W lo flo) (hh : MO X Γ W hi fhi) : ME X Γ W (.Subscript e (.Slice lo hi none p2) pos) (mSl slL f flo fhi) :=
  PE.imp (pe_slice sl_list ha hl hh) fun σ H Q ⟨μ, Z, ρ, s, hE, hR, q⟩ => eE hE hR q fun x s1 u H1 μ1 e1 hE1 R1 r1 q1 => oE hE1 R1 q1 fun l s2 H2 μ2 e2 hE2 R2 q2 => oE hE2 R2 q2 fun h s3 H3 μ3 e3 hE3 R3 q3 => by
    obtain ⟨w, hw, k⟩ := ofE q3
    unfold slL at hw
    cases q : lstOrSq s3 x with
    | none => rw [q] at hw; cases hw
    | some ws =>
      rw [q] at hw
      cases hw
      obtain ⟨p, xs, h1, h2, h3⟩ := lstOrSq_ok R3 ((r1.mono e2).mono e3) q
      exact ⟨p, xs, h1, hK ▸ h2, fun l' hl' => k _ _ (Evo.laid hl') (R3.laid hl') (new_lst R3 hl' (cut_ok h3 l h))⟩
theorem cut_all {ws : List Dv} {lo hi : Option Int} (h1 : HT.sIx ws.length 0 lo = 0) (h2 : HT.sIx ws.length ws.length hi = ws.length) : cutD ws lo hi = ws := by
  unfold cutD
  rw [h1, h2, List.drop_zero, Nat.sub_zero, List.take_length]
theorem me_slT (hK : Γ.K = X.K) (ha : ME X Γ W e f) (hl : MO X Γ W lo flo) (hh : MO X Γ W hi fhi) : ME X Γ W (.Subscript e (.Slice lo hi none p2) pos) (mSl slT f flo fhi) :=
  PE.imp (pe_slice sl_tupA ha hl hh) fun σ H Q ⟨μ, Z, ρ, s, hE, hR, q⟩ => eE hE hR q fun x s1 u H1 μ1 e1 hE1 R1 r1 q1 => oE hE1 R1 q1 fun l s2 H2 μ2 e2 hE2 R2 q2 => oE hE2 R2 q2 fun h s3 H3 μ3 e3 hE3 R3 q3 => by
    obtain ⟨w, hw, k⟩ := ofE q3
    unfold slT at hw
    have r3 := (r1.mono e2).mono e3
    cases q : tupOf x with
    | none => rw [q] at hw; cases hw
    | some ws =>
      rw [q] at hw
      cases hw
      have hx : x = .tup ws := by cases x <;> cases q <;> rfl
      subst hx
      obtain ⟨p, xs, h1, h2, h3⟩ := id r3
      refine ⟨p, xs, h1, hK ▸ h2.sq, fun ⟨z1, z2⟩ => ?_, fun _ l' hl' => k _ _ (Evo.laid hl') (R3.laid hl') (new_tup R3 hl' (cut_ok h3 l h))⟩
      rw [h3.len] at z1 z2
      refine k _ H3 .refl R3 ?_
      show RV Γ H3 μ3 Z (.tup (cutD ws l h)) _
      rw [cut_all z1 z2, ← h1]
      exact r3
def orS (o o' : OS) : OS := fun s x l u => match o s x l u with
  | some w => some w
  | none => o' s x l u
theorem sl_or {o o' : OS} (h : ME X Γ W e (mSl o f flo fhi)) (h' : ME X Γ W e (mSl o' f flo fhi)) : ME X Γ W e (mSl (orS o o') f flo fhi) :=
  PE.imp (PE.or h h') fun σ H Q ⟨μ, Z, ρ, s, hE, hR, q⟩ => by
    have key : PostE Γ W H μ Z σ Q (mSl o f flo fhi ρ s) ∨ PostE Γ W H μ Z σ Q (mSl o' f flo fhi ρ s) := by
      unfold mSl at q ⊢
      revert q
      cases f ρ s with
      | no => exact .inl
      | er x s1 => exact .inl
      | ok x s1 =>
        dsimp only [R.bind]
        cases flo ρ s1 with
        | no => exact .inl
        | er y s2 => exact .inl
        | ok y s2 =>
          dsimp only
          cases fhi ρ s2 with
          | no => exact .inl
          | er y s3 => exact .inl
          | ok z s3 =>
            dsimp only
            intro q
            unfold orS at q
            cases e1 : o s3 x y z with
            | some w => rw [e1] at q; exact .inl q
            | none => rw [e1] at q; exact .inr q
    exact key.imp (fun z => ⟨μ, Z, ρ, s, hE, hR, z⟩) fun z => ⟨μ, Z, ρ, s, hE, hR, z⟩
def slA : OS := orS slL slT
theorem me_sl (hK : Γ.K = X.K) (ha : ME X Γ W e f) (hl : MO X Γ W lo flo) (hh : MO X Γ W hi fhi) : ME X Γ W (.Subscript e (.Slice lo hi none p2) pos) (mSl slA f flo fhi) := sl_or (me_slL hK ha hl hh) (me_slT hK ha hl hh)
theorem Evo.put {H : Hp} {μ : Mu} {n : Nat} {p : Addr} {o : HO} (hn : μ n = some p) : Evo H μ (upd H p o) μ where
  keep := fun a ob h hm => by rw [upd_ne (fun z : a = p => hm n (by rw [z]; exact hn))]; exact h
  mu := fun _ _ h => h
  new := fun _ _ h => .inl h
  stay := fun m a h q => by
    by_cases z : a = p
    · rw [z, upd_same]; intro y; cases y
    · rw [upd_ne z]; exact q
theorem Rep.put {H : Hp} {μ : Mu} {Z : Zs} {s : Sto} {n : Nat} {p : Addr} {o : HO} {ob : Ob} (hR : Rep Γ H μ Z s) (hn : μ n = some p) (ho : RO Γ (upd H p o) μ Z p ob) : Rep Γ (upd H p o) μ Z (s.set n ob) := by
  have ev : Evo H μ (upd H p o) μ := Evo.put hn
  refine ⟨fun m ob' q => ?_, hR.inj, fun m a h => by rw [List.length_set]; exact hR.dom m a h, fun a z => ev.alive (hR.za a z)⟩
  by_cases hm : n = m
  · subst hm
    have hl : n < s.length := hR.dom n p hn
    rw [List.getElem?_set_self hl] at q
    cases q
    exact ⟨p, hn, hR.notZ hn, ho⟩
  · rw [List.getElem?_set_ne hm] at q
    obtain ⟨a, h1, h2, h3⟩ := hR.at m ob' q
    exact ⟨a, h1, h2, h3.mono' ev (upd_ne (fun z : a = p => hm (hR.inj n m p hn (by rw [← z]; exact h1))))⟩
/-- xs.append(e) -/
def mApp (f g : FE) : FE := fun ρ s => (f ρ s).bind fun x s1 => match x with
  | .ref n => match s1[n]? with
    | some (.lst _) => (g ρ s1).bind fun y s2 => match s2[n]? with
      | some (.lst ws) => if ws.length < lim then .ok .non (s2.set n (.lst (ws ++ [y]))) else .no
      | _ => .no
    | _ => .no
  | _ => .no
theorem me_app (h : PE X e (tBM Γ.K "list" rAppend (rdE Γ W f) (tCons (rdE Γ W g) tNil))) : ME X Γ W e (mApp f g) :=
  PE.imp h fun σ H Q ⟨μ, Z, ρ, s, hE, hR, q⟩ => eE hE hR q fun x s1 u H1 μ1 e1 hE1 R1 r1 q1 => by
    cases x with
    | ref n =>
      dsimp only at q1
      split at q1
      · rename_i us q0
        obtain ⟨p, h1, h2⟩ := r1
        obtain ⟨p', g1, _, xs, g3, g4⟩ := R1.at n _ q0
        rw [h2] at g1
        cases g1
        subst h1
        refine ⟨.inl ⟨rfl, xs, SqL.of g3⟩, ?_⟩
        refine eE hE1 R1 q1 fun y s2 v H2 μ2 e2 hE2 R2 r2 q2 => ?_
        split at q2
        · rename_i ws q3
          split at q2
          · rename_i hl
            obtain ⟨p'', k1, _, ys, k3, k4⟩ := R2.at n _ q3
            rw [e2.mu _ _ h2] at k1
            cases k1
            refine ⟨p, ys, v, rfl, rfl, k3, by rw [k4.len]; exact Nat.lt_of_lt_of_le hl (lim_ok (Nat.le_refl _)), ?_⟩
            have ev : Evo H2 μ2 (upd H2 p (.lst (ys ++ [v]))) μ2 := Evo.put (e2.mu _ _ h2)
            exact q2 .non _ μ2 ev (R2.put (e2.mu _ _ h2) ⟨_, upd_same, (k4.append (RVs.cons r2 RVs.nil)).mono ev⟩) rfl
          · exact q2.elim
        · exact q2.elim
      · exact q1.elim
    | _ => exact q1.elim
/-- d[k] = e -/
def mDPut (fo fi fv : FE) : FS := fun ρ s => (fv ρ s).thenC ρ fun v s1 => (fo ρ s1).thenC ρ fun x s2 => (fi ρ s2).thenC ρ fun y s3 => match x, keyOf y with
  | .ref n, some k => match s3[n]? with
    | some (.dct kws) => if kws.length < lim then .nx ρ (s3.set n (.dct (putD kws k v))) else .no
    | _ => .no
  | _, _ => .no
theorem map_len {α β γ : Type} {l : List (α × β)} {l' : List (α × γ)} (h : l.map (·.1) = l'.map (·.1)) : l.length = l'.length := by
  have := congrArg List.length h
  rw [List.length_map, List.length_map] at this
  exact this
theorem ms_dput {o i value : Expr} {pos' : Pos} {fo fi fv : FE} (hu : X.A.units + 1 < cLine) (ho : ME X Γ W o fo) (hi : ME X Γ W i fi) (hv : ME X Γ W value fv) (hs : swapsWith value (some (.Subscript o i pos')) pos.line X.env = pure false) :
    MS X Γ W (.Assign [.Subscript o i pos'] value pos) (mDPut fo fi fv) :=
  PS.imp (ps_dput hu ho hi hv hs) fun D σ H ⟨μ, Z, ρ, s, hE, hR, q⟩ => eS hE hR q fun v s1 uv H1 μ1 e1 hE1 R1 r1 q1 => eS hE1 R1 q1 fun x s2 ux H2 μ2 e2 hE2 R2 r2 q2 => eS hE2 R2 q2 fun y s3 uy H3 μ3 e3 hE3 R3 r3 q3 => by
    split at q3
    · rename_i n k hk
      split at q3
      · rename_i kws q0
        split at q3
        · rename_i hl
          obtain ⟨p, h1, h2⟩ := r2.mono e3
          obtain ⟨p', g1, _, kvs, g3, g4, g5⟩ := R3.at n _ q0
          rw [h2] at g1
          cases g1
          have rv := (r1.mono e2).mono e3
          obtain ⟨k1, k2⟩ := putD_ok (k := k) rv g4 g5
          have ev : Evo H3 μ3 (upd H3 p (.dK (putK kvs k uv))) μ3 := Evo.put h2
          refine ⟨p, upd H3 p (.dK (putK kvs k uv)), h1, .inl ⟨kvs, k, g3, keyOf_ok r3 hk, by rw [map_len g4]; exact Nat.lt_of_lt_of_le hl (lim_ok (Nat.le_refl _)), rfl⟩, ?_⟩
          exact q3 σ _ μ3 ev (R3.put h2 ⟨_, upd_same, k1, k2.mono ev⟩) (hE3.mono ev)
        · exact q3.elim
      · exact q3.elim
    · exact q3.elim
end
end MP
set_option Elab.async false
set_option linter.all false
set_option maxRecDepth 100000
set_option maxHeartbeats 4000000
namespace MP
open PySem PySem.Spec PyProof.Rows L2
end MP
set_option Elab.async false
set_option linter.all false
set_option maxRecDepth 100000
set_option maxHeartbeats 4000000
namespace MP
open PySem PySem.Spec PyProof.Rows L2
def SqX (K : PySem.W.Frag) (H : Hp) (t : Bool) (a : Addr) (xs : List V) : Prop := if t = true then SqT K H a xs else SqL K H a xs
def ItX (h : Heap) (t : Bool) (it a : Addr) (i : Nat) : Prop := if t = true then h.IsTupleIter it a i else h.IsListIter it a i
def HasX (h : Heap) (t : Bool) (a : Addr) (its : Array Value) : Prop := if t = true then h.IsTuple a its else h.IsList a its
theorem ItX.at {h h' : Heap} {t : Bool} {it a : Addr} {i : Nat} (x : ItX h t it a i) (k : ∀ o, h.get? it = some o → h'.get? it = some o) : ItX h' t it a i := by
  unfold ItX at x ⊢
  cases t with
  | true => rw [if_pos rfl] at x ⊢; exact x.at k
  | false => rw [if_neg Bool.false_ne_true] at x ⊢; exact x.at k
theorem ItX.obj {h : Heap} {t : Bool} {it a : Addr} {i : Nat} (x : ItX h t it a i) : ∃ o, h.get? it = some o ∧ ∀ v, o.data ≠ .cell v := by
  unfold ItX at x
  cases t with
  | true => rw [if_pos rfl] at x; obtain ⟨o, e, _, d⟩ := x; exact ⟨o, e, fun v q => by rw [d] at q; cases q⟩
  | false => rw [if_neg Bool.false_ne_true] at x; obtain ⟨o, e, _, d⟩ := x; exact ⟨o, e, fun v q => by rw [d] at q; cases q⟩
theorem drawsX {prog : Program} {w : World} {A : Around} (hh : A.handled = none) (t : Bool) (it a : Addr) (hne : a ≠ it) (items : Array Value) :
    Draws prog w A it [it, a] items.size (fun i v => items[i]? = some v) (fun i h => ItX h t it a i ∧ HasX h t a items) := by
  unfold ItX HasX
  cases t with
  | true => exact Draws.tuple hh it a hne items
  | false => exact Draws.list hh it a hne items
theorem beginsX (t : Bool) (a : Addr) (items : Array Value) : Begins (.ref a) { cls := .type (if t = true then "tuple_iterator" else "list_iterator"), data := .fields #[.ref a, .int 0 0] } fun h => HasX h t a items := by
  unfold HasX
  cases t with
  | true => exact begins_tuple a items
  | false => exact begins_list a items
theorem SqX.has {X : Cx} {pins : List (Addr × Obj)} {σ : L2.St} {H : Hp} {s : Shared} {t : Bool} {a : Addr} {xs : List V} (I : Inv X pins σ H s) (h : SqX X.K H t a xs) : ∃ its : List Value, Vals xs its ∧ HasX s.heap t a its.toArray ∧ a < s.heap.objs.size := by
  unfold SqX at h
  unfold HasX
  cases t with
  | true =>
    rw [if_pos rfl] at h
    obtain ⟨its, r, p, _⟩ := I.tuple h
    exact ⟨its, r, p, p.lt⟩
  | false =>
    rw [if_neg Bool.false_ne_true] at h
    obtain ⟨its, r, p, _⟩ := I.list h
    exact ⟨its, r, p.isList, p.lt⟩
theorem SqX.inj {X : Cx} {pins : List (Addr × Obj)} {σ : L2.St} {H : Hp} {s : Shared} {t : Bool} {a : Addr} {xs ys : List V} (I : Inv X pins σ H s) (h : SqX X.K H t a xs) (h' : SqX X.K H t a ys) : xs = ys := by
  unfold SqX at h h'
  cases t with
  | true => rw [if_pos rfl] at h h'; exact I.tuple_inj h h'
  | false => rw [if_neg Bool.false_ne_true] at h h'; exact I.list_inj h h'
/-- an iterator of new tuples, by the library's own walk: a turn of ours -/
theorem turn_item {X : Cx} {tg : Expr} {it : Addr} {fp fp' wr : List Addr} {n i : Nat} {Y : Nat → Heap → Value → Heap → Prop} {St tn : Nat → Heap → Prop} {pins : List (Addr × Obj)} {s : Shared} {σ : L2.St} {H : Hp} {E : Value → Shared → Prop} {J : It} (I : Inv X pins σ H s) (hf : ∀ b ∈ fp, FpOk X pins H b) (live : ∀ b ∈ fp, b < s.heap.objs.size)
    (G : GoesN X.prog X.w X.A tg it fp' wr n Y St) (hi : i < n) (hst : St i s.heap) (hw : ∀ b ∈ wr, b ∈ fp) (next : ∀ h', (∀ b o, b ∉ wr → s.heap.get? b = some o → h'.get? b = some o) → St (i + 1) h' → tn (i + 1) h')
    (yl : ∀ v h', Y i s.heap v h' → ∃ T vals us, v = .ref T ∧ s.heap.objs.size ≤ T ∧ h'.IsTuple T us ∧ Vals vals us.toList ∧ vals.length ≤ sizeLine ∧ J.yld i H (.ref T) (upd H T (.tup vals))) :
    wpAny (model X.prog X.w) X.A (pyNext (.ref it)) (fun r s1 => ∃ u, r = some u ∧
      wpAny (model X.prog X.w) X.A (letOwnedTupleGo tg (.ref it) u) (fun _ s2 => ∃ x H', Inv X pins σ H' s2 ∧ RelV x u ∧ J.yld i H x H' ∧ tn (i + 1) s2.heap ∧ ∀ b ∈ fp, H' b = none) E s1) E s := by
  refine G.goes i s (fun u s2 => ∃ x H', Inv X pins σ H' s2 ∧ RelV x u ∧ J.yld i H x H' ∧ tn (i + 1) s2.heap ∧ ∀ b ∈ fp, H' b = none) E hi hst fun v h' tk hY st' hk _ => ?_
  obtain ⟨T, vals, us, rfl, hT, ht, rv, hl, hy⟩ := yl v h' hY
  have new : ObjOk X.prog X.w (upd H T (.tup vals)) h' T (.tup vals) := ⟨hl, us.toList, rv, by rw [Array.toArray_toList]; exact ht⟩
  have J1 : Inv X pins σ (upd H T (.tup vals)) { s with heap := h', toks := tk } := I.turnedNew (ch := fp) (fun b o hb q => hk b o (fun z => hb (hw b z)) q) hf hT new
  refine ⟨.ref T, _, J1, rfl, hy, next h' hk st', fun b hb => ?_⟩
  rw [upd_ne (Nat.ne_of_lt (Nat.lt_of_lt_of_le (live b hb) hT))]
  exact (hf b hb).1
def JZip (K : PySem.W.Frag) (t u : Bool) (a b : Addr) : It :=
  ⟨fun i H => ∃ (xs ys : List V) (x y : V), SqX K H t a xs ∧ SqX K H u b ys ∧ xs[i]? = some x ∧ ys[i]? = some y,
   fun i H v H' => ∃ T x y, v = .ref T ∧ H T = none ∧ H' = upd H T (.tup [x, y]) ∧ (∀ xs, SqX K H t a xs → xs[i]? = some x) ∧ ∀ ys, SqX K H u b ys → ys[i]? = some y,
   fun i H => ∃ xs ys : List V, SqX K H t a xs ∧ SqX K H u b ys ∧ min xs.length ys.length = i⟩
def ZipTn (t u : Bool) (a b : Addr) (N : Nat) (i : Nat) (h : Heap) : Prop := IsZip h (N + 4) (N + 2) (N + 3) .none ∧ IsTupOf2 h (N + 2) (.ref N) (.ref (N + 1)) ∧ (∃ x y, IsTupOf2 h (N + 3) x y) ∧ ItX h t N a i ∧ ItX h u (N + 1) b i
theorem turn_zipX {P : Program} {w : World} {K : PySem.W.Frag} {elts : List Expr} {kk : Nat} {tpos : Pos} {t u : Bool} {a b : Addr} {N : Nat} (la : a < N) (lb : b < N) :
    Turn P w K (.Tuple elts kk tpos) (JZip K t u a b) [N + 4, N + 2, N + 3, N, N + 1] (N + 4) (ZipTn t u a b N) where
  mem := by simp
  obj := fun i h st c hc => by
    obtain ⟨hz, hTI, ⟨x, y, hTO⟩, h1, h2⟩ := st
    have e : c = N + 4 ∨ c = N + 2 ∨ c = N + 3 ∨ c = N ∨ c = N + 1 := by simpa using hc
    rcases e with q | q | q | q | q
    · rw [q]; exact ⟨_, hz, fun v q => nomatch q⟩
    · rw [q]; exact ⟨_, hTI, fun v q => nomatch q⟩
    · rw [q]; exact ⟨_, hTO, fun v q => nomatch q⟩
    · rw [q]; exact h1.obj
    · rw [q]; exact h2.obj
  keep := fun i h h' st k => by
    obtain ⟨hz, hTI, ⟨x, y, hTO⟩, h1, h2⟩ := st
    exact ⟨k _ (by simp) _ hz, k _ (by simp) _ hTI, ⟨x, y, k _ (by simp) _ hTO⟩, h1.at fun o q => k N (by simp) o q, h2.at fun o q => k (N + 1) (by simp) o q⟩
  item := by
    intro X hP hw hK hc i pins s σ H E I hf st hg
    subst hP hw hK
    obtain ⟨xs, ys, x, y, hqx, hqy, hx, hy⟩ := hg
    obtain ⟨its, rv, p, _⟩ := hqx.has I
    obtain ⟨its2, rv2, p2, _⟩ := hqy.has I
    obtain ⟨v1, hv1, r1⟩ := rv.get hx
    obtain ⟨v2, hv2, r2⟩ := rv2.get hy
    have hh : X.A.in1.handled = none := I.ok.hd hc
    have sep := zip_sep2 (N := N) (fp1 := [a]) (fp2 := [b]) (by simpa using la) (by simpa using lb)
    have G := GoesN.zip2 (prog := X.prog) (w := X.w) (A := X.A) (elts := elts) (x1 := kk) (pos := tpos) sep (drawsX hh t N a (Nat.ne_of_lt la) its.toArray) (drawsX hh u (N + 1) b (Nat.ne_of_lt (Nat.lt_succ_of_lt lb)) its2.toArray)
    obtain ⟨hz, hTI, hTO, h1, h2⟩ := id st
    have l1 := (List.getElem?_eq_some_iff.mp hv1).1
    have l2 := (List.getElem?_eq_some_iff.mp hv2).1
    have liveX : ∀ c ∈ [N + 4, N + 2, N + 3, N, N + 1], c < s.heap.objs.size := fun c hc => by
      have hN : N + 4 < s.heap.objs.size := Heap.lt_size hz
      have e : c = N + 4 ∨ c = N + 2 ∨ c = N + 3 ∨ c = N ∨ c = N + 1 := by simpa using hc
      omega
    refine turn_item (tn := ZipTn t u a b N) I hf liveX G (by simp; omega) ⟨hz, hTI, hTO, ⟨h1, p⟩, h2, p2⟩ (fun c hc => by
      have e : c = N + 4 ∨ c = N + 3 ∨ c = N ∨ c = N + 1 := by simpa using hc
      rcases e with q | q | q | q <;> (rw [q]; simp)) (fun h' _ st' => show ZipTn t u a b N (i + 1) h' from ⟨st'.1, st'.2.1, st'.2.2.1, st'.2.2.2.1.1, st'.2.2.2.2.1⟩) fun v h' hY => ?_
    obtain ⟨T, c1, c2, rfl, hT, e1, e2, ht⟩ := hY
    have e1' : its[i]? = some c1 := by simpa using e1
    have e2' : its2[i]? = some c2 := by simpa using e2
    rw [hv1] at e1'
    rw [hv2] at e2'
    cases e1'
    cases e2'
    exact ⟨T, [x, y], #[v1, v2], rfl, hT, ht, .cons r1 (.cons r2 .nil), (show 2 ≤ sizeLine by rw [sizeLine_eq]; decide), T, x, y, rfl, I.hok.fresh hT, rfl, fun l hl => by rw [SqX.inj I hl hqx]; exact hx, fun l hl => by rw [SqX.inj I hl hqy]; exact hy⟩
  done := by
    intro X hP hw hK hc i pins s σ H E I hf st hg
    subst hP hw hK
    obtain ⟨xs, ys, hqx, hqy, hend⟩ := hg
    obtain ⟨its, rv, p, _⟩ := hqx.has I
    obtain ⟨its2, rv2, p2, _⟩ := hqy.has I
    have hh : X.A.in1.handled = none := I.ok.hd hc
    have sep := zip_sep2 (N := N) (fp1 := [a]) (fp2 := [b]) (by simpa using la) (by simpa using lb)
    have G := GoesN.zip2 (prog := X.prog) (w := X.w) (A := X.A) (elts := elts) (x1 := kk) (pos := tpos) sep (drawsX hh t N a (Nat.ne_of_lt la) its.toArray) (drawsX hh u (N + 1) b (Nat.ne_of_lt (Nat.lt_succ_of_lt lb)) its2.toArray)
    obtain ⟨hz, hTI, hTO, h1, h2⟩ := id st
    have l1 := rv.length
    have l2 := rv2.length
    have hn : min its.toArray.size its2.toArray.size = i := by simp; omega
    rw [hn] at G
    exact G.stops s (fun s1 => Inv X pins σ H s1) E ⟨hz, hTI, hTO, ⟨h1, p⟩, h2, p2⟩ fun h' tk hk _ => I.turnedL (ch := [N + 4, N + 2, N + 3, N, N + 1]) (fun c o hb q => hk c o (fun z => hb (by
      have e : c = N + 4 ∨ c = N + 3 ∨ c = N ∨ c = N + 1 := by simpa using z
      rcases e with q | q | q | q <;> (rw [q]; simp))) q) hf
  self := fun A i s Q E st h => wpAny_pyIter_zip st.1 h
def JEnum (K : PySem.W.Frag) (t : Bool) (a : Addr) : It :=
  ⟨fun i H => ∃ (xs : List V) (x : V), SqX K H t a xs ∧ xs[i]? = some x,
   fun i H v H' => ∃ T x, v = .ref T ∧ H T = none ∧ H' = upd H T (.tup [.int (i : Nat), x]) ∧ ∀ xs, SqX K H t a xs → xs[i]? = some x,
   fun i H => ∃ xs : List V, SqX K H t a xs ∧ xs.length = i⟩
def EnumTn (t : Bool) (a : Addr) (N : Nat) (i : Nat) (h : Heap) : Prop := (∃ old, IsEnum h (N + 1) N ((0 : Int) + (i : Int)) old) ∧ ItX h t N a i
theorem turn_enumX {P : Program} {w : World} {K : PySem.W.Frag} {elts : List Expr} {kk : Nat} {tpos : Pos} {t : Bool} {a : Addr} {N : Nat} (la : a < N) :
    Turn P w K (.Tuple elts kk tpos) (JEnum K t a) [N + 1, N] (N + 1) (EnumTn t a N) where
  mem := by simp
  obj := fun i h st c hc => by
    obtain ⟨⟨old, he⟩, h1⟩ := st
    have e : c = N + 1 ∨ c = N := by simpa using hc
    rcases e with q | q
    · rw [q]; exact ⟨_, he, fun v q => nomatch q⟩
    · rw [q]; exact h1.obj
  keep := fun i h h' st k => by
    obtain ⟨⟨old, he⟩, h1⟩ := st
    exact ⟨⟨old, k _ (by simp) _ he⟩, h1.at fun o q => k N (by simp) o q⟩
  item := by
    intro X hP hw hK hc i pins s σ H E I hf st hg
    subst hP hw hK
    obtain ⟨xs, x, hqx, hx⟩ := hg
    obtain ⟨its, rv, p, _⟩ := hqx.has I
    obtain ⟨v1, hv1, r1⟩ := rv.get hx
    have hh : X.A.in1.handled = none := I.ok.hd hc
    have nf : N + 1 ∉ [N, a] := fun m => by
      rcases List.mem_cons.mp m with e | e
      · exact Nat.succ_ne_self N e
      · exact Nat.lt_irrefl a (Nat.lt_trans la ((List.mem_singleton.mp e) ▸ Nat.lt_succ_self N))
    have G := GoesN.enumFrom (prog := X.prog) (w := X.w) (A := X.A) (elts := elts) (x1 := kk) (pos := tpos) 0 (drawsX hh t N a (Nat.ne_of_lt la) its.toArray) (N + 1) (Nat.succ_ne_self N) nf (by simp)
    obtain ⟨⟨old, he⟩, h1⟩ := id st
    have l1 := (List.getElem?_eq_some_iff.mp hv1).1
    have liveX : ∀ c ∈ [N + 1, N], c < s.heap.objs.size := fun c hc => by
      have hN : N + 1 < s.heap.objs.size := Heap.lt_size he
      have e : c = N + 1 ∨ c = N := by simpa using hc
      omega
    refine turn_item (tn := EnumTn t a N) I hf liveX G (by simpa using l1) ⟨⟨old, he⟩, h1, p⟩ (fun c hc => hc) (fun h' _ st' => show EnumTn t a N (i + 1) h' from ⟨st'.1, st'.2.1⟩) fun v h' hY => ?_
    obtain ⟨T, tt, c1, rfl, hT, e1, ht⟩ := hY
    have e1' : its[i]? = some c1 := by simpa using e1
    rw [hv1] at e1'
    cases e1'
    rw [Int.zero_add] at ht
    exact ⟨T, [.int (i : Nat), x], #[.int (i : Nat) tt, v1], rfl, hT, ht, .cons ⟨tt, rfl⟩ (.cons r1 .nil), (show 2 ≤ sizeLine by rw [sizeLine_eq]; decide), T, x, rfl, I.hok.fresh hT, rfl, fun l hl => by rw [SqX.inj I hl hqx]; exact hx⟩
  done := by
    intro X hP hw hK hc i pins s σ H E I hf st hg
    subst hP hw hK
    obtain ⟨xs, hqx, hend⟩ := hg
    obtain ⟨its, rv, p, _⟩ := hqx.has I
    have hh : X.A.in1.handled = none := I.ok.hd hc
    have nf : N + 1 ∉ [N, a] := fun m => by
      rcases List.mem_cons.mp m with e | e
      · exact Nat.succ_ne_self N e
      · exact Nat.lt_irrefl a (Nat.lt_trans la ((List.mem_singleton.mp e) ▸ Nat.lt_succ_self N))
    have G := GoesN.enumFrom (prog := X.prog) (w := X.w) (A := X.A) (elts := elts) (x1 := kk) (pos := tpos) 0 (drawsX hh t N a (Nat.ne_of_lt la) its.toArray) (N + 1) (Nat.succ_ne_self N) nf (by simp)
    obtain ⟨⟨old, he⟩, h1⟩ := id st
    have l1 := rv.length
    have hn : its.toArray.size = i := by simp; omega
    rw [hn] at G
    exact G.stops s (fun s1 => Inv X pins σ H s1) E ⟨⟨old, he⟩, h1, p⟩ fun h' tk hk _ => I.turnedL (ch := [N + 1, N]) (fun c o hb q => hk c o hb q) hf
  self := fun A i s Q E st h => let ⟨⟨_, he⟩, _⟩ := st; wpAny_pyIter_enum he h
section
variable {X : Cx} {Γ : Ct} {W : WX}
def iZipG (K : PySem.W.Frag) (ta : TA) : TI := fun σ H R => ta σ H fun vs H1 => ∃ t u a b xs ys, vs = [.ref a, .ref b] ∧ SqX K H1 t a xs ∧ SqX K H1 u b ys ∧ R (JZip K t u a b) H1
theorem pi_zipG {e e2 : Expr} {ta : TA} {p pos tpos : Pos} {elts : List Expr} {kk : Nat} (hg : Gl X "zip") (hm : X.mg "zip" = none) (ha : PA X [e, e2] ta) (hs : starEach [e, e2] X.env = (false, eval e X.env) :: starEach [e2] X.env := by rfl) (hpl : (backTo pos (starEach [e2] X.env)).any (·.1) = false := by rfl) :
    PI X (.Tuple elts kk tpos) (.Call (.Name "zip" p) [e, e2] [] pos) (iZipG X.K ta) := by
  refine ⟨fun pins s σ H R I h => ?_⟩
  refine Call_ (ld_blt I hg hm boot_zip (callWith_type1 (thn (ha.run pos pins s σ H _ I h) fun us s1 ⟨vs, H1, I1, r1, q1⟩ => ?_) hs hpl))
  obtain ⟨t, u, a, b, xs, ys, rfl, hqx, hqy, q⟩ := q1
  obtain ⟨v, us', rfl, rfl⟩ : ∃ v us', us = v :: us' ∧ v = Value.ref a := by cases r1 with | cons r rr => exact ⟨_, _, rfl, r⟩
  obtain ⟨v', rfl, rfl⟩ : ∃ v', us' = [v'] ∧ v' = Value.ref b := by
    cases r1 with
    | cons r rr => cases rr with
      | cons r' rr' => cases rr'; exact ⟨_, rfl, r'⟩
  obtain ⟨its, rv, p1, la⟩ := hqx.has I1
  obtain ⟨its2, rv2, p2, lb⟩ := hqy.has I1
  refine zip_begins2 (beginsX t a its.toArray) (beginsX u b its2.toArray) p1 p2 fun h' hz hTI hTO h1 h2 _ hk => wpAny_pyIter_zip hz ?_
  have I2 : Inv X pins σ H1 { s1 with heap := h' } := I1.kept (t' := s1.toks) hk
  refine ⟨_, [s1.heap.objs.size + 4, s1.heap.objs.size + 2, s1.heap.objs.size + 3, s1.heap.objs.size, s1.heap.objs.size + 1], _, _, H1, rfl, I2, turn_zipX la lb, ⟨hz, hTI, ⟨_, _, hTO⟩, ?_, ?_⟩, fun c hc => ?_, q⟩
  · unfold ItX
    cases t with
    | true => exact ⟨_, h1, rfl, rfl⟩
    | false => exact ⟨_, h1, rfl, rfl⟩
  · unfold ItX
    cases u with
    | true => exact ⟨_, h2, rfl, rfl⟩
    | false => exact ⟨_, h2, rfl, rfl⟩
  · have e' : c = s1.heap.objs.size + 4 ∨ c = s1.heap.objs.size + 2 ∨ c = s1.heap.objs.size + 3 ∨ c = s1.heap.objs.size ∨ c = s1.heap.objs.size + 1 := by simpa using hc
    have hle : s1.heap.objs.size ≤ c := by rcases e' with z | z | z | z | z <;> (rw [z]; first | exact Nat.le_refl _ | exact Nat.le_add_right _ _)
    exact I1.fpOk hle (I1.hok.fresh hle)
def zipD : List Dv → List Dv → List Dv
  | a :: r, b :: t => .tup [a, b] :: zipD r t
  | _, _ => []
theorem zipD_len : ∀ (l m : List Dv), (zipD l m).length = min l.length m.length
  | [], _ => by simp [zipD]
  | _ :: _, [] => by simp [zipD]
  | a :: r, b :: t => by simp [zipD, zipD_len r t]
theorem zipD_get : ∀ {l m : List Dv} {i : Nat} {w : Dv}, (zipD l m)[i]? = some w → ∃ x y, l[i]? = some x ∧ m[i]? = some y ∧ w = .tup [x, y]
  | [], _, _, _, h => by simp [zipD] at h
  | _ :: _, [], _, _, h => by simp [zipD] at h
  | a :: r, b :: t, 0, w, h => by simp [zipD] at h; exact ⟨a, b, rfl, rfl, h.symm⟩
  | a :: r, b :: t, i + 1, w, h => by
    have h' : (zipD r t)[i]? = some w := by simpa [zipD] using h
    obtain ⟨x, y, h1, h2, h3⟩ := zipD_get h'
    exact ⟨x, y, by simpa using h1, by simpa using h2, h3⟩
/-- a plain sequence, not of the store -/
def plainOf : Dv → Option (Bool × List Dv)
  | .tup ws => some (true, ws)
  | .lst ws => some (false, ws)
  | .sq ws => some (false, ws)
  | _ => none
theorem plain_ok {H : Hp} {μ : Mu} {Z : Zs} {w : Dv} {v : V} {t : Bool} {ws : List Dv} (r : RV Γ H μ Z w v) (e : plainOf w = some (t, ws)) : ∃ a xs, v = .ref a ∧ RVs Γ H μ Z ws xs ∧ ∀ H' μ', EvoZ Z H μ H' μ' → SqX Γ.K H' t a xs := by
  cases w with
  | tup us =>
    cases e
    obtain ⟨a, xs, h1, h2, h3⟩ := r
    exact ⟨a, xs, h1, h3, fun H' μ' ev => (h2.monoZ ev).sq⟩
  | sq us =>
    cases e
    obtain ⟨a, xs, h1, h2, h3⟩ := r
    exact ⟨a, xs, h1, h3, fun H' μ' ev => (h2.monoZ ev).sq⟩
  | lst us =>
    cases e
    obtain ⟨a, xs, h1, h2, h3, h4⟩ := r
    exact ⟨a, xs, h1, h4, fun H' μ' ev => SqL.of (ev.keep _ _ h2 h3.1 h3.2)⟩
  | _ => cases e
def iZip2 (fa : FA) : FI := fun ρ s => (fa ρ s).bind fun ws s1 => match ws with
  | [x, y] => match plainOf x, plainOf y with
    | some (_, a), some (_, b) => .ok { ws := zipD a b } s1
    | _, _ => .no
  | _ => .no
theorem mi_zip {e e2 : Expr} {fa : FA} {p pos tpos : Pos} {elts : List Expr} {kk : Nat} (hK : Γ.K = X.K) (hg : Gl X "zip") (hm : X.mg "zip" = none) (ha : MA X Γ W [e, e2] fa) (hs : starEach [e, e2] X.env = (false, eval e X.env) :: starEach [e2] X.env := by rfl) (hpl : (backTo pos (starEach [e2] X.env)).any (·.1) = false := by rfl) :
    MI X Γ W (.Tuple elts kk tpos) (.Call (.Name "zip" p) [e, e2] [] pos) (iZip2 fa) :=
  PI.imp (pi_zipG hg hm ha hs hpl) fun σ H Q ⟨μ, Z, ρ, s, hE, hR, q⟩ => iA hE hR q fun ws s1 vs H1 μ1 e1 E1 R1 r1 q1 => by
    split at q1
    · rename_i x y
      split at q1
      · rename_i t a u b qx qy
        obtain ⟨v, v', rfl, rx, ry⟩ := two r1
        obtain ⟨pa, xs, rfl, r2, k2⟩ := plain_ok rx qx
        obtain ⟨pb, ys, rfl, r3, k3⟩ := plain_ok ry qy
        rw [← hK]
        refine ⟨t, u, pa, pb, xs, ys, rfl, k2 _ _ Evo.refl.z, k3 _ _ Evo.refl.z, q1 _ _ _ .refl R1 fun H' μ' Z' s' ev hR' hy hz _ => ⟨⟨xs, ys, k2 _ _ ev, k3 _ _ ev, by rw [zipD_len, r2.len, r3.len]⟩, fun i w hi => ?_⟩⟩
        obtain ⟨x', y', g1, g2, rfl⟩ := zipD_get hi
        obtain ⟨ux, h1, h2⟩ := r2.get g1
        obtain ⟨uy, h3, h4⟩ := r3.get g2
        refine ⟨⟨xs, ys, ux, uy, k2 _ _ ev, k3 _ _ ev, h1, h3⟩, fun z H'' hq => ?_⟩
        obtain ⟨T, zx, zy, rfl, hT, rfl, j1, j2⟩ := hq
        have e3 := j1 xs (k2 _ _ ev)
        have e4 := j2 ys (k3 _ _ ev)
        rw [h1] at e3
        rw [h3] at e4
        cases e3
        cases e4
        exact ⟨Evo.laid hT, hR'.laid hT, new_tup hR' hT (RVs.cons ((RV.strong hz _ h2).monoZ (ev.more hy)) (RVs.cons ((RV.strong hz _ h4).monoZ (ev.more hy)) RVs.nil))⟩
      · exact q1.elim
    · exact q1.elim
def iEnumG (K : PySem.W.Frag) (ta : TA) : TI := fun σ H R => ta σ H fun vs H1 => ∃ t a xs, vs = [.ref a] ∧ SqX K H1 t a xs ∧ R (JEnum K t a) H1
def enumD : Nat → List Dv → List Dv
  | _, [] => []
  | n, a :: r => .tup [.int (n : Nat), a] :: enumD (n + 1) r
theorem enumD_len : ∀ (n : Nat) (l : List Dv), (enumD n l).length = l.length
  | _, [] => rfl
  | n, a :: r => by simp [enumD, enumD_len (n + 1) r]
theorem enumD_get : ∀ {l : List Dv} {n i : Nat} {w : Dv}, (enumD n l)[i]? = some w → ∃ x, l[i]? = some x ∧ w = .tup [.int ((n + i : Nat) : Int), x]
  | [], _, _, _, h => by simp [enumD] at h
  | a :: r, n, 0, w, h => by simp [enumD] at h; exact ⟨a, rfl, h.symm⟩
  | a :: r, n, i + 1, w, h => by
    have h' : (enumD (n + 1) r)[i]? = some w := by simpa [enumD] using h
    obtain ⟨x, h1, h2⟩ := enumD_get h'
    exact ⟨x, by simpa using h1, by rw [h2]; simp; omega⟩
def iEnum1 (fa : FA) : FI := fun ρ s => (fa ρ s).bind fun ws s1 => match ws with
  | [x] => match plainOf x with
    | some (_, a) => .ok { ws := enumD 0 a } s1
    | none => .no
  | _ => .no
end
end MP
set_option Elab.async false
set_option linter.all false
set_option maxRecDepth 100000
set_option maxHeartbeats 4000000
namespace MP
open PySem PySem.Spec PyProof.Rows L2
theorem enum_new {v : Value} {o : Obj} {Hh : Heap → Prop} (B : Begins v o Hh) : Meets (Builtin.«enumerate.__new__» ⟨[.type "enumerate", v], []⟩) (fun _ R s => Hh s.heap ∧
    R (.ok (.ret (.ref (s.heap.push o).objs.size))) { s with heap := (s.heap.push o).push { cls := .type "enumerate", data := .fields #[.none, .bool false, .ref s.heap.objs.size, rawInt 0, .none, .none] } }) :=
  .of_wp fun prog w A R s h => by
    obtain ⟨hp, g, d, tk, os⟩ := s
    obtain ⟨h1, h⟩ := h
    have hsub := sub_enumerate
    have it : ∀ {A' : Around} {E Q : Value → Shared → Prop}, Q (.ref hp.objs.size) ⟨hp.push o, g, d, tk, os⟩ → wpAny (model prog w) A' (pyIter v) Q E ⟨hp, g, d, tk, os⟩ := fun q => B.iter prog w _ _ ⟨hp, g, d, tk, os⟩ _ h1 q
    wp_walk using it
    refine wpAny_stack_any fun st => wpAny_pure ?_
    split
    · rename_i c _ _ _ _ _
      cases (c == Value.type "enumerate") <;> (wp_walk using it; exact ⟨_, rfl, h⟩)
    · wp_walk using it
      exact ⟨_, rfl, h⟩
section
variable {prog : Program} {w : World} {A : Around} {E : Value → Shared → Prop} {s : Shared}
theorem enum_call {v : Value} {o : Obj} {Hh : Heap → Prop} {Q : Value → Shared → Prop} (B : Begins v o Hh) (h1 : Hh s.heap)
    (h : ∀ h', IsEnum h' (s.heap.objs.size + 1) s.heap.objs.size 0 .none → h'.get? s.heap.objs.size = some o → (∀ b o, s.heap.get? b = some o → h'.get? b = some o) → Q (.ref (s.heap.objs.size + 1)) { s with heap := h' }) :
    wpAny (model prog w) A (call (.type "enumerate") [v]) Q E s := by
  refine callType_new F.called_enumerate (by decide) (F.typeCall_enumerate_1 _) (F.newCall_enumerate_1 _) (fun obj => F.args_object_init_2 obj _) F.entry_enumerate_new (enum_new B) ⟨h1, ?_⟩
  have sz : (s.heap.push o).objs.size = s.heap.objs.size + 1 := Heap.size_push ..
  show _ ∧ _
  rw [sz]
  have e := Heap.get?_push_size (s.heap.push o) (o := { cls := .type "enumerate", data := .fields #[.none, .bool false, .ref s.heap.objs.size, rawInt 0, .none, .none] }) rfl
  rw [sz] at e
  exact ⟨⟨_, e, rfl⟩, h _ e (Heap.get?_push_of_some _ (Heap.get?_push_size _ B.free)) fun b o x => Heap.get?_push_of_some _ (Heap.get?_push_of_some _ x)⟩
end
section
variable {X : Cx} {Γ : Ct} {W : WX}
theorem pi_enumG {e : Expr} {ta : TA} {p pos tpos : Pos} {elts : List Expr} {kk : Nat} (hg : Gl X "enumerate") (hm : X.mg "enumerate" = none) (ha : PA X [e] ta) (hs : starEach [e] X.env = [(false, eval e X.env)] := by rfl) :
    PI X (.Tuple elts kk tpos) (.Call (.Name "enumerate" p) [e] [] pos) (iEnumG X.K ta) := by
  refine ⟨fun pins s σ H R I h => ?_⟩
  refine Call_ (ld_blt I hg hm boot_enumerate (callWith_type1 (thn (ha.run pos pins s σ H _ I h) fun us s1 ⟨vs, H1, I1, r1, q1⟩ => ?_) hs rfl))
  obtain ⟨t, a, xs, rfl, hqx, q⟩ := q1
  obtain ⟨v, rfl, rfl⟩ : ∃ v, us = [v] ∧ v = Value.ref a := by
    cases r1 with
    | cons r rr => cases rr; exact ⟨_, rfl, r⟩
  obtain ⟨its, rv, p1, la⟩ := hqx.has I1
  refine enum_call (beginsX t a its.toArray) p1 fun h' he h1 hk => wpAny_pyIter_enum he ?_
  have I2 : Inv X pins σ H1 { s1 with heap := h' } := I1.kept (t' := s1.toks) hk
  refine ⟨_, [s1.heap.objs.size + 1, s1.heap.objs.size], _, _, H1, rfl, I2, turn_enumX la, ⟨⟨.none, he⟩, ?_⟩, fun c hc => ?_, q⟩
  · unfold ItX
    cases t with
    | true => exact ⟨_, h1, rfl, rfl⟩
    | false => exact ⟨_, h1, rfl, rfl⟩
  · have e' : c = s1.heap.objs.size + 1 ∨ c = s1.heap.objs.size := by simpa using hc
    have hle : s1.heap.objs.size ≤ c := by rcases e' with z | z <;> (rw [z]; first | exact Nat.le_refl _ | exact Nat.le_add_right _ _)
    exact I1.fpOk hle (I1.hok.fresh hle)
theorem mi_enum {e : Expr} {fa : FA} {p pos tpos : Pos} {elts : List Expr} {kk : Nat} (hK : Γ.K = X.K) (hg : Gl X "enumerate") (hm : X.mg "enumerate" = none) (ha : MA X Γ W [e] fa) (hs : starEach [e] X.env = [(false, eval e X.env)] := by rfl) :
    MI X Γ W (.Tuple elts kk tpos) (.Call (.Name "enumerate" p) [e] [] pos) (iEnum1 fa) :=
  PI.imp (pi_enumG hg hm ha hs) fun σ H Q ⟨μ, Z, ρ, s, hE, hR, q⟩ => iA hE hR q fun ws s1 vs H1 μ1 e1 E1 R1 r1 q1 => by
    split at q1
    · rename_i x
      split at q1
      · rename_i t a qx
        obtain ⟨v, rfl, rx⟩ := one r1
        obtain ⟨pa, xs, rfl, r2, k2⟩ := plain_ok rx qx
        rw [← hK]
        refine ⟨t, pa, xs, rfl, k2 _ _ Evo.refl.z, q1 _ _ _ .refl R1 fun H' μ' Z' s' ev hR' hy hz _ => ⟨⟨xs, k2 _ _ ev, by rw [enumD_len, r2.len]⟩, fun i w hi => ?_⟩⟩
        obtain ⟨x', g1, rfl⟩ := enumD_get hi
        obtain ⟨ux, h1, h2⟩ := r2.get g1
        refine ⟨⟨xs, ux, k2 _ _ ev, h1⟩, fun z H'' hq => ?_⟩
        obtain ⟨T, zx, rfl, hT, rfl, j1⟩ := hq
        have e3 := j1 xs (k2 _ _ ev)
        rw [h1] at e3
        cases e3
        rw [Nat.zero_add]
        exact ⟨Evo.laid hT, hR'.laid hT, new_tup hR' hT (RVs.cons (w := .int (i : Nat)) rfl (RVs.cons ((RV.strong hz _ h2).monoZ (ev.more hy)) RVs.nil))⟩
      · exact q1.elim
    · exact q1.elim
def disp : Dv → Bool
  | .tup _ => true | .lst _ => true | .sq _ => true | .ref _ => true
  | _ => false
def reprD : ON := fun s xs => match xs with
  | [x] => if disp x = true then match toD s x with
      | some d => if d.showable = true ∧ d.hasDict = false ∧ d.depth ≤ 60 ∧ d.shown.length ≤ lim then some (.str d.shown) else none
      | none => none
    else none
  | _ => none
theorem sRepr (hK : Γ.K = X.K) : OpN Γ (rRepr X.K) reprD := fun H μ Z s xs w vs Q hR rx e k => by
  rw [← hK]
  unfold reprD at e
  split at e
  · rename_i x
    split at e
    · rename_i hd
      split at e
      · rename_i d q
        split at e
        · rename_i hc
          cases e
          obtain ⟨v, rfl, r1⟩ := one rx
          have hv : ∃ a, v = .ref a := by
            cases x with
            | tup _ => obtain ⟨a, _, h, _⟩ := r1; exact ⟨a, h⟩
            | lst _ => obtain ⟨a, _, h, _⟩ := r1; exact ⟨a, h⟩
            | sq _ => obtain ⟨a, _, h, _⟩ := r1; exact ⟨a, h⟩
            | ref _ => obtain ⟨a, h, _⟩ := r1; exact ⟨a, h⟩
            | _ => cases hd
          obtain ⟨a, rfl⟩ := hv
          exact ⟨_, a, d, rfl, rfl, toD_ok hR r1 q, hc.1, hc.2.1, hc.2.2.1, lim_ok hc.2.2.2, k _ H .refl hR rfl⟩
        · cases e
      · cases e
    · cases e
  · cases e
def mPairs : List (FE × FE) → Env → Sto → R (List (Dv × Dv))
  | [], _, s => .ok [] s
  | (f, g) :: r, ρ, s => (f ρ s).bind fun x s1 => (g ρ s1).bind fun y s2 => (mPairs r ρ s2).bind fun ps s3 => .ok ((x, y) :: ps) s3
def keysOf : List (Dv × Dv) → Option (List (Key × Dv))
  | [] => some []
  | (x, y) :: r => match keyOf x, keysOf r with
    | some k, some l => some ((k, y) :: l)
    | _, _ => none
def mDctM (ps : List (FE × FE)) : FE := fun ρ s => match mPairs ps ρ s with
  | .ok l s1 => match keysOf l with
    | some kws => if kws.length ≤ 15 then .ok (.ref s1.length) (s1 ++ [.dct (kws.foldl (fun acc kv => putD acc kv.1 kv.2) [])]) else .no
    | none => .no
  | _ => .no
theorem pairs_ok {Z : Zs} {σ : L2.St} {ρ : Env} : ∀ {ps : List (FE × FE)} {H : Hp} {μ : Mu} {s s' : Sto} {l : List (Dv × Dv)} {Q' : List (V × V) → Hp → Prop}, RE Γ H μ Z ρ σ → Rep Γ H μ Z s → mPairs ps ρ s = .ok l s' →
    (∀ vs H1 μ1, Evo H μ H1 μ1 → Rep Γ H1 μ1 Z s' → RVs Γ H1 μ1 Z (l.map (·.1)) (vs.map (·.1)) → RVs Γ H1 μ1 Z (l.map (·.2)) (vs.map (·.2)) → Q' vs H1) →
    tPairs (ps.map fun p => (rdE Γ W p.1, rdE Γ W p.2)) σ H Q'
  | [], H, μ, s, s', l, Q', hE, hR, q, hk => by
    cases q
    exact hk [] H μ .refl hR rfl rfl
  | (f, g) :: r, H, μ, s, s', l, Q', hE, hR, q, hk => by
    simp only [mPairs] at q
    cases e1 : f ρ s with
    | no => rw [e1] at q; cases q
    | er x s1 => rw [e1] at q; cases q
    | ok x s1 =>
      rw [e1] at q
      dsimp only [R.bind] at q
      cases e2 : g ρ s1 with
      | no => rw [e2] at q; cases q
      | er y s2 => rw [e2] at q; cases q
      | ok y s2 =>
        rw [e2] at q
        dsimp only at q
        cases e3 : mPairs r ρ s2 with
        | no => rw [e3] at q; cases q
        | er y s2 => rw [e3] at q; cases q
        | ok l' s3 =>
          rw [e3] at q
          cases q
          refine ⟨μ, Z, ρ, s, hE, hR, ?_⟩
          show PostE Γ W H μ Z σ _ (f ρ s)
          rw [e1]
          intro u H1 μ1 v1 R1 r1
          refine ⟨μ1, Z, ρ, s1, hE.mono v1, R1, ?_⟩
          show PostE Γ W H1 μ1 Z σ _ (g ρ s1)
          rw [e2]
          intro v H2 μ2 v2 R2 r2
          exact pairs_ok ((hE.mono v1).mono v2) R2 e3 fun vs H3 μ3 v3 R3 g1 g2 => hk ((u, v) :: vs) H3 μ3 ((v1.trans v2).trans v3) R3 (RVs.cons ((r1.mono v2).mono v3) g1) (RVs.cons (r2.mono v3) g2)
theorem keysOf_ok {H : Hp} {μ : Mu} {Z : Zs} : ∀ {l : List (Dv × Dv)} {vs : List (V × V)} {kws : List (Key × Dv)}, RVs Γ H μ Z (l.map (·.1)) (vs.map (·.1)) → RVs Γ H μ Z (l.map (·.2)) (vs.map (·.2)) → keysOf l = some kws →
    ∃ kvs : List (Key × V), vs = kvs.map (fun kv => (kV kv.1, kv.2)) ∧ kvs.map (·.1) = kws.map (·.1) ∧ RVs Γ H μ Z (kws.map (·.2)) (kvs.map (·.2))
  | [], vs, _, h1, _, e => by
    cases e
    cases vs with
    | nil => exact ⟨[], rfl, rfl, rfl⟩
    | cons _ _ => cases h1
  | (x, y) :: l, vs, kws, h1, h2, e => by
    cases vs with
    | nil => obtain ⟨_, _, z, _⟩ := h1; cases z
    | cons p vs =>
      obtain ⟨u, us, z1, r1, r2⟩ := h1
      obtain ⟨v, ws, z2, r3, r4⟩ := h2
      obtain ⟨a1, a2⟩ := List.cons.inj z1
      obtain ⟨b1, b2⟩ := List.cons.inj z2
      simp only [keysOf] at e
      split at e
      · rename_i k l' e1 e2
        cases e
        obtain ⟨kvs, c1, c2, c3⟩ := keysOf_ok (a2 ▸ r2) (b2 ▸ r4) e2
        refine ⟨(k, v) :: kvs, ?_, by rw [List.map_cons, List.map_cons, c2], RVs.cons r3 c3⟩
        rw [List.map_cons, ← c1]
        have p1 : p.1 = u := a1
        have p2 : p.2 = v := b1
        show p :: vs = (kV k, v) :: vs
        rw [← keyOf_ok r1 e1, ← p1, ← p2]
      · cases e
theorem merge_ok {H : Hp} {μ : Mu} {Z : Zs} : ∀ {kws acc : List (Key × Dv)} {kvs bcc : List (Key × V)}, kvs.map (·.1) = kws.map (·.1) → RVs Γ H μ Z (kws.map (·.2)) (kvs.map (·.2)) → bcc.map (·.1) = acc.map (·.1) → RVs Γ H μ Z (acc.map (·.2)) (bcc.map (·.2)) →
    (mergeK bcc kvs).map (·.1) = (kws.foldl (fun acc kv => putD acc kv.1 kv.2) acc).map (·.1) ∧ RVs Γ H μ Z ((kws.foldl (fun acc kv => putD acc kv.1 kv.2) acc).map (·.2)) ((mergeK bcc kvs).map (·.2))
  | [], acc, kvs, bcc, h1, _, h3, h4 => by
    cases kvs with
    | nil => exact ⟨h3, h4⟩
    | cons _ _ => cases h1
  | p :: kws, acc, kvs, bcc, h1, h2, h3, h4 => by
    cases kvs with
    | nil => cases h1
    | cons q kvs =>
      obtain ⟨a1, a2⟩ := List.cons.inj h1
      obtain ⟨v, vs, z, r1, r2⟩ := h2
      obtain ⟨b1, b2⟩ := List.cons.inj z
      subst b1
      have a1' : q.1 = p.1 := a1
      obtain ⟨c1, c2⟩ := putD_ok (k := p.1) r1 h3 h4
      have := merge_ok (kws := kws) (acc := putD acc p.1 p.2) (kvs := kvs) (bcc := putK bcc p.1 q.2) a2 (b2 ▸ r2) c1 c2
      show (mergeK (putK bcc q.1 q.2) kvs).map (·.1) = _ ∧ RVs Γ H μ Z _ ((mergeK (putK bcc q.1 q.2) kvs).map (·.2))
      rw [a1']
      exact this
theorem ext_fz {μ : Mu} {Z : Zs} {n : Nat} {p a : Addr} (f : Fz μ (hid p Z) a) : Fz (MP.ext μ n p) Z a := ⟨fun m h => by
  unfold MP.ext at h
  split at h
  · cases h; exact f.2 (.inl rfl)
  · exact f.1 m h, fun z => f.2 (.inr z)⟩
theorem ext_mu {μ : Mu} {n m : Nat} {p a : Addr} (hn : μ n = none) (h : μ m = some a) : MP.ext μ n p m = some a := by
  unfold MP.ext
  rw [if_neg fun z => by rw [z, hn] at h; cases h]
  exact h
mutual
theorem RV.adopt {H : Hp} {μ : Mu} {Z : Zs} {n : Nat} {p : Addr} (hn : μ n = none) : ∀ (w : Dv) {v : V}, RV Γ H μ (hid p Z) w v → RV Γ H (MP.ext μ n p) Z w v
  | .non, _, q => q
  | .bl _, _, q => q
  | .int _, _, q => q
  | .str _, _, q => q
  | .ty _, _, q => q
  | .cl _, _, q => q
  | .ref n, _, q => by
    obtain ⟨a, h1, h2⟩ := q
    exact ⟨a, h1, ext_mu hn h2⟩
  | .tup ws, _, q => by
    obtain ⟨a, xs, h1, h2, h3⟩ := q
    exact ⟨a, xs, h1, h2.elim (fun z => .inl ⟨z.1, ext_fz z.2⟩) .inr, RVs.adopt hn ws h3⟩
  | .sq ws, _, q => by
    obtain ⟨a, xs, h1, h2, h3⟩ := q
    exact ⟨a, xs, h1, h2.elim (fun z => .inl ⟨z.1, ext_fz z.2⟩) .inr, RVs.adopt hn ws h3⟩
  | .lst ws, _, q => by
    obtain ⟨a, xs, h1, h2, h3, h4⟩ := q
    exact ⟨a, xs, h1, h2, ext_fz h3, RVs.adopt hn ws h4⟩
  | .dct ks ws, _, q => by
    obtain ⟨a, kvs, h1, h2, h3, h4, h5⟩ := q
    exact ⟨a, kvs, h1, h2, ext_fz h3, h4, RVs.adopt hn ws h5⟩
  | .dtt kd ws, _, q => by
    obtain ⟨a, kvs, h1, h2, h3, h4, h5, h6⟩ := q
    exact ⟨a, kvs, h1, h2, ext_fz h3, h4, RVs.adopt hn kd h5, RVs.adopt hn ws h6⟩
  | .exc c f w, _, q => by
    obtain ⟨a, dx, x, h1, h2, h3, h4, h5, h6⟩ := q
    exact ⟨a, dx, x, h1, h2, ext_fz h3, h4, ext_fz h5, RV.adopt hn w h6⟩
  | .exn c, _, q => by
    obtain ⟨a, h1, h2, h3⟩ := q
    exact ⟨a, h1, h2, ext_fz h3⟩
  | .clo a c _ ws vs, _, q => by
    obtain ⟨h1, h2, h3, h4⟩ := q
    exact ⟨h1, h2, ext_fz h3, RVs.adopt hn ws h4⟩
theorem RVs.adopt {H : Hp} {μ : Mu} {Z : Zs} {n : Nat} {p : Addr} (hn : μ n = none) : ∀ (ws : List Dv) {vs : List V}, RVs Γ H μ (hid p Z) ws vs → RVs Γ H (MP.ext μ n p) Z ws vs
  | [], _, q => q
  | w :: ws, _, q => by
    obtain ⟨x, xs, h1, h2, h3⟩ := q
    exact ⟨x, xs, h1, RV.adopt hn w h2, RVs.adopt hn ws h3⟩
end
theorem RO.adopt {H : Hp} {μ : Mu} {Z : Zs} {n : Nat} {p a : Addr} {ob : Ob} (hn : μ n = none) (r : RO Γ H μ (hid p Z) a ob) : RO Γ H (MP.ext μ n p) Z a ob := by
  cases ob with
  | lst ws =>
    obtain ⟨xs, h4, h5⟩ := r
    exact ⟨xs, h4, h5.adopt hn⟩
  | dct kws =>
    obtain ⟨kvs, h4, h5, h6⟩ := r
    exact ⟨kvs, h4, h5, h6.adopt hn⟩
  | dtt fr kws =>
    obtain ⟨kvs, h4, h5, h6, h7⟩ := r
    exact ⟨kvs, h4, h5, h6.adopt hn, h7.adopt hn⟩
  | obj c fs =>
    obtain ⟨dx, kvs, h4, h5, h6⟩ := r
    exact ⟨dx, kvs, h4, h5, h6.adopt hn⟩
  | tab m q => exact ⟨r.1, tab_imp rfl (fun c e1 e2 => ⟨e1, ext_fz e2⟩) r.2⟩
/-- what was hidden becomes an object of the store -/
theorem Rep.adoptO {H : Hp} {μ : Mu} {Z : Zs} {s : Sto} {D : Addr} {ob : Ob} (R : Rep Γ H μ (hid D Z) s) (hz : ¬ Z D) (ro : RO Γ H μ (hid D Z) D ob) : Rep Γ H (MP.ext μ s.length D) Z (s ++ [ob]) := by
  have nm := R.mu_new
  have noD : ∀ {m : Nat} {a : Addr}, μ m = some a → a ≠ D := fun h e => R.notZ h (.inl e)
  refine ⟨fun n o' q => ?_, fun n m a h1 h2 => ?_, fun n a h => ?_, fun a z => R.za a (.inr z)⟩
  · by_cases hn : n = s.length
    · subst hn
      rw [List.getElem?_append_right (Nat.le_refl _)] at q
      simp at q
      subst q
      exact ⟨D, by unfold MP.ext; rw [if_pos rfl], hz, ro.adopt nm⟩
    · have hl : n < s.length := by
        have := (List.getElem?_eq_some_iff.mp q).1
        rw [List.length_append, List.length_singleton] at this
        omega
      rw [List.getElem?_append_left hl] at q
      obtain ⟨a, h1, h2, h3⟩ := R.at n o' q
      exact ⟨a, ext_mu nm h1, fun z => h2 (.inr z), h3.adopt nm⟩
  · unfold MP.ext at h1 h2
    split at h1 <;> split at h2
    · rename_i e1 e2; rw [e1, e2]
    · cases h1; exact absurd rfl (noD h2)
    · cases h2; exact absurd rfl (noD h1)
    · exact R.inj _ _ _ h1 h2
  · unfold MP.ext at h
    rw [List.length_append, List.length_singleton]
    split at h
    · omega
    · have := R.dom _ _ h
      omega
theorem Evo.adopt {H H1 : Hp} {μ μ1 : Mu} {n : Nat} {p : Addr} (e : Evo H μ H1 μ1) (hp : H p = none) (hn : μ1 n = none) : Evo H μ H1 (MP.ext μ1 n p) :=
  ⟨e.keep, fun m a h => ext_mu hn (e.mu m a h), fun m a h => by
    unfold MP.ext at h
    split at h
    · cases h; exact .inr hp
    · exact e.new m a h, e.stay⟩
theorem me_dctM {pos : Pos} {keys : List (Option Expr)} {values : List Expr} {ps : List (FE × FE)} (h : PPs X pos keys values (ps.map fun p => (rdE Γ W p.1, rdE Γ W p.2))) (hall : keys.all (·.isSome) = true) (hl : keys.length = values.length) (h0 : keys ≠ []) (h15 : keys.length ≤ 15) :
    ME X Γ W (.Dict keys values pos) (mDctM ps) :=
  PE.imp (pe_disp h hall hl h0 h15) fun σ H Q ⟨μ, Z, ρ, s, hE, hR, q⟩ p hp => by
    unfold mDctM at q
    cases e : mPairs ps ρ s with
    | no => rw [e] at q; exact q.elim
    | er x s1 => rw [e] at q; exact q.elim
    | ok l s1 =>
      rw [e] at q
      dsimp only at q
      split at q
      · rename_i kws ek
        split at q
        · rename_i h15'
          refine pairs_ok (hE.hide hp) (hR.hide hp) e fun vs H1 μ1 ev R1 g1 g2 => ?_
          obtain ⟨kvs, c1, c2, c3⟩ := keysOf_ok g1 g2 ek
          have hH : H1 p = some (.dK []) := ev.keep p _ upd_same fun n hn => hR.alive hn hp
          refine ⟨hH, kvs, c1, by rw [map_len c2]; exact h15', ?_⟩
          obtain ⟨d1, d2⟩ := merge_ok (Γ := Γ) (H := upd H1 p (.dK (mergeK [] kvs))) (μ := μ1) (Z := hid p Z) (acc := []) (bcc := []) c2 (RVs.updZ _ c3) rfl rfl
          have R2 : Rep Γ (upd H1 p (.dK (mergeK [] kvs))) μ1 (hid p Z) s1 := R1.updZ
          have nz : ¬ Z p := fun z => hR.za p z hp
          have e0 : Evo H μ (upd H1 p (.dK (mergeK [] kvs))) μ1 := ((Evo.laid hp).trans ev).hid hp
          exact q (.ref p) _ _ (e0.adopt hp R1.mu_new) (R2.adoptO nz ⟨_, upd_same, d1, d2⟩) ⟨p, rfl, by unfold MP.ext; rw [if_pos rfl]⟩
        · exact q.elim
      · exact q.elim
end
end MP
set_option Elab.async false
set_option linter.all false
set_option maxRecDepth 100000
set_option maxHeartbeats 4000000
namespace MP
open PySem PySem.Spec PyProof.Rows L2
section
variable {X : Cx} {Γ : Ct} {W : WX} {a b c e : Expr} {f g h h' : FE} {pos : Pos} {x y : Str} {i j : Nat}
/-- a < b < c as a test -/
theorem mt_chain {op op' : CmpOp} {r r' : R2} {o o' : O2} (ho : OpR X (compareOp op) r) (ho' : OpR X (compareOp op') r') (hs : Op2 Γ r o) (hs' : Op2 Γ r' o') (hm : lastMarks [op, op'] [b, c] = false)
    (ha : ME X Γ W a f) (hb : ME X Γ W b g) (hc : ME X Γ W c h') : MT X Γ W (.Compare a [op, op'] [b, c] pos) (mTest (mChain o o' f g h')) := by
  have key : ∀ σ H (Q : VK), rdE Γ W (mChain o o' f g h') σ H Q → tChain r r' (rdE Γ W f) (rdE Γ W g) (rdE Γ W h') σ H Q := fun σ H Q ⟨μ, Z, ρ, s, hE, hR, q⟩ => eE hE hR q fun x s1 u H1 μ1 e1 hE1 R1 r1 q1 => eE hE1 R1 q1 fun y s2 v H2 μ2 e2 hE2 R2 r2 q2 => by
    cases hw : o s2 x y with
    | none => rw [hw] at q2; exact q2.elim
    | some w =>
      rw [hw] at q2
      refine hs H2 μ2 Z s2 x y w u v _ R2 (r1.mono e2) r2 hw fun z H3 e3 R3 r3 => ?_
      cases w with
      | bl k =>
        refine ⟨k, r3, ?_⟩
        cases k with
        | true =>
          rw [if_pos rfl]
          exact eE (hE2.mono e3) R3 (PostE.evo e3 q2) fun z' s3 v3 H4 μ4 e4 hE4 R4 r4 q4 => by
            obtain ⟨w', hw', k'⟩ := ofE q4
            exact hs' H4 μ4 Z s3 y z' w' v v3 Q R4 ((r2.mono e3).mono e4) r4 hw' k'
        | false =>
          rw [if_neg Bool.false_ne_true]
          exact okE R3 (w := .bl false) rfl (PostE.evo e3 q2)
      | _ => exact q2.elim
  refine PT.imp (pt_chain ho ho' ha hb hc hm) fun σ H Q ⟨μ, Z, ρ, s, hE, hR, q⟩ => key σ H _ ?_
  refine ⟨μ, Z, ρ, s, hE, hR, ?_⟩
  have q' : PostT Γ W H μ Z σ Q ((mChain o o' f g h' ρ s).bind fun x s1 => match x with
      | .bl b => .ok b s1
      | _ => .no) := q
  revert q'
  cases mChain o o' f g h' ρ s with
  | ok w s1 =>
    intro q' v H' μ' ev R' rv
    cases w with
    | bl b => exact ⟨b, rv, okT R' (PostT.evo ev q')⟩
    | _ => exact q'.elim
  | er x s1 => exact id
  | no => exact id
def mPar (i j : Nat) (fa : FA) : FS := fun ρ s => (fa ρ s).thenC ρ fun ws s1 => match ws with
  | [v, w] => .nx ((ρ.set i (some v)).set j (some w)) s1
  | _ => .no
theorem ms_par {px py pt : Pos} {kt k2 pt2} {fa : FA} (hc : X.calm = true) (hN : X.N.Nodup) (hi : X.N[i]? = some x) (hj : X.N[j]? = some y) (hij : i ≠ j)
    (hx : X.env.scope.names.lookup x = some .local) (hy : X.env.scope.names.lookup y = some .local) (ha : MA X Γ W [a, b] fa)
    (hw : swappedStores [.Tuple [.Name x px, .Name y py] kt pt] (.Tuple [a, b] k2 pt2) X.env = pure (some [x, y]))
    (hs : swapsWithSole [.Tuple [.Name x px, .Name y py] kt pt] (.Tuple [a, b] k2 pt2) pos.line X.env = pure false := by rfl) :
    MS X Γ W (.Assign [.Tuple [.Name x px, .Name y py] kt pt] (.Tuple [a, b] k2 pt2) pos) (mPar i j fa) :=
  PS.imp (ps_par hc hN hi hj hij hx hy ha hw hs) fun D σ H ⟨μ, Z, ρ, s, hE, hR, q⟩ => aS hE hR q fun ws s1 vs H1 μ1 ev E1 R1 r1 q1 => by
    match ws, q1, r1 with
    | [v, w], q1, r1 =>
      obtain ⟨x1, xs, rfl, ra, rb⟩ := r1
      obtain ⟨x2, xs, rfl, rb, rfl⟩ := rb
      exact ⟨x1, x2, rfl, q1 _ H1 μ1 .refl R1 ((E1.set i ra).set j rb)⟩
    | [], q1, _ => exact q1.elim
    | [_], q1, _ => exact q1.elim
    | _ :: _ :: _ :: _, q1, _ => exact q1.elim
def mStuck : FS := fun _ _ => .no
theorem ms_stuck {st : Stmt} : MS X Γ W st mStuck := PS.imp ps_never fun D σ H ⟨μ, Z, ρ, s, hE, hR, q⟩ => q.elim
theorem tk0 {X : Cx} : Takes X W0 := fun u s' ⟨_, _, _, _, _, _, _, _, _, _, _, _, _, _, _, _, w⟩ => w.elim
theorem me_globJ {x : Str} {i : Int} {pos : Pos} (hg : Gl X x) (hm : ∃ t, X.mg x = some (.int i t)) (hd : (x == ("__debug__" : Str)) = false := by decide) : ME X Γ W (.Name x pos) (mK (.int i)) := by
  obtain ⟨t, h⟩ := hm
  exact me_globI hg h hd
theorem go_name {i : Nat} : GOk Γ (gName i) (gN i) := fun H μ Z ρ ρ' s σ w v Q hE hR r e k => by
  cases e
  exact k _ (hE.set i r)
theorem ms_set {i : Nat} {x : Str} {pos' : Pos} (hN : X.N.Nodup) (hi : X.N[i]? = some x) (hx : Loc X.env.scope x) (he : ME X Γ W e f) (hs : swapsWith e (some (.Name x pos')) pos.line X.env = pure false := by rfl) (hf : X.fn x = true ∨ X.env.scope.names.lookup x = some .local := by first | exact .inl rfl | exact .inr rfl | assumption) :
    MS X Γ W (.Assign [.Name x pos'] e pos) (mAsg f (gN i)) := ms_asg (ps_set hN hi hx he hs hf) go_name
theorem mgs_cons' {tg : Expr} {tgs : List Expr} {g : TG} {gs : TGs} {fg : FG} {fgs : List Dv → Env → Sto → Option Env} (h1 : MG X Γ tg g fg) (h2 : MGs X Γ tgs gs fgs)
    (hs : (assignEach (tg :: tgs) X.env).map (·.2) = assign tg X.env :: (assignEach tgs X.env).map (·.2) := by rfl) : MGs X Γ (tg :: tgs) (gCons g gs) (gsC fg fgs) := mgs_cons h1 h2 (pgs_cons h1.1 h2.1 hs)
theorem mg_tup' {tgs : List Expr} {kk n : Nat} {gs : TGs} {fgs : List Dv → Env → Sto → Option Env} (hK : Γ.K = X.K) (hc : X.calm = true) (h : MGs X Γ tgs gs fgs)
    (hn : (assignEach tgs X.env).length = n := by rfl) (hst : (assignEach tgs X.env).findIdx? (·.1) = none := by rfl) : MG X Γ (.Tuple tgs kk pos) (gTup X.K n gs) (gT n fgs) := mg_tup hK.symm (pg_tup hc h.1 hn hst) h.2
theorem ms_setT {tg e : Expr} {g : TG} {fg : FG} (he : ME X Γ W e f) (hg : MG X Γ tg g fg) (hs : swapsWithSole [tg] e pos.line X.env = pure false := by rfl) (hw : swappedStores [tg] e X.env = pure none := by rfl)
    (h1 : (assignEach [tg] X.env).map (·.2) = [assign tg X.env] := by rfl) : MS X Γ W (.Assign [tg] e pos) (mAsg f fg) := ms_asg (ps_asg he hg.1 hs hw h1) hg.2
def FA.Len (fa : FA) (n : Nat) : Prop := ∀ ρ s ws s', fa ρ s = .ok ws s' → ws.length = n
theorem len_nil : FA.Len mNil 0 := fun ρ s ws s' q => by cases q; rfl
theorem len_cons {fa : FA} {n : Nat} (q : fa.Len n) : FA.Len (mCons f fa) (n + 1) := fun ρ s ws s' p => by
  unfold mCons at p
  cases h1 : f ρ s with
  | ok w s1 =>
    rw [h1] at p
    have p2 : (fa ρ s1).bind (fun xs s2 => R.ok (w :: xs) s2) = .ok ws s' := p
    cases h2 : fa ρ s1 with
    | ok xs s2 =>
      rw [h2] at p2
      cases p2
      rw [List.length_cons, q ρ s1 xs _ h2]
    | er z s2 => rw [h2] at p2; cases p2
    | no => rw [h2] at p2; cases p2
  | er z s1 => rw [h1] at p; cases p
  | no => rw [h1] at p; cases p
end
/-- what a call of x must know -/
def Cal (P : Program) (w : World) (mg : Str → Option Value) (base : Heap) (Γ : Ct) (k : Nat) (x : Str) (ps : List Str) (den : Fn) : Prop :=
  ∃ (f : Addr) (fd : FuncData), FnG P w mg base Γ k f fd ps den ∧ mg x = some (.ref f) ∧ PySem.W.keepIn Γ.K (.ref f) = true ∧ Binds Γ.K fd ps []
section
variable {X : Cx} {Γ : Ct} {W : WX} {k k' : Nat} {ps : List Str} {den : Fn} {x : Str} {p pos : Pos} {e : Expr} {es : List Expr} {fa : FA}
theorem me_cal (C : Cal X.prog X.w X.mg X.base Γ k x ps den) (hK : Γ.K = X.K) (hr : Room k X.A) (hg : X.A.guards = some []) (tk : Takes X W) (hgl : Gl X x) (ha : MA X Γ W (e :: es) fa) (n : Nat) (hl : FA.Len fa n) (hn : n = ps.length) (hnl : (e :: es).length = n) (hdb : (x == ("__debug__" : Str)) = false := by decide)
    (he : starEach (e :: es) X.env = (false, eval e X.env) :: starEach es X.env := by rfl) (hpl : (backTo pos (starEach es X.env)).any (·.1) = false := by rfl) :
    ME X Γ W (.Call (.Name x p) (e :: es) [] pos) (mCall den fa) := by
  obtain ⟨f, fd, F, hm, hk, hb⟩ := C
  have := me_call (ds := []) (dvs := []) (dws := []) (pos := pos) (p := p) F hK hr hg hgl hm (hK ▸ hk) (hK ▸ hb) .nil (fun _ _ _ => rfl) n (by simpa using hn) hnl tk ha hl hdb he hpl
  have e1 : mCall (fun ws => den (ws ++ [])) fa = mCall den fa := by
    congr 1
    funext ws
    rw [List.append_nil]
  rwa [e1] at this
end
end MP
set_option Elab.async false
set_option linter.all false
set_option maxRecDepth 100000
set_option maxHeartbeats 4000000
namespace MP
open PySem PySem.Spec PyProof.Rows L2
abbrev bare : Obj := seqObj "list" #[] 0
abbrev grown (h : Heap) (vs : List Value) : Heap := (h.push bare).update h.objs.size (Obj.mapSeq (· ++ vs.toArray))
section
variable {P : Program} {w : World} {A : Around} {E : Value → Shared → Prop} {s : Shared} {t : Addr} {vs : List Value}
theorem gather_tup {Q : List Value → Shared → Prop} (ht : IsTup s.heap t vs.toArray) (hz : vs.length ≤ sizeLine) (h : Q vs { s with heap := grown s.heap vs }) : wpAny (model P w) A (collect (.ref t)) Q E s := by
  obtain ⟨o, e1, e2, n, e3⟩ := id ht
  have m1 : (s.heap.push bare).get? s.heap.objs.size = some bare := Heap.get?_push_size _ rfl
  have m2 : (s.heap.push bare).get? t = some o := Heap.get?_push_of_some _ e1
  unfold collect
  apply wpAny_bind
  apply wpAny_runValue
  apply codeAny_builtin entry_proto_collect'
  apply wpAny_bind
  apply wpAny_newList (h := ?_) (Nat.zero_le _)
  refine wpAny_pure ⟨Code.quiet_builtin _ (by decide +kernel), codeAny_builtin entry_list_iadd' ?_⟩
  show wpAny _ _ (Builtin.List.listExtendWith _ _ _) _ _ _
  unfold Builtin.List.listExtendWith
  apply wpAny_bind
  refine wpAny_typeOf (T := "tuple") ⟨o, m2, e2⟩ ?_
  have tt : (Value.type "tuple" == Value.type "tuple") = true := by rfl
  rw [if_pos (by rw [tt, Bool.or_true])]
  apply wpAny_bind
  apply listItems_at m2 e3
  apply wpAny_bind
  apply listItems_at (xs := #[]) (n := 0) m1 rfl
  rw [if_neg (fun z => by simp at z)]
  apply wpAny_bind
  refine listUpdate_at (xs := #[]) (n := 0) m1 rfl (wpAny_pure ?_) (Nat.zero_le _) (by simp only [Array.size_append, List.size_toArray, List.length_nil]; omega)
  dsimp only
  apply wpAny_bind
  refine wpAny_load (get?_update_seq m1 _) ?_
  refine wpAny_pure (cast ?_ h)
  congr 1
  simp
theorem sorted_tup {lt : Value → Value → Bool} {Q : Value → Shared → Prop} (O : SrtO.Swo lt) (ht : IsTup s.heap t vs.toArray) (hz : vs.length ≤ sizeLine)
    (hS : 2 ≤ vs.length → ∀ (h1 : Heap) (a : Addr), SrtO.SortableO P w A.in1.in1 { s with heap := h1 } a vs lt)
    (h : ∀ out : List Value, SrtO.Srtd lt out → SrtO.Stb lt out vs → Q (.ref (s.heap.objs.size + 1)) { s with heap := sortedAll s.heap vs out.toArray }) :
    wpAny (model P w) A (call (.builtin "sorted") [.ref t]) Q E s := by
  apply Calls.call_function_entry kind_sorted plain_sorted entry_sorted (args_sorted1 _)
  unfold Builtin.«sorted»
  apply wpAny_bind (m := checkCount "sorted" 1 1 _)
  apply wpAny_pure
  apply wpAny_bind
  apply gather_tup ht hz
  apply wpAny_bind
  refine wpAny_newList ?_ hz
  have n1 : (grown s.heap vs).objs.size = s.heap.objs.size + 1 := (Heap.size_update _ _ _).trans (size_push' _ _)
  dsimp only
  rw [n1]
  have n2 : ((grown s.heap vs).push (seqObj "list" vs.toArray 0)).get? (s.heap.objs.size + 1) = some (seqObj "list" vs.toArray 0) := n1 ▸ Heap.get?_push_size _ rfl
  apply wpAny_bind
  apply wpAny_holding
  refine wpAny_call_entry slot_list_sort ⟨_, n2, rfl⟩ entry_list_sort ?_ (args_list_sort _)
  exact SrtO.list_sort_ord O n2 hz (fun h2 => hS h2 _ _) fun out a b => ⟨_, rfl, wpAny_pure ⟨_, rfl, h out a b⟩⟩
end
section
variable {X : Cx} {Γ : Ct}
def rSortedTI (K : PySem.W.Frag) : List V → Hp → VK → Prop := fun vs H Q => ∃ (a : Addr) (ns : List Int), vs = [V.ref a] ∧ SqT K H a (ns.map V.int) ∧
  ∀ (ms : List Int) (p : Addr), ms.Perm ns → ms.Pairwise (· ≤ ·) → H p = none → Q (.ref p) (upd H p (.lst (ms.map V.int)))
theorem cr_sortedTI : CallR X (.builtin "sorted") (rSortedTI X.K) := by
  intro pins s σ H vs us Q I r h
  obtain ⟨a, ns, rfl, ht, q⟩ := h
  obtain ⟨its, rv, it, hz⟩ := I.tuple ht
  rw [Vals.ref1 r]
  have ia := rv.ints
  have hz' : its.length ≤ sizeLine := by rw [← rv.length]; exact hz
  refine sorted_tup SrtO.swo_int it hz' (fun h2 _ _ => SrtO.ints_sortable ia h2) fun out h1 h2 => ?_
  obtain ⟨k1, k2, k3⟩ := SrtO.ints_out ia h1 h2
  obtain ⟨ep, at1⟩ := sortedAll_at s.heap its out.toArray
  have hl : ((out.map SrtO.iv).map V.int).length ≤ sizeLine := by
    rw [List.length_map] at hz ⊢
    rwa [k2.length_eq]
  refine ⟨.ref _, upd H (s.heap.objs.size + 1) (.lst ((out.map SrtO.iv).map V.int)), I.laid (t' := s.toks) (fun _ _ e => sortedAll_old e) (Nat.le_succ _) ?_, rfl, q _ _ k2 k3 (I.hok.fresh (Nat.le_succ _))⟩
  exact ⟨hl, out, ep, vals_of_ints k1, at1⟩
theorem IsTup.isTuple {h : Heap} {a : Addr} {xs : Array Value} (x : IsTup h a xs) : h.IsTuple a xs := by
  obtain ⟨o, e1, e2, n, e3⟩ := x
  exact ⟨o, e1, e2, n, e3⟩
theorem cr_sumT (hc : X.calm = true) : CallR X (.builtin "sum") (fun vs H Q => ∃ (a : Addr) (ns : List Int), vs = [V.ref a] ∧ SqT X.K H a (ns.map V.int) ∧ Q (.int ns.sum) H) := by
  intro pins s σ H vs us Q I r h
  obtain ⟨a, ns, rfl, ht, q⟩ := h
  obtain ⟨its, rv, it, hz⟩ := I.tuple ht
  rw [Vals.ref1 r]
  obtain ⟨xs, e⟩ := rv.ints.allInts.items
  have hn : numsOf (intItems xs).toList = ns := by rw [← e]; exact rv.ints.numsOf
  rw [nums_intItems] at hn
  rw [e] at it
  refine PySem.call_sum_walkG ?_
  have tu := IsTup.isTuple it
  obtain ⟨_, e0, _⟩ := id tu
  have lt := Heap.lt_size e0
  refine wpAny_pyIter_tuple tu ⟨s.heap.objs.size, _, _, _, _, _, numAt xs, rfl, Walks.tuple (A := X.A.in1) (I.ok.hd hc) _ a (Nat.ne_of_lt lt) (intItems xs), ⟨⟨_, Heap.get?_push_size _ rfl, rfl, rfl⟩, tu.push _⟩, fun b hb => ?_, fun _ _ => intItems_at, fun h' tk t' hk => ?_⟩
  · have : (s.heap.push { cls := .type "tuple_iterator", data := .fields #[.ref a, .int 0 0] }).objs.size = s.heap.objs.size + 1 := Heap.size_push _ _
    dsimp only
    rw [this]
    rcases List.mem_cons.mp hb with rfl | hb
    · exact Nat.lt_succ_self _
    · rw [List.mem_singleton.mp hb]; exact Nat.lt_succ_of_lt lt
  · refine ⟨.int _, H, I.kept (t' := tk) (h' := h') fun b o eb => hk b o (fun z => ?_) (Heap.get?_push_of_some _ eb), ⟨_, rfl⟩, ?_⟩
    · rw [List.mem_singleton.mp z] at eb
      exact Nat.lt_irrefl _ (Heap.lt_size eb)
    · have hs : (intItems xs).size = xs.size := by simp [intItems]
      rw [hs, preSum_eq, List.take_of_length_le (by simp), hn]
      exact q
def orN (o o' : ON) : ON := fun s xs => match o s xs with
  | some w => some w
  | none => o' s xs
def sortTD : ON := fun _ xs => match xs with
  | [.tup ws] => (intsOf ws).map fun ns => .lst ((srt ns).map .int)
  | _ => none
def sumTD : ON := fun _ xs => match xs with
  | [.tup ws] => (intsOf ws).map fun ns => .int ns.sum
  | _ => none
def sortedA : ON := orN sortedD sortTD
def sumA : ON := orN sumD sumTD
theorem sSortT (hK : Γ.K = X.K) : OpN Γ (rSortedTI X.K) sortTD := fun H μ Z s xs w vs Q hR rx e k => by
  rw [← hK]
  unfold sortTD at e
  split at e
  · rename_i ws
    cases q2 : intsOf ws with
    | none => rw [q2] at e; cases e
    | some ns =>
      rw [q2] at e
      cases e
      obtain ⟨v, rfl, a, ys, rfl, h2, h3⟩ := one rx
      rw [intsOf_ok q2] at h3
      have h4 := h3.ints
      subst h4
      refine ⟨a, ns, rfl, h2.sq, fun ms p hp hs hn => ?_⟩
      rw [srt_uniq hp hs]
      exact k _ _ (Evo.laid hn) (hR.laid hn) (new_lst hR hn (RVs.of_ints _))
  · cases e
theorem sSumT (hK : Γ.K = X.K) : OpN Γ (fun vs H Q => ∃ (a : Addr) (ns : List Int), vs = [V.ref a] ∧ SqT X.K H a (ns.map V.int) ∧ Q (.int ns.sum) H) sumTD := fun H μ Z s xs w vs Q hR rx e k => by
  rw [← hK]
  unfold sumTD at e
  split at e
  · rename_i ws
    cases q2 : intsOf ws with
    | none => rw [q2] at e; cases e
    | some ns =>
      rw [q2] at e
      cases e
      obtain ⟨v, rfl, a, ys, rfl, h2, h3⟩ := one rx
      rw [intsOf_ok q2] at h3
      have h4 := h3.ints
      subst h4
      exact ⟨a, ns, rfl, h2.sq, k _ H .refl hR rfl⟩
  · cases e
theorem cr_sortedA : CallR X (.builtin "sorted") (fun x H Q => rSortedI X.K x H Q ∨ rSortedTI X.K x H Q) := CallR.or2 cr_sortedI cr_sortedTI
theorem sSortedA (hK : Γ.K = X.K) : OpN Γ (fun x H Q => rSortedI X.K x H Q ∨ rSortedTI X.K x H Q) sortedA := OpN.or (sSorted hK) (sSortT hK)
def rSumA (K : PySem.W.Frag) : List V → Hp → VK → Prop := fun x H Q => rSum K x H Q ∨ ∃ (a : Addr) (ns : List Int), x = [V.ref a] ∧ SqT K H a (ns.map V.int) ∧ Q (.int ns.sum) H
theorem cr_sumA (hc : X.calm = true) : CallR X (.builtin "sum") (rSumA X.K) := CallR.or2 (cr_sum hc) (cr_sumT hc)
theorem sSumA (hK : Γ.K = X.K) : OpN Γ (rSumA X.K) sumA := OpN.or (sSum hK) (sSumT hK)
end
end MP
set_option Elab.async false
set_option linter.all false
set_option maxRecDepth 100000
set_option maxHeartbeats 4000000
namespace MP
open PySem PySem.Spec PyProof.Rows L2
section
variable {α β : Type} {a : α} {s s1 s2 : Sto} {ρ : Env} {x : Ex} {w v : Dv} {f g h : FE} {t u : FT} {c c' : FS} {fa : FA} {b : Bool} {o o' : O2}
@[simp] theorem bind_ok {k : α → Sto → R β} : (R.ok a s).bind k = k a s := rfl
@[simp] theorem bind_er {k : α → Sto → R β} : (R.er x s : R α).bind k = .er x s := rfl
@[simp] theorem bind_no {k : α → Sto → R β} : (R.no : R α).bind k = .no := rfl
@[simp] theorem then_ok {k : α → Sto → C} : (R.ok a s).thenC ρ k = k a s := rfl
@[simp] theorem then_er {k : α → Sto → C} : (R.er x s : R α).thenC ρ k = .er x ρ s := rfl
@[simp] theorem then_no {k : α → Sto → C} : (R.no : R α).thenC ρ k = .no := rfl
@[simp] theorem of_some : R.of (some a) s = .ok a s := rfl
@[simp] theorem of_none : (R.of none s : R α) = .no := rfl
@[simp] theorem var_0 : mVar 0 (some w :: ρ) s = .ok w s := rfl
@[simp] theorem var_s {y : Option Dv} {i : Nat} : mVar (i + 1) (y :: ρ) s = mVar i ρ s := by unfold mVar; rw [List.getElem?_cons_succ]
@[simp] theorem k_ev : mK w ρ s = .ok w s := rfl
@[simp] theorem bin_ev : mBin o f g ρ s = (f ρ s).bind fun x s1 => (g ρ s1).bind fun y s2 => R.of (o s2 x y) s2 := rfl
@[simp] theorem un_ev {o : O1} : mUn o f ρ s = (f ρ s).bind fun x s1 => R.of (o s1 x) s1 := rfl
@[simp] theorem blt_ev {o : ON} : mBlt o fa ρ s = (fa ρ s).bind fun ws s1 => R.of (o s1 ws) s1 := rfl
@[simp] theorem call_ev {d : Fn} : mCall d fa ρ s = (fa ρ s).bind d := rfl
@[simp] theorem nil_ev : mNil ρ s = .ok [] s := rfl
@[simp] theorem cons_ev : mCons f fa ρ s = (f ρ s).bind fun x s1 => (fa ρ s1).bind fun xs s2 => .ok (x :: xs) s2 := rfl
def chainK (o : Option Dv) (s : Sto) (k : R Dv) : R Dv := match o with
  | some (.bl true) => k
  | some (.bl false) => .ok (.bl false) s
  | _ => .no
@[simp] theorem chainK_bl {k : R Dv} : chainK (some (.bl b)) s k = if b = true then k else .ok (.bl false) s := by cases b <;> rfl
@[simp] theorem chain_ev : mChain o o' f g h ρ s = (f ρ s).bind fun x s1 => (g ρ s1).bind fun y s2 => chainK (o s2 x y) s2 ((h ρ s2).bind fun z s3 => R.of (o' s3 y z) s3) := rfl
def andK (d : Dv) (s : Sto) (k : R Dv) : R Dv := match d with
  | .bl true => k
  | .bl false => .ok (.bl false) s
  | _ => .no
@[simp] theorem andK_bl {k : R Dv} : andK (.bl b) s k = if b = true then k else .ok (.bl false) s := by cases b <;> rfl
@[simp] theorem andV_ev : mAndV f g ρ s = (f ρ s).bind fun x s1 => andK x s1 (g ρ s1) := rfl
def orK (d : Dv) (s : Sto) (k : R Dv) : R Dv := match d with
  | .bl true => .ok (.bl true) s
  | .bl false => k
  | _ => .no
@[simp] theorem orK_bl {k : R Dv} : orK (.bl b) s k = if b = true then .ok (.bl true) s else k := by cases b <;> rfl
@[simp] theorem orV_ev : mOrV f g ρ s = (f ρ s).bind fun x s1 => orK x s1 (g ρ s1) := by
  unfold mOrV
  congr 1
  funext x s1
  cases x with
  | bl b => cases b <;> rfl
  | _ => rfl
def notK (d : Dv) (s : Sto) : R Dv := match d with
  | .bl b => .ok (.bl (!b)) s
  | _ => .no
@[simp] theorem notK_bl : notK (.bl b) s = .ok (.bl (!b)) s := rfl
@[simp] theorem notV_ev : mNotV f ρ s = (f ρ s).bind notK := rfl
def testK (d : Dv) (s : Sto) : R Bool := match d with
  | .bl b => .ok b s
  | _ => .no
@[simp] theorem testK_bl : testK (.bl b) s = .ok b s := rfl
@[simp] theorem test_ev : mTest f ρ s = (f ρ s).bind testK := rfl
@[simp] theorem and_ev : mAnd t u ρ s = (t ρ s).bind fun c s1 => if c = true then u ρ s1 else .ok false s1 := rfl
@[simp] theorem or_ev : mOr t u ρ s = (t ρ s).bind fun c s1 => if c = true then .ok true s1 else u ρ s1 := rfl
@[simp] theorem not_ev : mNot t ρ s = (t ρ s).bind fun c s1 => .ok (!c) s1 := rfl
@[simp] theorem if_ev : mIf t f g ρ s = (t ρ s).bind fun c s1 => if c = true then f ρ s1 else g ρ s1 := rfl
@[simp] theorem tup_ev : mTup fa ρ s = (fa ρ s).bind fun ws s1 => if ws.length ≤ lim then .ok (.tup ws) s1 else .no := rfl
@[simp] theorem lst_ev : mLst fa ρ s = (fa ρ s).bind fun ws s1 => if ws.length ≤ lim then .ok (.lst ws) s1 else .no := rfl
@[simp] theorem lstM_ev : mLstM fa ρ s = (fa ρ s).bind fun ws s1 => if ws.length ≤ lim then .ok (.ref s1.length) (s1 ++ [.lst ws]) else .no := rfl
/-- what follows -/
def seqK (c : C) (k : FS) : C := match c with
  | .nx ρ s => k ρ s
  | c => c
@[simp] theorem seqK_nx {k : FS} : seqK (.nx ρ s) k = k ρ s := rfl
@[simp] theorem seqK_rt {k : FS} : seqK (.rt w s) k = .rt w s := rfl
@[simp] theorem seqK_bk {k : FS} : seqK (.bk ρ s) k = .bk ρ s := rfl
@[simp] theorem seqK_ct {k : FS} : seqK (.ct ρ s) k = .ct ρ s := rfl
@[simp] theorem seqK_er {k : FS} : seqK (.er x ρ s) k = .er x ρ s := rfl
@[simp] theorem seqK_no {k : FS} : seqK .no k = .no := rfl
@[simp] theorem seq_ev : mSeq c c' ρ s = seqK (c ρ s) c' := by
  unfold mSeq seqK
  cases c ρ s <;> rfl
@[simp] theorem next_ev : mNext ρ s = .nx ρ s := rfl
@[simp] theorem ret_ev : mRet f ρ s = (f ρ s).thenC ρ fun w s1 => .rt w s1 := rfl
@[simp] theorem expr_ev : mExpr f ρ s = (f ρ s).thenC ρ fun _ s1 => .nx ρ s1 := rfl
@[simp] theorem ifS_ev : mIfS t c c' ρ s = (t ρ s).thenC ρ fun b s1 => if b = true then c ρ s1 else c' ρ s1 := rfl
@[simp] theorem asgN_ev {i : Nat} : mAsg f (gN i) ρ s = (f ρ s).thenC ρ fun w s1 => .nx (ρ.set i (some w)) s1 := rfl
@[simp] theorem par_ev {i j : Nat} : mPar i j (mCons f (mCons g mNil)) ρ s = (f ρ s).thenC ρ fun v s1 => (g ρ s1).thenC ρ fun w s2 => .nx ((ρ.set i (some v)).set j (some w)) s2 := by
  unfold mPar mCons mNil
  cases f ρ s with
  | ok v s1 =>
    simp only [bind_ok, then_ok]
    cases g ρ s1 <;> rfl
  | er _ _ => rfl
  | no => rfl
theorem finW_le {n : Nat} (hn : s.length ≤ n) : finW n w s = .ok w s := by unfold finW; rw [if_pos hn]
@[simp] theorem finC_rt : finC s.length (.rt w s) = .ok w s := finW_le (Nat.le_refl _)
@[simp] theorem finC_nx : finC s.length (.nx ρ s) = .ok .non s := finW_le (Nat.le_refl _)
@[simp] theorem den_ev {n : Nat} {d : FS} {ws : List Dv} : denOf n d ws s = finC s.length (d (startD n ws) s) := rfl
@[simp] theorem start_ev {n : Nat} {ws : List Dv} : startD n ws = ws.map some ++ List.replicate (n - ws.length) none := rfl
@[simp] theorem cmp_ev {p : Int → Int → Bool} {i j : Int} : cmpD p s (.int i) (.int j) = some (.bl (p i j)) := rfl
@[simp] theorem sub_ev {i j : Int} : subD s (.int i) (.int j) = some (.int (i - j)) := rfl
@[simp] theorem neg_ev {i : Int} : negD s (.int i) = some (.int (-i)) := rfl
@[simp] theorem isi_ii {i : Int} : isiD s [.int i, .ty "int"] = some (.bl true) := rfl
@[simp] theorem isi_ib {i : Int} : isiD s [.int i, .ty "bool"] = some (.bl false) := rfl
@[simp] theorem isi_tt {ws : List Dv} : isiD s [.tup ws, .ty "tuple"] = some (.bl true) := rfl
@[simp] theorem isi_it {i : Int} : isiD s [.int i, .ty "tuple"] = some (.bl false) := rfl
@[simp] theorem len_tup {ws : List Dv} : lenD s [.tup ws] = some (.int ws.length) := rfl
@[simp] theorem len_lst {ws : List Dv} : lenD s [.lst ws] = some (.int ws.length) := rfl
@[simp] theorem len_sq {ws : List Dv} : lenD s [.sq ws] = some (.int ws.length) := rfl
abbrev tI (ns : List Int) : Dv := .tup (ns.map .int)
abbrev lI (ns : List Int) : Dv := .lst (ns.map .int)
section
variable {s : Sto} {ns ms : List Int} {ρ : Env} {ws : List Dv} {i j : Int} {f : FE}
@[simp] theorem sorted_TI : sortedA s [.tup (ns.map .int)] = some (.lst ((srt ns).map .int)) := by
  show (match sortedD s [.tup (ns.map .int)] with | some w => some w | none => sortTD s [.tup (ns.map .int)]) = _
  rw [show sortedD s [.tup (ns.map .int)] = none from rfl]
  show (intsOf (ns.map .int)).map _ = _
  rw [intsOf_map]
  rfl
@[simp] theorem sorted_LI : sortedA s [.lst (ns.map .int)] = some (.lst ((srt ns).map .int)) := by
  have : sortedD s [.lst (ns.map .int)] = some (.lst ((srt ns).map .int)) := by
    show (intsOf (ns.map .int)).map _ = _
    rw [intsOf_map]
    rfl
  show (match sortedD s [.lst (ns.map .int)] with | some w => some w | none => sortTD s [.lst (ns.map .int)]) = _
  rw [this]
@[simp] theorem sum_LI : sumA s [.lst (ns.map .int)] = some (.int ns.sum) := by
  have : sumD s [.lst (ns.map .int)] = some (.int ns.sum) := by
    show (intsOf (ns.map .int)).map _ = _
    rw [intsOf_map]
    rfl
  show (match sumD s [.lst (ns.map .int)] with | some w => some w | none => sumTD s [.lst (ns.map .int)]) = _
  rw [this]
@[simp] theorem sum_TI : sumA s [.tup (ns.map .int)] = some (.int ns.sum) := by
  show (match sumD s [.tup (ns.map .int)] with | some w => some w | none => sumTD s [.tup (ns.map .int)]) = _
  rw [show sumD s [.tup (ns.map .int)] = none from rfl]
  show (intsOf (ns.map .int)).map _ = _
  rw [intsOf_map]
  rfl
@[simp] theorem sl_tup {lo hi : Option Int} : slA s (.tup ws) lo hi = some (.tup (cutD ws lo hi)) := rfl
@[simp] theorem sl_lst {lo hi : Option Int} : slA s (.lst ws) lo hi = some (.lst (cutD ws lo hi)) := rfl
theorem cut_last {k : Nat} (h : k ≤ ws.length) (h0 : 0 < k) : cutD ws (some (-(k : Int))) none = ws.drop (ws.length - k) := by
  unfold cutD
  rw [HT.sIx_none]
  have e : HT.sIx ws.length 0 (some (-(k : Int))) = ws.length - k := by
    show (if -(k : Int) < 0 then (-(k : Int) + (ws.length : Int)).toNat else min (-(k : Int)).toNat ws.length) = _
    rw [if_pos (by omega)]
    omega
  rw [e]
  exact List.take_of_length_le (by rw [List.length_drop]; omega)
theorem cut_to {k : Nat} : cutD ws none (some (k : Int)) = ws.take k := by
  unfold cutD
  rw [HT.sIx_none, HT.sIx_nat, Nat.sub_zero, List.drop_zero, ← List.take_take, List.take_length]
theorem cut_mid {a b : Nat} (ha : a ≤ ws.length) (hb : b ≤ ws.length) : cutD ws (some (a : Int)) (some (b : Int)) = (ws.drop a).take (b - a) := by
  unfold cutD
  rw [HT.sIx_nat, HT.sIx_nat, Nat.min_eq_left ha, Nat.min_eq_left hb]
@[simp] theorem part_ev : mPart f ρ s = (f ρ s).bind fun x s1 => match x with
  | .int i => .ok (some i) s1
  | _ => .no := rfl
@[simp] theorem nopart_ev : mNoPart ρ s = .ok none s := rfl
@[simp] theorem sl_ev {op : OS} {lo hi : FO} : mSl op f lo hi ρ s = (f ρ s).bind fun x s1 => (lo ρ s1).bind fun l s2 => (hi ρ s2).bind fun u s3 => R.of (op s3 x l u) s3 := rfl
@[simp] theorem add_ii : addD s (.int i) (.int j) = some (.int (i + j)) := rfl
theorem mul_ii (h : cm i j = true) : mulD s (.int i) (.int j) = some (.int (i * j)) := by
  show (if cm i j = true then _ else _) = _
  rw [if_pos h]
theorem cm_l (h : -(2 ^ 64) < i ∧ i < 2 ^ 64) : cm i j = true := decide_eq_true (.inl h)
theorem cm_r (h : -(2 ^ 64) < j ∧ j < 2 ^ 64) : cm i j = true := decide_eq_true (.inr h)
@[simp] theorem int_i : intD s [.int i] = some (.int i) := rfl
@[simp] theorem int_b {b : Bool} : intD s [.bl b] = some (.int (if b then 1 else 0)) := rfl
theorem range1_ok {fa : FA} {s1 : Sto} (h : fa ρ s = .ok [.int j] s1) (hj : okR j = true) : iRange1 fa ρ s = .ok { ws := rng 0 j.toNat } s1 := by
  unfold iRange1
  rw [h, bind_ok]
  exact if_pos hj
theorem range2_ok {fa : FA} {s1 : Sto} (h : fa ρ s = .ok [.int i, .int j] s1) (hi : okR i = true) (hj : okR j = true) : iRange2 fa ρ s = .ok { ws := rng i (j - i).toNat } s1 := by
  unfold iRange2
  rw [h, bind_ok]
  exact if_pos ⟨hi, hj⟩
theorem rng_ev {lo : Int} {n : Nat} : rng lo n = (List.range n).map fun i : Nat => Dv.int (lo + (i : Int)) := by unfold rng; rfl
theorem okR_s {i : Int} (h : -1000000 ≤ i) (h2 : i ≤ 1000000) : okR i = true := decide_eq_true ⟨by omega, by omega⟩
@[simp] theorem tuple_lst : tupleD s [.lst ws] = some (.tup ws) := rfl
@[simp] theorem tuple_tup : tupleD s [.tup ws] = some (.tup ws) := rfl
theorem ix_tup {k : Nat} {w : Dv} (h : ws[k]? = some w) : ixA s (.tup ws) (.int (k : Int)) = some w := by
  have e : ixT s (.tup ws) (.int (k : Int)) = some w := atI_nat h
  show (match (match ixL s (.tup ws) (.int (k : Int)) with | some w => some w | none => ixT s (.tup ws) (.int (k : Int))) with | some w => some w | none => ixD s (.tup ws) (.int (k : Int))) = _
  rw [show ixL s (.tup ws) (.int (k : Int)) = none from rfl, e]
theorem ix_lst {k : Nat} {w : Dv} (h : ws[k]? = some w) : ixA s (.lst ws) (.int (k : Int)) = some w := by
  have e : ixL s (.lst ws) (.int (k : Int)) = some w := atI_nat h
  show (match (match ixL s (.lst ws) (.int (k : Int)) with | some w => some w | none => ixT s (.lst ws) (.int (k : Int))) with | some w => some w | none => ixD s (.lst ws) (.int (k : Int))) = _
  rw [e]
theorem zip_ints : ∀ (ns ms : List Int), zipD (ns.map .int) (ms.map .int) = (ns.zip ms).map fun p => .tup [.int p.1, .int p.2]
  | [], _ => by simp [zipD]
  | _ :: _, [] => by simp [zipD]
  | a :: r, b :: t => by simp [zipD, zip_ints r t]
end
section
open Classical
variable {vs : List Nat} {g : FG} {tt : FT} {elt : FE} {ρ : Env} {s : Sto}
@[simp] theorem yes_ev : mYes ρ s = .ok true s := rfl
theorem compL_map {φ : Dv → Dv} : ∀ {xs : List Dv}, (∀ x ∈ xs, ∃ ρ1, g x (wipeD ρ vs) s = some ρ1 ∧ elt ρ1 s = .ok (φ x) s) → compL none vs g mYes elt ρ xs s = some (xs.map φ, s)
  | [], _ => by unfold compL; rw [if_pos (.inl rfl)]; rfl
  | x :: xs, h => by
    obtain ⟨ρ1, h1, h2⟩ := h x List.mem_cons_self
    unfold compL
    rw [if_pos (.inl rfl), h1]
    simp only [yes_ev, h2]
    rw [compL_map fun y hy => h y (List.mem_cons_of_mem _ hy)]
    rfl
theorem comp_map {f : FI} {xs : List Dv} (φ : Dv → Dv) (hf : f ρ s = .ok { ws := xs } s) (hl : xs.length ≤ lim) (h : ∀ x ∈ xs, ∃ ρ1, g x (wipeD ρ vs) s = some ρ1 ∧ elt ρ1 s = .ok (φ x) s) : mComp f vs g mYes elt ρ s = .ok (.lst (xs.map φ)) s := by
  unfold mComp
  rw [hf, bind_ok]
  dsimp only
  rw [compL_map h]
  dsimp only
  rw [if_pos (by rw [List.length_map]; exact hl)]
theorem comp_mapA {α : Type} {f : FI} {l : List α} {e : α → Dv} (φ : α → Dv) (hf : f ρ s = .ok { ws := l.map e } s) (hl : l.length ≤ lim) (h : ∀ a ∈ l, ∃ ρ1, g (e a) (wipeD ρ vs) s = some ρ1 ∧ elt ρ1 s = .ok (φ a) s) : mComp f vs g mYes elt ρ s = .ok (.lst (l.map φ)) s := by
  have key : ∀ {l : List α}, (∀ a ∈ l, ∃ ρ1, g (e a) (wipeD ρ vs) s = some ρ1 ∧ elt ρ1 s = .ok (φ a) s) → compL none vs g mYes elt ρ (l.map e) s = some (l.map φ, s) := fun {l} => by
    induction l with
    | nil => intro _; rw [List.map_nil]; simp [compL]
    | cons a l ih =>
      intro h
      obtain ⟨ρ1, h1, h2⟩ := h a List.mem_cons_self
      rw [List.map_cons]
      unfold compL
      rw [if_pos (.inl rfl), h1]
      simp only [yes_ev, h2]
      rw [ih fun b hb => h b (List.mem_cons_of_mem _ hb)]
      rfl
  unfold mComp
  rw [hf, bind_ok]
  dsimp only
  rw [key h]
  dsimp only
  rw [if_pos (by rw [List.length_map]; exact hl)]
/-- a comprehension, turn by turn: J i acc stands when i turns are done -/
theorem compL_ix {xs : List Dv} (J : Nat → List Dv → Sto → Prop) (h : ∀ i x acc s, xs[i]? = some x → J i acc s → ∃ ρ1 y s2, g x (wipeD ρ vs) s = some ρ1 ∧ elt ρ1 s = .ok y s2 ∧ J (i + 1) (acc ++ [y]) s2) :
    ∀ {k : Nat} {ys acc : List Dv} {s : Sto}, ys = xs.drop k → k ≤ xs.length → J k acc s → ∃ zs s', compL none vs g mYes elt ρ ys s = some (zs, s') ∧ zs.length = ys.length ∧ J xs.length (acc ++ zs) s'
  | k, [], acc, s, e, hk, j => by
    have : k = xs.length := by
      have := congrArg List.length e
      rw [List.length_drop, List.length_nil] at this
      omega
    subst this
    exact ⟨[], s, by unfold compL; rw [if_pos (.inl rfl)], rfl, by rw [List.append_nil]; exact j⟩
  | k, x :: ys, acc, s, e, hk, j => by
    have hx : xs[k]? = some x := by
      have := congrArg (·[0]?) e
      simpa using this.symm
    have hy : ys = xs.drop (k + 1) := by
      have := congrArg List.tail e
      simpa using this
    have hlt : k < xs.length := (List.getElem?_eq_some_iff.mp hx).1
    obtain ⟨ρ1, y, s2, h1, h2, h3⟩ := h k x acc s hx j
    obtain ⟨zs, s', h4, h5, h6⟩ := compL_ix J h hy hlt h3
    refine ⟨y :: zs, s', ?_, by rw [List.length_cons, h5, List.length_cons], ?_⟩
    · unfold compL
      rw [if_pos (.inl rfl), h1]
      simp only [yes_ev, h2, h4]
      rfl
    · rw [List.append_assoc] at h6
      exact h6
theorem comp_ix {f : FI} {xs : List Dv} {s1 : Sto} (J : Nat → List Dv → Sto → Prop) (hf : f ρ s = .ok { ws := xs } s1) (hl : xs.length ≤ lim) (j : J 0 [] s1)
    (h : ∀ i x acc s, xs[i]? = some x → J i acc s → ∃ ρ1 y s2, g x (wipeD ρ vs) s = some ρ1 ∧ elt ρ1 s = .ok y s2 ∧ J (i + 1) (acc ++ [y]) s2) : ∃ zs s', mComp f vs g mYes elt ρ s = .ok (.lst zs) s' ∧ zs.length = xs.length ∧ J xs.length zs s' := by
  obtain ⟨zs, s', h1, h2, h3⟩ := compL_ix J h (k := 0) (ys := xs) (acc := []) rfl (Nat.zero_le _) j
  refine ⟨zs, s', ?_, h2, h3⟩
  unfold mComp
  rw [hf, bind_ok]
  dsimp only
  rw [h1]
  dsimp only
  rw [if_pos (by rw [h2]; exact hl)]
/-- a loop, turn by turn: J i stands when i turns are done -/
theorem forL_ix {body : FS} {xs : List Dv} (J : Nat → Env → Sto → Prop) (h : ∀ i x ρ s, xs[i]? = some x → J i ρ s → ∃ ρ1 ρ2 s2, g x ρ s = some ρ1 ∧ (body ρ1 s = .nx ρ2 s2 ∨ body ρ1 s = .ct ρ2 s2) ∧ J (i + 1) ρ2 s2) :
    ∀ {k : Nat} {ys : List Dv} {ρ : Env} {s : Sto}, ys = xs.drop k → k ≤ xs.length → J k ρ s → ∃ ρ' s', forL none g body ys ρ s = .nx ρ' s' ∧ J xs.length ρ' s'
  | k, [], ρ, s, e, hk, j => by
    have : k = xs.length := by
      have := congrArg List.length e
      rw [List.length_drop, List.length_nil] at this
      omega
    subst this
    exact ⟨ρ, s, by unfold forL; rw [if_pos (.inl rfl)], j⟩
  | k, x :: ys, ρ, s, e, hk, j => by
    have hx : xs[k]? = some x := by
      have := congrArg (·[0]?) e
      simpa using this.symm
    have hy : ys = xs.drop (k + 1) := by
      have := congrArg List.tail e
      simpa using this
    have hlt : k < xs.length := (List.getElem?_eq_some_iff.mp hx).1
    obtain ⟨ρ1, ρ2, s2, h1, h2, h3⟩ := h k x ρ s hx j
    obtain ⟨ρ', s', h4, h5⟩ := forL_ix J h hy hlt h3
    refine ⟨ρ', s', ?_, h5⟩
    unfold forL
    rw [if_pos (.inl rfl), h1]
    rcases h2 with h2 | h2 <;> (simp only [h2]; exact h4)
theorem for_ix {F : FI} {body : FS} {xs : List Dv} {s1 : Sto} (J : Nat → Env → Sto → Prop) (hF : F ρ s = .ok { ws := xs } s1) (j : J 0 ρ s1) (h : ∀ i x ρ s, xs[i]? = some x → J i ρ s → ∃ ρ1 ρ2 s2, g x ρ s = some ρ1 ∧ (body ρ1 s = .nx ρ2 s2 ∨ body ρ1 s = .ct ρ2 s2) ∧ J (i + 1) ρ2 s2) :
    ∃ ρ' s', mFor F g body ρ s = .nx ρ' s' ∧ J xs.length ρ' s' := by
  obtain ⟨ρ', s', h1, h2⟩ := forL_ix J h (k := 0) (ys := xs) rfl (Nat.zero_le _) j
  refine ⟨ρ', s', ?_, h2⟩
  unfold mFor
  rw [hF]
  exact h1
end
end
end MP
set_option Elab.async false
set_option linter.all false
set_option maxRecDepth 100000
set_option maxHeartbeats 400000
namespace MP
open PySem PySem.Spec PyProof.Rows L2
def dot (rs ls : List Int) : Int := ((rs.zip ls).map fun p => p.1 * p.2).sum
theorem dot_nil {ls : List Int} : dot [] ls = 0 := by simp [dot]
theorem dot_nil' : ∀ {rs : List Int}, dot rs [] = 0 := by intro rs; simp [dot]
theorem dot_cons {a b : Int} {rs ls : List Int} : dot (a :: rs) (b :: ls) = a * b + dot rs ls := by simp [dot]
def at1 (lev n : Int) : Int := if lev ≤ n then 1 else 0
def last (k : Nat) (ns : List Int) : List Int := ns.drop (ns.length - k)
def idx (rs ns : List Int) : Int := dot rs (srt (last rs.length ns))
end MP
namespace MP
end MP
set_option Elab.async false
set_option linter.all false
set_option maxRecDepth 100000
set_option maxHeartbeats 400000
namespace MP
open PySem PySem.Spec PyProof.Rows L2
/-- a thing of at most n parts, at most k deep -/
structure Pl (n k : Nat) (w : Dv) (d : PyData) : Prop where
  to : toD0 w = some d
  lay : d.canLay0 = true
  shw : d.showable = true
  nod : d.hasDict = false
  deep : d.depth ≤ k
  len : d.shown.length + 2 ≤ 2000 * n
structure Pls (n k : Nat) (ws : List Dv) (ds : List PyData) : Prop where
  to : toDs ws = some ds
  lay : PyData.canLayAll0 ds = true
  shw : PyData.showableAll ds = true
  nod : PyData.hasDictAll ds = false
  deep : PyData.depthAll ds ≤ k
  len : piled (PyData.shownAll ds) ≤ 2000 * n
def Sm (i : Int) : Prop := i.natAbs < 2 ^ 300
theorem Sm.of {i : Int} (h : -1000000000000 ≤ i) (h2 : i ≤ 1000000000000) : Sm i := by
  have h3 : i.natAbs ≤ 1000000000000 := by omega
  exact Nat.lt_of_le_of_lt h3 (Nat.lt_of_lt_of_le (by decide : 1000000000000 < 2 ^ 40) (Nat.pow_le_pow_right (by decide) (by decide)))
theorem Sm.log {i : Int} (h : Sm i) : i.natAbs.log2 < 1920 := by
  by_cases h0 : i.natAbs = 0
  · rw [h0]; decide
  · exact (Nat.log2_lt h0).mpr (Nat.lt_of_lt_of_le h (Nat.pow_le_pow_right (by decide) (by decide)))
variable {n m k j : Nat} {w : Dv} {d : PyData} {ws us : List Dv} {ds es : List PyData} {i : Int} {ns : List Int} {s : Sto}
theorem pl_int (h : Sm i) : Pl 1 0 (.int i) (.int i) where
  to := rfl
  lay := by simp only [PyData.canLay0]
  shw := by
    simp only [PyData.showable]
    exact decide_eq_true h.log
  nod := by simp only [PyData.hasDict]
  deep := by simp only [PyData.depth]; exact Nat.le_refl _
  len := by
    have := int_text_len_1921 h.log
    simp only [PyData.shown]
    exact Nat.le_trans (Nat.add_le_add_right this 2) (by decide)
theorem pls_nil : Pls 0 k [] [] where
  to := rfl
  lay := by simp only [PyData.canLayAll0]
  shw := by simp only [PyData.showableAll]
  nod := by simp only [PyData.hasDictAll]
  deep := by simp only [PyData.depthAll]; exact Nat.zero_le _
  len := by simp only [PyData.shownAll, piled_nil]; exact Nat.zero_le _
theorem pls_cons (h : Pl n k w d) (t : Pls m k ws ds) : Pls (n + m) k (w :: ws) (d :: ds) where
  to := by simp only [toDs, h.to, t.to]
  lay := by simp only [PyData.canLayAll0, h.lay, t.lay]; rfl
  shw := by simp only [PyData.showableAll, h.shw, t.shw]; rfl
  nod := by simp only [PyData.hasDictAll, h.nod, t.nod]; rfl
  deep := by simp only [PyData.depthAll]; exact Nat.max_le.mpr ⟨h.deep, t.deep⟩
  len := by
    have h1 := h.len
    have h2 := t.len
    simp only [PyData.shownAll, piled_cons]
    omega
theorem Pl.mono (h : Pl n k w d) (hn : n ≤ m) (hk : k ≤ j) : Pl m j w d := ⟨h.to, h.lay, h.shw, h.nod, Nat.le_trans h.deep hk, Nat.le_trans h.len (Nat.mul_le_mul_left _ hn)⟩
theorem Pls.mono (h : Pls n k ws ds) (hn : n ≤ m) (hk : k ≤ j) : Pls m j ws ds := ⟨h.to, h.lay, h.shw, h.nod, Nat.le_trans h.deep hk, Nat.le_trans h.len (Nat.mul_le_mul_left _ hn)⟩
theorem listText_len : ∀ ts : List Str, (listText ts).length ≤ piled ts + 2
  | [] => by decide
  | t :: r => by
    unfold listText
    rw [strLen_append]
    show (textFrom 1 (("[" : Str) ++ ("" : String) ++ t) r).length + 1 ≤ _
    rw [textFrom_length_pos _ _ _ (by decide), strLen_append, strLen_append, piled_cons]
    show 1 + 0 + t.length + piled r + 1 ≤ _
    omega
theorem tupleText_len (ts : List Str) : (tupleText ts).length ≤ piled ts + 3 := by
  unfold tupleText
  rw [strLen_append, strLen_append]
  have e1 : ((("(" : String) : Str)).length = 1 := rfl
  have e3 : (((if ts.length == 1 then ",)" else ")" : String) : Str)).length ≤ 2 := by split <;> decide
  rw [e1]
  by_cases h : ts = []
  · subst h
    show 1 + 0 + _ ≤ _
    omega
  · have := join_length_add ts h
    omega
theorem pl_lst (h : Pls n k ws ds) : Pl (n + 1) (k + 1) (.lst ws) (.list ds) where
  to := by simp only [toD0, h.to]; rfl
  lay := by simp only [PyData.canLay0, h.lay]
  shw := by simp only [PyData.showable, h.shw]
  nod := by simp only [PyData.hasDict, h.nod]
  deep := by simp only [PyData.depth]; exact Nat.succ_le_succ h.deep
  len := by
    have h1 := h.len
    have h2 := listText_len (PyData.shownAll ds)
    simp only [PyData.shown]
    omega
theorem pl_tup (h : Pls n k ws ds) : Pl (n + 1) (k + 1) (.tup ws) (.tuple ds) where
  to := by simp only [toD0, h.to]; rfl
  lay := by simp only [PyData.canLay0, h.lay]
  shw := by simp only [PyData.showable, h.shw]
  nod := by simp only [PyData.hasDict, h.nod]
  deep := by simp only [PyData.depth]; exact Nat.succ_le_succ h.deep
  len := by
    have h1 := h.len
    have h2 := tupleText_len (PyData.shownAll ds)
    simp only [PyData.shown]
    omega
theorem pls_ints : ∀ {ns : List Int}, (∀ i ∈ ns, Sm i) → Pls ns.length 0 (ns.map .int) (ns.map .int)
  | [], _ => pls_nil
  | a :: ns, h => by
    have := pls_cons (pl_int (h a List.mem_cons_self)) (pls_ints fun i hi => h i (List.mem_cons_of_mem _ hi))
    rw [Nat.add_comm] at this
    exact this
theorem pl_tI (h : ∀ i ∈ ns, Sm i) : Pl (ns.length + 1) 1 (tI ns) (.tuple (ns.map .int)) := pl_tup (pls_ints h)
theorem repr_pl (hd : disp w = true) (ht : toD s w = toD0 w) (h : Pl n k w d) (hn : n ≤ 8000) (hk : k ≤ 60) : reprD s [w] = some (.str d.shown) := by
  show (if disp w = true then match toD s w with
      | some d => if d.showable = true ∧ d.hasDict = false ∧ d.depth ≤ 60 ∧ d.shown.length ≤ lim then some (Dv.str d.shown) else none
      | none => none
    else none) = _
  rw [if_pos hd, ht, h.to]
  have h1 := h.len
  exact if_pos ⟨h.shw, h.nod, Nat.le_trans h.deep hk, by unfold lim; omega⟩
theorem repr_lst (h : Pl n k (.lst ws) d) (hn : n ≤ 8000) (hk : k ≤ 60) : reprD s [.lst ws] = some (.str d.shown) := repr_pl rfl rfl h hn hk
theorem eq_ss {a b : Str} : eqD s (.str a) (.str b) = some (.bl (decide (a = b))) := by
  have e : decide (V.str a = V.str b) = decide (a = b) := by
    by_cases h : a = b
    · rw [h, decide_eq_true rfl, decide_eq_true rfl]
    · rw [decide_eq_false h, decide_eq_false fun z => h (V.str.inj z)]
  show (some (decide (V.str a = V.str b))).map Dv.bl = _
  rw [e]
  rfl
theorem eq_refl_ss {a : Str} : eqD s (.str a) (.str a) = some (.bl true) := by rw [eq_ss, decide_eq_true rfl]
/-- ints of any size -/
theorem toDs_ints : ∀ ns : List Int, toDs (ns.map .int) = some (ns.map .int)
  | [] => rfl
  | a :: ns => by
    rw [List.map_cons]
    simp only [toDs, toD0, toDs_ints ns]
    rfl
theorem lay_ints : ∀ ns : List Int, PyData.canLayAll0 (ns.map .int) = true
  | [] => by simp only [List.map_nil, PyData.canLayAll0]
  | a :: ns => by simp only [List.map_cons, PyData.canLayAll0, PyData.canLay0, lay_ints ns]; rfl
theorem deep_ints : ∀ ns : List Int, PyData.depthAll (ns.map .int) = 0
  | [] => by simp only [List.map_nil, PyData.depthAll]
  | a :: ns => by simp only [List.map_cons, PyData.depthAll, PyData.depth, deep_ints ns]; rfl
theorem shaped_list_ints : SeqAt.shaped (.list (ns.map .int)) = true := by
  unfold SeqAt.shaped
  simp only [PyData.canLay0, lay_ints, PyData.depth, deep_ints]
  rfl
theorem eqv_ints : ∀ ns ms : List Int, PyData.eqvAll (ns.map .int) (ms.map .int) = decide (ns = ms)
  | [], [] => by simp [PyData.eqvAll]
  | [], _ :: _ => by simp [PyData.eqvAll]
  | _ :: _, [] => by simp [PyData.eqvAll]
  | a :: ns, b :: ms => by
    rw [List.map_cons, List.map_cons]
    simp only [PyData.eqvAll, PyData.eqv, eqv_ints ns ms]
    by_cases h : a = b <;> by_cases h2 : ns = ms <;> simp [h, h2]
theorem eqB_lI {ms : List Int} : eqB s (lI ns) (lI ms) = some (decide (ns = ms)) := by
  have e1 : toD s (lI ns) = some (.list (ns.map .int)) := by
    show (toDs (ns.map .int)).map PyData.list = _
    rw [toDs_ints]; rfl
  have e2 : toD s (lI ms) = some (.list (ms.map .int)) := by
    show (toDs (ms.map .int)).map PyData.list = _
    rw [toDs_ints]; rfl
  show (match toD s (lI ns), toD s (lI ms) with
    | some d, some e => if SeqAt.shaped d = true ∧ SeqAt.shaped e = true then some (PyData.eqv d e) else none
    | _, _ => none) = _
  rw [e1, e2]
  dsimp only
  rw [if_pos ⟨shaped_list_ints, shaped_list_ints⟩]
  simp only [PyData.eqv, eqv_ints]
theorem ne_lI {ms : List Int} : neD s (lI ns) (lI ms) = some (.bl (!decide (ns = ms))) := by
  unfold neD
  rw [eqB_lI]
  rfl
/-- the branch that is not taken -/
theorem ifS_f {t : FT} {c c' : FS} {ρ : Env} {s1 : Sto} (h : t ρ s = .ok false s1) : mIfS t c c' ρ s = c' ρ s1 := by
  rw [ifS_ev, h, then_ok, if_neg (by decide)]
theorem ifS_t {t : FT} {c c' : FS} {ρ : Env} {s1 : Sto} (h : t ρ s = .ok true s1) : mIfS t c c' ρ s = c ρ s1 := by
  rw [ifS_ev, h, then_ok, if_pos rfl]
theorem mul_lst1 {x : Dv} {k : Nat} (h : k ≤ 1000000) : mulD s (.lst [x]) (.int (k : Int)) = some (.lst (List.replicate k x)) := by
  unfold mulD
  dsimp only [lstOf]
  rw [if_pos ⟨by omega, by omega, by unfold lim; simp; omega⟩, Int.toNat_natCast, List.flatten_replicate_singleton]
theorem lst_v {fa : FA} {ρ : Env} {s1 : Sto} {ws : List Dv} (h : fa ρ s = .ok ws s1) (hl : ws.length ≤ 1000000) : mLst fa ρ s = .ok (.lst ws) s1 := by
  rw [lst_ev, h, bind_ok, if_pos (by unfold lim; omega)]
theorem tup_v {fa : FA} {ρ : Env} {s1 : Sto} {ws : List Dv} (h : fa ρ s = .ok ws s1) (hl : ws.length ≤ 1000000) : mTup fa ρ s = .ok (.tup ws) s1 := by
  rw [tup_ev, h, bind_ok, if_pos (by unfold lim; omega)]
theorem cons_v {f : FE} {fa : FA} {ρ : Env} {s1 s2 : Sto} {w : Dv} {ws : List Dv} (h : f ρ s = .ok w s1) (h2 : fa ρ s1 = .ok ws s2) : mCons f fa ρ s = .ok (w :: ws) s2 := by
  rw [cons_ev, h, bind_ok, h2, bind_ok]
theorem call_v {d : Fn} {fa : FA} {ρ : Env} {s1 : Sto} {ws : List Dv} {r : R Dv} (h : fa ρ s = .ok ws s1) (h2 : d ws s1 = r) : mCall d fa ρ s = r := by
  rw [call_ev, h, bind_ok, h2]
theorem bin_v {o : O2} {f g : FE} {ρ : Env} {s1 s2 : Sto} {x y z : Dv} (h : f ρ s = .ok x s1) (h2 : g ρ s1 = .ok y s2) (h3 : o s2 x y = some z) : mBin o f g ρ s = .ok z s2 := by
  rw [bin_ev, h, bind_ok, h2, bind_ok, h3, of_some]
theorem blt_v {o : ON} {fa : FA} {ρ : Env} {s1 : Sto} {ws : List Dv} {z : Dv} (h : fa ρ s = .ok ws s1) (h3 : o s1 ws = some z) : mBlt o fa ρ s = .ok z s1 := by
  rw [blt_ev, h, bind_ok, h3, of_some]
theorem asg_v {f : FE} {i : Nat} {ρ : Env} {s1 : Sto} {w : Dv} (h : f ρ s = .ok w s1) : mAsg f (gN i) ρ s = .nx (ρ.set i (some w)) s1 := by
  rw [asgN_ev, h, then_ok]
theorem ret_v {f : FE} {ρ : Env} {s1 : Sto} {w : Dv} (h : f ρ s = .ok w s1) : mRet f ρ s = .rt w s1 := by
  rw [ret_ev, h, then_ok]
theorem seq_nx {c c' : FS} {ρ ρ1 : Env} {s1 : Sto} {r : C} (h : c ρ s = .nx ρ1 s1) (h2 : c' ρ1 s1 = r) : mSeq c c' ρ s = r := by
  rw [seq_ev, h, seqK_nx, h2]
theorem seq_rt {c c' : FS} {ρ : Env} {s1 : Sto} {w : Dv} (h : c ρ s = .rt w s1) : mSeq c c' ρ s = .rt w s1 := by
  rw [seq_ev, h, seqK_rt]
theorem test_v {f : FE} {ρ : Env} {s1 : Sto} {b : Bool} (h : f ρ s = .ok (.bl b) s1) : mTest f ρ s = .ok b s1 := by
  rw [test_ev, h, bind_ok, testK_bl]
section
open Classical
variable {vs : List Nat} {g : FG} {tt : FT} {elt : FE} {ρ : Env}
/-- a comprehension with a test that changes nothing -/
theorem comp_filt {α : Type} {f : FI} {l : List α} {e : α → Dv} (φ : α → Dv) (t : α → Bool) (hf : f ρ s = .ok { ws := l.map e } s) (hl : l.length ≤ lim) (h : ∀ a ∈ l, ∃ ρ1, g (e a) (wipeD ρ vs) s = some ρ1 ∧ tt ρ1 s = .ok (t a) s ∧ (t a = true → elt ρ1 s = .ok (φ a) s)) : mComp f vs g tt elt ρ s = .ok (.lst ((l.filter t).map φ)) s := by
  have key : ∀ {l : List α}, (∀ a ∈ l, ∃ ρ1, g (e a) (wipeD ρ vs) s = some ρ1 ∧ tt ρ1 s = .ok (t a) s ∧ (t a = true → elt ρ1 s = .ok (φ a) s)) → compL none vs g tt elt ρ (l.map e) s = some ((l.filter t).map φ, s) := fun {l} => by
    induction l with
    | nil => intro _; rw [List.map_nil]; simp [compL]
    | cons a l ih =>
      intro h
      obtain ⟨ρ1, h1, h2, h3⟩ := h a List.mem_cons_self
      rw [List.map_cons]
      unfold compL
      rw [if_pos (.inl rfl), h1]
      simp only [h2]
      cases q : t a with
      | true =>
        rw [List.filter_cons_of_pos q]
        simp only [h3 q]
        rw [ih fun b hb => h b (List.mem_cons_of_mem _ hb)]
        rfl
      | false =>
        rw [List.filter_cons_of_neg (by rw [q]; decide)]
        exact ih fun b hb => h b (List.mem_cons_of_mem _ hb)
  unfold mComp
  rw [hf, bind_ok]
  dsimp only
  rw [key h]
  dsimp only
  rw [if_pos (by rw [List.length_map]; exact Nat.le_trans (List.length_filter_le _ _) hl)]
end
end MP
set_option Elab.async false
set_option linter.all false
set_option maxRecDepth 100000
set_option maxHeartbeats 4000000
namespace MP
open PySem PySem.Spec PyProof.Rows L2
def maxO (d : Int) : List Int → Int
  | [] => d
  | n :: ns => ns.foldl max n
theorem foldl_max_le : ∀ (ns : List Int) (n : Int), n ≤ ns.foldl max n ∧ ∀ m ∈ ns, m ≤ ns.foldl max n
  | [], n => ⟨Int.le_refl _, fun _ h => nomatch h⟩
  | a :: ns, n => by
    obtain ⟨h1, h2⟩ := foldl_max_le ns (max n a)
    refine ⟨Int.le_trans (by omega : n ≤ max n a) h1, fun m hm => ?_⟩
    rcases List.mem_cons.mp hm with rfl | hm
    · exact Int.le_trans (by omega : m ≤ max n m) h1
    · exact h2 m hm
theorem foldl_max_mem : ∀ (ns : List Int) (n : Int), ns.foldl max n ∈ n :: ns
  | [], n => List.mem_cons_self
  | a :: ns, n => by
    have := foldl_max_mem ns (max n a)
    show ns.foldl max (max n a) ∈ _
    rcases List.mem_cons.mp this with h | h
    · rw [h]
      by_cases q : n ≤ a
      · rw [show max n a = a by omega]; exact List.mem_cons_of_mem _ List.mem_cons_self
      · rw [show max n a = n by omega]; exact List.mem_cons_self
    · exact List.mem_cons_of_mem _ (List.mem_cons_of_mem _ h)
section
variable {X : Cx} {Γ : Ct} {W : WX}
def rMaxDef (K : PySem.W.Frag) : List V → List V → Hp → VK → Prop := fun vs zs H Q => ∃ (a : Addr) (ns : List Int) (d : Int), vs = [V.ref a] ∧ zs = [V.int d] ∧ SqL K H a (ns.map V.int) ∧ Q (.int (maxO d ns)) H
theorem cr_maxDef (hc : X.calm = true) (hu : X.A.units + 64 < cLine) : CallRK X (.builtin "max") [Str.ofString "default"] (rMaxDef X.K) := by
  intro pins s σ H vs zs us ws Q I r rz h
  obtain ⟨a, ns, d, rfl, rfl, hs, q⟩ := h
  obtain ⟨its, rv, hl, _⟩ := I.list hs
  rw [Vals.ref1 r]
  obtain ⟨w1, rfl, e1⟩ := vals1 rz
  have hd : PyData.depthAll (ns.map .int) = 0 := deep_ints ns
  refine PySem.W.max_list_default (xs := ns.map .int) (I.ok.hd hc) hl.isList (IntsAre.reads _ rv.ints) ?_ (by rw [hd]; omega) (fun h0 h' tk hk => ?_) fun y ys i v h' tk bs hx hv hr hk => ?_
  · constructor
    · intro x hx y hy
      obtain ⟨i, _, rfl⟩ := List.mem_map.mp hx
      obtain ⟨j, _, rfl⟩ := List.mem_map.mp hy
      simp [PySem.W.alike]
    · intro x hx
      obtain ⟨i, _, rfl⟩ := List.mem_map.mp hx
      intro z; cases z
  · have : ns = [] := by simpa using h0
    subst this
    exact ⟨.int d, H, I.kept hk, e1, q⟩
  · cases ns with
    | nil => cases hx
    | cons n ns =>
      cases hx
      rw [PySem.W.maxD_ints] at hr
      cases hr
      exact ⟨.int _, H, I.kept hk, ⟨_, rfl⟩, q⟩
/-- max(x, default=d) -/
def maxDefD : O2 := fun s x y => match y with
  | .int d => match lstOf s x with
    | some ws => (intsOf ws).map fun ns => .int (maxO d ns)
    | none => none
  | _ => none
theorem me_maxDef {e e2 : Expr} {f g : FE} {p pos kp : Pos} (hK : Γ.K = X.K) (hc : X.calm = true) (hu : X.A.units + 64 < cLine) (hg : Gl X "max") (hm : X.mg "max" = none) (ha : ME X Γ W e f) (hb : ME X Γ W e2 g)
    (he : backTo pos (starEach [e] X.env) = (false, eval e X.env) :: backTo pos (starEach [] X.env) := by rfl) (he' : starEach [e] X.env = (false, eval e X.env) :: starEach [] X.env := by rfl) (hpl : (backTo pos (starEach [e] X.env)).any (·.1) = false := by rfl)
    (hall : (backToKw pos (keywordEach [⟨some "default", e2, kp⟩] X.env)).all (·.1.isSome) = true := by rfl) (hnone : (backToKw pos (keywordEach [⟨some "default", e2, kp⟩] X.env)).any (·.1.isNone) = false := by rfl) (hks : (backToKw pos (keywordEach [⟨some "default", e2, kp⟩] X.env)).filterMap (·.1) = [Str.ofString "default"] := by rfl) :
    ME X Γ W (.Call (.Name "max" p) [e] [⟨some "default", e2, kp⟩] pos) (mBin maxDefD f g) :=
  PE.imp (pe_callBK (cr_maxDef hc hu) hg hm (by decide +kernel) (pa_cons ha pa_nil he') (pk_cons hb pk_nil) (by decide) (by decide) he hpl hall hnone hks) fun σ H Q ⟨μ, Z, ρ, s, hE, hR, q⟩ =>
    eE hE hR q fun x s1 u H1 μ1 e1 hE1 R1 r1 q1 => eE hE1 R1 q1 fun y s2 v H2 μ2 e2 hE2 R2 r2 q2 => by
      obtain ⟨w, hw, k⟩ := ofE q2
      unfold maxDefD at hw
      split at hw
      · rename_i d
        split at hw
        · rename_i ws ql
          cases qi : intsOf ws with
          | none => rw [qi] at hw; cases hw
          | some ns =>
            rw [qi] at hw
            cases hw
            obtain ⟨a, ys, rfl, h2, h3⟩ := lstOf_ok R2 (r1.mono e2) ql
            rw [intsOf_ok qi] at h3
            have h4 := h3.ints
            subst h4
            refine ⟨a, ns, d, rfl, ?_, SqL.of h2, k _ H2 .refl R2 rfl⟩
            rw [show v = .int d from r2]
        · cases hw
      · cases hw
/-- a try whose body raises nothing -/
def mTryN (c : FS) : FS := fun ρ s => match c ρ s with
  | .er _ _ _ => .no
  | r => r
theorem ms_tryN {body : List Stmt} {h₀ : ExceptHandler} {hs : List ExceptHandler} {pos : Pos} {c : FS} (hb : MB X.nox Γ W0 body c) : MS X Γ W (.Try body (h₀ :: hs) [] [] pos) (mTryN c) :=
  PS.imp (ps_try_thru0 hb) fun D σ H ⟨μ, Z, ρ, s, hE, hR, q⟩ => by
    refine ⟨μ, Z, ρ, s, hE, hR, ?_⟩
    unfold mTryN at q
    cases e : c ρ s with
    | er x ρ' s' => rw [e] at q; exact q.elim
    | nx _ _ => rw [e] at q; exact q
    | rt _ _ => rw [e] at q; exact q
    | bk _ _ => rw [e] at q; exact q
    | ct _ _ => rw [e] at q; exact q
    | no => rw [e] at q; exact q
end
end MP
set_option Elab.async false
set_option linter.all false
set_option maxRecDepth 100000
set_option maxHeartbeats 4000000
namespace MPZ
open PySem PySem.W
section
variable {prog : Program} {w : World} {A : Around} {E : Value → Shared → Prop} {s : Shared} {z TI TO T i1 i2 l1 l2 : Addr} {f : Bool} {oT : Obj} {k1 k2 : Nat} {xs ys : Array Value}
/-- a zip that goes on while its last tuple is still held -/
structure On (h : Heap) (z TI i1 i2 l1 l2 : Addr) (k1 k2 : Nat) (xs ys : Array Value) : Prop where
  tI : PySem.IsPair h TI (.ref i1) (.ref i2)
  a : h.IsTupleIter i1 l1 k1
  b : h.IsTupleIter i2 l2 k2
  la : h.IsTuple l1 xs
  lb : h.IsTuple l2 ys
/-- where a zip of two tuples stands -/
structure Zst (h : Heap) (z TI TO i1 i2 l1 l2 S : Addr) (k : Nat) (xs ys : Array Value) : Prop where
  on : On h z TI i1 i2 l1 l2 k k xs ys
  st : (PySem.IsZip h z TI TO .none ∧ PySem.IsPair h TO .none .none) ∨ ∃ T f oT, IsZipHeld h z TI TO T f ∧ h.get? T = some oT ∧ T ≠ z ∧ T ≠ i1 ∧ T ≠ i2 ∧ T ≠ S
variable {S : Addr} {k : Nat}
/-- the pairs, as new tuples above lo -/
structure Prs (xs ys : Array Value) (lo : Addr) (h : Heap) (as : List Addr) : Prop where
  rise : as.Pairwise (· < ·)
  over : ∀ a ∈ as, lo < a
  pair : ∀ (j : Nat) (a : Addr), as[j]? = some a → ∃ x y, xs[j]? = some x ∧ ys[j]? = some y ∧ PySem.IsPair h a x y
theorem Prs.low {lo lo' : Addr} {h : Heap} {as : List Addr} (p : Prs xs ys lo h as) (hl : lo' ≤ lo) : Prs xs ys lo' h as := ⟨p.rise, fun a ha => Nat.lt_of_le_of_lt hl (p.over a ha), p.pair⟩
theorem Prs.keep {lo : Addr} {h g : Heap} {as : List Addr} (p : Prs xs ys lo h as) (hk : ∀ b u, lo < b → h.get? b = some u → g.get? b = some u) : Prs xs ys lo g as :=
  ⟨p.rise, p.over, fun j a q => let ⟨x, y, e1, e2, e3⟩ := p.pair j a q; ⟨x, y, e1, e2, hk a _ (p.over a (List.mem_of_getElem? q)) e3⟩⟩
end
section
variable {prog : Program} {w : World} {A : Around} {s : Shared} {R : Result → Shared → Prop} {z TI TO i1 i2 l1 l2 S : Addr} {xs ys : Array Value}
theorem Zst.ty {h : Heap} {k : Nat} (zs : Zst h z TI TO i1 i2 l1 l2 S k xs ys) {s : Shared} (e : s.heap = h) : s.TypeIs (.ref z) "zip" := by
  subst e
  rcases zs.st with ⟨hz, _⟩ | ⟨_, _, _, hz, _⟩
  · exact ⟨_, hz, rfl⟩
  · exact ⟨_, hz, rfl⟩
end
end MPZ
set_option Elab.async false
set_option linter.all false
set_option maxRecDepth 100000
set_option maxHeartbeats 4000000
namespace MP
open PySem PySem.Spec PyProof.Rows L2
theorem Un.more {fs ex : List Addr} {H H1 : Hp} {h h' : Heap} {a : Addr} {o : HO} (u : Un fs ex H H1 h h') (hp : h.objs.size ≤ a) (hn : H1 a = none) : Un fs ex H (upd H1 a o) h h' where
  keep := u.keep
  slot := u.slot
  free := fun b ob q n hx => by rw [upd_ne (Nat.ne_of_lt (Nat.lt_of_lt_of_le (Heap.lt_size q) hp))]; exact u.free b ob q n hx
  there := u.there
  tups := fun b xs q => by rw [upd_ne (ne_of_none (u.tups b xs q) hn)]; exact u.tups b xs q
  frzs := fun b ob xs q => by rw [upd_ne (ne_of_none (u.frzs b ob xs q) hn)]; exact u.frzs b ob xs q
  tbls := fun b ps q => by
    obtain ⟨m, e⟩ := u.tbls b ps q
    exact ⟨m, by rw [upd_ne (ne_of_none e hn)]; exact e⟩
theorem HOk.more {P : Program} {w : World} {H : Hp} {h : Heap} {a : Addr} {o : HO} (x : HOk P w H h) (hn : H a = none) (new : ObjOk P w (upd H a o) h a o) : HOk P w (upd H a o) h := fun b u e => by
  by_cases hb : b = a
  · subst hb
    rw [upd_same] at e
    cases e
    exact new
  · rw [upd_ne hb] at e
    exact (x b u e).stay (fun _ _ _ q => q) (fun c q => (upd_ne (ne_of_none q hn)).trans q) fun c ps q => (upd_ne (ne_of_none q hn)).trans q
end MP
set_option Elab.async false
set_option linter.all false
set_option maxRecDepth 100000
set_option maxHeartbeats 4000000
namespace MP
open PySem PySem.Spec PyProof.Rows L2
section
variable {X : Cx} {a C dx : Addr} {H : Hp}
theorem exK_at {P : Program} {w : World} {h : Heap} (ok : HOk P w H h) (e : H a = some (ExK a C dx)) : ∃ oe vs, h.get? a = some oe ∧ oe.cls = .ref C ∧ oe.dict = some dx ∧ oe.data = .fields vs := by
  obtain ⟨⟨oe, vs, h1, h2, h3⟩, _⟩ := ok a _ e
  exact ⟨oe, vs, h1, h2.1, h2.2, h3⟩
theorem exK_inst {P : Program} {w : World} {h : Heap} {fs : List (Str × V)} (ok : HOk P w H h) (e : H a = some (ExK a C dx)) (ed : H dx = some (.xd fs)) : ∃ (oe od : Obj) (mA : Str → Option Value), PySem.W.InstAt h a oe C (some od) ∧ (∀ y, PySem.W.lookIn y od = some (mA y)) ∧ ∀ f, RelO (fs.lookup f) (mA f) := by
  obtain ⟨oe, vs, h1, h2, h3, h4⟩ := exK_at ok e
  obtain ⟨mA, hns, hr⟩ := (show ObjOk P w H h dx (.xd fs) from ok dx _ ed)
  obtain ⟨od, ho, hl⟩ := lookIn_ns hns
  obtain ⟨oc, od', oda, osl⟩ := oe
  dsimp only at h2 h3 h4
  subst h2 h3 h4
  exact ⟨_, od, mA, ⟨h1, rfl, rfl, ho⟩, hl, hr⟩
/-- e.f of a held exception -/
def tXk (K : PySem.W.Frag) (f : Str) (te : TE) : TE := fun σ H Q => te σ H fun x H1 => ∃ (a C dx : Addr) (fs : List (Str × V)) (v : V), x = .ref a ∧ H1 a = some (ExK a C dx) ∧ H1 dx = some (.xd fs) ∧ fs.lookup f = some v ∧ XfC K C ∧ PySem.W.findIn K (.ref C) f = some none ∧ Q v H1
theorem pe_xk {e : Expr} {te : TE} {pos : Pos} {n : Str} (he : PE X e te) (hb : attributeBase e n X.env (eval e X.env) = eval e X.env := by rfl) : PE X (.Attribute e n pos) (tXk X.K n te) := by
  refine ⟨fun pins s σ H Q I h => ?_⟩
  refine attr_of hb (thn (he.run pins s σ H _ I h) fun u s1 ⟨x, H1, I1, rx, a, C, dx, fs, v, ex, ea, ed, l, T, hno, q⟩ => ?_)
  subst ex
  obtain rfl : u = Value.ref a := rx
  obtain ⟨oe, od, mA, J, hl, hr⟩ := exK_inst I1.hok ea ed
  obtain ⟨u, hu, ru⟩ := RelO.some_of (v := v) (o := mA n) (by rw [← l]; exact hr n)
  exact HandSPX.exc_get I1.kIn J T.ga T.gg T.exC (PySem.W.findObj_own T.hdC hno rfl (by rw [hl, hu])) (handed_of ru) ⟨v, H1, I1.tok _, ru, q⟩
end
def under (c j : Nat) : Bool := decide (c = j) || (decide (j = 0) && decide (c ≤ 7))
def underT (c : Nat) (n : String) : Option Bool := if n = "ValueError" then some (decide (c ≤ 7)) else if n = "LookupError" then some (decide (c = 8)) else none
def exCls : Dv → Option Nat
  | .exc c _ _ => if c < 9 then some c else none
  | .exn c => if c < 9 then some c else none
  | _ => none
def isxD : ON := fun _ xs => match xs with
  | [x, .cl j] => match exCls x with
    | some c => if j < 9 then some (.bl (under c j)) else none
    | none => none
  | [x, .ty n] => match exCls x with
    | some c => (underT c n).map .bl
    | none => none
  | _ => none
section
variable {X : Cx} {Γ : Ct}
/-- isinstance, of data and of exceptions -/
def isiA : ON := fun s xs => match isiD s xs with
  | some w => some w
  | none => isxD s xs
/-- a class by its name -/
theorem me_cls {W : WX} {x : Str} {pos : Pos} {j : Nat} (hg : Gl X x) (hm : X.mg x = some (.ref (Γ.cls j))) (hdb : (x == ("__debug__" : Str)) = false := by decide) : ME X Γ W (.Name x pos) (mK (.cl j)) := by
  refine ⟨fun pins s σ H Q I h => ?_⟩
  obtain ⟨μ, Z, ρ, st, hE, hR, q⟩ := h
  exact ld_glob I hg hm ⟨.ref (Γ.cls j), H, I.tok _, rfl, q _ H μ .refl hR rfl⟩ hdb
end
end MP
set_option Elab.async false
set_option linter.all false
set_option maxRecDepth 100000
set_option maxHeartbeats 4000000
namespace MP
open PySem PySem.Spec PyProof.Rows L2
/-- what __init__ does -/
def spI (C : Addr) (f : Str) : Sp := fun vs H Q _ => ∃ (a : Addr) (v : V), vs = [.ref a, v] ∧ H a = some (exo a C none) ∧ ∀ dx, H dx = none → dx ≠ a → Q .non (upd (upd H dx (exd dx [(f, v)])) a (exo a C (some dx)))
theorem init_fn {CX : CXT} {P : Program} {w : World} {K : PySem.W.Frag} {mg : Str → Option Value} {base : Heap} {fI : Addr} {name qual f : Str} {params : Arguments} {scope : Scope} {dV kV doc pm cdv ct oc : Value} {an od : Option Addr} {osl : Array (Option Value)} {p1 p2 p3 p4 : Pos}
    (lk : K.lookup fI = some ⟨oc, od, .func (PySem.W.fnOf name qual params [.Assign [.Attribute (.Name "self" p1) f p2] (.Name f p3) p4] scope dV kV doc pm an cdv ct), osl⟩) (hcd : PySem.W.codeIn K cdv qual = true) (S : FnScope ["self", f] ["self", f] scope)
    {C : Addr} (t1 : OexC K C) (t2 : PySem.W.findIn K (.ref C) f = some none)
    (v0 : Vis scope "self") (v1 : Vis scope f) (d1 : (f == ("__debug__" : Str)) = false) (d2 : (f == ("__classdict__" : Str)) = false) : FnOk P w K mg base CX 1 fI (PySem.W.fnOf name qual params [.Assign [.Attribute (.Name "self" p1) f p2] (.Name f p3) p4] scope dV kV doc pm an cdv ct) ["self", f] (spI C f) :=
  fn_of (k := 0) lk hcd S (fun vs H Q E ⟨_, _, e, _⟩ => by rw [e]; rfl) fun A outer s H vs Q E hr ⟨a, v, ev, ea, q⟩ => by
    subst ev
    refine ⟨_, pss_one (ps_ost (pe_var (i := 0) rfl v0 (by decide) (by decide)) (pe_var (i := 1) rfl v1 d1 d2)), ?_⟩
    exact ⟨v, rfl, .ref a, rfl, a, C, rfl, t1, t2, .inl ⟨ea, fun dx hn hd => q dx hn hd⟩⟩
/-- what is known of an own class that is raised -/
structure XcR (P : Program) (w : World) (K : PySem.W.Frag) (mg : Str → Option Value) (base : Heap) (C : Addr) (x f : Str) : Prop where
  ox : OexC K C
  no : PySem.W.findIn K (.ref C) f = some none
  gC : mg x = some (.ref C)
  init : ∃ (fI : Addr) (fd : FuncData), PySem.W.findIn K (.ref C) "__init__" = some (some (.ref fI)) ∧ PySem.W.typeIn K (.ref fI) = some (.type "function") ∧ FnOk P w K mg base (L2.CX P w) 1 fI fd ["self", f] (spI C f) ∧ L2.Binds K fd ["self", f] []
/-- raise C(e) -/
def mRaise (c : Nat) (f : Str) (g : FE) : FS := fun ρ s => (g ρ s).thenC ρ fun w s1 => .er ⟨c, f, w⟩ ρ s1
section
variable {X : Cx} {Γ : Ct} {W : WX}
theorem ms_raise {e : Expr} {g : FE} {x f : Str} {c : Nat} {p pos pos' : Pos} (hK : Γ.K = X.K) (T : XcR X.prog X.w X.K X.mg X.base (Γ.cls c) x f) (hr : Room 2 X.A) (hc : X.calm = true) (tk : Takes X W) (hg : Gl X x) (ha : ME X Γ W e g)
    (hdb : (x == ("__debug__" : Str)) = false := by decide) (he : starEach [e] X.env = (false, eval e X.env) :: starEach [] X.env := by rfl) (hpl : (backTo pos (starEach [] X.env)).any (·.1) = false := by rfl) (h99 : c < 99 := by decide) :
    MS X Γ W (.Raise (some (.Call (.Name x p) [e] [] pos)) none pos') (mRaise c f g) := by
  obtain ⟨fI, fd, iC, tI, F1, hb⟩ := T.init
  have hx : Passes (L2.CX X.prog X.w) X (fun _ _ _ => False) := passes_call (W := W0) tk0 fun _ _ _ _ h => h
  refine PS.imp (ps_raise hc tk (pmk_oex T.ox iC tI F1 hr hb .nil hx hg T.gC (pa_cons ha pa_nil he) hdb he hpl)) fun D σ H ⟨μ, Z, ρ, s, hE, hR, q⟩ => ?_
  refine eS hE hR q fun y s1 v H1 μ1 ev E1 R1 r1 q1 => ⟨by show 1 ≤ 1000; decide, fun a na => ⟨a, v, rfl, upd_same, fun dx hdx hda => ⟨rfl, dx, [(f, v)], upd_same, ?_, ?_, ?_⟩⟩⟩
  · rw [upd_ne hda, upd_same]
  · rwa [upd_ne hda] at hdx
  · have nd : H1 dx = none := by rwa [upd_ne hda] at hdx
    have eH : upd (del (upd (upd (upd H1 a (exo a (Γ.cls c) none)) dx (exd dx [(f, v)])) a (exo a (Γ.cls c) (some dx))) a) dx (.xd [(f, v)]) = upd H1 dx (.xd [(f, v)]) := by
      funext b
      by_cases h1 : b = dx
      · subst h1
        rw [upd_same, upd_same]
      · rw [upd_ne h1, upd_ne h1]
        by_cases h2 : b = a
        · subst h2
          rw [del_same]
          exact na.symm
        · rw [del_ne h2, upd_ne h2, upd_ne h1, upd_ne h2]
    rw [eH]
    have e2 : Evo H1 μ1 (upd H1 dx (.xd [(f, v)])) μ1 := Evo.laid nd
    exact q1 _ _ σ _ μ1 e2 (R1.laid nd) (E1.mono e2) (.inr ⟨by show c ≠ 99; omega, rfl, dx, v, rfl, upd_same, R1.fz nd, r1.mono e2⟩)
end
end MP
set_option Elab.async false
set_option linter.all false
set_option maxRecDepth 100000
set_option maxHeartbeats 4000000
namespace MP
open PySem PySem.Spec PyProof.Rows L2
theorem exK_ok {P : Program} {w : World} {H : Hp} {h : Heap} {a C dd : Addr} {oe : Obj} {vs : Array Value} (e : h.get? a = some oe) (z : Zc (.ref C) (some dd) oe) (d : oe.data = .fields vs) : ObjOk P w H h a (ExK a C dd) :=
  ⟨⟨oe, vs, e, z, d⟩, ⟨oe, e⟩, fun h1 h2 ⟨o, v, q1, q2, q3⟩ k => ⟨o, v, k _ q1, q2, q3⟩⟩
section
variable {X : Cx} {pins : List (Addr × Obj)} {σ : L2.St} {H : Hp} {sI s s' : Shared} {B : Heap}
/-- on the ground again, the exception's object being known from now on -/
theorem landedK {a : Addr} {u : HO} (I : Inv X pins σ H sI) (nb : ∀ b o, sI.heap.get? b = some o → b ∉ frs X.stack → B.get? b = some o) (st : B.StaysIn s'.heap) (up : sI.heap.UpToSlots s'.heap) (os : s'.os = sI.os) (ag : AllBare s'.gens)
    (na : H a = none) (ng : sI.heap.get? a = none) (new : ObjOk X.prog X.w (upd H a u) s'.heap a u) : Inv X pins σ (upd H a u) s' := by
  have nf : ∀ b ∈ frs X.stack, ∀ o, sI.heap.get? b = some o → ∃ sl, s'.heap.get? b = some { o with slots := sl } := fun b hb o e => by
    obtain ⟨_, o', e', hd⟩ := I.stack.mem hb
    rw [e] at e'; cases e'; exact up b o e hd
  have ne : ∀ b o, sI.heap.get? b = some o → b ≠ a := fun b o e z => by rw [z, ng] at e; cases e
  have J := I.call (ch := []) (h' := s'.heap) (g' := s'.gens) (t' := s'.toks) (d' := s'.drawn) (H' := upd H a u)
    ⟨fun b o e _ hb _ => st b o (nb b o e hb), fun b o e _ hb _ => nf b hb o e, fun b o e n _ => by rw [upd_ne (ne b o e)]; exact n, fun b o e _ => by
      by_cases hb : b ∈ frs X.stack
      · exact let ⟨sl, q⟩ := nf b hb o e; ⟨_, q⟩
      · exact ⟨o, st b o (nb b o e hb)⟩, fun b xs e => by rw [upd_ne (ne_of_none e na)]; exact e, fun b o xs e => by rw [upd_ne (ne_of_none e na)]; exact e, fun b ps e => ⟨#[], by rw [upd_ne (ne_of_none e na), e]; simp⟩⟩
    (HOk.more ((I.inGround nb).kept st) na new) ag (fun _ z => nomatch z)
  obtain ⟨a1, a2, a3, a4, a5⟩ := s'
  have e5 : a5 = sI.os := os
  subst e5; exact J
theorem toSuite (I : Inv X pins σ H s) (a : Addr) : Inv (X.suite a (X.pn ++ pins)) [] σ H s :=
  ⟨I.ok.suite _ _, I.os, I.bare, I.base, I.loc, I.cell, I.free, I.freeC, fun p hp => I.pin p (List.append_nil (X.pn ++ pins) ▸ hp), I.hok, I.len⟩
theorem ofSuite {a : Addr} {pn' : List (Addr × Obj)} (I : Inv (X.suite a (X.pn ++ pins)) pn' σ H s) (ok : X.Ok) : Inv X pins σ H s :=
  ⟨ok, I.os, I.bare, I.base, I.loc, I.cell, I.free, I.freeC, fun p hp => I.pin p (List.mem_append.mpr (.inl hp)), I.hok, I.len⟩
end
end MP
set_option Elab.async false
set_option linter.all false
set_option maxRecDepth 100000
set_option maxHeartbeats 4000000
namespace MP
open PySem PySem.Spec PyProof.Rows L2
/-- the name of the exception goes behind the suite; the suite raises nothing -/
def delC (i : Nat) : C → C
  | .nx ρ s => .nx (ρ.set i none) s
  | .bk ρ s => .bk (ρ.set i none) s
  | .ct ρ s => .ct (ρ.set i none) s
  | .rt w s => .rt w s
  | .er _ _ _ => .no
  | .no => .no
end MP
set_option Elab.async false
set_option linter.all false
set_option maxRecDepth 100000
set_option maxHeartbeats 4000000
namespace MP
open PySem PySem.Spec PyProof.Rows L2
/-- the names of a lambda: captured ones, globals, and of its own none but what its maker has not -/
structure LamN (N : List Str) (sc scope : Scope) : Prop where
  kind : scope.kind = .function
  co : scope.isCoroutine = false
  gen : scope.isGenerator = false
  cell : ∀ y ∈ scope.names, y.2 ≠ .cell
  own : ∀ y ∈ scope.names, y.2 = .local → y.1 ∉ N
  free : ∀ y ∈ scope.names, y.2 = .free → sc.names.lookup y.1 = some .cell ∨ sc.names.lookup y.1 = some .free
def lamNB (N : List Str) (sc scope : Scope) : Bool :=
  decide (scope.kind = .function) && (!scope.isCoroutine && (!scope.isGenerator && scope.names.all fun y => match y.2 with
    | .cell => false
    | .local => !N.contains y.1
    | .free => decide (sc.names.lookup y.1 = some .cell) || decide (sc.names.lookup y.1 = some .free)
    | _ => true))
theorem lamN_by {N : List Str} {sc scope : Scope} (h : lamNB N sc scope = true) : LamN N sc scope := by
  unfold lamNB at h
  rw [Bool.and_eq_true, Bool.and_eq_true, Bool.and_eq_true, Bool.not_eq_true', Bool.not_eq_true', List.all_eq_true] at h
  obtain ⟨h1, h2, h3, h4⟩ := h
  refine ⟨of_decide_eq_true h1, h2, h3, fun y hy e => ?_, fun y hy e hm => ?_, fun y hy e => ?_⟩
  · have := h4 y hy; rw [e] at this; cases this
  · have := h4 y hy
    rw [e] at this
    have : N.contains y.1 = false := by simpa using this
    rw [List.contains_iff_mem.mpr hm] at this
    cases this
  · have := h4 y hy
    rw [e] at this
    dsimp only at this
    rw [Bool.or_eq_true, decide_eq_true_eq, decide_eq_true_eq] at this
    exact this
theorem LamN.has {N : List Str} {X : Cx} {scope : Scope} (L : LamN N X.env.scope scope) (ok : X.Ok) : ∀ y ∈ scope.names, y.2 = .free → ∃ c, X.env.cells.lookup y.1 = some c := fun y hy e => ok.has _ (L.free y hy e)
section
variable {X : Cx} {pins : List (Addr × Obj)} {σ : L2.St} {H HZ : Hp} {s s1 : Shared}
/-- a lambda's body begins -/
theorem lamN_start {A : Around} {outer : List PySem.Env} {E : XK} {scope : Scope} {f c' : Addr} {h₁ : Heap} {tk : Nat} {binds : List (Str × Value)} (I : Inv X pins σ H s) (L : LamN X.N X.env.scope scope) (e0 : Env0 X.prog X.w X.K X.mg X.base A outer s1 HZ) (hd : A.handled = none)
    (un : Un (frs X.stack) [] H HZ s.heap s1.heap) (hns : h₁.Ns s1.heap.objs.size fun y => binds.reverse.lookup y) (kp : ∀ b o, s1.heap.get? b = some o → h₁.get? b = some o) :
    Inv (LamX.lamCx X A outer s1 HZ E scope f c') [] σ HZ { s1 with heap := h₁, toks := tk } := by
  have here := L.has I.ok
  have inj : ∀ {y : Str} {c : Addr}, (cloFrom X.env.cells scope.names []).lookup y = some c → (y, NameKind.free) ∈ scope.names ∧ X.env.cells.lookup y = some c := fun {y c} e => by
    rcases cloFrom_mem (PySem.mem_of_lookup e) with hm | ⟨h1, h2⟩
    · cases hm
    · obtain ⟨c1, hc⟩ := here _ h1 rfl
      have hc : X.env.cells.lookup y = some c1 := hc
      rw [hc] at h2
      exact ⟨h1, by rw [hc]; exact congrArg some h2.symm⟩
  have found : ∀ {y : Str}, scope.names.lookup y = some .free → ∃ c, (cloFrom X.env.cells scope.names []).lookup y = some c := fun {y} hl => mem_lookup (cloFrom_has (cells := X.env.cells) (acc := []) (PySem.mem_of_lookup hl))
  have cellNow : ∀ {c : Addr} {v : Option Value}, H c = none → s.heap.IsCell c v → h₁.IsCell c v := fun {c v} n ⟨o, ho, hd⟩ => by
    obtain ⟨sl, q⟩ := un.any ho n (by simp)
    exact ⟨_, kp _ _ q, hd⟩
  have noX : ∀ b : Addr, b ∉ (LamX.lamCx X A outer s1 HZ E scope f c').ex := fun b z => absurd (show b ∈ ([] : List Addr) from z) (by simp)
  have okL : (LamX.lamCx X A outer s1 HZ E scope f c').Ok := {
    mod := e0.mod
    kind := L.kind
    glob := rfl
    blt := rfl
    above := Nat.le_refl _
    inj := fun x y c e1 e2 => I.ok.inj x y c (inj e1).2 (inj e2).2
    has := fun x hx => by
      rcases (show scope.names.lookup x = some .cell ∨ scope.names.lookup x = some .free from hx) with q | q
      · exact absurd rfl (L.cell _ (PySem.mem_of_lookup q))
      · exact found q
    cab := fun x c z _ => nomatch (show false = true from z)
    hd := fun _ => hd
    frames := Around.frames_deeper e0.frames
    stk := .inr ⟨rfl, rfl⟩
    exf := fun b z => absurd z (noX b)
    bs := e0.bs
    bsz := e0.bsz
    noex := fun b _ _ => noX b
    exfs := fun b z => absurd z (noX b)
    funs := e0.funs
    frf := e0.frf }
  refine { ok := okL, os := rfl, bare := e0.bare, base := Un.kept kp, loc := ⟨_, hns, fun i y v e1 e2 e3 => ?_⟩, cell := fun y c e => ?_, free := e0.hok.fresh (Nat.le_refl _), freeC := fun y c e => ?_, pin := fun q hq => absurd (show q ∈ ([] : List (Addr × Obj)) ++ [] from hq) (by simp), hok := e0.hok.kept kp, len := I.len }
  · have e1 : X.N[i]? = some y := e1
    rcases (show Vis scope y from e3) with k | k | k
    · exact absurd (List.mem_of_getElem? e1) (L.own _ (PySem.mem_of_lookup k) rfl)
    · exact absurd rfl (L.cell _ (PySem.mem_of_lookup k))
    · have hk := L.free _ (PySem.mem_of_lookup k) rfl
      obtain ⟨m, hn, hl⟩ := I.loc
      obtain ⟨w', r, q⟩ := hl i y v e1 e2 (hk.elim (fun z => .inr (.inl z)) fun z => .inr (.inr z))
      obtain ⟨c2, h2⟩ := found k
      refine ⟨w', r, .inr ⟨.inr k, c2, h2, ?_⟩⟩
      rcases q with ⟨z, _⟩ | ⟨_, c3, e', z⟩
      · have z : X.env.scope.names.lookup y = some .local := z
        rcases hk with q | q <;> rw [show X.env.scope.names.lookup y = _ from q] at z <;> cases z
      · have e4 := (inj h2).2
        rw [e4] at e'
        cases e'
        exact cellNow (I.freeC y _ e4) z
  · obtain ⟨w', z⟩ := I.cell y c (inj e).2
    exact ⟨w', cellNow (I.freeC y c (inj e).2) z⟩
  · obtain ⟨v, o, ho, hd⟩ := I.cell y c (inj e).2
    exact un.free c o ho (I.freeC y c (inj e).2) (by simp)
end
end MP
set_option Elab.async false
set_option linter.all false
set_option maxRecDepth 100000
set_option maxHeartbeats 4000000
namespace MP
open PySem PySem.Spec PyProof.Rows L2
def selW (ρ : Env) : List Dv := ρ.filterMap id
def selV : Env → L2.St → List V
  | some _ :: ρ, some v :: σ => v :: selV ρ σ
  | none :: ρ, _ :: σ => selV ρ σ
  | _, _ => []
section
variable {Γ : Ct} {H H0 : Hp} {μ μ0 : Mu} {Z Z0 : Zs}
theorem re_cons {x : Option Dv} {y : Option V} {ρ : Env} {σ : L2.St} : RE Γ H μ Z (x :: ρ) (y :: σ) ↔ (∀ w, x = some w → ∃ v, y = some v ∧ RV Γ H μ Z w v) ∧ RE Γ H μ Z ρ σ := by
  constructor
  · rintro ⟨h1, h2⟩
    refine ⟨fun w e => ?_, by simpa using h1, fun i w e => ?_⟩
    · obtain ⟨v, q1, q2⟩ := h2 0 w (by rw [e]; rfl)
      exact ⟨v, by simpa using q1, q2⟩
    · obtain ⟨v, q1, q2⟩ := h2 (i + 1) w (by simpa using e)
      exact ⟨v, by simpa using q1, q2⟩
  · rintro ⟨h1, h2, h3⟩
    refine ⟨by simpa using h2, fun i w e => ?_⟩
    cases i with
    | zero =>
      obtain ⟨v, q1, q2⟩ := h1 w (by simpa using e)
      exact ⟨v, by rw [q1]; rfl, q2⟩
    | succ i =>
      obtain ⟨v, q1, q2⟩ := h3 i w (by simpa using e)
      exact ⟨v, by simpa using q1, q2⟩
theorem sel_of : ∀ {ρ : Env} {σ : L2.St}, RE Γ H μ Z ρ σ → RVs Γ H μ Z (selW ρ) (selV ρ σ)
  | [], _, _ => rfl
  | x :: ρ, [], h => by cases h.1
  | none :: ρ, y :: σ, h => (sel_of (ρ := ρ) (σ := σ) (re_cons.mp h).2 : RVs Γ H μ Z (selW ρ) (selV ρ σ))
  | some w :: ρ, y :: σ, h => by
    obtain ⟨h1, h2⟩ := re_cons.mp h
    obtain ⟨v, q1, q2⟩ := h1 w rfl
    subst q1
    exact RVs.cons q2 (sel_of (ρ := ρ) (σ := σ) h2)
theorem of_sel : ∀ {ρ : Env} {σ : L2.St}, RE Γ H0 μ0 Z0 ρ σ → RVs Γ H μ Z (selW ρ) (selV ρ σ) → RE Γ H μ Z ρ σ
  | [], _, h, _ => ⟨h.1, fun i w e => by cases e⟩
  | x :: ρ, [], h, _ => by cases h.1
  | none :: ρ, y :: σ, h, r => re_cons.mpr ⟨fun w e => (nomatch e), of_sel (ρ := ρ) (σ := σ) (re_cons.mp h).2 r⟩
  | some w :: ρ, y :: σ, h, r => by
    obtain ⟨h1, h2⟩ := re_cons.mp h
    obtain ⟨v, q1, q2⟩ := h1 w rfl
    subst q1
    obtain ⟨x, xs, e, r1, r2⟩ := (show ∃ x xs, v :: selV ρ σ = x :: xs ∧ RV Γ H μ Z w x ∧ RVs Γ H μ Z (selW ρ) xs from r)
    cases e
    exact re_cons.mpr ⟨fun w' e => by cases e; exact ⟨v, rfl, r1⟩, of_sel (ρ := ρ) (σ := σ) h2 r2⟩
end
abbrev lamFd (q : Str) (params : Arguments) (body : Expr) (scope : Scope) (cl : List (Str × Addr)) (dV doc pm : Value) (c' : Addr) (ctv : Value) : FuncData := PySem.W.kdv_fn "<lambda>" q params (.expr body) scope cl dV doc pm (.ref c') ctv
abbrev lamObj (q : Str) (params : Arguments) (body : Expr) (scope : Scope) (cl : List (Str × Addr)) (dV doc pm : Value) (c' : Addr) (ctv : Value) : Obj := { cls := .type "function", data := .func (lamFd q params body scope cl dV doc pm c' ctv) }
/-- a lambda on its way, made ahead of the state s0 under the frames outer: what holds of it and what its call does -/
structure Thk (P : Program) (w : World) (Γ : Ct) (mg : Str → Option Value) (base : Heap) (kk : Nat) (outer : List PySem.Env) (s0 : Shared) (H0 : Hp) (f c' : Addr) (q : Str) (ws : List Dv) (vs : List V) (g : Sto → R Dv) : Prop where
  fn : ∀ (s1 : Shared) (HZ : Hp), Un (frs outer) [] H0 HZ s0.heap s1.heap → HOk P w HZ s1.heap → PySem.W.FnAt f s1.heap
  run : ∀ (A : Around) (outer1 : List PySem.Env) (s1 : Shared) (HZ : Hp) (Q : VK) (E : XK) (μ : Mu) (Z : Zs) (st : Sto), Room kk A → A.guards = some [] → Env0 P w Γ.K mg base A outer1 s1 HZ → Un (frs outer) [] H0 HZ s0.heap s1.heap →
    HZ c' = some (LamX.CodeO c' q) → RVs Γ HZ μ Z ws vs → Rep Γ HZ μ Z st → PostE Γ (fun c d _ H => E c d H) HZ μ Z [] Q (g st) → codeAny (model P w) A (.call (.ref f) ⟨[], []⟩) (CR (L2.CX P w) outer1 P w HZ s1 Q E) s1
theorem un_comp {fs : List Addr} {L : Addr} {H H1 H2 : Hp} {h h1 h2 : Heap} (u : Un fs [] H H1 h h1) (v : Un (L :: fs) [] H1 H2 h1 h2) (hL : h.objs.size ≤ L) : Un fs [] H H2 h h2 where
  keep := fun b o q n hb hx => v.keep b o (u.keep b o q n hb hx) (u.free b o q n hx) (fun z => (List.mem_cons.mp z).elim (fun e => Nat.lt_irrefl _ (Nat.lt_of_lt_of_le (Heap.lt_size q) (by rw [e]; exact hL))) hb) hx
  slot := fun b o q n hb hx => by
    obtain ⟨sl, e1⟩ := u.slot b o q n hb hx
    obtain ⟨sl2, e2⟩ := v.slot b _ e1 (u.free b o q n hx) (List.mem_cons_of_mem _ hb) hx
    exact ⟨sl2, e2⟩
  free := fun b o q n hx => by
    obtain ⟨o1, e1⟩ := u.there b o q hx
    exact v.free b o1 e1 (u.free b o q n hx) hx
  there := fun b o q hx => by
    obtain ⟨o1, e1⟩ := u.there b o q hx
    exact v.there b o1 e1 hx
  tups := fun b xs q => v.tups b xs (u.tups b xs q)
  frzs := fun b o xs q => v.frzs b o xs (u.frzs b o xs q)
  tbls := fun b ps q => by
    obtain ⟨m1, e1⟩ := u.tbls b ps q
    obtain ⟨m2, e2⟩ := v.tbls b _ e1
    exact ⟨m1 ++ m2, by rw [e2, Array.append_assoc]⟩
/-- one frame deeper -/
theorem Thk.deeper {P : Program} {w : World} {Γ : Ct} {mg : Str → Option Value} {base : Heap} {kk : Nat} {outer : List PySem.Env} {s0 s' : Shared} {H0 H' : Hp} {f c' : Addr} {q : Str} {ws : List Dv} {vs : List V} {g : Sto → R Dv} {env : PySem.Env} {L : Addr}
    (T : Thk P w Γ mg base kk outer s0 H0 f c' q ws vs g) (hf : env.frame = some L) (hL : s0.heap.objs.size ≤ L) (u : Un (frs outer) [] H0 H' s0.heap s'.heap) : Thk P w Γ mg base kk (env :: outer) s' H' f c' q ws vs g := by
  have e : frs (env :: outer) = L :: frs outer := by unfold frs; rw [List.filterMap_cons, hf]
  exact ⟨fun s1 HZ v ok => T.fn s1 HZ (un_comp u (e ▸ v) hL) ok, fun A outer1 s1 HZ Q E μ Z st h1 h2 h3 v => T.run A outer1 s1 HZ Q E μ Z st h1 h2 h3 (un_comp u (e ▸ v) hL)⟩
end MP
set_option Elab.async false
set_option linter.all false
set_option maxRecDepth 100000
set_option maxHeartbeats 4000000
namespace MP
open PySem PySem.Spec PyProof.Rows L2
/-- the table behind the making -/
def Made (H H1 : Hp) (P : Addr) (ps : Array Value) (pos : Pos) (c' : Addr) (q : Str) : Prop :=
  (H1 = H ∧ codeAmong pos ps.toList = some (.ref c')) ∨ (H c' = none ∧ H1 = upd (upd H P (.tbl (ps ++ #[rawInt pos.line, rawInt pos.col, .ref c']))) c' (LamX.CodeO c' q))
section
variable {X : Cx} {pins : List (Addr × Obj)} {σ : L2.St} {H : Hp} {s : Shared}
theorem Inv.outFrs (I : Inv X pins σ H s) {f : Addr} (hf : s.heap.objs.size ≤ f) : f ∉ frs X.stack := fun z => by
  rcases List.mem_cons.mp (I.stkSub _ z) with e | e
  · exact absurd I.lt (by rw [← e]; exact Nat.not_lt.mpr hf)
  · exact I.nofs hf e
theorem lam_tail {c P : Addr} {ps : Array Value} {params : Arguments} {body : Expr} {scope : Scope} {pos : Pos} {dV : Value} {Q E : Value → Shared → Prop} (I : Inv X pins σ H s) (TB : LamX.TabB X.base X.mg c P) (hcode : X.env.code = .ref c)
    (hP : H P = some (.tbl ps)) (ht : TriplesOk ps.toList) (ha : ∀ (pos : Pos) (cv : Value), codeAmong pos ps.toList = some cv → ∃ c, cv = .ref c ∧ H c = some (LamX.CodeO c (X.env.qual ++ "<lambda>")))
    (hfree : ∀ y ∈ scope.names, y.2 = .free → ∃ c, X.env.cells.lookup y.1 = some c)
    (h : ∀ (f c' : Addr) (doc ctv : Value) (H1 : Hp) (s' : Shared), Inv X pins σ H1 s' → Made H H1 P ps pos c' (X.env.qual ++ "<lambda>") → (∀ b o, b ≠ P → s.heap.get? b = some o → s'.heap.get? b = some o) →
      s'.heap.get? f = some (lamObj (X.env.qual ++ "<lambda>") params body scope (cloFrom X.env.cells scope.names []) dV doc ((X.mg "__name__").getD .none) c' ctv) → H1 f = none → s.heap.objs.size ≤ f → H1 c' = some (LamX.CodeO c' (X.env.qual ++ "<lambda>")) → Q (.ref f) s') :
    wpAny (model X.prog X.w) X.A (makeTail "<lambda>" (X.env.qual ++ "<lambda>") params (.expr body) scope X.env dV .none none pos pos.line) Q E s := by
  have bP : s.heap.BuiltinsAt X.mg P := TB.bm.keeps I.bk
  have hP' : s.heap.get? P = some { cls := .none, data := .fields ps } := I.hok P _ hP
  cases hc : codeAmong pos ps.toList with
  | none =>
    refine PySem.W.kdv_makeTail (mg := X.mg) (c := c) (P := P) (ps := ps) (closure_ok hfree) I.ok.glob (I.mod.glob.keeps I.bk) hcode (TB.code.keeps I.bk) hP' ht hc TB.gP bP fun c' ctv doc h' tk hx hge hlt hrec htb => ?_
    obtain ⟨c2, oc, vs, t, e2, hoc, hd, hv⟩ := hrec
    cases e2
    have nC : H c' = none := I.hok.fresh hge
    have hsz : s.heap.objs.size ≤ h'.objs.size := Nat.le_trans hge (Nat.le_of_lt hlt)
    have I1 := LamX.inv_table (t' := tk) (more := #[rawInt pos.line, rawInt pos.col, .ref c']) (q := X.env.qual ++ "<lambda>") (h' := h'.push (lamObj (X.env.qual ++ "<lambda>") params body scope (cloFrom X.env.cells scope.names []) dV doc ((X.mg "__name__").getD .none) c' ctv)) I hP
      (fun b o hb e => Heap.get?_push_of_some _ (hx b o hb e)) (Heap.get?_push_of_some _ htb) hge ⟨oc, vs, t, Heap.get?_push_of_some _ hoc, hd, hv⟩
    refine h h'.objs.size c' doc ctv _ _ I1 (.inr ⟨nC, rfl⟩) (fun b o hb e => Heap.get?_push_of_some _ (hx b o hb e)) (Heap.get?_push_size _ rfl) ?_ hsz upd_same
    rw [upd_ne (Nat.ne_of_gt hlt), upd_ne (Nat.ne_of_gt (Nat.lt_of_lt_of_le (Heap.lt_size hP') hsz))]
    exact I.hok.fresh hsz
  | some cv =>
    obtain ⟨c', e, hco⟩ := ha pos cv hc
    subst e
    refine PySem.W.kdv_makeTailHit (mg := X.mg) (c := c) (P := P) (ps := ps) (closure_ok hfree) I.ok.glob (I.mod.glob.keeps I.bk) hcode (TB.code.keeps I.bk) hP' ht hc bP fun ctv doc h' tk hx hsz => ?_
    have I1 : Inv X pins σ H { s with heap := h'.push (lamObj (X.env.qual ++ "<lambda>") params body scope (cloFrom X.env.cells scope.names []) dV doc ((X.mg "__name__").getD .none) c' ctv), toks := tk } := I.kept fun b o e => Heap.get?_push_of_some _ (hx b o e)
    exact h h'.objs.size c' doc ctv H _ I1 (.inl ⟨rfl, hc⟩) (fun b o _ e => Heap.get?_push_of_some _ (hx b o e)) (Heap.get?_push_size _ rfl) (I.hok.fresh hsz) hsz hco
end
/-- the store behind the making -/
theorem made_rep {Γ : Ct} {H H1 : Hp} {μ : Mu} {Z : Zs} {st : Sto} {nt n : Nat} {P c' : Addr} {ps : Array Value} {pos : Pos} {q : Str} (hR : Rep Γ H μ Z st) (hn : μ nt = some P) (he : st[nt]? = some (.tab n q)) (hP : H P = some (.tbl ps)) (m : Made H H1 P ps pos c' q) :
    Evo H μ H1 μ ∧ Rep Γ H1 μ Z st ∧ Fz μ Z c' := by
  obtain ⟨a, g1, g2, g3, ps0, g4, g5, g6⟩ := hR.at nt _ he
  rw [hn] at g1
  cases g1
  rw [hP] at g4
  cases g4
  rcases m with ⟨e, hc⟩ | ⟨nC, e⟩
  · subst e
    obtain ⟨c, e1, _, e3⟩ := g6 pos _ hc
    cases e1
    exact ⟨Evo.refl, hR, e3⟩
  · subst e
    have fzc := hR.fz nC
    have nPc : P ≠ c' := ne_of_none hP nC
    have ev : Evo H μ (upd (upd H P (.tbl (ps ++ #[rawInt pos.line, rawInt pos.col, .ref c']))) c' (LamX.CodeO c' q)) μ := {
      keep := fun a o h k => by rw [upd_ne (ne_of_none h nC), upd_ne fun z => k nt (by rw [z]; exact hn)]; exact h
      mu := fun _ _ h => h
      new := fun _ _ h => .inl h
      stay := fun m a h k => by
        by_cases h1 : a = c'
        · rw [h1, upd_same]; intro z; cases z
        · rw [upd_ne h1]
          by_cases h2 : a = P
          · rw [h2, upd_same]; intro z; cases z
          · rw [upd_ne h2]; exact k }
    refine ⟨ev, ⟨fun k o eo => ?_, hR.inj, hR.dom, fun a z => ev.alive (hR.za a z)⟩, fzc⟩
    obtain ⟨a, k1, k2, k3⟩ := hR.at k o eo
    refine ⟨a, k1, k2, ?_⟩
    have nac : a ≠ c' := fun z => hR.alive k1 (by rw [z]; exact nC)
    by_cases hk : a = P
    · subst hk
      have := hR.inj _ _ _ k1 hn
      subst this
      rw [he] at eo
      cases eo
      refine ⟨g3, _, by rw [upd_ne nPc, upd_same], ?_, fun p' cv hcv => ?_⟩
      · rw [Array.toList_append]
        exact PySem.TriplesOk_snoc _ _ _ _ g5
      · rw [Array.toList_append] at hcv
        rcases LamX.among_app _ g5 hcv with z | z
        · obtain ⟨c0, e1, e2, e3⟩ := g6 p' cv z
          exact ⟨c0, e1, ev.keep _ _ e2 e3.1, e3⟩
        · exact ⟨c', z, upd_same, fzc⟩
    · exact k3.mono' ev (by rw [upd_ne nac, upd_ne hk])
end MP
set_option Elab.async false
set_option linter.all false
set_option maxRecDepth 100000
set_option maxHeartbeats 4000000
namespace MP
open PySem PySem.Spec PyProof.Rows L2
section
variable {X : Cx} {Γ : Ct} {W : WX} {k kk : Nat} {f : Addr} {fd : FuncData} {ps : List Str} {den : (Sto → R Dv) → Fn} {x a : Str} {i : Nat} {p p1 p2 pos lpos : Pos} {es : List Expr} {fa : FA}
open Classical in
/-- a(): the lambda that the name holds -/
noncomputable def mThk (i : Nat) (cl : Dv) (g : Sto → R Dv) : FE := fun ρ s => if ρ[i]? = some (some cl) then g s else .no
open Classical in
/-- x(a, ..): the lambda is handed on -/
noncomputable def mPass (cl : Dv) (g : Sto → R Dv) (den : (Sto → R Dv) → Fn) (fa : FA) : FE := fun ρ s => (fa ρ s).bind fun ws s1 => match ws with
  | w :: wa => if w = cl then den g wa s1 else .no
  | [] => .no
end
end MP
set_option Elab.async false
set_option linter.all false
set_option maxRecDepth 100000
set_option maxHeartbeats 4000000
namespace MP
open PySem PySem.Spec PyProof.Rows L2
end MP
set_option Elab.async false
set_option linter.all false
set_option maxRecDepth 100000
set_option maxHeartbeats 4000000
namespace MP
open PySem PySem.Spec PyProof.Rows L2
/-- ok_fn, the def's code object being told -/
theorem ok_fnC {P : Program} {w : World} {mg : Str → Option Value} {base : Heap} {Γ : Ct} {x qual : Str} {st : Stmt} {f : Addr} {fd : FuncData} {N ps : List Str} {k : Nat} {c : FS} {c0 : Addr} (F : Fun Γ.K x qual st f fd) (hc : fd.code = .ref c0) (S : FnScope N ps (defScope st))
    (hbody : ∀ (A : Around) (outer : List PySem.Env) (s : Shared) (H : Hp) (E : XK) (W : WX), Room k (A.deeper (envF qual st s f (.ref c0))) → (A.deeper (envF qual st s f (.ref c0))).guards = some [] → Takes (cxF Γ P w mg base N qual st f (.ref c0) A outer s H E) W →
      MB (cxF Γ P w mg base N qual st f (.ref c0) A outer s H E) Γ W (defBody st) c) : FnG P w mg base Γ (k + 1) f fd ps (denOf N.length c) := by
  obtain ⟨oc, od, kV, doc, pm, an, cdv, ct, osl, e, lk, hcd⟩ := F.ex
  subst e
  have hc : cdv = .ref c0 := hc
  subst hc
  refine ⟨fun A outer s H args us vs Q E room guards e0 binds rel ⟨hlen, μ, Z, st0, ws, hR, rws, post⟩ => ?_⟩
  have stays : ∀ b o, base.get? b = some o → s.heap.get? b = some o := fun b o e => (e0.bs b o e).1
  have inK : Γ.K.In s.heap := e0.mod.kin.keeps stays
  have kinds : ∀ y ∈ ps.zip us, (defScope st).names.lookup y.1 = some .local ∨ ((defScope st).names.lookup y.1 = some .cell ∧ ((cellsFrom (s.heap.objs.size + 1) (defScope st).names []).lookup y.1).isSome = true) := by
    rintro ⟨n, v⟩ hy
    exact (S.par n (List.of_mem_zip hy).1).imp id fun q => ⟨q, PySem.W.cellsFrom_some _ _ _ (.inl q)⟩
  refine codeAny_call_function room.depth (inK _ _ lk) rfl S.co S.gen rfl (PySem.W.codeRec_of inK hcd) (binds _ _ _ _ ?_)
  refine wpAny_newFunctionEnv_cells S.kind kinds fun env he s1 entered => ?_
  subst he
  refine ⟨(e0.mod.nolimit.keeps stays).keeps entered.toInCall.keep, codeAny_func ?_⟩
  have I := inv_start (CX := L2.CX P w) (E := E) (cd := .ref c0) S room.hd e0 hlen rel entered
  have tk : Takes (cxF Γ P w mg base N qual st f (.ref c0) A outer s H E) (fun cls d _ H' => E cls d H') := takes_of rfl rfl rfl rfl
  have run := (hbody A outer s H E _ (room.deeper _) (by show (A.deeper _).guards = _; rw [← guards]; rfl) tk).run [] s1 (L2.start N vs) H { nx := fun _ H' => Q .non H', rt := Q } I
    ⟨μ, Z, startD N.length ws, st0, re_start rws, hR, body_end hR post⟩
  refine wpAny_mono run (fun fl s' hs => ?_) fun e s' hs => hs
  cases fl with
  | ret u =>
    obtain ⟨v, σ', H', J, rv, q⟩ := hs
    exact ⟨v, H', J.os, J.bare, J.base, J.hok, rv, q⟩
  | next =>
    obtain ⟨σ', H', J, q⟩ := hs
    exact ⟨V.non, H', J.os, J.bare, J.base, J.hok, rfl, q⟩
  | brk => exact hs.elim fun _ z => z.elim fun _ z => z.2.elim
  | cont => exact hs.elim fun _ z => z.elim fun _ z => z.2.elim
section
variable {K : PySem.W.Frag} {c j : Addr} {b : Bool}
theorem kitCls_of {t : Value} (h1 : PySem.W.isClsIn K j = true) (h2 : PySem.W.typeIn K (.ref j) = some (.type "type")) (h3 : PySem.W.subIn K t (.ref j) = some b) : PySem.W.kitCls K t (.ref j) = some b := by
  have e2 : ((PySem.W.clsIn K j).isSome && PySem.W.typeIn K (.ref j) == some (.type "type")) = true := by
    have h1' : (PySem.W.clsIn K j).isSome = true := h1
    rw [h1', h2] <;> rfl
  show (if ((PySem.W.clsIn K j).isSome && PySem.W.typeIn K (.ref j) == some (.type "type")) = true then PySem.W.subIn K t (.ref j) else none) = some b
  rw [if_pos e2]
  exact h3
theorem tabIn_of {x : Str} {f T : Addr} {oc oc2 : Value} {od od2 : Option Addr} {sl sl2 : Array (Option Value)} {fd : FuncData} {vs : Array Value} (h1 : PySem.W.nsIn K mainGlobals x = some (some (.ref f))) (h2 : K.lookup f = some ⟨oc, od, .func fd, sl⟩) (h3 : fd.code = .ref c)
    (h4 : K.lookup c = some ⟨oc2, od2, .fields vs, sl2⟩) (h5 : vs[11]? = some (.ref T)) : PySem.W.tabIn K x = some (c, T) := by
  unfold PySem.W.tabIn
  rw [h1]
  dsimp only
  rw [h2]
  dsimp only
  rw [h3]
  dsimp only
  rw [h4]
  dsimp only
  rw [h5]
end
end MP
set_option Elab.async false
set_option linter.all false
set_option maxRecDepth 100000
set_option maxHeartbeats 4000000
namespace MP
open PySem PySem.Spec PyProof.Rows L2
/-- what raising a class wants -/
theorem xcr_of {P : Program} {w : World} {K : PySem.W.Frag} {mg : Str → Option Value} {base : Heap} {C fI : Addr} {x qual f : Str} {params : Arguments} {scope : Scope} {dV kV doc pm cdv ct oc : Value} {an od : Option Addr} {osl : Array (Option Value)} {p1 p2 p3 p4 : Pos}
    (ox : OexC K C) (no : PySem.W.findIn K (.ref C) f = some none) (gC : mg x = some (.ref C)) (iC : PySem.W.findIn K (.ref C) "__init__" = some (some (.ref fI))) (tI : PySem.W.typeIn K (.ref fI) = some (.type "function"))
    (lk : K.lookup fI = some ⟨oc, od, .func (PySem.W.fnOf "__init__" qual params [.Assign [.Attribute (.Name "self" p1) f p2] (.Name f p3) p4] scope dV kV doc pm an cdv ct), osl⟩) (hcd : PySem.W.codeIn K cdv qual = true) (S : FnScope ["self", f] ["self", f] scope)
    (v0 : Vis scope "self") (v1 : Vis scope f) (d1 : (f == ("__debug__" : Str)) = false) (d2 : (f == ("__classdict__" : Str)) = false)
    (hb : ∀ us : List Value, us.length = (["self", f] : List Str).length → bindArgs (PySem.W.fnOf "__init__" qual params [.Assign [.Attribute (.Name "self" p1) f p2] (.Name f p3) p4] scope dV kV doc pm an cdv ct) ⟨us, []⟩ = pure ((["self", f] : List Str).zip us)) : XcR P w K mg base C x f :=
  ⟨ox, no, gC, fI, _, iC, tI, init_fn lk hcd S ox no v0 v1 d1 d2, L2.Binds.all hb⟩
end MP
set_option Elab.async false
set_option linter.all false
set_option maxRecDepth 100000
set_option maxHeartbeats 4000000
namespace MP
open PySem PySem.Spec PyProof.Rows L2
section
variable {s s1 : Sto} {ρ : Env} {w v : Dv} {f g : FE} {fa : FA} {c su : FS} {ws : List Dv} {i n : Nat} {j : Int} {b : Bool} {y : Str} {ks : List Key}
@[simp] theorem isA_ii : isiA s [.int j, .ty "int"] = some (.bl true) := rfl
@[simp] theorem isA_ib : isiA s [.int j, .ty "bool"] = some (.bl false) := rfl
@[simp] theorem isA_it : isiA s [.int j, .ty "tuple"] = some (.bl false) := rfl
@[simp] theorem isA_bi : isiA s [.bl b, .ty "int"] = some (.bl true) := rfl
@[simp] theorem isA_bb : isiA s [.bl b, .ty "bool"] = some (.bl true) := rfl
@[simp] theorem isA_bt : isiA s [.bl b, .ty "tuple"] = some (.bl false) := rfl
@[simp] theorem isA_ni : isiA s [.non, .ty "int"] = some (.bl false) := rfl
@[simp] theorem isA_nt : isiA s [.non, .ty "tuple"] = some (.bl false) := rfl
@[simp] theorem isA_si : isiA s [.str y, .ty "int"] = some (.bl false) := rfl
@[simp] theorem isA_st : isiA s [.str y, .ty "tuple"] = some (.bl false) := rfl
@[simp] theorem isA_tt : isiA s [.tup ws, .ty "tuple"] = some (.bl true) := rfl
@[simp] theorem isA_ti : isiA s [.tup ws, .ty "int"] = some (.bl false) := rfl
@[simp] theorem isA_lt : isiA s [.lst ws, .ty "tuple"] = some (.bl false) := rfl
@[simp] theorem isA_li : isiA s [.lst ws, .ty "int"] = some (.bl false) := rfl
@[simp] theorem raise_ev {k : Nat} : mRaise k y f ρ s = (f ρ s).thenC ρ fun w s1 => .er ⟨k, y, w⟩ ρ s1 := rfl
@[simp] theorem finC_er {x : Ex} : finC s.length (.er x ρ s) = .er x s := by
  show finX s.length x s = _
  unfold finX
  rw [if_pos (Nat.le_refl _)]
@[simp] theorem thk_ev {cl : Dv} {t : Sto → R Dv} : mThk 0 cl t (some cl :: ρ) s = t s := by unfold mThk; exact if_pos rfl
@[simp] theorem pass_ev {cl : Dv} {t : Sto → R Dv} {den : (Sto → R Dv) → Fn} : mPass cl t den (mCons (mVar 0) fa) (some cl :: ρ) s = (fa (some cl :: ρ) s).bind fun wa s1 => den t wa s1 := by
  unfold mPass mCons
  rw [var_0, bind_ok]
  cases fa (some cl :: ρ) s with
  | ok wa s1 => exact if_pos rfl
  | er _ _ => rfl
  | no => rfl
end
end MP
set_option Elab.async false
set_option linter.all false
set_option maxRecDepth 100000
set_option maxHeartbeats 4000000
namespace MP
open PySem PySem.Spec PyProof.Rows L2
mutual
def toX : Dv → Option PyData
  | .non => some .none | .bl b => some (.bool b) | .int i => some (.int i) | .str x => some (.str x)
  | .tup ws => (toXs ws).map .tuple
  | .dct ks ws => match ks, ws with
    | [], [] => some (.dict [])
    | _, _ => none
  | _ => none
def toXs : List Dv → Option (List PyData)
  | [] => some []
  | w :: ws => match toX w, toXs ws with
    | some d, some ds => some (d :: ds)
    | _, _ => none
end
section
variable {X : Cx} {Γ : Ct} {pins : List (Addr × Obj)} {σ : L2.St} {H : Hp} {s : Shared} {μ : Mu} {Z : Zs}
mutual
theorem rx_reads (I : Inv X pins σ H s) (hK : Γ.K = X.K) : ∀ (w : Dv) {v : V} {u : Value} {d : PyData}, RV Γ H μ Z w v → L2.RelV v u → toX w = some d → ∃ as, Reads s.heap u d as ∧ sysModules ∉ as
  | .non, _, _, _, r, ru, e => by cases e; rw [show _ = _ from r] at ru; cases ru; exact ⟨_, Reads.none, fun z => nomatch z⟩
  | .bl b, _, _, _, r, ru, e => by cases e; rw [show _ = _ from r] at ru; cases ru; exact ⟨_, Reads.bool b, fun z => nomatch z⟩
  | .int i, _, _, _, r, ru, e => by cases e; rw [show _ = _ from r] at ru; obtain ⟨t, rfl⟩ := ru; exact ⟨_, Reads.int i t, fun z => nomatch z⟩
  | .str x, _, _, _, r, ru, e => by cases e; rw [show _ = _ from r] at ru; obtain ⟨t, rfl⟩ := ru; exact ⟨_, Reads.str x t, fun z => nomatch z⟩
  | .tup ws, _, _, _, r, ru, e => by
    obtain ⟨a, xs, rfl, h2, h3⟩ := r
    cases ru
    cases q : toXs ws with
    | none => unfold toX at e; rw [q] at e; cases e
    | some ds =>
      unfold toX at e
      rw [q] at e
      cases e
      have hs := h2.sq
      rw [hK] at hs
      obtain ⟨its, rv, ⟨o, ho, hc, n, hd⟩, _⟩ := I.tuple hs
      obtain ⟨as, hr, hn⟩ := rxs_reads I hK ws h3 rv q
      exact ⟨_, Reads.tuple ho hc hd hr, hn⟩
  | .ty _, _, _, _, _, _, e => by cases e
  | .cl _, _, _, _, _, _, e => by cases e
  | .ref _, _, _, _, _, _, e => by cases e
  | .lst _, _, _, _, _, _, e => by cases e
  | .sq _, _, _, _, _, _, e => by cases e
  | .exc _ _ _, _, _, _, _, _, e => by cases e
  | .exn _, _, _, _, _, _, e => by cases e
  | .dtt _ _, _, _, _, _, _, e => by cases e
  | .clo _ _ _ _ _, _, _, _, _, _, e => by cases e
  | .dct ks ws, _, _, _, r, ru, e => by
    unfold toX at e
    split at e
    · cases e
      obtain ⟨a, kvs, rfl, h1, _, h3, _⟩ := r
      cases ru
      have hk : kvs = [] := by cases kvs with
        | nil => rfl
        | cons _ _ => cases h3
      subst hk
      obtain ⟨_, hsm, vs, kv, o, es, ep, ho, hx, hd, _, hp, _⟩ := I.hok a _ h1
      cases kv
      have he : es.toList = [] := by
        generalize es.toList = l at hp
        cases hp
        rfl
      refine ⟨_, Reads.dict (as := []) (bs := []) ho hx.1 hd (by rw [he]; exact ReadsAll.nil) (by rw [he]; exact ReadsAll.nil), ?_⟩
      intro hm
      simp at hm
      rw [← hm] at hsm
      simp at hsm
    · cases e
theorem rxs_reads (I : Inv X pins σ H s) (hK : Γ.K = X.K) : ∀ (ws : List Dv) {vs : List V} {us : List Value} {ds : List PyData}, RVs Γ H μ Z ws vs → Vals vs us → toXs ws = some ds → ∃ as, ReadsAll s.heap us ds as ∧ sysModules ∉ as
  | [], _, _, _, r, ru, e => by
    cases e
    rw [show _ = _ from r] at ru
    cases ru
    exact ⟨_, ReadsAll.nil, fun z => nomatch z⟩
  | w :: ws, _, _, _, r, ru, e => by
    obtain ⟨x, xs, rfl, r1, r2⟩ := r
    cases ru with
    | cons u1 u2 =>
      unfold toXs at e
      split at e
      · rename_i d ds q1 q2
        cases e
        obtain ⟨as, h1, n1⟩ := rx_reads I hK w r1 u1 q1
        obtain ⟨bs, h2, n2⟩ := rxs_reads I hK ws r2 u2 q2
        exact ⟨_, ReadsAll.cons h1 h2, fun z => (List.mem_append.mp z).elim n1 n2⟩
      · cases e
end
def rReprX (K : PySem.W.Frag) : List V → Hp → VK → Prop := fun xs H Q => ∃ (x : V) (d : PyData), xs = [x] ∧ (∀ (X : Cx) (pins : List (Addr × Obj)) (σ : L2.St) (s : Shared) (u : Value), X.K = K → Inv X pins σ H s → L2.RelV x u → ∃ as, Reads s.heap u d as ∧ sysModules ∉ as) ∧
  d.showable = true ∧ d.depth ≤ 60 ∧ d.shown.length ≤ sizeLine ∧ Q (.str d.shown) H
theorem call_reprX (hg : X.A.guards = some []) (hu : X.A.units + 64 < cLine) : CallR X (.builtin "repr") (rReprX X.K) := by
  intro pins s σ H xs us Q I r h
  obtain ⟨x, d, rfl, hr, h1, h3, h4, q⟩ := h
  obtain ⟨u, rfl, ru⟩ := vals1 r
  obtain ⟨as, rd, hn⟩ := hr X pins σ s u rfl I ru
  have big : ∀ (a : Addr), u = .ref a → wpAny (model X.prog X.w) X.A (call (.builtin "repr") [u]) (EP X pins σ Q) X.xe s := fun a e => by
    subst e
    exact repr_of_reads' rd h1 (fun _ => hn) hg (by omega) (fun _ _ z => z) (fun h' u tk k => ⟨.str d.shown, H, I.kept (t' := tk) k, ⟨u, rfl⟩, q⟩) h4
  cases rd with
  | none => exact PySem.P.repr_of_none ⟨.str _, H, I.tok _, ⟨_, rfl⟩, q⟩
  | bool b => exact PySem.P.repr_of_bool ⟨.str _, H, I.tok _, ⟨_, rfl⟩, q⟩
  | int i t => exact PySem.P.repr_of_int (of_decide_eq_true h1) ⟨.str _, H, I.tok _, ⟨_, rfl⟩, q⟩
  | str x t => exact PySem.P.repr_of_str ⟨.str _, H, I.tok _, ⟨_, rfl⟩, q⟩ h4
  | list _ _ _ _ => exact big _ rfl
  | tuple _ _ _ _ => exact big _ rfl
  | dict _ _ _ _ _ => exact big _ rfl
def reprXD : ON := fun _ xs => match xs with
  | [x] => match toX x with
    | some d => if d.showable = true ∧ d.depth ≤ 60 ∧ d.shown.length ≤ lim then some (.str d.shown) else none
    | none => none
  | _ => none
theorem sReprX (hK : Γ.K = X.K) : OpN Γ (rReprX X.K) reprXD := fun H μ Z s xs w vs Q hR rx e k => by
  unfold reprXD at e
  split at e
  · rename_i x
    split at e
    · rename_i d q
      split at e
      · rename_i hc
        cases e
        obtain ⟨v, rfl, r1⟩ := one rx
        exact ⟨v, d, rfl, fun X' pins σ s u hX I ru => rx_reads I (hK.trans hX.symm) x r1 ru q, hc.1, hc.2.1, lim_ok hc.2.2, k _ H .refl hR rfl⟩
      · cases e
    · cases e
  · cases e
/-- repr of lists and tuples without dicts, or of what is without lists -/
def reprA : ON := fun s xs => match reprD s xs with
  | some w => some w
  | none => reprXD s xs
theorem cr_reprA (hg : X.A.guards = some []) (hu : X.A.units + 64 < cLine) : CallR X (.builtin "repr") (fun x H Q => rRepr X.K x H Q ∨ rReprX X.K x H Q) := CallR.or2 (call_repr hg hu) (call_reprX hg hu)
theorem sReprA (hK : Γ.K = X.K) : OpN Γ (fun x H Q => rRepr X.K x H Q ∨ rReprX X.K x H Q) reprA := OpN.or (sRepr hK) (sReprX hK)
end
end MP
set_option Elab.async false
set_option linter.all false
set_option maxRecDepth 100000
set_option maxHeartbeats 400000
namespace MP
open PySem PySem.Spec PyProof.Rows L2
structure PlX (n k : Nat) (w : Dv) (d : PyData) : Prop where
  to : toX w = some d
  shw : d.showable = true
  deep : d.depth ≤ k
  len : d.shown.length + 2 ≤ 2000 * n
structure PlsX (n k : Nat) (ws : List Dv) (ds : List PyData) : Prop where
  to : toXs ws = some ds
  shw : PyData.showableAll ds = true
  deep : PyData.depthAll ds ≤ k
  len : piled (PyData.shownAll ds) ≤ 2000 * n
variable {n m k j : Nat} {w : Dv} {d : PyData} {ws us : List Dv} {ds es : List PyData} {i : Int} {ns : List Int} {s : Sto}
theorem PlX.mono (h : PlX n k w d) (hn : n ≤ m) (hk : k ≤ j) : PlX m j w d := ⟨h.to, h.shw, Nat.le_trans h.deep hk, Nat.le_trans h.len (Nat.mul_le_mul_left _ hn)⟩
theorem PlsX.mono (h : PlsX n k ws ds) (hn : n ≤ m) (hk : k ≤ j) : PlsX m j ws ds := ⟨h.to, h.shw, Nat.le_trans h.deep hk, Nat.le_trans h.len (Nat.mul_le_mul_left _ hn)⟩
end MP
set_option Elab.async false
set_option linter.all false
set_option maxRecDepth 100000
set_option maxHeartbeats 400000
namespace MP
open PySem PySem.Spec PyProof.Rows L2
section
variable {s s1 s2 s3 : Sto} {ρ : Env} {f g : FE} {fa : FA} {lo hi : FO} {x w y : Dv} {ws us : List Dv} {a b : Option Int} {i j : Int} {k : Nat} {t : FT} {bb : Bool}
theorem sl_v {op : OS} (h : f ρ s = .ok x s1) (hl : lo ρ s1 = .ok a s2) (hh : hi ρ s2 = .ok b s3) (e : op s3 x a b = some w) : mSl op f lo hi ρ s = .ok w s3 := by
  rw [sl_ev, h, bind_ok, hl, bind_ok, hh, bind_ok, e, of_some]
theorem part_v (h : f ρ s = .ok (.int i) s1) : mPart f ρ s = .ok (some i) s1 := by rw [part_ev, h, bind_ok]
theorem add_tup (h : ws.length + us.length ≤ 1000000) : addD s (.tup ws) (.tup us) = some (.tup (ws ++ us)) := by
  show (if ws.length + us.length ≤ lim then some (Dv.tup (ws ++ us)) else none) = _
  rw [if_pos (by unfold lim; omega)]
theorem un_v {o : O1} (h : f ρ s = .ok x s1) (e : o s1 x = some w) : mUn o f ρ s = .ok w s1 := by rw [un_ev, h, bind_ok, e, of_some]
theorem if_vt {g' : FE} {r : R Dv} (h : t ρ s = .ok true s1) (h2 : f ρ s1 = r) : mIf t f g' ρ s = r := by rw [if_ev, h, bind_ok, if_pos rfl, h2]
theorem if_vf {g' : FE} {r : R Dv} (h : t ρ s = .ok false s1) (h2 : f ρ s1 = r) : mIf t g' f ρ s = r := by rw [if_ev, h, bind_ok, if_neg Bool.false_ne_true, h2]
theorem not_v (h : t ρ s = .ok bb s1) : mNot t ρ s = .ok (!bb) s1 := by rw [not_ev, h, bind_ok]
theorem ne_of_eq {x y : Dv} {c : Bool} (h : eqD s x y = some (.bl c)) : neD s x y = some (.bl (!c)) := by
  unfold neD
  unfold eqD at h
  cases q : eqB s x y with
  | none => rw [q] at h; cases h
  | some c' => rw [q] at h; cases h; rfl
end
end MP
namespace MP
open PySem PySem.Spec PyProof.Rows L2
mutual
theorem eqv_refl : ∀ d : PyData, d.hasDict = false → PyData.eqv d d = true
  | .none, _ => by simp only [PyData.eqv]
  | .bool b, _ => by simp only [PyData.eqv]; cases b <;> rfl
  | .int i, _ => by simp only [PyData.eqv]; exact beq_self_eq_true i
  | .str x, _ => by simp only [PyData.eqv]; exact beq_self_eq_true x
  | .list xs, h => by simp only [PyData.eqv]; exact eqvs_refl xs (by simpa only [PyData.hasDict] using h)
  | .tuple xs, h => by simp only [PyData.eqv]; exact eqvs_refl xs (by simpa only [PyData.hasDict] using h)
  | .dict _, h => by simp [PyData.hasDict] at h
theorem eqvs_refl : ∀ ds : List PyData, PyData.hasDictAll ds = false → PyData.eqvAll ds ds = true
  | [], _ => by simp only [PyData.eqvAll]
  | d :: ds, h => by
    simp only [PyData.hasDictAll, Bool.or_eq_false_iff] at h
    simp only [PyData.eqvAll, eqv_refl d h.1, eqvs_refl ds h.2]; rfl
end
section
variable {n m k j : Nat} {w v : Dv} {d e : PyData} {s : Sto} {ws us : List Dv}
theorem shaped_pl (h : Pl n k w d) (hk : k ≤ 64) : SeqAt.shaped d = true := by
  unfold SeqAt.shaped
  rw [h.lay, decide_eq_true (Nat.le_trans h.deep hk)]
  rfl
/-- == of two rows or lists -/
theorem eq_pl (hw : flat w = none) (ht : toD s w = toD0 w) (hv : toD s v = toD0 v) (h : Pl n k w d) (h2 : Pl m j v e) (hk : k ≤ 64) (hj : j ≤ 64) : eqD s w v = some (.bl (PyData.eqv d e)) := by
  unfold eqD eqB
  rw [hw]
  dsimp only
  rw [ht, hv, h.to, h2.to]
  dsimp only
  rw [if_pos ⟨shaped_pl h hk, shaped_pl h2 hj⟩]
  rfl
theorem eq_tt (h : Pl n k (.tup ws) d) (h2 : Pl m j (.tup us) e) (hk : k ≤ 64) (hj : j ≤ 64) : eqD s (.tup ws) (.tup us) = some (.bl (PyData.eqv d e)) := eq_pl rfl rfl rfl h h2 hk hj
theorem eq_ll (h : Pl n k (.lst ws) d) (h2 : Pl m j (.lst us) e) (hk : k ≤ 64) (hj : j ≤ 64) : eqD s (.lst ws) (.lst us) = some (.bl (PyData.eqv d e)) := eq_pl rfl rfl rfl h h2 hk hj
theorem eq_t_refl (h : Pl n k (.tup ws) d) (hk : k ≤ 64) : eqD s (.tup ws) (.tup ws) = some (.bl true) := by rw [eq_tt h h hk hk, eqv_refl d h.nod]
theorem eq_l_refl (h : Pl n k (.lst ws) d) (hk : k ≤ 64) : eqD s (.lst ws) (.lst ws) = some (.bl true) := by rw [eq_ll h h hk hk, eqv_refl d h.nod]
end
end MP
namespace MP
open PySem PySem.Spec PyProof.Rows L2
section
variable {n : Nat} {c c' : FS} {ρ ρ1 : Env} {s s1 : Sto} {r : R Dv} {w : Dv} {x : Ex}
theorem fin_nx (h : c ρ s = .nx ρ1 s1) (k : finC n (c' ρ1 s1) = r) : finC n (mSeq c c' ρ s) = r := by rw [seq_nx h rfl]; exact k
theorem fin_rtS (h : c ρ s = .rt w s1) (k : finC n (.rt w s1) = r) : finC n (mSeq c c' ρ s) = r := by rw [seq_rt h]; exact k
theorem seq_er (h : c ρ s = .er x ρ1 s1) : mSeq c c' ρ s = .er x ρ1 s1 := by
  unfold mSeq
  rw [h]
theorem fin_erS (h : c ρ s = .er x ρ1 s1) (k : finC n (.er x ρ1 s1) = r) : finC n (mSeq c c' ρ s) = r := by rw [seq_er h]; exact k
end
end MP
namespace MP
open PySem PySem.Spec PyProof.Rows L2
section
variable {t u : FT} {ρ : Env} {s s1 : Sto} {r : R Bool}
theorem or_f (h : t ρ s = .ok false s1) (h2 : u ρ s1 = r) : mOr t u ρ s = r := by unfold mOr; rw [h, bind_ok, if_neg Bool.false_ne_true, h2]
theorem and_t (h : t ρ s = .ok true s1) (h2 : u ρ s1 = r) : mAnd t u ρ s = r := by unfold mAnd; rw [h, bind_ok, if_pos rfl, h2]
theorem and_f (h : t ρ s = .ok false s1) : mAnd t u ρ s = .ok false s1 := by unfold mAnd; rw [h, bind_ok]; exact if_neg Bool.false_ne_true
theorem not_vt (h : t ρ s = .ok true s1) : mNot t ρ s = .ok false s1 := not_v h
end
end MP
namespace MP
open PySem PySem.Spec PyProof.Rows L2
section
variable {ρ : Env} {s s1 s2 : Sto} {f : FE} {fa : FA} {x : Ex} {d : Fn} {o : ON} {g : FG} {w : Dv} {k : Nat}
theorem expr_v (h : f ρ s = .ok w s1) : mExpr f ρ s = .nx ρ s1 := by unfold mExpr; rw [h]; rfl
end
end MP
set_option Elab.async false
set_option linter.all false
set_option maxRecDepth 100000
set_option maxHeartbeats 4000000
namespace MP
open PySem PySem.Spec PyProof.Rows L2
end MP
set_option Elab.async false
set_option linter.all false
set_option maxRecDepth 100000
set_option maxHeartbeats 4000000
namespace MP
open PySem PySem.Spec PyProof.Rows L2
end MP
set_option Elab.async false
set_option linter.all false
set_option maxRecDepth 100000
set_option maxHeartbeats 4000000
namespace MP
open PySem PySem.Spec PyProof.Rows L2
end MP
namespace MP
open PySem PySem.Spec PyProof.Rows L2
end MP
set_option Elab.async false
set_option linter.all false
set_option maxRecDepth 100000
set_option maxHeartbeats 400000
namespace MP
open PySem PySem.Spec PyProof.Rows L2 TL PySem.NumText
end MP
set_option Elab.async false
set_option linter.all false
set_option maxRecDepth 100000
set_option maxHeartbeats 400000
namespace MP
open PySem PySem.Spec PyProof.Rows L2
end MP
set_option Elab.async false
set_option linter.all false
set_option maxRecDepth 100000
set_option maxHeartbeats 4000000
namespace MP
open PySem PySem.Spec PyProof.Rows L2
open Sem (wp)
end MP
set_option Elab.async false
set_option linter.all false
set_option maxRecDepth 100000
set_option maxHeartbeats 4000000
namespace MP
open PySem PySem.Spec PyProof.Rows L2
section
variable {X : Cx} {Γ : Ct} {W : WX}
theorem RX.weak {H : Hp} {μ : Mu} {Z Z' : Zs} {x : Ex} {c : Value} {d : Option Addr} (h : ∀ a, Z a → Z' a) (r : RX Γ H μ Z' x c d) : RX Γ H μ Z x c d := by
  rcases r with r | ⟨h0, h1, dd, v, h2, h3, h4, h5⟩
  · exact .inl r
  · exact .inr ⟨h0, h1, dd, v, h2, h3, h4.weak h, RV.weak h x.w h5⟩
end
end MP
set_option Elab.async false
set_option linter.all false
set_option maxRecDepth 100000
set_option maxHeartbeats 400000
namespace MP
open PySem PySem.Spec PyProof.Rows L2 TL PySem.NumText
structure Tx (n : Nat) (x : Str) : Prop where
  low : ∀ c ∈ tl x, c < 128
  len : x.length ≤ n
theorem Tx.mono {n m : Nat} {x : Str} (h : Tx n x) (k : n ≤ m) : Tx m x := ⟨h.low, Nat.le_trans h.len k⟩
/-- the int of a word that passes -/
def vl (w : Str) : Int := (PySem.intText? w).getD 0
end MP
set_option Elab.async false
set_option linter.all false
set_option maxRecDepth 100000
set_option maxHeartbeats 4000000
namespace MP
open PySem PySem.Spec PyProof.Rows L2
/-- a table: where the code object of its def stands, where the table, the lambdas' name -/
structure Tb where
  c : Addr
  T : Addr
  q : Str
def tabsOf : Nat → List Tb → Sto
  | _, [] => []
  | i, t :: r => .tab i t.q :: tabsOf (i + 1) r
theorem tabsOf_len : ∀ (i : Nat) (r : List Tb), (tabsOf i r).length = r.length
  | _, [] => rfl
  | i, t :: r => by simp [tabsOf, tabsOf_len (i + 1) r]
theorem tabsOf_get : ∀ {i n : Nat} {r : List Tb} {o : Ob}, (tabsOf i r)[n]? = some o → ∃ t, r[n]? = some t ∧ o = .tab (i + n) t.q
  | i, n, [], o, h => by simp [tabsOf] at h
  | i, 0, t :: r, o, h => by
    simp [tabsOf] at h
    exact ⟨t, rfl, h.symm⟩
  | i, n + 1, t :: r, o, h => by
    have h' : (tabsOf (i + 1) r)[n]? = some o := by simpa [tabsOf] using h
    obtain ⟨t', h1, h2⟩ := tabsOf_get h'
    exact ⟨t', by simpa using h1, by rw [h2]; congr 1; omega⟩
def Ts (tabs : List Tb) : List Addr := tabs.map (·.T)
section
variable {P : Program} {w : World} {Γ : Ct} {mg mb : Str → Option Value} {k : Nat} {fa a : Addr} {fd : FuncData} {x : Str} {den : Fn} {s₁ : Shared} {vs : List Value} {ns : List Int} {tabs : List Tb}
theorem law_GTs (KX : Γ.K.In s₁.heap) (hns : s₁.heap.Ns mainGlobals mg) (hb : s₁.heap.Ns builtinsNs mb) (hbb : ∀ x : Str, x ≠ "__name__" → mb x = bootBuiltins x) (hlim : s₁.heap.NoLimit) (hg : s₁.gens = #[])
    (hT : ∀ t ∈ tabs, s₁.heap.get? t.T = some { cls := .none, data := .fields #[] } ∧ Γ.K.lookup t.T = none ∧ PySem.W.CodeHd s₁.heap t.c t.T) (hΓ : ∀ (i : Nat) (t : Tb), tabs[i]? = some t → Γ.tb i = t.T) (nd : (Ts tabs).Nodup)
    (hbm : ∃ (bm : Addr) (ob : Obj), mg "__builtins__" = some (.ref bm) ∧ bm ≠ builtinsNs ∧ s₁.heap.get? bm = some ob ∧ ob.cls = .type "module" ∧ ob.dict = some builtinsNs ∧ ob.data = .plain)
    (ha : s₁.heap.get? a = some { cls := .type "list", data := .seq vs.toArray }) (hi : IntsAre vs ns) (hl : ns.length ≤ sizeLine) (hr : Room k callerA)
    (F : ∀ base : Heap, Γ.K.In base → base.Ns mainGlobals mg → (∀ t ∈ tabs, LamX.TabB base mg t.c t.T) → FnG P w mg base Γ k fa fd [x] den) (hbind : ∀ (s : Shared) (u : Value), BindsTo s fd ⟨[u], []⟩ [(x, u)])
    (hden : ∃ s', den [.sq (ns.map .int)] (tabsOf 0 tabs) = .ok (.bl true) s') :
    codeAny (model P w) callerA (.call (.ref fa) ⟨[.ref a], []⟩) (fun r s' => r = .ok (.ret (.bool true)) ∧ OldK s₁.heap s'.heap ∧ s'.os = s₁.os ∧ AllBare s'.gens) s₁ := by
  have rv : Vals (ns.map V.int) vs := vals_ints hi
  have rl := hi.length
  let ob : Obj := { cls := .type "list", data := .seq vs.toArray }
  let tr : HO := .frz ob (.lst (ns.map V.int))
  let H : Hp := fun b => if b = a ∧ Γ.K.lookup a = none then some tr else if b ∈ Ts tabs then some (.tbl #[]) else none
  have inT : ∀ {b : Addr}, b ∈ Ts tabs → ∃ t ∈ tabs, t.T = b := fun h => List.mem_map.mp h
  have atT : ∀ {b : Addr}, b ∈ Ts tabs → s₁.heap.get? b = some { cls := .none, data := .fields #[] } := fun h => by
    obtain ⟨t, h1, rfl⟩ := inT h
    exact (hT t h1).1
  have nT : ∀ {b : Addr}, b ∈ Ts tabs → Γ.K.lookup b = none := fun h => by
    obtain ⟨t, h1, rfl⟩ := inT h
    exact (hT t h1).2.1
  have naT : ∀ {b : Addr}, b ∈ Ts tabs → a ≠ b := fun h z => by rw [z, atT h] at ha; cases ha
  have HT : ∀ {b : Addr}, b ∈ Ts tabs → H b = some (.tbl #[]) := fun {b} h => by
    show (if b = a ∧ Γ.K.lookup a = none then some tr else if b ∈ Ts tabs then some (HO.tbl #[]) else none) = _
    rw [if_neg (fun z => naT h z.1.symm), if_pos h]
  have Hin : ∀ b o, H b = some o → ((b = a ∧ Γ.K.lookup a = none) ∧ o = tr) ∨ (b ∈ Ts tabs ∧ o = .tbl #[]) := fun b o e => by
    have e' : (if b = a ∧ Γ.K.lookup a = none then some tr else if b ∈ Ts tabs then some (HO.tbl #[]) else none) = some o := e
    split at e'
    · exact .inl ⟨by assumption, (Option.some.inj e').symm⟩
    · split at e'
      · exact .inr ⟨by assumption, (Option.some.inj e').symm⟩
      · cases e'
  have free : ∀ b, ¬ (b = a ∧ Γ.K.lookup a = none) → b ∉ Ts tabs → H b = none := fun b c d => (if_neg c).trans (if_neg d)
  have hok : HOk P w H s₁.heap := fun b o e => by
    rcases Hin b o e with ⟨⟨rfl, _⟩, rfl⟩ | ⟨h, rfl⟩
    · exact ⟨ha, by rw [List.length_map]; exact hl, vs, _, rv, ha⟩
    · exact atT h
  let base := hidT s₁.heap H
  have keeps : ∀ {b : Addr} {o : Obj}, s₁.heap.get? b = some o → (∀ (u : Array Value) (n : Nat), o.data ≠ .seq u n) → o.cls ≠ .none → base.get? b = some o := fun {b o} e h1 h2 => hidT_get e (free b (fun z => by
    rw [z.1, ha] at e
    cases e
    exact h1 _ _ rfl) fun z => by
    rw [atT z] at e
    cases e
    exact h2 rfl)
  have dictIn : ∀ {b : Addr} {m : Str → Option Value}, s₁.heap.Ns b m → base.Ns b m := fun {b m} ⟨o, es, ep, e, d, r⟩ => by
    refine ⟨o, es, ep, hidT_get e (free b (fun z => ?_) fun z => ?_), d, r⟩
    · rw [z.1, ha] at e
      cases e
      cases d
    · rw [atT z] at e
      cases e
      cases d
  have kIn : Γ.K.In base := fun b o e => hidT_get (KX b o e) (free b (fun z => by
    rw [z.1, z.2] at e
    cases e) fun z => by
    rw [nT z] at e
    cases e)
  have gM : base.Ns mainGlobals mg := dictIn hns
  have md : Mod Γ.K mg base := ⟨kIn, gM, ⟨mb, dictIn hb, hbb⟩, let ⟨mc, h1, h2⟩ := hlim; ⟨mc, dictIn h1, h2⟩⟩
  have gT : ∀ {b : Addr}, b ∈ Ts tabs → mainGlobals ≠ b := fun h z => by
    obtain ⟨o, es, ep, e, d, _⟩ := hns
    rw [z, atT h] at e
    cases e
    cases d
  have TB : ∀ t ∈ tabs, LamX.TabB base mg t.c t.T := fun t ht => by
    have htT : t.T ∈ Ts tabs := List.mem_map.mpr ⟨t, ht, rfl⟩
    refine ⟨?_, ?_, gT htT⟩
    · obtain ⟨o, us, file, tf, flags, tg, inF, text, tt, e1, r1, r2, r⟩ := (hT t ht).2.2
      exact ⟨o, us, file, tf, flags, tg, inF, text, tt, keeps e1 (fun u n z => by rw [r2] at z; cases z) (fun z => by rw [r1] at z; cases z), r1, r2, r⟩
    · obtain ⟨bm, o, b1, b2, b3, b4, b5, b6⟩ := hbm
      refine ⟨bm, o, b1, b2, fun z => ?_, fun z => ?_, keeps b3 (fun u n z => by rw [b6] at z; cases z) (fun z => by rw [b4] at z; cases z), b4, b5, b6⟩
      · obtain ⟨o2, es, ep, e, d, _⟩ := hns
        rw [z, e] at b3
        cases b3
        rw [b6] at d
        cases d
      · rw [z, atT htT] at b3
        cases b3
        cases b6
  have e0 : Env0 P w Γ.K mg base callerA [] s₁ H :=
    { frames := rfl, mod := md, bs := fun b o e => of_hidT e, bsz := Nat.le_of_eq (hidT_size _ _), funs := trivial, frf := fun b hb => (nomatch hb), hok := hok, bare := .of_eq hg }
  obtain ⟨s', hd⟩ := hden
  let μ : Mu := fun n => (Ts tabs)[n]?
  have μin : ∀ {n : Nat} {b : Addr}, μ n = some b → b ∈ Ts tabs := fun {n b} z => List.mem_of_getElem? z
  have rs : RV Γ H μ (fun _ => False) (.sq (ns.map .int)) (.ref a) := by
    refine ⟨a, _, rfl, ?_, RVs.of_ints ns⟩
    cases hk : Γ.K.lookup a with
    | none => exact .inl ⟨.inr ⟨ob, if_pos ⟨rfl, hk⟩⟩, ⟨fun n z => naT (μin z) rfl, id⟩⟩
    | some o =>
      have e := KX a o hk
      rw [ha] at e
      cases e
      exact .inr ⟨_, vs.toArray, _, hk, rfl, rfl, rfl, by rw [List.size_toArray, rl]; exact hl, by simpa using rv⟩
  have rep : Rep Γ H μ (fun _ => False) (tabsOf 0 tabs) := ⟨fun n o e => by
    obtain ⟨t, h1, rfl⟩ := tabsOf_get e
    have h2 : t.T ∈ Ts tabs := List.mem_map.mpr ⟨t, List.mem_of_getElem? h1, rfl⟩
    refine ⟨t.T, ?_, id, ?_, #[], HT h2, trivial, fun pos cv z => by simp [codeAmong] at z⟩
    · show (Ts tabs)[n]? = some t.T
      unfold Ts
      rw [List.getElem?_map, h1]
      rfl
    · rw [Nat.zero_add]
      exact (hΓ n t h1).symm, fun n m b e1 e2 => by
      have h1 := (List.getElem?_eq_some_iff.mp e1)
      have h2 := (List.getElem?_eq_some_iff.mp e2)
      obtain ⟨l1, g1⟩ := h1
      obtain ⟨l2, g2⟩ := h2
      exact (List.getElem_inj nd).mp (g1.trans g2.symm), fun n b e => by
      obtain ⟨l1, _⟩ := List.getElem?_eq_some_iff.mp e
      rw [tabsOf_len]
      unfold Ts at l1
      rw [List.length_map] at l1
      exact l1, fun b z => z.elim⟩
  refine codeAny_mono ((F base kIn gM TB).run callerA [] s₁ H ⟨[.ref a], []⟩ [.ref a] [.ref a] (fun v _ => v = .bl true) (fun _ _ _ => False) hr rfl e0 (hbind s₁ (.ref a)) (.cons rfl .nil)
    ⟨rfl, μ, _, _, [.sq (ns.map .int)], rep, RVs.cons rs rfl, by rw [hd]; exact fun v H' μ' _ _ r => r⟩) fun r s2 h => ?_
  cases r with
  | error e =>
    obtain ⟨_, _, _, _, _, _, _, _, _, _, _, _, z⟩ := h
    exact z.elim
  | ok fl =>
    cases fl with
    | next => exact h.elim
    | brk => exact h.elim
    | cont => exact h.elim
    | ret u =>
      obtain ⟨v, H', os, bare, un, hok', rv', q'⟩ := h
      obtain rfl : v = .bl true := q'
      obtain rfl : u = Value.bool true := rv'
      have key : ∀ b o, b ∉ Ts tabs → s₁.heap.get? b = some o → s2.heap.get? b = some o := fun b o nb e => by
        cases qb : H b with
        | none => exact un.keep b o e qb (fun z => nomatch z) (fun z => nomatch z)
        | some u =>
          rcases Hin b u qb with ⟨⟨rfl, _⟩, rfl⟩ | ⟨z, _⟩
          · obtain ⟨e2, _⟩ := hok' b _ (un.frzs b ob _ qb)
            rw [ha] at e
            cases e
            exact e2
          · exact absurd z nb
      have grown : ∀ b, b ∈ Ts tabs → ∃ more, s2.heap.get? b = some { cls := .none, data := .fields (#[] ++ more) } := fun b h => by
        obtain ⟨more, z⟩ := un.tbls b #[] (HT h)
        exact ⟨more, hok' b _ z⟩
      refine ⟨rfl, ⟨fun b o e => ?_, fun b o e => ?_⟩, os, bare⟩
      · by_cases h : b ∈ Ts tabs
        · obtain ⟨t, ht, rfl⟩ := inT h
          obtain ⟨more, g⟩ := grown _ h
          rw [atT h] at e
          cases e
          exact .inr (.inl ⟨((hT t ht).2.2.tab (hT t ht).1).isCodeTable, rfl, #[], more, rfl, g⟩)
        · exact .inl (key b o h e)
      · by_cases h : b ∈ Ts tabs
        · obtain ⟨more, g⟩ := grown _ h
          exact ⟨_, g⟩
        · exact ⟨o, key b o h e⟩
/-- what the head leaves to be shown; ys: the defs that make lambdas -/
theorem walk_GTs {l : PySem.W.OpenLaw} {n k : Nat} {q : Program} {loose : List Str} {XP : (Str → Option Value) → Heap → Prop} {YP : World → Heap → Prop} {d : DefRec} {Kf : Params → PySem.W.Frag} {x : Str} {ys qs : List Str} (hn : l.most = some n) (hn2 : n ≤ sizeLine) (hdf : d.params.defaults = []) (hr : Room k callerA)
    (hY : ∀ (w : World) (h : Heap), YP w h → (Kf w.params).In h) (hy : ∀ y ∈ ys, ∃ dy, (recsOf q).find? (fun e => e.name == y) = some dy)
    (F : ∀ (w : World) (mg : Str → Option Value) (fa : Addr) (h : Heap), (Kf w.params).In h → h.Ns mainGlobals mg → mg d.name = some (.ref fa) →
      ∃ (Γ : Ct) (fd : FuncData) (den : Fn) (tabs : List Tb), Γ.K = Kf w.params ∧ (∀ (i : Nat) (t : Tb), tabs[i]? = some t → Γ.tb i = t.T) ∧ (Ts tabs).Nodup ∧ (∀ t ∈ tabs, ∃ y ∈ ys, PySem.W.tabIn Γ.K y = some (t.c, t.T) ∧ Γ.K.lookup t.T = none) ∧ tabs.map (·.q) = qs ∧ (∀ (s : Shared) (u : Value), BindsTo s fd ⟨[u], []⟩ [(x, u)]) ∧
        (∀ base : Heap, Γ.K.In base → base.Ns mainGlobals mg → (∀ t ∈ tabs, LamX.TabB base mg t.c t.T) → FnG l.prog w mg base Γ k fa fd [x] den) ∧
        ∀ ns : List Int, ns.length ≤ n → ∃ s', den [.sq (ns.map .int)] (tabsOf 0 (qs.map fun q => ⟨0, 0, q⟩)) = .ok (.bl true) s') :
    PySem.W.WalkO q loose XP YP l.row.toRowW d [] (fun f vs => PySem.call f vs) := by
  refine Att.attach_call hn hdf fun w s₀ s₁ mg mb fa o pm cd doc a vs ns G Y ho hd hcd hmg hobj hints hlen hg => ?_
  have KX := hY w _ Y
  obtain ⟨Γ, fd, den, tabs, hK, hΓ, nd, ht, hq, hb, hF, hden⟩ := F w mg fa _ KX G.T.g hmg
  have et : ∀ (i : Nat) (r : List Tb), tabsOf i ((r.map (·.q)).map fun q => ⟨0, 0, q⟩) = tabsOf i r := fun i r => by
    induction r generalizing i with
    | nil => rfl
    | cons t r ih => simp only [List.map_cons, tabsOf, ih]
  refine law_GTs (hK ▸ KX) G.T.g G.T.b G.T.builtins G.T.nolimit hg (fun t h => ?_) hΓ nd G.T.bmain hobj hints (Nat.le_trans hlen hn2) hr hF hb (by
    obtain ⟨s', e⟩ := hden ns hlen
    rw [← hq, et] at e
    exact ⟨s', e⟩)
  obtain ⟨y, hy1, h1, h2⟩ := ht t h
  obtain ⟨dy, hy2⟩ := hy y hy1
  obtain ⟨hC, hT⟩ := PySem.W.tab_of G.T (hK ▸ KX) hy2 h1
  exact ⟨hT, h2, hC⟩
end
end MP
set_option Elab.async false
set_option linter.all false
set_option maxRecDepth 100000
set_option maxHeartbeats 4000000
namespace MP.Raw
open PySem Builtin Builtin.ObjectAttr
end MP.Raw
namespace MP
open PySem PySem.Spec PyProof.Rows L2
end MP
set_option Elab.async false
set_option linter.all false
set_option maxRecDepth 100000
set_option maxHeartbeats 4000000
namespace MP
open PySem PySem.Spec PyProof.Rows L2
end MP
set_option Elab.async false
set_option linter.all false
set_option maxRecDepth 100000
set_option maxHeartbeats 4000000
namespace MP
open PySem PySem.Spec PyProof.Rows L2
end MP
set_option Elab.async false
set_option linter.all false
set_option maxRecDepth 100000
set_option maxHeartbeats 4000000
namespace MP
open PySem PySem.Spec PyProof.Rows L2
end MP
namespace MP
open PySem PySem.Spec PyProof.Rows L2
end MP
set_option Elab.async false
set_option linter.all false
set_option maxRecDepth 100000
set_option maxHeartbeats 4000000
namespace MP.Raw
open PySem
end MP.Raw
set_option Elab.async false
set_option linter.all false
set_option maxRecDepth 100000
set_option maxHeartbeats 4000000
namespace MP.Raw
open PySem
end MP.Raw
set_option Elab.async false
set_option linter.all false
set_option maxRecDepth 100000
set_option maxHeartbeats 4000000
namespace MP.Raw
open PySem
end MP.Raw
namespace MP
open PySem PySem.Spec PyProof.Rows L2
end MP
set_option Elab.async false
set_option linter.all false
set_option maxRecDepth 100000
set_option maxHeartbeats 4000000
namespace MP
open PySem PySem.Spec PyProof.Rows L2 MP.Raw
end MP
set_option Elab.async false
set_option linter.all false
set_option maxRecDepth 100000
set_option maxHeartbeats 4000000
namespace MP
open PySem PySem.Spec PyProof.Rows L2
section
variable {X : Cx} {pins : List (Addr × Obj)} {σ : L2.St} {H : Hp} {s : Shared}
abbrev Fzn (o : Obj) : HO := .frz o (.own 0)
end
/-- a lambda, as it is written -/
structure LamW where
  params : Arguments
  body : Expr
  scope : Scope
/-- at f: that lambda, made by the def at hand -/
def LamAt (X : Cx) (L : LamW) (H : Hp) (μ : Mu) (Z : Zs) (f : Addr) : Prop := ∃ (c' : Addr) (dV doc ctv : Value) (tl : List (Addr × Obj)),
  H f = some (Fzn (lamObj (X.env.qual ++ "<lambda>") L.params L.body L.scope (cloFrom X.env.cells L.scope.names []) dV doc ((X.mg "__name__").getD .none) c' ctv)) ∧ Fz μ Z f ∧ H c' = some (LamX.CodeO c' (X.env.qual ++ "<lambda>")) ∧ Fz μ Z c' ∧
  (∀ p ∈ tl, H p.1 = some (Fzn p.2) ∧ Fz μ Z p.1) ∧
  ∀ s1 : Shared, (∀ p ∈ tl, s1.heap.get? p.1 = some p.2) → ∃ binds, BindsTo s1 (lamFd (X.env.qual ++ "<lambda>") L.params L.body L.scope (cloFrom X.env.cells L.scope.names []) dV doc ((X.mg "__name__").getD .none) c' ctv) ⟨[], []⟩ binds ∧ ∀ y ∈ binds, L.scope.names.lookup y.1 = some .local
theorem LamAt.mono {X : Cx} {L : LamW} {H H' : Hp} {μ μ' : Mu} {Z : Zs} {f : Addr} (e : Evo H μ H' μ') (h : LamAt X L H μ Z f) : LamAt X L H' μ' Z f := by
  obtain ⟨c', dV, doc, ctv, tl, h1, h2, h3, h4, h5, h6⟩ := h
  have al : ∀ {a : Addr} {o : HO}, H a = some o → H a ≠ none := fun q z => by rw [q] at z; cases z
  exact ⟨c', dV, doc, ctv, tl, e.keep _ _ h1 h2.1, e.fz (al h1) h2, e.keep _ _ h3 h4.1, e.fz (al h3) h4, fun p hp => ⟨e.keep _ _ (h5 p hp).1 (h5 p hp).2.1, e.fz (al (h5 p hp).1) (h5 p hp).2⟩, h6⟩
end MP
set_option Elab.async false
set_option linter.all false
set_option maxRecDepth 100000
set_option maxHeartbeats 4000000
namespace MP
open PySem PySem.Spec PyProof.Rows L2
end MP
namespace MP
open PySem PySem.Spec PyProof.Rows L2
theorem me_cal0 {X : Cx} {Γ : Ct} {W : WX} {k : Nat} {den : Fn} {x : Str} {p pos : Pos} (C : Cal X.prog X.w X.mg X.base Γ k x [] den) (hK : Γ.K = X.K) (hr : Room k X.A) (hg : X.A.guards = some []) (tk : Takes X W) (hgl : Gl X x) (hdb : (x == ("__debug__" : Str)) = false := by decide) :
    ME X Γ W (.Call (.Name x p) [] [] pos) (mCall den mNil) := by
  obtain ⟨f, fd, F, hm, hk, hb⟩ := C
  refine ⟨fun pins s σ H Q I ⟨μ, Z, ρ, s0, hE, hR, q⟩ => ?_⟩
  refine wpAny_Call_Name_kw (ld_glob I hgl hm ?_ hdb)
  exact PySem.W.callWith_K0 I.kIn (hK ▸ hk) (run_G (us := []) (vs := []) (ds := []) (dvs := []) F hK hr hg (hK ▸ hb) .nil tk I .nil ⟨rfl, μ, Z, s0, [], hR, rfl, post_call q⟩)
end MP
set_option Elab.async false
set_option linter.all false
set_option maxRecDepth 100000
set_option maxHeartbeats 4000000
namespace MP
open PySem PySem.Spec PyProof.Rows L2
end MP
namespace MP
open PySem PySem.Spec PyProof.Rows L2
end MP
set_option Elab.async false
set_option linter.all false
set_option maxRecDepth 100000
set_option maxHeartbeats 4000000
namespace MP
open PySem PySem.Spec PyProof.Rows L2
def putFD (f : Str) (w : Dv) : List (Str × Dv) → List (Str × Dv)
  | [] => [(f, w)]
  | (g, x) :: r => if g = f then (g, w) :: r else (g, x) :: putFD f w r
section
variable {Γ : Ct} {H : Hp} {μ : Mu} {Z : Zs}
theorem look_some {f : Str} {w : Dv} : ∀ {fs : List (Str × Dv)} {kvs : List (Str × V)}, kvs.map (·.1) = fs.map (·.1) → RVs Γ H μ Z (fs.map (·.2)) (kvs.map (·.2)) → fs.lookup f = some w → ∃ v, kvs.lookup f = some v ∧ RV Γ H μ Z w v
  | [], _, _, _, e => by cases e
  | (g, x) :: fs, [], h, _, _ => by cases h
  | (g, x) :: fs, (g', v) :: kvs, h, r, e => by
    have hg : g' = g := by simpa using (List.cons.inj h).1
    have ht : kvs.map (·.1) = fs.map (·.1) := (List.cons.inj h).2
    subst hg
    obtain ⟨y, ys, e1, r1, r2⟩ := r
    have ey : v = y := by simpa using (List.cons.inj e1).1
    have eys : kvs.map (·.2) = ys := (List.cons.inj e1).2
    subst ey
    subst eys
    rw [List.lookup_cons] at e ⊢
    cases q : f == g' with
    | true => rw [q] at e; cases e; exact ⟨v, rfl, r1⟩
    | false => rw [q] at e; exact look_some ht r2 e
theorem look_none {f : Str} : ∀ {fs : List (Str × Dv)} {kvs : List (Str × V)}, kvs.map (·.1) = fs.map (·.1) → fs.lookup f = none → kvs.lookup f = none
  | [], [], _, _ => rfl
  | [], _ :: _, h, _ => by cases h
  | (g, x) :: fs, [], h, _ => by cases h
  | (g, x) :: fs, (g', v) :: kvs, h, e => by
    have hg : g' = g := by simpa using (List.cons.inj h).1
    have ht : kvs.map (·.1) = fs.map (·.1) := (List.cons.inj h).2
    subst hg
    rw [List.lookup_cons] at e ⊢
    cases q : f == g' with
    | true => rw [q] at e; cases e
    | false => rw [q] at e; exact look_none ht e
theorem putFD_ok {f : Str} {w : Dv} {v : V} (rw' : RV Γ H μ Z w v) : ∀ {fs : List (Str × Dv)} {kvs : List (Str × V)}, kvs.map (·.1) = fs.map (·.1) → RVs Γ H μ Z (fs.map (·.2)) (kvs.map (·.2)) →
    (putF f v kvs).map (·.1) = (putFD f w fs).map (·.1) ∧ RVs Γ H μ Z ((putFD f w fs).map (·.2)) ((putF f v kvs).map (·.2))
  | [], [], _, _ => ⟨rfl, RVs.cons rw' RVs.nil⟩
  | [], _ :: _, h, _ => by cases h
  | (g, x) :: fs, [], h, _ => by cases h
  | (g, x) :: fs, (g', u) :: kvs, h, r => by
    have hg : g' = g := by simpa using (List.cons.inj h).1
    have ht : kvs.map (·.1) = fs.map (·.1) := (List.cons.inj h).2
    subst hg
    obtain ⟨y, ys, e1, r1, r2⟩ := r
    have ey : u = y := by simpa using (List.cons.inj e1).1
    have eys : kvs.map (·.2) = ys := (List.cons.inj e1).2
    subst ey
    subst eys
    unfold putF putFD
    by_cases q : g' = f
    · rw [if_pos q, if_pos q]
      exact ⟨by rw [List.map_cons, List.map_cons, ht], RVs.cons rw' r2⟩
    · rw [if_neg q, if_neg q]
      obtain ⟨k1, k2⟩ := putFD_ok rw' ht r2
      exact ⟨by rw [List.map_cons, List.map_cons, k1], RVs.cons r1 k2⟩
end
def objOf (c : Nat) (s : Sto) (x : Dv) : Option (List (Str × Dv)) := match x with
  | .ref n => match s[n]? with
    | some (.obj c' fs) => if c' = c then some fs else none
    | _ => none
  | _ => none
theorem objOf_ok {Γ : Ct} {H : Hp} {μ : Mu} {Z : Zs} {c : Nat} {s : Sto} {x : Dv} {v : V} {fs : List (Str × Dv)} (hR : Rep Γ H μ Z s) (r : RV Γ H μ Z x v) (e : objOf c s x = some fs) :
    ∃ n a dx kvs, x = .ref n ∧ s[n]? = some (.obj c fs) ∧ μ n = some a ∧ v = .ref a ∧ H a = some (.ins (Γ.cls c) dx kvs) ∧ kvs.map (·.1) = fs.map (·.1) ∧ RVs Γ H μ Z (fs.map (·.2)) (kvs.map (·.2)) := by
  unfold objOf at e
  split at e
  · rename_i n
    split at e
    · rename_i c' fs' q
      split at e
      · rename_i hc
        cases e
        subst hc
        obtain ⟨a, h1, h2⟩ := r
        obtain ⟨a', g1, _, dx, kvs, g3, g4, g5⟩ := hR.at n _ q
        rw [h2] at g1
        cases g1
        exact ⟨n, a, dx, kvs, rfl, q, h2, h1, g3, g4, g5⟩
      · cases e
    · cases e
  · cases e
def ofD (c : Nat) (f : Str) (s : Sto) (x : Dv) : Option Dv := (objOf c s x).bind (·.lookup f)
def mOf (c : Nat) (f : Str) (fo : FE) : FE := fun ρ s => (fo ρ s).bind fun x s1 => R.of (ofD c f s1 x) s1
def mFSet (c : Nat) (f : Str) (fo fv : FE) : FS := fun ρ s => (fv ρ s).thenC ρ fun v s1 => (fo ρ s1).thenC ρ fun x s2 => match x with
  | .ref n => match s2[n]? with
    | some (.obj c' fs) => if c' = c ∧ fs.length < 100 then .nx ρ (s2.set n (.obj c (putFD f v fs))) else .no
    | _ => .no
  | _ => .no
/-- a method, a property, a special method of an instance; m: a name that must not stand in its dict -/
def mAsk (c : Nat) (m : Option Str) (den : Fn) (fo : FE) (fa : FA) : FE := fun ρ s => (fo ρ s).bind fun x s1 => match objOf c s1 x with
  | some fs => if (m.all fun y => (fs.lookup y).isNone) = true then (fa ρ s1).bind fun ws s2 => den (x :: ws) s2 else .no
  | none => .no
def mMake (c : Nat) (den : Fn) (fa : FA) : FE := fun ρ s => (fa ρ s).bind fun ws s1 => match den (.ref s1.length :: ws) (s1 ++ [.obj c []]) with
  | .ok .non s2 => .ok (.ref s1.length) s2
  | .er x s2 => .er x s2
  | _ => .no
def lenBk : R Dv → R Dv
  | .ok (.int n) s => if 0 ≤ n ∧ n < 2 ^ 62 then .ok (.int n) s else .no
  | _ => .no
def mLenO (c : Nat) (den : Fn) (fa : FA) : FE := fun ρ s => (fa ρ s).bind fun ws s1 => match ws with
  | [x] => match objOf c s1 x with
    | some _ => lenBk (den [x] s1)
    | none => .no
  | _ => .no
section
variable {X : Cx} {Γ : Ct} {W : WX} {c : Nat} {f : Str} {e o value : Expr} {fo fv : FE} {pos pos' : Pos}
/-- e.f, a field of an instance -/
theorem me_of (hK : Γ.K = X.K) (hc : Cls Γ.K (Γ.cls c)) (hn : NoAttr Γ.K (Γ.cls c) f) (h : ME X Γ W e fo) (hb : attributeBase e f X.env (eval e X.env) = eval e X.env := by rfl) : ME X Γ W (.Attribute e f pos) (mOf c f fo) :=
  PE.imp (pe_fld h hb) fun σ H Q ⟨μ, Z, ρ, s, hE, hR, q⟩ => eE hE hR q fun x s1 u H1 μ1 e1 E1 R1 r1 q1 => by
    obtain ⟨w, hw, k⟩ := ofE q1
    unfold ofD at hw
    cases q0 : objOf c s1 x with
    | none => rw [q0] at hw; cases hw
    | some fs =>
      rw [q0] at hw
      obtain ⟨n, a, dx, kvs, _, _, _, h4, h5, h6, h7⟩ := objOf_ok R1 r1 q0
      obtain ⟨v, g1, g2⟩ := look_some h6 h7 hw
      exact ⟨a, _, dx, kvs, v, h4, h5, hK ▸ hc, hK ▸ hn, g1, k v H1 .refl R1 g2⟩
theorem ms_fset (hK : Γ.K = X.K) (hc : Cls Γ.K (Γ.cls c)) (hn : NoAttr Γ.K (Γ.cls c) f) (ho : ME X Γ W o fo) (hv : ME X Γ W value fv) (hs : swapsWith value (some (.Attribute o f pos')) pos.line X.env = pure false) :
    MS X Γ W (.Assign [.Attribute o f pos'] value pos) (mFSet c f fo fv) :=
  PS.imp (ps_fld ho hv hs) fun D σ H ⟨μ, Z, ρ, s, hE, hR, q⟩ => eS hE hR q fun v s1 uv H1 μ1 e1 hE1 R1 r1 q1 => eS hE1 R1 q1 fun x s2 ux H2 μ2 e2 hE2 R2 r2 q2 => by
    split at q2
    · rename_i n
      split at q2
      · rename_i c' fs q0
        split at q2
        · rename_i hl
          obtain ⟨rfl, hl⟩ := hl
          obtain ⟨p, h1, h2⟩ := r2
          obtain ⟨p', g1, _, dx, kvs, g3, g4, g5⟩ := R2.at n _ q0
          rw [h2] at g1
          cases g1
          obtain ⟨k1, k2⟩ := putFD_ok (f := f) (r1.mono e2) g4 g5
          have ev : Evo H2 μ2 (upd H2 p (.ins (Γ.cls c') dx (putF f uv kvs))) μ2 := Evo.put h2
          refine ⟨p, _, dx, kvs, h1, g3, hK ▸ hc, hK ▸ hn, by rw [map_len g4]; omega, ?_⟩
          exact q2 σ _ μ2 ev (R2.put h2 ⟨dx, _, upd_same, k1, k2.mono ev⟩) (hE2.mono ev)
        · exact q2.elim
      · exact q2.elim
    · exact q2.elim
end
/-- what a call of the def at g must know, its arguments given by place -/
def CalM (P : Program) (w : World) (mg : Str → Option Value) (base : Heap) (Γ : Ct) (k : Nat) (g : Addr) (ps : List Str) (den : Fn) : Prop :=
  ∃ fd : FuncData, FnG P w mg base Γ k g fd ps den ∧ Binds Γ.K fd ps []
theorem in1_guards {A : Around} (h : A.guards = some []) : A.in1.guards = some [] := h
/-- the callee below the running body, at any Around -/
theorem run_GA {X : Cx} {Γ : Ct} {E : XK} {k : Nat} {f : Addr} {fd : FuncData} {ps : List Str} {den : Fn} {A : Around} {pins : List (Addr × Obj)} {σ : L2.St} {H : Hp} {s : Shared} {Q : VK} {args : Args} {us : List Value} {vs : List V} {Rr : Result → Shared → Prop}
    (F : FnG X.prog X.w X.mg X.base Γ k f fd ps den) (hr : Room k A) (hg : A.guards = some []) (e0 : Env0 X.prog X.w Γ.K X.mg X.base A X.stack s H) (hb : BindsTo s fd args (ps.zip us)) (I : Inv X pins σ H s) (r : Vals vs us) (h : spM Γ ps den vs H Q E)
    (h1 : ∀ u s', EP X pins σ Q u s' → Rr (.ok (.ret u)) s') (h2 : ∀ e s', L2.CX X.prog X.w X.stack H s E e s' → Rr (.error e) s') : codeAny (model X.prog X.w) A (.call (.ref f) args) Rr s := by
  refine codeAny_mono (F.run A X.stack s H args us vs Q E hr hg e0 hb r h) fun r' s' hq => ?_
  cases r' with
  | error e => exact h2 e s' hq
  | ok fl =>
    cases fl with
    | ret u => exact h1 u s' (I.after hq)
    | next => exact hq.elim
    | brk => exact hq.elim
    | cont => exact hq.elim
end MP
set_option Elab.async false
set_option linter.all false
set_option maxRecDepth 100000
set_option maxHeartbeats 4000000
namespace MP
open PySem PySem.Spec PyProof.Rows L2
section
variable {Γ : Ct} {W : WX} {c k : Nat} {m : Option Str} {ps : List Str} {den : Fn} {fo : FE} {fa : FA}
/-- what is asked of the object, then of the arguments, then of the callee -/
def spN (Γ : Ct) (den : Fn) : Sp := fun vs H Q E => ∃ μ Z s ws, Rep Γ H μ Z s ∧ RVs Γ H μ Z ws vs ∧ PostE Γ (fun c d _ H => E c d H) H μ Z [] Q (den ws s)
theorem ask_E {σ : L2.St} {H : Hp} {Q : VK} {n : Nat} (hl : FA.Len fa n) (h : rdE Γ W (mAsk c m den fo fa) σ H Q) :
    rdE Γ W fo σ H fun x H1 => ∃ a dx kvs, x = .ref a ∧ H1 a = some (.ins (Γ.cls c) dx kvs) ∧ (∀ y, m = some y → kvs.lookup y = none) ∧ rdA Γ W fa σ H1 fun vs H2 => vs.length = n ∧ spN Γ den (.ref a :: vs) H2 Q (WE W σ) := by
  obtain ⟨μ, Z, ρ, s, hE, hR, q⟩ := h
  unfold mAsk at q
  refine eE hE hR q fun x s1 u H1 μ1 e1 E1 R1 r1 q1 => ?_
  cases q0 : objOf c s1 x with
  | none => rw [q0] at q1; exact q1.elim
  | some fs =>
    rw [q0] at q1
    dsimp only at q1
    split at q1
    · rename_i hm
      obtain ⟨i, a, dx, kvs, hx, hs, hμ, h4, h5, h6, h7⟩ := objOf_ok R1 r1 q0
      refine ⟨a, dx, kvs, h4, h5, fun y hy => ?_, μ1, Z, ρ, s1, E1, R1, ?_⟩
      · subst hy
        have : (fs.lookup y).isNone = true := by simpa using hm
        exact look_none h6 (Option.isNone_iff_eq_none.mp this)
      · cases e2 : fa ρ s1 with
        | no => rw [e2] at q1; exact q1
        | er x2 s2 => rw [e2] at q1; exact q1
        | ok ws s2 =>
          rw [e2] at q1
          have q2 : PostE Γ W H1 μ1 Z σ Q (den (x :: ws) s2) := q1
          intro vs H2 μ2 ev R2 r2
          have rx : RV Γ H2 μ2 Z x (.ref a) := h4 ▸ r1.mono ev
          exact ⟨by rw [r2.len, hl _ _ _ _ e2], μ2, Z, s2, x :: ws, R2, RVs.cons rx r2, post_call (PostE.evo ev q2)⟩
    · exact q1.elim
end
section
variable {X : Cx} {Γ : Ct} {W : WX} {c k n : Nat} {g : Addr} {m : Str} {ps ks : List Str} {den : Fn} {o e : Expr} {es : List Expr} {fo f : FE} {fa : FA} {pos apos p : Pos} {kws : List Keyword} {nm : Option Str} {kpos : Pos}
theorem nil_A {σ : L2.St} {H : Hp} {Q : List V → Hp → Prop} (h : rdA Γ W mNil σ H Q) : Q [] H := by
  obtain ⟨μ, Z, ρ, s0, hE, hR, q⟩ := h
  exact q [] H μ .refl hR rfl
/-- the callee, by a call whose arguments are bound so -/
theorem run_GM {pins : List (Addr × Obj)} {σ : L2.St} {H : Hp} {s : Shared} {Q : VK} {us : List Value} {kw : List (Str × Value)} {bs : List Value} {vs : List V} {fd : FuncData} (F : FnG X.prog X.w X.mg X.base Γ k g fd ps den) (hK : Γ.K = X.K) (hr : Room k X.A) (hg : X.A.guards = some []) (hb : BindsTo s fd ⟨us, kw⟩ (ps.zip bs)) (tk : Takes X W)
    (I : Inv X pins σ H s) (r : Vals vs bs) (h : spM Γ ps den vs H Q (WE W σ)) : wpAny (model X.prog X.w) X.A (call (.ref g) us kw) (EP X pins σ Q) X.xe s :=
  wpAny_call (run_GA F hr hg (by rw [hK]; exact I.env0) hb I r h (fun u s' h => h) fun e s' hq => passAt tk σ pins H s e s' I hq)
theorem Binds.at {K : PySem.W.Frag} {fd : FuncData} {s : Shared} {us : List Value} (hb : Binds K fd ps []) (hk : K.In s.heap) (hl : us.length = ps.length) : BindsTo s fd ⟨us, []⟩ (ps.zip us) := by
  have := hb s us hk (by rw [List.append_nil]; exact hl)
  rwa [List.append_nil] at this
/-- o.m(e, ..) -/
theorem me_meth {pl : Sem Bool} (C : CalM X.prog X.w X.mg X.base Γ k g ps den) (hK : Γ.K = X.K) (hr : Room k X.A) (hg : X.A.guards = some []) (tk : Takes X W) (hc : Cls Γ.K (Γ.cls c)) (hm : Meth Γ.K (Γ.cls c) m g) (ho : ME X Γ W o fo) (ha : MA X Γ W (e :: es) fa) (hl : FA.Len fa n) (hn : n + 1 = ps.length)
    (hst : starEach (e :: es) X.env = (false, eval e X.env) :: starEach es X.env := by rfl) (hpl : (backTo pos (starEach es X.env)).any (·.1) = false := by rfl)
    (ht : eval (.Call (.Attribute o m apos) (e :: es) [] pos) X.env = (do
      let ov ← eval o X.env
      standAt apos.atName
      let (f, first) ← holding [ov] (getMethod ov m pl)
      callWith pos f first (backTo pos (starEach (e :: es) X.env)) (backToKw pos (keywordEach [] X.env))) := by rfl) :
    ME X Γ W (.Call (.Attribute o m apos) (e :: es) [] pos) (mAsk c (some m) den fo fa) := by
  obtain ⟨fd, F, hb⟩ := C
  refine ⟨fun pins s σ H Q I h => ?_⟩
  refine PySem.W.methodCall_KW (pl := pl) (thn (ho.run pins s σ H _ I (ask_E hl h)) fun u s1 ⟨x, H1, I1, rx, a, dx, fs, ex, ea, l, q⟩ => ?_) ht
  subst ex
  obtain rfl : u = Value.ref a := rx
  refine getmeth_ok I1 ea (hK ▸ hc) (hK ▸ hm) (l m rfl) ?_
  refine PySem.W.callWith_K (first := [.ref a]) (h₀ := X.base) I.ok.mod.kin (hK ▸ hm.kp) (thn (ha.run pos pins s1 σ H1 _ I1 q) fun us s2 ⟨vs, H2, I2, r, l2, q2⟩ => ⟨I2.kIn, ?_⟩) hst hpl
  refine run_GM (us := .ref a :: us) (vs := .ref a :: vs) F hK hr hg (Binds.at hb (hK ▸ I2.kIn) ?_) tk I2 (.cons rfl r) ⟨?_, q2⟩
  · rw [List.length_cons, ← r.length, l2, hn]
  · rw [List.length_cons, l2, hn]
/-- o.m() -/
theorem me_meth0 {pl : Sem Bool} (C : CalM X.prog X.w X.mg X.base Γ k g ps den) (hK : Γ.K = X.K) (hr : Room k X.A) (hg : X.A.guards = some []) (tk : Takes X W) (hc : Cls Γ.K (Γ.cls c)) (hm : Meth Γ.K (Γ.cls c) m g) (ho : ME X Γ W o fo) (hn : 1 = ps.length)
    (ht : eval (.Call (.Attribute o m apos) [] [] pos) X.env = (do
      let ov ← eval o X.env
      standAt apos.atName
      let (f, first) ← holding [ov] (getMethod ov m pl)
      callWith pos f first (backTo pos (starEach [] X.env)) (backToKw pos (keywordEach [] X.env))) := by rfl) :
    ME X Γ W (.Call (.Attribute o m apos) [] [] pos) (mAsk c (some m) den fo mNil) := by
  obtain ⟨fd, F, hb⟩ := C
  refine ⟨fun pins s σ H Q I h => ?_⟩
  refine PySem.W.methodCall_KW (pl := pl) (thn (ho.run pins s σ H _ I (ask_E (n := 0) len_nil h)) fun u s1 ⟨x, H1, I1, rx, a, dx, fs, ex, ea, l, q⟩ => ?_) ht
  subst ex
  obtain rfl : u = Value.ref a := rx
  refine getmeth_ok I1 ea (hK ▸ hc) (hK ▸ hm) (l m rfl) ?_
  obtain ⟨l2, q2⟩ := nil_A q
  exact PySem.W.callWith_K0 (first := [.ref a]) I1.kIn (hK ▸ hm.kp) (run_GM (us := [.ref a]) (vs := [.ref a]) F hK hr hg (Binds.at hb (hK ▸ I1.kIn) hn) tk I1 (.cons rfl .nil) ⟨hn, q2⟩)
/-- a def with keyword-only parameters: its defaults, its keywords -/
def CalK (P : Program) (w : World) (mg : Str → Option Value) (base : Heap) (Γ : Ct) (k : Nat) (g : Addr) (ps ks : List Str) (n : Nat) (dws : List Dv) (den : Fn) : Prop :=
  ∃ (fd : FuncData) (ds : List Value) (dvs : List V), FnG P w mg base Γ k g fd ps den ∧ Vals dvs ds ∧ (∀ H μ Z, RVs Γ H μ Z dws dvs) ∧ Binds Γ.K fd ps ds ∧ KBn Γ.K fd ps n ks (fun us ws => us ++ ws) (fun vs zs => vs ++ zs)
/-- o.m(), the defaults fill up -/
theorem me_methD {pl : Sem Bool} {dws : List Dv} (C : CalK X.prog X.w X.mg X.base Γ k g ps ks n dws den) (hK : Γ.K = X.K) (hr : Room k X.A) (hg : X.A.guards = some []) (tk : Takes X W) (hc : Cls Γ.K (Γ.cls c)) (hm : Meth Γ.K (Γ.cls c) m g) (ho : ME X Γ W o fo) (hn : 1 + dws.length = ps.length)
    (ht : eval (.Call (.Attribute o m apos) [] [] pos) X.env = (do
      let ov ← eval o X.env
      standAt apos.atName
      let (f, first) ← holding [ov] (getMethod ov m pl)
      callWith pos f first (backTo pos (starEach [] X.env)) (backToKw pos (keywordEach [] X.env))) := by rfl) :
    ME X Γ W (.Call (.Attribute o m apos) [] [] pos) (mAsk c (some m) (fun ws => den (ws ++ dws)) fo mNil) := by
  obtain ⟨fd, ds, dvs, F, rd, hd, hb, hkb⟩ := C
  refine ⟨fun pins s σ H Q I h => ?_⟩
  refine PySem.W.methodCall_KW (pl := pl) (thn (ho.run pins s σ H _ I (ask_E (n := 0) len_nil h)) fun u s1 ⟨x, H1, I1, rx, a, dx, fs, ex, ea, l, q⟩ => ?_) ht
  subst ex
  obtain rfl : u = Value.ref a := rx
  refine getmeth_ok I1 ea (hK ▸ hc) (hK ▸ hm) (l m rfl) ?_
  obtain ⟨l2, μ, Z, s0, ws, R, r, q2⟩ := nil_A q
  have l3 : ([Value.ref a] ++ ds).length = ps.length := by
    rw [List.length_append, ← rd.length, (hd H1 μ Z).len, ← hn]
    rfl
  refine PySem.W.callWith_K0 (first := [.ref a]) I1.kIn (hK ▸ hm.kp) (run_GM (us := [.ref a]) (bs := Value.ref a :: ds) (vs := V.ref a :: dvs) F hK hr hg (hb s1 [.ref a] (hK ▸ I1.kIn) l3) tk I1 (.cons rfl rd) ⟨?_, μ, Z, s0, ws ++ dws, R, RVs.append r (hd _ _ _), q2⟩)
  rw [List.length_cons, (hd H1 μ Z).len, ← hn, Nat.add_comm]
/-- one(), one an instance -/
theorem me_callO {i : Nat} (C : CalM X.prog X.w X.mg X.base Γ k g ps den) (hK : Γ.K = X.K) (hr : Room k X.A) (hg : X.A.guards = some []) (tk : Takes X W) (hc : StX.CallO Γ.K (Γ.cls c) g) (ho : ME X Γ W o fo) (hn : 1 = ps.length)
    (ht : eval (.Call o [] [] pos) X.env = (do callWith pos (← eval o X.env) [] (backTo pos (starEach [] X.env)) (backToKw pos (keywordEach [] X.env))) := by rfl) :
    ME X Γ W (.Call o [] [] pos) (mAsk c none den fo mNil) := by
  obtain ⟨fd, F, hb⟩ := C
  refine ⟨fun pins s σ H Q I h => ?_⟩
  refine Call_ (thn (ho.run pins s σ H _ I (ask_E (n := 0) len_nil h)) fun u s1 ⟨x, H1, I1, rx, a, dx, fs, ex, ea, _, q⟩ => ?_) ht
  subst ex
  obtain rfl : u = Value.ref a := rx
  obtain ⟨l2, q2⟩ := nil_A q
  obtain ⟨ox, od, J, hd⟩ := StX.insC_at I1 (.inr ⟨dx, fs, ea⟩)
  refine PySem.W.kco_callWith0 I1.kIn J hd (hK ▸ hc.at_) (wpAny_call (PySem.W.kco_code I1.kIn J hd (hK ▸ hc.at_) (hK ▸ hc.fn) (hK ▸ hc.fi) ?_))
  exact run_GA (us := [.ref a]) (vs := [.ref a]) F hr hg (by rw [hK]; exact I1.env0) (Binds.at hb (hK ▸ I1.kIn) hn) I1 (.cons rfl .nil) ⟨hn, q2⟩ (fun u s' h => h) fun e s' hq => passAt tk σ pins H1 s1 e s' I1 hq
/-- o.f, f a property -/
def okBk : R Dv → R Dv
  | .ok w s => .ok w s
  | _ => .no
def mProp (c : Nat) (den : Fn) (fo : FE) : FE := fun ρ s => (fo ρ s).bind fun x s1 => match objOf c s1 x with
  | some _ => okBk (den [x] s1)
  | none => .no
theorem me_prop {f : Str} {p' : Addr} (C : CalM X.prog X.w X.mg X.base Γ k g ps den) (hK : Γ.K = X.K) (hr : Room (k + 1) X.A) (hg : X.A.guards = some []) (hc : Cls Γ.K (Γ.cls c)) (hp : PropOf Γ.K (Γ.cls c) f p' g) (ho : ME X Γ W o fo) (hn : 1 = ps.length)
    (hb : attributeBase o f X.env (eval o X.env) = eval o X.env := by rfl) : ME X Γ W (.Attribute o f pos) (mProp c den fo) := by
  obtain ⟨fd, F, hbd⟩ := C
  refine ⟨fun pins s σ H Q I h => ?_⟩
  have q' : rdE Γ W fo σ H fun x H1 => ∃ a dx kvs, x = .ref a ∧ H1 a = some (.ins (Γ.cls c) dx kvs) ∧ spM Γ ps den [.ref a] H1 Q (fun _ _ _ => False) := by
    obtain ⟨μ, Z, ρ, s, hE, hR, q⟩ := h
    unfold mProp at q
    refine eE hE hR q fun x s1 u H1 μ1 e1 E1 R1 r1 q1 => ?_
    cases q0 : objOf c s1 x with
    | none => rw [q0] at q1; exact q1.elim
    | some fs =>
      rw [q0] at q1
      obtain ⟨i, a, dx, kvs, hx, hs, hμ, h4, h5, h6, h7⟩ := objOf_ok R1 r1 q0
      refine ⟨a, dx, kvs, h4, h5, hn, μ1, Z, s1, [x], R1, RVs.cons (h4 ▸ r1) rfl, ?_⟩
      cases e2 : den [x] s1 with
      | ok w s2 =>
        have q2 : PostE Γ W H1 μ1 Z σ Q (okBk (den [x] s1)) := q1
        rw [e2] at q2
        exact q2
      | er y s2 =>
        have q2 : PostE Γ W H1 μ1 Z σ Q (okBk (den [x] s1)) := q1
        rw [e2] at q2
        exact q2.elim
      | no =>
        have q2 : PostE Γ W H1 μ1 Z σ Q (okBk (den [x] s1)) := q1
        rw [e2] at q2
        exact q2.elim
  refine attr_of hb (thn (ho.run pins s σ H _ I q') fun u s1 ⟨x, H1, I1, rx, a, dx, fs, ex, ea, q⟩ => ?_)
  subst ex
  obtain rfl : u = Value.ref a := rx
  have c' : Cls X.K (Γ.cls c) := hK ▸ hc
  have hp' : PropOf X.K (Γ.cls c) f p' g := hK ▸ hp
  obtain ⟨mA, O, _, _, _, _⟩ := ins_get I1.hok ea
  obtain ⟨od, J, _⟩ := O.look
  obtain ⟨rest, hrec⟩ := hp'.rec_
  have I2 := I1.tok (s1.toks + 1)
  have hcl : (PySem.W.clsIn X.K (Γ.cls c)).isSome = true := by
    obtain ⟨cd, hc, _⟩ := PySem.W.any_some c'.hd
    rw [hc]
    rfl
  refine PySem.W.get_bind I1.kIn J (PySem.W.plainGet_of (c'.get f)).1 (PySem.W.findObj_data hcl hp'.at_ hp'.get hp'.tak) (PySem.W.plainGet_of (c'.get f)).2 (wpAny_call (PySem.W.prop_get (s := { s1 with toks := s1.toks + 1 }) I1.kIn hrec ?_))
  refine run_GA (us := [.ref a]) (vs := [.ref a]) F hr.in1 (in1_guards hg) (by rw [hK]; exact I2.env0.in1) (Binds.at hbd (hK ▸ I2.kIn) hn) I2 (.cons rfl .nil) q (fun u s' h => ?_) fun e s' hq => ?_
  · obtain ⟨v, H', I3, rv, q3⟩ := h
    show wpAny _ _ (handedOut u) _ _ _
    rw [PySem.W.handedOut_of (handed_of rv)]
    exact wpAny_pure ⟨v, H', I3, rv, q3⟩
  · obtain ⟨_, _, _, _, _, _, _, _, _, _, _, _, hE⟩ := hq
    exact hE.elim
end
end MP
set_option Elab.async false
set_option linter.all false
set_option maxRecDepth 100000
set_option maxHeartbeats 4000000
namespace MP
open PySem PySem.Spec PyProof.Rows L2
section
variable {X : Cx} {Γ : Ct} {W : WX} {c k n : Nat} {g : Addr} {x : Str} {ps : List Str} {den : Fn} {a b e : Expr} {es : List Expr} {f fo : FE} {fa : FA} {pos p : Pos}
theorem me_make (C : CalM X.prog X.w X.mg X.base Γ k g ps den) (hK : Γ.K = X.K) (hr : Room (k + 1) X.A) (hg : X.A.guards = some []) (tk : Takes X W) (M : Mk Γ.K (Γ.cls c) g) (hgl : Gl X x) (hm : X.mg x = some (.ref (Γ.cls c))) (ha : MA X Γ W (e :: es) fa) (hl : FA.Len fa n) (hn : n + 1 = ps.length)
    (hdb : (x == ("__debug__" : Str)) = false := by decide) (he : starEach (e :: es) X.env = (false, eval e X.env) :: starEach es X.env := by rfl) (hpl : (backTo pos (starEach es X.env)).any (·.1) = false := by rfl) :
    ME X Γ W (.Call (.Name x p) (e :: es) [] pos) (mMake c den fa) := by
  obtain ⟨fd, F, hb⟩ := C
  refine ⟨fun pins s σ H Q I h => ?_⟩
  refine wpAny_Call_Name_kw (ld_glob I hgl hm ?_ hdb)
  have q' : rdA Γ W fa σ H fun vs H1 => ∀ y dx, H1 y = none → H1 dx = none → dx ≠ y → spM Γ ps den (.ref y :: vs) (upd (upd H1 dx (.own y)) y (.ins (Γ.cls c) dx [])) (fun v H2 => v = .non ∧ Q (.ref y) H2) (WE W σ) := by
    obtain ⟨μ, Z, ρ, s0, hE, hR, q⟩ := h
    refine ⟨μ, Z, ρ, s0, hE, hR, ?_⟩
    unfold mMake at q
    cases e1 : fa ρ s0 with
    | er x1 s1 => rw [e1] at q; exact q
    | no => rw [e1] at q; exact q
    | ok ws s1 =>
      rw [e1] at q
      intro vs H1 μ1 ev R1 r1 y dx hy hd hne
      have R2 : Rep Γ (upd H1 dx (.own y)) μ1 Z s1 := R1.laid hd
      have hy2 : upd H1 dx (.own y) y = none := by rw [upd_ne (Ne.symm hne)]; exact hy
      have e2 : Evo H1 μ1 (upd H1 dx (.own y)) μ1 := Evo.laid hd
      have e3 : Evo (upd H1 dx (.own y)) μ1 (upd (upd H1 dx (.own y)) y (.ins (Γ.cls c) dx [])) (MP.ext μ1 s1.length y) := Evo.ext hy2 R2.mu_new
      have R3 : Rep Γ (upd (upd H1 dx (.own y)) y (.ins (Γ.cls c) dx [])) (MP.ext μ1 s1.length y) Z (s1 ++ [.obj c []]) := R2.push hy2 ⟨dx, [], upd_same, rfl, rfl⟩
      have hx : MP.ext μ1 s1.length y s1.length = some y := by unfold MP.ext; rw [if_pos rfl]
      refine ⟨by rw [List.length_cons, r1.len, hl _ _ _ _ e1, hn], _, Z, _, .ref s1.length :: ws, R3, RVs.cons ⟨y, rfl, hx⟩ ((r1.mono e2).mono e3), ?_⟩
      have q2 : PostE Γ W H μ Z σ Q (match den (.ref s1.length :: ws) (s1 ++ [.obj c []]) with
        | .ok .non s2 => .ok (.ref s1.length) s2
        | .er x s2 => .er x s2
        | _ => .no) := q
      have ev3 := (ev.trans e2).trans e3
      cases e4 : den (.ref s1.length :: ws) (s1 ++ [.obj c []]) with
      | no => rw [e4] at q2; exact q2
      | er x2 s2 => rw [e4] at q2; exact post_call (PostE.evo ev3 (r := .er x2 s2) q2)
      | ok w s2 =>
        rw [e4] at q2
        cases w with
        | non => exact fun v H' μ' e5 R5 r5 => ⟨r5, q2 _ H' μ' (ev3.trans e5) R5 ⟨y, rfl, e5.mu _ _ hx⟩⟩
        | _ => exact q2.elim
  refine PySem.W.callWith_K (h₀ := X.base) I.ok.mod.kin (hK ▸ M.kp) (thn (ha.run pos pins s σ H _ I q') fun us s1 ⟨vs, H1, I1, r, h⟩ => ⟨I1.kIn, ?_⟩) he hpl
  have hq := h (s1.heap.objs.size + 1) s1.heap.objs.size (I1.hok.fresh (Nat.le_succ _)) (I1.hok.fresh (Nat.le_refl _)) (Nat.ne_of_lt (Nat.lt_succ_self _))
  have I2 := Inv.made (C := Γ.cls c) I1
  have r2 : Vals (V.ref (s1.heap.objs.size + 1) :: vs) (Value.ref (s1.heap.objs.size + 1) :: us) := .cons rfl r
  have hl2 : (Value.ref (s1.heap.objs.size + 1) :: us).length = ps.length := r2.length.symm.trans hq.1
  have M' : Mk X.K (Γ.cls c) g := hK ▸ M
  refine wpAny_call (make_map (f := g) I1.kIn M'.makes M'.init (beq_iff_eq.mp M'.fn) ?_)
  refine run_GA F (hr.make _ us []) (by first | exact hg | (simp [Around.under, Code.isGuard, guardIds]; exact hg)) (by rw [hK]; exact I2.env0.make _ us []) (Binds.at hb (hK ▸ I2.kIn) hl2) I2 r2 hq (fun u s' h => ?_) fun e s' hq' => passAt tk σ pins _ _ e s' I2 hq'
  obtain ⟨v, H', I3, rv, ev, q3⟩ := h
  subst ev
  exact ⟨rv, ⟨V.ref (s1.heap.objs.size + 1), H', I3, rfl, q3⟩⟩
/-- what a special method must be -/
structure Spc (K : PySem.W.Frag) (C : Addr) (m : Str) (g : Addr) : Prop where
  at_ : PySem.W.findIn K (.ref C) m = some (some (.ref g))
  fn : PySem.W.isFn K (.ref g) = true
theorem noneX {P : Program} {w : World} {stk : List PySem.Env} {H : Hp} {s s' : Shared} {e : Value} {C : Prop} (hq : L2.CX P w stk H s (fun _ _ _ => False) e s') : C := by
  obtain ⟨_, _, _, _, _, _, _, _, _, _, _, _, hE⟩ := hq
  exact hE.elim
theorem call_lenO (C : CalM X.prog X.w X.mg X.base Γ k g ps den) (hK : Γ.K = X.K) (hr : Room (k + 1) X.A) (hg : X.A.guards = some []) (hs : Spc Γ.K (Γ.cls c) "__len__" g) (hn : 1 = ps.length) : CallR X (.builtin "len") fun vs H Q => ∃ a dx kvs, vs = [.ref a] ∧ H a = some (.ins (Γ.cls c) dx kvs) ∧
    spM Γ ps den [.ref a] H (fun v H' => ∃ i : Int, v = .int i ∧ 0 ≤ i ∧ i < 2 ^ 62 ∧ Q (.int i) H') (fun _ _ _ => False) := by
  rintro pins s σ H xs us Q I rx ⟨a, dx, kvs, rfl, ea, sp⟩
  obtain ⟨fd, F, hb⟩ := C
  cases rx with
  | cons r1 r2 =>
    cases r2
    obtain rfl := (show _ = Value.ref a from r1)
    obtain ⟨mA, O, _, _, _, _⟩ := ins_get I.hok ea
    obtain ⟨od, J, _⟩ := O.look
    obtain ⟨m, F'⟩ := I.fr
    refine PySem.W.len_K F' I.ok.mod.kin J (hK ▸ hs.at_) (hK ▸ hs.fn) (wpAny_call ?_)
    refine run_GA (us := [.ref a]) (vs := [.ref a]) F hr.in1 (in1_guards hg) (by rw [hK]; exact I.env0.in1) (Binds.at hb (hK ▸ I.kIn) hn) I (.cons rfl .nil) sp (fun u s' h => ?_) fun e s' hq => noneX hq
    obtain ⟨v, H', I3, rv, i, ev, h0, h1, q3⟩ := h
    subst ev
    obtain ⟨t, rfl⟩ := (show ∃ t, u = Value.int i t from rv)
    exact ⟨⟨h0, by omega⟩, .int i, H', I3.tok _, ⟨_, rfl⟩, q3⟩
/-- len(o), o an instance -/
theorem me_lenO (C : CalM X.prog X.w X.mg X.base Γ k g ps den) (hK : Γ.K = X.K) (hr : Room (k + 1) X.A) (hg : X.A.guards = some []) (hs : Spc Γ.K (Γ.cls c) "__len__" g) (hn : 1 = ps.length) (hgl : Gl X "len") (hm : X.mg "len" = none) (ha : MA X Γ W [e] fa)
    (he : starEach [e] X.env = (false, eval e X.env) :: starEach [] X.env := by rfl) (hpl : (backTo pos (starEach [] X.env)).any (·.1) = false := by rfl) : ME X Γ W (.Call (.Name "len" p) [e] [] pos) (mLenO c den fa) := by
  refine PE.imp (pe_callB (call_lenO C hK hr hg hs hn) hgl hm rfl ha (by decide) (by decide) he hpl) fun σ H Q ⟨μ, Z, ρ, s, hE, hR, q⟩ => aE hE hR q fun ws s1 vs H1 μ1 e1 E1 R1 r1 q1 => ?_
  match ws, r1, q1 with
  | [], _, q1 => exact q1.elim
  | _ :: _ :: _, _, q1 => exact q1.elim
  | [x], r1, q1 =>
    obtain ⟨v, rfl, rx⟩ := one r1
    dsimp only at q1
    cases q0 : objOf c s1 x with
    | none => rw [q0] at q1; exact q1.elim
    | some fs =>
      rw [q0] at q1
      obtain ⟨i, a, dx, kvs, hx, hs', hμ, h4, h5, h6, h7⟩ := objOf_ok R1 rx q0
      refine ⟨a, dx, kvs, by rw [h4], h5, hn, μ1, Z, s1, [x], R1, RVs.cons (h4 ▸ rx) rfl, ?_⟩
      have q2 : PostE Γ W H1 μ1 Z σ Q (lenBk (den [x] s1)) := q1
      cases e2 : den [x] s1 with
      | no => rw [e2] at q2; exact q2.elim
      | er y s2 => rw [e2] at q2; exact q2.elim
      | ok w s2 =>
        rw [e2] at q2
        cases w with
        | int i =>
          replace q2 : PostE Γ W H1 μ1 Z σ Q (if 0 ≤ i ∧ i < 2 ^ 62 then .ok (.int i) s2 else .no) := q2
          by_cases hi : 0 ≤ i ∧ i < 2 ^ 62
          · rw [if_pos hi] at q2
            exact fun v H' μ' e5 R5 r5 => ⟨i, r5, hi.1, hi.2, q2 _ H' μ' e5 R5 rfl⟩
          · rw [if_neg hi] at q2
            exact q2.elim
        | _ => exact q2.elim
end
end MP
set_option Elab.async false
set_option linter.all false
set_option maxRecDepth 100000
set_option maxHeartbeats 4000000
namespace MP
open PySem PySem.Spec PyProof.Rows L2
section
variable (P : Program) (w : World) (mg : Str → Option Value) (base : Heap) (Γ : Ct) (k c : Nat) (m : Str) (ps : List Str) (den : Fn)
/-- a method -/
def OM : Prop := ∃ g, CalM P w mg base Γ k g ps den ∧ Meth Γ.K (Γ.cls c) m g ∧ Cls Γ.K (Γ.cls c)
/-- a method with keyword-only parameters -/
def OMK (ks : List Str) (dws : List Dv) : Prop := ∃ g, CalK P w mg base Γ k g ps ks 1 dws den ∧ Meth Γ.K (Γ.cls c) m g ∧ Cls Γ.K (Γ.cls c)
/-- a property -/
def OP : Prop := ∃ g p', CalM P w mg base Γ k g ps den ∧ PropOf Γ.K (Γ.cls c) m p' g ∧ Cls Γ.K (Γ.cls c)
/-- __call__ -/
def OC : Prop := ∃ g, CalM P w mg base Γ k g ps den ∧ StX.CallO Γ.K (Γ.cls c) g
/-- a special method -/
def OSp : Prop := ∃ g, CalM P w mg base Γ k g ps den ∧ Spc Γ.K (Γ.cls c) m g
/-- the maker; m: the class's name -/
def OI : Prop := ∃ g, CalM P w mg base Γ k g ps den ∧ Mk Γ.K (Γ.cls c) g ∧ mg m = some (.ref (Γ.cls c))
end
section
variable {X : Cx} {Γ : Ct} {W : WX} {c k n : Nat} {m x : Str} {ps ks : List Str} {dws : List Dv} {den : Fn} {o a b e : Expr} {es : List Expr} {fo f : FE} {fa : FA} {pos apos p : Pos} {kws : List Keyword}
theorem mo_meth {pl : Sem Bool} (C : OM X.prog X.w X.mg X.base Γ k c m ps den) (hK : Γ.K = X.K) (hr : Room k X.A) (hg : X.A.guards = some []) (tk : Takes X W) (ho : ME X Γ W o fo) (ha : MA X Γ W (e :: es) fa) (hl : FA.Len fa n) (hn : n + 1 = ps.length)
    (hst : starEach (e :: es) X.env = (false, eval e X.env) :: starEach es X.env := by rfl) (hpl : (backTo pos (starEach es X.env)).any (·.1) = false := by rfl)
    (ht : eval (.Call (.Attribute o m apos) (e :: es) [] pos) X.env = (do
      let ov ← eval o X.env
      standAt apos.atName
      let (f, first) ← holding [ov] (getMethod ov m pl)
      callWith pos f first (backTo pos (starEach (e :: es) X.env)) (backToKw pos (keywordEach [] X.env))) := by rfl) :
    ME X Γ W (.Call (.Attribute o m apos) (e :: es) [] pos) (mAsk c (some m) den fo fa) := by
  obtain ⟨g, C, hm, hc⟩ := C
  exact me_meth C hK hr hg tk hc hm ho ha hl hn hst hpl ht
theorem mo_meth0 {pl : Sem Bool} (C : OM X.prog X.w X.mg X.base Γ k c m ps den) (hK : Γ.K = X.K) (hr : Room k X.A) (hg : X.A.guards = some []) (tk : Takes X W) (ho : ME X Γ W o fo) (hn : 1 = ps.length)
    (ht : eval (.Call (.Attribute o m apos) [] [] pos) X.env = (do
      let ov ← eval o X.env
      standAt apos.atName
      let (f, first) ← holding [ov] (getMethod ov m pl)
      callWith pos f first (backTo pos (starEach [] X.env)) (backToKw pos (keywordEach [] X.env))) := by rfl) :
    ME X Γ W (.Call (.Attribute o m apos) [] [] pos) (mAsk c (some m) den fo mNil) := by
  obtain ⟨g, C, hm, hc⟩ := C
  exact me_meth0 C hK hr hg tk hc hm ho hn ht
theorem mo_methD {pl : Sem Bool} (C : OMK X.prog X.w X.mg X.base Γ k c m ps den ks dws) (hK : Γ.K = X.K) (hr : Room k X.A) (hg : X.A.guards = some []) (tk : Takes X W) (ho : ME X Γ W o fo) (hn : 1 + dws.length = ps.length)
    (ht : eval (.Call (.Attribute o m apos) [] [] pos) X.env = (do
      let ov ← eval o X.env
      standAt apos.atName
      let (f, first) ← holding [ov] (getMethod ov m pl)
      callWith pos f first (backTo pos (starEach [] X.env)) (backToKw pos (keywordEach [] X.env))) := by rfl) :
    ME X Γ W (.Call (.Attribute o m apos) [] [] pos) (mAsk c (some m) (fun ws => den (ws ++ dws)) fo mNil) := by
  obtain ⟨g, C, hm, hc⟩ := C
  exact me_methD C hK hr hg tk hc hm ho hn ht
theorem mo_call (C : OC X.prog X.w X.mg X.base Γ k c ps den) (hK : Γ.K = X.K) (hr : Room k X.A) (hg : X.A.guards = some []) (tk : Takes X W) (ho : ME X Γ W o fo) (hn : 1 = ps.length)
    (ht : eval (.Call o [] [] pos) X.env = (do callWith pos (← eval o X.env) [] (backTo pos (starEach [] X.env)) (backToKw pos (keywordEach [] X.env))) := by rfl) :
    ME X Γ W (.Call o [] [] pos) (mAsk c none den fo mNil) := by
  obtain ⟨g, C, hc⟩ := C
  exact me_callO (i := 0) C hK hr hg tk hc ho hn ht
theorem mo_prop (C : OP X.prog X.w X.mg X.base Γ k c m ps den) (hK : Γ.K = X.K) (hr : Room (k + 1) X.A) (hg : X.A.guards = some []) (ho : ME X Γ W o fo) (hn : 1 = ps.length)
    (hb : attributeBase o m X.env (eval o X.env) = eval o X.env := by rfl) : ME X Γ W (.Attribute o m pos) (mProp c den fo) := by
  obtain ⟨g, p', C, hp, hc⟩ := C
  exact me_prop C hK hr hg hc hp ho hn hb
theorem mo_make (C : OI X.prog X.w X.mg X.base Γ k c x ps den) (hK : Γ.K = X.K) (hr : Room (k + 1) X.A) (hg : X.A.guards = some []) (tk : Takes X W) (hgl : Gl X x) (ha : MA X Γ W (e :: es) fa) (hl : FA.Len fa n) (hn : n + 1 = ps.length)
    (hdb : (x == ("__debug__" : Str)) = false := by decide) (he : starEach (e :: es) X.env = (false, eval e X.env) :: starEach es X.env := by rfl) (hpl : (backTo pos (starEach es X.env)).any (·.1) = false := by rfl) :
    ME X Γ W (.Call (.Name x p) (e :: es) [] pos) (mMake c den fa) := by
  obtain ⟨g, C, M, hm⟩ := C
  exact me_make C hK hr hg tk M hgl hm ha hl hn hdb he hpl
theorem mo_len (C : OSp X.prog X.w X.mg X.base Γ k c "__len__" ps den) (hK : Γ.K = X.K) (hr : Room (k + 1) X.A) (hg : X.A.guards = some []) (hn : 1 = ps.length) (hgl : Gl X "len") (hm : X.mg "len" = none) (ha : MA X Γ W [e] fa)
    (he : starEach [e] X.env = (false, eval e X.env) :: starEach [] X.env := by rfl) (hpl : (backTo pos (starEach [] X.env)).any (·.1) = false := by rfl) : ME X Γ W (.Call (.Name "len" p) [e] [] pos) (mLenO c den fa) := by
  obtain ⟨g, C, hs⟩ := C
  exact me_lenO C hK hr hg hs hn hgl hm ha he hpl
end
/-- how a def with one keyword-only parameter behind self binds: left out, given -/
theorem calK_of {P : Program} {w : World} {mg : Str → Option Value} {base : Heap} {Γ : Ct} {k : Nat} {g : Addr} {fd : FuncData} {x qual q : Str} {params : Arguments} {body : List Stmt} {scope : Scope} {i : Int} {den : Fn} (F : FnG P w mg base Γ k g fd ["self", q] den)
    (D : FunD Γ.K x qual params body scope [] [(q, .int i)] g fd)
    (h0 : ∀ (D : Addr) (doc pm : Value) (an : Option Addr) (cdv ct : Value) (u v : Value), KwChain D [(q, v)] (bindArgs (PySem.W.fnOf x qual params body scope .none (.ref D) doc pm an cdv ct) ⟨[u], []⟩) ((["self", q] : List Str).zip [u, v]))
    (h1 : ∀ (D : Addr) (doc pm : Value) (an : Option Addr) (cdv ct : Value) (u v : Value), bindArgs (PySem.W.fnOf x qual params body scope .none (.ref D) doc pm an cdv ct) ⟨[u], [(q, v)]⟩ = pure ((["self", q] : List Str).zip [u, v])) :
    CalK P w mg base Γ k g ["self", q] [q] 1 [.int i] den := by
  obtain ⟨ds, rd, hb⟩ := D.binds0 (ps := ["self", q]) 1 (by intro z; cases z) rfl fun D doc pm an cdv ct us ks l1 l2 => match us, ks, l1, l2 with
    | [u], [v], _, _ => h0 D doc pm an cdv ct u v
  obtain ⟨mv, hk⟩ := D.kbinds0 (ps := ["self", q]) 1 [q] [] (fun us _ ws => us ++ ws) (by intro z; cases z) (fun _ h => nomatch h) (fun r1 _ r3 => r1.append r3) fun D doc pm an cdv ct us mv ws l1 l2 l3 => match us, mv, ws, l1, l2, l3 with
    | [u], [], [v], _, _, _ => h1 D doc pm an cdv ct u v
  exact ⟨fd, ds, [.int i], F, rd, fun H μ Z => RVs.cons rfl rfl, hb, hk⟩
def reprP : ON := fun _ xs => match xs with
  | [.non] => some (.str "None")
  | [.int i] => if i.natAbs.log2 < 1920 then some (.str (toString i)) else none
  | [.bl b] => some (.str (if b then "True" else "False"))
  | _ => none
def rReprP : List V → Hp → VK → Prop := fun xs H Q => (xs = [.non] ∧ Q (.str "None") H) ∨ (∃ i, xs = [.int i] ∧ i.natAbs.log2 < 1920 ∧ Q (.str (toString i)) H) ∨ (∃ b, xs = [.bl b] ∧ Q (.str (if b then "True" else "False")) H)
theorem call_reprP {X : Cx} : CallR X (.builtin "repr") rReprP := by
  intro pins s σ H xs us Q I r h
  rcases h with ⟨rfl, q⟩ | ⟨i, rfl, hz, q⟩ | ⟨b, rfl, q⟩
  · obtain ⟨u, rfl, rfl⟩ := vals1 r
    exact PySem.P.repr_of_none ⟨.str _, H, I.tok _, ⟨_, rfl⟩, q⟩
  · obtain ⟨u, rfl, t, rfl⟩ := vals1 r
    exact PySem.P.repr_of_int hz ⟨.str _, H, I.tok _, ⟨_, rfl⟩, q⟩
  · obtain ⟨u, rfl, rfl⟩ := vals1 r
    exact PySem.P.repr_of_bool ⟨.str _, H, I.tok _, ⟨_, rfl⟩, q⟩
theorem sReprP {Γ : Ct} : OpN Γ rReprP reprP := fun H μ Z s xs w vs Q hR rx e k => by
  unfold reprP at e
  split at e
  · obtain ⟨v, rfl, rv⟩ := one rx
    cases e
    obtain rfl := (show v = .non from rv)
    exact .inl ⟨rfl, k _ H .refl hR rfl⟩
  · rename_i i
    obtain ⟨v, rfl, rv⟩ := one rx
    split at e
    · rename_i hz
      cases e
      obtain rfl := (show v = .int i from rv)
      exact .inr (.inl ⟨i, rfl, hz, k _ H .refl hR rfl⟩)
    · cases e
  · rename_i b
    obtain ⟨v, rfl, rv⟩ := one rx
    cases e
    obtain rfl := (show v = .bl b from rv)
    exact .inr (.inr ⟨b, rfl, k _ H .refl hR rfl⟩)
  · cases e
def reprQ : ON := fun s xs => match reprA s xs with
  | some w => some w
  | none => reprP s xs
theorem cr_reprQ {X : Cx} (hg : X.A.guards = some []) (hu : X.A.units + 64 < cLine) : CallR X (.builtin "repr") (fun x H Q => (rRepr X.K x H Q ∨ rReprX X.K x H Q) ∨ rReprP x H Q) := CallR.or2 (cr_reprA hg hu) call_reprP
theorem sReprQ {X : Cx} {Γ : Ct} (hK : Γ.K = X.K) : OpN Γ (fun x H Q => (rRepr X.K x H Q ∨ rReprX X.K x H Q) ∨ rReprP x H Q) reprQ := OpN.or (sReprA hK) sReprP
end MP
set_option Elab.async false
set_option linter.all false
set_option maxRecDepth 100000
set_option maxHeartbeats 4000000
namespace MP
open PySem PySem.Spec PyProof.Rows L2
end MP
set_option Elab.async false
set_option linter.all false
set_option maxRecDepth 100000
set_option maxHeartbeats 4000000
namespace MP
open PySem PySem.Spec PyProof.Rows L2
/-- one parameter, without a default -/
structure LamP1 (params : Arguments) (scope : Scope) (p : Str) : Prop where
  dfl : ∀ env : PySem.Env, defaultsOf params env = ([], [])
  loc : scope.names.lookup p = some .local
  bnd : ∀ (q : Str) (b : Expr) (cl : List (Str × Addr)) (doc pm : Value) (c' : Addr) (ctv u : Value), bindArgs (lamFd q params b scope cl .none doc pm c' ctv) ⟨[u], []⟩ = pure [(p, u)]
/-- one name more -/
abbrev moreN (Y : Cx) (p : Str) : Cx := { Y with N := Y.N ++ [p] }
theorem more_inv {Y : Cx} {σ : L2.St} {H : Hp} {s : Shared} {p : Str} {v : V} {u : Value} (I : Inv Y [] σ H s) (hm : ∃ m, s.heap.Ns Y.env.locals m ∧ m p = some u) (hk : Y.env.kindOf p = some .local) (r : L2.RelV v u) : Inv (moreN Y p) [] (σ ++ [some v]) H s where
  ok := let o := I.ok; ⟨o.mod, o.kind, o.glob, o.blt, o.above, o.inj, o.has, o.cab, o.hd, o.frames, o.stk, o.exf, o.bs, o.bsz, o.noex, o.exfs, o.funs, o.frf⟩
  os := I.os
  bare := I.bare
  base := I.base
  loc := by
    obtain ⟨m, hn, hl⟩ := I.loc
    obtain ⟨m', hn', e⟩ := hm
    obtain rfl : m' = m := (Heap.Ns.eq_nsMap hn').trans (Heap.Ns.eq_nsMap hn).symm
    refine ⟨m', hn, fun i x w h1 h2 h3 => ?_⟩
    have h1 : (Y.N ++ [p])[i]? = some x := h1
    by_cases hi : i < Y.N.length
    · rw [List.getElem?_append_left hi] at h1
      rw [List.getElem?_append_left (by rw [I.len]; exact hi)] at h2
      exact hl i x w h1 h2 h3
    · rw [List.getElem?_append_right (by omega)] at h1
      rw [List.getElem?_append_right (by rw [I.len]; omega), I.len] at h2
      cases j : i - Y.N.length with
      | zero =>
        rw [j] at h1 h2
        cases h1
        cases h2
        exact ⟨u, r, .inl ⟨hk, e⟩⟩
      | succ n => rw [j] at h1; simp at h1
  cell := I.cell
  free := I.free
  freeC := I.freeC
  pin := I.pin
  hok := I.hok
  len := by
    show (σ ++ [some v]).length = (Y.N ++ [p]).length
    rw [List.length_append, List.length_append, I.len]
    rfl
theorem re_snoc {Γ : Ct} {H : Hp} {μ : Mu} {Z : Zs} {ρ : Env} {σ : L2.St} {w : Dv} {v : V} (h : RE Γ H μ Z ρ σ) (r : RV Γ H μ Z w v) : RE Γ H μ Z (ρ ++ [some w]) (σ ++ [some v]) := by
  refine ⟨by rw [List.length_append, List.length_append, h.1]; rfl, fun i w' e => ?_⟩
  by_cases hi : i < ρ.length
  · rw [List.getElem?_append_left hi] at e
    rw [List.getElem?_append_left (by rw [← h.1]; exact hi)]
    exact h.2 i w' e
  · rw [List.getElem?_append_right (by omega)] at e
    rw [List.getElem?_append_right (by rw [← h.1]; omega), ← h.1]
    cases j : i - ρ.length with
    | zero =>
      rw [j] at e
      cases e
      exact ⟨v, rfl, r⟩
    | succ n => rw [j] at e; simp at e
/-- such a lambda on its way -/
structure Thk1 (P : Program) (w : World) (Γ : Ct) (mg : Str → Option Value) (base : Heap) (kk : Nat) (outer : List PySem.Env) (s0 : Shared) (H0 : Hp) (f c' : Addr) (q : Str) (ws : List Dv) (vs : List V) (g : Dv → Sto → R Dv) : Prop where
  fn : ∀ (s1 : Shared) (HZ : Hp), Un (frs outer) [] H0 HZ s0.heap s1.heap → PySem.W.FnAt f s1.heap
  run : ∀ (A : Around) (outer1 : List PySem.Env) (s1 : Shared) (HZ : Hp) (Q : VK) (E : XK) (μ : Mu) (Z : Zs) (st : Sto) (wd : Dv) (v : V) (u : Value), Room kk A → A.guards = some [] → Env0 P w Γ.K mg base A outer1 s1 HZ → Un (frs outer) [] H0 HZ s0.heap s1.heap →
    HZ c' = some (LamX.CodeO c' q) → RVs Γ HZ μ Z ws vs → Rep Γ HZ μ Z st → L2.RelV v u → RV Γ HZ μ Z wd v → PostE Γ (fun c d _ H => E c d H) HZ μ Z [] Q (g wd st) → codeAny (model P w) A (.call (.ref f) ⟨[u], []⟩) (CR (L2.CX P w) outer1 P w HZ s1 Q E) s1
theorem Thk1.deeper {P : Program} {w : World} {Γ : Ct} {mg : Str → Option Value} {base : Heap} {kk : Nat} {outer : List PySem.Env} {s0 s' : Shared} {H0 H' : Hp} {f c' : Addr} {q : Str} {ws : List Dv} {vs : List V} {g : Dv → Sto → R Dv} {env : PySem.Env} {L : Addr}
    (T : Thk1 P w Γ mg base kk outer s0 H0 f c' q ws vs g) (hf : env.frame = some L) (hL : s0.heap.objs.size ≤ L) (u : Un (frs outer) [] H0 H' s0.heap s'.heap) : Thk1 P w Γ mg base kk (env :: outer) s' H' f c' q ws vs g := by
  have e : frs (env :: outer) = L :: frs outer := by unfold frs; rw [List.filterMap_cons, hf]
  exact ⟨fun s1 HZ v => T.fn s1 HZ (un_comp u (e ▸ v) hL), fun A outer1 s1 HZ Q E μ Z st wd x y h1 h2 h3 v => T.run A outer1 s1 HZ Q E μ Z st wd x y h1 h2 h3 (un_comp u (e ▸ v) hL)⟩
abbrev lamCx1 (X : Cx) (p : Str) (A : Around) (outer : List PySem.Env) (s : Shared) (H : Hp) (E : XK) (scope : Scope) (f c' : Addr) : Cx := moreN (LamX.lamCx X A outer s H E scope f c') p
section
variable {X : Cx} {Γ : Ct} {pins : List (Addr × Obj)} {σ : L2.St} {H : Hp} {s : Shared} {μ : Mu} {Z : Zs} {ρ : Env} {k : Nat}
/-- one that was made -/
theorem thk1_of {scope : Scope} {params : Arguments} {body : Expr} {f c' : Addr} {doc pm ctv : Value} {p : Str} {gb : FE} (I : Inv X pins σ H s) (hK : Γ.K = X.K) (L : LamN X.N X.env.scope scope) (hp : LamP1 params scope p)
    (hf : s.heap.get? f = some (lamObj (X.env.qual ++ "<lambda>") params body scope (cloFrom X.env.cells scope.names []) .none doc pm c' ctv)) (hfn : H f = none) (hfr : f ∉ frs X.stack) (hE : RE Γ H μ Z ρ σ)
    (hbody : ∀ (A : Around) (outer : List PySem.Env) (s : Shared) (H : Hp) (E : XK) (W : WX), Room k (A.deeper (LamX.lamEnv X scope s.heap.objs.size f c')) → (A.deeper (LamX.lamEnv X scope s.heap.objs.size f c')).guards = some [] → Takes (lamCx1 X p A outer s H E scope f c') W → ME (lamCx1 X p A outer s H E scope f c') Γ W body gb) :
    Thk1 X.prog X.w Γ X.mg X.base (k + 1) X.stack s H f c' (X.env.qual ++ "<lambda>") (selW ρ) (selV ρ σ) (fun wd st => gb (ρ ++ [some wd]) st) := by
  have now : ∀ (s1 : Shared) (HZ : Hp), Un (frs X.stack) [] H HZ s.heap s1.heap → s1.heap.get? f = some (lamObj (X.env.qual ++ "<lambda>") params body scope (cloFrom X.env.cells scope.names []) .none doc pm c' ctv) := fun s1 HZ un => un.keep f _ hf hfn hfr (by simp)
  refine ⟨fun s1 HZ un => ⟨_, _, _, _, now s1 HZ un⟩, fun A outer1 s1 HZ Q E μ1 Z1 st wd v u room guards e0 un hc rws hR ru rwd post => ?_⟩
  rw [hK] at e0
  obtain ⟨⟨oc, vs, t, hoc, hdc, hvc⟩, _, _⟩ := e0.hok c' _ hc
  have hb : BindsTo s1 (lamFd (X.env.qual ++ "<lambda>") params body scope (cloFrom X.env.cells scope.names []) .none doc pm c' ctv) ⟨[u], []⟩ [(p, u)] := .of_eq (hp.bnd _ _ _ _ _ _ _ _)
  refine PySem.W.kla_callFunE room.depth (now s1 HZ un) rfl L.co L.gen rfl ⟨c', oc, vs, t, rfl, hoc, hdc, hvc⟩ (hb _ _ _ _ ?_)
  refine wpAny_newFunctionEnv L.cell (fun y hy => by rw [List.mem_singleton] at hy; subst hy; exact hp.loc) (fun h₁ hns hsb => ⟨(e0.mod.nolimit.keeps fun b o e => (e0.bs b o e).1).fresh _ hsb, ?_⟩) L.kind
  show codeAny _ _ (.expr body (LamX.lamEnv X scope s1.heap.objs.size f c')) _ _
  have kp : ∀ b o, s1.heap.get? b = some o → h₁.get? b = some o := fun b o e => hsb.extBut b o (Nat.ne_of_lt (Heap.lt_size e)) (Heap.get?_push_of_some _ e)
  have J0 := lamN_start (E := E) (f := f) (c' := c') (tk := s1.toks + ([(p, u)] : List (Str × Value)).length) I L e0 room.hd un hns kp
  have J : Inv (lamCx1 X p A outer1 s1 HZ E scope f c') [] (σ ++ [some v]) HZ { s1 with heap := h₁, toks := s1.toks + ([(p, u)] : List (Str × Value)).length } := more_inv (p := p) (u := u) J0 ⟨_, hns, by simp [List.lookup]⟩ hp.loc ru
  have tk : Takes (lamCx1 X p A outer1 s1 HZ E scope f c') (fun cls d _ H' => E cls d H') := takes_of rfl rfl rfl rfl
  have post' : PostE Γ (fun c d _ H => E c d H) HZ μ1 Z1 (σ ++ [some v]) Q (gb (ρ ++ [some wd]) st) := by
    revert post
    cases gb (ρ ++ [some wd]) st with
    | ok w s' => exact id
    | er x s' => exact id
    | no => exact id
  refine PySem.W.kla_codeExpr (wpAny_mono ((hbody A outer1 s1 HZ E _ (room.deeper _) (by show (A.deeper _).guards = _; rw [← guards]; rfl) tk).run [] _ (σ ++ [some v]) HZ Q J ⟨μ1, Z1, ρ ++ [some wd], st, re_snoc (of_sel hE rws) rwd, hR, post'⟩) (fun v s' hq => ?_) fun e s' hq => hq)
  obtain ⟨w', H', J', rv, q⟩ := hq
  exact ⟨w', H', J'.os, J'.bare, J'.base, J'.hok, rv, q⟩
theorem lam_made1 {c P : Addr} {ps : Array Value} {params : Arguments} {body : Expr} {scope : Scope} {pos : Pos} {p : Str} {Q E : Value → Shared → Prop} (hp : LamP1 params scope p) (I : Inv X pins σ H s) (TB : LamX.TabB X.base X.mg c P) (hcode : X.env.code = .ref c)
    (hP : H P = some (.tbl ps)) (ht : TriplesOk ps.toList) (ha : ∀ (pos : Pos) (cv : Value), codeAmong pos ps.toList = some cv → ∃ c, cv = .ref c ∧ H c = some (LamX.CodeO c (X.env.qual ++ "<lambda>")))
    (hfree : ∀ y ∈ scope.names, y.2 = .free → ∃ c, X.env.cells.lookup y.1 = some c)
    (h : ∀ (f c' : Addr) (doc ctv : Value) (H1 : Hp) (s' : Shared), Inv X pins σ H1 s' → Made H H1 P ps pos c' (X.env.qual ++ "<lambda>") →
      s'.heap.get? f = some (lamObj (X.env.qual ++ "<lambda>") params body scope (cloFrom X.env.cells scope.names []) .none doc ((X.mg "__name__").getD .none) c' ctv) → H1 f = none → s.heap.objs.size ≤ f → H1 c' = some (LamX.CodeO c' (X.env.qual ++ "<lambda>")) → Q (.ref f) s') :
    wpAny (model X.prog X.w) X.A (eval (.Lambda params body scope pos) X.env) Q E s := by
  refine PySem.W.kla_eval (hp.dfl X.env) ?_
  rw [makeFunction_eq]
  simp only [List.zip_nil_right, List.filterMap_nil, List.isEmpty_nil, if_true, pure_bind]
  exact lam_tail I TB hcode hP ht ha hfree fun f c' doc ctv H1 s' I1 m _ h1 h2 h3 h4 => h f c' doc ctv H1 s' I1 m h1 h2 h3 h4
end
def spU (P : Program) (w : World) (Γ : Ct) (mg : Str → Option Value) (base : Heap) (kk : Nat) (ps : List Str) (den : (Dv → Sto → R Dv) → Fn) (outer : List PySem.Env) (s : Shared) (vs : List V) (H : Hp) (Q : VK) (E : XK) : Prop :=
  vs.length = ps.length ∧ ∃ f c q ws vs0 g μ Z st w0, Thk1 P w Γ mg base kk outer s H f c q ws vs0 g ∧ Rep Γ H μ Z st ∧ RVs Γ H μ Z (w0 :: .clo f c q ws vs0 :: []) vs ∧ PostE Γ (fun c d _ H => E c d H) H μ Z [] Q (den g [w0] st)
structure FnU (P : Program) (w : World) (mg : Str → Option Value) (base : Heap) (Γ : Ct) (k kk : Nat) (f : Addr) (fd : FuncData) (ps : List Str) (den : (Dv → Sto → R Dv) → Fn) : Prop where
  run : ∀ (A : Around) (outer : List PySem.Env) (s : Shared) (H : Hp) (args : Args) (us : List Value) (vs : List V) (Q : VK) (E : XK), Room k A → A.guards = some [] → Env0 P w Γ.K mg base A outer s H → BindsTo s fd args (ps.zip us) → Vals vs us → spU P w Γ mg base kk ps den outer s vs H Q E →
    codeAny (model P w) A (.call (.ref f) args) (CR (L2.CX P w) outer P w H s Q E) s
theorem ok_fnU {P : Program} {w : World} {mg : Str → Option Value} {base : Heap} {Γ : Ct} {x qual : Str} {st : Stmt} {f : Addr} {fd : FuncData} {N ps : List Str} {k kk : Nat} {c : Dv → (Dv → Sto → R Dv) → FS} {den : (Dv → Sto → R Dv) → Fn} (F : Fun Γ.K x qual st f fd) (S : FnScope N ps (defScope st))
    (hbody : ∀ (cdv : Value) (A : Around) (outer : List PySem.Env) (s : Shared) (H : Hp) (E : XK) (W : WX) (f' c' : Addr) (q : Str) (ws : List Dv) (vs : List V) (g : Dv → Sto → R Dv), Thk1 P w Γ mg base kk outer s H f' c' q ws vs g → Room k (A.deeper (envF qual st s f cdv)) → (A.deeper (envF qual st s f cdv)).guards = some [] → Takes (cxF Γ P w mg base N qual st f cdv A outer s H E) W →
      MB (cxF Γ P w mg base N qual st f cdv A outer s H E) Γ W (defBody st) (c (.clo f' c' q ws vs) g))
    (hden : ∀ (cl : Dv) (g : Dv → Sto → R Dv) (w0 : Dv) (s : Sto), finC s.length (c cl g (startD N.length [w0, cl]) s) = den g [w0] s) : FnU P w mg base Γ (k + 1) kk f fd ps den := by
  obtain ⟨oc, od, kV, doc, pm, an, cdv, ct, osl, rfl, lk, hcd⟩ := F.ex
  refine ⟨fun A outer s H args us vs Q E room guards e0 binds rel ⟨hlen, f', c', q, ws, vs0, g, μ, Z, st0, w0, T, hR, rws, post⟩ => ?_⟩
  have stays : ∀ b o, base.get? b = some o → s.heap.get? b = some o := fun b o e => (e0.bs b o e).1
  have inK : Γ.K.In s.heap := e0.mod.kin.keeps stays
  have kinds : ∀ y ∈ ps.zip us, (defScope st).names.lookup y.1 = some .local ∨ ((defScope st).names.lookup y.1 = some .cell ∧ ((cellsFrom (s.heap.objs.size + 1) (defScope st).names []).lookup y.1).isSome = true) := by
    rintro ⟨n, v⟩ hy
    exact (S.par n (List.of_mem_zip hy).1).imp id fun q => ⟨q, PySem.W.cellsFrom_some _ _ _ (.inl q)⟩
  refine codeAny_call_function room.depth (inK _ _ lk) rfl S.co S.gen rfl (PySem.W.codeRec_of inK hcd) (binds _ _ _ _ ?_)
  refine wpAny_newFunctionEnv_cells S.kind kinds fun env he s1 entered => ?_
  subst he
  refine ⟨(e0.mod.nolimit.keeps stays).keeps entered.toInCall.keep, codeAny_func ?_⟩
  have I := inv_start (CX := L2.CX P w) (E := E) (cd := cdv) S room.hd e0 hlen rel entered
  have tk : Takes (cxF Γ P w mg base N qual st f cdv A outer s H E) (fun cls d _ H' => E cls d H') := takes_of rfl rfl rfl rfl
  rw [← hden (.clo f' c' q ws vs0)] at post
  have run := (hbody cdv A outer s H E _ f' c' q ws vs0 g T (room.deeper _) (by show (A.deeper _).guards = _; rw [← guards]; rfl) tk).run [] s1 (L2.start N vs) H { nx := fun _ H' => Q .non H', rt := Q } I
    ⟨μ, Z, startD N.length [w0, .clo f' c' q ws vs0], st0, re_start rws, hR, body_end hR post⟩
  refine wpAny_mono run (fun fl s' hs => ?_) fun e s' hs => hs
  cases fl with
  | ret u =>
    obtain ⟨v, σ', H', J, rv, q⟩ := hs
    exact ⟨v, H', J.os, J.bare, J.base, J.hok, rv, q⟩
  | next =>
    obtain ⟨σ', H', J, q⟩ := hs
    exact ⟨V.non, H', J.os, J.bare, J.base, J.hok, rfl, q⟩
  | brk => exact hs.elim fun _ z => z.elim fun _ z => z.2.elim
  | cont => exact hs.elim fun _ z => z.elim fun _ z => z.2.elim
section
variable {X : Cx} {Γ : Ct} {W : WX} {k kk : Nat} {f : Addr} {fd : FuncData} {ps : List Str} {den : (Dv → Sto → R Dv) → Fn} {x a : Str} {i : Nat} {p p1 p2 pos lpos : Pos} {e : Expr} {es : List Expr} {fa : FA}
open Classical in
/-- a(e): the lambda that the name holds -/
noncomputable def mThk1 (i : Nat) (cl : Dv) (g : Dv → Sto → R Dv) (fa : FA) : FE := fun ρ s => if ρ[i]? = some (some cl) then (fa ρ s).bind fun ws s1 => match ws with
  | [wd] => g wd s1
  | _ => .no else .no
theorem me_thk1 {f' c' : Addr} {q : Str} {ws : List Dv} {vs : List V} {g : Dv → Sto → R Dv} (T : Thk1 X.prog X.w Γ X.mg X.base kk X.outer X.s_0 X.H_0 f' c' q ws vs g) (hK : Γ.K = X.K) (hex : X.ex = []) (hr : Room kk X.A) (hg : X.A.guards = some []) (tk : Takes X W)
    (hN : X.N[i]? = some a) (hv : Vis X.env.scope a) (ha : MA X Γ W [e] fa) (hd : (a == ("__debug__" : Str)) = false := by decide) (hcd : (a == ("__classdict__" : Str)) = false := by decide)
    (he : starEach [e] X.env = (false, eval e X.env) :: starEach [] X.env := by rfl) (hpl : (backTo p2 (starEach [] X.env)).any (·.1) = false := by rfl) :
    ME X Γ W (.Call (.Name a p1) [e] [] p2) (mThk1 i (.clo f' c' q ws vs) g fa) := by
  refine ⟨fun pins s σ H Q I ⟨μ, Z, ρ, st, hE, hR, post⟩ => ?_⟩
  unfold mThk1 at post
  split at post
  · rename_i hi
    obtain ⟨v, hs, ev, hc, fzc, rws⟩ := hE.2 i _ hi
    subst ev
    refine wpAny_Call_Name_kw (thn ((pe_var (pos := p1) (i := i) hN hv hd hcd).run pins s σ H (fun v H1 => v = .ref f' ∧ H1 = H) I ⟨.ref f', hs, rfl, rfl⟩) fun u s1 ⟨v, H1, I1, r1, q1⟩ => ?_)
    obtain ⟨ev, eH⟩ := q1
    subst ev
    rw [eH] at I1
    obtain rfl : u = Value.ref f' := r1
    have un : ∀ {H2 : Hp} {s2 : Shared}, Inv X pins σ H2 s2 → Un (frs X.outer) [] X.H_0 H2 X.s_0.heap s2.heap := fun {H2 s2} I2 => by have := I2.base; rw [hex] at this; exact this
    have q' : rdA Γ W fa σ H fun us H2 => ∃ wd v μ2 st2, us = [v] ∧ H2 c' = some (LamX.CodeO c' q) ∧ RVs Γ H2 μ2 Z ws vs ∧ RV Γ H2 μ2 Z wd v ∧ Rep Γ H2 μ2 Z st2 ∧ PostE Γ (fun c d _ H => WE W σ c d H) H2 μ2 Z [] Q (g wd st2) := by
      refine ⟨μ, Z, ρ, st, hE, hR, ?_⟩
      cases e1 : fa ρ st with
      | ok wl s1 =>
        rw [e1] at post
        match wl, post with
        | [wd], post =>
          have post : PostE Γ W H μ Z σ Q (g wd s1) := post
          intro us H2 μ2 ev2 R2 r2
          obtain ⟨x, xs, ex, rx, rn⟩ := r2
          subst ex
          obtain rfl : xs = [] := rn
          exact ⟨wd, x, μ2, s1, rfl, ev2.keep _ _ hc fzc.1, rws.mono ev2, rx, R2, post_call (PostE.evo ev2 post)⟩
        | [], post => exact post.elim
        | _ :: _ :: _, post => exact post.elim
      | er x1 s1 => rw [e1] at post; exact post
      | no => rw [e1] at post; exact post
    refine PySem.W.callWith_F (T.fn s1 H (un I1)) (thn (ha.run p2 pins s1 σ H _ I1 q') fun us s2 ⟨vl, H2, I2, r, wd, v, μ2, st2, z1, z2, z3, z4, z5, z6⟩ => ⟨T.fn s2 H2 (un I2), ?_⟩) he hpl
    subst z1
    cases r with
    | cons r0 rr =>
      cases rr
      refine wpAny_call (codeAny_mono (T.run X.A X.stack s2 H2 Q (WE W σ) μ2 Z st2 wd v _ hr hg (by rw [hK]; exact I2.env0) (un I2) z2 z3 z5 r0 z4 z6) fun r' s' hq => ?_)
      cases r' with
      | error e => exact passAt tk σ pins H2 s2 e s' I2 hq
      | ok fl =>
        cases fl with
        | ret u => exact I2.after hq
        | next => exact hq.elim
        | brk => exact hq.elim
        | cont => exact hq.elim
  · exact post.elim
theorem run_U {pins : List (Addr × Obj)} {σ : L2.St} {H : Hp} {s : Shared} {Q : VK} {us : List Value} {vs : List V} (F : FnU X.prog X.w X.mg X.base Γ k kk f fd ps den) (hK : Γ.K = X.K) (hr : Room k X.A) (hg : X.A.guards = some []) (hb : Binds X.K fd ps []) (tk : Takes X W)
    (I : Inv X pins σ H s) (r : Vals vs us) (h : spU X.prog X.w Γ X.mg X.base kk ps den X.stack s vs H Q (WE W σ)) : wpAny (model X.prog X.w) X.A (call (.ref f) us) (EP X pins σ Q) X.xe s := by
  have hl : (us ++ []).length = ps.length := by rw [List.append_nil]; exact r.length.symm.trans h.1
  have hb' := hb s us I.kIn hl
  rw [List.append_nil] at hb'
  refine wpAny_call (codeAny_mono (F.run X.A X.stack s H ⟨us, []⟩ us vs Q (WE W σ) hr hg (by rw [hK]; exact I.env0) hb' r h) fun r' s' hq => ?_)
  cases r' with
  | error e => exact passAt tk σ pins H s e s' I hq
  | ok fl =>
    cases fl with
    | ret u => exact I.after hq
    | next => exact hq.elim
    | brk => exact hq.elim
    | cont => exact hq.elim
/-- x(e0, lambda p: ..) -/
def mLamU (nt n : Nat) (q : Str) (gb : FE) (den : (Dv → Sto → R Dv) → Fn) (f0 : FE) : FE := fun ρ s => (f0 ρ s).bind fun w0 s0 => match s0[nt]? with
  | some (.tab m q') => if m = n ∧ q' = q then den (fun wd st => gb (ρ ++ [some wd]) st) [w0] s0 else .no
  | _ => .no
/-- what a call of x must know, x being one that gets such a lambda in the second place -/
def CalU (P : Program) (w : World) (mg : Str → Option Value) (base : Heap) (Γ : Ct) (k kk : Nat) (x : Str) (ps : List Str) (den : (Dv → Sto → R Dv) → Fn) : Prop :=
  ∃ (f : Addr) (fd : FuncData), FnU P w mg base Γ k kk f fd ps den ∧ mg x = some (.ref f) ∧ PySem.W.keepIn Γ.K (.ref f) = true ∧ Binds Γ.K fd ps []
theorem me_lamU {c : Addr} {nt n : Nat} {params : Arguments} {body e0 : Expr} {scope : Scope} {gb f0 : FE} {kb : Nat} {y : Str} (C : CalU X.prog X.w X.mg X.base Γ k (kb + 1) x ps den) (hK : Γ.K = X.K)
    (hr : Room k X.A) (hg : X.A.guards = some []) (tk : Takes X W) (hgl : Gl X x) (TB : LamX.TabB X.base X.mg c (Γ.tb n)) (hcode : X.env.code = .ref c) (hp : LamP1 params scope y) (L : LamN X.N X.env.scope scope)
    (hbody : ∀ (f c' : Addr) (A : Around) (outer : List PySem.Env) (s : Shared) (H : Hp) (E : XK) (W : WX), Room kb (A.deeper (LamX.lamEnv X scope s.heap.objs.size f c')) → (A.deeper (LamX.lamEnv X scope s.heap.objs.size f c')).guards = some [] → Takes (lamCx1 X y A outer s H E scope f c') W → ME (lamCx1 X y A outer s H E scope f c') Γ W body gb)
    (h0 : ME X Γ W e0 f0) (hn : 2 = ps.length) (hdb : (x == ("__debug__" : Str)) = false := by decide)
    (he0 : starEach [e0, .Lambda params body scope lpos] X.env = (false, eval e0 X.env) :: starEach [.Lambda params body scope lpos] X.env := by rfl)
    (he : starEach [.Lambda params body scope lpos] X.env = (false, eval (.Lambda params body scope lpos) X.env) :: starEach [] X.env := by rfl)
    (hpl : (backTo pos (starEach [.Lambda params body scope lpos] X.env)).any (·.1) = false := by rfl) :
    ME X Γ W (.Call (.Name x p) [e0, .Lambda params body scope lpos] [] pos) (mLamU nt n (X.env.qual ++ "<lambda>") gb den f0) := by
  obtain ⟨f, fd, F, hm, hk, hb⟩ := C
  rw [hK] at hk hb
  refine ⟨fun pins s σ H Q I ⟨μ0, Z, ρ, s00, hE0, hR0, post0⟩ => ?_⟩
  refine wpAny_Call_Name_kw (ld_glob I hgl hm ?_ hdb)
  unfold mLamU at post0
  refine PySem.W.callWith_K (h₀ := X.base) I.ok.mod.kin hk ?_ he0 hpl
  rw [he0]
  show wpAny _ _ (spliced ((false, eval e0 X.env) :: backTo pos (starEach [.Lambda params body scope lpos] X.env))) _ _ s
  have r0 : rdE Γ W f0 σ H fun v0 Ha => ∃ μ ws0 sa, Evo H μ0 Ha μ ∧ RE Γ Ha μ Z ρ σ ∧ Rep Γ Ha μ Z sa ∧ RV Γ Ha μ Z ws0 v0 ∧ PostE Γ W Ha μ Z σ Q (match sa[nt]? with
      | some (.tab m q') => if m = n ∧ q' = X.env.qual ++ "<lambda>" then den (fun wd st => gb (ρ ++ [some wd]) st) [ws0] sa else .no
      | _ => .no) := eE hE0 hR0 post0 fun v s1 uv H1 μ1 e1 E1 R1 r1 q1 => ⟨μ1, v, s1, e1, E1, R1, r1, q1⟩
  refine Calls.spliced_cons (thn (h0.run pins s σ H _ I r0) fun u0 sA ⟨v0, HA, IA, rv0, μ, ws0, st0, evA, hE, hR, rw0, post⟩ => ?_)
  rw [he]
  split at post
  · rename_i m q' et
    split at post
    · rename_i hmq
      obtain ⟨h1, h2⟩ := hmq
      subst h1 h2
      obtain ⟨a, g1, g2, g3, ps0, g4, g5, g6⟩ := hR.at nt _ et
      subst g3
      show wpAny _ _ (spliced ((false, eval (.Lambda params body scope lpos) X.env) :: backTo pos (starEach [] X.env))) _ _ sA
      refine Calls.spliced_cons (lam_made1 hp IA TB hcode g4 g5 (fun p' cv e => let ⟨c0, e1, e2, _⟩ := g6 p' cv e; ⟨c0, e1, e2⟩) (L.has IA.ok) fun f' c' doc ctv H1 s1 I1 m1 o1 o2 o3 o4 => ?_)
      obtain ⟨ev, R1, fzc⟩ := made_rep hR g1 et g4 m1
      have E1 : RE Γ H1 μ Z ρ σ := hE.mono ev
      have T := thk1_of (gb := gb) I1 hK L hp o1 o2 (Inv.outFrs IA o3) E1 (hbody f' c')
      refine Calls.spliced_nil ⟨I1.kIn, ?_⟩
      exact run_U F hK hr hg hb tk I1 (us := [u0, .ref f']) (.cons rv0 (.cons (show L2.RelV (.ref f') (.ref f') from rfl) .nil)) ⟨by rw [← hn]; rfl, f', c', _, _, _, _, μ, Z, st0, ws0, T, R1, ⟨v0, _, rfl, rw0.mono ev, ⟨.ref f', [], rfl, ⟨rfl, o4, fzc, sel_of E1⟩, rfl⟩⟩, post_call (PostE.evo ev post)⟩
    · exact post.elim
  · exact post.elim
end
end MP
set_option Elab.async false
set_option linter.all false
set_option maxRecDepth 100000
set_option maxHeartbeats 4000000
namespace MP
open PySem PySem.Spec PyProof.Rows L2
structure FnX (P : Program) (w : World) (mg : Str → Option Value) (base : Heap) (Γ : Ct) (k : Nat) (f : Addr) (fd : FuncData) (ps : List Str) (den : Dv → Sto → R Dv) : Prop where
  run : ∀ (A : Around) (outer : List PySem.Env) (s : Shared) (H : Hp) (args : Args) (us : List Value) (v0 : V) (vs : List V) (Q : VK), L2H.RoomH k A → A.guards = some [] → Env0 P w Γ.K mg base A outer s H → BindsTo s fd args (ps.zip us) → Vals (v0 :: vs) us → vs.length + 1 = ps.length →
    (∃ μ Z st w0, Rep Γ H μ Z st ∧ RV Γ H μ Z w0 v0 ∧ PostE Γ W0 H μ Z [] Q (den w0 st)) → codeAny (model P w) A (.call (.ref f) args) (CR (L2.CX P w) outer P w H s Q fun _ _ _ => False) s
/-- the context of its body -/
abbrev cxX (Γ : Ct) (P : Program) (w : World) (mg : Str → Option Value) (base : Heap) (N : List Str) (qual : Str) (st : Stmt) (f : Addr) (cdv : Value) (A : Around) (outer : List PySem.Env) (s : Shared) (H : Hp) (E : XK) : Cx :=
  { cxF Γ P w mg base N qual st f cdv A outer s H E with calm := false }
def startX (n : Nat) (w0 : Dv) : Env := some w0 :: List.replicate (n - 1) none
theorem re_startX {Γ : Ct} {H : Hp} {μ : Mu} {Z : Zs} {N : List Str} {w0 : Dv} {v0 : V} {vs : List V} (hl : vs.length + 1 ≤ N.length) (r : RV Γ H μ Z w0 v0) : RE Γ H μ Z (startX N.length w0) (L2.start N (v0 :: vs)) := by
  refine ⟨?_, fun i w q => ?_⟩
  · unfold startX L2.start
    simp only [List.length_cons, List.length_append, List.length_map, List.length_replicate]
    omega
  · unfold startX at q
    cases i with
    | zero =>
      cases q
      exact ⟨v0, rfl, r⟩
    | succ i =>
      rw [List.getElem?_cons_succ, List.getElem?_replicate] at q
      split at q <;> cases q
theorem ok_fnX {P : Program} {w : World} {mg : Str → Option Value} {base : Heap} {Γ : Ct} {x qual : Str} {st : Stmt} {f : Addr} {fd : FuncData} {N ps : List Str} {k : Nat} {c : FS} (F : Fun Γ.K x qual st f fd) (S : FnScope N ps (defScope st))
    (hbody : ∀ (cdv : Value) (A : Around) (outer : List PySem.Env) (s : Shared) (H : Hp) (E : XK), MB (cxX Γ P w mg base N qual st f cdv A outer s H E) Γ W0 (defBody st) c) : FnX P w mg base Γ (k + 1) f fd ps (fun w0 s => finC s.length (c (startX N.length w0) s)) := by
  obtain ⟨oc, od, kV, doc, pm, an, cdv, ct, osl, rfl, lk, hcd⟩ := F.ex
  refine ⟨fun A outer s H args us v0 vs Q room guards e0 binds rel hlen ⟨μ, Z, st0, w0, hR, rw0, post⟩ => ?_⟩
  have stays : ∀ b o, base.get? b = some o → s.heap.get? b = some o := fun b o e => (e0.bs b o e).1
  have inK : Γ.K.In s.heap := e0.mod.kin.keeps stays
  have kinds : ∀ y ∈ ps.zip us, (defScope st).names.lookup y.1 = some .local ∨ ((defScope st).names.lookup y.1 = some .cell ∧ ((cellsFrom (s.heap.objs.size + 1) (defScope st).names []).lookup y.1).isSome = true) := by
    rintro ⟨n, v⟩ hy
    exact (S.par n (List.of_mem_zip hy).1).imp id fun q => ⟨q, PySem.W.cellsFrom_some _ _ _ (.inl q)⟩
  have hpl : ps.length ≤ N.length := by have := congrArg List.length S.pre; rw [List.length_take] at this; omega
  refine codeAny_call_function room.depth (inK _ _ lk) rfl S.co S.gen rfl (PySem.W.codeRec_of inK hcd) (binds _ _ _ _ ?_)
  refine wpAny_newFunctionEnv_cells S.kind kinds fun env he s1 entered => ?_
  subst he
  refine ⟨(e0.mod.nolimit.keeps stays).keeps entered.toInCall.keep, codeAny_func ?_⟩
  let A' : Around := { A with handled := none }
  have e1 : Env0 P w Γ.K mg base A' outer s H := ⟨e0.frames, e0.mod, e0.bs, e0.bsz, e0.funs, e0.frf, e0.hok, e0.bare⟩
  have I0 : Inv (cxF Γ P w mg base N qual st f cdv A' outer s H fun _ _ _ => False) [] (L2.start N (v0 :: vs)) H s1 := inv_start (CX := L2.CX P w) (E := fun _ _ _ => False) (cd := cdv) S rfl e1 (by rw [List.length_cons]; exact hlen) rel entered
  have I : Inv (cxX Γ P w mg base N qual st f cdv A outer s H fun _ _ _ => False) [] (L2.start N (v0 :: vs)) H s1 := by
    have o := I0.ok
    exact ⟨⟨o.mod, o.kind, o.glob, o.blt, o.above, o.inj, o.has, o.cab, (fun z => nomatch (show false = true from z)), Around.frames_deeper e0.frames, .inr ⟨rfl, rfl⟩, o.exf, o.bs, o.bsz, o.noex, o.exfs, o.funs, o.frf⟩, I0.os, I0.bare, I0.base, I0.loc, I0.cell, I0.free, I0.freeC, I0.pin, I0.hok, I0.len⟩
  have run := (hbody cdv A outer s H fun _ _ _ => False).run [] s1 (L2.start N (v0 :: vs)) H { nx := fun _ H' => Q .non H', rt := Q } I
    ⟨μ, Z, startX N.length w0, st0, re_startX (by omega) rw0, hR, body_end (E := fun _ _ _ => False) hR post⟩
  refine wpAny_mono run (fun fl s' hs => ?_) fun e s' hs => hs
  cases fl with
  | ret u =>
    obtain ⟨v, σ', H', J, rv, q⟩ := hs
    exact ⟨v, H', J.os, J.bare, J.base, J.hok, rv, q⟩
  | next =>
    obtain ⟨σ', H', J, q⟩ := hs
    exact ⟨V.non, H', J.os, J.bare, J.base, J.hok, rfl, q⟩
  | brk => exact hs.elim fun _ z => z.elim fun _ z => z.2.elim
  | cont => exact hs.elim fun _ z => z.elim fun _ z => z.2.elim
section
variable {prog : Program} {w : World} {A : Around} {E : Value → Shared → Prop} {s : Shared} {env : PySem.Env} {K : PySem.W.Frag} {x C fe fx : Addr} {pos : Pos} {ox : Obj} {od : Option Obj}
/-- what an exception at a meets: the __exit__ called at s6 -/
def ExitAt (prog : Program) (w : World) (A : Around) (E : Value → Shared → Prop) (env : PySem.Env) (x fx : Addr) (Q : Flow → Shared → Prop) (e : Value) (s6 : Shared) : Prop :=
  ∃ (a T : Addr) (oe oT : Obj) (vs ts : Array Value), e = .ref a ∧ s6.heap.get? a = some oe ∧ oe.data = .fields vs ∧ vs[1]? = some (.ref T) ∧ s6.heap.get? T = some oT ∧ oT.data = .fields ts ∧ 1 < ts.size ∧
    ∀ tb, (tb = .none ∨ tb = .ref T) → codeAny (model prog w) (A.mark (some (.ref a))) (.call (.ref fx) ⟨[.ref x, oe.cls, .ref a, tb], []⟩) (fun r s' => match r with
      | .ok (.ret u) => u = .none ∧ wpAny (model prog w) A (PySem.passOn "with" (.ref a) env : Sem Flow) Q E s'
      | .ok _ => False
      | .error _ => False) s6
theorem with_core {b : Value → Sem Unit} {bdy : Sem Flow} {Q : Flow → Shared → Prop} (X : K.In s.heap) (I : PySem.W.InstAt s.heap x ox C od) (he : PySem.W.findIn K (.ref C) "__enter__" = some (some (.ref fe))) (hfe : PySem.W.isFn K (.ref fe) = true) (hx : PySem.W.findIn K (.ref C) "__exit__" = some (some (.ref fx))) (hfx : PySem.W.isFn K (.ref fx) = true)
    (h : wpAny (model prog w) A (call (.ref fe) [.ref x]) (fun v s2 => wpAny (model prog w) A (b v >>= fun _ => bdy) (fun f s4 => wpAny (model prog w) A (call (.ref fx) [.ref x, .none, .none, .none]) (fun _ s5 => Q f s5) E s4)
      (fun e s4 => wpAny (model prog w) A (noteFrame e env) (fun _ s5 => wpAny (model prog w) A (setFlight e none) (fun _ s6 => ExitAt prog w A E env x fx Q e s6) E s5) E s4) s2) E s) :
    wpAny (model prog w) A (withItem false pos env (pure (.ref x)) (some b) bdy) Q E s := by
  obtain ⟨cd, hcd, ae⟩ := PySem.W.kw_along he
  obtain ⟨cd', hcd', ax⟩ := PySem.W.kw_along hx
  obtain rfl : cd = cd' := Option.some.inj (hcd.symm.trans hcd')
  obtain ⟨hh, g, d, tt, os⟩ := s
  have look1 := PySem.W.kw_special (M := model prog w) X I hcd ae
  have look2 := PySem.W.kw_special (M := model prog w) X I hcd ax
  have look3 := PySem.W.bind_fn (M := model prog w) X (.ref x) (beq_iff_eq.mp hfe)
  have look4 := PySem.W.bind_fn (M := model prog w) X (.ref x) (beq_iff_eq.mp hfx)
  have look5 : PySem.W.Looks (model prog w) hh (aMethodOfAnotherBuiltinTypeStops (.ref fe) cd.mro) () := PySem.W.Looks.of_pure rfl
  have look6 : PySem.W.Looks (model prog w) hh (aMethodOfAnotherBuiltinTypeStops (.ref fx) cd.mro) () := PySem.W.Looks.of_pure rfl
  unfold withItem
  refine wpAny_bind (wpAny_pure (wpAny_bind (wpAny_standAt ?_)))
  simp only [if_neg Bool.false_ne_true]
  kw_lk
  refine thn h fun v s2 h2 => ?_
  kw_lk
  refine wpAny_attempt (PySem.W.kw_held (wpAny_mono h2 (fun f s4 h4 => ?_) fun e s4 h4 => ?_))
  · kw_lk
    refine thn h4 fun _ s5 h5 => ?_
    kw_lk
    exact h5
  · refine wpAny_bind (thn h4 fun _ s5 h5 => wpAny_bind (thn h5 fun _ s6 h6 => ?_))
    obtain ⟨a, T, oe, oT, vs, ts, rfl, hoe, hd, h1, hoT, hdT, h1T, run⟩ := h6
    have run' : ∀ tb, (tb = Value.none ∨ tb = .ref T) → wpAny (model prog w) A (withItem.marked (.ref a) (.call (.ref fx) ⟨[.ref x, oe.cls, .ref a, tb], []⟩)) (fun r s' => r = .none ∧ wpAny (model prog w) A (PySem.passOn "with" (.ref a) env : Sem Flow) Q E s') E s6 := fun tb htb => by
      unfold withItem.marked
      refine wpAny_bind (wpAny_run (codeAny_mono (run tb htb) fun r s' hr => ?_) (fun z => ref_ne_byPass a (Option.some.inj z)))
      cases r with
      | error e => exact hr.elim
      | ok f =>
        cases f with
        | ret u => exact wpAny_pure hr
        | next => exact hr.elim
        | brk => exact hr.elim
        | cont => exact hr.elim
    refine wpAny_bind (wpAny_standAt (wpAny_holding ?_))
    refine wpAny_bind (wpAny_typeOf_ref hoe ?_)
    have tbk : wpAny (model prog w) A (tracebackOf (.ref a)) (fun tb s' => s' = s6 ∧ (tb = Value.none ∨ tb = .ref T)) E s6 := by
      unfold tracebackOf
      refine wpAny_bind (wpAny_field hoe hd h1 ?_)
      dsimp only
      refine wpAny_bind (wpAny_field hoT hdT (x := ts[1]) (Array.getElem?_eq_getElem h1T) ?_)
      split
      · exact wpAny_pure ⟨rfl, .inl rfl⟩
      · exact wpAny_pure ⟨rfl, .inr rfl⟩
    refine wpAny_bind (thn tbk fun tb s' htb => ?_)
    obtain ⟨rfl, htb⟩ := htb
    refine wpAny_bind (thn (run' tb htb) fun r s7 h7 => ?_)
    obtain ⟨rfl, h7⟩ := h7
    refine wpAny_bind (wpAny_pure ?_)
    dsimp only
    refine wpAny_bind (wpAny_pure ?_)
    rw [if_neg Bool.false_ne_true]
    exact h7
end
section
variable {X : Cx} {pins : List (Addr × Obj)} {σ σ6 : L2.St} {H H6 : Hp} {sI s6 : Shared} {B h3 : Heap} {a : Addr} {cls : Value} {d : Option Addr} {W : WX}
theorem pass_with {Q : Flow → Shared → Prop} (hs : X.stack = X.env :: X.outer) (hf : X.env.frame = some X.env.locals) (hex : X.ex = []) (tk : Takes X W) (J : Inv X pins σ H sI) (nb : ∀ b o, sI.heap.get? b = some o → b ∉ frs X.stack → B.get? b = some o)
    (fl3 : HandSPX.FlyingZ B (X.env :: X.outer) a (Zc cls d) h3) (un : Un (frs X.stack) [] H H6 h3 s6.heap) (J6 : Inv X pins σ6 H6 s6) (na : H a = none) (hw : W cls d σ6 H6) : wpAny (model X.prog X.w) X.A (PySem.passOn "with" (.ref a) X.env : Sem Flow) Q X.xe s6 := by
  obtain ⟨k1, k2, k3, oe, vs, T, oT, ts, he3, hz, hd, hv1, hnT, hTe, hT, hdT, ht3⟩ := id fl3
  have nT : H T = none := (J.inGround nb).gone hnT
  have outF : ∀ {b : Addr} {o : Obj} {fv : Array Value}, h3.get? b = some o → o.data = .fields fv → b ∉ frs X.stack := fun {b o fv} e dd hm => by
    rw [hs] at hm
    obtain ⟨_, o', e', hnf⟩ := k3.mem hm
    rw [e] at e'
    cases e'
    exact hnf _ dd
  have ga : s6.heap.get? a = some oe := un.keep a oe he3 na (outF he3 hd) (fun z => nomatch z)
  have gT : s6.heap.get? T = some oT := un.keep T oT hT nT (outF hT hdT) (fun z => nomatch z)
  have na6 : H6 a = none := un.free a oe he3 na (fun z => nomatch z)
  have nT6 : H6 T = none := un.free T oT hT nT (fun z => nomatch z)
  have far : ∀ b o, sI.heap.get? b = some o → b ≠ a ∧ b ≠ T := fun b o e => by
    by_cases hb : b ∈ frs X.stack
    · exact ⟨fun z => outF he3 hd (z ▸ hb), fun z => outF hT hdT (z ▸ hb)⟩
    · have q := nb b o e hb
      refine ⟨fun z => ?_, fun z => ?_⟩
      · rw [z, k2] at q; cases q
      · rw [z, hnT] at q; cases q
  have far0 : ∀ b o, X.s_0.heap.get? b = some o → b ≠ a ∧ b ≠ T := fun b o e =>
    let ⟨o', q⟩ := J.base.there b o e (by rw [hex]; intro z; cases z)
    far b o' q
  obtain ⟨G, g1, g2⟩ := restrict s6.heap fun b => decide (b ≠ a ∧ b ≠ T)
  have gIn : ∀ {b : Addr} {o : Obj}, G.get? b = some o → s6.heap.get? b = some o ∧ b ≠ a ∧ b ≠ T := fun {b o} e => by
    by_cases q : b ≠ a ∧ b ≠ T
    · rw [g1 b (decide_eq_true q)] at e
      exact ⟨e, q⟩
    · rw [g2 b (decide_eq_false q)] at e
      cases e
  have I6 : Inv X pins σ6 H6 { s6 with heap := G } := J6.less (fun b o e => (gIn e).1) (fun b o h1 h2 e => (g1 b (decide_eq_true ⟨h1, h2⟩)).trans e) ⟨oe, vs, ga, hd⟩ ⟨oT, ts, gT, hdT⟩ na6 nT6 far0 fun p hp => far p.1 p.2 (J.pin p hp).1
  have hid : ∀ {b : Addr} {o : Obj}, (PySem.W.hideAll G (frs X.stack)).get? b = some o → s6.heap.get? b = some o ∧ b ≠ a ∧ b ≠ T := fun {b o} e => gIn (PySem.W.of_hideAll _ e)
  have gone : ∀ {b : Addr}, (b = a ∨ b = T) → (PySem.W.hideAll G (frs X.stack)).get? b = none := fun {b} hb => by
    cases q : (PySem.W.hideAll G (frs X.stack)).get? b with
    | none => rfl
    | some o =>
      obtain ⟨_, n1, n2⟩ := hid q
      exact (hb.elim n1 n2).elim
  have fl6 : HandSPX.FlyingZ (PySem.W.hideAll G (frs X.stack)) (X.env :: X.outer) a (Zc cls d) s6.heap := by
    refine ⟨fun b o e => (hid e).1, gone (.inl rfl), ?_, oe, vs, T, oT, ts, ga, hz, hd, hv1, gone (.inr rfl), hTe, gT, hdT, ht3⟩
    rw [← hs]
    exact funFrames_none (B := PySem.W.hideAll G (frs X.stack)) J6.stack fun b hb => PySem.W.hideAll_none _ hb
  unfold PySem.passOn
  refine wpAny_bind (wpAny_field ga hd hv1 ?_)
  rw [if_neg (show ¬ ((Value.ref T == Value.none) = true) by simp)]
  have on : wpAny (model X.prog X.w) X.A (setFlight (.ref a) X.env.frame) (fun _ u => wpAny (model X.prog X.w) X.A (throw (.ref a) : Sem Flow) Q X.xe u) X.xe s6 := by
    rw [hf]
    exact HandSPX.setFlight_upZ fl6 fun h7 hh7 up7 => wpAny_throw (tk _ _ ⟨a, PySem.W.hideAll G (frs X.stack), { s6 with heap := G }, pins, σ6, H6, cls, d, rfl, I6, fun b o e hb => PySem.W.hideAll_get _ e hb, Heap.UpToSlots.trans (Heap.UpToSlots.of_keeps fun b o e => (gIn e).1) up7, .inr (.inr (by rw [← hs] at hh7; exact hh7)), na6, rfl, J6.bare, hw⟩)
  first
    | exact wpAny_bind (wpAny_pure (wpAny_bind on))
    | exact wpAny_bind on
end
/-- what a with statement's class must be -/
def OX (P : Program) (w : World) (mg : Str → Option Value) (base : Heap) (Γ : Ct) (k c : Nat) (ps : List Str) (den : Dv → Sto → R Dv) : Prop := ∃ g fd, FnX P w mg base Γ k g fd ps den ∧ Binds Γ.K fd ps [] ∧ Spc Γ.K (Γ.cls c) "__exit__" g
/-- behind the suite -/
def exitC (den : Dv → Sto → R Dv) (x : Dv) : C → C
  | .nx ρ s => match den x s with | .ok .non s' => .nx ρ s' | _ => .no
  | .bk ρ s => match den x s with | .ok .non s' => .bk ρ s' | _ => .no
  | .ct ρ s => match den x s with | .ok .non s' => .ct ρ s' | _ => .no
  | .rt w s => match den x s with | .ok .non s' => .rt w s' | _ => .no
  | .er e ρ s => match den x s with | .ok .non s' => .er e ρ s' | _ => .no
  | .no => .no
def mWith (c : Nat) (den : Fn) (dex : Dv → Sto → R Dv) (fo : FE) (i : Nat) (body : FS) : FS := fun ρ s => (fo ρ s).thenC ρ fun x s1 => match objOf c s1 x with
  | some _ => (den [x] s1).thenC ρ fun w s2 => exitC dex x (body (ρ.set i (some w)) s2)
  | none => .no
section
variable {X : Cx} {Γ : Ct} {W : WX} {c k kx i : Nat} {ps psx : List Str} {den : Fn} {dex : Dv → Sto → R Dv} {e : Expr} {fo : FE} {y : Str} {body : List Stmt} {cb : FS} {pos py : Pos}
/-- the __exit__, nothing being raised -/
theorem exit_ok {pins : List (Addr × Obj)} {σ : L2.St} {H : Hp} {s : Shared} {μ : Mu} {Z : Zs} {st s5 : Sto} {x0 : Dv} {a gx : Addr} {fdx : FuncData} {E : Value → Shared → Prop} (Fx : FnX X.prog X.w X.mg X.base Γ kx gx fdx psx dex) (hbx : Binds Γ.K fdx psx []) (hnx : 4 = psx.length) (hK : Γ.K = X.K) (hr : Room kx X.A) (hg : X.A.guards = some [])
    (I : Inv X pins σ H s) (R : Rep Γ H μ Z st) (rx : RV Γ H μ Z x0 (.ref a)) (q : dex x0 st = .ok .non s5) :
    wpAny (model X.prog X.w) X.A (call (.ref gx) [.ref a, .none, .none, .none]) (fun _ s' => ∃ H5 μ5, Inv X pins σ H5 s' ∧ Evo H μ H5 μ5 ∧ Rep Γ H5 μ5 Z s5) E s := by
  refine wpAny_call (codeAny_mono (Fx.run X.A X.stack s H _ [.ref a, .none, .none, .none] (.ref a) [.non, .non, .non] (fun v H5 => ∃ μ5, Evo H μ H5 μ5 ∧ Rep Γ H5 μ5 Z s5) (L2H.roomH_of hr) hg (by rw [hK]; exact I.env0) (Binds.at hbx (hK ▸ I.kIn) hnx) (.cons rfl (.cons rfl (.cons rfl (.cons rfl .nil)))) hnx
    ⟨μ, Z, st, x0, R, rx, by rw [q]; exact fun v H' μ' ev R' _ => ⟨μ', ev, R'⟩⟩) fun r s' hq => ?_)
  cases r with
  | error e => exact noneX hq
  | ok fl =>
    cases fl with
    | ret u =>
      obtain ⟨v, H5, I5, _, μ5, ev, R5⟩ := I.after hq
      exact ⟨H5, μ5, I5, ev, R5⟩
    | next => exact hq.elim
    | brk => exact hq.elim
    | cont => exact hq.elim
theorem exitC_some {dex : Dv → Sto → R Dv} {x0 : Dv} {st : Sto} {f : Sto → C} {H : Hp} {μ : Mu} {Z : Zs} {D : Ends} (q : PostS Γ W H μ Z D (match dex x0 st with | .ok .non s' => f s' | _ => .no)) : ∃ s5, dex x0 st = .ok .non s5 ∧ PostS Γ W H μ Z D (f s5) := by
  cases e : dex x0 st with
  | no => rw [e] at q; exact q.elim
  | er x s => rw [e] at q; exact q.elim
  | ok w s5 =>
    rw [e] at q
    cases w with
    | non => exact ⟨s5, rfl, q⟩
    | _ => exact q.elim
theorem ms_with (hs : X.stack = X.env :: X.outer) (hf : X.env.frame = some X.env.locals) (hex : X.ex = []) (Ce : OSp X.prog X.w X.mg X.base Γ k c "__enter__" ps den) (Cx : OX X.prog X.w X.mg X.base Γ kx c psx dex) (hK : Γ.K = X.K) (hr : Room (k + kx) X.A) (hg : X.A.guards = some []) (tk : Takes X W)
    (hN : X.N.Nodup) (hi : X.N[i]? = some y) (hv : Loc X.env.scope y) (ho : ME X Γ W e fo) (hb : ∀ (W : WX) (pn : List (Addr × Obj)) (xe : Value → Shared → Prop), Takes (X.tr pn xe) W → MB (X.tr pn xe) Γ W body cb)
    (hn : 1 = ps.length := by rfl) (hnx : 4 = psx.length := by rfl) (hfn : X.fn y = true ∨ X.env.scope.names.lookup y = some .local := by first | exact .inl rfl | exact .inr rfl) : MS X Γ W (.With [⟨e, some (.Name y py)⟩] body pos) (mWith c den dex fo i cb) := by
  refine ⟨fun pins s σ H D I ⟨μ, Z, ρ, st, hE, hR, q⟩ => ?_⟩
  have ok := I.ok
  have hfr : X.A.frames = some (X.env :: X.outer) := ok.frames.trans (congrArg some hs)
  obtain ⟨g, ⟨fd, F, hbd⟩, S⟩ := Ce
  obtain ⟨gx, fdx, Fx, hbx, Sx⟩ := Cx
  unfold mWith at q
  have q0 : rdE Γ W fo σ H fun x H1 => ∃ a dx kvs μ1 x0 st1, x = .ref a ∧ H1 a = some (.ins (Γ.cls c) dx kvs) ∧ RE Γ H1 μ1 Z ρ σ ∧ Rep Γ H1 μ1 Z st1 ∧ RV Γ H1 μ1 Z x0 (.ref a) ∧ PostS Γ W H1 μ1 Z D ((den [x0] st1).thenC ρ fun w s2 => exitC dex x0 (cb (ρ.set i (some w)) s2)) :=
    eS hE hR q fun x s1 u H1 μ1 e1 E1 R1 r1 q1 => by
      cases q2 : objOf c s1 x with
      | none => rw [q2] at q1; exact q1.elim
      | some fs =>
        rw [q2] at q1
        obtain ⟨j, a, dx, kvs, hx, hs', hμ, h4, h5, h6, h7⟩ := objOf_ok R1 r1 q2
        exact ⟨a, dx, kvs, μ1, x, s1, h4, h5, E1, R1, h4 ▸ r1, q1⟩
  refine PySem.W.kw_execN (thn (ho.run pins s σ H _ I q0) fun u s1 ⟨v, H1, I1, rv, a, dx, kvs, μ1, x0, st1, ex, ea, E1, R1, rx, q1⟩ => ?_)
  subst ex
  obtain rfl : u = Value.ref a := rv
  obtain ⟨mA, O, _, _, _, _⟩ := ins_get I1.hok ea
  obtain ⟨od, J, _⟩ := O.look
  show wpAny _ _ (withItem false _ X.env (pure (.ref a)) (some _) _) _ _ _
  refine with_core (K := X.K) (C := Γ.cls c) I1.kIn J (hK ▸ S.at_) (hK ▸ S.fn) (hK ▸ Sx.at_) (hK ▸ Sx.fn) ?_
  have sp : spM Γ ps den [.ref a] H1 (fun v H2 => ∃ w μ2 st2, Rep Γ H2 μ2 Z st2 ∧ RE Γ H2 μ2 Z ρ σ ∧ RV Γ H2 μ2 Z x0 (.ref a) ∧ RV Γ H2 μ2 Z w v ∧ PostS Γ W H2 μ2 Z D (exitC dex x0 (cb (ρ.set i (some w)) st2))) (WE W σ) := by
    refine ⟨hn, μ1, Z, st1, [x0], R1, RVs.cons rx rfl, ?_⟩
    cases e1 : den [x0] st1 with
    | no => rw [e1] at q1; exact q1
    | er x s2 => rw [e1] at q1; exact fun cls d H' μ' ev R' rX => q1 cls d σ H' μ' ev R' (E1.mono ev) rX
    | ok w s2 => rw [e1] at q1; exact fun v H' μ' ev R' r' => ⟨w, μ', s2, R', E1.mono ev, rx.mono ev, r', PostS.evo ev q1⟩
  refine wpAny_call (run_GA (us := [.ref a]) (vs := [.ref a]) F (hr.mono (Nat.le_add_right _ _)) hg (by rw [hK]; exact I1.env0) (Binds.at hbd (hK ▸ I1.kIn) hn) I1 (.cons rfl .nil) sp (fun u s2 h => ?_) fun e s' hq => passAt tk σ pins H1 s1 e s' I1 hq)
  obtain ⟨v2, H2, I2, rv2, w, μ2, st2, R2, E2, rx2, rw2, q2⟩ := h
  have hrx : Room kx X.A := hr.mono (Nat.le_add_left _ _)
  show wpAny _ _ (assign (.Name y py) X.env u >>= fun _ => execs body X.env) _ _ s2
  refine wpAny_bind (wpAny_assign_Name (store_ok I2 hN hi hv rv2 (fun s3 I3 => ?_) hfn))
  have post : PostS Γ (fun cls d σ4 H4 => ∃ x ρ4 μ4 st4, Rep Γ H4 μ4 Z st4 ∧ RE Γ H4 μ4 Z ρ4 σ4 ∧ RX Γ H4 μ4 Z x cls d ∧ RV Γ H4 μ4 Z x0 (.ref a) ∧ PostS Γ W H4 μ4 Z D (exitC dex x0 (.er x ρ4 st4))) H2 μ2 Z
      { nx := fun σ4 H4 => ∃ ρ4 μ4 st4, Rep Γ H4 μ4 Z st4 ∧ RE Γ H4 μ4 Z ρ4 σ4 ∧ RV Γ H4 μ4 Z x0 (.ref a) ∧ PostS Γ W H4 μ4 Z D (exitC dex x0 (.nx ρ4 st4))
        bk := fun σ4 H4 => ∃ ρ4 μ4 st4, Rep Γ H4 μ4 Z st4 ∧ RE Γ H4 μ4 Z ρ4 σ4 ∧ RV Γ H4 μ4 Z x0 (.ref a) ∧ PostS Γ W H4 μ4 Z D (exitC dex x0 (.bk ρ4 st4))
        ct := fun σ4 H4 => ∃ ρ4 μ4 st4, Rep Γ H4 μ4 Z st4 ∧ RE Γ H4 μ4 Z ρ4 σ4 ∧ RV Γ H4 μ4 Z x0 (.ref a) ∧ PostS Γ W H4 μ4 Z D (exitC dex x0 (.ct ρ4 st4))
        rt := fun v H4 => ∃ w μ4 st4, Rep Γ H4 μ4 Z st4 ∧ RV Γ H4 μ4 Z w v ∧ RV Γ H4 μ4 Z x0 (.ref a) ∧ PostS Γ W H4 μ4 Z D (exitC dex x0 (.rt w st4)) } (cb (ρ.set i (some w)) st2) := by
    cases e4 : cb (ρ.set i (some w)) st2 with
    | nx ρ4 st4 => rw [e4] at q2; exact fun σ' H' μ' ev R' E' => ⟨ρ4, μ', st4, R', E', rx2.mono ev, PostS.evo ev q2⟩
    | bk ρ4 st4 => rw [e4] at q2; exact fun σ' H' μ' ev R' E' => ⟨ρ4, μ', st4, R', E', rx2.mono ev, PostS.evo ev q2⟩
    | ct ρ4 st4 => rw [e4] at q2; exact fun σ' H' μ' ev R' E' => ⟨ρ4, μ', st4, R', E', rx2.mono ev, PostS.evo ev q2⟩
    | rt w4 st4 => rw [e4] at q2; exact fun v' H' μ' ev R' r' => ⟨w4, μ', st4, R', r', rx2.mono ev, PostS.evo ev q2⟩
    | er x ρ4 st4 => rw [e4] at q2; exact fun cls d σ' H' μ' ev R' E' rX => ⟨x, ρ4, μ', st4, R', E', rX, rx2.mono ev, PostS.evo ev q2⟩
    | no => rw [e4] at q2; exact q2
  refine wpAny_mono ((hb _ (X.pn ++ pins) (fun e s4 => wpAny (model X.prog X.w) X.A (noteFrame e X.env) (fun _ s5 => wpAny (model X.prog X.w) X.A (setFlight e none) (fun _ s6 => ExitAt X.prog X.w X.A X.xe X.env a gx (SP X pins D) e s6) X.xe s5) X.xe s4) (fun u s' xx => ?_)).run [] s3 (σ.set i (some v2)) H2 _ (I3.toTry _) ⟨μ2, Z, ρ.set i (some w), st2, E2.set i rw2, R2, post⟩) (fun f s4 hsp => ?_) (fun e s4 he => he)
  · obtain ⟨b, B, sI, pins', σ', H', cls, d, rfl, J', nb, up, sky, na, os, ag, x, ρ4, μ4, st4, R4, E4, rX, rx4, q4⟩ := xx
    have J0 : Inv X pins σ' H' sI := J'.ofTry ok
    refine Sky.land Zc.steady hfr hf (by rw [← hs]; exact sky) fun h3 fl3 up3 => ?_
    have J3 : Inv X pins σ' H' { s' with heap := h3 } := J0.landed nb fl3.1 (up.trans up3) os ag
    obtain ⟨k1, k2, k3, oe, vs, T, oT, ts, he3, hz, hd, hv1, hnT, hTe, hT, hdT, ht3⟩ := id fl3
    obtain ⟨s5, e5, q5⟩ := exitC_some (f := fun s' => .er x ρ4 s') q4
    have hsz : 1 < ts.size := by have := (Array.getElem?_eq_some_iff.mp ht3).1; omega
    refine ⟨b, T, oe, oT, vs, ts, rfl, he3, hd, hv1, hT, hdT, hsz, fun tb htb => ?_⟩
    obtain ⟨vc, rc⟩ : ∃ vc, L2.RelV vc oe.cls := by
      rw [hz.1]
      rcases rX with ⟨_, rfl⟩ | ⟨_, rfl, _⟩
      · exact ⟨.ty _, rfl⟩
      · exact ⟨.ref _, rfl⟩
    obtain ⟨vt, rt⟩ : ∃ vt, L2.RelV vt tb := by
      rcases htb with rfl | rfl
      · exact ⟨.non, rfl⟩
      · exact ⟨.ref _, rfl⟩
    have e0 : Env0 X.prog X.w Γ.K X.mg X.base (X.A.mark (some (.ref b))) X.stack { s' with heap := h3 } H' := by
      rw [hK]
      exact let e := J3.env0; ⟨e.frames, e.mod, e.bs, e.bsz, e.funs, e.frf, e.hok, e.bare⟩
    refine codeAny_mono (Fx.run (X.A.mark (some (.ref b))) X.stack { s' with heap := h3 } H' _ [.ref a, oe.cls, .ref b, tb] (.ref a) [vc, .ref b, vt] (fun v H5 => v = .non ∧ ∃ μ5, Evo H' μ4 H5 μ5 ∧ Rep Γ H5 μ5 Z s5) ⟨hrx.dp, hrx.un⟩ hg e0 (Binds.at hbx (hK ▸ J3.kIn) hnx) (.cons rfl (.cons rc (.cons rfl (.cons rt .nil)))) hnx
      ⟨μ4, Z, st4, x0, R4, rx4, by rw [e5]; exact fun v H' μ' ev R' r' => ⟨r', μ', ev, R'⟩⟩) fun r s6 hq => ?_
    cases r with
    | error e => exact noneX hq
    | ok fl =>
      cases fl with
      | ret u6 =>
        obtain ⟨v6, H6, os6, bare6, un6, hok6, rv6, ev6, μ6, evo6, R6⟩ := hq
        subst ev6
        obtain ⟨_, H7, J6, _, e7⟩ := J3.after (Q := fun _ H'' => H'' = H6) ⟨.non, H6, os6, bare6, un6, hok6, rv6, rfl⟩
        subst e7
        exact ⟨rv6, pass_with hs hf hex tk J0 nb fl3 un6 J6 na (q5 cls d σ' _ μ6 evo6 R6 (E4.mono evo6) (rX.mono evo6))⟩
      | next => exact hq.elim
      | brk => exact hq.elim
      | cont => exact hq.elim
  · cases f with
    | next =>
      obtain ⟨σ4, H4, I4, ρ4, μ4, st4, R4, E4, rx4, q4⟩ := hsp
      obtain ⟨s5, e5, q5⟩ := exitC_some (f := fun s' => .nx ρ4 s') q4
      exact thn (exit_ok Fx hbx hnx hK hrx hg (I4.ofTry ok) R4 rx4 e5) fun _ s6 ⟨H5, μ5, I5, ev, R5⟩ => ⟨σ4, H5, I5, q5 σ4 H5 μ5 ev R5 (E4.mono ev)⟩
    | brk =>
      obtain ⟨σ4, H4, I4, ρ4, μ4, st4, R4, E4, rx4, q4⟩ := hsp
      obtain ⟨s5, e5, q5⟩ := exitC_some (f := fun s' => .bk ρ4 s') q4
      exact thn (exit_ok Fx hbx hnx hK hrx hg (I4.ofTry ok) R4 rx4 e5) fun _ s6 ⟨H5, μ5, I5, ev, R5⟩ => ⟨σ4, H5, I5, q5 σ4 H5 μ5 ev R5 (E4.mono ev)⟩
    | cont =>
      obtain ⟨σ4, H4, I4, ρ4, μ4, st4, R4, E4, rx4, q4⟩ := hsp
      obtain ⟨s5, e5, q5⟩ := exitC_some (f := fun s' => .ct ρ4 s') q4
      exact thn (exit_ok Fx hbx hnx hK hrx hg (I4.ofTry ok) R4 rx4 e5) fun _ s6 ⟨H5, μ5, I5, ev, R5⟩ => ⟨σ4, H5, I5, q5 σ4 H5 μ5 ev R5 (E4.mono ev)⟩
    | ret u =>
      obtain ⟨v, σ4, H4, I4, rv4, w4, μ4, st4, R4, rw4, rx4, q4⟩ := hsp
      obtain ⟨s5, e5, q5⟩ := exitC_some (f := fun s' => .rt w4 s') q4
      exact thn (exit_ok Fx hbx hnx hK hrx hg (I4.ofTry ok) R4 rx4 e5) fun _ s6 ⟨H5, μ5, I5, ev, R5⟩ => ⟨v, σ4, H5, I5, rv4, q5 v H5 μ5 ev R5 (rw4.mono ev)⟩
end
end MP
set_option Elab.async false
set_option linter.all false
set_option maxRecDepth 100000
set_option maxHeartbeats 4000000
namespace MP
open PySem PySem.Spec PyProof.Rows L2
section
variable {prog : Program} {w : World} {A : Around} {E : Value → Shared → Prop} {s : Shared} {K : PySem.W.Frag} {x C f L : Addr} {h₀ : Heap} {m : Str → Option Value} {ox : Obj} {od : Option Obj} {b tb : Value}
theorem ifBoundB {M : Model} {name : Str} {i : String} {args : List Value} {Q : Option Value → Shared → Prop} (X : K.In s.heap) (I : PySem.W.InstAt s.heap x ox C od) (hs : PySem.W.findIn K (.ref C) name = some (some (.builtin i))) (hb : bindSpecial (.builtin i) (.ref x) = pure (.builtin i, [.ref x]))
    (h : wpAny M A (call (.builtin i) (.ref x :: args)) (fun v => Q (some v)) E s) : wpAny M A (callSpecialIfBound? (.ref x) name args) Q E s := by
  simp only [callSpecialIfBound?, bindSpecialIfBound?]
  refine wpAny_holding (wpAny_bind (wpAny_bind (wpAny_bind (I.type.here ((PySem.W.looks_findIn X hs).here ?_)))))
  simp only [hb]
  have last : wpAny M A (call (.builtin i) ([.ref x] ++ args) >>= fun v => pure (some v)) Q E s := wpAny_bind (wpAny_mono h (fun v _ z => wpAny_pure z) fun _ _ z => z)
  refine wpAny_bind (wpAny_askSetting (wpAny_ite ?_))
  split
  · exact wpAny_bind (wpAny_pure (wpAny_pure last))
  · exact wpAny_tryCatch (wpAny_bind (wpAny_pure (wpAny_pure last)))
/-- a != b by the == of its own class -/
theorem rc_neO {Q : Value → Shared → Prop} (hu : A.units + 1 < cLine) (X : K.In s.heap) (I : PySem.W.InstAt s.heap x ox C od) (hb : PySem.W.Looks (model prog w) s.heap (typeOf b) tb) (hn : PySem.W.notFirst K C tb = true)
    (hs : PySem.W.findIn K (.ref C) "__ne__" = some (some (.builtin "object.__ne__"))) (hq : PySem.W.findIn K (.ref C) "__eq__" = some (some (.ref f))) (hf : PySem.W.isFn K (.ref f) = true) (hm : PySem.W.mroIn K C (.type "object") = some true)
    (h : wpAny (model prog w) A.in1 (call (.ref f) [.ref x, b]) (fun v s' => ∃ r, v = .bool r ∧ Q (.bool (!r)) s') E s) : wpAny (model prog w) A (richCompare .NotEq (.ref x) b) Q E s := by
  have hu0 : A.units < cLine := Nat.lt_of_succ_lt hu
  have one : wpAny (model prog w) A (tryCompare (.ref x) "__ne__" b) (fun r s' => ∃ v, r = some v ∧ Q v s') E s := by
    unfold tryCompare
    have li : PySem.W.Looks (model prog w) s.heap (isInstance (.ref x) (.type "object")) true := I.type.andThen (PySem.W.looks_mroIn X hm)
    refine wpAny_bind (ifBoundB X I hs (F.cmp_object.ne.bind (.ref x)) (wpAny_call (codeAny_call_builtin F.cmp_object.ne.plain F.cmpEntry_ne (PySem.W.check_slot F.cmpKind_ne F.cmpSplit_ne li (F.cmpArgs_ne _ _) ?_))))
    unfold Builtin.«object.__ne__»
    refine wpAny_bind (wpAny_pure ?_)
    refine wpAny_bind (wpAny_cRoomFor (A := A.in1) hu ?_)
    refine wpAny_bind (PySem.W.ifBound_K X I hq hf (wpAny_mono h (fun v s' hv => ?_) fun _ _ z => z))
    obtain ⟨r, rfl, hr⟩ := hv
    refine wpAny_bind (wpAny_truthy_bool ?_)
    refine wpAny_pure ?_
    exact wpAny_pure ⟨_, rfl, hr⟩
  unfold richCompare
  simp only [oneThing_ref]
  refine wpAny_holding (wpAny_bind (wpAny_cRoomFor hu0 ?_))
  refine wpAny_bind (I.type.here (wpAny_bind (hb.here ?_)))
  have done : wpAny (model prog w) A (tryCompare (.ref x) "__ne__" b >>= fun r => match r with
      | some v => pure v
      | none => unsupported "") Q E s := wpAny_bind (wpAny_mono one (fun r s' z => by
    obtain ⟨v, rfl, hv⟩ := z
    exact wpAny_pure hv) fun _ _ z => z)
  split
  · rename_i q
    have e : PySem.W.subIn K tb (.ref C) = some false := by
      rcases Bool.or_eq_true_iff.mp hn with e | e
      · rw [beq_iff_eq.mp e] at q; simp at q
      · exact beq_iff_eq.mp e
    refine wpAny_bind ((PySem.W.looks_subIn X e).here ?_)
    simp only [if_neg Bool.false_ne_true]
    refine wpAny_bind (wpAny_mono one (fun r s' z => ?_) fun _ _ z => z)
    obtain ⟨v, rfl, hv⟩ := z
    exact wpAny_pure hv
  · refine wpAny_bind (wpAny_pure ?_)
    simp only [if_neg Bool.false_ne_true]
    refine wpAny_bind (wpAny_mono one (fun r s' z => ?_) fun _ _ z => z)
    obtain ⟨v, rfl, hv⟩ := z
    exact wpAny_pure hv
end
/-- what stands beside an instance of the class c: such an instance (none), or something else -/
def kindD (c : Nat) (s : Sto) (x : Dv) : Option (Option String) := match x with
  | .ref n => match s[n]? with
    | some (.obj c' _) => if c' = c then some none else none
    | some (.lst _) => some (some "list")
    | _ => none
  | x => (tyName x).map some
/-- what is asked of an own class -/
structure IsO (K : PySem.W.Frag) (C : Addr) : Prop where
  cl : Cls K C
  ha : PySem.W.findIn K (.ref C) "__class__" = some (some (.builtin "object.__class__"))
  hn : PySem.W.specialIn K (.builtin "object.__class__") "__get__" = some (some (.builtin "getset_descriptor.__get__"))
  ht : PySem.W.takesIn K (.builtin "object.__class__") = some true
  hm : PySem.W.mroIn K C (.type "object") = some true
  ic : (PySem.W.clsIn K C).isSome = true
  ty : PySem.W.typeIn K (.ref C) = some (.type "type")
abbrev kindV (C : Addr) : Option String → Value
  | none => .ref C
  | some T => .type T
def plainTy (T : String) : Prop := T = "NoneType" ∨ T = "bool" ∨ T = "int" ∨ T = "str" ∨ T = "tuple" ∨ T = "list" ∨ T = "dict"
theorem plain_tyName {x : Dv} {T : String} (e : tyName x = some T) : plainTy T := by
  unfold plainTy
  cases x <;> first | (cases e; simp; done) | cases e
theorem no_ref {T : String} (h : plainTy T) (C : Addr) : (PySem.fastBuiltinMro T).map (·.contains (Value.ref C)) = some false := by
  rcases h with rfl | rfl | rfl | rfl | rfl | rfl | rfl <;> rfl
section
variable {Γ : Ct} {H : Hp} {μ : Mu} {Z : Zs} {s : Sto} {c : Nat} {x : Dv} {v : V} {k : Option String}
theorem kind_ok (O : IsO Γ.K (Γ.cls c)) (hR : Rep Γ H μ Z s) (r : RV Γ H μ Z x v) (e : kindD c s x = some k) : TyX Γ.K H v (kindV (Γ.cls c) k) ∧ (∀ T, k = some T → plainTy T) := by
  cases x with
  | ref n =>
    unfold kindD at e
    dsimp only at e
    split at e
    · rename_i c' fs q
      split at e
      · rename_i hc
        subst hc
        cases e
        obtain ⟨a, h1, h2⟩ := r
        obtain ⟨a', g1, _, dx, kvs, g3, g4, g5⟩ := hR.at n _ q
        rw [h2] at g1
        cases g1
        subst h1
        exact ⟨.base (.ins g3 O.cl O.ha O.hn O.ht O.hm), fun T z => nomatch z⟩
      · cases e
    · rename_i ws q
      cases e
      obtain ⟨a, h1, h2⟩ := r
      obtain ⟨a', g1, _, xs, g3, g4⟩ := hR.at n _ q
      rw [h2] at g1
      cases g1
      subst h1
      exact ⟨.base (.lst g3), fun T z => by cases z; unfold plainTy; simp⟩
    · cases e
  | _ =>
    unfold kindD at e
    dsimp only at e
    first
    | (obtain ⟨T, hT, e2⟩ := Option.map_eq_some_iff.mp e
       subst e2
       exact ⟨tyName_ok r hT, fun T' z => by cases z; exact plain_tyName hT⟩)
theorem kind_sub (O : IsO Γ.K (Γ.cls c)) (h : ∀ T, k = some T → plainTy T) : PySem.W.kitOne Γ.K (kindV (Γ.cls c) k) (.ref (Γ.cls c)) = some k.isNone ∧ PySem.W.notFirst Γ.K (Γ.cls c) (kindV (Γ.cls c) k) = true := by
  cases k with
  | none =>
    refine ⟨?_, ?_⟩
    · unfold PySem.W.kitOne
      rw [if_pos (by simp)]
      rfl
    · unfold PySem.W.notFirst
      simp
  | some T =>
    have e := no_ref (h T rfl) (Γ.cls c)
    refine ⟨?_, ?_⟩
    · unfold PySem.W.kitOne PySem.W.kitCls
      rw [if_neg (by simp)]
      dsimp only
      rw [if_pos (by rw [O.ic, O.ty]; rfl)]
      exact e
    · unfold PySem.W.notFirst
      rw [show PySem.W.subIn Γ.K (kindV (Γ.cls c) (some T)) (.ref (Γ.cls c)) = some false from e]
      simp
end
/-- isinstance(x, C) -/
def isiO (c : Nat) : ON := fun s xs => match xs with
  | [x, .cl c'] => if c' = c then (kindD c s x).map fun k => .bl k.isNone else none
  | _ => none
theorem sIsiO {X : Cx} {Γ : Ct} {c : Nat} (hK : Γ.K = X.K) (O : IsO Γ.K (Γ.cls c)) : OpN Γ (rIsi X.K) (isiO c) := fun H μ Z s xs w vs Q hR rx e k => by
  rw [← hK]
  unfold isiO at e
  split at e
  · rename_i x c'
    split at e
    · rename_i hc
      subst hc
      obtain ⟨o, ho, e2⟩ := Option.map_eq_some_iff.mp e
      subst e2
      obtain ⟨v, u, rfl, r1, r2⟩ := two rx
      obtain ⟨t1, t2⟩ := kind_ok O hR r1 ho
      exact ⟨v, u, _, .ref (Γ.cls c'), _, rfl, by rw [show u = _ from r2]; exact .own _, t1, (kind_sub O t2).1, k _ H .refl hR rfl⟩
    · cases e
  · cases e
/-- an own == -/
structure EqS (K : PySem.W.Frag) (C g : Addr) : Prop where
  eq : Spc K C "__eq__" g
  ne : PySem.W.findIn K (.ref C) "__ne__" = some (some (.builtin "object.__ne__"))
  io : IsO K C
def OEq (P : Program) (w : World) (mg : Str → Option Value) (base : Heap) (Γ : Ct) (k c : Nat) (ps : List Str) (den : Fn) : Prop := ∃ g, CalM P w mg base Γ k g ps den ∧ EqS Γ.K (Γ.cls c) g
def eqBk (neg : Bool) : R Dv → R Dv
  | .ok (.bl b) s => .ok (.bl (b != neg)) s
  | _ => .no
def mEqO (neg : Bool) (c : Nat) (den : Fn) (fo fv : FE) : FE := fun ρ s => (fo ρ s).bind fun x s1 => (fv ρ s1).bind fun v s2 => match objOf c s2 x with
  | some _ => if (kindD c s2 v).isSome = true then eqBk neg (den [x, v] s2) else .no
  | none => .no
section
variable {X : Cx} {Γ : Ct} {W : WX} {c k : Nat} {ps : List Str} {den : Fn} {a b : Expr} {f fo : FE} {pos : Pos}
theorem op_eqO (C : OEq X.prog X.w X.mg X.base Γ k c ps den) (hK : Γ.K = X.K) (hr : Room (k + 1) X.A) (hg : X.A.guards = some []) (hn : 2 = ps.length) (neg : Bool) : OpR X (compareOp (if neg = true then .NotEq else .Eq)) fun x y H Q => ∃ a dx kvs o, x = .ref a ∧ H a = some (.ins (Γ.cls c) dx kvs) ∧
    TyX Γ.K H y (kindV (Γ.cls c) o) ∧ (∀ T, o = some T → plainTy T) ∧ spM Γ ps den [.ref a, y] H (fun v H' => ∃ i : Bool, v = .bl i ∧ Q (.bl (i != neg)) H') (fun _ _ _ => False) := by
  rintro pins s σ H x y v u Q I rx ry ⟨a, dx, kvs, o, rfl, ea, ty, pl, sp⟩
  obtain ⟨g, ⟨fd, F, hb⟩, S⟩ := C
  obtain rfl := (show v = Value.ref a from rx)
  obtain ⟨mA, O, _, _, _, _⟩ := ins_get I.hok ea
  obtain ⟨od, J, _⟩ := O.look
  obtain ⟨m, F'⟩ := I.fr
  have S' : EqS X.K (Γ.cls c) g := hK ▸ S
  obtain ⟨P, Z, p, _⟩ := kit_of I ry (hK ▸ ty)
  have lb := Z.ty (model X.prog X.w) s.heap I.kIn p
  have hnf : PySem.W.notFirst X.K (Γ.cls c) (kindV (Γ.cls c) o) = true := hK ▸ (kind_sub S.io pl).2
  have run : ∀ {A : Around} {Q' : Value → Shared → Prop}, Room k A → A.guards = some [] → A.frames = X.A.frames → (∀ i s', (∃ H', Inv X pins σ H' s' ∧ Q (.bl (i != neg)) H') → Q' (.bool i) s') → wpAny (model X.prog X.w) A (call (.ref g) [.ref a, u]) Q' X.xe s := fun {A Q'} hr hg hf hq => by
    have e0 : Env0 X.prog X.w Γ.K X.mg X.base A X.stack s H := by
      rw [hK]
      exact let e := I.env0; ⟨hf.trans e.frames, e.mod, e.bs, e.bsz, e.funs, e.frf, e.hok, e.bare⟩
    refine wpAny_call (run_GA (us := [.ref a, u]) (vs := [.ref a, y]) F hr hg e0 (Binds.at hb (hK ▸ I.kIn) hn) I (.cons rfl (.cons ry .nil)) sp (fun u s' h => ?_) fun e s' hq => noneX hq)
    obtain ⟨w, H', I3, rv, i, ev, q3⟩ := h
    subst ev
    obtain rfl := (show u = Value.bool i from rv)
    exact hq i s' ⟨H', I3, q3⟩
  cases neg with
  | false =>
    refine PySem.W.cmp_ofEq (PySem.W.cmp_K (op := .Eq) (hr.mono (Nat.le_succ k)).units0 F' I.ok.mod.kin J lb hnf S'.eq.at_ S'.eq.fn (run (hr.mono (Nat.le_succ k)) hg rfl fun i s' ⟨H', I3, q3⟩ => ?_))
    exact ⟨.bl i, H', I3, rfl, by simpa using q3⟩
  | true =>
    refine PySem.W.cmp_ofNotEq (rc_neO (by have := hr.un; omega) I.kIn J lb hnf S'.ne S'.eq.at_ S'.eq.fn S'.io.hm (run hr.in1 (in1_guards hg) rfl fun i s' ⟨H', I3, q3⟩ => ?_))
    exact ⟨i, rfl, .bl (!i), H', I3, rfl, by simpa using q3⟩
theorem me_eqO (neg : Bool) (C : OEq X.prog X.w X.mg X.base Γ k c ps den) (hK : Γ.K = X.K) (hr : Room (k + 1) X.A) (hg : X.A.guards = some []) (hn : 2 = ps.length) (ho : ME X Γ W a fo) (hv : ME X Γ W b f) (hm : behindInMarks (if neg = true then .NotEq else .Eq) b = false) :
    ME X Γ W (.Compare a [if neg = true then .NotEq else .Eq] [b] pos) (mEqO neg c den fo f) := by
  refine PE.imp (pe_cmpR (op_eqO C hK hr hg hn neg) ho hv hm) fun σ H Q ⟨μ, Z, ρ, s, hE, hR, q⟩ => eE hE hR q fun x s1 ux H1 μ1 e1 E1 R1 r1 q1 => eE E1 R1 q1 fun v s2 uv H2 μ2 e2 E2 R2 r2 q2 => ?_
  cases q0 : objOf c s2 x with
  | none => rw [q0] at q2; exact q2.elim
  | some fs =>
    rw [q0] at q2
    cases q4 : kindD c s2 v with
    | none => rw [q4] at q2; exact q2.elim
    | some o =>
      rw [q4] at q2
      obtain ⟨g, _, S⟩ := C
      obtain ⟨i, a, dx, kvs, hx, hs', hμ, h4, h5, h6, h7⟩ := objOf_ok R2 (r1.mono e2) q0
      obtain ⟨t1, t2⟩ := kind_ok S.io R2 r2 q4
      refine ⟨a, dx, kvs, o, h4, h5, t1, t2, hn, μ2, Z, s2, [x, v], R2, RVs.cons (h4 ▸ r1.mono e2) (RVs.cons r2 rfl), ?_⟩
      have q3 : PostE Γ W H2 μ2 Z σ Q (eqBk neg (den [x, v] s2)) := q2
      cases e5 : den [x, v] s2 with
      | no => rw [e5] at q3; exact q3.elim
      | er y s3 => rw [e5] at q3; exact q3.elim
      | ok w s3 =>
        rw [e5] at q3
        cases w with
        | bl i => exact fun v' H' μ' e6 R6 r6 => ⟨i, r6, q3 _ H' μ' e6 R6 rfl⟩
        | _ => exact q3.elim
theorem mt_eqO (neg : Bool) (C : OEq X.prog X.w X.mg X.base Γ k c ps den) (hK : Γ.K = X.K) (hr : Room (k + 1) X.A) (hg : X.A.guards = some []) (hn : 2 = ps.length) (ho : ME X Γ W a fo) (hv : ME X Γ W b f) (hm : behindInMarks (if neg = true then .NotEq else .Eq) b = false) :
    MT X Γ W (.Compare a [if neg = true then .NotEq else .Eq] [b] pos) (mTest (mEqO neg c den fo f)) := by
  refine PT.imp (pt_cmpR (op_eqO C hK hr hg hn neg) ho hv hm) fun σ H Q ⟨μ, Z, ρ, s, hE, hR, q⟩ => ?_
  have q' : PostT Γ W H μ Z σ Q ((fo ρ s).bind fun x s1 => (f ρ s1).bind fun v s2 => (match objOf c s2 x with
      | some _ => if (kindD c s2 v).isSome = true then eqBk neg (den [x, v] s2) else .no
      | none => .no : R Dv).bind fun x s1 => match x with
      | .bl b => .ok b s1
      | _ => .no) := by
    unfold mTest mEqO at q
    revert q
    cases fo ρ s with
    | ok x s1 =>
      dsimp only [R.bind]
      cases f ρ s1 <;> exact id
    | er x s1 => exact id
    | no => exact id
  refine eT hE hR q' fun x s1 ux H1 μ1 e1 E1 R1 r1 q1 => eT E1 R1 q1 fun v s2 uv H2 μ2 e2 E2 R2 r2 q2 => ?_
  cases q0 : objOf c s2 x with
  | none => rw [q0] at q2; exact q2.elim
  | some fs =>
    rw [q0] at q2
    cases q4 : kindD c s2 v with
    | none => rw [q4] at q2; exact q2.elim
    | some o =>
      rw [q4] at q2
      obtain ⟨g, _, S⟩ := C
      obtain ⟨i, a, dx, kvs, hx, hs', hμ, h4, h5, h6, h7⟩ := objOf_ok R2 (r1.mono e2) q0
      obtain ⟨t1, t2⟩ := kind_ok S.io R2 r2 q4
      refine ⟨a, dx, kvs, o, h4, h5, t1, t2, hn, μ2, Z, s2, [x, v], R2, RVs.cons (h4 ▸ r1.mono e2) (RVs.cons r2 rfl), ?_⟩
      have q3 : PostT Γ W H2 μ2 Z σ Q ((eqBk neg (den [x, v] s2)).bind fun x s1 => match x with
        | .bl b => .ok b s1
        | _ => .no) := q2
      cases e5 : den [x, v] s2 with
      | no => rw [e5] at q3; exact q3.elim
      | er y s3 => rw [e5] at q3; exact q3.elim
      | ok w s3 =>
        rw [e5] at q3
        cases w with
        | bl i => exact fun v' H' μ' e6 R6 r6 => ⟨i, r6, _, rfl, q3 H' μ' e6 R6⟩
        | _ => exact q3.elim
theorem mt_eqO0 (C : OEq X.prog X.w X.mg X.base Γ k c ps den) (hK : Γ.K = X.K) (hr : Room (k + 1) X.A) (hg : X.A.guards = some []) (hn : 2 = ps.length) (ho : ME X Γ W a fo) (hv : ME X Γ W b f) (hm : behindInMarks .Eq b = false := by exact nomark _) :
    MT X Γ W (.Compare a [.Eq] [b] pos) (mTest (mEqO false c den fo f)) := mt_eqO false C hK hr hg hn ho hv hm
theorem mt_neO (C : OEq X.prog X.w X.mg X.base Γ k c ps den) (hK : Γ.K = X.K) (hr : Room (k + 1) X.A) (hg : X.A.guards = some []) (hn : 2 = ps.length) (ho : ME X Γ W a fo) (hv : ME X Γ W b f) (hm : behindInMarks .NotEq b = false := by exact nomark _) :
    MT X Γ W (.Compare a [.NotEq] [b] pos) (mTest (mEqO true c den fo f)) := mt_eqO true C hK hr hg hn ho hv hm
theorem me_eqO0 (C : OEq X.prog X.w X.mg X.base Γ k c ps den) (hK : Γ.K = X.K) (hr : Room (k + 1) X.A) (hg : X.A.guards = some []) (hn : 2 = ps.length) (ho : ME X Γ W a fo) (hv : ME X Γ W b f) (hm : behindInMarks .Eq b = false := by exact nomark _) :
    ME X Γ W (.Compare a [.Eq] [b] pos) (mEqO false c den fo f) := me_eqO false C hK hr hg hn ho hv hm
end
end MP
set_option Elab.async false
set_option linter.all false
set_option maxRecDepth 100000
set_option maxHeartbeats 4000000
namespace MP
open PySem PySem.Spec PyProof.Rows L2
/-- what the clause wishes of an exception of the body -/
def wKeep1 (K : PySem.W.Frag) (c1 : Value) (i : Nat) (ts : TS) (Wout : WX) (D : Ends) : WX := fun cls d σ H => ∃ b, PySem.W.exmOne K cls c1 = some b ∧
  (b = true → ∃ C dd, cls = .ref C ∧ d = some dd ∧ ∀ a, H a = none → ts { nx := fun σ' H' => D.nx (σ'.set i none) H', rt := D.rt, bk := fun σ' H' => D.bk (σ'.set i none) H', ct := fun σ' H' => D.ct (σ'.set i none) H' } (σ.set i (some (.ref a))) (upd H a (ExK a C dd))) ∧ (b = false → Wout cls d σ H)
section
variable {X : Cx} {x1 n : Str} {c1 : Value} {i : Nat} {body suite : List Stmt} {b0 : Stmt} {p1 pos pos' : Pos} {tb : WX → TS} {ts : TS} {Wout : WX}
theorem ps_try_keep1 (hs : X.stack = X.env :: X.outer) (hf : X.env.frame = some X.env.locals) (hN : X.N.Nodup) (hi : X.N[i]? = some n) (hln : X.env.kindOf n = some .local) (n1 : Names X x1 c1) (tk : Takes X Wout)
    (hb : ∀ (W : WX) (pn : List (Addr × Obj)) (xe : Value → Shared → Prop), Takes (X.tr pn xe) W → PassesOwn (model X.prog X.w) X.A X.env xe → PSs (X.tr pn xe) body (tb W)) (hsu : ∀ (a : Addr) (pn : List (Addr × Obj)), PSs (X.suite a pn) (b0 :: suite) ts) :
    PS X (.Try body [.ExceptHandler (some (.Name x1 p1)) (some n) (b0 :: suite) pos'] [] [] pos) (fun D σ H => tb (wKeep1 X.K c1 i ts Wout D) D σ H) := by
  refine ⟨fun pins s σ H D I h => ?_⟩
  have ok := I.ok
  have hfr : X.A.frames = some (X.env :: X.outer) := ok.frames.trans (congrArg some hs)
  have hloc : Loc X.env.scope n := .inl hln
  refine wpAny_Try_except (wpAny_mono ((hb (wKeep1 X.K c1 i ts Wout D) (X.pn ++ pins) (fun e u1 => wpAny (model X.prog X.w) X.A (noteFrame e X.env) (fun _ u2 => wpAny (model X.prog X.w) X.A (setFlight e none) (fun _ u3 =>
    wpAny (model X.prog X.w) X.A (handleBy e X.env [.ExceptHandler (some (.Name x1 p1)) (some n) (b0 :: suite) pos']) (SP X pins D) X.xe u3) X.xe u2) X.xe u1) (fun u s' xx => ?_) PassesOwn.looking).run [] s σ H D (I.toTry _) h) (fun f s1 hsp => ?_) (fun e s1 he => he))
  · obtain ⟨a, B, sI, pins', σ', H', cls, d, rfl, J', nb, up, sky, na, os, ag, b, hb1, hyes, hno⟩ := xx
    have J : Inv X pins σ' H' sI := J'.ofTry ok
    show wpAny (model X.prog X.w) X.A (noteFrame (.ref a) X.env) _ _ _
    refine Sky.land Zc.steady hfr hf (by rw [← hs]; exact sky) fun h3 fl3 up3 => ?_
    have J3 : Inv X pins σ' H' { s' with heap := h3 } := J.landed nb fl3.1 (up.trans up3) os ag
    obtain ⟨oe3, vs3, he3, hz3, hd3⟩ := fl3.there
    have nfr : a ∉ frs (X.env :: X.outer) := fun hm => by
      obtain ⟨_, o', e', hnf⟩ := fl3.2.2.1.mem hm
      rw [he3] at e'; cases e'; exact hnf _ hd3
    have ng : sI.heap.get? a = none := by
      cases q : sI.heap.get? a with
      | none => rfl
      | some o => have := nb a o q (by rw [hs]; exact nfr); rw [fl3.2.1] at this; cases this
    have nL : a ≠ X.env.locals := fun z => nfr (List.mem_filterMap.mpr ⟨X.env, List.mem_cons_self, by rw [hf, z]⟩)
    have nF : a ∉ X.fs := fun hm => nfr (by
      obtain ⟨e, he, q⟩ := List.mem_filterMap.mp hm
      exact List.mem_filterMap.mpr ⟨e, List.mem_cons_of_mem _ he, q⟩)
    have S3 := J3.suite he3 hd3 na nL nF
    have load : ∀ {y : Str} {c : Value} {py : Pos} {Q E : Value → Shared → Prop}, Names X y c → Q c { s' with heap := h3 } → wpAny (model X.prog X.w) (X.A.mark (some (.ref a))) (eval (.Name y py) X.env) Q E { s' with heap := h3 } := fun {y c py Q E} hc q => by
      obtain ⟨g1, g2, g3 | ⟨g3, g4, g5⟩⟩ := hc
      · exact ld_glob (X := X.suite a ((a, oe3) :: (X.pn ++ pins))) S3 g1 g3 q g2
      · exact ld_blt (X := X.suite a ((a, oe3) :: (X.pn ++ pins))) S3 g1 g3 g4 q g5 g2
    refine wpAny_handleBy_cons (codeAny_handlers_test ?_) (by intro q; cases q)
    have LT : PySem.W.Looks (model X.prog X.w) h3 (typeOf (.ref a)) cls := fun A Q E s k q => wpAny_typeOf_ref (k _ _ he3) (by rw [hz3.1]; exact q)
    have LM := PySem.W.exm_one (M := model X.prog X.w) J3.kIn LT hb1
    refine load n1 (LM.here ?_)
    cases b with
    | true =>
      obtain ⟨C, dd, rfl, rfl, hy2⟩ := hyes rfl
      refine codeAny_handlers_suite_as (HandSPX.lands_againZ fl3 fun h4 fl4 up4 => ?_)
      obtain ⟨oe4, vs4, he4, hz4, hd4⟩ := fl4.there
      have J4 : Inv X pins σ' (upd H' a (ExK a C dd)) { s' with heap := h4 } := landedK J nb fl4.1 ((up.trans up3).trans up4) os ag na ng (exK_ok he4 hz4 hd4)
      refine store_ok (X := X.suite a (X.pn ++ pins)) (v := .ref a) (toSuite J4 a) hN hi hloc rfl (fun s5 S5 => ?_) (.inr hln)
      refine wpAny_mono ((hsu a (X.pn ++ pins)).run [] s5 _ _ _ S5 (hy2 a na)) (fun f s6 hsp => ?_) (fun _ _ z => False.elim z)
      have fin : ∀ {σ6 : L2.St} {H6 : Hp} {Q : Shared → Prop}, Inv (X.suite a (X.pn ++ pins)) [] σ6 H6 s6 → (∀ s7, Inv X pins (σ6.set i none) H6 s7 → Q s7) → wpAny (model X.prog X.w) X.A (do bindName X.env n .none; unbindBehindTheSuite X.env n pos') (fun _ s7 => Q s7) X.xe s6 := fun S6 hq => gone_ok (ofSuite S6 ok) hN hi hln hq
      cases f with
      | next => exact let ⟨σ6, H6, S6, q6⟩ := hsp; fin S6 fun s7 J7 => ⟨_, _, J7, q6⟩
      | brk => exact let ⟨σ6, H6, S6, q6⟩ := hsp; fin S6 fun s7 J7 => ⟨_, _, J7, q6⟩
      | cont => exact let ⟨σ6, H6, S6, q6⟩ := hsp; fin S6 fun s7 J7 => ⟨_, _, J7, q6⟩
      | ret u => exact let ⟨v6, σ6, H6, S6, r6, q6⟩ := hsp; fin S6 fun s7 J7 => ⟨_, _, _, J7, r6, q6⟩
    | false =>
      show wpAny _ X.A (handleBy (.ref a) X.env []) _ _ _
      refine wpAny_handleBy_nil ?_
      obtain ⟨_, _, _, oe, vs, T, oT, t', he, hz, hd, hT, hr⟩ := id fl3
      unfold PySem.passOn
      refine wpAny_bind (wpAny_field he hd hT ?_)
      rw [if_neg (show ¬ ((Value.ref T == Value.none) = true) by simp)]
      have fin : wpAny (model X.prog X.w) X.A (setFlight (.ref a) X.env.frame) (fun _ u => wpAny (model X.prog X.w) X.A (throw (.ref a) : Sem Flow) (SP X pins D) X.xe u) X.xe { s' with heap := h3 } := by
        rw [hf]
        exact HandSPX.setFlight_upZ fl3 fun h4 hh4 up4 => wpAny_throw (tk _ _ ⟨a, B, sI, pins, σ', H', cls, d, rfl, J, nb, (up.trans up3).trans up4, .inr (.inr (by rw [hs]; exact hh4)), na, os, ag, hno rfl⟩)
      first
        | exact wpAny_bind (wpAny_pure (wpAny_bind fin))
        | exact wpAny_bind fin
  · cases f with
    | next => exact let ⟨σ', H', J', q⟩ := hsp; wpAny_execs_nil ⟨σ', H', J'.ofTry ok, q⟩
    | brk => exact let ⟨σ', H', J', q⟩ := hsp; ⟨σ', H', J'.ofTry ok, q⟩
    | cont => exact let ⟨σ', H', J', q⟩ := hsp; ⟨σ', H', J'.ofTry ok, q⟩
    | ret u => exact let ⟨v, σ', H', J', r, q⟩ := hsp; ⟨v, σ', H', J'.ofTry ok, r, q⟩
end
def mTry1 (i j : Nat) (c su : FS) : FS := fun ρ s => match c ρ s with
  | .er x ρ1 s1 => if x.c = j ∧ j < 9 then delC i (su (ρ1.set i (some (.exc x.c x.f x.w))) s1) else .no
  | r => r
section
variable {X : Cx} {Γ : Ct} {Wout : WX}
theorem ms_try1 {x1 n : Str} {i j : Nat} {body suite : List Stmt} {b0 : Stmt} {p1 pos pos' : Pos} {c su : FS} (hs : X.stack = X.env :: X.outer) (hf : X.env.frame = some X.env.locals) (hN : X.N.Nodup) (hi : X.N[i]? = some n) (hln : X.env.kindOf n = some .local)
    (n1 : Names X x1 (.ref (Γ.cls j))) (tk : Takes X Wout) (hex : PySem.W.exmOne X.K (.ref (Γ.cls j)) (.ref (Γ.cls j)) = some true)
    (hb : ∀ (W : WX) (pn : List (Addr × Obj)) (xe : Value → Shared → Prop), Takes (X.tr pn xe) W → MB (X.tr pn xe) Γ W body c) (hsu : ∀ (a : Addr) (pn : List (Addr × Obj)), MB (X.suite a pn) Γ W0 (b0 :: suite) su) :
    MS X Γ Wout (.Try body [.ExceptHandler (some (.Name x1 p1)) (some n) (b0 :: suite) pos'] [] [] pos) (mTry1 i j c su) := by
  refine PS.imp (ps_try_keep1 (tb := fun W => rdS Γ W c) (ts := rdS Γ W0 su) hs hf hN hi hln n1 tk (fun W pn xe t _ => hb W pn xe t) hsu) fun D σ H ⟨μ, Z, ρ, s, hE, hR, q⟩ => ⟨μ, Z, ρ, s, hE, hR, ?_⟩
  unfold mTry1 at q
  cases e : c ρ s with
  | nx ρ' s' => rw [e] at q; exact q
  | rt w s' => rw [e] at q; exact q
  | bk ρ' s' => rw [e] at q; exact q
  | ct ρ' s' => rw [e] at q; exact q
  | no => rw [e] at q; exact q
  | er x ρ1 s1 =>
    rw [e] at q
    dsimp only at q
    split at q
    · rename_i hx
      obtain ⟨hx, hj⟩ := hx
      intro cls d σ' H' μ' ev R' E' rx
      rcases rx with ⟨z, _⟩ | ⟨_, r1, dd, v, r2, r3, r4, r5⟩
      · omega
      subst r1 r2
      refine ⟨true, by rw [hx]; exact hex, fun _ => ⟨_, _, rfl, rfl, fun a na => ?_⟩, fun z => nomatch z⟩
      have ea : Evo H' μ' (upd H' a (ExK a (Γ.cls x.c) dd)) μ' := Evo.laid na
      have nd : dd ≠ a := fun z => by rw [z, na] at r3; cases r3
      refine ⟨μ', Z, ρ1.set i (some (.exc x.c x.f x.w)), s1, RE.set i (E'.mono ea) ⟨a, dd, v, rfl, upd_same, R'.fz na, by rw [upd_ne nd]; exact r3, r4, r5.mono ea⟩, R'.laid na, ?_⟩
      cases e2 : su (ρ1.set i (some (.exc x.c x.f x.w))) s1 with
      | nx ρ2 s2 => rw [e2] at q; exact fun σ2 H2 μ2 ev2 R2 E2 => q _ _ _ (ev.trans (ea.trans ev2)) R2 (E2.del i)
      | bk ρ2 s2 => rw [e2] at q; exact fun σ2 H2 μ2 ev2 R2 E2 => q _ _ _ (ev.trans (ea.trans ev2)) R2 (E2.del i)
      | ct ρ2 s2 => rw [e2] at q; exact fun σ2 H2 μ2 ev2 R2 E2 => q _ _ _ (ev.trans (ea.trans ev2)) R2 (E2.del i)
      | rt w s2 => rw [e2] at q; exact fun v2 H2 μ2 ev2 R2 r2 => q _ _ _ (ev.trans (ea.trans ev2)) R2 r2
      | er _ _ _ => rw [e2] at q; exact q.elim
      | no => rw [e2] at q; exact q.elim
    · exact q.elim
theorem ex_one {K : PySem.W.Frag} {C : Addr} (h1 : PySem.W.isClsIn K C = true) (h2 : PySem.W.typeIn K (.ref C) = some (.type "type")) (h3 : PySem.W.subIn K (.ref C) (.type "BaseException") = some true) (h : PySem.W.subIn K (.ref C) (.ref C) = some true) : PySem.W.exmOne K (.ref C) (.ref C) = some true := by
  unfold PySem.W.exmOne
  rw [h3]
  rw [if_pos (by rfl)]
  exact kitCls_of h1 h2 h
/-- e.f, e an exception of the class c -/
def fld1 (c : Nat) (f : Str) : O1 := fun _ x => match x with
  | .exc c' g w => if c' = c ∧ f = g then some w else none
  | _ => none
theorem me_fld1 {W : WX} {e : Expr} {g : FE} {pos : Pos} {n : Str} {c : Nat} (hK : Γ.K = X.K) (t : ExcC Γ.K (Γ.cls c)) (F : PySem.W.findIn Γ.K (.ref (Γ.cls c)) n = some none) (he : ME X Γ W e g) (hb : attributeBase e n X.env (eval e X.env) = eval e X.env := by rfl) : ME X Γ W (.Attribute e n pos) (mUn (fld1 c n) g) :=
  PE.imp (pe_xk he hb) fun σ H Q ⟨μ, Z, ρ, s, hE, hR, q⟩ => eE hE hR q fun x s1 u H1 μ1 e1 hE1 R1 r1 q1 => by
    obtain ⟨w, hw, k⟩ := ofE q1
    unfold fld1 at hw
    split at hw
    · rename_i c' f' w'
      split at hw
      · rename_i hc
        cases hw
        obtain ⟨hc, rfl⟩ := hc
        subst hc
        obtain ⟨a, dx, y, rfl, h2, _, h4, _, h6⟩ := r1
        exact ⟨a, Γ.cls c', dx, _, y, rfl, h2, h4, by simp [List.lookup], hK ▸ ⟨t.hg, t.hk, t.hs, t.hd⟩, hK ▸ F, k _ H1 .refl R1 h6⟩
      · cases hw
    · cases hw
end
end MP
set_option Elab.async false
set_option linter.all false
set_option maxRecDepth 100000
set_option maxHeartbeats 4000000
namespace MP
open PySem PySem.Spec PyProof.Rows L2
end MP
set_option Elab.async false
set_option linter.all false
set_option maxRecDepth 100000
set_option maxHeartbeats 4000000
namespace MP
open PySem PySem.Spec PyProof.Rows L2
end MP
set_option Elab.async false
set_option linter.all false
set_option maxRecDepth 100000
set_option maxHeartbeats 4000000
namespace MP
open PySem PySem.Spec PyProof.Rows L2
end MP
set_option Elab.async false
set_option linter.all false
set_option maxRecDepth 100000
set_option maxHeartbeats 4000000
namespace MP
open PySem PySem.Spec PyProof.Rows L2
end MP
set_option Elab.async false
set_option linter.all false
set_option maxRecDepth 100000
set_option maxHeartbeats 4000000
namespace MP
open PySem PySem.Spec PyProof.Rows L2
end MP
set_option Elab.async false
set_option linter.all false
set_option maxRecDepth 100000
set_option maxHeartbeats 4000000
namespace MP
open PySem PySem.Spec PyProof.Rows L2
section
variable {X : Cx} {Γ : Ct} {W : WX}
def anyD (neg : Bool) (d : PyData) (ds : List PyData) : Bool := if neg = true then !(ds.any fun z => PyData.eqv z d) else ds.any fun z => PyData.eqv z d
def inT (neg : Bool) : O2 := fun s x y => match toD s x, toD s y with
  | some d, some (.tuple ds) => if SeqAt.shaped d = true ∧ SeqAt.shaped (.tuple ds) = true ∧ d.depth ≤ 60 then some (.bl (anyD neg d ds)) else none
  | _, _ => none
end
end MP
set_option Elab.async false
set_option linter.all false
set_option maxRecDepth 100000
set_option maxHeartbeats 4000000
namespace MP
open PySem PySem.Spec PyProof.Rows L2
section
variable {X : Cx} {Γ : Ct} {pins : List (Addr × Obj)} {σ : L2.St} {H : Hp} {s : Shared} {μ : Mu} {Z : Zs}
abbrev R3 (p : NestedKey × V × V) (q : NestedKey × Addr × Value) : Prop := p.1 = q.1 ∧ p.2.1 = .ref q.2.1 ∧ RelV p.2.2 q.2.2
end
end MP
set_option Elab.async false
set_option linter.all false
set_option maxRecDepth 100000
set_option maxHeartbeats 4000000
namespace MP
open PySem PySem.Spec PyProof.Rows L2
end MP
set_option Elab.async false
set_option linter.all false
set_option maxRecDepth 100000
set_option maxHeartbeats 4000000
namespace MP
open PySem PySem.Spec PyProof.Rows L2
end MP
set_option Elab.async false
set_option linter.all false
set_option maxRecDepth 100000
set_option maxHeartbeats 1000000
namespace MP
open PySem PySem.Spec PyProof.Rows L2
mutual
def noD : Dv → Bool
  | .non => true
  | .bl _ => true
  | .int _ => true
  | .str _ => true
  | .ty _ => true
  | .cl _ => true
  | .ref _ => true
  | .tup ws => noDs ws
  | .lst ws => noDs ws
  | .sq ws => noDs ws
  | .dct _ ws => noDs ws
  | .dtt _ _ => false
  | .exc _ _ w => noD w
  | .exn _ => true
  | .clo _ _ _ ws _ => noDs ws
def noDs : List Dv → Bool
  | [] => true
  | w :: ws => noD w && noDs ws
end
end MP
set_option Elab.async false
set_option linter.all false
set_option maxRecDepth 100000
set_option maxHeartbeats 1000000
namespace MP
open PySem PySem.Spec PyProof.Rows L2
open PySem.W (AlikeAll minD alike alike_unique readsAll_at reads_keeps min_list_data)
end MP
set_option Elab.async false
set_option linter.all false
set_option maxRecDepth 100000
set_option maxHeartbeats 4000000
namespace MP.K18
open PySem PySem.Spec PyProof.Rows L2 MP
def topS (i : Nat) : Stmt := PySem.Challenge.pw_bestoflast_k18_copies_and_trials.main.body.getD i (.Pass ⟨0, 0, 0, 0⟩)
structure Ns (Γ : Ct) (mg : Str → Option Value) : Prop where
  n_enumerate : mg "enumerate" = none
  n_int : mg "int" = none
  n_isinstance : mg "isinstance" = none
  n_len : mg "len" = none
  n_list : mg "list" = none
  n_max : mg "max" = none
  n_min : mg "min" = none
  n_range : mg "range" = none
  n_repr : mg "repr" = none
  n_sorted : mg "sorted" = none
  n_sum : mg "sum" = none
  n_tuple : mg "tuple" = none
  n_zip : mg "zip" = none
  c_GREATEST_FACTOR : ∃ t, mg "GREATEST_FACTOR" = some (.int 50 t)
  c_GREATEST_RESULT : ∃ t, mg "GREATEST_RESULT" = some (.int 1000000 t)
  c_GREATEST_WEIGHT : ∃ t, mg "GREATEST_WEIGHT" = some (.int 20 t)
  c_MOST_RESULTS : ∃ t, mg "MOST_RESULTS" = some (.int 200 t)
  c_MOST_TERMS : ∃ t, mg "MOST_TERMS" = some (.int 2 t)
  c_MOST_WEIGHTS : ∃ t, mg "MOST_WEIGHTS" = some (.int 6 t)
  o_Trial : Cls Γ.K (Γ.cls 10)
  o_File : Cls Γ.K (Γ.cls 9)
  io_File : IsO Γ.K (Γ.cls 9)
  kn_File : mg "File" = some (.ref (Γ.cls 9))
  k_BadNumber : mg "BadNumber" = some (.ref (Γ.cls 4))
  x1 : ExcC Γ.K (Γ.cls 4)
  x1f : PySem.W.findIn Γ.K (.ref (Γ.cls 4)) "value" = some none
  x1m : PySem.W.exmOne Γ.K (.ref (Γ.cls 4)) (.ref (Γ.cls 4)) = some true
  a_File__bill : NoAttr Γ.K (Γ.cls 9) "_bill"
  a_File__row : NoAttr Γ.K (Γ.cls 9) "_row"
  a_Trial__before : NoAttr Γ.K (Γ.cls 10) "_before"
  a_Trial__one : NoAttr Γ.K (Γ.cls 10) "_one"
def mthS (s : Stmt) (j : Nat) : Stmt := match s with
  | .ClassDef _ _ _ b _ _ _ _ _ _ _ => b.getD j (.Pass ⟨0, 0, 0, 0⟩)
  | _ => .Pass ⟨0, 0, 0, 0⟩
abbrev sI_BadNumber : Stmt := mthS (topS 5) 0
abbrev s_is_int : Stmt := topS 8
theorem sc_is_int : FnScope ["thing"] ["thing"] (defScope s_is_int) := ⟨rfl, rfl, rfl, by decide +kernel, rfl, by decide +kernel, by decide +kernel⟩
noncomputable def d_is_int : FS := (mRet (mAndV (mBlt isiD (mCons (mVar 0) (mCons (mK (.ty "int")) mNil))) (mAndV (mBin isntD (mVar 0) (mK (.bl true))) (mBin isntD (mVar 0) (mK (.bl false))))))
noncomputable def g_is_int : Fn := denOf 1 d_is_int
abbrev s_is_int_within : Stmt := topS 9
theorem sc_is_int_within : FnScope ["thing", "least", "most"] ["thing", "least", "most"] (defScope s_is_int_within) := ⟨rfl, rfl, rfl, by decide +kernel, rfl, by decide +kernel, by decide +kernel⟩
noncomputable def d_is_int_within : FS := (mRet (mAndV (mCall (g_is_int) (mCons (mVar 0) mNil)) (mChain leD leD (mVar 1) (mVar 0) (mVar 2))))
noncomputable def g_is_int_within : Fn := denOf 3 d_is_int_within
abbrev s_is_tuple : Stmt := topS 10
theorem sc_is_tuple : FnScope ["thing", "least", "most"] ["thing", "least", "most"] (defScope s_is_tuple) := ⟨rfl, rfl, rfl, by decide +kernel, rfl, by decide +kernel, by decide +kernel⟩
noncomputable def d_is_tuple : FS := (mRet (mAndV (mBlt isiD (mCons (mVar 0) (mCons (mK (.ty "tuple")) mNil))) (mChain leD leD (mVar 1) (mBlt lenD (mCons (mVar 0) mNil)) (mVar 2))))
noncomputable def g_is_tuple : Fn := denOf 3 d_is_tuple
abbrev s_first_outside : Stmt := topS 11
theorem sc_first_outside : FnScope ["things", "least", "most", "number", "thing"] ["things", "least", "most"] (defScope s_first_outside) := ⟨rfl, rfl, rfl, by decide +kernel, rfl, by decide +kernel, by decide +kernel⟩
noncomputable def F_first_outside_1 : FI := (iEnum1 (mCons (mVar 0) mNil))
noncomputable def t_first_outside_1 : FG := (gT 2 (gsC (gN 3) (gsC (gN 4) gs0)))
noncomputable def b_first_outside_1 : FS := (mIfS (mOr (mNot (mTest (mBlt isiD (mCons (mVar 4) (mCons (mK (.ty "int")) mNil))))) (mOr (mTest (mBin isD (mVar 4) (mK (.bl true)))) (mOr (mTest (mBin isD (mVar 4) (mK (.bl false)))) (mNot (mTest (mChain leD leD (mVar 1) (mVar 4) (mVar 2))))))) (mRet (mVar 3)) mNext)
noncomputable def d_first_outside : FS := (mSeq (mFor F_first_outside_1 t_first_outside_1 b_first_outside_1)
  (mRet (mK .non)))
noncomputable def g_first_outside : Fn := denOf 5 d_first_outside
abbrev s_need_rule : Stmt := topS 17
theorem sc_need_rule : FnScope ["thing", "number"] ["thing"] (defScope s_need_rule) := ⟨rfl, rfl, rfl, by decide +kernel, rfl, by decide +kernel, by decide +kernel⟩
noncomputable def d_need_rule : FS := (mSeq (mIfS (mNot (mTest (mCall (g_is_tuple) (mCons (mVar 0) (mCons (mK (.int 1)) (mCons (mK (.int 6)) mNil)))))) mStuck mNext)
  (mSeq (mAsg (mCall (g_first_outside) (mCons (mVar 0) (mCons (mUn negD (mK (.int 20))) (mCons (mK (.int 20)) mNil)))) (gN 1))
  (mSeq (mIfS (mTest (mBin isntD (mVar 1) (mK .non))) mStuck mNext)
  (mRet (mVar 0)))))
noncomputable def g_need_rule : Fn := denOf 2 d_need_rule
abbrev s_is_rule : Stmt := topS 18
theorem sc_is_rule : FnScope ["thing"] ["thing"] (defScope s_is_rule) := ⟨rfl, rfl, rfl, by decide +kernel, rfl, by decide +kernel, by decide +kernel⟩
noncomputable def d_is_rule : FS := (mSeq (mTryN (mExpr (mCall (g_need_rule) (mCons (mVar 0) mNil))))
  (mRet (mK (.bl true))))
noncomputable def g_is_rule : Fn := denOf 1 d_is_rule
abbrev s_is_result : Stmt := topS 19
theorem sc_is_result : FnScope ["thing"] ["thing"] (defScope s_is_result) := ⟨rfl, rfl, rfl, by decide +kernel, rfl, by decide +kernel, by decide +kernel⟩
noncomputable def d_is_result : FS := (mRet (mCall (g_is_int_within) (mCons (mVar 0) (mCons (mK (.int 0)) (mCons (mK (.int 1000000)) mNil)))))
noncomputable def g_is_result : Fn := denOf 1 d_is_result
abbrev s_index_of : Stmt := topS 20
theorem sc_index_of : FnScope ["rule", "results", "last", "weight", "result"] ["rule", "results"] (defScope s_index_of) := ⟨rfl, rfl, rfl, by decide +kernel, rfl, by decide +kernel, by decide +kernel⟩
noncomputable def cF_index_of_1 : FI := (iZip2 (mCons (mVar 0) (mCons (mVar 2) mNil)))
noncomputable def ct_index_of_1 : FG := (gT 2 (gsC (gN 3) (gsC (gN 4) gs0)))
noncomputable def ci_index_of_1 : FT := mYes
noncomputable def ce_index_of_1 : FE := (mBin mulD (mVar 3) (mVar 4))
noncomputable def d_index_of : FS := (mSeq (mAsg (mBlt sortedA (mCons (mSl slA (mVar 1) (mPart (mUn negD (mBlt lenD (mCons (mVar 0) mNil)))) mNoPart) mNil)) (gN 2))
  (mRet (mBlt sumA (mCons (mComp cF_index_of_1 [3, 4] ct_index_of_1 ci_index_of_1 ce_index_of_1) mNil))))
noncomputable def g_index_of : Fn := denOf 5 d_index_of
abbrev s_is_factor : Stmt := topS 24
theorem sc_is_factor : FnScope ["thing"] ["thing"] (defScope s_is_factor) := ⟨rfl, rfl, rfl, by decide +kernel, rfl, by decide +kernel, by decide +kernel⟩
noncomputable def d_is_factor : FS := (mRet (mCall (g_is_int_within) (mCons (mVar 0) (mCons (mUn negD (mK (.int 50))) (mCons (mK (.int 50)) mNil)))))
noncomputable def g_is_factor : Fn := denOf 1 d_is_factor
abbrev s_is_term : Stmt := topS 25
theorem sc_is_term : FnScope ["thing", "rule", "ahead", "behind"] ["thing"] (defScope s_is_term) := ⟨rfl, rfl, rfl, by decide +kernel, rfl, by decide +kernel, by decide +kernel⟩
noncomputable def d_is_term : FS := (mSeq (mIfS (mNot (mTest (mCall (g_is_tuple) (mCons (mVar 0) (mCons (mK (.int 3)) (mCons (mK (.int 3)) mNil)))))) (mRet (mK (.bl false))) mNext)
  (mSeq (mAsg (mVar 0) (gT 3 (gsC (gN 1) (gsC (gN 2) (gsC (gN 3) gs0)))))
  (mRet (mAndV (mCall (g_is_rule) (mCons (mVar 1) mNil)) (mAndV (mCall (g_is_factor) (mCons (mVar 2) mNil)) (mCall (g_is_factor) (mCons (mVar 3) mNil)))))))
noncomputable def g_is_term : Fn := denOf 4 d_is_term
abbrev s_need_bill : Stmt := topS 26
theorem sc_need_bill : FnScope ["thing", "own", "terms", "number", "term"] ["thing"] (defScope s_need_bill) := ⟨rfl, rfl, rfl, by decide +kernel, rfl, by decide +kernel, by decide +kernel⟩
noncomputable def F_need_bill_1 : FI := (iEnum1 (mCons (mVar 2) mNil))
noncomputable def t_need_bill_1 : FG := (gT 2 (gsC (gN 3) (gsC (gN 4) gs0)))
noncomputable def b_need_bill_1 : FS := (mIfS (mNot (mTest (mCall (g_is_term) (mCons (mVar 4) mNil)))) mStuck mNext)
noncomputable def d_need_bill : FS := (mSeq (mIfS (mNot (mTest (mCall (g_is_tuple) (mCons (mVar 0) (mCons (mK (.int 2)) (mCons (mK (.int 2)) mNil)))))) mStuck mNext)
  (mSeq (mAsg (mVar 0) (gT 2 (gsC (gN 1) (gsC (gN 2) gs0))))
  (mSeq (mIfS (mNot (mTest (mCall (g_is_factor) (mCons (mVar 1) mNil)))) mStuck mNext)
  (mSeq (mIfS (mNot (mTest (mCall (g_is_tuple) (mCons (mVar 2) (mCons (mK (.int 0)) (mCons (mK (.int 2)) mNil)))))) mStuck mNext)
  (mSeq (mFor F_need_bill_1 t_need_bill_1 b_need_bill_1)
  (mRet (mVar 0)))))))
noncomputable def g_need_bill : Fn := denOf 5 d_need_bill
abbrev s_width_of : Stmt := topS 27
theorem sc_width_of : FnScope ["bill", "term"] ["bill"] (defScope s_width_of) := ⟨rfl, rfl, rfl, by decide +kernel, rfl, by decide +kernel, by decide +kernel⟩
noncomputable def cF_width_of_1 : FI := (iSeq (mBin ixA (mVar 0) (mK (.int 1))))
noncomputable def ct_width_of_1 : FG := (gN 1)
noncomputable def ci_width_of_1 : FT := mYes
noncomputable def ce_width_of_1 : FE := (mBlt lenD (mCons (mBin ixA (mVar 1) (mK (.int 0))) mNil))
noncomputable def d_width_of : FS := (mRet (mBin maxDefD (mComp cF_width_of_1 [1] ct_width_of_1 ci_width_of_1 ce_width_of_1) (mK (.int 1))))
noncomputable def g_width_of : Fn := denOf 2 d_width_of
abbrev s_last_pay : Stmt := topS 28
theorem sc_last_pay : FnScope ["bill", "results", "own", "terms", "before", "parts", "rule", "ahead", "behind"] ["bill", "results"] (defScope s_last_pay) := ⟨rfl, rfl, rfl, by decide +kernel, rfl, by decide +kernel, by decide +kernel⟩
noncomputable def cF_last_pay_1 : FI := (iSeq (mVar 3))
noncomputable def ct_last_pay_1 : FG := (gT 3 (gsC (gN 6) (gsC (gN 7) (gsC (gN 8) gs0))))
noncomputable def ci_last_pay_1 : FT := mYes
noncomputable def ce_last_pay_1 : FE := (mBin addD (mBin mulD (mVar 7) (mCall (g_index_of) (mCons (mVar 6) (mCons (mVar 4) mNil)))) (mBin mulD (mVar 8) (mCall (g_index_of) (mCons (mVar 6) (mCons (mVar 1) mNil)))))
noncomputable def d_last_pay : FS := (mSeq (mAsg (mVar 0) (gT 2 (gsC (gN 2) (gsC (gN 3) gs0))))
  (mSeq (mAsg (mSl slA (mVar 1) mNoPart (mPart (mUn negD (mK (.int 1))))) (gN 4))
  (mSeq (mAsg (mComp cF_last_pay_1 [6, 7, 8] ct_last_pay_1 ci_last_pay_1 ce_last_pay_1) (gN 5))
  (mRet (mBin addD (mBin mulD (mVar 2) (mBin ixA (mVar 1) (mUn negD (mK (.int 1))))) (mBlt sumA (mCons (mVar 5) mNil)))))))
noncomputable def g_last_pay : Fn := denOf 9 d_last_pay
abbrev s_pays_of : Stmt := topS 29
theorem sc_pays_of : FnScope ["bill", "results", "wide", "at"] ["bill", "results"] (defScope s_pays_of) := ⟨rfl, rfl, rfl, by decide +kernel, rfl, by decide +kernel, by decide +kernel⟩
noncomputable def cF_pays_of_1 : FI := (iRange2 (mCons (mVar 2) (mCons (mBlt lenD (mCons (mVar 1) mNil)) mNil)))
noncomputable def ct_pays_of_1 : FG := (gN 3)
noncomputable def ci_pays_of_1 : FT := mYes
noncomputable def ce_pays_of_1 : FE := (mCall (g_last_pay) (mCons (mVar 0) (mCons (mSl slA (mVar 1) (mPart (mBin subD (mVar 3) (mVar 2))) (mPart (mBin addD (mVar 3) (mK (.int 1))))) mNil)))
noncomputable def d_pays_of : FS := (mSeq (mAsg (mCall (g_width_of) (mCons (mVar 0) mNil)) (gN 2))
  (mRet (mBlt tupleD (mCons (mComp cF_pays_of_1 [3] ct_pays_of_1 ci_pays_of_1 ce_pays_of_1) mNil))))
noncomputable def g_pays_of : Fn := denOf 4 d_pays_of
abbrev s_File_row : Stmt := mthS (topS 32) 2
theorem sc_File_row : FnScope ["self"] ["self"] (defScope s_File_row) := ⟨rfl, rfl, rfl, by decide +kernel, rfl, by decide +kernel, by decide +kernel⟩
noncomputable def d_File_row : FS := (mRet (mOf 9 "_row" (mVar 0)))
noncomputable def g_File_row : Fn := denOf 1 d_File_row
abbrev s_Trial___init__ : Stmt := mthS (topS 31) 0
theorem sc_Trial___init__ : FnScope ["self", "one"] ["self", "one"] (defScope s_Trial___init__) := ⟨rfl, rfl, rfl, by decide +kernel, rfl, by decide +kernel, by decide +kernel⟩
noncomputable def d_Trial___init__ : FS := (mSeq (mFSet 10 "_one" (mVar 0) (mVar 1))
  (mFSet 10 "_before" (mVar 0) (mProp 9 g_File_row (mVar 1))))
noncomputable def g_Trial___init__ : Fn := denOf 2 d_Trial___init__
abbrev s_Trial___enter__ : Stmt := mthS (topS 31) 1
theorem sc_Trial___enter__ : FnScope ["self"] ["self"] (defScope s_Trial___enter__) := ⟨rfl, rfl, rfl, by decide +kernel, rfl, by decide +kernel, by decide +kernel⟩
noncomputable def d_Trial___enter__ : FS := (mSeq (mFSet 10 "_before" (mVar 0) (mProp 9 g_File_row (mOf 10 "_one" (mVar 0))))
  (mRet (mOf 10 "_one" (mVar 0))))
noncomputable def g_Trial___enter__ : Fn := denOf 1 d_Trial___enter__
abbrev s_Trial___exit__ : Stmt := mthS (topS 31) 2
theorem sc_Trial___exit__ : FnScope ["self", "kind", "value", "trace"] ["self", "kind", "value", "trace"] (defScope s_Trial___exit__) := ⟨rfl, rfl, rfl, by decide +kernel, rfl, by decide +kernel, by decide +kernel⟩
noncomputable def d_Trial___exit__ : FS := (mFSet 9 "_row" (mOf 10 "_one" (mVar 0)) (mOf 10 "_before" (mVar 0)))
noncomputable def gx_Trial___exit__ : Dv → Sto → R Dv := fun w0 s => finC s.length (d_Trial___exit__ (startX 4 w0) s)
abbrev s_File___init__ : Stmt := mthS (topS 32) 0
theorem sc_File___init__ : FnScope ["self", "bill"] ["self", "bill"] (defScope s_File___init__) := ⟨rfl, rfl, rfl, by decide +kernel, rfl, by decide +kernel, by decide +kernel⟩
noncomputable def d_File___init__ : FS := (mSeq (mFSet 9 "_bill" (mVar 0) (mCall (g_need_bill) (mCons (mVar 1) mNil)))
  (mFSet 9 "_row" (mVar 0) (mTup mNil)))
noncomputable def g_File___init__ : Fn := denOf 2 d_File___init__
abbrev s_File_bill : Stmt := mthS (topS 32) 1
theorem sc_File_bill : FnScope ["self"] ["self"] (defScope s_File_bill) := ⟨rfl, rfl, rfl, by decide +kernel, rfl, by decide +kernel, by decide +kernel⟩
noncomputable def d_File_bill : FS := (mRet (mOf 9 "_bill" (mVar 0)))
noncomputable def g_File_bill : Fn := denOf 1 d_File_bill
abbrev s_File_add : Stmt := mthS (topS 32) 3
theorem sc_File_add : FnScope ["self", "result"] ["self", "result"] (defScope s_File_add) := ⟨rfl, rfl, rfl, by decide +kernel, rfl, by decide +kernel, by decide +kernel⟩
noncomputable def d_File_add : FS := (mSeq (mIfS (mNot (mTest (mCall (g_is_result) (mCons (mVar 1) mNil)))) (mRaise 4 "value" (mVar 1)) mNext)
  (mSeq (mIfS (mTest (mBin eqD (mBlt lenD (mCons (mOf 9 "_row" (mVar 0)) mNil)) (mK (.int 200)))) mStuck mNext)
  (mSeq (mFSet 9 "_row" (mVar 0) (mBin addD (mOf 9 "_row" (mVar 0)) (mTup (mCons (mVar 1) mNil))))
  (mSeq (mIfS (mTest (mBin leD (mBlt lenD (mCons (mOf 9 "_row" (mVar 0)) mNil)) (mCall (g_width_of) (mCons (mOf 9 "_bill" (mVar 0)) mNil)))) (mRet (mK .non)) mNext)
  (mRet (mCall (g_last_pay) (mCons (mOf 9 "_bill" (mVar 0)) (mCons (mOf 9 "_row" (mVar 0)) mNil))))))))
noncomputable def g_File_add : Fn := denOf 2 d_File_add
abbrev s_File___call__ : Stmt := mthS (topS 32) 4
theorem sc_File___call__ : FnScope ["self"] ["self"] (defScope s_File___call__) := ⟨rfl, rfl, rfl, by decide +kernel, rfl, by decide +kernel, by decide +kernel⟩
noncomputable def d_File___call__ : FS := (mSeq (mIfS (mTest (mBin ltD (mBlt lenD (mCons (mOf 9 "_row" (mVar 0)) mNil)) (mCall (g_width_of) (mCons (mOf 9 "_bill" (mVar 0)) mNil)))) (mRet (mK .non)) mNext)
  (mRet (mBlt sumA (mCons (mCall (g_pays_of) (mCons (mOf 9 "_bill" (mVar 0)) (mCons (mOf 9 "_row" (mVar 0)) mNil))) mNil))))
noncomputable def g_File___call__ : Fn := denOf 1 d_File___call__
abbrev s_File___len__ : Stmt := mthS (topS 32) 6
theorem sc_File___len__ : FnScope ["self"] ["self"] (defScope s_File___len__) := ⟨rfl, rfl, rfl, by decide +kernel, rfl, by decide +kernel, by decide +kernel⟩
noncomputable def d_File___len__ : FS := (mRet (mBlt lenD (mCons (mOf 9 "_row" (mVar 0)) mNil)))
noncomputable def g_File___len__ : Fn := denOf 1 d_File___len__
abbrev s_File_back : Stmt := mthS (topS 32) 7
theorem sc_File_back : FnScope ["self", "many"] ["self", "many"] (defScope s_File_back) := ⟨rfl, rfl, rfl, by decide +kernel, rfl, by decide +kernel, by decide +kernel⟩
noncomputable def d_File_back : FS := (mSeq (mIfS (mOr (mNot (mTest (mCall (g_is_int) (mCons (mVar 1) mNil)))) (mTest (mBin ltD (mVar 1) (mK (.int 1))))) (mRaise 4 "value" (mVar 1)) mNext)
  (mSeq (mIfS (mTest (mBin gtD (mVar 1) (mBlt lenD (mCons (mOf 9 "_row" (mVar 0)) mNil)))) mStuck mNext)
  (mFSet 9 "_row" (mVar 0) (mSl slA (mOf 9 "_row" (mVar 0)) mNoPart (mPart (mBin subD (mBlt lenD (mCons (mOf 9 "_row" (mVar 0)) mNil)) (mVar 1)))))))
noncomputable def g_File_back : Fn := denOf 2 d_File_back
abbrev s_File_copy : Stmt := mthS (topS 32) 8
theorem sc_File_copy : FnScope ["self", "other"] ["self"] (defScope s_File_copy) := ⟨rfl, rfl, rfl, by decide +kernel, rfl, by decide +kernel, by decide +kernel⟩
noncomputable def d_File_copy : FS := (mSeq (mAsg (mMake 9 g_File___init__ (mCons (mOf 9 "_bill" (mVar 0)) mNil)) (gN 1))
  (mSeq (mFSet 9 "_row" (mVar 1) (mOf 9 "_row" (mVar 0)))
  (mRet (mVar 1))))
noncomputable def g_File_copy : Fn := denOf 2 d_File_copy
abbrev s_File_trial : Stmt := mthS (topS 32) 9
theorem sc_File_trial : FnScope ["self"] ["self"] (defScope s_File_trial) := ⟨rfl, rfl, rfl, by decide +kernel, rfl, by decide +kernel, by decide +kernel⟩
noncomputable def d_File_trial : FS := (mRet (mMake 10 g_Trial___init__ (mCons (mVar 0) mNil)))
noncomputable def g_File_trial : Fn := denOf 1 d_File_trial
abbrev s_File___eq__ : Stmt := mthS (topS 32) 10
theorem sc_File___eq__ : FnScope ["self", "other"] ["self", "other"] (defScope s_File___eq__) := ⟨rfl, rfl, rfl, by decide +kernel, rfl, by decide +kernel, by decide +kernel⟩
noncomputable def d_File___eq__ : FS := (mRet (mAndV (mBlt (isiO 9) (mCons (mVar 1) (mCons (mK (.cl 9)) mNil))) (mAndV (mBin eqD (mOf 9 "_bill" (mVar 0)) (mOf 9 "_bill" (mVar 1))) (mBin eqD (mOf 9 "_row" (mVar 0)) (mOf 9 "_row" (mVar 1))))))
noncomputable def g_File___eq__ : Fn := denOf 2 d_File___eq__
abbrev s_under : Stmt := topS 33
theorem sc_under : FnScope ["manager", "deed", "one"] ["manager", "deed"] (defScope s_under) := ⟨rfl, rfl, rfl, by decide +kernel, rfl, by decide +kernel, by decide +kernel⟩
noncomputable def d_under (cl : Dv) (g : Dv → Sto → R Dv) : FS := (mWith 10 g_Trial___enter__ gx_Trial___exit__ (mVar 0) 2 (mRet (mThk1 1 cl g (mCons (mVar 2) mNil))))
noncomputable def h_under : (Dv → Sto → R Dv) → Fn := fun g wa s => match wa with
  | [w0] => finC s.length (d_under .non g (startD 3 [w0, .non]) s)
  | _ => .no
abbrev s__law_begun : Stmt := topS 35
theorem sc__law_begun : FnScope ["script", "great", "cell"] ["script"] (defScope s__law_begun) := ⟨rfl, rfl, rfl, by decide +kernel, rfl, by decide +kernel, by decide +kernel⟩
noncomputable def cF__law_begun_1 : FI := (iSeq (mVar 0))
noncomputable def ct__law_begun_1 : FG := (gN 2)
noncomputable def ci__law_begun_1 : FT := (mTest (mBin geD (mVar 2) (mBin powD (mK (.int 10)) (mK (.int 18)))))
noncomputable def ce__law_begun_1 : FE := (mVar 2)
noncomputable def d__law_begun : FS := (mSeq (mAsg (mComp cF__law_begun_1 [2] ct__law_begun_1 ci__law_begun_1 ce__law_begun_1) (gN 1))
  (mRet (mDctM [((mK (.str "cells")), (mBin addD (mBlt listD (mCons (mVar 0) mNil)) (mLst (mCons (mBlt lenD (mCons (mVar 0) mNil)) mNil)))), ((mK (.str "left")), (mIf (mTest (mBin neD (mVar 1) (mLst mNil))) (mBin ixA (mVar 1) (mK (.int 0))) (mK (.int 0)))), ((mK (.str "spot")), (mK (.int 0)))])))
noncomputable def g__law_begun : Fn := denOf 3 d__law_begun
abbrev s__law_draw : Stmt := topS 36
theorem sc__law_draw : FnScope ["m", "many", "found", "spot", "cell", "mixed"] ["m", "many"] (defScope s__law_draw) := ⟨rfl, rfl, rfl, by decide +kernel, rfl, by decide +kernel, by decide +kernel⟩
noncomputable def d__law_draw : FS := (mSeq (mIfS (mTest (mBin gtD (mBin ixA (mVar 0) (mK (.str "left"))) (mK (.int 0)))) (mSeq (mAsg (mBin modD (mBlt intD (mCons (mBin ixA (mVar 0) (mK (.str "left"))) mNil)) (mVar 1)) (gN 2))
  (mSeq (mDPut (mVar 0) (mK (.str "left")) (mBin divD (mBin ixA (mVar 0) (mK (.str "left"))) (mVar 1)))
  (mRet (mVar 2)))) mNext)
  (mSeq (mAsg (mBin addD (mBin ixA (mVar 0) (mK (.str "spot"))) (mK (.int 1))) (gN 3))
  (mSeq (mDPut (mVar 0) (mK (.str "spot")) (mVar 3))
  (mSeq (mAsg (mBin ixA (mBin ixA (mVar 0) (mK (.str "cells"))) (mBin modD (mBlt intD (mCons (mVar 3) mNil)) (mBlt lenD (mCons (mBin ixA (mVar 0) (mK (.str "cells"))) mNil)))) (gN 4))
  (mSeq (mAsg (mBin mulD (mBlt intD (mCons (mBin addD (mBin addD (mBin modD (mBlt intD (mCons (mVar 4) mNil)) (mK (.int 2147483629))) (mBin mulD (mK (.int 6133)) (mVar 3))) (mBin mulD (mBin mulD (mK (.int 23)) (mVar 3)) (mVar 3))) mNil)) (mK (.int 48271))) (gN 5))
  (mSeq (mAsg (mBin mulD (mBlt intD (mCons (mBin addD (mBin modD (mBlt intD (mCons (mVar 5) mNil)) (mK (.int 2147483647))) (mBin mulD (mK (.int 93241)) (mVar 3))) mNil)) (mK (.int 69621))) (gN 5))
  (mRet (mBin modD (mBlt intD (mCons (mBin divD (mBin modD (mBlt intD (mCons (mVar 5) mNil)) (mK (.int 2147483587))) (mK (.int 13))) mNil)) (mVar 1)))))))))
noncomputable def g__law_draw : Fn := denOf 6 d__law_draw
abbrev s__law_of : Stmt := topS 37
theorem sc__law_of : FnScope ["m", "some"] ["m", "some"] (defScope s__law_of) := ⟨rfl, rfl, rfl, by decide +kernel, rfl, by decide +kernel, by decide +kernel⟩
noncomputable def d__law_of : FS := (mRet (mBin ixA (mVar 1) (mCall (g__law_draw) (mCons (mVar 0) (mCons (mBlt lenD (mCons (mVar 1) mNil)) mNil)))))
noncomputable def g__law_of : Fn := denOf 2 d__law_of
abbrev s__law_weights : Stmt := topS 38
theorem sc__law_weights : FnScope ["m", "most", "wide", "some", "k"] ["m", "most"] (defScope s__law_weights) := ⟨rfl, rfl, rfl, by decide +kernel, rfl, by decide +kernel, by decide +kernel⟩
noncomputable def cF__law_weights_1 : FI := (iRange1 (mCons (mBin addD (mK (.int 1)) (mCall (g__law_draw) (mCons (mVar 0) (mCons (mVar 1) mNil)))) mNil))
noncomputable def ct__law_weights_1 : FG := (gN 4)
noncomputable def ci__law_weights_1 : FT := mYes
noncomputable def ce__law_weights_1 : FE := (mIf (mTest (mBin eqD (mVar 2) (mK (.int 1)))) (mBin subD (mCall (g__law_draw) (mCons (mVar 0) (mCons (mK (.int 41)) mNil))) (mK (.int 20))) (mCall (g__law_draw) (mCons (mVar 0) (mCons (mK (.int 4)) mNil))))
noncomputable def d__law_weights : FS := (mSeq (mAsg (mCall (g__law_draw) (mCons (mVar 0) (mCons (mK (.int 2)) mNil))) (gN 2))
  (mSeq (mAsg (mComp cF__law_weights_1 [4] ct__law_weights_1 ci__law_weights_1 ce__law_weights_1) (gN 3))
  (mRet (mBlt tupleD (mCons (mVar 3) mNil)))))
noncomputable def g__law_weights : Fn := denOf 5 d__law_weights
abbrev s__law_drawn_bill : Stmt := topS 39
theorem sc__law_drawn_bill : FnScope ["m", "most", "own", "terms", "k"] ["m", "most"] (defScope s__law_drawn_bill) := ⟨rfl, rfl, rfl, by decide +kernel, rfl, by decide +kernel, by decide +kernel⟩
noncomputable def F__law_drawn_bill_1 : FI := (iRange1 (mCons (mCall (g__law_draw) (mCons (mVar 0) (mCons (mK (.int 3)) mNil))) mNil))
noncomputable def t__law_drawn_bill_1 : FG := (gN 4)
noncomputable def b__law_drawn_bill_1 : FS := (mExpr (mApp (mVar 3) (mTup (mCons (mCall (g__law_weights) (mCons (mVar 0) (mCons (mVar 1) mNil))) (mCons (mBin subD (mCall (g__law_draw) (mCons (mVar 0) (mCons (mK (.int 7)) mNil))) (mK (.int 3))) (mCons (mBin subD (mCall (g__law_draw) (mCons (mVar 0) (mCons (mK (.int 7)) mNil))) (mK (.int 3))) mNil))))))
noncomputable def d__law_drawn_bill : FS := (mSeq (mPar 2 3 (mCons (mCall (g__law_of) (mCons (mVar 0) (mCons (mLst (mCons (mK (.int 0)) (mCons (mK (.int 1)) (mCons (mK (.int 2)) (mCons (mUn negD (mK (.int 1))) (mCons (mBin subD (mCall (g__law_draw) (mCons (mVar 0) (mCons (mK (.int 101)) mNil))) (mK (.int 50))) mNil)))))) mNil))) (mCons (mLstM mNil) mNil)))
  (mSeq (mFor F__law_drawn_bill_1 t__law_drawn_bill_1 b__law_drawn_bill_1)
  (mRet (mTup (mCons (mVar 2) (mCons (mBlt tupleD (mCons (mVar 3) mNil)) mNil))))))
noncomputable def g__law_drawn_bill : Fn := denOf 5 d__law_drawn_bill
abbrev s__law_led : Stmt := topS 40
theorem sc__law_led : FnScope ["m", "one", "many", "lap"] ["m", "one", "many"] (defScope s__law_led) := ⟨rfl, rfl, rfl, by decide +kernel, rfl, by decide +kernel, by decide +kernel⟩
noncomputable def F__law_led_1 : FI := (iRange1 (mCons (mVar 2) mNil))
noncomputable def t__law_led_1 : FG := (gN 3)
noncomputable def b__law_led_1 : FS := (mIfS (mAnd (mTest (mBin gtD (mLenO 9 g_File___len__ (mCons (mVar 1) mNil)) (mK (.int 0)))) (mTest (mBin eqD (mCall (g__law_draw) (mCons (mVar 0) (mCons (mK (.int 4)) mNil))) (mK (.int 0))))) (mExpr (mAsk 9 (some "back") (fun ws => g_File_back (ws ++ [.int 1])) (mVar 1) mNil)) (mExpr (mAsk 9 (some "add") g_File_add (mVar 1) (mCons (mCall (g__law_of) (mCons (mVar 0) (mCons (mLst (mCons (mK (.int 0)) (mCons (mK (.int 1)) (mCons (mK (.int 5)) (mCons (mCall (g__law_draw) (mCons (mVar 0) (mCons (mK (.int 1000)) mNil))) mNil))))) mNil))) mNil))))
noncomputable def d__law_led : FS := (mSeq (mFor F__law_led_1 t__law_led_1 b__law_led_1)
  (mRet (mBlt reprQ (mCons (mLst (mCons (mProp 9 g_File_bill (mVar 1)) (mCons (mProp 9 g_File_row (mVar 1)) (mCons (mAsk 9 none g_File___call__ (mVar 1) mNil) (mCons (mLenO 9 g_File___len__ (mCons (mVar 1) mNil)) mNil))))) mNil))))
noncomputable def g__law_led : Fn := denOf 4 d__law_led
abbrev s__law_shown : Stmt := topS 41
theorem sc__law_shown : FnScope ["one"] ["one"] (defScope s__law_shown) := ⟨rfl, rfl, rfl, by decide +kernel, rfl, by decide +kernel, by decide +kernel⟩
noncomputable def d__law_shown : FS := (mRet (mBlt reprQ (mCons (mLst (mCons (mProp 9 g_File_bill (mVar 0)) (mCons (mProp 9 g_File_row (mVar 0)) (mCons (mAsk 9 none g_File___call__ (mVar 0) mNil) (mCons (mLenO 9 g_File___len__ (mCons (mVar 0) mNil)) mNil))))) mNil)))
noncomputable def g__law_shown : Fn := denOf 1 d__law_shown
abbrev lq__law_block : Str := ("_law_block" : Str) ++ ".<locals>." ++ "<lambda>"
abbrev s__law_block : Stmt := topS 42
theorem sc__law_block : FnScope ["m", "one", "held", "way", "kept"] ["m", "one", "held", "way"] (defScope s__law_block) := ⟨rfl, rfl, rfl, by decide +kernel, rfl, by decide +kernel, by decide +kernel⟩
noncomputable def l__law_block_1 : FE := (mCall (g__law_led) (mCons (mVar 0) (mCons (mVar 5) (mCons (mK (.int 2)) mNil))))
noncomputable def d__law_block : FS := (mSeq (mIfS (mOr (mTest (mBin neD (mCall (g__law_led) (mCons (mVar 0) (mCons (mVar 2) (mCons (mK (.int 3)) mNil)))) (mCall (g__law_shown) (mCons (mVar 1) mNil)))) (mTest (mEqO true 9 g_File___eq__ (mVar 2) (mVar 1)))) (mRet (mK (.str "other"))) mNext)
  (mSeq (mIfS (mTest (mBin eqD (mVar 3) (mK (.int 1)))) (mExpr (mAsk 9 (some "add") g_File_add (mVar 2) (mCons (mK .non) mNil))) mNext)
  (mSeq (mIfS (mTest (mBin eqD (mVar 3) (mK (.int 2)))) (mSeq (mAsg (mCall (g__law_shown) (mCons (mVar 2) mNil)) (gN 4))
  (mIfS (mOr (mTest (mBin eqD (mLamU 0 0 lq__law_block l__law_block_1 h_under (mAsk 9 (some "trial") g_File_trial (mVar 2) mNil)) (mK (.str "")))) (mTest (mBin neD (mCall (g__law_shown) (mCons (mVar 1) mNil)) (mVar 4)))) (mRet (mK (.str "inner"))) mNext)) mNext)
  (mSeq (mExpr (mAsk 9 (some "add") g_File_add (mVar 1) (mCons (mK (.int 9)) mNil)))
  (mRet (mIf (mTest (mBin eqD (mSl slA (mProp 9 g_File_row (mVar 2)) (mPart (mUn negD (mK (.int 1)))) mNoPart) (mTup (mCons (mK (.int 9)) mNil)))) (mK (.str "done")) (mK (.str "lost"))))))))
noncomputable def g__law_block : Fn := denOf 5 d__law_block
abbrev lq__law_tried : Str := ("_law_tried" : Str) ++ ".<locals>." ++ "<lambda>"
abbrev s__law_tried : Stmt := topS 43
theorem sc__law_tried : FnScope ["m", "one", "early", "way", "kept", "heard", "e"] ["m", "one", "early", "way"] (defScope s__law_tried) := ⟨rfl, rfl, rfl, by decide +kernel, rfl, by decide +kernel, by decide +kernel⟩
noncomputable def l__law_tried_1 : FE := (mCall (g__law_block) (mCons (mVar 0) (mCons (mVar 1) (mCons (mVar 7) (mCons (mVar 3) mNil)))))
noncomputable def d__law_tried : FS := (mSeq (mPar 4 5 (mCons (mCall (g__law_shown) (mCons (mVar 1) mNil)) (mCons (mK (.str "none")) mNil)))
  (mSeq (mTry1 6 4 (mAsg (mLamU 1 1 lq__law_tried l__law_tried_1 h_under (mIf (mTest (mBin eqD (mVar 3) (mK (.int 3)))) (mVar 2) (mAsk 9 (some "trial") g_File_trial (mVar 1) mNil))) (gN 5)) (mAsg (mIf (mTest (mBin isD (mUn (fld1 4 "value") (mVar 6)) (mK .non))) (mK (.str "raised")) (mK (.str "other"))) (gN 5)))
  (mRet (mAndV (mBin eqD (mVar 5) (mIf (mTest (mBin eqD (mVar 3) (mK (.int 1)))) (mK (.str "raised")) (mK (.str "done")))) (mBin eqD (mCall (g__law_shown) (mCons (mVar 1) mNil)) (mVar 4))))))
noncomputable def g__law_tried : Fn := denOf 7 d__law_tried
abbrev s__law_copy_right : Stmt := topS 44
theorem sc__law_copy_right : FnScope ["m", "one", "twin", "kept"] ["m", "one"] (defScope s__law_copy_right) := ⟨rfl, rfl, rfl, by decide +kernel, rfl, by decide +kernel, by decide +kernel⟩
noncomputable def d__law_copy_right : FS := (mSeq (mPar 2 3 (mCons (mAsk 9 (some "copy") g_File_copy (mVar 1) mNil) (mCons (mCall (g__law_shown) (mCons (mVar 1) mNil)) mNil)))
  (mSeq (mIfS (mOr (mNot (mTest (mEqO false 9 g_File___eq__ (mVar 2) (mVar 1)))) (mOr (mTest (mEqO true 9 g_File___eq__ (mVar 2) (mVar 1))) (mTest (mBin neD (mCall (g__law_shown) (mCons (mVar 2) mNil)) (mVar 3))))) (mRet (mK (.bl false))) mNext)
  (mSeq (mExpr (mAsk 9 (some "add") g_File_add (mVar 2) (mCons (mK (.int 3)) mNil)))
  (mSeq (mIfS (mOr (mTest (mEqO false 9 g_File___eq__ (mVar 2) (mVar 1))) (mOr (mNot (mTest (mEqO true 9 g_File___eq__ (mVar 2) (mVar 1)))) (mTest (mBin neD (mCall (g__law_shown) (mCons (mVar 1) mNil)) (mVar 3))))) (mRet (mK (.bl false))) mNext)
  (mSeq (mExpr (mAsk 9 (some "back") (fun ws => g_File_back (ws ++ [.int 1])) (mVar 2) mNil))
  (mSeq (mExpr (mAsk 9 (some "add") g_File_add (mVar 1) (mCons (mK (.int 4)) mNil)))
  (mSeq (mExpr (mAsk 9 (some "back") (fun ws => g_File_back (ws ++ [.int 1])) (mVar 1) mNil))
  (mRet (mAndV (mEqO false 9 g_File___eq__ (mVar 2) (mVar 1)) (mBin eqD (mCall (g__law_shown) (mCons (mVar 2) mNil)) (mVar 3)))))))))))
noncomputable def g__law_copy_right : Fn := denOf 4 d__law_copy_right
abbrev s__law_likes_right : Stmt := topS 45
theorem sc__law_likes_right : FnScope ["one", "two", "rows", "files_so", "bill_so", "row_so", "file_so", "result", "near", "far", "odd"] [] (defScope s__law_likes_right) := ⟨rfl, rfl, rfl, by decide +kernel, rfl, by decide +kernel, by decide +kernel⟩
noncomputable def F__law_likes_right_1 : FI := (iSeq (mVar 5))
noncomputable def t__law_likes_right_1 : FG := (gN 7)
noncomputable def b__law_likes_right_1 : FS := (mExpr (mAsk 9 (some "add") g_File_add (mVar 6) (mCons (mVar 7) mNil)))
noncomputable def F__law_likes_right_2 : FI := (iSeq (mVar 2))
noncomputable def t__law_likes_right_2 : FG := (gT 2 (gsC (gN 4) (gsC (gN 5) gs0)))
noncomputable def b__law_likes_right_2 : FS := (mSeq (mAsg (mMake 9 g_File___init__ (mCons (mVar 4) mNil)) (gN 6))
  (mSeq (mFor F__law_likes_right_1 t__law_likes_right_1 b__law_likes_right_1)
  (mExpr (mApp (mVar 3) (mVar 6)))))
noncomputable def F__law_likes_right_3 : FI := (iRange1 (mCons (mK (.int 6)) mNil))
noncomputable def t__law_likes_right_3 : FG := (gN 9)
noncomputable def b__law_likes_right_3 : FS := (mIfS (mTest (mBin neD (mEqO false 9 g_File___eq__ (mBin ixA (mVar 3) (mVar 8)) (mBin ixA (mVar 3) (mVar 9))) (mBin eqD (mVar 8) (mVar 9)))) (mRet (mK (.bl false))) mNext)
noncomputable def F__law_likes_right_4 : FI := (iRange1 (mCons (mK (.int 6)) mNil))
noncomputable def t__law_likes_right_4 : FG := (gN 8)
noncomputable def b__law_likes_right_4 : FS := (mFor F__law_likes_right_3 t__law_likes_right_3 b__law_likes_right_3)
noncomputable def cF__law_likes_right_1 : FI := (iSeq (mTup (mCons (mK .non) (mCons (mVar 0) (mCons (mTup mNil) (mCons (mK (.int 0)) (mCons (mLst mNil) mNil)))))))
noncomputable def ct__law_likes_right_1 : FG := (gN 10)
noncomputable def ci__law_likes_right_1 : FT := mYes
noncomputable def ce__law_likes_right_1 : FE := (mEqO false 9 g_File___eq__ (mBin ixA (mVar 3) (mK (.int 0))) (mVar 10))
noncomputable def d__law_likes_right : FS := (mSeq (mAsg (mTup (mCons (mTup (mCons (mK (.int 1)) (mCons (mTup mNil) mNil))) (mCons (mTup (mCons (mK (.int 1)) (mCons (mTup (mCons (mTup (mCons (mTup (mCons (mK (.int 0)) mNil)) (mCons (mK (.int 0)) (mCons (mK (.int 0)) mNil)))) mNil)) mNil))) mNil))) (gT 2 (gsC (gN 0) (gsC (gN 1) gs0))))
  (mSeq (mAsg (mTup (mCons (mLst (mCons (mTup (mCons (mVar 0) (mCons (mTup mNil) mNil))) (mCons (mTup (mCons (mVar 1) (mCons (mTup mNil) mNil))) (mCons (mTup (mCons (mVar 0) (mCons (mTup (mCons (mK (.int 1)) mNil)) mNil))) (mCons (mTup (mCons (mVar 0) (mCons (mTup (mCons (mK (.int 1)) (mCons (mK (.int 2)) mNil))) mNil))) (mCons (mTup (mCons (mVar 0) (mCons (mTup (mCons (mK (.int 2)) (mCons (mK (.int 1)) mNil))) mNil))) (mCons (mTup (mCons (mVar 1) (mCons (mTup (mCons (mK (.int 1)) mNil)) mNil))) mNil))))))) (mCons (mLstM mNil) mNil))) (gT 2 (gsC (gN 2) (gsC (gN 3) gs0))))
  (mSeq (mFor F__law_likes_right_2 t__law_likes_right_2 b__law_likes_right_2)
  (mSeq (mFor F__law_likes_right_4 t__law_likes_right_4 b__law_likes_right_4)
  (mRet (mBin eqD (mComp cF__law_likes_right_1 [10] ct__law_likes_right_1 ci__law_likes_right_1 ce__law_likes_right_1) (mBin mulD (mLst (mCons (mK (.bl false)) mNil)) (mK (.int 5)))))))))
noncomputable def g__law_likes_right : Fn := denOf 11 d__law_likes_right
abbrev s_law : Stmt := topS 46
theorem sc_law : FnScope ["script", "m", "lap", "one", "early", "way"] ["script"] (defScope s_law) := ⟨rfl, rfl, rfl, by decide +kernel, rfl, by decide +kernel, by decide +kernel⟩
noncomputable def F_law_1 : FI := (iRange1 (mCons (mK (.int 4)) mNil))
noncomputable def t_law_1 : FG := (gN 5)
noncomputable def b_law_1 : FS := (mIfS (mNot (mTest (mCall (g__law_tried) (mCons (mVar 1) (mCons (mVar 3) (mCons (mVar 4) (mCons (mVar 5) mNil))))))) (mRet (mK (.bl false))) mNext)
noncomputable def F_law_2 : FI := (iRange1 (mCons (mBin addD (mK (.int 3)) (mBlt min2D (mCons (mBlt lenD (mCons (mVar 0) mNil)) (mCons (mK (.int 6)) mNil)))) mNil))
noncomputable def t_law_2 : FG := (gN 2)
noncomputable def b_law_2 : FS := (mSeq (mAsg (mMake 9 g_File___init__ (mCons (mCall (g__law_drawn_bill) (mCons (mVar 1) (mCons (mK (.int 4)) mNil))) mNil)) (gN 3))
  (mSeq (mAsg (mAsk 9 (some "trial") g_File_trial (mVar 3) mNil) (gN 4))
  (mSeq (mExpr (mCall (g__law_led) (mCons (mVar 1) (mCons (mVar 3) (mCons (mBin addD (mK (.int 4)) (mCall (g__law_draw) (mCons (mVar 1) (mCons (mK (.int 8)) mNil)))) mNil)))))
  (mSeq (mFor F_law_1 t_law_1 b_law_1)
  (mIfS (mNot (mTest (mCall (g__law_copy_right) (mCons (mVar 1) (mCons (mVar 3) mNil))))) (mRet (mK (.bl false))) mNext)))))
noncomputable def d_law : FS := (mSeq (mAsg (mCall (g__law_begun) (mCons (mVar 0) mNil)) (gN 1))
  (mSeq (mFor F_law_2 t_law_2 b_law_2)
  (mRet (mCall g__law_likes_right mNil))))
noncomputable def g_law : Fn := denOf 6 d_law
section
variable {P : Program} {w : World} {mg : Str → Option Value} {base : Heap} {Γ : Ct} {f : Addr} {fd : FuncData}
theorem ok_is_int (n : Ns Γ mg) (F : Fun Γ.K "is_int" "is_int" s_is_int f fd) : FnG P w mg base Γ 1 f fd ["thing"] g_is_int :=
  have S := sc_is_int
  ok_fn (N := ["thing"]) (c := d_is_int) F S fun cdv A outer s H E W hr hg tk => (mb_one (ms_ret (me_and (me_callB call_isi (sIsi rfl) (by rfl) n.n_isinstance (by decide +kernel) (ma_cons (me_var (pv 0)) (ma_cons (me_ty (by rfl) n.n_int (by decide +kernel)) ma_nil))) (me_and (me_cmp op_notC sIsntC (nomark _) (me_var (pv 0)) me_bl) (me_one (me_cmp op_notC sIsntC (nomark _) (me_var (pv 0)) me_bl))))))
theorem ok_is_int_within (n : Ns Γ mg) (F : Fun Γ.K "is_int_within" "is_int_within" s_is_int_within f fd) (c_is_int : Cal P w mg base Γ 1 "is_int" ["thing"] g_is_int) : FnG P w mg base Γ 2 f fd ["thing", "least", "most"] g_is_int_within :=
  have S := sc_is_int_within
  ok_fn (N := ["thing", "least", "most"]) (c := d_is_int_within) F S fun cdv A outer s H E W hr hg tk => (mb_one (ms_ret (me_and (me_cal c_is_int rfl (hr.mono (by decide)) hg tk (by rfl) (ma_cons (me_var (pv 0)) ma_nil) 1 (len_cons len_nil) rfl rfl) (me_one (me_chain op_le op_le sCmp sCmp (by rfl) (me_var (pv 1)) (me_var (pv 0)) (me_var (pv 2)))))))
theorem ok_is_tuple (n : Ns Γ mg) (F : Fun Γ.K "is_tuple" "is_tuple" s_is_tuple f fd) : FnG P w mg base Γ 1 f fd ["thing", "least", "most"] g_is_tuple :=
  have S := sc_is_tuple
  ok_fn (N := ["thing", "least", "most"]) (c := d_is_tuple) F S fun cdv A outer s H E W hr hg tk => (mb_one (ms_ret (me_and (me_callB call_isi (sIsi rfl) (by rfl) n.n_isinstance (by decide +kernel) (ma_cons (me_var (pv 0)) (ma_cons (me_ty (by rfl) n.n_tuple (by decide +kernel)) ma_nil))) (me_one (me_chain op_le op_le sCmp sCmp (by rfl) (me_var (pv 1)) (me_callB call_len (sLen rfl) (by rfl) n.n_len (by decide +kernel) (ma_cons (me_var (pv 0)) ma_nil)) (me_var (pv 2)))))))
theorem ok_first_outside (n : Ns Γ mg) (F : Fun Γ.K "first_outside" "first_outside" s_first_outside f fd) : FnG P w mg base Γ 1 f fd ["things", "least", "most"] g_first_outside :=
  have S := sc_first_outside
  ok_fn (N := ["things", "least", "most", "number", "thing"]) (c := d_first_outside) F S fun cdv A outer s H E W hr hg tk => (mb_cons (ms_for (passes_of rfl) rfl (mi_enum rfl (by rfl) n.n_enumerate (ma_cons (me_var (pv 0)) ma_nil)) (mg_tup' rfl rfl (mgs_cons' (mg_name (pg_name (i := 3) S.nd rfl (.inl rfl))) (mgs_cons' (mg_name (pg_name (i := 4) S.nd rfl (.inl rfl))) mgs_nil))) (mb_one (ms_if (mt_w (mw_or (mt_not (mt_val (me_callB call_isi (sIsi rfl) (by rfl) n.n_isinstance (by decide +kernel) (ma_cons (me_var (pv 4)) (ma_cons (me_ty (by rfl) n.n_int (by decide +kernel)) ma_nil))))) (mw_or (mt_cmp op_isC sIsC (nomark _) (me_var (pv 4)) me_bl) (mw_or (mt_cmp op_isC sIsC (nomark _) (me_var (pv 4)) me_bl) (mw_or1 (mt_not (mt_chain op_le op_le sCmp sCmp (by rfl) (me_var (pv 1)) (me_var (pv 4)) (me_var (pv 2))))))))) (mb_one (ms_ret (me_var (pv 3)))) mb_nil)))
  (mb_one (ms_ret me_non)))
theorem ok_need_rule (n : Ns Γ mg) (F : Fun Γ.K "need_rule" "need_rule" s_need_rule f fd) (c_is_tuple : Cal P w mg base Γ 1 "is_tuple" ["thing", "least", "most"] g_is_tuple) (c_first_outside : Cal P w mg base Γ 1 "first_outside" ["things", "least", "most"] g_first_outside) : FnG P w mg base Γ 2 f fd ["thing"] g_need_rule :=
  have S := sc_need_rule
  ok_fn (N := ["thing", "number"]) (c := d_need_rule) F S fun cdv A outer s H E W hr hg tk => (mb_cons (ms_if (mt_not (mt_val (me_cal c_is_tuple rfl (hr.mono (by decide)) hg tk (by rfl) (ma_cons (me_var (pv 0)) (ma_cons me_int (ma_cons (me_globJ (by rfl) n.c_MOST_WEIGHTS) ma_nil))) 3 (len_cons (len_cons (len_cons len_nil))) rfl rfl))) (mb_one ms_stuck) mb_nil)
  (mb_cons (ms_set (i := 1) S.nd rfl (.inl rfl) (me_cal c_first_outside rfl (hr.mono (by decide)) hg tk (by rfl) (ma_cons (me_var (pv 0)) (ma_cons (me_un un_neg sNeg (me_globJ (by rfl) n.c_GREATEST_WEIGHT)) (ma_cons (me_globJ (by rfl) n.c_GREATEST_WEIGHT) ma_nil))) 3 (len_cons (len_cons (len_cons len_nil))) rfl rfl))
  (mb_cons (ms_if (mt_cmp op_notC sIsntC (nomark _) (me_var (pv 1)) me_non) (mb_one ms_stuck) mb_nil)
  (mb_one (ms_ret (me_var (pv 0)))))))
theorem ok_is_rule (n : Ns Γ mg) (F : Fun Γ.K "is_rule" "is_rule" s_is_rule f fd) (c_need_rule : Cal P w mg base Γ 2 "need_rule" ["thing"] g_need_rule) : FnG P w mg base Γ 3 f fd ["thing"] g_is_rule :=
  have S := sc_is_rule
  ok_fn (N := ["thing"]) (c := d_is_rule) F S fun cdv A outer s H E W hr hg tk => (mb_cons (ms_tryN (mb_one (ms_expr (me_cal c_need_rule rfl (hr.mono (by decide)) hg tk0 (by rfl) (ma_cons (me_var (pv 0)) ma_nil) 1 (len_cons len_nil) rfl rfl))))
  (mb_one (ms_ret me_bl)))
theorem ok_is_result (n : Ns Γ mg) (F : Fun Γ.K "is_result" "is_result" s_is_result f fd) (c_is_int_within : Cal P w mg base Γ 2 "is_int_within" ["thing", "least", "most"] g_is_int_within) : FnG P w mg base Γ 3 f fd ["thing"] g_is_result :=
  have S := sc_is_result
  ok_fn (N := ["thing"]) (c := d_is_result) F S fun cdv A outer s H E W hr hg tk => (mb_one (ms_ret (me_cal c_is_int_within rfl (hr.mono (by decide)) hg tk (by rfl) (ma_cons (me_var (pv 0)) (ma_cons me_int (ma_cons (me_globJ (by rfl) n.c_GREATEST_RESULT) ma_nil))) 3 (len_cons (len_cons (len_cons len_nil))) rfl rfl)))
theorem ok_index_of (n : Ns Γ mg) (F : Fun Γ.K "index_of" "index_of" s_index_of f fd) : FnG P w mg base Γ 1 f fd ["rule", "results"] g_index_of :=
  have S := sc_index_of
  ok_fn (N := ["rule", "results", "last", "weight", "result"]) (c := d_index_of) F S fun cdv A outer s H E W hr hg tk => (mb_cons (ms_set (i := 2) S.nd rfl (.inl rfl) (me_callB cr_sortedA (sSortedA rfl) (by rfl) n.n_sorted (by decide +kernel) (ma_cons (me_sl rfl (me_var (pv 1)) (mo_some (me_un un_neg sNeg (me_callB call_len (sLen rfl) (by rfl) n.n_len (by decide +kernel) (ma_cons (me_var (pv 0)) ma_nil)))) mo_none) ma_nil)))
  (mb_one (ms_ret (me_callB (cr_sumA rfl) (sSumA rfl) (by rfl) n.n_sum (by decide +kernel) (ma_cons (me_comp (own := [("weight", 3), ("result", 4)]) (g := (gTup Γ.K 2 (gCons (gName 3) (gCons (gName 4) gNil)))) rfl S.nd (mi_zip rfl (by rfl) n.n_zip (ma_cons (me_var (pv 0)) (ma_cons (me_var (pv 2)) ma_nil))) (blkOk_by (own := [("weight", 3), ("result", 4)]) (N := ["rule", "results", "last", "weight", "result"]) (sc := defScope s_index_of) (by decide +kernel)) (fun _ _ _ _ _ => pg_tup rfl (pgs_cons (pg_name (i := 3) S.nd rfl (.inl rfl)) (pgs_cons (pg_name (i := 4) S.nd rfl (.inl rfl)) pgs_nil))) (gw_tup rfl (gws_cons (gw_name (by decide)) (gws_cons (gw_name (by decide)) gws_nil))) (fun _ _ _ _ _ => mts_nil) (fun _ _ _ _ _ => (me_op opMul sMul (me_var (pv 3)) (me_var (pv 4))))) ma_nil)))))
theorem ok_is_factor (n : Ns Γ mg) (F : Fun Γ.K "is_factor" "is_factor" s_is_factor f fd) (c_is_int_within : Cal P w mg base Γ 2 "is_int_within" ["thing", "least", "most"] g_is_int_within) : FnG P w mg base Γ 3 f fd ["thing"] g_is_factor :=
  have S := sc_is_factor
  ok_fn (N := ["thing"]) (c := d_is_factor) F S fun cdv A outer s H E W hr hg tk => (mb_one (ms_ret (me_cal c_is_int_within rfl (hr.mono (by decide)) hg tk (by rfl) (ma_cons (me_var (pv 0)) (ma_cons (me_un un_neg sNeg (me_globJ (by rfl) n.c_GREATEST_FACTOR)) (ma_cons (me_globJ (by rfl) n.c_GREATEST_FACTOR) ma_nil))) 3 (len_cons (len_cons (len_cons len_nil))) rfl rfl)))
theorem ok_is_term (n : Ns Γ mg) (F : Fun Γ.K "is_term" "is_term" s_is_term f fd) (c_is_tuple : Cal P w mg base Γ 1 "is_tuple" ["thing", "least", "most"] g_is_tuple) (c_is_rule : Cal P w mg base Γ 3 "is_rule" ["thing"] g_is_rule) (c_is_factor : Cal P w mg base Γ 3 "is_factor" ["thing"] g_is_factor) : FnG P w mg base Γ 4 f fd ["thing"] g_is_term :=
  have S := sc_is_term
  ok_fn (N := ["thing", "rule", "ahead", "behind"]) (c := d_is_term) F S fun cdv A outer s H E W hr hg tk => (mb_cons (ms_if (mt_not (mt_val (me_cal c_is_tuple rfl (hr.mono (by decide)) hg tk (by rfl) (ma_cons (me_var (pv 0)) (ma_cons me_int (ma_cons me_int ma_nil))) 3 (len_cons (len_cons (len_cons len_nil))) rfl rfl))) (mb_one (ms_ret me_bl)) mb_nil)
  (mb_cons (ms_setT (me_var (pv 0)) (mg_tup' rfl rfl (mgs_cons' (mg_name (pg_name (i := 1) S.nd rfl (.inl rfl))) (mgs_cons' (mg_name (pg_name (i := 2) S.nd rfl (.inl rfl))) (mgs_cons' (mg_name (pg_name (i := 3) S.nd rfl (.inl rfl))) mgs_nil)))))
  (mb_one (ms_ret (me_and (me_cal c_is_rule rfl (hr.mono (by decide)) hg tk (by rfl) (ma_cons (me_var (pv 1)) ma_nil) 1 (len_cons len_nil) rfl rfl) (me_and (me_cal c_is_factor rfl (hr.mono (by decide)) hg tk (by rfl) (ma_cons (me_var (pv 2)) ma_nil) 1 (len_cons len_nil) rfl rfl) (me_one (me_cal c_is_factor rfl (hr.mono (by decide)) hg tk (by rfl) (ma_cons (me_var (pv 3)) ma_nil) 1 (len_cons len_nil) rfl rfl))))))))
theorem ok_need_bill (n : Ns Γ mg) (F : Fun Γ.K "need_bill" "need_bill" s_need_bill f fd) (c_is_tuple : Cal P w mg base Γ 1 "is_tuple" ["thing", "least", "most"] g_is_tuple) (c_is_factor : Cal P w mg base Γ 3 "is_factor" ["thing"] g_is_factor) (c_is_term : Cal P w mg base Γ 4 "is_term" ["thing"] g_is_term) : FnG P w mg base Γ 5 f fd ["thing"] g_need_bill :=
  have S := sc_need_bill
  ok_fn (N := ["thing", "own", "terms", "number", "term"]) (c := d_need_bill) F S fun cdv A outer s H E W hr hg tk => (mb_cons (ms_if (mt_not (mt_val (me_cal c_is_tuple rfl (hr.mono (by decide)) hg tk (by rfl) (ma_cons (me_var (pv 0)) (ma_cons me_int (ma_cons me_int ma_nil))) 3 (len_cons (len_cons (len_cons len_nil))) rfl rfl))) (mb_one ms_stuck) mb_nil)
  (mb_cons (ms_setT (me_var (pv 0)) (mg_tup' rfl rfl (mgs_cons' (mg_name (pg_name (i := 1) S.nd rfl (.inl rfl))) (mgs_cons' (mg_name (pg_name (i := 2) S.nd rfl (.inl rfl))) mgs_nil))))
  (mb_cons (ms_if (mt_not (mt_val (me_cal c_is_factor rfl (hr.mono (by decide)) hg tk (by rfl) (ma_cons (me_var (pv 1)) ma_nil) 1 (len_cons len_nil) rfl rfl))) (mb_one ms_stuck) mb_nil)
  (mb_cons (ms_if (mt_not (mt_val (me_cal c_is_tuple rfl (hr.mono (by decide)) hg tk (by rfl) (ma_cons (me_var (pv 2)) (ma_cons me_int (ma_cons (me_globJ (by rfl) n.c_MOST_TERMS) ma_nil))) 3 (len_cons (len_cons (len_cons len_nil))) rfl rfl))) (mb_one ms_stuck) mb_nil)
  (mb_cons (ms_for (passes_of rfl) rfl (mi_enum rfl (by rfl) n.n_enumerate (ma_cons (me_var (pv 2)) ma_nil)) (mg_tup' rfl rfl (mgs_cons' (mg_name (pg_name (i := 3) S.nd rfl (.inl rfl))) (mgs_cons' (mg_name (pg_name (i := 4) S.nd rfl (.inl rfl))) mgs_nil))) (mb_one (ms_if (mt_not (mt_val (me_cal c_is_term rfl (hr.mono (by decide)) hg tk (by rfl) (ma_cons (me_var (pv 4)) ma_nil) 1 (len_cons len_nil) rfl rfl))) (mb_one ms_stuck) mb_nil)))
  (mb_one (ms_ret (me_var (pv 0)))))))))
theorem ok_width_of (n : Ns Γ mg) (F : Fun Γ.K "width_of" "width_of" s_width_of f fd) : FnG P w mg base Γ 1 f fd ["bill"] g_width_of :=
  have S := sc_width_of
  ok_fn (N := ["bill", "term"]) (c := d_width_of) F S fun cdv A outer s H E W hr hg tk => (mb_one (ms_ret (me_maxDef rfl rfl hr.units (by rfl) n.n_max (me_comp (own := [("term", 1)]) (g := (gName 1)) rfl S.nd (mi_seq rfl (me_ix rfl (hu_of hr) (me_var (pv 0)) me_int (fun _ _ => rfl) (fun _ _ => rfl))) (blkOk_by (own := [("term", 1)]) (N := ["bill", "term"]) (sc := defScope s_width_of) (by decide +kernel)) (fun _ _ _ _ _ => pg_name (i := 1) S.nd rfl (.inl rfl)) (gw_name (by decide)) (fun _ _ _ _ _ => mts_nil) (fun _ _ _ _ _ => (me_callB call_len (sLen rfl) (by rfl) n.n_len (by decide +kernel) (ma_cons (me_ix rfl (hu_of hr) (me_var (pv 1)) me_int (fun _ _ => rfl) (fun _ _ => rfl)) ma_nil)))) me_int)))
theorem ok_last_pay (n : Ns Γ mg) (F : Fun Γ.K "last_pay" "last_pay" s_last_pay f fd) (c_index_of : Cal P w mg base Γ 1 "index_of" ["rule", "results"] g_index_of) : FnG P w mg base Γ 2 f fd ["bill", "results"] g_last_pay :=
  have S := sc_last_pay
  ok_fn (N := ["bill", "results", "own", "terms", "before", "parts", "rule", "ahead", "behind"]) (c := d_last_pay) F S fun cdv A outer s H E W hr hg tk => (mb_cons (ms_setT (me_var (pv 0)) (mg_tup' rfl rfl (mgs_cons' (mg_name (pg_name (i := 2) S.nd rfl (.inl rfl))) (mgs_cons' (mg_name (pg_name (i := 3) S.nd rfl (.inl rfl))) mgs_nil))))
  (mb_cons (ms_set (i := 4) S.nd rfl (.inr rfl) (me_sl rfl (me_var (pv 1)) mo_none (mo_some (me_un un_neg sNeg me_int))))
  (mb_cons (ms_setComp (i := 5) (own := [("rule", 6), ("ahead", 7), ("behind", 8)]) (g := (gTup Γ.K 3 (gCons (gName 6) (gCons (gName 7) (gCons (gName 8) gNil))))) rfl S.nd rfl rfl (sw_true rfl rfl rfl (by decide +kernel)) (mi_seq rfl (me_var (pv 3))) (blkOk_by (own := [("rule", 6), ("ahead", 7), ("behind", 8)]) (N := ["bill", "results", "own", "terms", "before", "parts", "rule", "ahead", "behind"]) (sc := defScope s_last_pay) (by decide +kernel)) (fun _ _ _ _ _ => pg_tup rfl (pgs_cons (pg_name (i := 6) S.nd rfl (.inl rfl)) (pgs_cons (pg_name (i := 7) S.nd rfl (.inl rfl)) (pgs_cons (pg_name (i := 8) S.nd rfl (.inl rfl)) pgs_nil)))) (gw_tup rfl (gws_cons (gw_name (by decide)) (gws_cons (gw_name (by decide)) (gws_cons (gw_name (by decide)) gws_nil)))) (fun _ _ _ _ _ => mts_nil) (fun _ _ _ _ _ => (me_op opAdd sAdd (me_op opMul sMul (me_var (pv 7)) (me_cal c_index_of rfl (hr.mono (by decide)) hg tk0 (by rfl) (ma_cons (me_var (pv 6)) (ma_cons (me_var (pv 4)) ma_nil)) 2 (len_cons (len_cons len_nil)) rfl rfl)) (me_op opMul sMul (me_var (pv 8)) (me_cal c_index_of rfl (hr.mono (by decide)) hg tk0 (by rfl) (ma_cons (me_var (pv 6)) (ma_cons (me_var (pv 1)) ma_nil)) 2 (len_cons (len_cons len_nil)) rfl rfl)))))
  (mb_one (ms_ret (me_op opAdd sAdd (me_op opMul sMul (me_var (pv 2)) (me_ix rfl (hu_of hr) (me_var (pv 1)) (me_un un_neg sNeg me_int) (fun _ _ => rfl) (fun _ _ => rfl))) (me_callB (cr_sumA rfl) (sSumA rfl) (by rfl) n.n_sum (by decide +kernel) (ma_cons (me_var (pv 5)) ma_nil))))))))
theorem ok_pays_of (n : Ns Γ mg) (F : Fun Γ.K "pays_of" "pays_of" s_pays_of f fd) (c_width_of : Cal P w mg base Γ 1 "width_of" ["bill"] g_width_of) (c_last_pay : Cal P w mg base Γ 2 "last_pay" ["bill", "results"] g_last_pay) : FnG P w mg base Γ 3 f fd ["bill", "results"] g_pays_of :=
  have S := sc_pays_of
  ok_fn (N := ["bill", "results", "wide", "at"]) (c := d_pays_of) F S fun cdv A outer s H E W hr hg tk => (mb_cons (ms_set (i := 2) S.nd rfl (.inr rfl) (me_cal c_width_of rfl (hr.mono (by decide)) hg tk (by rfl) (ma_cons (me_var (pv 0)) ma_nil) 1 (len_cons len_nil) rfl rfl))
  (mb_one (ms_ret (me_callTy call_tuple_of (sTuple rfl) (by rfl) n.n_tuple (by decide +kernel) (ma_cons (me_comp (own := [("at", 3)]) (g := (gName 3)) rfl S.nd (mi_range2 (by rfl) n.n_range (ma_cons (me_var (pv 2)) (ma_cons (me_callB call_len (sLen rfl) (by rfl) n.n_len (by decide +kernel) (ma_cons (me_var (pv 1)) ma_nil)) ma_nil))) (blkOk_by (own := [("at", 3)]) (N := ["bill", "results", "wide", "at"]) (sc := defScope s_pays_of) (by decide +kernel)) (fun _ _ _ _ _ => pg_name (i := 3) S.nd rfl (.inl rfl)) (gw_name (by decide)) (fun _ _ _ _ _ => mts_nil) (fun _ _ _ _ _ => (me_cal c_last_pay rfl (hr.mono (by decide)) hg tk0 (by rfl) (ma_cons (me_var (pv 0)) (ma_cons (me_sl rfl (me_var (pv 1)) (mo_some (me_op op_sub sSub (me_var (pv 3)) (me_var (pv 2)))) (mo_some (me_op opAdd sAdd (me_var (pv 3)) me_int))) ma_nil)) 2 (len_cons (len_cons len_nil)) rfl rfl))) ma_nil)))))
theorem ok_File_row (n : Ns Γ mg) (F : Fun Γ.K "row" "File.row" s_File_row f fd) : FnG P w mg base Γ 1 f fd ["self"] g_File_row :=
  have S := sc_File_row
  ok_fn (N := ["self"]) (c := d_File_row) F S fun cdv A outer s H E W hr hg tk => (mb_one (ms_ret (me_of rfl n.o_File n.a_File__row (me_var (pv 0)))))
theorem ok_Trial___init__ (n : Ns Γ mg) (F : Fun Γ.K "__init__" "Trial.__init__" s_Trial___init__ f fd) (c_File_row : OP P w mg base Γ 1 9 "row" ["self"] g_File_row) : FnG P w mg base Γ 3 f fd ["self", "one"] g_Trial___init__ :=
  have S := sc_Trial___init__
  ok_fn (N := ["self", "one"]) (c := d_Trial___init__) F S fun cdv A outer s H E W hr hg tk => (mb_cons (ms_fset rfl n.o_Trial n.a_Trial__one (me_var (pv 0)) (me_var (pv 1)) (by rfl))
  (mb_one (ms_fset rfl n.o_Trial n.a_Trial__before (me_var (pv 0)) (mo_prop c_File_row rfl (hr.mono (by decide)) hg (me_var (pv 1)) rfl) (by rfl))))
theorem ok_Trial___enter__ (n : Ns Γ mg) (F : Fun Γ.K "__enter__" "Trial.__enter__" s_Trial___enter__ f fd) (c_File_row : OP P w mg base Γ 1 9 "row" ["self"] g_File_row) : FnG P w mg base Γ 3 f fd ["self"] g_Trial___enter__ :=
  have S := sc_Trial___enter__
  ok_fn (N := ["self"]) (c := d_Trial___enter__) F S fun cdv A outer s H E W hr hg tk => (mb_cons (ms_fset rfl n.o_Trial n.a_Trial__before (me_var (pv 0)) (mo_prop c_File_row rfl (hr.mono (by decide)) hg (me_of rfl n.o_Trial n.a_Trial__one (me_var (pv 0))) rfl) (by rfl))
  (mb_one (ms_ret (me_of rfl n.o_Trial n.a_Trial__one (me_var (pv 0))))))
theorem ok_Trial___exit__ (n : Ns Γ mg) (F : Fun Γ.K "__exit__" "Trial.__exit__" s_Trial___exit__ f fd) : FnX P w mg base Γ 1 f fd ["self", "kind", "value", "trace"] gx_Trial___exit__ :=
  have S := sc_Trial___exit__
  ok_fnX (N := ["self", "kind", "value", "trace"]) (c := d_Trial___exit__) F S fun cdv A outer s H E => (mb_one (ms_fset rfl n.o_File n.a_File__row (me_of rfl n.o_Trial n.a_Trial__one (me_var (pv 0))) (me_of rfl n.o_Trial n.a_Trial__before (me_var (pv 0))) (by rfl)))
theorem ok_File___init__ (n : Ns Γ mg) (F : Fun Γ.K "__init__" "File.__init__" s_File___init__ f fd) (c_need_bill : Cal P w mg base Γ 5 "need_bill" ["thing"] g_need_bill) : FnG P w mg base Γ 6 f fd ["self", "bill"] g_File___init__ :=
  have S := sc_File___init__
  ok_fn (N := ["self", "bill"]) (c := d_File___init__) F S fun cdv A outer s H E W hr hg tk => (mb_cons (ms_fset rfl n.o_File n.a_File__bill (me_var (pv 0)) (me_cal c_need_bill rfl (hr.mono (by decide)) hg tk (by rfl) (ma_cons (me_var (pv 1)) ma_nil) 1 (len_cons len_nil) rfl rfl) (by rfl))
  (mb_one (ms_fset rfl n.o_File n.a_File__row (me_var (pv 0)) (me_tup ma_nil) (by rfl))))
theorem ok_File_bill (n : Ns Γ mg) (F : Fun Γ.K "bill" "File.bill" s_File_bill f fd) : FnG P w mg base Γ 1 f fd ["self"] g_File_bill :=
  have S := sc_File_bill
  ok_fn (N := ["self"]) (c := d_File_bill) F S fun cdv A outer s H E W hr hg tk => (mb_one (ms_ret (me_of rfl n.o_File n.a_File__bill (me_var (pv 0)))))
theorem ok_File_add (n : Ns Γ mg) (F : Fun Γ.K "add" "File.add" s_File_add f fd) (x_BadNumber : XcR P w Γ.K mg base (Γ.cls 4) "BadNumber" "value") (c_is_result : Cal P w mg base Γ 3 "is_result" ["thing"] g_is_result) (c_width_of : Cal P w mg base Γ 1 "width_of" ["bill"] g_width_of) (c_last_pay : Cal P w mg base Γ 2 "last_pay" ["bill", "results"] g_last_pay) : FnG P w mg base Γ 4 f fd ["self", "result"] g_File_add :=
  have S := sc_File_add
  ok_fn (N := ["self", "result"]) (c := d_File_add) F S fun cdv A outer s H E W hr hg tk => (mb_cons (ms_if (mt_not (mt_val (me_cal c_is_result rfl (hr.mono (by decide)) hg tk (by rfl) (ma_cons (me_var (pv 1)) ma_nil) 1 (len_cons len_nil) rfl rfl))) (mb_one (ms_raise rfl x_BadNumber (hr.mono (by decide)) rfl tk (by rfl) (me_var (pv 1)))) mb_nil)
  (mb_cons (ms_if (mt_cmp (opEq hr.units) sEq (nomark _) (me_callB call_len (sLen rfl) (by rfl) n.n_len (by decide +kernel) (ma_cons (me_of rfl n.o_File n.a_File__row (me_var (pv 0))) ma_nil)) (me_globJ (by rfl) n.c_MOST_RESULTS)) (mb_one ms_stuck) mb_nil)
  (mb_cons (ms_fset rfl n.o_File n.a_File__row (me_var (pv 0)) (me_op opAdd sAdd (me_of rfl n.o_File n.a_File__row (me_var (pv 0))) (me_tup (ma_cons (me_var (pv 1)) ma_nil))) (by rfl))
  (mb_cons (ms_if (mt_cmp op_le sCmp (nomark _) (me_callB call_len (sLen rfl) (by rfl) n.n_len (by decide +kernel) (ma_cons (me_of rfl n.o_File n.a_File__row (me_var (pv 0))) ma_nil)) (me_cal c_width_of rfl (hr.mono (by decide)) hg tk (by rfl) (ma_cons (me_of rfl n.o_File n.a_File__bill (me_var (pv 0))) ma_nil) 1 (len_cons len_nil) rfl rfl)) (mb_one (ms_ret me_non)) mb_nil)
  (mb_one (ms_ret (me_cal c_last_pay rfl (hr.mono (by decide)) hg tk (by rfl) (ma_cons (me_of rfl n.o_File n.a_File__bill (me_var (pv 0))) (ma_cons (me_of rfl n.o_File n.a_File__row (me_var (pv 0))) ma_nil)) 2 (len_cons (len_cons len_nil)) rfl rfl)))))))
theorem ok_File___call__ (n : Ns Γ mg) (F : Fun Γ.K "__call__" "File.__call__" s_File___call__ f fd) (c_width_of : Cal P w mg base Γ 1 "width_of" ["bill"] g_width_of) (c_pays_of : Cal P w mg base Γ 3 "pays_of" ["bill", "results"] g_pays_of) : FnG P w mg base Γ 4 f fd ["self"] g_File___call__ :=
  have S := sc_File___call__
  ok_fn (N := ["self"]) (c := d_File___call__) F S fun cdv A outer s H E W hr hg tk => (mb_cons (ms_if (mt_cmp op_lt sCmp (nomark _) (me_callB call_len (sLen rfl) (by rfl) n.n_len (by decide +kernel) (ma_cons (me_of rfl n.o_File n.a_File__row (me_var (pv 0))) ma_nil)) (me_cal c_width_of rfl (hr.mono (by decide)) hg tk (by rfl) (ma_cons (me_of rfl n.o_File n.a_File__bill (me_var (pv 0))) ma_nil) 1 (len_cons len_nil) rfl rfl)) (mb_one (ms_ret me_non)) mb_nil)
  (mb_one (ms_ret (me_callB (cr_sumA rfl) (sSumA rfl) (by rfl) n.n_sum (by decide +kernel) (ma_cons (me_cal c_pays_of rfl (hr.mono (by decide)) hg tk (by rfl) (ma_cons (me_of rfl n.o_File n.a_File__bill (me_var (pv 0))) (ma_cons (me_of rfl n.o_File n.a_File__row (me_var (pv 0))) ma_nil)) 2 (len_cons (len_cons len_nil)) rfl rfl) ma_nil)))))
theorem ok_File___len__ (n : Ns Γ mg) (F : Fun Γ.K "__len__" "File.__len__" s_File___len__ f fd) : FnG P w mg base Γ 1 f fd ["self"] g_File___len__ :=
  have S := sc_File___len__
  ok_fn (N := ["self"]) (c := d_File___len__) F S fun cdv A outer s H E W hr hg tk => (mb_one (ms_ret (me_callB call_len (sLen rfl) (by rfl) n.n_len (by decide +kernel) (ma_cons (me_of rfl n.o_File n.a_File__row (me_var (pv 0))) ma_nil))))
theorem ok_File_back (n : Ns Γ mg) (F : Fun Γ.K "back" "File.back" s_File_back f fd) (x_BadNumber : XcR P w Γ.K mg base (Γ.cls 4) "BadNumber" "value") (c_is_int : Cal P w mg base Γ 1 "is_int" ["thing"] g_is_int) : FnG P w mg base Γ 3 f fd ["self", "many"] g_File_back :=
  have S := sc_File_back
  ok_fn (N := ["self", "many"]) (c := d_File_back) F S fun cdv A outer s H E W hr hg tk => (mb_cons (ms_if (mt_w (mw_or (mt_not (mt_val (me_cal c_is_int rfl (hr.mono (by decide)) hg tk (by rfl) (ma_cons (me_var (pv 1)) ma_nil) 1 (len_cons len_nil) rfl rfl))) (mw_or1 (mt_cmp op_lt sCmp (nomark _) (me_var (pv 1)) me_int)))) (mb_one (ms_raise rfl x_BadNumber (hr.mono (by decide)) rfl tk (by rfl) (me_var (pv 1)))) mb_nil)
  (mb_cons (ms_if (mt_cmp op_gt sCmp (nomark _) (me_var (pv 1)) (me_callB call_len (sLen rfl) (by rfl) n.n_len (by decide +kernel) (ma_cons (me_of rfl n.o_File n.a_File__row (me_var (pv 0))) ma_nil))) (mb_one ms_stuck) mb_nil)
  (mb_one (ms_fset rfl n.o_File n.a_File__row (me_var (pv 0)) (me_sl rfl (me_of rfl n.o_File n.a_File__row (me_var (pv 0))) mo_none (mo_some (me_op op_sub sSub (me_callB call_len (sLen rfl) (by rfl) n.n_len (by decide +kernel) (ma_cons (me_of rfl n.o_File n.a_File__row (me_var (pv 0))) ma_nil)) (me_var (pv 1))))) (by rfl)))))
theorem ok_File_copy (n : Ns Γ mg) (F : Fun Γ.K "copy" "File.copy" s_File_copy f fd) (c_File___init__ : OI P w mg base Γ 6 9 "File" ["self", "bill"] g_File___init__) : FnG P w mg base Γ 8 f fd ["self"] g_File_copy :=
  have S := sc_File_copy
  ok_fn (N := ["self", "other"]) (c := d_File_copy) F S fun cdv A outer s H E W hr hg tk => (mb_cons (ms_set (i := 1) S.nd rfl (.inl rfl) (mo_make (n := 1) c_File___init__ rfl (hr.mono (by decide)) hg tk (by rfl) (ma_cons (me_of rfl n.o_File n.a_File__bill (me_var (pv 0))) ma_nil) (len_cons len_nil) rfl))
  (mb_cons (ms_fset rfl n.o_File n.a_File__row (me_var (pv 1)) (me_of rfl n.o_File n.a_File__row (me_var (pv 0))) (by rfl))
  (mb_one (ms_ret (me_var (pv 1))))))
theorem ok_File_trial (n : Ns Γ mg) (F : Fun Γ.K "trial" "File.trial" s_File_trial f fd) (c_Trial___init__ : OI P w mg base Γ 3 10 "Trial" ["self", "one"] g_Trial___init__) : FnG P w mg base Γ 5 f fd ["self"] g_File_trial :=
  have S := sc_File_trial
  ok_fn (N := ["self"]) (c := d_File_trial) F S fun cdv A outer s H E W hr hg tk => (mb_one (ms_ret (mo_make (n := 1) c_Trial___init__ rfl (hr.mono (by decide)) hg tk (by rfl) (ma_cons (me_var (pv 0)) ma_nil) (len_cons len_nil) rfl)))
theorem ok_File___eq__ (n : Ns Γ mg) (F : Fun Γ.K "__eq__" "File.__eq__" s_File___eq__ f fd) : FnG P w mg base Γ 1 f fd ["self", "other"] g_File___eq__ :=
  have S := sc_File___eq__
  ok_fn (N := ["self", "other"]) (c := d_File___eq__) F S fun cdv A outer s H E W hr hg tk => (mb_one (ms_ret (me_and (me_callB call_isi (sIsiO rfl n.io_File) (by rfl) n.n_isinstance (by decide +kernel) (ma_cons (me_var (pv 1)) (ma_cons (me_cls (by rfl) n.kn_File) ma_nil))) (me_and (me_cmp (opEq hr.units) sEq (nomark _) (me_of rfl n.o_File n.a_File__bill (me_var (pv 0))) (me_of rfl n.o_File n.a_File__bill (me_var (pv 1)))) (me_one (me_cmp (opEq hr.units) sEq (nomark _) (me_of rfl n.o_File n.a_File__row (me_var (pv 0))) (me_of rfl n.o_File n.a_File__row (me_var (pv 1)))))))))
theorem ok_under {kk : Nat} (n : Ns Γ mg) (F : Fun Γ.K "under" "under" s_under f fd) (c_Trial___enter__ : OSp P w mg base Γ 3 10 "__enter__" ["self"] g_Trial___enter__) (c_Trial___exit__ : OX P w mg base Γ 1 10 ["self", "kind", "value", "trace"] gx_Trial___exit__) (hden : ∀ (cl : Dv) (g : Dv → Sto → R Dv) (w0 : Dv) (s : Sto), finC s.length (d_under cl g (startD 3 [w0, cl]) s) = h_under g [w0] s) : FnU P w mg base Γ (kk + 5) kk f fd ["manager", "deed"] h_under :=
  have S := sc_under
  ok_fnU (N := ["manager", "deed", "one"]) (c := d_under) F S (fun cdv A outer s H E W f' c' q ws vs g T hr hg tk => (mb_one (ms_with (i := 2) rfl rfl rfl c_Trial___enter__ c_Trial___exit__ rfl (hr.mono (by omega)) hg tk S.nd rfl (.inl rfl) (me_var (pv 0)) (fun W pn xe tk => (mb_one (ms_ret (me_thk1 (i := 1) T rfl rfl (hr.mono (by omega)) hg tk rfl (.inl rfl) (ma_cons (me_var (pv 2)) ma_nil)))))))) hden
theorem ok__law_begun (n : Ns Γ mg) (F : Fun Γ.K "_law_begun" "_law_begun" s__law_begun f fd) : FnG P w mg base Γ 1 f fd ["script"] g__law_begun :=
  have S := sc__law_begun
  ok_fn (N := ["script", "great", "cell"]) (c := d__law_begun) F S fun cdv A outer s H E W hr hg tk => (mb_cons (ms_setComp (i := 1) (own := [("cell", 2)]) (g := (gName 2)) rfl S.nd rfl rfl (sw_true rfl rfl rfl (by decide +kernel)) (mi_seq rfl (me_var (pv 0))) (blkOk_by (own := [("cell", 2)]) (N := ["script", "great", "cell"]) (sc := defScope s__law_begun) (by decide +kernel)) (fun _ _ _ _ _ => pg_name (i := 2) S.nd rfl (.inl rfl)) (gw_name (by decide)) (fun _ _ _ _ _ => mts_one (mt_cmp op_ge sCmp (nomark _) (me_var (pv 2)) (me_op op_pow sPow me_int me_int))) (fun _ _ _ _ _ => (me_var (pv 2))))
  (mb_one (ms_ret (me_dctM (ps := [((mK (.str "cells")), (mBin addD (mBlt listD (mCons (mVar 0) mNil)) (mLst (mCons (mBlt lenD (mCons (mVar 0) mNil)) mNil)))), ((mK (.str "left")), (mIf (mTest (mBin neD (mVar 1) (mLst mNil))) (mBin ixA (mVar 1) (mK (.int 0))) (mK (.int 0)))), ((mK (.str "spot")), (mK (.int 0)))]) (pps_cons me_str (me_op opAdd sAdd (me_callTy call_list_of (sList rfl) (by rfl) n.n_list (by decide +kernel) (ma_cons (me_var (pv 0)) ma_nil)) (me_lst (ma_cons (me_callB call_len (sLen rfl) (by rfl) n.n_len (by decide +kernel) (ma_cons (me_var (pv 0)) ma_nil)) ma_nil))) (pps_cons me_str (me_if (mt_cmp (opNe hr.units) sNe (nomark _) (me_var (pv 1)) (me_lst ma_nil)) (me_ix rfl (hu_of hr) (me_var (pv 1)) me_int (fun _ _ => rfl) (fun _ _ => rfl)) me_int) (pps_cons me_str me_int pps_nil))) rfl rfl (by decide) (by decide)))))
theorem ok__law_draw (n : Ns Γ mg) (F : Fun Γ.K "_law_draw" "_law_draw" s__law_draw f fd) : FnG P w mg base Γ 1 f fd ["m", "many"] g__law_draw :=
  have S := sc__law_draw
  ok_fn (N := ["m", "many", "found", "spot", "cell", "mixed"]) (c := d__law_draw) F S fun cdv A outer s H E W hr hg tk => (mb_cons (ms_if (mt_cmp op_gt sCmp (nomark _) (me_ix rfl (hu_of hr) (me_var (pv 0)) me_str (fun _ _ => rfl) (fun _ _ => rfl)) me_int) (mb_cons (ms_set (i := 2) S.nd rfl (.inl rfl) (me_op op_mod sMod (me_callTy call_int1 sInt (by rfl) n.n_int (by decide +kernel) (ma_cons (me_ix rfl (hu_of hr) (me_var (pv 0)) me_str (fun _ _ => rfl) (fun _ _ => rfl)) ma_nil)) (me_var (pv 1))))
  (mb_cons (ms_dput (hu_of hr) (me_var (pv 0)) me_str (me_op op_fdiv sDiv (me_ix rfl (hu_of hr) (me_var (pv 0)) me_str (fun _ _ => rfl) (fun _ _ => rfl)) (me_var (pv 1))) (by rfl))
  (mb_one (ms_ret (me_var (pv 2)))))) mb_nil)
  (mb_cons (ms_set (i := 3) S.nd rfl (.inl rfl) (me_op opAdd sAdd (me_ix rfl (hu_of hr) (me_var (pv 0)) me_str (fun _ _ => rfl) (fun _ _ => rfl)) me_int))
  (mb_cons (ms_dput (hu_of hr) (me_var (pv 0)) me_str (me_var (pv 3)) (by rfl))
  (mb_cons (ms_set (i := 4) S.nd rfl (.inl rfl) (me_ix rfl (hu_of hr) (me_ix rfl (hu_of hr) (me_var (pv 0)) me_str (fun _ _ => rfl) (fun _ _ => rfl)) (me_op op_mod sMod (me_callTy call_int1 sInt (by rfl) n.n_int (by decide +kernel) (ma_cons (me_var (pv 3)) ma_nil)) (me_callB call_len (sLen rfl) (by rfl) n.n_len (by decide +kernel) (ma_cons (me_ix rfl (hu_of hr) (me_var (pv 0)) me_str (fun _ _ => rfl) (fun _ _ => rfl)) ma_nil))) (fun _ _ => rfl) (fun _ _ => rfl)))
  (mb_cons (ms_set (i := 5) S.nd rfl (.inl rfl) (me_op opMul sMul (me_callTy call_int1 sInt (by rfl) n.n_int (by decide +kernel) (ma_cons (me_op opAdd sAdd (me_op opAdd sAdd (me_op op_mod sMod (me_callTy call_int1 sInt (by rfl) n.n_int (by decide +kernel) (ma_cons (me_var (pv 4)) ma_nil)) me_int) (me_op opMul sMul me_int (me_var (pv 3)))) (me_op opMul sMul (me_op opMul sMul me_int (me_var (pv 3))) (me_var (pv 3)))) ma_nil)) me_int))
  (mb_cons (ms_set (i := 5) S.nd rfl (.inl rfl) (me_op opMul sMul (me_callTy call_int1 sInt (by rfl) n.n_int (by decide +kernel) (ma_cons (me_op opAdd sAdd (me_op op_mod sMod (me_callTy call_int1 sInt (by rfl) n.n_int (by decide +kernel) (ma_cons (me_var (pv 5)) ma_nil)) me_int) (me_op opMul sMul me_int (me_var (pv 3)))) ma_nil)) me_int))
  (mb_one (ms_ret (me_op op_mod sMod (me_callTy call_int1 sInt (by rfl) n.n_int (by decide +kernel) (ma_cons (me_op op_fdiv sDiv (me_op op_mod sMod (me_callTy call_int1 sInt (by rfl) n.n_int (by decide +kernel) (ma_cons (me_var (pv 5)) ma_nil)) me_int) me_int) ma_nil)) (me_var (pv 1)))))))))))
theorem ok__law_of (n : Ns Γ mg) (F : Fun Γ.K "_law_of" "_law_of" s__law_of f fd) (c__law_draw : Cal P w mg base Γ 1 "_law_draw" ["m", "many"] g__law_draw) : FnG P w mg base Γ 2 f fd ["m", "some"] g__law_of :=
  have S := sc__law_of
  ok_fn (N := ["m", "some"]) (c := d__law_of) F S fun cdv A outer s H E W hr hg tk => (mb_one (ms_ret (me_ix rfl (hu_of hr) (me_var (pv 1)) (me_cal c__law_draw rfl (hr.mono (by decide)) hg tk (by rfl) (ma_cons (me_var (pv 0)) (ma_cons (me_callB call_len (sLen rfl) (by rfl) n.n_len (by decide +kernel) (ma_cons (me_var (pv 1)) ma_nil)) ma_nil)) 2 (len_cons (len_cons len_nil)) rfl rfl) (fun _ _ => rfl) (fun _ _ => rfl))))
theorem ok__law_weights (n : Ns Γ mg) (F : Fun Γ.K "_law_weights" "_law_weights" s__law_weights f fd) (c__law_draw : Cal P w mg base Γ 1 "_law_draw" ["m", "many"] g__law_draw) : FnG P w mg base Γ 2 f fd ["m", "most"] g__law_weights :=
  have S := sc__law_weights
  ok_fn (N := ["m", "most", "wide", "some", "k"]) (c := d__law_weights) F S fun cdv A outer s H E W hr hg tk => (mb_cons (ms_set (i := 2) S.nd rfl (.inr rfl) (me_cal c__law_draw rfl (hr.mono (by decide)) hg tk (by rfl) (ma_cons (me_var (pv 0)) (ma_cons me_int ma_nil)) 2 (len_cons (len_cons len_nil)) rfl rfl))
  (mb_cons (ms_setComp (i := 3) (own := [("k", 4)]) (g := (gName 4)) rfl S.nd rfl rfl (sw_true rfl rfl rfl (by decide +kernel)) (mi_range1 (by rfl) n.n_range (ma_cons (me_op opAdd sAdd me_int (me_cal c__law_draw rfl (hr.mono (by decide)) hg tk (by rfl) (ma_cons (me_var (pv 0)) (ma_cons (me_var (pv 1)) ma_nil)) 2 (len_cons (len_cons len_nil)) rfl rfl)) ma_nil)) (blkOk_by (own := [("k", 4)]) (N := ["m", "most", "wide", "some", "k"]) (sc := defScope s__law_weights) (by decide +kernel)) (fun _ _ _ _ _ => pg_name (i := 4) S.nd rfl (.inl rfl)) (gw_name (by decide)) (fun _ _ _ _ _ => mts_nil) (fun _ _ _ _ _ => (me_if (mt_cmp (opEq hr.units) sEq (nomark _) (me_var (pv 2)) me_int) (me_op op_sub sSub (me_cal c__law_draw rfl (hr.mono (by decide)) hg tk0 (by rfl) (ma_cons (me_var (pv 0)) (ma_cons me_int ma_nil)) 2 (len_cons (len_cons len_nil)) rfl rfl) me_int) (me_cal c__law_draw rfl (hr.mono (by decide)) hg tk0 (by rfl) (ma_cons (me_var (pv 0)) (ma_cons me_int ma_nil)) 2 (len_cons (len_cons len_nil)) rfl rfl))))
  (mb_one (ms_ret (me_callTy call_tuple_of (sTuple rfl) (by rfl) n.n_tuple (by decide +kernel) (ma_cons (me_var (pv 3)) ma_nil))))))
theorem ok__law_drawn_bill (n : Ns Γ mg) (F : Fun Γ.K "_law_drawn_bill" "_law_drawn_bill" s__law_drawn_bill f fd) (c__law_of : Cal P w mg base Γ 2 "_law_of" ["m", "some"] g__law_of) (c__law_draw : Cal P w mg base Γ 1 "_law_draw" ["m", "many"] g__law_draw) (c__law_weights : Cal P w mg base Γ 2 "_law_weights" ["m", "most"] g__law_weights) : FnG P w mg base Γ 3 f fd ["m", "most"] g__law_drawn_bill :=
  have S := sc__law_drawn_bill
  ok_fn (N := ["m", "most", "own", "terms", "k"]) (c := d__law_drawn_bill) F S fun cdv A outer s H E W hr hg tk => (mb_cons (ms_par rfl S.nd rfl rfl (by decide) rfl rfl (ma_cons (me_cal c__law_of rfl (hr.mono (by decide)) hg tk (by rfl) (ma_cons (me_var (pv 0)) (ma_cons (me_lst (ma_cons me_int (ma_cons me_int (ma_cons me_int (ma_cons (me_un un_neg sNeg me_int) (ma_cons (me_op op_sub sSub (me_cal c__law_draw rfl (hr.mono (by decide)) hg tk (by rfl) (ma_cons (me_var (pv 0)) (ma_cons me_int ma_nil)) 2 (len_cons (len_cons len_nil)) rfl rfl) me_int) ma_nil)))))) ma_nil)) 2 (len_cons (len_cons len_nil)) rfl rfl) (ma_cons (me_lstM ma_nil) ma_nil)) (by rfl))
  (mb_cons (ms_for (passes_of rfl) rfl (mi_range1 (by rfl) n.n_range (ma_cons (me_cal c__law_draw rfl (hr.mono (by decide)) hg tk (by rfl) (ma_cons (me_var (pv 0)) (ma_cons me_int ma_nil)) 2 (len_cons (len_cons len_nil)) rfl rfl) ma_nil)) (mg_name (pg_name (i := 4) S.nd rfl (.inl rfl))) (mb_one (ms_expr (me_app (pe_bm PySem.F.plainAttrs_list PySem.F.slot_list_append PySem.F.type_list_append mt_append (me_var (pv 3)) (pa_cons (me_tup (ma_cons (me_cal c__law_weights rfl (hr.mono (by decide)) hg tk (by rfl) (ma_cons (me_var (pv 0)) (ma_cons (me_var (pv 1)) ma_nil)) 2 (len_cons (len_cons len_nil)) rfl rfl) (ma_cons (me_op op_sub sSub (me_cal c__law_draw rfl (hr.mono (by decide)) hg tk (by rfl) (ma_cons (me_var (pv 0)) (ma_cons me_int ma_nil)) 2 (len_cons (len_cons len_nil)) rfl rfl) me_int) (ma_cons (me_op op_sub sSub (me_cal c__law_draw rfl (hr.mono (by decide)) hg tk (by rfl) (ma_cons (me_var (pv 0)) (ma_cons me_int ma_nil)) 2 (len_cons (len_cons len_nil)) rfl rfl) me_int) ma_nil)))) pa_nil))))))
  (mb_one (ms_ret (me_tup (ma_cons (me_var (pv 2)) (ma_cons (me_callTy call_tuple_of (sTuple rfl) (by rfl) n.n_tuple (by decide +kernel) (ma_cons (me_var (pv 3)) ma_nil)) ma_nil)))))))
theorem ok__law_led (n : Ns Γ mg) (F : Fun Γ.K "_law_led" "_law_led" s__law_led f fd) (c_File___len__ : OSp P w mg base Γ 1 9 "__len__" ["self"] g_File___len__) (c__law_draw : Cal P w mg base Γ 1 "_law_draw" ["m", "many"] g__law_draw) (c_File_back : OMK P w mg base Γ 3 9 "back" ["self", "many"] g_File_back ["many"] [.int 1]) (c_File_add : OM P w mg base Γ 4 9 "add" ["self", "result"] g_File_add) (c__law_of : Cal P w mg base Γ 2 "_law_of" ["m", "some"] g__law_of) (c_File_bill : OP P w mg base Γ 1 9 "bill" ["self"] g_File_bill) (c_File_row : OP P w mg base Γ 1 9 "row" ["self"] g_File_row) (c_File___call__ : OC P w mg base Γ 4 9 ["self"] g_File___call__) : FnG P w mg base Γ 5 f fd ["m", "one", "many"] g__law_led :=
  have S := sc__law_led
  ok_fn (N := ["m", "one", "many", "lap"]) (c := d__law_led) F S fun cdv A outer s H E W hr hg tk => (mb_cons (ms_for (passes_of rfl) rfl (mi_range1 (by rfl) n.n_range (ma_cons (me_var (pv 2)) ma_nil)) (mg_name (pg_name (i := 3) S.nd rfl (.inl rfl))) (mb_one (ms_if (mt_w (mw_and (mt_cmp op_gt sCmp (nomark _) (mo_len c_File___len__ rfl (hr.mono (by decide)) hg rfl (by rfl) n.n_len (ma_cons (me_var (pv 1)) ma_nil)) me_int) (mw_and1 (mt_cmp (opEq hr.units) sEq (nomark _) (me_cal c__law_draw rfl (hr.mono (by decide)) hg tk (by rfl) (ma_cons (me_var (pv 0)) (ma_cons me_int ma_nil)) 2 (len_cons (len_cons len_nil)) rfl rfl) me_int)))) (mb_one (ms_expr (mo_methD c_File_back rfl (hr.mono (by decide)) hg tk (me_var (pv 1)) rfl))) (mb_one (ms_expr (mo_meth (n := 1) c_File_add rfl (hr.mono (by decide)) hg tk (me_var (pv 1)) (ma_cons (me_cal c__law_of rfl (hr.mono (by decide)) hg tk (by rfl) (ma_cons (me_var (pv 0)) (ma_cons (me_lst (ma_cons me_int (ma_cons me_int (ma_cons me_int (ma_cons (me_cal c__law_draw rfl (hr.mono (by decide)) hg tk (by rfl) (ma_cons (me_var (pv 0)) (ma_cons me_int ma_nil)) 2 (len_cons (len_cons len_nil)) rfl rfl) ma_nil))))) ma_nil)) 2 (len_cons (len_cons len_nil)) rfl rfl) ma_nil) (len_cons len_nil) rfl))))))
  (mb_one (ms_ret (me_callB (cr_reprQ hg hr.units) (sReprQ rfl) (by rfl) n.n_repr (by decide +kernel) (ma_cons (me_lst (ma_cons (mo_prop c_File_bill rfl (hr.mono (by decide)) hg (me_var (pv 1)) rfl) (ma_cons (mo_prop c_File_row rfl (hr.mono (by decide)) hg (me_var (pv 1)) rfl) (ma_cons (mo_call c_File___call__ rfl (hr.mono (by decide)) hg tk (me_var (pv 1)) rfl) (ma_cons (mo_len c_File___len__ rfl (hr.mono (by decide)) hg rfl (by rfl) n.n_len (ma_cons (me_var (pv 1)) ma_nil)) ma_nil))))) ma_nil)))))
theorem ok__law_shown (n : Ns Γ mg) (F : Fun Γ.K "_law_shown" "_law_shown" s__law_shown f fd) (c_File_bill : OP P w mg base Γ 1 9 "bill" ["self"] g_File_bill) (c_File_row : OP P w mg base Γ 1 9 "row" ["self"] g_File_row) (c_File___call__ : OC P w mg base Γ 4 9 ["self"] g_File___call__) (c_File___len__ : OSp P w mg base Γ 1 9 "__len__" ["self"] g_File___len__) : FnG P w mg base Γ 5 f fd ["one"] g__law_shown :=
  have S := sc__law_shown
  ok_fn (N := ["one"]) (c := d__law_shown) F S fun cdv A outer s H E W hr hg tk => (mb_one (ms_ret (me_callB (cr_reprQ hg hr.units) (sReprQ rfl) (by rfl) n.n_repr (by decide +kernel) (ma_cons (me_lst (ma_cons (mo_prop c_File_bill rfl (hr.mono (by decide)) hg (me_var (pv 0)) rfl) (ma_cons (mo_prop c_File_row rfl (hr.mono (by decide)) hg (me_var (pv 0)) rfl) (ma_cons (mo_call c_File___call__ rfl (hr.mono (by decide)) hg tk (me_var (pv 0)) rfl) (ma_cons (mo_len c_File___len__ rfl (hr.mono (by decide)) hg rfl (by rfl) n.n_len (ma_cons (me_var (pv 0)) ma_nil)) ma_nil))))) ma_nil))))
theorem ok__law_block {c0 : Addr} (n : Ns Γ mg) (F : Fun Γ.K "_law_block" "_law_block" s__law_block f fd) (hc : fd.code = .ref c0) (TB : LamX.TabB base mg c0 (Γ.tb 0)) (c__law_led : Cal P w mg base Γ 5 "_law_led" ["m", "one", "many"] g__law_led) (c__law_shown : Cal P w mg base Γ 5 "_law_shown" ["one"] g__law_shown) (c_File___eq__ : OEq P w mg base Γ 1 9 ["self", "other"] g_File___eq__) (c_File_add : OM P w mg base Γ 4 9 "add" ["self", "result"] g_File_add) (c_File_trial : OM P w mg base Γ 5 9 "trial" ["self"] g_File_trial) (c_under : CalU P w mg base Γ 11 6 "under" ["manager", "deed"] h_under) (c_File_row : OP P w mg base Γ 1 9 "row" ["self"] g_File_row) : FnG P w mg base Γ 13 f fd ["m", "one", "held", "way"] g__law_block :=
  have S := sc__law_block
  ok_fnC (N := ["m", "one", "held", "way", "kept"]) (c := d__law_block) F hc S fun A outer s H E W hr hg tk => (mb_cons (ms_if (mt_w (mw_or (mt_cmp (opNe hr.units) sNe (nomark _) (me_cal c__law_led rfl (hr.mono (by decide)) hg tk (by rfl) (ma_cons (me_var (pv 0)) (ma_cons (me_var (pv 2)) (ma_cons me_int ma_nil))) 3 (len_cons (len_cons (len_cons len_nil))) rfl rfl) (me_cal c__law_shown rfl (hr.mono (by decide)) hg tk (by rfl) (ma_cons (me_var (pv 1)) ma_nil) 1 (len_cons len_nil) rfl rfl)) (mw_or1 (mt_neO c_File___eq__ rfl (hr.mono (by decide)) hg rfl (me_var (pv 2)) (me_var (pv 1)))))) (mb_one (ms_ret me_str)) mb_nil)
  (mb_cons (ms_if (mt_cmp (opEq hr.units) sEq (nomark _) (me_var (pv 3)) me_int) (mb_one (ms_expr (mo_meth (n := 1) c_File_add rfl (hr.mono (by decide)) hg tk (me_var (pv 2)) (ma_cons me_non ma_nil) (len_cons len_nil) rfl))) mb_nil)
  (mb_cons (ms_if (mt_cmp (opEq hr.units) sEq (nomark _) (me_var (pv 3)) me_int) (mb_cons (ms_set (i := 4) S.nd rfl (.inl rfl) (me_cal c__law_shown rfl (hr.mono (by decide)) hg tk (by rfl) (ma_cons (me_var (pv 2)) ma_nil) 1 (len_cons len_nil) rfl rfl))
  (mb_one (ms_if (mt_w (mw_or (mt_cmp (opEq hr.units) sEq (nomark _) (me_lamU (nt := 0) (n := 0) (kb := 5) (gb := l__law_block_1) (y := "inner") c_under rfl (hr.mono (by decide)) hg tk (by rfl) TB rfl ⟨fun _ => rfl, rfl, fun _ _ _ _ _ _ _ _ => rfl⟩ (lamN_by (N := ["m", "one", "held", "way", "kept"]) (sc := defScope s__law_block) (by decide +kernel)) (fun f c' A outer s H E W hr hg tk => (me_cal c__law_led rfl (hr.mono (by decide)) hg tk (by rfl) (ma_cons (me_var (pv 0)) (ma_cons (me_var (pv 5)) (ma_cons me_int ma_nil))) 3 (len_cons (len_cons (len_cons len_nil))) rfl rfl)) (mo_meth0 c_File_trial rfl (hr.mono (by decide)) hg tk (me_var (pv 2)) rfl) rfl) me_str) (mw_or1 (mt_cmp (opNe hr.units) sNe (nomark _) (me_cal c__law_shown rfl (hr.mono (by decide)) hg tk (by rfl) (ma_cons (me_var (pv 1)) ma_nil) 1 (len_cons len_nil) rfl rfl) (me_var (pv 4)))))) (mb_one (ms_ret me_str)) mb_nil))) mb_nil)
  (mb_cons (ms_expr (mo_meth (n := 1) c_File_add rfl (hr.mono (by decide)) hg tk (me_var (pv 1)) (ma_cons me_int ma_nil) (len_cons len_nil) rfl))
  (mb_one (ms_ret (me_if (mt_cmp (opEq hr.units) sEq (nomark _) (me_sl rfl (mo_prop c_File_row rfl (hr.mono (by decide)) hg (me_var (pv 2)) rfl) (mo_some (me_un un_neg sNeg me_int)) mo_none) (me_tup (ma_cons me_int ma_nil))) me_str me_str)))))))
theorem ok__law_tried {c0 : Addr} (n : Ns Γ mg) (F : Fun Γ.K "_law_tried" "_law_tried" s__law_tried f fd) (hc : fd.code = .ref c0) (TB : LamX.TabB base mg c0 (Γ.tb 1)) (c__law_shown : Cal P w mg base Γ 5 "_law_shown" ["one"] g__law_shown) (c_File_trial : OM P w mg base Γ 5 9 "trial" ["self"] g_File_trial) (c__law_block : Cal P w mg base Γ 13 "_law_block" ["m", "one", "held", "way"] g__law_block) (c_under : CalU P w mg base Γ 19 14 "under" ["manager", "deed"] h_under) : FnG P w mg base Γ 21 f fd ["m", "one", "early", "way"] g__law_tried :=
  have S := sc__law_tried
  ok_fnC (N := ["m", "one", "early", "way", "kept", "heard", "e"]) (c := d__law_tried) F hc S fun A outer s H E W hr hg tk => (mb_cons (ms_par rfl S.nd rfl rfl (by decide) rfl rfl (ma_cons (me_cal c__law_shown rfl (hr.mono (by decide)) hg tk (by rfl) (ma_cons (me_var (pv 1)) ma_nil) 1 (len_cons len_nil) rfl rfl) (ma_cons me_str ma_nil)) (by rfl))
  (mb_cons (ms_try1 (i := 6) rfl rfl S.nd rfl rfl ⟨by rfl, by decide, .inl n.k_BadNumber⟩ tk n.x1m (fun W pn xe tk => (mb_one (ms_set (i := 5) S.nd rfl (.inl rfl) (me_lamU (nt := 1) (n := 1) (kb := 13) (gb := l__law_tried_1) (y := "held") c_under rfl (hr.mono (by decide)) hg tk (by rfl) TB rfl ⟨fun _ => rfl, rfl, fun _ _ _ _ _ _ _ _ => rfl⟩ (lamN_by (N := ["m", "one", "early", "way", "kept", "heard", "e"]) (sc := defScope s__law_tried) (by decide +kernel)) (fun f c' A outer s H E W hr hg tk => (me_cal c__law_block rfl (hr.mono (by decide)) hg tk (by rfl) (ma_cons (me_var (pv 0)) (ma_cons (me_var (pv 1)) (ma_cons (me_var (pv 7)) (ma_cons (me_var (pv 3)) ma_nil)))) 4 (len_cons (len_cons (len_cons (len_cons len_nil)))) rfl rfl)) (me_if (mt_cmp (opEq hr.units) sEq (nomark _) (me_var (pv 3)) me_int) (me_var (pv 2)) (mo_meth0 c_File_trial rfl (hr.mono (by decide)) hg tk (me_var (pv 1)) rfl)) rfl)))) (fun a pn => (mb_one (ms_set (i := 5) S.nd rfl (.inl rfl) (me_if (mt_cmp op_isC sIsC (nomark _) (me_fld1 rfl n.x1 n.x1f (me_var (pv 6))) me_non) me_str me_str)))))
  (mb_one (ms_ret (me_and (me_cmp (opEq hr.units) sEq (nomark _) (me_var (pv 5)) (me_if (mt_cmp (opEq hr.units) sEq (nomark _) (me_var (pv 3)) me_int) me_str me_str)) (me_one (me_cmp (opEq hr.units) sEq (nomark _) (me_cal c__law_shown rfl (hr.mono (by decide)) hg tk (by rfl) (ma_cons (me_var (pv 1)) ma_nil) 1 (len_cons len_nil) rfl rfl) (me_var (pv 4)))))))))
theorem ok__law_copy_right (n : Ns Γ mg) (F : Fun Γ.K "_law_copy_right" "_law_copy_right" s__law_copy_right f fd) (c_File_copy : OM P w mg base Γ 8 9 "copy" ["self"] g_File_copy) (c__law_shown : Cal P w mg base Γ 5 "_law_shown" ["one"] g__law_shown) (c_File___eq__ : OEq P w mg base Γ 1 9 ["self", "other"] g_File___eq__) (c_File_add : OM P w mg base Γ 4 9 "add" ["self", "result"] g_File_add) (c_File_back : OMK P w mg base Γ 3 9 "back" ["self", "many"] g_File_back ["many"] [.int 1]) : FnG P w mg base Γ 9 f fd ["m", "one"] g__law_copy_right :=
  have S := sc__law_copy_right
  ok_fn (N := ["m", "one", "twin", "kept"]) (c := d__law_copy_right) F S fun cdv A outer s H E W hr hg tk => (mb_cons (ms_par rfl S.nd rfl rfl (by decide) rfl rfl (ma_cons (mo_meth0 c_File_copy rfl (hr.mono (by decide)) hg tk (me_var (pv 1)) rfl) (ma_cons (me_cal c__law_shown rfl (hr.mono (by decide)) hg tk (by rfl) (ma_cons (me_var (pv 1)) ma_nil) 1 (len_cons len_nil) rfl rfl) ma_nil)) (by rfl))
  (mb_cons (ms_if (mt_w (mw_or (mt_not (mt_eqO0 c_File___eq__ rfl (hr.mono (by decide)) hg rfl (me_var (pv 2)) (me_var (pv 1)))) (mw_or (mt_neO c_File___eq__ rfl (hr.mono (by decide)) hg rfl (me_var (pv 2)) (me_var (pv 1))) (mw_or1 (mt_cmp (opNe hr.units) sNe (nomark _) (me_cal c__law_shown rfl (hr.mono (by decide)) hg tk (by rfl) (ma_cons (me_var (pv 2)) ma_nil) 1 (len_cons len_nil) rfl rfl) (me_var (pv 3))))))) (mb_one (ms_ret me_bl)) mb_nil)
  (mb_cons (ms_expr (mo_meth (n := 1) c_File_add rfl (hr.mono (by decide)) hg tk (me_var (pv 2)) (ma_cons me_int ma_nil) (len_cons len_nil) rfl))
  (mb_cons (ms_if (mt_w (mw_or (mt_eqO0 c_File___eq__ rfl (hr.mono (by decide)) hg rfl (me_var (pv 2)) (me_var (pv 1))) (mw_or (mt_not (mt_neO c_File___eq__ rfl (hr.mono (by decide)) hg rfl (me_var (pv 2)) (me_var (pv 1)))) (mw_or1 (mt_cmp (opNe hr.units) sNe (nomark _) (me_cal c__law_shown rfl (hr.mono (by decide)) hg tk (by rfl) (ma_cons (me_var (pv 1)) ma_nil) 1 (len_cons len_nil) rfl rfl) (me_var (pv 3))))))) (mb_one (ms_ret me_bl)) mb_nil)
  (mb_cons (ms_expr (mo_methD c_File_back rfl (hr.mono (by decide)) hg tk (me_var (pv 2)) rfl))
  (mb_cons (ms_expr (mo_meth (n := 1) c_File_add rfl (hr.mono (by decide)) hg tk (me_var (pv 1)) (ma_cons me_int ma_nil) (len_cons len_nil) rfl))
  (mb_cons (ms_expr (mo_methD c_File_back rfl (hr.mono (by decide)) hg tk (me_var (pv 1)) rfl))
  (mb_one (ms_ret (me_and (me_eqO0 c_File___eq__ rfl (hr.mono (by decide)) hg rfl (me_var (pv 2)) (me_var (pv 1))) (me_one (me_cmp (opEq hr.units) sEq (nomark _) (me_cal c__law_shown rfl (hr.mono (by decide)) hg tk (by rfl) (ma_cons (me_var (pv 2)) ma_nil) 1 (len_cons len_nil) rfl rfl) (me_var (pv 3))))))))))))))
theorem ok__law_likes_right (n : Ns Γ mg) (F : Fun Γ.K "_law_likes_right" "_law_likes_right" s__law_likes_right f fd) (c_File___init__ : OI P w mg base Γ 6 9 "File" ["self", "bill"] g_File___init__) (c_File_add : OM P w mg base Γ 4 9 "add" ["self", "result"] g_File_add) (c_File___eq__ : OEq P w mg base Γ 1 9 ["self", "other"] g_File___eq__) : FnG P w mg base Γ 8 f fd [] g__law_likes_right :=
  have S := sc__law_likes_right
  ok_fn (N := ["one", "two", "rows", "files_so", "bill_so", "row_so", "file_so", "result", "near", "far", "odd"]) (c := d__law_likes_right) F S fun cdv A outer s H E W hr hg tk => (mb_cons (ms_setT (me_tup (ma_cons (me_tup (ma_cons me_int (ma_cons (me_tup ma_nil) ma_nil))) (ma_cons (me_tup (ma_cons me_int (ma_cons (me_tup (ma_cons (me_tup (ma_cons (me_tup (ma_cons me_int ma_nil)) (ma_cons me_int (ma_cons me_int ma_nil)))) ma_nil)) ma_nil))) ma_nil))) (mg_tup' rfl rfl (mgs_cons' (mg_name (pg_name (i := 0) S.nd rfl (.inl rfl))) (mgs_cons' (mg_name (pg_name (i := 1) S.nd rfl (.inl rfl))) mgs_nil))))
  (mb_cons (ms_setT (me_tup (ma_cons (me_lst (ma_cons (me_tup (ma_cons (me_var (pv 0)) (ma_cons (me_tup ma_nil) ma_nil))) (ma_cons (me_tup (ma_cons (me_var (pv 1)) (ma_cons (me_tup ma_nil) ma_nil))) (ma_cons (me_tup (ma_cons (me_var (pv 0)) (ma_cons (me_tup (ma_cons me_int ma_nil)) ma_nil))) (ma_cons (me_tup (ma_cons (me_var (pv 0)) (ma_cons (me_tup (ma_cons me_int (ma_cons me_int ma_nil))) ma_nil))) (ma_cons (me_tup (ma_cons (me_var (pv 0)) (ma_cons (me_tup (ma_cons me_int (ma_cons me_int ma_nil))) ma_nil))) (ma_cons (me_tup (ma_cons (me_var (pv 1)) (ma_cons (me_tup (ma_cons me_int ma_nil)) ma_nil))) ma_nil))))))) (ma_cons (me_lstM ma_nil) ma_nil))) (mg_tup' rfl rfl (mgs_cons' (mg_name (pg_name (i := 2) S.nd rfl (.inl rfl))) (mgs_cons' (mg_name (pg_name (i := 3) S.nd rfl (.inr rfl))) mgs_nil))))
  (mb_cons (ms_for (passes_of rfl) rfl (mi_seq rfl (me_var (pv 2))) (mg_tup' rfl rfl (mgs_cons' (mg_name (pg_name (i := 4) S.nd rfl (.inl rfl))) (mgs_cons' (mg_name (pg_name (i := 5) S.nd rfl (.inl rfl))) mgs_nil))) (mb_cons (ms_set (i := 6) S.nd rfl (.inl rfl) (mo_make (n := 1) c_File___init__ rfl (hr.mono (by decide)) hg tk (by rfl) (ma_cons (me_var (pv 4)) ma_nil) (len_cons len_nil) rfl))
  (mb_cons (ms_for (passes_of rfl) rfl (mi_seq rfl (me_var (pv 5))) (mg_name (pg_name (i := 7) S.nd rfl (.inl rfl))) (mb_one (ms_expr (mo_meth (n := 1) c_File_add rfl (hr.mono (by decide)) hg tk (me_var (pv 6)) (ma_cons (me_var (pv 7)) ma_nil) (len_cons len_nil) rfl))))
  (mb_one (ms_expr (me_app (pe_bm PySem.F.plainAttrs_list PySem.F.slot_list_append PySem.F.type_list_append mt_append (me_var (pv 3)) (pa_cons (me_var (pv 6)) pa_nil))))))))
  (mb_cons (ms_for (passes_of rfl) rfl (mi_range1 (by rfl) n.n_range (ma_cons me_int ma_nil)) (mg_name (pg_name (i := 8) S.nd rfl (.inl rfl))) (mb_one (ms_for (passes_of rfl) rfl (mi_range1 (by rfl) n.n_range (ma_cons me_int ma_nil)) (mg_name (pg_name (i := 9) S.nd rfl (.inl rfl))) (mb_one (ms_if (mt_cmp (opNe hr.units) sNe (nomark _) (me_eqO0 c_File___eq__ rfl (hr.mono (by decide)) hg rfl (me_ix rfl (hu_of hr) (me_var (pv 3)) (me_var (pv 8)) (fun _ _ => rfl) (fun _ _ => rfl)) (me_ix rfl (hu_of hr) (me_var (pv 3)) (me_var (pv 9)) (fun _ _ => rfl) (fun _ _ => rfl))) (me_cmp (opEq hr.units) sEq (nomark _) (me_var (pv 8)) (me_var (pv 9)))) (mb_one (ms_ret me_bl)) mb_nil)))))
  (mb_one (ms_ret (me_cmp (opEq hr.units) sEq (nomark _) (me_comp (own := [("odd", 10)]) (g := (gName 10)) rfl S.nd (mi_seq rfl (me_tup (ma_cons me_non (ma_cons (me_var (pv 0)) (ma_cons (me_tup ma_nil) (ma_cons me_int (ma_cons (me_lst ma_nil) ma_nil))))))) (blkOk_by (own := [("odd", 10)]) (N := ["one", "two", "rows", "files_so", "bill_so", "row_so", "file_so", "result", "near", "far", "odd"]) (sc := defScope s__law_likes_right) (by decide +kernel)) (fun _ _ _ _ _ => pg_name (i := 10) S.nd rfl (.inl rfl)) (gw_name (by decide)) (fun _ _ _ _ _ => mts_nil) (fun _ _ _ _ _ => (me_eqO0 c_File___eq__ rfl (hr.mono (by decide)) hg rfl (me_ix rfl (hu_of hr) (me_var (pv 3)) me_int (fun _ _ => rfl) (fun _ _ => rfl)) (me_var (pv 10))))) (me_op opMul sMul (me_lst (ma_cons me_bl ma_nil)) me_int))))))))
theorem ok_law (n : Ns Γ mg) (F : Fun Γ.K "law" "law" s_law f fd) (c__law_begun : Cal P w mg base Γ 1 "_law_begun" ["script"] g__law_begun) (c_File___init__ : OI P w mg base Γ 6 9 "File" ["self", "bill"] g_File___init__) (c__law_drawn_bill : Cal P w mg base Γ 3 "_law_drawn_bill" ["m", "most"] g__law_drawn_bill) (c_File_trial : OM P w mg base Γ 5 9 "trial" ["self"] g_File_trial) (c__law_led : Cal P w mg base Γ 5 "_law_led" ["m", "one", "many"] g__law_led) (c__law_draw : Cal P w mg base Γ 1 "_law_draw" ["m", "many"] g__law_draw) (c__law_tried : Cal P w mg base Γ 21 "_law_tried" ["m", "one", "early", "way"] g__law_tried) (c__law_copy_right : Cal P w mg base Γ 9 "_law_copy_right" ["m", "one"] g__law_copy_right) (c__law_likes_right : Cal P w mg base Γ 8 "_law_likes_right" [] g__law_likes_right) : FnG P w mg base Γ 22 f fd ["script"] g_law :=
  have S := sc_law
  ok_fn (N := ["script", "m", "lap", "one", "early", "way"]) (c := d_law) F S fun cdv A outer s H E W hr hg tk => (mb_cons (ms_set (i := 1) S.nd rfl (.inl rfl) (me_cal c__law_begun rfl (hr.mono (by decide)) hg tk (by rfl) (ma_cons (me_var (pv 0)) ma_nil) 1 (len_cons len_nil) rfl rfl))
  (mb_cons (ms_for (passes_of rfl) rfl (mi_range1 (by rfl) n.n_range (ma_cons (me_op opAdd sAdd me_int (me_callB (call_min2 rfl) sMin2 (by rfl) n.n_min (by decide +kernel) (ma_cons (me_callB call_len (sLen rfl) (by rfl) n.n_len (by decide +kernel) (ma_cons (me_var (pv 0)) ma_nil)) (ma_cons me_int ma_nil)))) ma_nil)) (mg_name (pg_name (i := 2) S.nd rfl (.inl rfl))) (mb_cons (ms_set (i := 3) S.nd rfl (.inl rfl) (mo_make (n := 1) c_File___init__ rfl (hr.mono (by decide)) hg tk (by rfl) (ma_cons (me_cal c__law_drawn_bill rfl (hr.mono (by decide)) hg tk (by rfl) (ma_cons (me_var (pv 1)) (ma_cons me_int ma_nil)) 2 (len_cons (len_cons len_nil)) rfl rfl) ma_nil) (len_cons len_nil) rfl))
  (mb_cons (ms_set (i := 4) S.nd rfl (.inl rfl) (mo_meth0 c_File_trial rfl (hr.mono (by decide)) hg tk (me_var (pv 3)) rfl))
  (mb_cons (ms_expr (me_cal c__law_led rfl (hr.mono (by decide)) hg tk (by rfl) (ma_cons (me_var (pv 1)) (ma_cons (me_var (pv 3)) (ma_cons (me_op opAdd sAdd me_int (me_cal c__law_draw rfl (hr.mono (by decide)) hg tk (by rfl) (ma_cons (me_var (pv 1)) (ma_cons me_int ma_nil)) 2 (len_cons (len_cons len_nil)) rfl rfl)) ma_nil))) 3 (len_cons (len_cons (len_cons len_nil))) rfl rfl))
  (mb_cons (ms_for (passes_of rfl) rfl (mi_range1 (by rfl) n.n_range (ma_cons me_int ma_nil)) (mg_name (pg_name (i := 5) S.nd rfl (.inl rfl))) (mb_one (ms_if (mt_not (mt_val (me_cal c__law_tried rfl (hr.mono (by decide)) hg tk (by rfl) (ma_cons (me_var (pv 1)) (ma_cons (me_var (pv 3)) (ma_cons (me_var (pv 4)) (ma_cons (me_var (pv 5)) ma_nil)))) 4 (len_cons (len_cons (len_cons (len_cons len_nil)))) rfl rfl))) (mb_one (ms_ret me_bl)) mb_nil)))
  (mb_one (ms_if (mt_not (mt_val (me_cal c__law_copy_right rfl (hr.mono (by decide)) hg tk (by rfl) (ma_cons (me_var (pv 1)) (ma_cons (me_var (pv 3)) ma_nil)) 2 (len_cons (len_cons len_nil)) rfl rfl))) (mb_one (ms_ret me_bl)) mb_nil)))))))
  (mb_one (ms_ret (me_cal0 c__law_likes_right rfl (hr.mono (by decide)) hg tk (by rfl))))))
end
theorem all_mk {l : PySem.W.OpenLaw} {w : World} {K : PySem.W.Frag} {h : Heap} {mg : Str → Option Value} {fa : Addr} (X : K.In h) (G : h.Ns mainGlobals mg) (hfa : mg "law" = some (.ref fa))
    {cc10 : Addr}
    {cc9 : Addr}
    {cc4 : Addr}
    {pp_File_row : Addr} {re_File_row : List Value}
    {pp_File_bill : Addr} {re_File_bill : List Value}
    {kd_File_back : Addr} {kt_File_back : Tok}
    {cM0 TT0 : Addr} {ocM0 : Value} {odM0 : Option Addr} {vsM0 : Array Value} {slM0 : Array (Option Value)}
    {cM1 TT1 : Addr} {ocM1 : Value} {odM1 : Option Addr} {vsM1 : Array Value} {slM1 : Array (Option Value)}
    {f0 : Addr} {od0 an0 : Option Addr} {sl0 : Array (Option Value)} {oc0 kV0 dc0 pm0 cd0 ct0 : Value}
    {f1 : Addr} {od1 an1 : Option Addr} {sl1 : Array (Option Value)} {oc1 kV1 dc1 pm1 cd1 ct1 : Value}
    {f2 : Addr} {od2 an2 : Option Addr} {sl2 : Array (Option Value)} {oc2 kV2 dc2 pm2 cd2 ct2 : Value}
    {f3 : Addr} {od3 an3 : Option Addr} {sl3 : Array (Option Value)} {oc3 kV3 dc3 pm3 cd3 ct3 : Value}
    {f4 : Addr} {od4 an4 : Option Addr} {sl4 : Array (Option Value)} {oc4 kV4 dc4 pm4 cd4 ct4 : Value}
    {f5 : Addr} {od5 an5 : Option Addr} {sl5 : Array (Option Value)} {oc5 kV5 dc5 pm5 cd5 ct5 : Value}
    {f6 : Addr} {od6 an6 : Option Addr} {sl6 : Array (Option Value)} {oc6 kV6 dc6 pm6 cd6 ct6 : Value}
    {f7 : Addr} {od7 an7 : Option Addr} {sl7 : Array (Option Value)} {oc7 kV7 dc7 pm7 cd7 ct7 : Value}
    {f8 : Addr} {od8 an8 : Option Addr} {sl8 : Array (Option Value)} {oc8 kV8 dc8 pm8 cd8 ct8 : Value}
    {f9 : Addr} {od9 an9 : Option Addr} {sl9 : Array (Option Value)} {oc9 kV9 dc9 pm9 cd9 ct9 : Value}
    {f10 : Addr} {od10 an10 : Option Addr} {sl10 : Array (Option Value)} {oc10 kV10 dc10 pm10 cd10 ct10 : Value}
    {f11 : Addr} {od11 an11 : Option Addr} {sl11 : Array (Option Value)} {oc11 kV11 dc11 pm11 cd11 ct11 : Value}
    {f12 : Addr} {od12 an12 : Option Addr} {sl12 : Array (Option Value)} {oc12 kV12 dc12 pm12 cd12 ct12 : Value}
    {f13 : Addr} {od13 an13 : Option Addr} {sl13 : Array (Option Value)} {oc13 kV13 dc13 pm13 cd13 ct13 : Value}
    {f14 : Addr} {od14 an14 : Option Addr} {sl14 : Array (Option Value)} {oc14 kV14 dc14 pm14 cd14 ct14 : Value}
    {f15 : Addr} {od15 an15 : Option Addr} {sl15 : Array (Option Value)} {oc15 kV15 dc15 pm15 cd15 ct15 : Value}
    {f16 : Addr} {od16 an16 : Option Addr} {sl16 : Array (Option Value)} {oc16 kV16 dc16 pm16 cd16 ct16 : Value}
    {f17 : Addr} {od17 an17 : Option Addr} {sl17 : Array (Option Value)} {oc17 kV17 dc17 pm17 cd17 ct17 : Value}
    {f18 : Addr} {od18 an18 : Option Addr} {sl18 : Array (Option Value)} {oc18 kV18 dc18 pm18 cd18 ct18 : Value}
    {f19 : Addr} {od19 an19 : Option Addr} {sl19 : Array (Option Value)} {oc19 kV19 dc19 pm19 cd19 ct19 : Value}
    {f20 : Addr} {od20 an20 : Option Addr} {sl20 : Array (Option Value)} {oc20 kV20 dc20 pm20 cd20 ct20 : Value}
    {f21 : Addr} {od21 an21 : Option Addr} {sl21 : Array (Option Value)} {oc21 kV21 dc21 pm21 cd21 ct21 : Value}
    {f22 : Addr} {od22 an22 : Option Addr} {sl22 : Array (Option Value)} {oc22 kV22 dc22 pm22 cd22 ct22 : Value}
    {f23 : Addr} {od23 an23 : Option Addr} {sl23 : Array (Option Value)} {oc23 dc23 pm23 cd23 ct23 : Value}
    {f24 : Addr} {od24 an24 : Option Addr} {sl24 : Array (Option Value)} {oc24 kV24 dc24 pm24 cd24 ct24 : Value}
    {f25 : Addr} {od25 an25 : Option Addr} {sl25 : Array (Option Value)} {oc25 kV25 dc25 pm25 cd25 ct25 : Value}
    {f26 : Addr} {od26 an26 : Option Addr} {sl26 : Array (Option Value)} {oc26 kV26 dc26 pm26 cd26 ct26 : Value}
    {f27 : Addr} {od27 an27 : Option Addr} {sl27 : Array (Option Value)} {oc27 kV27 dc27 pm27 cd27 ct27 : Value}
    {f28 : Addr} {od28 an28 : Option Addr} {sl28 : Array (Option Value)} {oc28 kV28 dc28 pm28 cd28 ct28 : Value}
    {f29 : Addr} {od29 an29 : Option Addr} {sl29 : Array (Option Value)} {oc29 kV29 dc29 pm29 cd29 ct29 : Value}
    {f30 : Addr} {od30 an30 : Option Addr} {sl30 : Array (Option Value)} {oc30 kV30 dc30 pm30 cd30 ct30 : Value}
    {f31 : Addr} {od31 an31 : Option Addr} {sl31 : Array (Option Value)} {oc31 kV31 dc31 pm31 cd31 ct31 : Value}
    {f32 : Addr} {od32 an32 : Option Addr} {sl32 : Array (Option Value)} {oc32 kV32 dc32 pm32 cd32 ct32 : Value}
    {f33 : Addr} {od33 an33 : Option Addr} {sl33 : Array (Option Value)} {oc33 kV33 dc33 pm33 cd33 ct33 : Value}
    {f34 : Addr} {od34 an34 : Option Addr} {sl34 : Array (Option Value)} {oc34 kV34 dc34 pm34 cd34 ct34 : Value}
    {f35 : Addr} {od35 an35 : Option Addr} {sl35 : Array (Option Value)} {oc35 kV35 dc35 pm35 ct35 : Value}
    {f36 : Addr} {od36 an36 : Option Addr} {sl36 : Array (Option Value)} {oc36 kV36 dc36 pm36 ct36 : Value}
    {f37 : Addr} {od37 an37 : Option Addr} {sl37 : Array (Option Value)} {oc37 kV37 dc37 pm37 cd37 ct37 : Value}
    {f38 : Addr} {od38 an38 : Option Addr} {sl38 : Array (Option Value)} {oc38 kV38 dc38 pm38 cd38 ct38 : Value}
    {f39 : Addr} {od39 an39 : Option Addr} {sl39 : Array (Option Value)} {oc39 kV39 dc39 pm39 cd39 ct39 : Value}
    {t0 : Tok}
    {t1 : Tok}
    {t2 : Tok}
    {t3 : Tok}
    {t4 : Tok}
    {t5 : Tok}
    {nm4 qn4 : Str} {N4 : Addr} {bs4 bm4 sb4 : List Value} {sn4 : List Str} {ab4 : Bool} {col4 : Option Bool} {dd4 : Option Addr} {ma4 mb4 mc4 md4 me4 : Option Value} {fI4 : Addr} {odI4 anI4 : Option Addr} {slI4 : Array (Option Value)} {ocI4 kVI4 dcI4 pmI4 cdI4 ctI4 : Value}
    (ya10 : PySem.W.nsIn K mainGlobals "Trial" = some (some (.ref cc10)))
    (yp10 : PySem.W.plainGet K cc10 Str.empty = true)
    (yd10 : PySem.W.hasDictIn K cc10 = true)
    (yo10 : PySem.W.plainOver K cc10 = true)
    (ys10 : PySem.W.findIn K (.ref cc10) "__setattr__" = some (some (.builtin "object.__setattr__")))
    (ym10 : PySem.W.makesIn K cc10 = true)
    (yk10 : PySem.W.keepIn K (.ref cc10) = true)
    (ya9 : PySem.W.nsIn K mainGlobals "File" = some (some (.ref cc9)))
    (yp9 : PySem.W.plainGet K cc9 Str.empty = true)
    (yd9 : PySem.W.hasDictIn K cc9 = true)
    (yo9 : PySem.W.plainOver K cc9 = true)
    (ys9 : PySem.W.findIn K (.ref cc9) "__setattr__" = some (some (.builtin "object.__setattr__")))
    (ym9 : PySem.W.makesIn K cc9 = true)
    (yk9 : PySem.W.keepIn K (.ref cc9) = true)
    (yc9 : PySem.W.findIn K (.ref cc9) "__class__" = some (some (.builtin "object.__class__")))
    (yr9 : PySem.W.mroIn K cc9 (.type "object") = some true)
    (yi9 : PySem.W.isClsIn K cc9 = true)
    (yt9 : PySem.W.typeIn K (.ref cc9) = some (.type "type"))
    (yn9 : PySem.W.findIn K (.ref cc9) "__ne__" = some (some (.builtin "object.__ne__")))
    (yf9__bill : PySem.W.findIn K (.ref cc9) "_bill" = some none)
    (yf9__row : PySem.W.findIn K (.ref cc9) "_row" = some none)
    (yf10__before : PySem.W.findIn K (.ref cc10) "_before" = some none)
    (yf10__one : PySem.W.findIn K (.ref cc10) "_one" = some none)
    (a0 : PySem.W.nsIn K mainGlobals "is_int" = some (some (.ref f0)))
    (l0 : K.lookup f0 = some ⟨oc0, od0, .func (PySem.W.fnOf "is_int" "is_int" (defArgs s_is_int) (defBody s_is_int) (defScope s_is_int) .none kV0 dc0 pm0 an0 cd0 ct0), sl0⟩)
    (c0 : PySem.W.codeIn K cd0 "is_int" = true)
    (k0 : PySem.W.keepIn K (.ref f0) = true)
    (a1 : PySem.W.nsIn K mainGlobals "is_int_within" = some (some (.ref f1)))
    (l1 : K.lookup f1 = some ⟨oc1, od1, .func (PySem.W.fnOf "is_int_within" "is_int_within" (defArgs s_is_int_within) (defBody s_is_int_within) (defScope s_is_int_within) .none kV1 dc1 pm1 an1 cd1 ct1), sl1⟩)
    (c1 : PySem.W.codeIn K cd1 "is_int_within" = true)
    (k1 : PySem.W.keepIn K (.ref f1) = true)
    (a2 : PySem.W.nsIn K mainGlobals "is_tuple" = some (some (.ref f2)))
    (l2 : K.lookup f2 = some ⟨oc2, od2, .func (PySem.W.fnOf "is_tuple" "is_tuple" (defArgs s_is_tuple) (defBody s_is_tuple) (defScope s_is_tuple) .none kV2 dc2 pm2 an2 cd2 ct2), sl2⟩)
    (c2 : PySem.W.codeIn K cd2 "is_tuple" = true)
    (k2 : PySem.W.keepIn K (.ref f2) = true)
    (a3 : PySem.W.nsIn K mainGlobals "first_outside" = some (some (.ref f3)))
    (l3 : K.lookup f3 = some ⟨oc3, od3, .func (PySem.W.fnOf "first_outside" "first_outside" (defArgs s_first_outside) (defBody s_first_outside) (defScope s_first_outside) .none kV3 dc3 pm3 an3 cd3 ct3), sl3⟩)
    (c3 : PySem.W.codeIn K cd3 "first_outside" = true)
    (k3 : PySem.W.keepIn K (.ref f3) = true)
    (a4 : PySem.W.nsIn K mainGlobals "need_rule" = some (some (.ref f4)))
    (l4 : K.lookup f4 = some ⟨oc4, od4, .func (PySem.W.fnOf "need_rule" "need_rule" (defArgs s_need_rule) (defBody s_need_rule) (defScope s_need_rule) .none kV4 dc4 pm4 an4 cd4 ct4), sl4⟩)
    (c4 : PySem.W.codeIn K cd4 "need_rule" = true)
    (k4 : PySem.W.keepIn K (.ref f4) = true)
    (a5 : PySem.W.nsIn K mainGlobals "is_rule" = some (some (.ref f5)))
    (l5 : K.lookup f5 = some ⟨oc5, od5, .func (PySem.W.fnOf "is_rule" "is_rule" (defArgs s_is_rule) (defBody s_is_rule) (defScope s_is_rule) .none kV5 dc5 pm5 an5 cd5 ct5), sl5⟩)
    (c5 : PySem.W.codeIn K cd5 "is_rule" = true)
    (k5 : PySem.W.keepIn K (.ref f5) = true)
    (a6 : PySem.W.nsIn K mainGlobals "is_result" = some (some (.ref f6)))
    (l6 : K.lookup f6 = some ⟨oc6, od6, .func (PySem.W.fnOf "is_result" "is_result" (defArgs s_is_result) (defBody s_is_result) (defScope s_is_result) .none kV6 dc6 pm6 an6 cd6 ct6), sl6⟩)
    (c6 : PySem.W.codeIn K cd6 "is_result" = true)
    (k6 : PySem.W.keepIn K (.ref f6) = true)
    (a7 : PySem.W.nsIn K mainGlobals "index_of" = some (some (.ref f7)))
    (l7 : K.lookup f7 = some ⟨oc7, od7, .func (PySem.W.fnOf "index_of" "index_of" (defArgs s_index_of) (defBody s_index_of) (defScope s_index_of) .none kV7 dc7 pm7 an7 cd7 ct7), sl7⟩)
    (c7 : PySem.W.codeIn K cd7 "index_of" = true)
    (k7 : PySem.W.keepIn K (.ref f7) = true)
    (a8 : PySem.W.nsIn K mainGlobals "is_factor" = some (some (.ref f8)))
    (l8 : K.lookup f8 = some ⟨oc8, od8, .func (PySem.W.fnOf "is_factor" "is_factor" (defArgs s_is_factor) (defBody s_is_factor) (defScope s_is_factor) .none kV8 dc8 pm8 an8 cd8 ct8), sl8⟩)
    (c8 : PySem.W.codeIn K cd8 "is_factor" = true)
    (k8 : PySem.W.keepIn K (.ref f8) = true)
    (a9 : PySem.W.nsIn K mainGlobals "is_term" = some (some (.ref f9)))
    (l9 : K.lookup f9 = some ⟨oc9, od9, .func (PySem.W.fnOf "is_term" "is_term" (defArgs s_is_term) (defBody s_is_term) (defScope s_is_term) .none kV9 dc9 pm9 an9 cd9 ct9), sl9⟩)
    (c9 : PySem.W.codeIn K cd9 "is_term" = true)
    (k9 : PySem.W.keepIn K (.ref f9) = true)
    (a10 : PySem.W.nsIn K mainGlobals "need_bill" = some (some (.ref f10)))
    (l10 : K.lookup f10 = some ⟨oc10, od10, .func (PySem.W.fnOf "need_bill" "need_bill" (defArgs s_need_bill) (defBody s_need_bill) (defScope s_need_bill) .none kV10 dc10 pm10 an10 cd10 ct10), sl10⟩)
    (c10 : PySem.W.codeIn K cd10 "need_bill" = true)
    (k10 : PySem.W.keepIn K (.ref f10) = true)
    (a11 : PySem.W.nsIn K mainGlobals "width_of" = some (some (.ref f11)))
    (l11 : K.lookup f11 = some ⟨oc11, od11, .func (PySem.W.fnOf "width_of" "width_of" (defArgs s_width_of) (defBody s_width_of) (defScope s_width_of) .none kV11 dc11 pm11 an11 cd11 ct11), sl11⟩)
    (c11 : PySem.W.codeIn K cd11 "width_of" = true)
    (k11 : PySem.W.keepIn K (.ref f11) = true)
    (a12 : PySem.W.nsIn K mainGlobals "last_pay" = some (some (.ref f12)))
    (l12 : K.lookup f12 = some ⟨oc12, od12, .func (PySem.W.fnOf "last_pay" "last_pay" (defArgs s_last_pay) (defBody s_last_pay) (defScope s_last_pay) .none kV12 dc12 pm12 an12 cd12 ct12), sl12⟩)
    (c12 : PySem.W.codeIn K cd12 "last_pay" = true)
    (k12 : PySem.W.keepIn K (.ref f12) = true)
    (a13 : PySem.W.nsIn K mainGlobals "pays_of" = some (some (.ref f13)))
    (l13 : K.lookup f13 = some ⟨oc13, od13, .func (PySem.W.fnOf "pays_of" "pays_of" (defArgs s_pays_of) (defBody s_pays_of) (defScope s_pays_of) .none kV13 dc13 pm13 an13 cd13 ct13), sl13⟩)
    (c13 : PySem.W.codeIn K cd13 "pays_of" = true)
    (k13 : PySem.W.keepIn K (.ref f13) = true)
    (fa14 : PySem.W.findIn K (.ref cc9) "row" = some (some (.ref pp_File_row)))
    (fg14 : PySem.W.specialIn K (.ref pp_File_row) "__get__" = some (some (.builtin "property.__get__")))
    (ft14 : PySem.W.takesIn K (.ref pp_File_row) = some true)
    (fr14 : PySem.W.recIn K pp_File_row "property" = some (.ref f14 :: re_File_row))
    (l14 : K.lookup f14 = some ⟨oc14, od14, .func (PySem.W.fnOf "row" "File.row" (defArgs s_File_row) (defBody s_File_row) (defScope s_File_row) .none kV14 dc14 pm14 an14 cd14 ct14), sl14⟩)
    (c14 : PySem.W.codeIn K cd14 "File.row" = true)
    (k14 : PySem.W.keepIn K (.ref f14) = true)
    (fa15 : PySem.W.findIn K (.ref cc10) "__init__" = some (some (.ref f15)))
    (fi15 : PySem.W.isFn K (.ref f15) = true)
    (l15 : K.lookup f15 = some ⟨oc15, od15, .func (PySem.W.fnOf "__init__" "Trial.__init__" (defArgs s_Trial___init__) (defBody s_Trial___init__) (defScope s_Trial___init__) .none kV15 dc15 pm15 an15 cd15 ct15), sl15⟩)
    (c15 : PySem.W.codeIn K cd15 "Trial.__init__" = true)
    (k15 : PySem.W.keepIn K (.ref f15) = true)
    (fa16 : PySem.W.findIn K (.ref cc10) "__enter__" = some (some (.ref f16)))
    (fi16 : PySem.W.isFn K (.ref f16) = true)
    (l16 : K.lookup f16 = some ⟨oc16, od16, .func (PySem.W.fnOf "__enter__" "Trial.__enter__" (defArgs s_Trial___enter__) (defBody s_Trial___enter__) (defScope s_Trial___enter__) .none kV16 dc16 pm16 an16 cd16 ct16), sl16⟩)
    (c16 : PySem.W.codeIn K cd16 "Trial.__enter__" = true)
    (k16 : PySem.W.keepIn K (.ref f16) = true)
    (fa17 : PySem.W.findIn K (.ref cc10) "__exit__" = some (some (.ref f17)))
    (fi17 : PySem.W.isFn K (.ref f17) = true)
    (l17 : K.lookup f17 = some ⟨oc17, od17, .func (PySem.W.fnOf "__exit__" "Trial.__exit__" (defArgs s_Trial___exit__) (defBody s_Trial___exit__) (defScope s_Trial___exit__) .none kV17 dc17 pm17 an17 cd17 ct17), sl17⟩)
    (c17 : PySem.W.codeIn K cd17 "Trial.__exit__" = true)
    (k17 : PySem.W.keepIn K (.ref f17) = true)
    (fa18 : PySem.W.findIn K (.ref cc9) "__init__" = some (some (.ref f18)))
    (fi18 : PySem.W.isFn K (.ref f18) = true)
    (l18 : K.lookup f18 = some ⟨oc18, od18, .func (PySem.W.fnOf "__init__" "File.__init__" (defArgs s_File___init__) (defBody s_File___init__) (defScope s_File___init__) .none kV18 dc18 pm18 an18 cd18 ct18), sl18⟩)
    (c18 : PySem.W.codeIn K cd18 "File.__init__" = true)
    (k18 : PySem.W.keepIn K (.ref f18) = true)
    (fa19 : PySem.W.findIn K (.ref cc9) "bill" = some (some (.ref pp_File_bill)))
    (fg19 : PySem.W.specialIn K (.ref pp_File_bill) "__get__" = some (some (.builtin "property.__get__")))
    (ft19 : PySem.W.takesIn K (.ref pp_File_bill) = some true)
    (fr19 : PySem.W.recIn K pp_File_bill "property" = some (.ref f19 :: re_File_bill))
    (l19 : K.lookup f19 = some ⟨oc19, od19, .func (PySem.W.fnOf "bill" "File.bill" (defArgs s_File_bill) (defBody s_File_bill) (defScope s_File_bill) .none kV19 dc19 pm19 an19 cd19 ct19), sl19⟩)
    (c19 : PySem.W.codeIn K cd19 "File.bill" = true)
    (k19 : PySem.W.keepIn K (.ref f19) = true)
    (fa20 : PySem.W.findIn K (.ref cc9) "add" = some (some (.ref f20)))
    (fi20 : PySem.W.isFn K (.ref f20) = true)
    (l20 : K.lookup f20 = some ⟨oc20, od20, .func (PySem.W.fnOf "add" "File.add" (defArgs s_File_add) (defBody s_File_add) (defScope s_File_add) .none kV20 dc20 pm20 an20 cd20 ct20), sl20⟩)
    (c20 : PySem.W.codeIn K cd20 "File.add" = true)
    (k20 : PySem.W.keepIn K (.ref f20) = true)
    (fa21 : PySem.W.findIn K (.ref cc9) "__call__" = some (some (.ref f21)))
    (fi21 : PySem.W.isFn K (.ref f21) = true)
    (fn21 : PySem.W.fnIn K f21 = true)
    (l21 : K.lookup f21 = some ⟨oc21, od21, .func (PySem.W.fnOf "__call__" "File.__call__" (defArgs s_File___call__) (defBody s_File___call__) (defScope s_File___call__) .none kV21 dc21 pm21 an21 cd21 ct21), sl21⟩)
    (c21 : PySem.W.codeIn K cd21 "File.__call__" = true)
    (k21 : PySem.W.keepIn K (.ref f21) = true)
    (fa22 : PySem.W.findIn K (.ref cc9) "__len__" = some (some (.ref f22)))
    (fi22 : PySem.W.isFn K (.ref f22) = true)
    (l22 : K.lookup f22 = some ⟨oc22, od22, .func (PySem.W.fnOf "__len__" "File.__len__" (defArgs s_File___len__) (defBody s_File___len__) (defScope s_File___len__) .none kV22 dc22 pm22 an22 cd22 ct22), sl22⟩)
    (c22 : PySem.W.codeIn K cd22 "File.__len__" = true)
    (k22 : PySem.W.keepIn K (.ref f22) = true)
    (fa23 : PySem.W.findIn K (.ref cc9) "back" = some (some (.ref f23)))
    (fi23 : PySem.W.isFn K (.ref f23) = true)
    (l23 : K.lookup f23 = some ⟨oc23, od23, .func (PySem.W.fnOf "back" "File.back" (defArgs s_File_back) (defBody s_File_back) (defScope s_File_back) .none (.ref kd_File_back) dc23 pm23 an23 cd23 ct23), sl23⟩)
    (c23 : PySem.W.codeIn K cd23 "File.back" = true)
    (k23 : PySem.W.keepIn K (.ref f23) = true)
    (kd23 : PySem.W.nsIn K kd_File_back "many" = some (some (.int 1 kt_File_back)))
    (fa24 : PySem.W.findIn K (.ref cc9) "copy" = some (some (.ref f24)))
    (fi24 : PySem.W.isFn K (.ref f24) = true)
    (l24 : K.lookup f24 = some ⟨oc24, od24, .func (PySem.W.fnOf "copy" "File.copy" (defArgs s_File_copy) (defBody s_File_copy) (defScope s_File_copy) .none kV24 dc24 pm24 an24 cd24 ct24), sl24⟩)
    (c24 : PySem.W.codeIn K cd24 "File.copy" = true)
    (k24 : PySem.W.keepIn K (.ref f24) = true)
    (fa25 : PySem.W.findIn K (.ref cc9) "trial" = some (some (.ref f25)))
    (fi25 : PySem.W.isFn K (.ref f25) = true)
    (l25 : K.lookup f25 = some ⟨oc25, od25, .func (PySem.W.fnOf "trial" "File.trial" (defArgs s_File_trial) (defBody s_File_trial) (defScope s_File_trial) .none kV25 dc25 pm25 an25 cd25 ct25), sl25⟩)
    (c25 : PySem.W.codeIn K cd25 "File.trial" = true)
    (k25 : PySem.W.keepIn K (.ref f25) = true)
    (fa26 : PySem.W.findIn K (.ref cc9) "__eq__" = some (some (.ref f26)))
    (fi26 : PySem.W.isFn K (.ref f26) = true)
    (l26 : K.lookup f26 = some ⟨oc26, od26, .func (PySem.W.fnOf "__eq__" "File.__eq__" (defArgs s_File___eq__) (defBody s_File___eq__) (defScope s_File___eq__) .none kV26 dc26 pm26 an26 cd26 ct26), sl26⟩)
    (c26 : PySem.W.codeIn K cd26 "File.__eq__" = true)
    (k26 : PySem.W.keepIn K (.ref f26) = true)
    (a27 : PySem.W.nsIn K mainGlobals "under" = some (some (.ref f27)))
    (l27 : K.lookup f27 = some ⟨oc27, od27, .func (PySem.W.fnOf "under" "under" (defArgs s_under) (defBody s_under) (defScope s_under) .none kV27 dc27 pm27 an27 cd27 ct27), sl27⟩)
    (c27 : PySem.W.codeIn K cd27 "under" = true)
    (k27 : PySem.W.keepIn K (.ref f27) = true)
    (a28 : PySem.W.nsIn K mainGlobals "_law_begun" = some (some (.ref f28)))
    (l28 : K.lookup f28 = some ⟨oc28, od28, .func (PySem.W.fnOf "_law_begun" "_law_begun" (defArgs s__law_begun) (defBody s__law_begun) (defScope s__law_begun) .none kV28 dc28 pm28 an28 cd28 ct28), sl28⟩)
    (c28 : PySem.W.codeIn K cd28 "_law_begun" = true)
    (k28 : PySem.W.keepIn K (.ref f28) = true)
    (a29 : PySem.W.nsIn K mainGlobals "_law_draw" = some (some (.ref f29)))
    (l29 : K.lookup f29 = some ⟨oc29, od29, .func (PySem.W.fnOf "_law_draw" "_law_draw" (defArgs s__law_draw) (defBody s__law_draw) (defScope s__law_draw) .none kV29 dc29 pm29 an29 cd29 ct29), sl29⟩)
    (c29 : PySem.W.codeIn K cd29 "_law_draw" = true)
    (k29 : PySem.W.keepIn K (.ref f29) = true)
    (a30 : PySem.W.nsIn K mainGlobals "_law_of" = some (some (.ref f30)))
    (l30 : K.lookup f30 = some ⟨oc30, od30, .func (PySem.W.fnOf "_law_of" "_law_of" (defArgs s__law_of) (defBody s__law_of) (defScope s__law_of) .none kV30 dc30 pm30 an30 cd30 ct30), sl30⟩)
    (c30 : PySem.W.codeIn K cd30 "_law_of" = true)
    (k30 : PySem.W.keepIn K (.ref f30) = true)
    (a31 : PySem.W.nsIn K mainGlobals "_law_weights" = some (some (.ref f31)))
    (l31 : K.lookup f31 = some ⟨oc31, od31, .func (PySem.W.fnOf "_law_weights" "_law_weights" (defArgs s__law_weights) (defBody s__law_weights) (defScope s__law_weights) .none kV31 dc31 pm31 an31 cd31 ct31), sl31⟩)
    (c31 : PySem.W.codeIn K cd31 "_law_weights" = true)
    (k31 : PySem.W.keepIn K (.ref f31) = true)
    (a32 : PySem.W.nsIn K mainGlobals "_law_drawn_bill" = some (some (.ref f32)))
    (l32 : K.lookup f32 = some ⟨oc32, od32, .func (PySem.W.fnOf "_law_drawn_bill" "_law_drawn_bill" (defArgs s__law_drawn_bill) (defBody s__law_drawn_bill) (defScope s__law_drawn_bill) .none kV32 dc32 pm32 an32 cd32 ct32), sl32⟩)
    (c32 : PySem.W.codeIn K cd32 "_law_drawn_bill" = true)
    (k32 : PySem.W.keepIn K (.ref f32) = true)
    (a33 : PySem.W.nsIn K mainGlobals "_law_led" = some (some (.ref f33)))
    (l33 : K.lookup f33 = some ⟨oc33, od33, .func (PySem.W.fnOf "_law_led" "_law_led" (defArgs s__law_led) (defBody s__law_led) (defScope s__law_led) .none kV33 dc33 pm33 an33 cd33 ct33), sl33⟩)
    (c33 : PySem.W.codeIn K cd33 "_law_led" = true)
    (k33 : PySem.W.keepIn K (.ref f33) = true)
    (a34 : PySem.W.nsIn K mainGlobals "_law_shown" = some (some (.ref f34)))
    (l34 : K.lookup f34 = some ⟨oc34, od34, .func (PySem.W.fnOf "_law_shown" "_law_shown" (defArgs s__law_shown) (defBody s__law_shown) (defScope s__law_shown) .none kV34 dc34 pm34 an34 cd34 ct34), sl34⟩)
    (c34 : PySem.W.codeIn K cd34 "_law_shown" = true)
    (k34 : PySem.W.keepIn K (.ref f34) = true)
    (a35 : PySem.W.nsIn K mainGlobals "_law_block" = some (some (.ref f35)))
    (l35 : K.lookup f35 = some ⟨oc35, od35, .func (PySem.W.fnOf "_law_block" "_law_block" (defArgs s__law_block) (defBody s__law_block) (defScope s__law_block) .none kV35 dc35 pm35 an35 (.ref cM0) ct35), sl35⟩)
    (c35 : PySem.W.codeIn K (.ref cM0) "_law_block" = true)
    (k35 : PySem.W.keepIn K (.ref f35) = true)
    (a36 : PySem.W.nsIn K mainGlobals "_law_tried" = some (some (.ref f36)))
    (l36 : K.lookup f36 = some ⟨oc36, od36, .func (PySem.W.fnOf "_law_tried" "_law_tried" (defArgs s__law_tried) (defBody s__law_tried) (defScope s__law_tried) .none kV36 dc36 pm36 an36 (.ref cM1) ct36), sl36⟩)
    (c36 : PySem.W.codeIn K (.ref cM1) "_law_tried" = true)
    (k36 : PySem.W.keepIn K (.ref f36) = true)
    (a37 : PySem.W.nsIn K mainGlobals "_law_copy_right" = some (some (.ref f37)))
    (l37 : K.lookup f37 = some ⟨oc37, od37, .func (PySem.W.fnOf "_law_copy_right" "_law_copy_right" (defArgs s__law_copy_right) (defBody s__law_copy_right) (defScope s__law_copy_right) .none kV37 dc37 pm37 an37 cd37 ct37), sl37⟩)
    (c37 : PySem.W.codeIn K cd37 "_law_copy_right" = true)
    (k37 : PySem.W.keepIn K (.ref f37) = true)
    (a38 : PySem.W.nsIn K mainGlobals "_law_likes_right" = some (some (.ref f38)))
    (l38 : K.lookup f38 = some ⟨oc38, od38, .func (PySem.W.fnOf "_law_likes_right" "_law_likes_right" (defArgs s__law_likes_right) (defBody s__law_likes_right) (defScope s__law_likes_right) .none kV38 dc38 pm38 an38 cd38 ct38), sl38⟩)
    (c38 : PySem.W.codeIn K cd38 "_law_likes_right" = true)
    (k38 : PySem.W.keepIn K (.ref f38) = true)
    (a39 : PySem.W.nsIn K mainGlobals "law" = some (some (.ref f39)))
    (l39 : K.lookup f39 = some ⟨oc39, od39, .func (PySem.W.fnOf "law" "law" (defArgs s_law) (defBody s_law) (defScope s_law) .none kV39 dc39 pm39 an39 cd39 ct39), sl39⟩)
    (c39 : PySem.W.codeIn K cd39 "law" = true)
    (k39 : PySem.W.keepIn K (.ref f39) = true)
    (z0 : PySem.W.nsIn K mainGlobals "enumerate" = some none)
    (z1 : PySem.W.nsIn K mainGlobals "int" = some none)
    (z2 : PySem.W.nsIn K mainGlobals "isinstance" = some none)
    (z3 : PySem.W.nsIn K mainGlobals "len" = some none)
    (z4 : PySem.W.nsIn K mainGlobals "list" = some none)
    (z5 : PySem.W.nsIn K mainGlobals "max" = some none)
    (z6 : PySem.W.nsIn K mainGlobals "min" = some none)
    (z7 : PySem.W.nsIn K mainGlobals "range" = some none)
    (z8 : PySem.W.nsIn K mainGlobals "repr" = some none)
    (z9 : PySem.W.nsIn K mainGlobals "sorted" = some none)
    (z10 : PySem.W.nsIn K mainGlobals "sum" = some none)
    (z11 : PySem.W.nsIn K mainGlobals "tuple" = some none)
    (z12 : PySem.W.nsIn K mainGlobals "zip" = some none)
    (v0 : PySem.W.nsIn K mainGlobals "GREATEST_FACTOR" = some (some (.int 50 t0)))
    (v1 : PySem.W.nsIn K mainGlobals "GREATEST_RESULT" = some (some (.int 1000000 t1)))
    (v2 : PySem.W.nsIn K mainGlobals "GREATEST_WEIGHT" = some (some (.int 20 t2)))
    (v3 : PySem.W.nsIn K mainGlobals "MOST_RESULTS" = some (some (.int 200 t3)))
    (v4 : PySem.W.nsIn K mainGlobals "MOST_TERMS" = some (some (.int 2 t4)))
    (v5 : PySem.W.nsIn K mainGlobals "MOST_WEIGHTS" = some (some (.int 6 t5)))
    (xt0 : K.lookup cM0 = some ⟨ocM0, odM0, .fields vsM0, slM0⟩)
    (xp0 : vsM0[11]? = some (.ref TT0))
    (xn0 : K.lookup TT0 = none)
    (xt1 : K.lookup cM1 = some ⟨ocM1, odM1, .fields vsM1, slM1⟩)
    (xp1 : vsM1[11]? = some (.ref TT1))
    (xn1 : K.lookup TT1 = none)
    (xd0_1 : Nat.beq TT0 TT1 = false)
    (ka4 : PySem.W.nsIn K mainGlobals "BadNumber" = some (some (.ref cc4)))
    (kg4 : PySem.W.findIn K (.ref cc4) "__getattribute__" = some (some (.builtin "BaseException.__getattribute__")))
    (kk4 : PySem.W.findIn K (.ref cc4) "__getattr__" = some none)
    (ks4 : PySem.W.subIn K (.ref cc4) (.type "BaseException") = some true)
    (kd4 : PySem.W.hasDictIn K cc4 = true)
    (kc4 : PySem.W.findIn K (.ref cc4) "__class__" = some (some (.builtin "object.__class__")))
    (km4 : PySem.W.mroIn K cc4 (.type "object") = some true)
    (ki4 : PySem.W.isClsIn K cc4 = true)
    (ky4 : PySem.W.typeIn K (.ref cc4) = some (.type "type"))
    (kv4 : PySem.W.subIn K (.ref cc4) (.type "ValueError") = some true)
    (kw4 : PySem.W.subIn K (.ref cc4) (.type "LookupError") = some false)
    (kf4_value : PySem.W.findIn K (.ref cc4) "value" = some none)
    (s4_4 : PySem.W.subIn K (.ref cc4) (.ref cc4) = some true)
    (kn : PySem.W.specialIn K (.builtin "object.__class__") "__get__" = some (some (.builtin "getset_descriptor.__get__")))
    (kt : PySem.W.takesIn K (.builtin "object.__class__") = some true)
    (xl4 : K.lookup cc4 = some (excClassObj nm4 qn4 cc4 N4 bs4 bm4 true sn4 sb4 ab4 col4 dd4 ma4 mb4 mc4 md4 me4 "ValueError.__new__"))
    (xr4 : PySem.HandSPX.refsVE bm4 = true)
    (xs4 : PySem.W.findIn K (.ref cc4) "__setattr__" = some (some (.builtin "object.__setattr__")))
    (xk4 : PySem.W.keepIn K (.ref cc4) = true)
    (xi4 : PySem.W.findIn K (.ref cc4) "__init__" = some (some (.ref fI4)))
    (xy4 : PySem.W.typeIn K (.ref fI4) = some (.type "function"))
    (xf4 : K.lookup fI4 = some ⟨ocI4, odI4, .func (PySem.W.fnOf "__init__" "BadNumber.__init__" (defArgs sI_BadNumber) (defBody sI_BadNumber) (defScope sI_BadNumber) .none kVI4 dcI4 pmI4 anI4 cdI4 ctI4), slI4⟩)
    (xc4 : PySem.W.codeIn K cdI4 "BadNumber.__init__" = true)
    (hd_under : ∀ (cl : Dv) (g : Dv → Sto → R Dv) (w0 : Dv) (s : Sto), finC s.length (d_under cl g (startD 3 [w0, cl]) s) = h_under g [w0] s)
    (hden : ∀ ns : List Int, ns.length ≤ 63 → ∃ s', g_law [.sq (ns.map .int)] [.tab 0 lq__law_block, .tab 1 lq__law_tried] = .ok (.bl true) s')
    : ∃ (Γ : Ct) (fd : FuncData) (den : Fn) (tabs : List Tb), Γ.K = K ∧ (∀ (i : Nat) (t : Tb), tabs[i]? = some t → Γ.tb i = t.T) ∧ (Ts tabs).Nodup ∧ (∀ t ∈ tabs, ∃ y ∈ (["_law_block", "_law_tried"] : List Str), PySem.W.tabIn Γ.K y = some (t.c, t.T) ∧ Γ.K.lookup t.T = none) ∧ tabs.map (·.q) = [lq__law_block, lq__law_tried] ∧ (∀ (s : Shared) (u : Value), BindsTo s fd ⟨[u], []⟩ [("script", u)]) ∧
      (∀ base : Heap, Γ.K.In base → base.Ns mainGlobals mg → (∀ t ∈ tabs, LamX.TabB base mg t.c t.T) → FnG l.prog w mg base Γ 22 fa fd ["script"] den) ∧
      ∀ ns : List Int, ns.length ≤ 63 → ∃ s', den [.sq (ns.map .int)] (tabsOf 0 (([lq__law_block, lq__law_tried] : List Str).map fun q => ⟨0, 0, q⟩)) = .ok (.bl true) s' := by
  have e := hfa.symm.trans (PySem.W.mg_of X G a39)
  cases e
  let Γ : Ct := ⟨K, fun n => ([0, 0, 0, 0, cc4, 0, 0, 0, 0, cc9, cc10, 0] : List Addr).getD n 0, fun n => ([TT0, TT1] : List Addr).getD n 0⟩
  have n : Ns Γ mg := {
    n_enumerate := PySem.W.mg_none_of X G z0
    n_int := PySem.W.mg_none_of X G z1
    n_isinstance := PySem.W.mg_none_of X G z2
    n_len := PySem.W.mg_none_of X G z3
    n_list := PySem.W.mg_none_of X G z4
    n_max := PySem.W.mg_none_of X G z5
    n_min := PySem.W.mg_none_of X G z6
    n_range := PySem.W.mg_none_of X G z7
    n_repr := PySem.W.mg_none_of X G z8
    n_sorted := PySem.W.mg_none_of X G z9
    n_sum := PySem.W.mg_none_of X G z10
    n_tuple := PySem.W.mg_none_of X G z11
    n_zip := PySem.W.mg_none_of X G z12
    c_GREATEST_FACTOR := ⟨_, PySem.W.mg_of X G v0⟩
    c_GREATEST_RESULT := ⟨_, PySem.W.mg_of X G v1⟩
    c_GREATEST_WEIGHT := ⟨_, PySem.W.mg_of X G v2⟩
    c_MOST_RESULTS := ⟨_, PySem.W.mg_of X G v3⟩
    c_MOST_TERMS := ⟨_, PySem.W.mg_of X G v4⟩
    c_MOST_WEIGHTS := ⟨_, PySem.W.mg_of X G v5⟩
    o_Trial := ⟨yp10, yd10, yo10, ys10⟩
    o_File := ⟨yp9, yd9, yo9, ys9⟩
    io_File := ⟨⟨yp9, yd9, yo9, ys9⟩, yc9, kn, kt, yr9, yi9, yt9⟩
    kn_File := PySem.W.mg_of X G ya9
    k_BadNumber := PySem.W.mg_of X G ka4
    x1 := ⟨kg4, kk4, ks4, kd4, kc4, kn, kt, km4⟩
    x1f := kf4_value
    x1m := ex_one ki4 ky4 ks4 s4_4
    a_File__bill := yf9__bill
    a_File__row := yf9__row
    a_Trial__before := yf10__before
    a_Trial__one := yf10__one
    }
  have ne0_1 : TT0 ≠ TT1 := fun z => by rw [z] at xd0_1; exact absurd xd0_1 (by simp)
  let tabs : List Tb := [⟨cM0, TT0, lq__law_block⟩, ⟨cM1, TT1, lq__law_tried⟩]
  refine ⟨Γ, PySem.W.fnOf "law" "law" (defArgs s_law) (defBody s_law) (defScope s_law) .none kV39 dc39 pm39 an39 cd39 ct39, g_law, tabs, rfl, fun i t h => ?_, ?_, fun t h => ?_, rfl, fun s v => .of_eq rfl, fun base _ _ TB => ?_, hden⟩
  · match i, h with
    | 0, h => cases h; rfl
    | 1, h => cases h; rfl
    | n + 2, h => cases h
  · simp [Ts, tabs, ne0_1]
  · simp only [tabs, List.mem_cons, List.mem_nil_iff, or_false] at h
    rcases h with rfl | rfl
    · exact ⟨"_law_block", by simp, tabIn_of a35 l35 rfl xt0 xp0, xn0⟩
    · exact ⟨"_law_tried", by simp, tabIn_of a36 l36 rfl xt1 xp1, xn1⟩
  have TB0 : LamX.TabB base mg cM0 TT0 := TB _ (show ⟨cM0, TT0, lq__law_block⟩ ∈ tabs by simp [tabs])
  have TB1 : LamX.TabB base mg cM1 TT1 := TB _ (show ⟨cM1, TT1, lq__law_tried⟩ ∈ tabs by simp [tabs])
  have X4 : XcR l.prog w Γ.K mg base (Γ.cls 4) "BadNumber" "value" := xcr_of ⟨⟨_, _, _, _, _, _, _, _, _, _, _, _, _, _, _, xl4, xr4⟩, xs4, ks4, ky4, xk4⟩ kf4_value (PySem.W.mg_of X G ka4) xi4 xy4 xf4 xc4 ⟨rfl, rfl, rfl, by decide +kernel, rfl, by decide +kernel, by decide +kernel⟩ (.inl rfl) (.inl rfl) (by decide) (by decide) (fun us hl => match us, hl with | [_, _], _ => rfl)
  have F0 := fun_mk (st := s_is_int) l0 c0 k0
  have C0 : Cal l.prog w mg base Γ 1 "is_int" ["thing"] g_is_int := ⟨_, _, ok_is_int n F0, PySem.W.mg_of X G a0, k0, F0.binds fun _ _ _ _ _ _ us hl => match us, hl with | [_], _ => rfl⟩
  have F1 := fun_mk (st := s_is_int_within) l1 c1 k1
  have C1 : Cal l.prog w mg base Γ 2 "is_int_within" ["thing", "least", "most"] g_is_int_within := ⟨_, _, ok_is_int_within n F1 C0, PySem.W.mg_of X G a1, k1, F1.binds fun _ _ _ _ _ _ us hl => match us, hl with | [_, _, _], _ => rfl⟩
  have F2 := fun_mk (st := s_is_tuple) l2 c2 k2
  have C2 : Cal l.prog w mg base Γ 1 "is_tuple" ["thing", "least", "most"] g_is_tuple := ⟨_, _, ok_is_tuple n F2, PySem.W.mg_of X G a2, k2, F2.binds fun _ _ _ _ _ _ us hl => match us, hl with | [_, _, _], _ => rfl⟩
  have F3 := fun_mk (st := s_first_outside) l3 c3 k3
  have C3 : Cal l.prog w mg base Γ 1 "first_outside" ["things", "least", "most"] g_first_outside := ⟨_, _, ok_first_outside n F3, PySem.W.mg_of X G a3, k3, F3.binds fun _ _ _ _ _ _ us hl => match us, hl with | [_, _, _], _ => rfl⟩
  have F4 := fun_mk (st := s_need_rule) l4 c4 k4
  have C4 : Cal l.prog w mg base Γ 2 "need_rule" ["thing"] g_need_rule := ⟨_, _, ok_need_rule n F4 C2 C3, PySem.W.mg_of X G a4, k4, F4.binds fun _ _ _ _ _ _ us hl => match us, hl with | [_], _ => rfl⟩
  have F5 := fun_mk (st := s_is_rule) l5 c5 k5
  have C5 : Cal l.prog w mg base Γ 3 "is_rule" ["thing"] g_is_rule := ⟨_, _, ok_is_rule n F5 C4, PySem.W.mg_of X G a5, k5, F5.binds fun _ _ _ _ _ _ us hl => match us, hl with | [_], _ => rfl⟩
  have F6 := fun_mk (st := s_is_result) l6 c6 k6
  have C6 : Cal l.prog w mg base Γ 3 "is_result" ["thing"] g_is_result := ⟨_, _, ok_is_result n F6 C1, PySem.W.mg_of X G a6, k6, F6.binds fun _ _ _ _ _ _ us hl => match us, hl with | [_], _ => rfl⟩
  have F7 := fun_mk (st := s_index_of) l7 c7 k7
  have C7 : Cal l.prog w mg base Γ 1 "index_of" ["rule", "results"] g_index_of := ⟨_, _, ok_index_of n F7, PySem.W.mg_of X G a7, k7, F7.binds fun _ _ _ _ _ _ us hl => match us, hl with | [_, _], _ => rfl⟩
  have F8 := fun_mk (st := s_is_factor) l8 c8 k8
  have C8 : Cal l.prog w mg base Γ 3 "is_factor" ["thing"] g_is_factor := ⟨_, _, ok_is_factor n F8 C1, PySem.W.mg_of X G a8, k8, F8.binds fun _ _ _ _ _ _ us hl => match us, hl with | [_], _ => rfl⟩
  have F9 := fun_mk (st := s_is_term) l9 c9 k9
  have C9 : Cal l.prog w mg base Γ 4 "is_term" ["thing"] g_is_term := ⟨_, _, ok_is_term n F9 C2 C5 C8, PySem.W.mg_of X G a9, k9, F9.binds fun _ _ _ _ _ _ us hl => match us, hl with | [_], _ => rfl⟩
  have F10 := fun_mk (st := s_need_bill) l10 c10 k10
  have C10 : Cal l.prog w mg base Γ 5 "need_bill" ["thing"] g_need_bill := ⟨_, _, ok_need_bill n F10 C2 C8 C9, PySem.W.mg_of X G a10, k10, F10.binds fun _ _ _ _ _ _ us hl => match us, hl with | [_], _ => rfl⟩
  have F11 := fun_mk (st := s_width_of) l11 c11 k11
  have C11 : Cal l.prog w mg base Γ 1 "width_of" ["bill"] g_width_of := ⟨_, _, ok_width_of n F11, PySem.W.mg_of X G a11, k11, F11.binds fun _ _ _ _ _ _ us hl => match us, hl with | [_], _ => rfl⟩
  have F12 := fun_mk (st := s_last_pay) l12 c12 k12
  have C12 : Cal l.prog w mg base Γ 2 "last_pay" ["bill", "results"] g_last_pay := ⟨_, _, ok_last_pay n F12 C7, PySem.W.mg_of X G a12, k12, F12.binds fun _ _ _ _ _ _ us hl => match us, hl with | [_, _], _ => rfl⟩
  have F13 := fun_mk (st := s_pays_of) l13 c13 k13
  have C13 : Cal l.prog w mg base Γ 3 "pays_of" ["bill", "results"] g_pays_of := ⟨_, _, ok_pays_of n F13 C11 C12, PySem.W.mg_of X G a13, k13, F13.binds fun _ _ _ _ _ _ us hl => match us, hl with | [_, _], _ => rfl⟩
  have F14 := fun_mk (st := s_File_row) l14 c14 k14
  have C14 : OP l.prog w mg base Γ 1 9 "row" ["self"] g_File_row := ⟨f14, pp_File_row, ⟨_, ok_File_row n F14, F14.binds fun _ _ _ _ _ _ us hl => match us, hl with | [_], _ => rfl⟩, ⟨fa14, fg14, ft14, ⟨_, fr14⟩⟩, n.o_File⟩
  have F15 := fun_mk (st := s_Trial___init__) l15 c15 k15
  have C15 : OI l.prog w mg base Γ 3 10 "Trial" ["self", "one"] g_Trial___init__ := ⟨f15, ⟨_, ok_Trial___init__ n F15 C14, F15.binds fun _ _ _ _ _ _ us hl => match us, hl with | [_, _], _ => rfl⟩, ⟨ym10, fa15, fi15, yk10⟩, PySem.W.mg_of X G ya10⟩
  have F16 := fun_mk (st := s_Trial___enter__) l16 c16 k16
  have C16 : OSp l.prog w mg base Γ 3 10 "__enter__" ["self"] g_Trial___enter__ := ⟨f16, ⟨_, ok_Trial___enter__ n F16 C14, F16.binds fun _ _ _ _ _ _ us hl => match us, hl with | [_], _ => rfl⟩, ⟨fa16, fi16⟩⟩
  have F17 := fun_mk (st := s_Trial___exit__) l17 c17 k17
  have C17 : OX l.prog w mg base Γ 1 10 ["self", "kind", "value", "trace"] gx_Trial___exit__ := ⟨f17, _, ok_Trial___exit__ n F17, F17.binds fun _ _ _ _ _ _ us hl => match us, hl with | [_, _, _, _], _ => rfl, ⟨fa17, fi17⟩⟩
  have F18 := fun_mk (st := s_File___init__) l18 c18 k18
  have C18 : OI l.prog w mg base Γ 6 9 "File" ["self", "bill"] g_File___init__ := ⟨f18, ⟨_, ok_File___init__ n F18 C10, F18.binds fun _ _ _ _ _ _ us hl => match us, hl with | [_, _], _ => rfl⟩, ⟨ym9, fa18, fi18, yk9⟩, PySem.W.mg_of X G ya9⟩
  have F19 := fun_mk (st := s_File_bill) l19 c19 k19
  have C19 : OP l.prog w mg base Γ 1 9 "bill" ["self"] g_File_bill := ⟨f19, pp_File_bill, ⟨_, ok_File_bill n F19, F19.binds fun _ _ _ _ _ _ us hl => match us, hl with | [_], _ => rfl⟩, ⟨fa19, fg19, ft19, ⟨_, fr19⟩⟩, n.o_File⟩
  have F20 := fun_mk (st := s_File_add) l20 c20 k20
  have C20 : OM l.prog w mg base Γ 4 9 "add" ["self", "result"] g_File_add := ⟨f20, ⟨_, ok_File_add n F20 X4 C6 C11 C12, F20.binds fun _ _ _ _ _ _ us hl => match us, hl with | [_, _], _ => rfl⟩, ⟨fa20, fi20, k20⟩, n.o_File⟩
  have F21 := fun_mk (st := s_File___call__) l21 c21 k21
  have C21 : OC l.prog w mg base Γ 4 9 ["self"] g_File___call__ := ⟨f21, ⟨_, ok_File___call__ n F21 C11 C13, F21.binds fun _ _ _ _ _ _ us hl => match us, hl with | [_], _ => rfl⟩, ⟨fa21, fi21, fn21⟩⟩
  have F22 := fun_mk (st := s_File___len__) l22 c22 k22
  have C22 : OSp l.prog w mg base Γ 1 9 "__len__" ["self"] g_File___len__ := ⟨f22, ⟨_, ok_File___len__ n F22, F22.binds fun _ _ _ _ _ _ us hl => match us, hl with | [_], _ => rfl⟩, ⟨fa22, fi22⟩⟩
  have F23 := fun_mk (st := s_File_back) l23 c23 k23
  have C23 : OMK l.prog w mg base Γ 3 9 "back" ["self", "many"] g_File_back ["many"] [.int 1] := ⟨f23, calK_of (ok_File_back n F23 X4 C0) ⟨⟨_, _, _, _, _, _, _, _, _, _, rfl, l23, c23, .inl ⟨rfl, rfl⟩, .inr ⟨kd_File_back, rfl, fun q hq => by
      rcases List.mem_singleton.mp hq with rfl
      exact ⟨_, kd23, ⟨_, rfl⟩⟩⟩⟩, k23⟩ (fun D doc pm an cdv ct u v => ⟨_, _, _, _, _, _, rfl, rfl, rfl⟩) (fun D doc pm an cdv ct u v => rfl), ⟨fa23, fi23, k23⟩, n.o_File⟩
  have F24 := fun_mk (st := s_File_copy) l24 c24 k24
  have C24 : OM l.prog w mg base Γ 8 9 "copy" ["self"] g_File_copy := ⟨f24, ⟨_, ok_File_copy n F24 C18, F24.binds fun _ _ _ _ _ _ us hl => match us, hl with | [_], _ => rfl⟩, ⟨fa24, fi24, k24⟩, n.o_File⟩
  have F25 := fun_mk (st := s_File_trial) l25 c25 k25
  have C25 : OM l.prog w mg base Γ 5 9 "trial" ["self"] g_File_trial := ⟨f25, ⟨_, ok_File_trial n F25 C15, F25.binds fun _ _ _ _ _ _ us hl => match us, hl with | [_], _ => rfl⟩, ⟨fa25, fi25, k25⟩, n.o_File⟩
  have F26 := fun_mk (st := s_File___eq__) l26 c26 k26
  have C26 : OEq l.prog w mg base Γ 1 9 ["self", "other"] g_File___eq__ := ⟨f26, ⟨_, ok_File___eq__ n F26, F26.binds fun _ _ _ _ _ _ us hl => match us, hl with | [_, _], _ => rfl⟩, ⟨⟨fa26, fi26⟩, yn9, n.io_File⟩⟩
  have F27 := fun_mk (st := s_under) l27 c27 k27
  have CU27 : ∀ {kk : Nat}, CalU l.prog w mg base Γ (kk + 5) kk "under" ["manager", "deed"] h_under := fun {kk} => ⟨_, _, ok_under (kk := kk) n F27 C16 C17 hd_under, PySem.W.mg_of X G a27, k27, F27.binds fun _ _ _ _ _ _ us hl => match us, hl with | [_, _], _ => rfl⟩
  have F28 := fun_mk (st := s__law_begun) l28 c28 k28
  have C28 : Cal l.prog w mg base Γ 1 "_law_begun" ["script"] g__law_begun := ⟨_, _, ok__law_begun n F28, PySem.W.mg_of X G a28, k28, F28.binds fun _ _ _ _ _ _ us hl => match us, hl with | [_], _ => rfl⟩
  have F29 := fun_mk (st := s__law_draw) l29 c29 k29
  have C29 : Cal l.prog w mg base Γ 1 "_law_draw" ["m", "many"] g__law_draw := ⟨_, _, ok__law_draw n F29, PySem.W.mg_of X G a29, k29, F29.binds fun _ _ _ _ _ _ us hl => match us, hl with | [_, _], _ => rfl⟩
  have F30 := fun_mk (st := s__law_of) l30 c30 k30
  have C30 : Cal l.prog w mg base Γ 2 "_law_of" ["m", "some"] g__law_of := ⟨_, _, ok__law_of n F30 C29, PySem.W.mg_of X G a30, k30, F30.binds fun _ _ _ _ _ _ us hl => match us, hl with | [_, _], _ => rfl⟩
  have F31 := fun_mk (st := s__law_weights) l31 c31 k31
  have C31 : Cal l.prog w mg base Γ 2 "_law_weights" ["m", "most"] g__law_weights := ⟨_, _, ok__law_weights n F31 C29, PySem.W.mg_of X G a31, k31, F31.binds fun _ _ _ _ _ _ us hl => match us, hl with | [_, _], _ => rfl⟩
  have F32 := fun_mk (st := s__law_drawn_bill) l32 c32 k32
  have C32 : Cal l.prog w mg base Γ 3 "_law_drawn_bill" ["m", "most"] g__law_drawn_bill := ⟨_, _, ok__law_drawn_bill n F32 C30 C29 C31, PySem.W.mg_of X G a32, k32, F32.binds fun _ _ _ _ _ _ us hl => match us, hl with | [_, _], _ => rfl⟩
  have F33 := fun_mk (st := s__law_led) l33 c33 k33
  have C33 : Cal l.prog w mg base Γ 5 "_law_led" ["m", "one", "many"] g__law_led := ⟨_, _, ok__law_led n F33 C22 C29 C23 C20 C30 C19 C14 C21, PySem.W.mg_of X G a33, k33, F33.binds fun _ _ _ _ _ _ us hl => match us, hl with | [_, _, _], _ => rfl⟩
  have F34 := fun_mk (st := s__law_shown) l34 c34 k34
  have C34 : Cal l.prog w mg base Γ 5 "_law_shown" ["one"] g__law_shown := ⟨_, _, ok__law_shown n F34 C19 C14 C21 C22, PySem.W.mg_of X G a34, k34, F34.binds fun _ _ _ _ _ _ us hl => match us, hl with | [_], _ => rfl⟩
  have F35 := fun_mk (st := s__law_block) l35 c35 k35
  have C35 : Cal l.prog w mg base Γ 13 "_law_block" ["m", "one", "held", "way"] g__law_block := ⟨_, _, ok__law_block n F35 rfl TB0 C33 C34 C26 C20 C25 (CU27 (kk := 6)) C14, PySem.W.mg_of X G a35, k35, F35.binds fun _ _ _ _ _ _ us hl => match us, hl with | [_, _, _, _], _ => rfl⟩
  have F36 := fun_mk (st := s__law_tried) l36 c36 k36
  have C36 : Cal l.prog w mg base Γ 21 "_law_tried" ["m", "one", "early", "way"] g__law_tried := ⟨_, _, ok__law_tried n F36 rfl TB1 C34 C25 C35 (CU27 (kk := 14)), PySem.W.mg_of X G a36, k36, F36.binds fun _ _ _ _ _ _ us hl => match us, hl with | [_, _, _, _], _ => rfl⟩
  have F37 := fun_mk (st := s__law_copy_right) l37 c37 k37
  have C37 : Cal l.prog w mg base Γ 9 "_law_copy_right" ["m", "one"] g__law_copy_right := ⟨_, _, ok__law_copy_right n F37 C24 C34 C26 C20 C23, PySem.W.mg_of X G a37, k37, F37.binds fun _ _ _ _ _ _ us hl => match us, hl with | [_, _], _ => rfl⟩
  have F38 := fun_mk (st := s__law_likes_right) l38 c38 k38
  have C38 : Cal l.prog w mg base Γ 8 "_law_likes_right" [] g__law_likes_right := ⟨_, _, ok__law_likes_right n F38 C18 C20 C26, PySem.W.mg_of X G a38, k38, F38.binds fun _ _ _ _ _ _ us hl => match us, hl with | [], _ => rfl⟩
  have F39 := fun_mk (st := s_law) l39 c39 k39
  exact ok_law n F39 C28 C18 C32 C25 C33 C29 C36 C37 C38
end MP.K18
set_option Elab.async false
set_option linter.all false
set_option maxRecDepth 100000
set_option maxHeartbeats 400000
namespace MP.K18
open PySem PySem.Spec PyProof.Rows L2 MP
@[simp] theorem isI_t {s : Sto} {i : Int} {b : Bool} : isD s (.int i) (.bl b) = some (.bl false) := rfl
@[simp] theorem isntI_t {s : Sto} {i : Int} {b : Bool} : isntD s (.int i) (.bl b) = some (.bl true) := rfl
theorem is_int_int (i : Int) (s : Sto) : g_is_int [.int i] s = .ok (.bl true) s := by
  simp [g_is_int, d_is_int]
theorem is_int_within_int (i a b : Int) (s : Sto) : g_is_int_within [.int i, .int a, .int b] s = .ok (.bl (decide (a ≤ i) && decide (i ≤ b))) s := by
  by_cases h : a ≤ i <;> simp [g_is_int_within, d_is_int_within, is_int_int, h]
theorem is_tuple_tup (ws : List Dv) (a b : Int) (s : Sto) : g_is_tuple [.tup ws, .int a, .int b] s = .ok (.bl (decide (a ≤ ws.length) && decide (ws.length ≤ b))) s := by
  by_cases h : a ≤ ws.length <;> simp [g_is_tuple, d_is_tuple, h]
theorem first_in (ns : List Int) (a b : Int) (s : Sto) (h : ∀ i ∈ ns, a ≤ i ∧ i ≤ b) : g_first_outside [tI ns, .int a, .int b] s = .ok .non s := by
  obtain ⟨ρ', s', h1, h2⟩ := for_ix (g := t_first_outside_1) (body := b_first_outside_1) (F := F_first_outside_1) (ρ := [some (tI ns), some (.int a), some (.int b), none, none]) (s := s) (s1 := s) (xs := enumD 0 (ns.map .int))
    (fun _ ρ s' => s' = s ∧ ∃ x y, ρ = [some (tI ns), some (.int a), some (.int b), x, y]) rfl ⟨rfl, _, _, rfl⟩ (fun i x ρ s' hx hJ => by
      obtain ⟨rfl, y, z, rfl⟩ := hJ
      obtain ⟨w, hw, rfl⟩ := enumD_get hx
      rw [List.getElem?_map] at hw
      cases hn : ns[i]? with
      | none => rw [hn] at hw; cases hw
      | some n =>
        rw [hn] at hw
        cases hw
        have hb := h n (List.mem_of_getElem? hn)
        refine ⟨[some (tI ns), some (.int a), some (.int b), some (.int (0 + i : Nat)), some (.int n)], [some (tI ns), some (.int a), some (.int b), some (.int (0 + i : Nat)), some (.int n)], s', rfl, .inl ?_, rfl, _, _, rfl⟩
        simp [b_first_outside_1, hb.1, hb.2])
  obtain ⟨rfl, x, y, rfl⟩ := h2
  simp [g_first_outside, d_first_outside, h1]
structure Rule (rs : List Int) : Prop where
  one : 1 ≤ rs.length
  six : rs.length ≤ 6
  ok : ∀ i ∈ rs, -20 ≤ i ∧ i ≤ 20
structure Row (ns : List Int) : Prop where
  most : ns.length ≤ 200
  ok : ∀ i ∈ ns, 0 ≤ i ∧ i ≤ 1000000
@[simp] theorem isnt_nn {s : Sto} : isntD s .non .non = some (.bl false) := rfl
@[simp] theorem is_nn {s : Sto} : isD s .non .non = some (.bl true) := rfl
theorem need_rule_ok {rs : List Int} (h : Rule rs) (s : Sto) : g_need_rule [tI rs] s = .ok (tI rs) s := by
  have h1 := h.one
  have h6 := h.six
  simp [g_need_rule, d_need_rule, is_tuple_tup, first_in rs _ _ _ h.ok, h6, show (1 : Int) ≤ rs.length by omega, show (rs.length : Int) ≤ 6 by omega]
theorem index_of_ok {rs ns : List Int} (h : Rule rs) (hn : ns.length ≤ 200) (hl : rs.length ≤ ns.length) (s : Sto) : g_index_of [tI rs, tI ns] s = .ok (.int (idx rs ns)) s := by
  have h0 : 0 < rs.length := h.one
  have hc : mComp cF_index_of_1 [3, 4] ct_index_of_1 ci_index_of_1 ce_index_of_1 [some (tI rs), some (tI ns), some (lI (srt (last rs.length ns))), none, none] s = .ok (.lst ((rs.zip (srt (last rs.length ns))).map fun p => .int (p.1 * p.2))) s := by
    refine comp_mapA (e := fun p : Int × Int => .tup [.int p.1, .int p.2]) _ ?_ ?_ fun p hp => ?_
    · show R.ok (α := Src) { ws := zipD _ _ } s = _
      rw [zip_ints]
    · have := List.length_zip (l₁ := rs) (l₂ := srt (last rs.length ns))
      have := h.six
      unfold lim
      omega
    · refine ⟨[some (tI rs), some (tI ns), some (lI (srt (last rs.length ns))), some (.int p.1), some (.int p.2)], rfl, ?_⟩
      have hb := h.ok p.1 (List.of_mem_zip (a := p.1) (b := p.2) hp).1
      simp [ce_index_of_1, mul_ii (cm_l (j := p.2) ⟨show -(2 ^ 64) < p.1 by omega, show p.1 < 2 ^ 64 by omega⟩)]
  have hd : cutD (ns.map .int) (some (-(rs.length : Int))) none = (last rs.length ns).map .int := by
    rw [cut_last (by rw [List.length_map]; exact hl) h0, List.length_map, ← List.map_drop]
    rfl
  have e : ((rs.zip (srt (last rs.length ns))).map fun p => Dv.int (p.1 * p.2)) = ((rs.zip (srt (last rs.length ns))).map fun p => p.1 * p.2).map .int := by rw [List.map_map]; rfl
  rw [e] at hc
  simp [-List.map_map, g_index_of, d_index_of, hd, hc]
  rfl
end MP.K18
set_option Elab.async false
set_option linter.all false
set_option maxRecDepth 100000
set_option maxHeartbeats 400000
namespace MP.K18
open PySem PySem.Spec PyProof.Rows L2 MP
abbrev kCells : Key := .inr (Str.ofString "cells")
abbrev kLeft : Key := .inr (Str.ofString "left")
abbrev kSpot : Key := .inr (Str.ofString "spot")
abbrev Dc (cs : List Int) (l p : Int) : Ob := .dct [(kCells, .lst (cs.map .int)), (kLeft, .int l), (kSpot, .int p)]
/-- the store: what stands ahead, the state of the draws, what came behind -/
def St (pre tl : Sto) (cs : List Int) (l p : Int) : Sto := pre ++ Dc cs l p :: tl
section
variable {pre tl : Sto} {cs : List Int} {l p l' p' : Int}
theorem St_at : (St pre tl cs l p)[pre.length]? = some (Dc cs l p) := by
  unfold St
  rw [List.getElem?_append_right (Nat.le_refl _), Nat.sub_self]
  rfl
theorem St_dct : dctOf (St pre tl cs l p) (.ref pre.length) = some [(kCells, .lst (cs.map .int)), (kLeft, .int l), (kSpot, .int p)] := by
  unfold dctOf
  dsimp only
  rw [St_at]
theorem St_set : (St pre tl cs l p).set pre.length (Dc cs l' p') = St pre tl cs l' p' := by
  unfold St
  rw [List.set_append_right _ _ (Nat.le_refl _), Nat.sub_self]
  rfl
theorem St_len : (St pre tl cs l p).length = pre.length + (1 + tl.length) := by
  unfold St
  rw [List.length_append, List.length_cons]
  omega
theorem ix_dct {s : Sto} {n : Nat} {kws : List (Key × Dv)} {x : Str} (h : dctOf s (.ref n) = some kws) (hn : ∀ ws, s[n]? ≠ some (.lst ws)) : ixA s (.ref n) (.str x) = valD kws (.inr x) := by
  show (match (match ixL s (.ref n) (.str x) with | some w => some w | none => ixT s (.ref n) (.str x)) with | some w => some w | none => ixD s (.ref n) (.str x)) = _
  rw [show ixL s (.ref n) (.str x) = none from rfl, show ixT s (.ref n) (.str x) = none from rfl]
  dsimp only
  unfold ixD
  rw [h]
  rfl
theorem get_left : ixA (St pre tl cs l p) (.ref pre.length) (.str "left") = some (.int l) := (ix_dct St_dct fun ws h => by rw [St_at] at h; cases h).trans rfl
theorem get_spot : ixA (St pre tl cs l p) (.ref pre.length) (.str "spot") = some (.int p) := (ix_dct St_dct fun ws h => by rw [St_at] at h; cases h).trans rfl
theorem get_cells : ixA (St pre tl cs l p) (.ref pre.length) (.str "cells") = some (.lst (cs.map .int)) := (ix_dct St_dct fun ws h => by rw [St_at] at h; cases h).trans rfl
theorem put_ev {f h : FE} {ρ : Env} {s : Sto} {n : Nat} {x : Str} {v : Dv} {kws : List (Key × Dv)} (h0 : f ρ s = .ok (.ref n) s) (h2 : h ρ s = .ok v s) (h3 : s[n]? = some (.dct kws)) (hl : kws.length < lim) : mDPut f (mK (.str x)) h ρ s = .nx ρ (s.set n (.dct (putD kws (.inr x) v))) := by
  unfold mDPut
  rw [h2, then_ok, h0, then_ok, k_ev, then_ok]
  show (match s[n]? with
    | some (.dct kws) => if kws.length < lim then C.nx ρ (s.set n (.dct (putD kws (.inr x) v))) else .no
    | _ => .no) = _
  rw [h3]
  exact if_pos hl
theorem fin_St {w : Dv} : finC (St pre tl cs l p).length (.rt w (St pre tl cs l' p')) = .ok w (St pre tl cs l' p') := finW_le (by rw [St_len, St_len]; exact Nat.le_refl _)
end
theorem put_left {pre tl : Sto} {cs : List Int} {l p l' : Int} {ρ : Env} {f : FE} {i : Nat} (h0 : mVar 0 ρ (St pre tl cs l p) = .ok (.ref pre.length) (St pre tl cs l p)) (h : f ρ (St pre tl cs l p) = .ok (.int l') (St pre tl cs l p)) : mDPut (mVar 0) (mK (.str "left")) f ρ (St pre tl cs l p) = .nx ρ (St pre tl cs l' p) := by
  rw [put_ev h0 h St_at (by show 3 < lim; unfold lim; decide)]
  exact congrArg (C.nx ρ) St_set
theorem put_spot {pre tl : Sto} {cs : List Int} {l p p' : Int} {ρ : Env} {f : FE} {i : Nat} (h0 : mVar 0 ρ (St pre tl cs l p) = .ok (.ref pre.length) (St pre tl cs l p)) (h : f ρ (St pre tl cs l p) = .ok (.int p') (St pre tl cs l p)) : mDPut (mVar 0) (mK (.str "spot")) f ρ (St pre tl cs l p) = .nx ρ (St pre tl cs l p') := by
  rw [put_ev h0 h St_at (by show 3 < lim; unfold lim; decide)]
  exact congrArg (C.nx ρ) St_set
theorem mod_ii {s : Sto} {i j : Int} (h : 0 < j) : modD s (.int i) (.int j) = some (.int (i % j)) := if_pos h
theorem div_ii {s : Sto} {i j : Int} (h : 0 < j) (h2 : j < 1073741824) : divD s (.int i) (.int j) = some (.int (i / j)) := if_pos ⟨h, h2⟩
structure Drawn (many : Int) (pre tl : Sto) (cs : List Int) (p : Int) (rr : R Dv) : Prop where
  ok : ∃ d l' p', rr = .ok (.int d) (St pre tl cs l' p') ∧ 0 ≤ d ∧ d < many ∧ 0 ≤ p' ∧ p' ≤ p + 1
theorem draw_ok {pre tl : Sto} {cs : List Int} {l p many : Int} (hc : cs ≠ []) (hm : 0 < many) (hm2 : many < 1073741824) (hp : 0 ≤ p) (hp2 : p < 1000000) : Drawn many pre tl cs p (g__law_draw [.ref pre.length, .int many] (St pre tl cs l p)) := by
  have e0 : startD 6 [.ref pre.length, .int many] = [some (.ref pre.length), some (.int many), none, none, none, none] := rfl
  have eT : ∀ ρ : Env, mTest (mBin gtD (mBin ixA (mVar 0) (mK (.str "left"))) (mK (.int 0))) (some (.ref pre.length) :: ρ) (St pre tl cs l p) = .ok (decide (0 < l)) (St pre tl cs l p) := fun ρ => by
    rw [test_ev, bin_ev, bin_ev, var_0, bind_ok, k_ev, bind_ok, get_left, of_some, bind_ok, k_ev, bind_ok]
    rfl
  by_cases hl : 0 < l
  · refine ⟨l % many, l / many, p, ?_, Int.emod_nonneg _ (by omega), Int.emod_lt_of_pos _ hm, hp, by omega⟩
    have e1 : mAsg (mBin modD (mBlt intD (mCons (mBin ixA (mVar 0) (mK (.str "left"))) mNil)) (mVar 1)) (gN 2) [some (.ref pre.length), some (.int many), none, none, none, none] (St pre tl cs l p) = .nx [some (.ref pre.length), some (.int many), some (.int (l % many)), none, none, none] (St pre tl cs l p) := by
      rw [asgN_ev, bin_ev, blt_ev, cons_ev, bin_ev, var_0, bind_ok, k_ev, bind_ok, get_left, of_some, bind_ok, nil_ev, bind_ok, bind_ok, int_i, of_some, bind_ok, var_s, var_0, bind_ok, mod_ii hm, of_some, then_ok]
      rfl
    have e2 : mDPut (mVar 0) (mK (.str "left")) (mBin divD (mBin ixA (mVar 0) (mK (.str "left"))) (mVar 1)) [some (.ref pre.length), some (.int many), some (.int (l % many)), none, none, none] (St pre tl cs l p) = .nx [some (.ref pre.length), some (.int many), some (.int (l % many)), none, none, none] (St pre tl cs (l / many) p) := by
      refine put_left (i := 0) rfl ?_
      rw [bin_ev, bin_ev, var_0, bind_ok, k_ev, bind_ok, get_left, of_some, bind_ok, var_s, var_0, bind_ok, div_ii hm hm2, of_some]
    unfold g__law_draw d__law_draw
    rw [den_ev, e0, seq_ev, ifS_ev, eT, then_ok, decide_eq_true hl, if_pos rfl, seq_ev, e1, seqK_nx, seq_ev, e2, seqK_nx, ret_ev, var_s, var_s, var_0, then_ok, seqK_rt]
    exact fin_St
  · have hcl : 0 < cs.length := List.length_pos_iff.mpr hc
    have hx : ((p + 1) % (cs.length : Int)).toNat < cs.length := by
      have h1 := Int.emod_lt_of_pos (p + 1) (show (0 : Int) < cs.length by omega)
      have h2 := Int.emod_nonneg (p + 1) (show (cs.length : Int) ≠ 0 by omega)
      omega
    have hy : ((((p + 1) % (cs.length : Int)).toNat : Nat) : Int) = (p + 1) % (cs.length : Int) := Int.toNat_of_nonneg (Int.emod_nonneg _ (by omega))
    generalize hq : ((p + 1) % (cs.length : Int)).toNat = q at hx hy
    let c := cs[q]
    let m1 := (c % 2147483629 + 6133 * (p + 1) + 23 * (p + 1) * (p + 1)) * 48271
    let m2 := (m1 % 2147483647 + 93241 * (p + 1)) * 69621
    refine ⟨m2 % 2147483587 / 13 % many, l, p + 1, ?_, Int.emod_nonneg _ (by omega), Int.emod_lt_of_pos _ hm, by omega, by omega⟩
    have hcq : (cs.map Dv.int)[q]? = some (.int c) := by rw [List.getElem?_map, List.getElem?_eq_getElem hx]; rfl
    have e1 : mAsg (mBin addD (mBin ixA (mVar 0) (mK (.str "spot"))) (mK (.int 1))) (gN 3) [some (.ref pre.length), some (.int many), none, none, none, none] (St pre tl cs l p) = .nx [some (.ref pre.length), some (.int many), none, some (.int (p + 1)), none, none] (St pre tl cs l p) := by
      rw [asgN_ev, bin_ev, bin_ev, var_0, bind_ok, k_ev, bind_ok, get_spot, of_some, bind_ok, k_ev, bind_ok, add_ii, of_some, then_ok]
      rfl
    have e2 : mDPut (mVar 0) (mK (.str "spot")) (mVar 3) [some (.ref pre.length), some (.int many), none, some (.int (p + 1)), none, none] (St pre tl cs l p) = .nx [some (.ref pre.length), some (.int many), none, some (.int (p + 1)), none, none] (St pre tl cs l (p + 1)) := put_spot (i := 0) rfl rfl
    have e3 : mAsg (mBin ixA (mBin ixA (mVar 0) (mK (.str "cells"))) (mBin modD (mBlt intD (mCons (mVar 3) mNil)) (mBlt lenD (mCons (mBin ixA (mVar 0) (mK (.str "cells"))) mNil)))) (gN 4) [some (.ref pre.length), some (.int many), none, some (.int (p + 1)), none, none] (St pre tl cs l (p + 1)) = .nx [some (.ref pre.length), some (.int many), none, some (.int (p + 1)), some (.int c), none] (St pre tl cs l (p + 1)) := by
      rw [asgN_ev, bin_ev, bin_ev, var_0, bind_ok, k_ev, bind_ok, get_cells, of_some, bind_ok, bin_ev, blt_ev, cons_ev, var_s, var_s, var_s, var_0, bind_ok, nil_ev, bind_ok, bind_ok, int_i, of_some, bind_ok, blt_ev, cons_ev, bin_ev, var_0, bind_ok, k_ev, bind_ok, get_cells, of_some, bind_ok, nil_ev, bind_ok, bind_ok, len_lst, of_some, bind_ok, List.length_map, mod_ii (by omega), of_some, bind_ok, ← hy, ix_lst hcq, of_some, then_ok]
      rfl
    have ee : ∀ (z : Option Dv), mBlt intD (mCons (mVar 3) mNil) [some (.ref pre.length), some (.int many), none, some (.int (p + 1)), some (.int c), z] (St pre tl cs l (p + 1)) = .ok (.int (p + 1)) (St pre tl cs l (p + 1)) := fun z => by
      rw [blt_ev, cons_ev, var_s, var_s, var_s, var_0, bind_ok, nil_ev, bind_ok, bind_ok, int_i, of_some]
    have v3 : ∀ (z : Option Dv), mVar 3 [some (.ref pre.length), some (.int many), none, some (.int (p + 1)), some (.int c), z] (St pre tl cs l (p + 1)) = .ok (.int (p + 1)) (St pre tl cs l (p + 1)) := fun z => rfl
    have v4 : ∀ (z : Option Dv), mVar 4 [some (.ref pre.length), some (.int many), none, some (.int (p + 1)), some (.int c), z] (St pre tl cs l (p + 1)) = .ok (.int c) (St pre tl cs l (p + 1)) := fun z => rfl
    have v5 : ∀ (z : Int), mVar 5 [some (.ref pre.length), some (.int many), none, some (.int (p + 1)), some (.int c), some (.int z)] (St pre tl cs l (p + 1)) = .ok (.int z) (St pre tl cs l (p + 1)) := fun z => rfl
    have v1 : ∀ (z : Option Dv), mVar 1 [some (.ref pre.length), some (.int many), none, some (.int (p + 1)), some (.int c), z] (St pre tl cs l (p + 1)) = .ok (.int many) (St pre tl cs l (p + 1)) := fun z => rfl
    have s5 : ∀ (z : Option Dv) (u : Int), [some (.ref pre.length), some (.int many), none, some (.int (p + 1)), some (.int c), z].set 5 (some (Dv.int u)) = [some (.ref pre.length), some (.int many), none, some (.int (p + 1)), some (.int c), some (.int u)] := fun z u => rfl
    have e4 : mAsg (mBin mulD (mBlt intD (mCons (mBin addD (mBin addD (mBin modD (mBlt intD (mCons (mVar 4) mNil)) (mK (.int 2147483629))) (mBin mulD (mK (.int 6133)) (mVar 3))) (mBin mulD (mBin mulD (mK (.int 23)) (mVar 3)) (mVar 3))) mNil)) (mK (.int 48271))) (gN 5) [some (.ref pre.length), some (.int many), none, some (.int (p + 1)), some (.int c), none] (St pre tl cs l (p + 1)) = .nx [some (.ref pre.length), some (.int many), none, some (.int (p + 1)), some (.int c), some (.int m1)] (St pre tl cs l (p + 1)) := by
      simp only [asgN_ev, bin_ev, blt_ev, cons_ev, nil_ev, v4, v3, k_ev, bind_ok, int_i, of_some, mod_ii (show (0 : Int) < 2147483629 by decide), mul_ii (cm_l (i := 6133) (j := p + 1) (by decide)), mul_ii (cm_l (i := 23) (j := p + 1) (by decide)), mul_ii (cm_r (i := 23 * (p + 1)) (j := p + 1) ⟨by omega, by omega⟩), add_ii, mul_ii (cm_r (j := 48271) (by decide)), then_ok, s5]
      rfl
    have e5 : mAsg (mBin mulD (mBlt intD (mCons (mBin addD (mBin modD (mBlt intD (mCons (mVar 5) mNil)) (mK (.int 2147483647))) (mBin mulD (mK (.int 93241)) (mVar 3))) mNil)) (mK (.int 69621))) (gN 5) [some (.ref pre.length), some (.int many), none, some (.int (p + 1)), some (.int c), some (.int m1)] (St pre tl cs l (p + 1)) = .nx [some (.ref pre.length), some (.int many), none, some (.int (p + 1)), some (.int c), some (.int m2)] (St pre tl cs l (p + 1)) := by
      simp only [asgN_ev, bin_ev, blt_ev, cons_ev, nil_ev, v5, v3, k_ev, bind_ok, int_i, of_some, mod_ii (show (0 : Int) < 2147483647 by decide), mul_ii (cm_l (i := 93241) (j := p + 1) (by decide)), add_ii, mul_ii (cm_r (j := 69621) (by decide)), then_ok, s5]
      rfl
    have e6 : mRet (mBin modD (mBlt intD (mCons (mBin divD (mBin modD (mBlt intD (mCons (mVar 5) mNil)) (mK (.int 2147483587))) (mK (.int 13))) mNil)) (mVar 1)) [some (.ref pre.length), some (.int many), none, some (.int (p + 1)), some (.int c), some (.int m2)] (St pre tl cs l (p + 1)) = .rt (.int (m2 % 2147483587 / 13 % many)) (St pre tl cs l (p + 1)) := by
      simp only [ret_ev, bin_ev, blt_ev, cons_ev, nil_ev, v5, v1, k_ev, bind_ok, int_i, of_some, mod_ii (show (0 : Int) < 2147483587 by decide), div_ii (show (0 : Int) < 13 by decide) (by decide), mod_ii hm, then_ok]
    unfold g__law_draw d__law_draw
    rw [den_ev, e0, seq_ev, ifS_ev, eT, then_ok, decide_eq_false hl, if_neg (by decide), next_ev, seqK_nx, seq_ev, e1, seqK_nx, seq_ev, e2, seqK_nx, seq_ev, e3, seqK_nx, seq_ev, e4, seqK_nx, seq_ev, e5, seqK_nx, e6]
    exact fin_St
end MP.K18
set_option Elab.async false
set_option linter.all false
set_option maxRecDepth 100000
set_option maxHeartbeats 400000
namespace MP.K18
open PySem PySem.Spec PyProof.Rows L2 MP
theorem eq_ii {s : Sto} {a b : Int} : eqD s (.int a) (.int b) = some (.bl (decide (a = b))) := by
  have e : decide (V.int a = V.int b) = decide (a = b) := by
    by_cases h : a = b
    · rw [h, decide_eq_true rfl, decide_eq_true rfl]
    · rw [decide_eq_false h, decide_eq_false fun z => h (V.int.inj z)]
  show (some (decide (V.int a = V.int b))).map Dv.bl = _
  rw [e]
  rfl
theorem fin_rt {n : Nat} {w : Dv} {s : Sto} (h : s.length ≤ n) : finC n (.rt w s) = .ok w s := finW_le h
/-- a row of draws -/
theorem weights_ok {pre tl : Sto} {cs : List Int} {l p : Int} (hc : cs ≠ []) {most : Int} (hm : 1 ≤ most) (hm6 : most ≤ 6) (hp : 0 ≤ p) (hp2 : p < 900000) : ∃ rs l' p', g__law_weights [.ref pre.length, .int most] (St pre tl cs l p) = .ok (tI rs) (St pre tl cs l' p') ∧ Rule rs ∧ 0 ≤ p' ∧ p' ≤ p + 8 ∧ (rs.length : Int) ≤ most := by
  obtain ⟨wd, l1, p1, d1, w0, w2, p10, p11⟩ := (draw_ok (l := l) hc (show (0 : Int) < 2 by decide) (by decide) hp (by omega)).ok
  obtain ⟨k, l2, p2, d2, k0, k6, p20, p21⟩ := (draw_ok (l := l1) hc (show (0 : Int) < most by omega) (by omega) p10 (by omega)).ok
  have e0 : startD 5 [.ref pre.length, .int most] = [some (.ref pre.length), some (.int most), none, none, none] := rfl
  have hF : cF__law_weights_1 [some (.ref pre.length), some (.int most), some (.int wd), none, none] (St pre tl cs l1 p1) = .ok { ws := rng 0 (1 + k).toNat } (St pre tl cs l2 p2) := by
    refine range1_ok ?_ (okR_s (by omega) (by omega))
    rw [cons_ev, bin_ev, k_ev, bind_ok, call_ev, cons_ev, var_0, bind_ok, cons_ev, var_s, var_0, bind_ok, nil_ev, bind_ok, bind_ok, bind_ok, d2, bind_ok, add_ii, of_some, bind_ok, nil_ev, bind_ok]
  obtain ⟨zs, s', c1, c2, rs, l3, p3, rfl, rfl, r1, r2, r3, r4⟩ := comp_ix (vs := [4]) (g := ct__law_weights_1) (elt := ce__law_weights_1) (fun i acc s => ∃ (rs : List Int) (l3 p3 : Int), acc = rs.map .int ∧ s = St pre tl cs l3 p3 ∧ rs.length = i ∧ (∀ r ∈ rs, -20 ≤ r ∧ r ≤ 20) ∧ 0 ≤ p3 ∧ p3 ≤ p + 2 + i)
    hF (by rw [rng_len]; unfold lim; omega) ⟨[], l2, p2, rfl, rfl, rfl, fun _ h => (nomatch h), p20, by omega⟩ fun i x acc s hx hJ => by
      obtain ⟨rs, l3, p3, rfl, rfl, r1, r2, r3, r4⟩ := hJ
      obtain ⟨hi, rfl⟩ := rng_get hx
      have hp3 : p3 < 1000000 := by omega
      obtain ⟨a, l4, p4, d4, a0, a1, p40, p41⟩ := (draw_ok (l := l3) hc (show (0 : Int) < 41 by decide) (by decide) r3 hp3).ok
      obtain ⟨b, l5, p5, d5, b0, b1, p50, p51⟩ := (draw_ok (l := l3) hc (show (0 : Int) < 4 by decide) (by decide) r3 hp3).ok
      have et : mTest (mBin eqD (mVar 2) (mK (.int 1))) [some (.ref pre.length), some (.int most), some (.int wd), none, some (.int (0 + (i : Int)))] (St pre tl cs l3 p3) = .ok (decide (wd = 1)) (St pre tl cs l3 p3) := by
        rw [test_ev, bin_ev, var_s, var_s, var_0, bind_ok, k_ev, bind_ok, eq_ii]
        rfl
      by_cases hw : wd = 1
      · refine ⟨[some (.ref pre.length), some (.int most), some (.int wd), none, some (.int (0 + (i : Int)))], .int (a - 20), St pre tl cs l4 p4, rfl, ?_, rs ++ [a - 20], l4, p4, by rw [List.map_append]; rfl, rfl, by rw [List.length_append, r1]; rfl, fun r hr => ?_, p40, by omega⟩
        · unfold ce__law_weights_1
          rw [if_ev, et, bind_ok, decide_eq_true hw, if_pos rfl, bin_ev, call_ev, cons_ev, var_0, bind_ok, cons_ev, k_ev, bind_ok, nil_ev, bind_ok, bind_ok, bind_ok, d4, bind_ok, k_ev, bind_ok, sub_ev, of_some]
        · rcases List.mem_append.mp hr with h | h
          · exact r2 r h
          · rw [List.mem_singleton.mp h]; omega
      · refine ⟨[some (.ref pre.length), some (.int most), some (.int wd), none, some (.int (0 + (i : Int)))], .int b, St pre tl cs l5 p5, rfl, ?_, rs ++ [b], l5, p5, by rw [List.map_append]; rfl, rfl, by rw [List.length_append, r1]; rfl, fun r hr => ?_, p50, by omega⟩
        · unfold ce__law_weights_1
          rw [if_ev, et, bind_ok, decide_eq_false hw, if_neg (by decide), call_ev, cons_ev, var_0, bind_ok, cons_ev, k_ev, bind_ok, nil_ev, bind_ok, bind_ok, bind_ok, d5]
        · rcases List.mem_append.mp hr with h | h
          · exact r2 r h
          · rw [List.mem_singleton.mp h]; omega
  rw [rng_len] at r1 r4
  refine ⟨rs, l3, p3, ?_, ⟨by omega, by omega, r2⟩, r3, by omega, by omega⟩
  have e1 : mAsg (mCall g__law_draw (mCons (mVar 0) (mCons (mK (.int 2)) mNil))) (gN 2) [some (.ref pre.length), some (.int most), none, none, none] (St pre tl cs l p) = .nx [some (.ref pre.length), some (.int most), some (.int wd), none, none] (St pre tl cs l1 p1) := by
    rw [asgN_ev, call_ev, cons_ev, var_0, bind_ok, cons_ev, k_ev, bind_ok, nil_ev, bind_ok, bind_ok, bind_ok, d1, then_ok]
    rfl
  have c1' : mComp cF__law_weights_1 [4] ct__law_weights_1 ci__law_weights_1 ce__law_weights_1 [some (.ref pre.length), some (.int most), some (.int wd), none, none] (St pre tl cs l1 p1) = .ok (.lst (rs.map .int)) (St pre tl cs l3 p3) := c1
  unfold g__law_weights d__law_weights
  rw [den_ev, e0, seq_ev, e1, seqK_nx, seq_ev, asgN_ev, c1', then_ok, seqK_nx]
  show finC (St pre tl cs l p).length (mRet (mBlt tupleD (mCons (mVar 3) mNil)) [some (.ref pre.length), some (.int most), some (.int wd), some (.lst (rs.map .int)), none] (St pre tl cs l3 p3)) = _
  rw [ret_ev, blt_ev, cons_ev, var_s, var_s, var_s, var_0, bind_ok, nil_ev, bind_ok, bind_ok, tuple_lst, of_some, then_ok]
  exact fin_St
/-- one of some -/
theorem law_of_ok {pre tl : Sto} {cs : List Int} {l p : Int} {ws : List Dv} (hc : cs ≠ []) (hp : 0 ≤ p) (hp2 : p < 1000000) (hw : ws ≠ []) (hw2 : ws.length < 1000) : ∃ w l' p', w ∈ ws ∧ g__law_of [.ref pre.length, .lst ws] (St pre tl cs l p) = .ok w (St pre tl cs l' p') ∧ 0 ≤ p' ∧ p' ≤ p + 1 := by
  have hl : 0 < ws.length := List.length_pos_iff.mpr hw
  obtain ⟨k, l2, p2, d2, k0, k6, p20, p21⟩ := (draw_ok (l := l) hc (show (0 : Int) < ws.length by omega) (by omega) hp hp2).ok
  obtain ⟨j, rfl⟩ := Int.eq_ofNat_of_zero_le k0
  have hj : j < ws.length := by omega
  refine ⟨ws[j], l2, p2, List.getElem_mem hj, ?_, p20, p21⟩
  have e0 : startD 2 [.ref pre.length, .lst ws] = [some (.ref pre.length), some (.lst ws)] := rfl
  unfold g__law_of d__law_of
  rw [den_ev, e0, ret_ev, bin_ev, var_s, var_0, bind_ok, call_ev, cons_ev, var_0, bind_ok, cons_ev, blt_ev, cons_ev, var_s, var_0, bind_ok, nil_ev, bind_ok, bind_ok, len_lst, of_some, bind_ok, nil_ev, bind_ok, bind_ok, bind_ok, d2, bind_ok, ix_lst (List.getElem?_eq_getElem hj), of_some, then_ok]
  exact fin_St
end MP.K18
set_option Elab.async false
set_option linter.all false
set_option maxRecDepth 100000
set_option maxHeartbeats 400000
namespace MP.K18
open PySem PySem.Spec PyProof.Rows L2 MP
structure Term where
  rs : List Int
  a : Int
  b : Int
abbrev tm (t : Term) : Dv := .tup [tI t.rs, .int t.a, .int t.b]
abbrev bi (o : Int) (ts : List Term) : Dv := .tup [.int o, .tup (ts.map tm)]
structure TermOk (t : Term) : Prop where
  rule : Rule t.rs
  a0 : -50 ≤ t.a
  a1 : t.a ≤ 50
  b0 : -50 ≤ t.b
  b1 : t.b ≤ 50
structure Bill (o : Int) (ts : List Term) : Prop where
  o0 : -50 ≤ o
  o1 : o ≤ 50
  two : ts.length ≤ 2
  ok : ∀ t ∈ ts, TermOk t
abbrev lens (ts : List Term) : List Int := ts.map fun t => (t.rs.length : Int)
def wd (ts : List Term) : Nat := (maxO 1 (lens ts)).toNat
theorem lens_ok {ts : List Term} (h : ∀ t ∈ ts, TermOk t) : ∀ n ∈ lens ts, 1 ≤ n ∧ n ≤ 6 := fun n hn => by
  obtain ⟨t, ht, rfl⟩ := List.mem_map.mp hn
  have h1 := (h t ht).rule.one
  have h6 := (h t ht).rule.six
  omega
theorem maxO_rng {ns : List Int} (h : ∀ n ∈ ns, 1 ≤ n ∧ n ≤ 6) : 1 ≤ maxO 1 ns ∧ maxO 1 ns ≤ 6 := by
  cases ns with
  | nil => exact ⟨by decide, by decide⟩
  | cons a ns => exact h _ (foldl_max_mem ns a)
theorem maxO_ge {ns : List Int} {d n : Int} (h : n ∈ ns) : n ≤ maxO d ns := by
  cases ns with
  | nil => cases h
  | cons a ns =>
    obtain ⟨h1, h2⟩ := foldl_max_le ns a
    rcases List.mem_cons.mp h with rfl | h
    · exact h1
    · exact h2 n h
theorem wd_int {ts : List Term} (h : ∀ t ∈ ts, TermOk t) : maxO 1 (lens ts) = (wd ts : Int) := by
  have := (maxO_rng (lens_ok h)).1
  unfold wd
  omega
theorem wd_rng {ts : List Term} (h : ∀ t ∈ ts, TermOk t) : 1 ≤ wd ts ∧ wd ts ≤ 6 := by
  have := maxO_rng (lens_ok h)
  rw [wd_int h] at this
  omega
theorem wd_ge {ts : List Term} (h : ∀ t ∈ ts, TermOk t) {t : Term} (ht : t ∈ ts) : t.rs.length ≤ wd ts := by
  have := maxO_ge (d := 1) (List.mem_map.mpr ⟨t, ht, rfl⟩ : (t.rs.length : Int) ∈ lens ts)
  rw [wd_int h] at this
  omega
variable {s : Sto} {o : Int} {ts : List Term} {ns : List Int}
theorem is_rule_ok {rs : List Int} (h : Rule rs) : g_is_rule [tI rs] s = .ok (.bl true) s := by
  have e0 : startD 1 [tI rs] = [some (tI rs)] := rfl
  have e1 : mTryN (mExpr (mCall g_need_rule (mCons (mVar 0) mNil))) [some (tI rs)] s = .nx [some (tI rs)] s := by
    unfold mTryN
    rw [expr_ev, call_v (cons_v (w := tI rs) rfl nil_ev) (need_rule_ok h s), then_ok]
  unfold g_is_rule d_is_rule
  rw [den_ev, e0, seq_nx e1 (ret_v k_ev), finC_rt]
theorem is_factor_ok {i : Int} (h : -50 ≤ i) (h2 : i ≤ 50) : g_is_factor [.int i] s = .ok (.bl true) s := by
  have e0 : startD 1 [.int i] = [some (.int i)] := rfl
  have := is_int_within_int i (-50) 50 s
  rw [decide_eq_true h, decide_eq_true h2] at this
  unfold g_is_factor d_is_factor
  rw [den_ev, e0]
  simp [this]
theorem is_term_ok {t : Term} (h : TermOk t) : g_is_term [tm t] s = .ok (.bl true) s := by
  have e0 : startD 4 [tm t] = [some (tm t), none, none, none] := rfl
  have e1 := is_tuple_tup [tI t.rs, .int t.a, .int t.b] 3 3 s
  have e2 : g_is_tuple [tm t, .int 3, .int 3] s = .ok (.bl true) s := e1
  have e3 : mAsg (mVar 0) (gT 3 (gsC (gN 1) (gsC (gN 2) (gsC (gN 3) gs0)))) [some (tm t), none, none, none] s = .nx [some (tm t), some (tI t.rs), some (.int t.a), some (.int t.b)] s := rfl
  unfold g_is_term d_is_term
  rw [den_ev, e0, seq_nx ((ifS_f (by rw [not_ev, test_v (call_v (cons_v (w := tm t) rfl (cons_v k_ev (cons_v k_ev nil_ev))) e2), bind_ok]; rfl)).trans next_ev) (seq_nx e3 (ret_v (w := .bl true) ?_))]
  · exact finC_rt
  · rw [andV_ev, call_v (cons_v (w := tI t.rs) rfl nil_ev) (is_rule_ok h.rule), bind_ok, andK_bl, if_pos rfl, andV_ev, call_v (cons_v (w := .int t.a) rfl nil_ev) (is_factor_ok h.a0 h.a1), bind_ok, andK_bl, if_pos rfl, call_v (cons_v (w := .int t.b) rfl nil_ev) (is_factor_ok h.b0 h.b1)]
theorem need_bill_ok (h : Bill o ts) : g_need_bill [bi o ts] s = .ok (bi o ts) s := by
  have h2 := h.two
  have e0 : startD 5 [bi o ts] = [some (bi o ts), none, none, none, none] := rfl
  have e2 : g_is_tuple [bi o ts, .int 2, .int 2] s = .ok (.bl true) s := is_tuple_tup [.int o, .tup (ts.map tm)] 2 2 s
  have e4 : g_is_tuple [.tup (ts.map tm), .int 0, .int 2] s = .ok (.bl true) s := by
    rw [is_tuple_tup, List.length_map, decide_eq_true (by omega), decide_eq_true (by omega)]
    rfl
  have e3 : mAsg (mVar 0) (gT 2 (gsC (gN 1) (gsC (gN 2) gs0))) [some (bi o ts), none, none, none, none] s = .nx [some (bi o ts), some (.int o), some (.tup (ts.map tm)), none, none] s := rfl
  obtain ⟨ρ', s', h1, rfl, x, y, rfl⟩ := for_ix (g := t_need_bill_1) (body := b_need_bill_1) (F := F_need_bill_1) (ρ := [some (bi o ts), some (.int o), some (.tup (ts.map tm)), none, none]) (s := s) (s1 := s) (xs := enumD 0 (ts.map tm))
    (fun _ ρ s' => s' = s ∧ ∃ x y, ρ = [some (bi o ts), some (.int o), some (.tup (ts.map tm)), x, y]) rfl ⟨rfl, _, _, rfl⟩ (fun i x ρ s' hx hJ => by
      obtain ⟨rfl, y, z, rfl⟩ := hJ
      obtain ⟨w, hw, rfl⟩ := enumD_get hx
      rw [List.getElem?_map] at hw
      cases hn : ts[i]? with
      | none => rw [hn] at hw; cases hw
      | some t =>
        rw [hn] at hw
        cases hw
        refine ⟨[some (bi o ts), some (.int o), some (.tup (ts.map tm)), some (.int (0 + i : Nat)), some (tm t)], [some (bi o ts), some (.int o), some (.tup (ts.map tm)), some (.int (0 + i : Nat)), some (tm t)], s', rfl, .inl ?_, rfl, _, _, rfl⟩
        unfold b_need_bill_1
        exact (ifS_f (by rw [not_ev, test_v (call_v (cons_v (w := tm t) rfl nil_ev) (is_term_ok (h.ok t (List.mem_of_getElem? hn)))), bind_ok]; rfl)).trans next_ev)
  unfold g_need_bill d_need_bill
  rw [den_ev, e0, seq_nx ((ifS_f (by rw [not_ev, test_v (call_v (cons_v (w := bi o ts) rfl (cons_v k_ev (cons_v k_ev nil_ev))) e2), bind_ok]; rfl)).trans next_ev) (seq_nx e3
    (seq_nx ((ifS_f (by rw [not_ev, test_v (call_v (cons_v (w := .int o) rfl nil_ev) (is_factor_ok h.o0 h.o1)), bind_ok]; rfl)).trans next_ev)
    (seq_nx ((ifS_f (by rw [not_ev, test_v (call_v (cons_v (w := .tup (ts.map tm)) rfl (cons_v k_ev (cons_v k_ev nil_ev))) e4), bind_ok]; rfl)).trans next_ev)
    (seq_nx h1 (ret_v (w := bi o ts) rfl)))))]
  exact finC_rt
theorem ix_tup0 {a : Dv} {ws : List Dv} : ixA s (.tup (a :: ws)) (.int 0) = some a := ix_tup (k := 0) rfl
theorem ix_tup1 {a b : Dv} {ws : List Dv} : ixA s (.tup (a :: b :: ws)) (.int 1) = some b := ix_tup (k := 1) rfl
theorem width_of_ok (h : ∀ t ∈ ts, TermOk t) (h2 : ts.length ≤ 2) : g_width_of [bi o ts] s = .ok (.int (wd ts)) s := by
  have e0 : startD 2 [bi o ts] = [some (bi o ts), none] := rfl
  have hc : mComp cF_width_of_1 [1] ct_width_of_1 ci_width_of_1 ce_width_of_1 [some (bi o ts), none] s = .ok (lI (lens ts)) s := by
    have : mComp cF_width_of_1 [1] ct_width_of_1 ci_width_of_1 ce_width_of_1 [some (bi o ts), none] s = .ok (.lst (ts.map fun t => .int (t.rs.length : Int))) s := by
      refine comp_mapA (e := tm) _ ?_ (by unfold lim; omega) fun t _ => ⟨[some (bi o ts), some (tm t)], rfl, ?_⟩
      · unfold cF_width_of_1 iSeq
        rw [bin_v (x := bi o ts) rfl k_ev ix_tup1, bind_ok]
        rfl
      · unfold ce_width_of_1
        exact blt_v (cons_v (bin_v (x := tm t) rfl k_ev ix_tup0) nil_ev) (by rw [len_tup, List.length_map])
    rw [this]
    unfold lI lens
    rw [List.map_map]
    rfl
  have hm : maxDefD s (lI (lens ts)) (.int 1) = some (.int (wd ts)) := by
    show (match lstOf s (lI (lens ts)) with
      | some ws => (intsOf ws).map fun ns => Dv.int (maxO 1 ns)
      | none => none) = _
    show (intsOf ((lens ts).map .int)).map (fun ns => Dv.int (maxO 1 ns)) = _
    rw [intsOf_map, Option.map_some, wd_int h]
  unfold g_width_of d_width_of
  rw [den_ev, e0, ret_v (bin_v hc k_ev hm), finC_rt]
def seg (rs ns : List Int) (e : Nat) : List Int := (ns.drop (e - rs.length)).take rs.length
/-- the index of the results that end at e -/
def ixe (rs ns : List Int) (e : Nat) : Int := dot rs (srt (seg rs ns e))
def ps (o : Int) (ts : List Term) (ns : List Int) (e : Nat) : Int := o * ns.getD e 0 + (ts.map fun t => t.a * ixe t.rs ns e + t.b * ixe t.rs ns (e + 1)).sum
theorem ixe_of {rs : List Int} {i k : Nat} (hk : rs.length ≤ k) (hn : i + k ≤ ns.length) : idx rs ((ns.drop i).take k) = ixe rs ns (i + k) := by
  unfold idx ixe seg last
  rw [List.length_take, List.length_drop, Nat.min_eq_left (by omega), List.drop_take, List.drop_drop]
  rw [show i + (k - rs.length) = i + k - rs.length by omega, show k - (k - rs.length) = rs.length by omega]
theorem last_pay_ok {xs : List Int} {v : Int} (h : Bill o ts) (hr : ∀ t ∈ ts, t.rs.length ≤ xs.length) (hx : xs.length < 200) : g_last_pay [bi o ts, tI (xs ++ [v])] s = .ok (.int (o * v + (ts.map fun t => t.a * idx t.rs xs + t.b * idx t.rs (xs ++ [v])).sum)) s := by
  have h2 := h.two
  have e0 : startD 9 [bi o ts, tI (xs ++ [v])] = [some (bi o ts), some (tI (xs ++ [v])), none, none, none, none, none, none, none] := rfl
  have e1 : mAsg (mVar 0) (gT 2 (gsC (gN 2) (gsC (gN 3) gs0))) [some (bi o ts), some (tI (xs ++ [v])), none, none, none, none, none, none, none] s = .nx [some (bi o ts), some (tI (xs ++ [v])), some (.int o), some (.tup (ts.map tm)), none, none, none, none, none] s := rfl
  have hcut : cutD ((xs ++ [v]).map Dv.int) none (some (-1)) = xs.map .int := by
    unfold cutD
    rw [HT.sIx_none]
    have e : HT.sIx ((xs ++ [v]).map Dv.int).length ((xs ++ [v]).map Dv.int).length (some (-1)) = xs.length := by
      show (if (-1 : Int) < 0 then (-1 + (((xs ++ [v]).map Dv.int).length : Int)).toNat else min (-1 : Int).toNat ((xs ++ [v]).map Dv.int).length) = _
      rw [if_pos (by decide), List.length_map, List.length_append]
      show (-1 + ((xs.length + 1 : Nat) : Int)).toNat = _
      omega
    rw [e, List.map_append, List.drop_zero, Nat.sub_zero, List.take_left' (by rw [List.length_map])]
  have e2 : mAsg (mSl slA (mVar 1) mNoPart (mPart (mUn negD (mK (.int 1))))) (gN 4) [some (bi o ts), some (tI (xs ++ [v])), some (.int o), some (.tup (ts.map tm)), none, none, none, none, none] s = .nx [some (bi o ts), some (tI (xs ++ [v])), some (.int o), some (.tup (ts.map tm)), some (tI xs), none, none, none, none] s := by
    refine (asg_v (w := tI xs) ?_).trans rfl
    rw [sl_ev, show mVar 1 [some (bi o ts), some (tI (xs ++ [v])), some (.int o), some (.tup (ts.map tm)), none, none, none, none, none] s = .ok (tI (xs ++ [v])) s from rfl, bind_ok, nopart_ev, bind_ok, part_ev, un_ev, k_ev, bind_ok, neg_ev, of_some, bind_ok]
    dsimp only
    rw [bind_ok, sl_tup, hcut, of_some]
  have hc : mComp cF_last_pay_1 [6, 7, 8] ct_last_pay_1 ci_last_pay_1 ce_last_pay_1 [some (bi o ts), some (tI (xs ++ [v])), some (.int o), some (.tup (ts.map tm)), some (tI xs), none, none, none, none] s = .ok (lI (ts.map fun t => t.a * idx t.rs xs + t.b * idx t.rs (xs ++ [v]))) s := by
    have : mComp cF_last_pay_1 [6, 7, 8] ct_last_pay_1 ci_last_pay_1 ce_last_pay_1 [some (bi o ts), some (tI (xs ++ [v])), some (.int o), some (.tup (ts.map tm)), some (tI xs), none, none, none, none] s = .ok (.lst (ts.map fun t => .int (t.a * idx t.rs xs + t.b * idx t.rs (xs ++ [v])))) s := by
      refine comp_mapA (e := tm) _ rfl (by unfold lim; omega) fun t ht => ⟨[some (bi o ts), some (tI (xs ++ [v])), some (.int o), some (.tup (ts.map tm)), some (tI xs), none, some (tI t.rs), some (.int t.a), some (.int t.b)], rfl, ?_⟩
      have hk := h.ok t ht
      have hl := hr t ht
      have a0 := hk.a0
      have a1 := hk.a1
      have b0 := hk.b0
      have b1 := hk.b1
      unfold ce_last_pay_1
      refine bin_v (bin_v (x := .int t.a) rfl (call_v (cons_v (w := tI t.rs) rfl (cons_v (w := tI xs) rfl nil_ev)) (index_of_ok hk.rule (by omega) hl s)) (mul_ii (cm_l ⟨by omega, by omega⟩)))
        (bin_v (x := .int t.b) rfl (call_v (cons_v (w := tI t.rs) rfl (cons_v (w := tI (xs ++ [v])) rfl nil_ev)) (index_of_ok hk.rule (by rw [List.length_append]; show xs.length + 1 ≤ 200; omega) (by rw [List.length_append]; omega) s)) (mul_ii (cm_l ⟨by omega, by omega⟩))) add_ii
    rw [this]
    unfold lI
    rw [List.map_map]
    rfl
  have hl : mBin ixA (mVar 1) (mUn negD (mK (.int 1))) [some (bi o ts), some (tI (xs ++ [v])), some (.int o), some (.tup (ts.map tm)), some (tI xs), some (lI (ts.map fun t => t.a * idx t.rs xs + t.b * idx t.rs (xs ++ [v]))), none, none, none] s = .ok (.int v) s := by
    refine bin_v (x := tI (xs ++ [v])) (y := .int (-1)) rfl (by rw [un_ev, k_ev, bind_ok, neg_ev, of_some]) ?_
    have e : ixT s (tI (xs ++ [v])) (.int (-1)) = some (.int v) := by
      show atI ((xs ++ [v]).map Dv.int) (-1) = _
      rw [List.map_append]
      exact atI_last _ _
    show (match (match ixL s (tI (xs ++ [v])) (.int (-1)) with | some w => some w | none => ixT s (tI (xs ++ [v])) (.int (-1))) with | some w => some w | none => ixD s (tI (xs ++ [v])) (.int (-1))) = _
    rw [show ixL s (tI (xs ++ [v])) (.int (-1)) = none from rfl, e]
  have o0 := h.o0
  have o1 := h.o1
  unfold g_last_pay d_last_pay
  rw [den_ev, e0, seq_nx e1 (seq_nx e2 (seq_nx ((asg_v hc).trans rfl) (ret_v (bin_v (bin_v (x := .int o) rfl hl (mul_ii (cm_l ⟨by omega, by omega⟩))) (blt_v (cons_v (w := lI (ts.map fun t => t.a * idx t.rs xs + t.b * idx t.rs (xs ++ [v]))) rfl nil_ev) sum_LI) add_ii))))]
  exact finC_rt
/-- what all pay but the first ones -/
abbrev pys (o : Int) (ts : List Term) (ns : List Int) : List Int := (List.range (ns.length - wd ts)).map fun i => ps o ts ns (wd ts + i)
theorem pays_of_ok (h : Bill o ts) (hn : Row ns) (hw : wd ts ≤ ns.length) : g_pays_of [bi o ts, tI ns] s = .ok (tI (pys o ts ns)) s := by
  have hn2 := hn.most
  obtain ⟨w1, w6⟩ := wd_rng h.ok
  have e0 : startD 4 [bi o ts, tI ns] = [some (bi o ts), some (tI ns), none, none] := rfl
  have e1 : mAsg (mCall g_width_of (mCons (mVar 0) mNil)) (gN 2) [some (bi o ts), some (tI ns), none, none] s = .nx [some (bi o ts), some (tI ns), some (.int (wd ts)), none] s :=
    (asg_v (call_v (cons_v (w := bi o ts) rfl nil_ev) (width_of_ok h.ok h.two))).trans rfl
  have hc : mComp cF_pays_of_1 [3] ct_pays_of_1 ci_pays_of_1 ce_pays_of_1 [some (bi o ts), some (tI ns), some (.int (wd ts)), none] s = .ok (lI (pys o ts ns)) s := by
    have : mComp cF_pays_of_1 [3] ct_pays_of_1 ci_pays_of_1 ce_pays_of_1 [some (bi o ts), some (tI ns), some (.int (wd ts)), none] s = .ok (.lst ((List.range (ns.length - wd ts)).map fun i => .int (ps o ts ns (wd ts + i)))) s := by
      refine comp_mapA (e := fun i : Nat => .int ((wd ts : Int) + (i : Int))) _ ?_ ?_ fun i hi => ⟨[some (bi o ts), some (tI ns), some (.int (wd ts)), some (.int ((wd ts : Int) + (i : Int)))], rfl, ?_⟩
      · have e1 : ((ns.length : Int) - (wd ts : Int)).toNat = ns.length - wd ts := by omega
        have := range2_ok (fa := mCons (mVar 2) (mCons (mBlt lenD (mCons (mVar 1) mNil)) mNil)) (ρ := [some (bi o ts), some (tI ns), some (.int (wd ts)), none]) (s := s) (s1 := s) (i := wd ts) (j := ns.length)
          (cons_v (w := .int (wd ts)) rfl (cons_v (blt_v (cons_v (w := tI ns) rfl nil_ev) (by rw [len_tup, List.length_map])) nil_ev)) (okR_s (by omega) (by omega)) (okR_s (by omega) (by omega))
        rw [e1, rng_ev] at this
        exact this
      · rw [List.length_range]
        unfold lim
        omega
      · have hi' := List.mem_range.mp hi
        have hv : ns[wd ts + i]? = some (ns.getD (wd ts + i) 0) := by
          rw [List.getD_eq_getElem?_getD, List.getElem?_eq_getElem (by omega)]
          rfl
        have ht : (ns.drop i).take (wd ts + 1) = (ns.drop i).take (wd ts) ++ [ns.getD (wd ts + i) 0] := by
          rw [List.take_succ, List.getElem?_drop, Nat.add_comm i, hv]
          rfl
        have e2 : cutD (ns.map .int) (some ((wd ts : Int) + (i : Int) - (wd ts : Int))) (some ((wd ts : Int) + (i : Int) + 1)) = ((ns.drop i).take (wd ts) ++ [ns.getD (wd ts + i) 0]).map .int := by
          rw [show ((wd ts : Int) + (i : Int) - (wd ts : Int)) = (i : Int) by omega, show ((wd ts : Int) + (i : Int) + 1) = ((wd ts + i + 1 : Nat) : Int) by omega, cut_mid (by rw [List.length_map]; omega) (by rw [List.length_map]; omega), ← List.map_drop, ← List.map_take, show wd ts + i + 1 - i = wd ts + 1 by omega, ht]
        have hl : ((ns.drop i).take (wd ts)).length = wd ts := by rw [List.length_take, List.length_drop]; omega
        have := last_pay_ok (s := s) (xs := (ns.drop i).take (wd ts)) (v := ns.getD (wd ts + i) 0) h (fun t ht => by rw [hl]; exact wd_ge h.ok ht) (by rw [hl]; omega)
        unfold ce_pays_of_1
        refine call_v (cons_v (w := bi o ts) rfl (cons_v (w := tI ((ns.drop i).take (wd ts) ++ [ns.getD (wd ts + i) 0])) ?_ nil_ev)) (this.trans ?_)
        · rw [sl_ev, show mVar 1 [some (bi o ts), some (tI ns), some (.int (wd ts)), some (.int ((wd ts : Int) + (i : Int)))] s = .ok (tI ns) s from rfl, bind_ok, part_ev, bin_v (x := .int ((wd ts : Int) + (i : Int))) (y := .int (wd ts)) rfl rfl sub_ev, bind_ok]
          dsimp only
          rw [bind_ok, part_ev, bin_v (x := .int ((wd ts : Int) + (i : Int))) rfl k_ev add_ii, bind_ok]
          dsimp only
          rw [bind_ok, sl_tup, e2, of_some]
        · unfold ps
          congr 3
          congr 1
          refine List.map_congr_left fun t hm => ?_
          have hk := wd_ge h.ok hm
          rw [← ht, ixe_of hk (by omega), ixe_of (by omega) (by omega), show i + wd ts = wd ts + i by omega, show i + (wd ts + 1) = wd ts + i + 1 by omega]
    rw [this]
    unfold lI pys
    rw [List.map_map]
    rfl
  unfold g_pays_of d_pays_of
  rw [den_ev, e0, seq_nx e1 (ret_v (blt_v (cons_v hc nil_ev) tuple_lst))]
  exact finC_rt
end MP.K18
set_option Elab.async false
set_option linter.all false
set_option maxRecDepth 100000
set_option maxHeartbeats 400000
namespace MP.K18
open PySem PySem.Spec PyProof.Rows L2 MP
theorem cleans_int (n : Nat) : ∀ l : List Int, cleans n (l.map .int) = true
  | [] => rfl
  | _ :: l => by
    show (true && cleans n (l.map .int)) = true
    rw [cleans_int n l]
    rfl
theorem clean_tm (n : Nat) (t : Term) : clean n (tm t) = true := by
  show (cleans n (t.rs.map .int) && (true && (true && true))) = true
  rw [cleans_int]
  rfl
theorem cleans_tm (n : Nat) : ∀ l : List Term, cleans n (l.map tm) = true
  | [] => rfl
  | t :: l => by
    show (clean n (tm t) && cleans n (l.map tm)) = true
    rw [clean_tm, cleans_tm n l]
    rfl
theorem clean_bi (n : Nat) (o : Int) (ts : List Term) : clean n (bi o ts) = true := by
  show (true && (cleans n (ts.map tm) && true)) = true
  rw [cleans_tm]
  rfl
/-- the place behind all -/
def r1 (pre os : Sto) : Nat := pre.length + 1 + os.length
def ClP (pre os : Sto) : Prop := ∀ n, r1 pre os ≤ n → pre.all (Ob.clean n) = true ∧ os.all (Ob.clean n) = true
theorem St_clean {n : Nat} {pre os : Sto} {cs : List Int} {l p : Int} (ho : ClP pre os) (hn : r1 pre os ≤ n) : (St pre os cs l p).all (Ob.clean n) = true := by
  unfold St
  rw [List.all_append, (ho n hn).1]
  show (true && ((cleans n (cs.map .int) && (true && (true && true))) && os.all (Ob.clean n))) = true
  rw [cleans_int, (ho n hn).2]
  rfl
theorem St_app {pre os us : Sto} {cs : List Int} {l p : Int} : St pre (os ++ us) cs l p = St pre os cs l p ++ us := by
  unfold St
  rw [List.append_assoc]
  rfl
theorem r1_len {pre os : Sto} {cs : List Int} {l p : Int} : (St pre os cs l p).length = r1 pre os := by rw [St_len]; unfold r1; omega
theorem at_end {pre os : Sto} {cs : List Int} {l p : Int} {x : Ob} : (St pre (os ++ [x]) cs l p)[r1 pre os]? = some x := by
  rw [St_app, ← r1_len (cs := cs) (l := l) (p := p), List.getElem?_append_right (Nat.le_refl _), Nat.sub_self]
  rfl
theorem set_end {pre os : Sto} {cs : List Int} {l p : Int} {x y : Ob} : (St pre (os ++ [x]) cs l p).set (r1 pre os) y = St pre (os ++ [y]) cs l p := by
  rw [St_app, St_app, ← r1_len (cs := cs) (l := l) (p := p), List.set_append_right _ _ (Nat.le_refl _), Nat.sub_self]
  rfl
theorem take_end {pre os : Sto} {cs : List Int} {l p : Int} {x : Ob} : (St pre (os ++ [x]) cs l p).take (r1 pre os) = St pre os cs l p := by
  rw [St_app, ← r1_len (cs := cs) (l := l) (p := p), List.take_left' rfl]
theorem len_end {pre os : Sto} {cs : List Int} {l p : Int} {x : Ob} : (St pre (os ++ [x]) cs l p).length = r1 pre os + 1 := by
  rw [St_app, List.length_append, r1_len]
  rfl
theorem lstM_s {fa : FA} {ρ : Env} {pre os : Sto} {cs : List Int} {l p l' p' : Int} {ws : List Dv} (h : fa ρ (St pre os cs l p) = .ok ws (St pre os cs l' p')) (hl : ws.length ≤ 1000000) : mLstM fa ρ (St pre os cs l p) = .ok (.ref (r1 pre os)) (St pre (os ++ [.lst ws]) cs l' p') := by
  rw [lstM_ev, h, bind_ok, if_pos (by unfold lim; omega), r1_len, St_app]
/-- what is the callee's own goes out as it stands -/
theorem fin_own {pre os : Sto} (ho : ClP pre os) {cs : List Int} {l p l' p' : Int} {ob : Ob} {w w' : Dv} (h : fz 4 (St pre (os ++ [ob]) cs l' p') (r1 pre os) w = some w') : finC (St pre os cs l p).length (.rt w (St pre (os ++ [ob]) cs l' p')) = .ok w' (St pre os cs l' p') := by
  rw [r1_len]
  show finW (r1 pre os) w (St pre (os ++ [ob]) cs l' p') = _
  unfold finW
  rw [if_neg (by rw [len_end]; omega), take_end, if_pos (St_clean ho (Nat.le_refl _)), h]
theorem fin_bi {pre os : Sto} (ho : ClP pre os) {cs : List Int} {l p l' p' o : Int} {ts : List Term} {ob : Ob} : finC (St pre os cs l p).length (.rt (bi o ts) (St pre (os ++ [ob]) cs l' p')) = .ok (bi o ts) (St pre os cs l' p') := by
  refine fin_own ho ?_
  unfold fz
  exact if_pos (clean_bi _ _ _)
theorem app_v {f g : FE} {ρ : Env} {s s1 s2 : Sto} {n : Nat} {ws us : List Dv} {y : Dv} (h : f ρ s = .ok (.ref n) s1) (h1 : s1[n]? = some (.lst us)) (h2 : g ρ s1 = .ok y s2) (h3 : s2[n]? = some (.lst ws)) (hl : ws.length < lim) : mApp f g ρ s = .ok .non (s2.set n (.lst (ws ++ [y]))) := by
  unfold mApp
  rw [h, bind_ok]
  simp only [h1, h2, bind_ok, h3, if_pos hl]
theorem drawn_bill_ok {pre os : Sto} (ho : ClP pre os) {cs : List Int} {l p most : Int} (hc : cs ≠ []) (hp : 0 ≤ p) (hp2 : p < 800000) (hm : 1 ≤ most) (hm6 : most ≤ 6) :
    ∃ o ts l' p', g__law_drawn_bill [.ref pre.length, .int most] (St pre os cs l p) = .ok (bi o ts) (St pre os cs l' p') ∧ Bill o ts ∧ 0 ≤ p' ∧ p' ≤ p + 30 ∧ ∀ t ∈ ts, (t.rs.length : Int) ≤ most := by
  obtain ⟨d, l1, p1, d1, d0, d101, p10, p11⟩ := (draw_ok (pre := pre) (tl := os) (l := l) hc (show (0 : Int) < 101 by decide) (by decide) hp (by omega)).ok
  obtain ⟨w, l2, p2, hw, d2, p20, p21⟩ := law_of_ok (pre := pre) (tl := os) (l := l1) (ws := [.int 0, .int 1, .int 2, .int (-1), .int (d - 50)]) hc p10 (by omega) (by intro z; cases z) (by show 5 < 1000; decide)
  obtain ⟨o, rfl, o0, o1⟩ : ∃ o : Int, w = .int o ∧ -50 ≤ o ∧ o ≤ 50 := by
    rcases List.mem_cons.mp hw with rfl | hw
    · exact ⟨0, rfl, by omega, by omega⟩
    rcases List.mem_cons.mp hw with rfl | hw
    · exact ⟨1, rfl, by omega, by omega⟩
    rcases List.mem_cons.mp hw with rfl | hw
    · exact ⟨2, rfl, by omega, by omega⟩
    rcases List.mem_cons.mp hw with rfl | hw
    · exact ⟨-1, rfl, by omega, by omega⟩
    rcases List.mem_cons.mp hw with rfl | hw
    · exact ⟨d - 50, rfl, by omega, by omega⟩
    · cases hw
  obtain ⟨k, l3, p3, d3, k0, k3, p30, p31⟩ := (draw_ok (pre := pre) (tl := os ++ [.lst []]) (l := l2) hc (show (0 : Int) < 3 by decide) (by decide) p20 (by omega)).ok
  have e0 : startD 5 [.ref pre.length, .int most] = [some (.ref pre.length), some (.int most), none, none, none] := rfl
  have eN : mUn negD (mK (.int 1)) [some (.ref pre.length), some (.int most), none, none, none] (St pre os cs l p) = .ok (.int (-1)) (St pre os cs l p) := by rw [un_ev, k_ev, bind_ok, neg_ev, of_some]
  have eO : mCall (g__law_of) (mCons (mVar 0) (mCons (mLst (mCons (mK (.int 0)) (mCons (mK (.int 1)) (mCons (mK (.int 2)) (mCons (mUn negD (mK (.int 1))) (mCons (mBin subD (mCall (g__law_draw) (mCons (mVar 0) (mCons (mK (.int 101)) mNil))) (mK (.int 50))) mNil)))))) mNil)) [some (.ref pre.length), some (.int most), none, none, none] (St pre os cs l p) = .ok (.int o) (St pre os cs l2 p2) :=
    call_v (cons_v (w := .ref pre.length) rfl (cons_v (lst_v (cons_v k_ev (cons_v k_ev (cons_v k_ev (cons_v eN (cons_v (bin_v (call_v (cons_v (w := .ref pre.length) rfl (cons_v k_ev nil_ev)) d1) k_ev sub_ev) nil_ev))))) (by show 5 ≤ _; decide)) nil_ev)) d2
  have e1 : mPar 2 3 (mCons (mCall (g__law_of) (mCons (mVar 0) (mCons (mLst (mCons (mK (.int 0)) (mCons (mK (.int 1)) (mCons (mK (.int 2)) (mCons (mUn negD (mK (.int 1))) (mCons (mBin subD (mCall (g__law_draw) (mCons (mVar 0) (mCons (mK (.int 101)) mNil))) (mK (.int 50))) mNil)))))) mNil))) (mCons (mLstM mNil) mNil)) [some (.ref pre.length), some (.int most), none, none, none] (St pre os cs l p) = .nx [some (.ref pre.length), some (.int most), some (.int o), some (.ref (r1 pre os)), none] (St pre (os ++ [.lst []]) cs l2 p2) := by
    rw [par_ev, eO, then_ok, lstM_s (ws := []) nil_ev (by decide), then_ok]
    rfl
  have hF : F__law_drawn_bill_1 [some (.ref pre.length), some (.int most), some (.int o), some (.ref (r1 pre os)), none] (St pre (os ++ [.lst []]) cs l2 p2) = .ok { ws := rng 0 k.toNat } (St pre (os ++ [.lst []]) cs l3 p3) :=
    range1_ok (cons_v (call_v (cons_v (w := .ref pre.length) rfl (cons_v k_ev nil_ev)) d3) nil_ev) (okR_s (by omega) (by omega))
  obtain ⟨ρ', s', f1, us, l4, p4, y, g1, rfl, g2, g3, g4, rfl⟩ := for_ix (g := t__law_drawn_bill_1) (body := b__law_drawn_bill_1)
    (fun i ρ s' => ∃ (us : List Term) (l4 p4 : Int) (y : Option Dv), us.length = i ∧ s' = St pre (os ++ [.lst (us.map tm)]) cs l4 p4 ∧ (∀ t ∈ us, TermOk t ∧ (t.rs.length : Int) ≤ most) ∧ 0 ≤ p4 ∧ p4 ≤ p3 + 10 * (i : Int) ∧ ρ = [some (.ref pre.length), some (.int most), some (.int o), some (.ref (r1 pre os)), y])
    hF ⟨[], l3, p3, _, rfl, rfl, (fun _ h => nomatch h), p30, by omega, rfl⟩ fun i x ρ s' hx hJ => by
      obtain ⟨us, l4, p4, y, g1, rfl, g2, g3, g4, rfl⟩ := hJ
      obtain ⟨hi, rfl⟩ := rng_get hx
      obtain ⟨rs, l5, p5, w1, w2, w3, w4⟩ := weights_ok (pre := pre) (tl := os ++ [.lst (us.map tm)]) (l := l4) hc hm hm6 g3 (by omega)
      obtain ⟨a, l6, p6, a1, a2, a3, a4, a5⟩ := (draw_ok (pre := pre) (tl := os ++ [.lst (us.map tm)]) (l := l5) hc (show (0 : Int) < 7 by decide) (by decide) w3 (by omega)).ok
      obtain ⟨b, l7, p7, b1, b2, b3, b4, b5⟩ := (draw_ok (pre := pre) (tl := os ++ [.lst (us.map tm)]) (l := l6) hc (show (0 : Int) < 7 by decide) (by decide) a4 (by omega)).ok
      have et : mTup (mCons (mCall (g__law_weights) (mCons (mVar 0) (mCons (mVar 1) mNil))) (mCons (mBin subD (mCall (g__law_draw) (mCons (mVar 0) (mCons (mK (.int 7)) mNil))) (mK (.int 3))) (mCons (mBin subD (mCall (g__law_draw) (mCons (mVar 0) (mCons (mK (.int 7)) mNil))) (mK (.int 3))) mNil))) [some (.ref pre.length), some (.int most), some (.int o), some (.ref (r1 pre os)), some (.int (0 + (i : Int)))] (St pre (os ++ [.lst (us.map tm)]) cs l4 p4) = .ok (tm (Term.mk rs (a - 3) (b - 3))) (St pre (os ++ [.lst (us.map tm)]) cs l7 p7) :=
        tup_v (cons_v (call_v (cons_v (w := .ref pre.length) rfl (cons_v (w := .int most) rfl nil_ev)) w1) (cons_v (bin_v (call_v (cons_v (w := .ref pre.length) rfl (cons_v k_ev nil_ev)) a1) k_ev sub_ev) (cons_v (bin_v (call_v (cons_v (w := .ref pre.length) rfl (cons_v k_ev nil_ev)) b1) k_ev sub_ev) nil_ev))) (by show 3 ≤ _; decide)
      refine ⟨[some (.ref pre.length), some (.int most), some (.int o), some (.ref (r1 pre os)), some (.int (0 + (i : Int)))], [some (.ref pre.length), some (.int most), some (.int o), some (.ref (r1 pre os)), some (.int (0 + (i : Int)))], St pre (os ++ [.lst ((us ++ [Term.mk rs (a - 3) (b - 3)]).map tm)]) cs l7 p7, rfl, .inl ?_, us ++ [Term.mk rs (a - 3) (b - 3)], l7, p7, _, by rw [List.length_append, g1]; rfl, rfl, fun t ht => ?_, b4, by omega, rfl⟩
      · unfold b__law_drawn_bill_1
        rw [expr_ev, app_v (n := r1 pre os) (us := us.map tm) rfl at_end et (ws := us.map tm) at_end (by rw [List.length_map]; unfold lim; omega), then_ok, set_end, List.map_append]
        rfl
      · rcases List.mem_append.mp ht with h | h
        · exact g2 t h
        · rw [List.mem_singleton.mp h]
          exact ⟨⟨w2, by show (-50 : Int) ≤ a - 3; omega, by show a - 3 ≤ 50; omega, by show (-50 : Int) ≤ b - 3; omega, by show b - 3 ≤ 50; omega⟩, w4.2⟩
  rw [rng_len] at g1 g4
  refine ⟨o, us, l4, p4, ?_, ⟨o0, o1, by omega, fun t ht => (g2 t ht).1⟩, g3, by omega, fun t ht => (g2 t ht).2⟩
  unfold g__law_drawn_bill d__law_drawn_bill
  rw [den_ev, e0, seq_nx e1 (seq_nx f1 (ret_v (w := bi o us) (tup_v (cons_v (w := .int o) rfl (cons_v (blt_v (cons_v (w := .ref (r1 pre os)) rfl nil_ev) (z := .tup (us.map tm)) (by show (match (St pre (os ++ [Ob.lst (us.map tm)]) cs l4 p4)[r1 pre os]? with | some (Ob.lst ws) => some ws | _ => none).map Dv.tup = _; rw [at_end]; rfl)) nil_ev)) (by show 2 ≤ _; decide))))]
  exact fin_bi ho
variable {s : Sto} {o : Int} {ts : List Term} {ns : List Int}
end MP.K18
set_option Elab.async false
set_option linter.all false
set_option maxRecDepth 100000
set_option maxHeartbeats 400000
namespace MP.K18
open PySem PySem.Spec PyProof.Rows L2 MP
theorem le_ii {s : Sto} {i j : Int} : leD s (.int i) (.int j) = some (.bl (decide (i ≤ j))) := rfl
theorem gt_ii {s : Sto} {i j : Int} : gtD s (.int i) (.int j) = some (.bl (decide (j < i))) := rfl
theorem smN {i : Int} (h : i.natAbs ≤ 1000000000000000) : Sm i := Nat.lt_of_le_of_lt h (Nat.lt_of_lt_of_le (by decide : 1000000000000000 < 2 ^ 50) (Nat.pow_le_pow_right (by decide) (by decide)))
theorem dot_abs {M : Nat} : ∀ {rs ls : List Int}, (∀ r ∈ rs, -20 ≤ r ∧ r ≤ 20) → (∀ n ∈ ls, n.natAbs ≤ M) → (dot rs ls).natAbs ≤ rs.length * (20 * M)
  | [], ls, _, _ => by rw [dot_nil]; exact Nat.zero_le _
  | a :: rs, [], _, _ => by rw [dot_nil']; exact Nat.zero_le _
  | a :: rs, b :: ls, h1, h2 => by
    have ih := dot_abs (M := M) (rs := rs) (ls := ls) (fun r hr => h1 r (List.mem_cons_of_mem _ hr)) fun n hn => h2 n (List.mem_cons_of_mem _ hn)
    have ha := h1 a List.mem_cons_self
    have hb := h2 b List.mem_cons_self
    have h3 : (a * b).natAbs ≤ 20 * M := by
      rw [Int.natAbs_mul]
      exact Nat.mul_le_mul (by omega) hb
    rw [dot_cons, List.length_cons, Nat.succ_mul]
    omega
theorem sum_abs {M : Nat} : ∀ {l : List Int}, (∀ n ∈ l, n.natAbs ≤ M) → l.sum.natAbs ≤ l.length * M
  | [], _ => Nat.zero_le _
  | a :: l, h => by
    have ih := sum_abs fun n hn => h n (List.mem_cons_of_mem a hn)
    have ha := h a List.mem_cons_self
    rw [List.sum_cons, List.length_cons, Nat.succ_mul]
    omega
variable {s : Sto} {o : Int} {ts : List Term} {ns : List Int}
theorem ixe_abs {rs : List Int} {e : Nat} (h : Rule rs) (hn : Row ns) : (ixe rs ns e).natAbs ≤ 120000000 := by
  have h6 := h.six
  have := dot_abs (M := 1000000) (rs := rs) (ls := srt (seg rs ns e)) h.ok fun n hm => by
    have hm : n ∈ ns := List.mem_of_mem_drop (List.mem_of_mem_take ((srt_perm (seg rs ns e)).mem_iff.mp hm))
    have := hn.ok n hm
    omega
  have h7 : rs.length * (20 * 1000000) ≤ 6 * (20 * 1000000) := Nat.mul_le_mul_right _ h6
  exact Nat.le_trans this h7
theorem ps_abs {e : Nat} (h : Bill o ts) (hn : Row ns) : (ps o ts ns e).natAbs ≤ 30000000000 := by
  have h2 := h.two
  have o0 := h.o0
  have o1 := h.o1
  have k1 : (o * ns.getD e 0).natAbs ≤ 50 * 1000000 := by
    rw [Int.natAbs_mul]
    refine Nat.mul_le_mul (by omega) ?_
    rw [List.getD_eq_getElem?_getD]
    cases q : ns[e]? with
    | none => decide
    | some v => have := hn.ok v (List.mem_of_getElem? q); show v.natAbs ≤ _; omega
  have k2 : (ts.map fun t => t.a * ixe t.rs ns e + t.b * ixe t.rs ns (e + 1)).sum.natAbs ≤ ts.length * 12000000000 := by
    have := sum_abs (M := 12000000000) (l := ts.map fun t => t.a * ixe t.rs ns e + t.b * ixe t.rs ns (e + 1)) fun n hm => by
      obtain ⟨t, ht, rfl⟩ := List.mem_map.mp hm
      have q := h.ok t ht
      have q1 := q.a0
      have q2 := q.a1
      have q3 := q.b0
      have q4 := q.b1
      have r1 : (t.a * ixe t.rs ns e).natAbs ≤ 50 * 120000000 := by
        rw [Int.natAbs_mul]
        exact Nat.mul_le_mul (by omega) (ixe_abs q.rule hn)
      have r2 : (t.b * ixe t.rs ns (e + 1)).natAbs ≤ 50 * 120000000 := by
        rw [Int.natAbs_mul]
        exact Nat.mul_le_mul (by omega) (ixe_abs q.rule hn)
      omega
    rwa [List.length_map] at this
  have k3 : ts.length * 12000000000 ≤ 2 * 12000000000 := Nat.mul_le_mul_right _ h2
  unfold ps
  omega
theorem pys_abs (h : Bill o ts) (hn : Row ns) : ∀ i ∈ pys o ts ns, i.natAbs ≤ 30000000000 := fun i hi => by
  obtain ⟨k, _, rfl⟩ := List.mem_map.mp hi
  exact ps_abs h hn
theorem pys_len : (pys o ts ns).length = ns.length - wd ts := by rw [List.length_map, List.length_range]
theorem pys_sum_sm (h : Bill o ts) (hn : Row ns) : Sm (pys o ts ns).sum := smN (by
  have h1 := sum_abs (pys_abs h hn)
  have h2 := hn.most
  have h3 : (pys o ts ns).length ≤ 200 := by rw [pys_len]; omega
  have h4 : (pys o ts ns).length * 30000000000 ≤ 200 * 30000000000 := Nat.mul_le_mul_right _ h3
  omega)
theorem row_sm (h : Row ns) : ∀ i ∈ ns, Sm i := fun i hi => by
  have := h.ok i hi
  exact Sm.of (by omega) (by omega)
theorem rule_sm (h : Rule ns) : ∀ i ∈ ns, Sm i := fun i hi => by
  have := h.ok i hi
  exact Sm.of (by omega) (by omega)
abbrev td (t : Term) : PyData := .tuple [.tuple (t.rs.map .int), .int t.a, .int t.b]
theorem pl_tm {t : Term} (h : TermOk t) : Pl 10 2 (tm t) (td t) := by
  have h6 := h.rule.six
  have q1 := h.a0
  have q2 := h.a1
  have q3 := h.b0
  have q4 := h.b1
  exact (pl_tup (pls_cons ((pl_tI (rule_sm h.rule)).mono (m := 7) (by omega) (Nat.le_refl _)) (pls_cons ((pl_int (i := t.a) (Sm.of (by omega) (by omega))).mono (Nat.le_refl _) (Nat.zero_le _)) (pls_cons ((pl_int (i := t.b) (Sm.of (by omega) (by omega))).mono (Nat.le_refl _) (Nat.zero_le _)) pls_nil)))).mono (by omega) (Nat.le_refl _)
theorem pls_tms : ∀ {ts : List Term}, (∀ t ∈ ts, TermOk t) → Pls (ts.length * 10) 2 (ts.map tm) (ts.map td)
  | [], _ => pls_nil
  | t :: ts, h => by
    have := pls_cons (pl_tm (h t List.mem_cons_self)) (pls_tms fun i hi => h i (List.mem_cons_of_mem _ hi))
    refine this.mono ?_ (Nat.le_refl _)
    rw [List.length_cons, Nat.succ_mul]
    omega
abbrev bd (o : Int) (ts : List Term) : PyData := .tuple [.int o, .tuple (ts.map td)]
theorem pl_bi (h : Bill o ts) : Pl 25 4 (bi o ts) (bd o ts) := by
  have h2 := h.two
  have q1 := h.o0
  have q2 := h.o1
  exact (pl_tup (pls_cons ((pl_int (i := o) (Sm.of (by omega) (by omega))).mono (Nat.le_refl _) (Nat.zero_le _)) (pls_cons ((pl_tup (pls_tms h.ok)).mono (m := 21) (by omega) (Nat.le_refl _)) pls_nil))).mono (by omega) (Nat.le_refl _)
end MP.K18
set_option Elab.async false
set_option linter.all false
set_option maxRecDepth 100000
set_option maxHeartbeats 400000
namespace MP.K18
open PySem PySem.Spec PyProof.Rows L2 MP
theorem pow_ii {s : Sto} {i j : Int} (h : 0 ≤ j ∧ j ≤ 1000000 ∧ i.natAbs < 2 ^ 64) : powD s (.int i) (.int j) = some (.int (i ^ j.toNat)) := if_pos h
theorem ge_ii {s : Sto} {i j : Int} : geD s (.int i) (.int j) = some (.bl (decide (j ≤ i))) := rfl
/-- what is begun with -/
theorem begun_ok {pre : Sto} {ns : List Int} (hn : ns.length ≤ 63) : ∃ l, g__law_begun [.sq (ns.map .int)] pre = .ok (.ref pre.length) (St pre [] (ns ++ [(ns.length : Int)]) l 0) := by
  have e0 : startD 3 [.sq (ns.map .int)] = [some (.sq (ns.map .int)), none, none] := rfl
  have e1 : mComp cF__law_begun_1 [2] ct__law_begun_1 ci__law_begun_1 ce__law_begun_1 [some (.sq (ns.map .int)), none, none] pre = .ok (lI (ns.filter fun n => decide ((10 : Int) ^ 18 ≤ n))) pre := by
    refine comp_filt (e := .int) (φ := .int) (t := fun n => decide ((10 : Int) ^ 18 ≤ n)) rfl (by unfold lim; omega) fun n _ => ⟨[some (.sq (ns.map .int)), none, some (.int n)], rfl, ?_, fun _ => ?_⟩
    · unfold ci__law_begun_1
      rw [test_ev, bin_ev, var_s, var_s, var_0, bind_ok, bin_ev, k_ev, bind_ok, k_ev, bind_ok, pow_ii ⟨by decide, by decide, by decide⟩, of_some, bind_ok, ge_ii]
      rfl
    · rfl
  obtain ⟨gs, hg⟩ : ∃ gs, gs = ns.filter fun n => decide ((10 : Int) ^ 18 ≤ n) := ⟨_, rfl⟩
  rw [← hg] at e1
  have eL : mBin addD (mBlt listD (mCons (mVar 0) mNil)) (mLst (mCons (mBlt lenD (mCons (mVar 0) mNil)) mNil)) [some (.sq (ns.map .int)), some (lI gs), none] pre = .ok (lI (ns ++ [(ns.length : Int)])) pre := by
    rw [bin_ev, blt_ev, cons_ev, var_0, bind_ok, nil_ev, bind_ok, bind_ok]
    show (R.of (some (Dv.lst (ns.map .int))) pre).bind _ = _
    rw [of_some, bind_ok, lst_ev, cons_ev, blt_ev, cons_ev, var_0, bind_ok, nil_ev, bind_ok, bind_ok, len_sq, of_some, bind_ok, nil_ev, bind_ok, bind_ok, if_pos (by show 1 ≤ lim; unfold lim; decide), bind_ok]
    show R.of (if (ns.map Dv.int).length + 1 ≤ lim then some (Dv.lst (ns.map .int ++ [.int (ns.map Dv.int).length])) else none) pre = _
    rw [if_pos (by rw [List.length_map]; unfold lim; omega), List.length_map, of_some, lI, List.map_append]
    rfl
  have eG : ∃ l, mIf (mTest (mBin neD (mVar 1) (mLst mNil))) (mBin ixA (mVar 1) (mK (.int 0))) (mK (.int 0)) [some (.sq (ns.map .int)), some (lI gs), none] pre = .ok (.int l) pre := by
    have et : mTest (mBin neD (mVar 1) (mLst mNil)) [some (.sq (ns.map .int)), some (lI gs), none] pre = .ok (!decide (gs = [])) pre := by
      rw [test_ev, bin_ev, var_s, var_0, bind_ok, lst_ev, nil_ev, bind_ok, if_pos (by show 0 ≤ lim; unfold lim; decide), bind_ok]
      show (R.of (neD pre (lI gs) (lI [])) pre).bind testK = _
      rw [ne_lI]
      rfl
    rw [if_ev, et, bind_ok]
    cases gs with
    | nil => exact ⟨0, rfl⟩
    | cons a r =>
      refine ⟨a, ?_⟩
      rw [if_pos (by simp), bin_ev, var_s, var_0, bind_ok, k_ev, bind_ok]
      show R.of (ixA pre (.lst (.int a :: r.map .int)) (.int ((0 : Nat) : Int))) pre = _
      rw [ix_lst (w := .int a) rfl, of_some]
  obtain ⟨l, eG⟩ := eG
  refine ⟨l, ?_⟩
  have eD : mDctM [((mK (.str "cells")), (mBin addD (mBlt listD (mCons (mVar 0) mNil)) (mLst (mCons (mBlt lenD (mCons (mVar 0) mNil)) mNil)))), ((mK (.str "left")), (mIf (mTest (mBin neD (mVar 1) (mLst mNil))) (mBin ixA (mVar 1) (mK (.int 0))) (mK (.int 0)))), ((mK (.str "spot")), (mK (.int 0)))] [some (.sq (ns.map .int)), some (lI gs), none] pre = .ok (.ref pre.length) (St pre [] (ns ++ [(ns.length : Int)]) l 0) := by
    have : mPairs [((mK (.str "cells")), (mBin addD (mBlt listD (mCons (mVar 0) mNil)) (mLst (mCons (mBlt lenD (mCons (mVar 0) mNil)) mNil)))), ((mK (.str "left")), (mIf (mTest (mBin neD (mVar 1) (mLst mNil))) (mBin ixA (mVar 1) (mK (.int 0))) (mK (.int 0)))), ((mK (.str "spot")), (mK (.int 0)))] [some (.sq (ns.map .int)), some (lI gs), none] pre = .ok [(.str "cells", lI (ns ++ [(ns.length : Int)])), (.str "left", .int l), (.str "spot", .int 0)] pre := by
      unfold mPairs
      rw [k_ev, bind_ok, eL, bind_ok]
      unfold mPairs
      rw [k_ev, bind_ok, eG, bind_ok]
      unfold mPairs
      rw [k_ev, bind_ok, k_ev, bind_ok]
      rfl
    unfold mDctM
    rw [this]
    rfl
  unfold g__law_begun d__law_begun
  rw [den_ev, e0, seq_ev, asgN_ev, e1, then_ok, seqK_nx]
  show finC pre.length (mRet (mDctM _) [some (.sq (ns.map .int)), some (lI gs), none] pre) = _
  rw [ret_ev, eD, then_ok]
  show finW pre.length (.ref pre.length) (St pre [] (ns ++ [(ns.length : Int)]) l 0) = _
  unfold finW
  have e : fz 4 (St pre [] (ns ++ [(ns.length : Int)]) l 0) pre.length (.ref pre.length) = none := by
    unfold fz
    rw [if_neg (by show ¬ (decide (pre.length < pre.length) = true); simp)]
    dsimp only
    rw [St_at]
  split
  · rfl
  · split
    · rw [e]
    · rfl
end MP.K18
set_option Elab.async false
set_option linter.all false
set_option maxRecDepth 100000
set_option maxHeartbeats 400000
namespace MP.K18
open PySem PySem.Spec PyProof.Rows L2 MP
abbrev ob (o : Int) (ts : List Term) (ns : List Int) : Ob := .obj 9 [("_bill", bi o ts), ("_row", tI ns)]
section
variable {s s1 s2 : Sto} {ρ : Env} {k c : Nat} {o r : Int} {ts : List Term} {ns : List Int} {f fv : FE} {fa : FA} {m : Str} {w : Dv} {fs : List (Str × Dv)}
theorem ofB (h : s[k]? = some (ob o ts ns)) : ofD 9 "_bill" s (.ref k) = some (bi o ts) := by
  unfold ofD objOf
  dsimp only
  rw [h]
  rfl
theorem ofR (h : s[k]? = some (ob o ts ns)) : ofD 9 "_row" s (.ref k) = some (tI ns) := by
  unfold ofD objOf
  dsimp only
  rw [h]
  rfl
theorem objO (h : s[k]? = some (ob o ts ns)) : objOf 9 s (.ref k) = some [(("_bill" : Str), bi o ts), ("_row", tI ns)] := by
  unfold objOf
  dsimp only
  rw [h]
  rfl
theorem of_v (hf : f ρ s = .ok (.ref k) s1) (h : ofD c m s1 (.ref k) = some w) : mOf c m f ρ s = .ok w s1 := by
  unfold mOf
  rw [hf, bind_ok, h, of_some]
theorem fset_v {fo : FE} (hv : fv ρ s = .ok w s1) (ho : fo ρ s1 = .ok (.ref k) s2) (h : s2[k]? = some (.obj c fs)) (hl : fs.length < 100) : mFSet c m fo fv ρ s = .nx ρ (s2.set k (.obj c (putFD m w fs))) := by
  unfold mFSet
  rw [hv, then_ok, ho, then_ok]
  dsimp only
  rw [h]
  dsimp only
  rw [if_pos ⟨rfl, hl⟩]
theorem put_row {b x y : Dv} : putFD "_row" y [(("_bill" : Str), b), ("_row", x)] = [(("_bill" : Str), b), ("_row", y)] := rfl
theorem get_lt {x : Ob} (h : s[k]? = some x) : k < s.length := (List.getElem?_eq_some_iff.mp h).1
theorem get_set {x y : Ob} (h : s[k]? = some x) : (s.set k y)[k]? = some y := List.getElem?_set_self (get_lt h)
theorem fin_set_nx {y : Ob} : finC s.length (.nx ρ (s.set k y)) = .ok .non (s.set k y) := finW_le (by rw [List.length_set]; exact Nat.le_refl _)
theorem fin_set_rt {y : Ob} : finC s.length (.rt w (s.set k y)) = .ok w (s.set k y) := finW_le (by rw [List.length_set]; exact Nat.le_refl _)
theorem init_ok (h : s[k]? = some (.obj 9 [])) (hb : Bill o ts) : g_File___init__ [.ref k, bi o ts] s = .ok .non (s.set k (ob o ts [])) := by
  have e0 : startD 2 [.ref k, bi o ts] = [some (.ref k), some (bi o ts)] := rfl
  have e1 : mFSet 9 "_bill" (mVar 0) (mCall (g_need_bill) (mCons (mVar 1) mNil)) [some (.ref k), some (bi o ts)] s = .nx [some (.ref k), some (bi o ts)] (s.set k (.obj 9 [("_bill", bi o ts)])) :=
    fset_v (call_v (cons_v (w := bi o ts) rfl nil_ev) (need_bill_ok hb)) rfl h (by decide)
  have e2 : mFSet 9 "_row" (mVar 0) (mTup mNil) [some (.ref k), some (bi o ts)] (s.set k (.obj 9 [("_bill", bi o ts)])) = .nx [some (.ref k), some (bi o ts)] ((s.set k (.obj 9 [("_bill", bi o ts)])).set k (ob o ts [])) :=
    fset_v (w := tI []) (tup_v nil_ev (by decide)) rfl (get_set h) (by show 1 < 100; decide)
  rw [List.set_set] at e2
  unfold g_File___init__ d_File___init__
  rw [den_ev, e0, seq_nx e1 e2]
  exact fin_set_nx
theorem make_ok (hf : f ρ s = .ok (bi o ts) s1) (hb : Bill o ts) : mMake 9 g_File___init__ (mCons f mNil) ρ s = .ok (.ref s1.length) (s1 ++ [ob o ts []]) := by
  have h : (s1 ++ [Ob.obj 9 []])[s1.length]? = some (.obj 9 []) := by
    rw [List.getElem?_append_right (Nat.le_refl _), Nat.sub_self]
    rfl
  have e : (s1 ++ [Ob.obj 9 []]).set s1.length (ob o ts []) = s1 ++ [ob o ts []] := by
    rw [List.set_append_right _ _ (Nat.le_refl _), Nat.sub_self]
    rfl
  unfold mMake
  rw [cons_v hf nil_ev, bind_ok]
  rw [init_ok h hb, e]
theorem bill_ok (h : s[k]? = some (ob o ts ns)) (hf : f ρ s = .ok (.ref k) s) : mProp 9 g_File_bill f ρ s = .ok (bi o ts) s := by
  have e0 : startD 1 [.ref k] = [some (.ref k)] := rfl
  have e : g_File_bill [.ref k] s = .ok (bi o ts) s := by
    unfold g_File_bill d_File_bill
    rw [den_ev, e0, ret_v (of_v (k := k) rfl (ofB h)), finC_rt]
  unfold mProp
  rw [hf, bind_ok, objO h, e]
  rfl
theorem row_ok (h : s[k]? = some (ob o ts ns)) (hf : f ρ s = .ok (.ref k) s) : mProp 9 g_File_row f ρ s = .ok (tI ns) s := by
  have e0 : startD 1 [.ref k] = [some (.ref k)] := rfl
  have e : g_File_row [.ref k] s = .ok (tI ns) s := by
    unfold g_File_row d_File_row
    rw [den_ev, e0, ret_v (of_v (k := k) rfl (ofR h)), finC_rt]
  unfold mProp
  rw [hf, bind_ok, objO h, e]
  rfl
theorem lenr_v (h : s[k]? = some (ob o ts ns)) (hf : f ρ s = .ok (.ref k) s) : mBlt lenD (mCons (mOf 9 "_row" f) mNil) ρ s = .ok (.int ns.length) s :=
  blt_v (cons_v (of_v hf (ofR h)) nil_ev) (by rw [len_tup, List.length_map])
theorem wid_v (h : s[k]? = some (ob o ts ns)) (hb : Bill o ts) (hf : f ρ s = .ok (.ref k) s) : mCall (g_width_of) (mCons (mOf 9 "_bill" f) mNil) ρ s = .ok (.int (wd ts)) s :=
  call_v (cons_v (of_v hf (ofB h)) nil_ev) (width_of_ok hb.ok hb.two)
theorem lenBk_ok {n : Nat} (h : n ≤ 1000000) : lenBk (.ok (.int n) s) = .ok (.int n) s := by
  have e : lenBk (.ok (.int n) s) = if 0 ≤ (n : Int) ∧ (n : Int) < 2 ^ 62 then .ok (.int n) s else .no := by unfold lenBk; rfl
  rw [e, if_pos ⟨by omega, by omega⟩]
theorem len_ok (h : s[k]? = some (ob o ts ns)) (hn : ns.length ≤ 200) (hf : f ρ s = .ok (.ref k) s) : mLenO 9 g_File___len__ (mCons f mNil) ρ s = .ok (.int ns.length) s := by
  have e0 : startD 1 [.ref k] = [some (.ref k)] := rfl
  have e : g_File___len__ [.ref k] s = .ok (.int ns.length) s := by
    unfold g_File___len__ d_File___len__
    rw [den_ev, e0, ret_v (lenr_v h rfl), finC_rt]
  unfold mLenO
  rw [cons_v hf nil_ev, bind_ok]
  dsimp only
  rw [objO h]
  dsimp only
  rw [e, lenBk_ok (by omega)]
theorem ask_v {den : Fn} {ws : List Dv} {rr : R Dv} {mm : Option Str} (h : s[k]? = some (ob o ts ns)) (hm : (mm.all fun y => (([("_bill", bi o ts), ("_row", tI ns)] : List (Str × Dv)).lookup y).isNone) = true) (hf : f ρ s = .ok (.ref k) s) (ha : fa ρ s = .ok ws s) (e : den (.ref k :: ws) s = rr) : mAsk 9 mm den f fa ρ s = rr := by
  unfold mAsk
  rw [hf, bind_ok, objO h]
  dsimp only
  rw [if_pos hm, ha, bind_ok, e]
/-- all gains so far -/
def cl (o : Int) (ts : List Term) (ns : List Int) : Dv := if ns.length < wd ts then .non else .int (pys o ts ns).sum
theorem lt_ii {i j : Int} : ltD s (.int i) (.int j) = some (.bl (decide (i < j))) := rfl
theorem cll_ok (h : s[k]? = some (ob o ts ns)) (hb : Bill o ts) (hn : Row ns) : g_File___call__ [.ref k] s = .ok (cl o ts ns) s := by
  have e0 : startD 1 [.ref k] = [some (.ref k)] := rfl
  have et : mTest (mBin ltD (mBlt lenD (mCons (mOf 9 "_row" (mVar 0)) mNil)) (mCall (g_width_of) (mCons (mOf 9 "_bill" (mVar 0)) mNil))) [some (.ref k)] s = .ok (decide ((ns.length : Int) < wd ts)) s :=
    test_v (bin_v (lenr_v h rfl) (wid_v h hb rfl) lt_ii)
  unfold g_File___call__ d_File___call__ cl
  rw [den_ev, e0]
  by_cases hw : ns.length < wd ts
  · rw [if_pos hw]
    rw [decide_eq_true (by omega)] at et
    exact fin_rtS ((ifS_t et).trans (ret_v (w := .non) rfl)) finC_rt
  · rw [if_neg hw]
    rw [decide_eq_false (by omega)] at et
    refine fin_nx ((ifS_f et).trans next_ev) ?_
    rw [ret_v (blt_v (cons_v (call_v (cons_v (of_v (k := k) rfl (ofB h)) (cons_v (of_v (k := k) rfl (ofR h)) nil_ev)) (pays_of_ok hb hn (by omega))) nil_ev) sum_TI)]
    exact finC_rt
theorem call_ok (h : s[k]? = some (ob o ts ns)) (hb : Bill o ts) (hn : Row ns) (hf : f ρ s = .ok (.ref k) s) : mAsk 9 none g_File___call__ f mNil ρ s = .ok (cl o ts ns) s := ask_v h rfl hf nil_ev (cll_ok h hb hn)
/-- what a new result gains -/
def gain (o : Int) (ts : List Term) (ns : List Int) (r : Int) : Dv := if ns.length < wd ts then .non else .int (ps o ts (ns ++ [r]) ns.length)
theorem lp_ps {xs : List Int} {v : Int} (hr : ∀ t ∈ ts, t.rs.length ≤ xs.length) : o * v + (ts.map fun t => t.a * idx t.rs xs + t.b * idx t.rs (xs ++ [v])).sum = ps o ts (xs ++ [v]) xs.length := by
  unfold ps
  have e1 : (xs ++ [v]).getD xs.length 0 = v := by
    rw [List.getD_eq_getElem?_getD, List.getElem?_append_right (Nat.le_refl _), Nat.sub_self]
    rfl
  have e2 : (ts.map fun t => t.a * idx t.rs xs + t.b * idx t.rs (xs ++ [v])) = ts.map fun t => t.a * ixe t.rs (xs ++ [v]) xs.length + t.b * ixe t.rs (xs ++ [v]) (xs.length + 1) := by
    refine List.map_congr_left fun t ht => ?_
    have h1 := ixe_of (rs := t.rs) (ns := xs ++ [v]) (i := 0) (k := xs.length) (hr t ht) (by rw [List.length_append]; omega)
    have h2 := ixe_of (rs := t.rs) (ns := xs ++ [v]) (i := 0) (k := xs.length + 1) (Nat.le_succ_of_le (hr t ht)) (by rw [List.length_append, List.length_singleton]; omega)
    rw [List.drop_zero, List.take_left' rfl, Nat.zero_add] at h1
    rw [List.drop_zero, List.take_of_length_le (by rw [List.length_append, List.length_singleton]; omega), Nat.zero_add] at h2
    rw [h1, h2]
  rw [e1, e2]
theorem is_result_int (i : Int) (s : Sto) : g_is_result [.int i] s = .ok (.bl (decide (0 ≤ i) && decide (i ≤ 1000000))) s := by
  simp [g_is_result, d_is_result, is_int_within_int]
theorem addd_ok (h : s[k]? = some (ob o ts ns)) (hb : Bill o ts) (hn : ns.length < 200) (h0 : 0 ≤ r) (h1 : r ≤ 1000000) : g_File_add [.ref k, .int r] s = .ok (gain o ts ns r) (s.set k (ob o ts (ns ++ [r]))) := by
  have e0 : startD 2 [.ref k, .int r] = [some (.ref k), some (.int r)] := rfl
  have t1 : mNot (mTest (mCall (g_is_result) (mCons (mVar 1) mNil))) [some (.ref k), some (.int r)] s = .ok false s :=
    not_vt (test_v (call_v (cons_v (w := .int r) rfl nil_ev) (by rw [is_result_int, decide_eq_true h0, decide_eq_true h1]; rfl)))
  have t2 : mTest (mBin eqD (mBlt lenD (mCons (mOf 9 "_row" (mVar 0)) mNil)) (mK (.int 200))) [some (.ref k), some (.int r)] s = .ok false s :=
    test_v (bin_v (lenr_v h rfl) k_ev (by rw [eq_ii, decide_eq_false (by omega)]))
  have t3 : mFSet 9 "_row" (mVar 0) (mBin addD (mOf 9 "_row" (mVar 0)) (mTup (mCons (mVar 1) mNil))) [some (.ref k), some (.int r)] s = .nx [some (.ref k), some (.int r)] (s.set k (ob o ts (ns ++ [r]))) := by
    have := fset_v (m := "_row") (fo := mVar 0) (bin_v (of_v (k := k) (f := mVar 0) (ρ := [some (.ref k), some (.int r)]) rfl (ofR h)) (tup_v (cons_v (f := mVar 1) (w := .int r) rfl nil_ev) (by show 1 ≤ _; decide)) (add_tup (by rw [List.length_map]; show ns.length + 1 ≤ _; omega))) rfl h (by show 2 < 100; decide)
    rw [put_row, show ns.map Dv.int ++ [.int r] = (ns ++ [r]).map .int from by rw [List.map_append]; rfl] at this
    exact this
  have h' := get_set (y := ob o ts (ns ++ [r])) h
  have hl : (ns ++ [r]).length = ns.length + 1 := by rw [List.length_append]; rfl
  have t4 : mTest (mBin leD (mBlt lenD (mCons (mOf 9 "_row" (mVar 0)) mNil)) (mCall (g_width_of) (mCons (mOf 9 "_bill" (mVar 0)) mNil))) [some (.ref k), some (.int r)] (s.set k (ob o ts (ns ++ [r]))) = .ok (decide (((ns ++ [r]).length : Int) ≤ wd ts)) (s.set k (ob o ts (ns ++ [r]))) :=
    test_v (bin_v (lenr_v h' rfl) (wid_v h' hb rfl) le_ii)
  unfold g_File_add d_File_add gain
  rw [den_ev, e0]
  refine fin_nx ((ifS_f t1).trans next_ev) (fin_nx ((ifS_f t2).trans next_ev) (fin_nx t3 ?_))
  by_cases hw : ns.length < wd ts
  · rw [if_pos hw]
    rw [decide_eq_true (by rw [hl]; omega)] at t4
    exact fin_rtS ((ifS_t t4).trans (ret_v (w := .non) rfl)) fin_set_rt
  · rw [if_neg hw]
    rw [decide_eq_false (by rw [hl]; omega)] at t4
    have hr : ∀ t ∈ ts, t.rs.length ≤ ns.length := fun t ht => Nat.le_trans (wd_ge hb.ok ht) (by omega)
    refine fin_nx ((ifS_f t4).trans next_ev) ?_
    rw [ret_v (call_v (cons_v (of_v (k := k) rfl (ofB h')) (cons_v (of_v (k := k) rfl (ofR h')) nil_ev)) (last_pay_ok hb hr hn)), lp_ps hr]
    exact fin_set_rt
theorem add_ok (h : s[k]? = some (ob o ts ns)) (hb : Bill o ts) (hn : ns.length < 200) (h0 : 0 ≤ r) (h1 : r ≤ 1000000) (hf : f ρ s = .ok (.ref k) s) (hv : fv ρ s = .ok (.int r) s) : mAsk 9 (some "add") g_File_add f (mCons fv mNil) ρ s = .ok (gain o ts ns r) (s.set k (ob o ts (ns ++ [r]))) :=
  ask_v h rfl hf (cons_v hv nil_ev) (addd_ok h hb hn h0 h1)
theorem backk_ok {n : Nat} (h : s[k]? = some (ob o ts ns)) (h1 : 1 ≤ n) (h2 : n ≤ ns.length) : g_File_back [.ref k, .int (n : Int)] s = .ok .non (s.set k (ob o ts (ns.take (ns.length - n)))) := by
  have e0 : startD 2 [.ref k, .int (n : Int)] = [some (.ref k), some (.int n)] := rfl
  have t1 : mOr (mNot (mTest (mCall (g_is_int) (mCons (mVar 1) mNil)))) (mTest (mBin ltD (mVar 1) (mK (.int 1)))) [some (.ref k), some (.int n)] s = .ok false s :=
    or_f (not_vt (test_v (call_v (cons_v (w := .int n) rfl nil_ev) (is_int_int _ _)))) (test_v (bin_v (x := .int n) rfl k_ev (by rw [lt_ii, decide_eq_false (by omega)])))
  have t2 : mTest (mBin gtD (mVar 1) (mBlt lenD (mCons (mOf 9 "_row" (mVar 0)) mNil))) [some (.ref k), some (.int n)] s = .ok false s :=
    test_v (bin_v (x := .int n) rfl (lenr_v h rfl) (by rw [gt_ii, decide_eq_false (by omega)]))
  have t3 : mFSet 9 "_row" (mVar 0) (mSl slA (mOf 9 "_row" (mVar 0)) mNoPart (mPart (mBin subD (mBlt lenD (mCons (mOf 9 "_row" (mVar 0)) mNil)) (mVar 1)))) [some (.ref k), some (.int n)] s = .nx [some (.ref k), some (.int n)] (s.set k (ob o ts (ns.take (ns.length - n)))) := by
    have hp : mPart (mBin subD (mBlt lenD (mCons (mOf 9 "_row" (mVar 0)) mNil)) (mVar 1)) [some (.ref k), some (.int n)] s = .ok (some ((ns.length - n : Nat) : Int)) s := by
      have := part_v (bin_v (o := subD) (lenr_v (f := mVar 0) (ρ := [some (.ref k), some (.int n)]) h rfl) (g := mVar 1) (y := .int n) rfl sub_ev)
      rw [show (ns.length : Int) - (n : Int) = ((ns.length - n : Nat) : Int) by omega] at this
      exact this
    have hs : mSl slA (mOf 9 "_row" (mVar 0)) mNoPart (mPart (mBin subD (mBlt lenD (mCons (mOf 9 "_row" (mVar 0)) mNil)) (mVar 1))) [some (.ref k), some (.int n)] s = .ok (tI (ns.take (ns.length - n))) s :=
      sl_v (of_v (k := k) rfl (ofR h)) nopart_ev hp (by rw [sl_tup, cut_to, ← List.map_take])
    have := fset_v (m := "_row") (fo := mVar 0) hs rfl h (by show 2 < 100; decide)
    rw [put_row] at this
    exact this
  unfold g_File_back d_File_back
  rw [den_ev, e0]
  refine fin_nx ((ifS_f t1).trans next_ev) (fin_nx ((ifS_f t2).trans next_ev) ?_)
  rw [t3]
  exact fin_set_nx
theorem back1_ok (h : s[k]? = some (ob o ts ns)) (h2 : 1 ≤ ns.length) (hf : f ρ s = .ok (.ref k) s) : mAsk 9 (some "back") (fun ws => g_File_back (ws ++ [.int 1])) f mNil ρ s = .ok .non (s.set k (ob o ts (ns.take (ns.length - 1)))) :=
  ask_v h rfl hf nil_ev (backk_ok (n := 1) h (Nat.le_refl _) h2)
end
end MP.K18
set_option Elab.async false
set_option linter.all false
set_option maxRecDepth 100000
set_option maxHeartbeats 400000
namespace MP.K18
open PySem PySem.Spec PyProof.Rows L2 MP
theorem pl_bl {b : Bool} : Pl 1 0 (.bl b) (.bool b) := by cases b <;> exact ⟨rfl, by decide +kernel, by decide +kernel, by decide +kernel, by decide +kernel, by decide +kernel⟩
theorem pl_non : Pl 1 0 .non .none := ⟨rfl, by decide +kernel, by decide +kernel, by decide +kernel, by decide +kernel, by decide +kernel⟩
section
variable {s : Sto} {o r : Int} {ts : List Term} {ns : List Int}
theorem row_snoc (hn : Row ns) (hl : ns.length < 200) (h0 : 0 ≤ r) (h1 : r ≤ 1000000) : Row (ns ++ [r]) := ⟨by rw [List.length_append, List.length_singleton]; omega, fun i hi => by
  rcases List.mem_append.mp hi with h | h
  · exact hn.2 i h
  · rw [List.mem_singleton.mp h]; exact ⟨h0, h1⟩⟩
theorem row_take (hn : Row ns) (k : Nat) : Row (ns.take k) := ⟨by rw [List.length_take]; have := hn.most; omega, fun i hi => hn.2 i (List.mem_of_mem_take hi)⟩
end
section
variable {s : Sto} {k : Nat} {o r : Int} {ts : List Term} {ns : List Int} {w : Dv}
theorem ask_e {fo : FE} {fa : FA} {ρ : Env} {den : Fn} {ws : List Dv} {x : Ex} {mm : Option Str} (h : s[k]? = some (ob o ts ns)) (hm : (mm.all fun y => (([("_bill", bi o ts), ("_row", tI ns)] : List (Str × Dv)).lookup y).isNone) = true) (hf : fo ρ s = .ok (.ref k) s) (ha : fa ρ s = .ok ws s) (e : den (.ref k :: ws) s = .er x s) : mAsk 9 mm den fo fa ρ s = .er x s := ask_v h hm hf ha e
end
end MP.K18
set_option Elab.async false
set_option linter.all false
set_option maxRecDepth 100000
set_option maxHeartbeats 400000
namespace MP.K18
open PySem PySem.Spec PyProof.Rows L2 MP
abbrev P2 : Sto := [.tab 0 lq__law_block, .tab 1 lq__law_tried]
abbrev S (os : Sto) (cs : List Int) (l p : Int) : Sto := St P2 os cs l p
abbrev tr (k : Nat) (ns : List Int) : Ob := .obj 10 [("_one", .ref k), ("_before", tI ns)]
section
variable {os : Sto} {cs : List Int} {l p : Int} {j : Nat} {x y : Ob}
theorem S_get : (S os cs l p)[3 + j]? = os[j]? := by
  rw [Nat.add_comm]
  rfl
theorem S_set : (S os cs l p).set (3 + j) x = S (os.set j x) cs l p := by
  rw [Nat.add_comm]
  rfl
theorem S_len : (S os cs l p).length = 3 + os.length := by
  rw [Nat.add_comm]
  rfl
theorem S_app : S os cs l p ++ [x] = S (os ++ [x]) cs l p := rfl
theorem at_j (h : os[j]? = some x) : (S os cs l p)[3 + j]? = some x := S_get.trans h
theorem get_j (h : os[j]? = some x) : (os.set j y)[j]? = some y := get_set h
theorem get_other {i : Nat} (h : i ≠ j) : (os.set j y)[i]? = os[i]? := List.getElem?_set_ne h.symm
theorem set_self {s : Sto} {k : Nat} (h : s[k]? = some x) : s.set k x = s := by
  apply List.ext_getElem?
  intro i
  by_cases hi : k = i
  · subst hi
    rw [List.getElem?_set_self (get_lt h), h]
  · rw [List.getElem?_set_ne hi]
end
def clp (o : Int) (ts : List Term) (ns : List Int) : PyData := if ns.length < wd ts then .none else .int (pys o ts ns).sum
def shd (o : Int) (ts : List Term) (ns : List Int) : PyData := .list [bd o ts, .tuple (ns.map .int), clp o ts ns, .int ns.length]
def sh (o : Int) (ts : List Term) (ns : List Int) : Str := (shd o ts ns).shown
section
variable {s : Sto} {ρ : Env} {k k' : Nat} {o o' r : Int} {ts ts' : List Term} {ns ns' : List Int} {f fo fv : FE} {neg c1 c2 : Bool} {v : Dv} {T : String}
theorem pl_clp (h : Bill o ts) (hn : Row ns) : Pl 1 0 (cl o ts ns) (clp o ts ns) := by
  unfold cl clp
  split
  · exact pl_non
  · exact pl_int (pys_sum_sm h hn)
theorem pl_shd (h : Bill o ts) (hn : Row ns) : Pl (25 + ((ns.length + 1) + (1 + (1 + 0))) + 1) 5 (.lst [bi o ts, tI ns, cl o ts ns, .int ns.length]) (shd o ts ns) :=
  pl_lst (pls_cons (pl_bi h) (pls_cons ((pl_tI (row_sm hn)).mono (Nat.le_refl _) (by decide)) (pls_cons ((pl_clp h hn).mono (Nat.le_refl _) (by decide)) (pls_cons ((pl_int (smN (by have := hn.most; omega))).mono (Nat.le_refl _) (by decide)) pls_nil))))
theorem rq_shd (h : Bill o ts) (hn : Row ns) : reprQ s [.lst [bi o ts, tI ns, cl o ts ns, .int ns.length]] = some (.str (sh o ts ns)) := by
  unfold reprQ reprA
  rw [repr_lst (pl_shd h hn) (by have := hn.most; omega) (by decide)] <;> rfl
theorem sh_ne : sh o ts ns ≠ "" := by
  intro z
  have h := (textFrom_len (PyData.shownAll [bd o ts, .tuple (ns.map .int), clp o ts ns, .int ns.length]) 0 "[").2.2
  have e : (textFrom 0 "[" (PyData.shownAll [bd o ts, .tuple (ns.map .int), clp o ts ns, .int ns.length]) ++ ("]" : Str)).length = 0 := congrArg Str.length z
  rw [Str.length_append] at e
  have h1 : ("]" : Str).length = 1 := rfl
  omega
theorem shown_v (h : s[k]? = some (ob o ts ns)) (hb : Bill o ts) (hn : Row ns) (hf : f ρ s = .ok (.ref k) s) : mBlt reprQ (mCons (mLst (mCons (mProp 9 g_File_bill f) (mCons (mProp 9 g_File_row f) (mCons (mAsk 9 none g_File___call__ f mNil) (mCons (mLenO 9 g_File___len__ (mCons f mNil)) mNil))))) mNil) ρ s = .ok (.str (sh o ts ns)) s :=
  blt_v (cons_v (lst_v (cons_v (bill_ok h hf) (cons_v (row_ok h hf) (cons_v (call_ok h hb hn hf) (cons_v (len_ok h hn.most hf) nil_ev)))) (by show 4 ≤ _; decide)) nil_ev) (rq_shd hb hn)
theorem shown_ok (h : s[k]? = some (ob o ts ns)) (hb : Bill o ts) (hn : Row ns) : g__law_shown [.ref k] s = .ok (.str (sh o ts ns)) s := by
  unfold g__law_shown d__law_shown
  rw [den_ev, show startD 1 [.ref k] = [some (.ref k)] from rfl, ret_v (shown_v (f := mVar 0) h hb hn rfl)]
  exact finC_rt
theorem kind_file (h : s[k]? = some (ob o ts ns)) : kindD 9 s (.ref k) = some none := by
  unfold kindD
  dsimp only
  rw [h]
  rfl
theorem andV_v {f g : FE} {c d : Bool} (h : f ρ s = .ok (.bl c) s) (h2 : g ρ s = .ok (.bl d) s) : mAndV f g ρ s = .ok (.bl (c && d)) s := by
  unfold mAndV
  rw [h, bind_ok]
  cases c with
  | true => exact h2
  | false => rfl
theorem andV_f {f g : FE} (h : f ρ s = .ok (.bl false) s) : mAndV f g ρ s = .ok (.bl false) s := by
  unfold mAndV
  rw [h, bind_ok]
theorem eqf_ok (h : s[k]? = some (ob o ts ns)) (h' : s[k']? = some (ob o' ts' ns')) (e1 : eqD s (bi o ts) (bi o' ts') = some (.bl c1)) (e2 : eqD s (tI ns) (tI ns') = some (.bl c2)) : g_File___eq__ [.ref k, .ref k'] s = .ok (.bl (c1 && c2)) s := by
  have hi : mBlt (isiO 9) (mCons (mVar 1) (mCons (mK (.cl 9)) mNil)) [some (.ref k), some (.ref k')] s = .ok (.bl true) s :=
    blt_v (cons_v (w := .ref k') rfl (cons_v k_ev nil_ev)) (by unfold isiO; dsimp only; rw [if_pos rfl, kind_file h']; rfl)
  unfold g_File___eq__ d_File___eq__
  rw [den_ev, show startD 2 [.ref k, .ref k'] = [some (.ref k), some (.ref k')] from rfl]
  rw [ret_v (andV_v hi (andV_v (bin_v (of_v (k := k) (f := mVar 0) rfl (ofB h)) (of_v (k := k') (f := mVar 1) rfl (ofB h')) e1) (bin_v (of_v (k := k) (f := mVar 0) rfl (ofR h)) (of_v (k := k') (f := mVar 1) rfl (ofR h')) e2)))]
  rw [Bool.true_and]
  exact finC_rt
theorem eqo_v (h : s[k]? = some (ob o ts ns)) (h' : s[k']? = some (ob o' ts' ns')) (hf : fo ρ s = .ok (.ref k) s) (hg : fv ρ s = .ok (.ref k') s) (e1 : eqD s (bi o ts) (bi o' ts') = some (.bl c1)) (e2 : eqD s (tI ns) (tI ns') = some (.bl c2)) :
    mEqO neg 9 g_File___eq__ fo fv ρ s = .ok (.bl ((c1 && c2) != neg)) s := by
  unfold mEqO
  rw [hf, bind_ok, hg, bind_ok, objO h]
  dsimp only
  rw [kind_file h', if_pos (by rfl), eqf_ok h h' e1 e2]
  rfl
theorem eqo_odd (h : s[k]? = some (ob o ts ns)) (hk : kindD 9 s v = some (some T)) (hf : fo ρ s = .ok (.ref k) s) (hg : fv ρ s = .ok v s) : mEqO neg 9 g_File___eq__ fo fv ρ s = .ok (.bl (false != neg)) s := by
  have e : g_File___eq__ [.ref k, v] s = .ok (.bl false) s := by
    have hi : mBlt (isiO 9) (mCons (mVar 1) (mCons (mK (.cl 9)) mNil)) [some (.ref k), some v] s = .ok (.bl false) s :=
      blt_v (cons_v (w := v) rfl (cons_v k_ev nil_ev)) (by unfold isiO; dsimp only; rw [if_pos rfl, hk]; rfl)
    unfold g_File___eq__ d_File___eq__
    rw [den_ev, show startD 2 [.ref k, v] = [some (.ref k), some v] from rfl]
    rw [ret_v (andV_f hi)]
    exact finC_rt
  unfold mEqO
  rw [hf, bind_ok, hg, bind_ok, objO h]
  dsimp only
  rw [hk, if_pos (by rfl), e]
  rfl
theorem eqB_refl (h : Bill o ts) : eqD s (bi o ts) (bi o ts) = some (.bl true) := eq_t_refl (pl_bi h) (by decide)
theorem eqR_refl (h : Row ns) : eqD s (tI ns) (tI ns) = some (.bl true) := eq_t_refl (pl_tI (row_sm h)) (by decide)
end
section
variable {os : Sto} {cs : List Int} {l p : Int} {j : Nat} {o : Int} {ts : List Term} {ns : List Int}
theorem turn_ok {many lap : Dv} (hj : os[j]? = some (ob o ts ns)) (hb : Bill o ts) (hn : Row ns) (hl : ns.length < 200) (hc : cs ≠ []) (hp : 0 ≤ p) (hp2 : p < 900000) :
    ∃ ms l' p', b__law_led_1 [some (.ref 2), some (.ref (3 + j)), some many, some lap] (S os cs l p) = .nx [some (.ref 2), some (.ref (3 + j)), some many, some lap] (S (os.set j (ob o ts ms)) cs l' p') ∧ Row ms ∧ ms.length ≤ ns.length + 1 ∧ 0 ≤ p' ∧ p' ≤ p + 3 := by
  have add : ∀ l p, 0 ≤ p → p < 950000 → ∃ r l' p', mExpr (mAsk 9 (some "add") g_File_add (mVar 1) (mCons (mCall (g__law_of) (mCons (mVar 0) (mCons (mLst (mCons (mK (.int 0)) (mCons (mK (.int 1)) (mCons (mK (.int 5)) (mCons (mCall (g__law_draw) (mCons (mVar 0) (mCons (mK (.int 1000)) mNil))) mNil))))) mNil))) mNil)) [some (.ref 2), some (.ref (3 + j)), some many, some lap] (S os cs l p) = .nx [some (.ref 2), some (.ref (3 + j)), some many, some lap] (S (os.set j (ob o ts (ns ++ [r]))) cs l' p') ∧ 0 ≤ r ∧ r ≤ 1000000 ∧ 0 ≤ p' ∧ p' ≤ p + 2 := by
    intro l p hp hp2
    obtain ⟨e, l2, p2, e1, e0, e50, p20, p21⟩ := (draw_ok (pre := P2) (tl := os) (l := l) hc (show (0 : Int) < 1000 by decide) (by decide) hp (by omega)).ok
    obtain ⟨w, l3, p3, hw, d3, p30, p31⟩ := law_of_ok (pre := P2) (tl := os) (l := l2) (ws := [.int 0, .int 1, .int 5, .int e]) hc p20 (by omega) (by intro z; cases z) (by show 4 < 1000; decide)
    obtain ⟨v, rfl, v0, v1⟩ : ∃ v : Int, w = .int v ∧ 0 ≤ v ∧ v ≤ 1000000 := by
      rcases List.mem_cons.mp hw with rfl | hw
      · exact ⟨0, rfl, by omega, by omega⟩
      rcases List.mem_cons.mp hw with rfl | hw
      · exact ⟨1, rfl, by omega, by omega⟩
      rcases List.mem_cons.mp hw with rfl | hw
      · exact ⟨5, rfl, by omega, by omega⟩
      rcases List.mem_cons.mp hw with rfl | hw
      · exact ⟨e, rfl, by omega, by omega⟩
      · cases hw
    have a := addd_ok (at_j (cs := cs) (l := l3) (p := p3) hj) hb hl v0 v1
    rw [S_set] at a
    have q : mCall (g__law_of) (mCons (mVar 0) (mCons (mLst (mCons (mK (.int 0)) (mCons (mK (.int 1)) (mCons (mK (.int 5)) (mCons (mCall (g__law_draw) (mCons (mVar 0) (mCons (mK (.int 1000)) mNil))) mNil))))) mNil)) [some (.ref 2), some (.ref (3 + j)), some many, some lap] (S os cs l p) = .ok (.int v) (S os cs l3 p3) :=
      call_v (cons_v (w := .ref 2) rfl (cons_v (lst_v (cons_v k_ev (cons_v k_ev (cons_v k_ev (cons_v (call_v (cons_v (w := .ref 2) rfl (cons_v k_ev nil_ev)) e1) nil_ev)))) (by show 4 ≤ _; decide)) nil_ev)) d3
    refine ⟨v, l3, p3, expr_v (w := gain o ts ns v) ?_, v0, v1, p30, by omega⟩
    unfold mAsk
    rw [show mVar 1 [some (.ref 2), some (.ref (3 + j)), some many, some lap] (S os cs l p) = .ok (.ref (3 + j)) (S os cs l p) from rfl, bind_ok, objO (at_j hj)]
    dsimp only
    rw [if_pos (by rfl), cons_v q nil_ev, bind_ok, a]
  have tl : mTest (mBin gtD (mLenO 9 g_File___len__ (mCons (mVar 1) mNil)) (mK (.int 0))) [some (.ref 2), some (.ref (3 + j)), some many, some lap] (S os cs l p) = .ok (decide ((0 : Int) < ns.length)) (S os cs l p) :=
    test_v (bin_v (len_ok (at_j hj) hn.most rfl) k_ev gt_ii)
  unfold b__law_led_1
  by_cases h0 : ns = []
  · subst h0
    obtain ⟨r, l2, p2, e, r0, r1, q0, q1⟩ := add l p hp (by omega)
    rw [decide_eq_false (by simp)] at tl
    exact ⟨[] ++ [r], l2, p2, (ifS_f (and_f tl)).trans e, row_snoc hn hl r0 r1, by simp, q0, by omega⟩
  · have hpos : 1 ≤ ns.length := List.length_pos_iff.mpr h0
    rw [decide_eq_true (by omega)] at tl
    obtain ⟨e, l1, p1, e1, e0, e50, p10, p11⟩ := (draw_ok (pre := P2) (tl := os) (l := l) hc (show (0 : Int) < 4 by decide) (by decide) hp (by omega)).ok
    have t2 : mTest (mBin eqD (mCall (g__law_draw) (mCons (mVar 0) (mCons (mK (.int 4)) mNil))) (mK (.int 0))) [some (.ref 2), some (.ref (3 + j)), some many, some lap] (S os cs l p) = .ok (decide (e = 0)) (S os cs l1 p1) :=
      test_v (bin_v (call_v (cons_v (w := .ref 2) rfl (cons_v k_ev nil_ev)) e1) k_ev eq_ii)
    by_cases he : e = 0
    · rw [decide_eq_true he] at t2
      have a := back1_ok (f := mVar 1) (ρ := [some (.ref 2), some (.ref (3 + j)), some many, some lap]) (at_j (cs := cs) (l := l1) (p := p1) hj) hpos rfl
      rw [S_set] at a
      exact ⟨ns.take (ns.length - 1), l1, p1, (ifS_t (and_t tl t2)).trans (expr_v a), row_take hn _, by rw [List.length_take]; omega, p10, by omega⟩
    · rw [decide_eq_false he] at t2
      obtain ⟨r, l2, p2, e2, r0, r1, q0, q1⟩ := add l1 p1 p10 (by omega)
      exact ⟨ns ++ [r], l2, p2, (ifS_f (and_t tl t2)).trans e2, row_snoc hn hl r0 r1, by rw [List.length_append]; exact Nat.le_refl _, q0, by omega⟩
theorem led_ok {n : Nat} (hj : os[j]? = some (ob o ts ns)) (hb : Bill o ts) (hn : Row ns) (hl : ns.length + n ≤ 200) (hc : cs ≠ []) (hp : 0 ≤ p) (hp2 : p < 800000) :
    ∃ ms l' p', g__law_led [.ref 2, .ref (3 + j), .int (n : Int)] (S os cs l p) = .ok (.str (sh o ts ms)) (S (os.set j (ob o ts ms)) cs l' p') ∧ Row ms ∧ ms.length ≤ ns.length + n ∧ 0 ≤ p' ∧ p' ≤ p + 3 * n := by
  have e0 : startD 4 [.ref 2, .ref (3 + j), .int (n : Int)] = [some (.ref 2), some (.ref (3 + j)), some (.int (n : Int)), none] := rfl
  have hF : F__law_led_1 [some (.ref 2), some (.ref (3 + j)), some (.int (n : Int)), none] (S os cs l p) = .ok { ws := rng 0 ((n : Int)).toNat } (S os cs l p) :=
    range1_ok (cons_v (w := .int (n : Int)) rfl nil_ev) (okR_s (by omega) (by omega))
  obtain ⟨ρ', s', f1, ms, l2, p2, x, rfl, hr, hlen, q0, q1, rfl⟩ := for_ix (g := t__law_led_1) (body := b__law_led_1)
    (fun i ρ s' => ∃ (ms : List Int) (l2 p2 : Int) (x : Option Dv), s' = S (os.set j (ob o ts ms)) cs l2 p2 ∧ Row ms ∧ ms.length ≤ ns.length + i ∧ 0 ≤ p2 ∧ p2 ≤ p + 3 * (i : Int) ∧ ρ = [some (.ref 2), some (.ref (3 + j)), some (.int (n : Int)), x])
    hF ⟨ns, l, p, none, by rw [set_self hj], hn, Nat.le_refl _, hp, by omega, rfl⟩ fun i x ρ s' hx hJ => by
      obtain ⟨ms, l2, p2, y, rfl, hr, hlen, q0, q1, rfl⟩ := hJ
      obtain ⟨hi, rfl⟩ := rng_get hx
      obtain ⟨ms', l3, p3, hb', hr', hlen', r0, r1⟩ := turn_ok (l := l2) (many := .int (n : Int)) (lap := .int (0 + (i : Int))) (get_j hj) hb hr (by omega) hc q0 (by omega)
      rw [List.set_set] at hb'
      exact ⟨_, _, _, rfl, .inl hb', ms', l3, p3, _, rfl, hr', by omega, r0, by omega, rfl⟩
  rw [rng_len] at q1 hlen
  refine ⟨ms, l2, p2, ?_, hr, by omega, q0, by omega⟩
  unfold g__law_led d__law_led
  rw [den_ev, e0]
  refine fin_nx f1 ?_
  rw [ret_v (shown_v (f := mVar 1) (k := 3 + j) (at_j (get_j hj)) hb hr rfl)]
  exact fin_rt (by rw [S_len, S_len, List.length_set]; exact Nat.le_refl _)
end
end MP.K18
set_option Elab.async false
set_option linter.all false
set_option maxRecDepth 100000
set_option maxHeartbeats 400000
namespace MP.K18
open PySem PySem.Spec PyProof.Rows L2 MP
section
variable {s s1 s2 : Sto} {ρ : Env} {k t : Nat} {o : Int} {ts : List Term} {ns ns0 ns2 : List Int} {f fo fv : FE} {w : Dv} {x : Ex}
theorem app_at {y : Ob} : (s ++ [y])[s.length]? = some y := by
  rw [List.getElem?_append_right (Nat.le_refl _), Nat.sub_self]
  rfl
theorem app_get {y z : Ob} (h : s[k]? = some z) : (s ++ [y])[k]? = some z := by
  rw [List.getElem?_append_left (get_lt h)]
  exact h
theorem app_set {y z : Ob} : (s ++ [y]).set s.length z = s ++ [z] := by
  rw [List.set_append_right _ _ (Nat.le_refl _), Nat.sub_self]
  rfl
/-- an object that a def made goes out -/
theorem fin_obj {n c : Nat} {fs : List (Str × Dv)} (hn : s.length = n) : finC n (.rt (.ref n) (s ++ [.obj c fs])) = .ok (.ref n) (s ++ [.obj c fs]) := by
  subst hn
  show finW s.length (.ref s.length) (s ++ [.obj c fs]) = _
  unfold finW
  rw [if_neg (by rw [List.length_append]; show ¬ s.length + 1 ≤ s.length; omega)]
  split
  · have e : fz 4 (s ++ [Ob.obj c fs]) s.length (.ref s.length) = none := by
      unfold fz
      rw [if_neg (by unfold clean; simp)]
      dsimp only
      rw [app_at]
    rw [e]
  · rfl
theorem initT_ok (hk : s[k]? = some (ob o ts ns)) : g_Trial___init__ [.ref s.length, .ref k] (s ++ [.obj 10 []]) = .ok .non (s ++ [tr k ns]) := by
  have e0 : startD 2 [.ref s.length, .ref k] = [some (.ref s.length), some (.ref k)] := rfl
  have e1 : mFSet 10 "_one" (mVar 0) (mVar 1) [some (.ref s.length), some (.ref k)] (s ++ [.obj 10 []]) = .nx [some (.ref s.length), some (.ref k)] (s ++ [.obj 10 [("_one", .ref k)]]) := by
    have := fset_v (m := "_one") (fv := mVar 1) (fo := mVar 0) (ρ := [some (.ref s.length), some (.ref k)]) (s := s ++ [.obj 10 []]) (w := .ref k) rfl rfl app_at (by decide)
    rw [app_set] at this
    exact this
  have e2 : mFSet 10 "_before" (mVar 0) (mProp 9 g_File_row (mVar 1)) [some (.ref s.length), some (.ref k)] (s ++ [.obj 10 [("_one", .ref k)]]) = .nx [some (.ref s.length), some (.ref k)] (s ++ [tr k ns]) := by
    have := fset_v (m := "_before") (fo := mVar 0) (row_ok (f := mVar 1) (ρ := [some (.ref s.length), some (.ref k)]) (s := s ++ [.obj 10 [("_one", .ref k)]]) (app_get hk) rfl) rfl app_at (by show 1 < 100; decide)
    rw [app_set] at this
    exact this
  unfold g_Trial___init__ d_Trial___init__
  rw [den_ev, e0, seq_nx e1 e2]
  exact finW_le (by rw [List.length_append, List.length_append]; exact Nat.le_refl _)
theorem trial_new (hk : s[k]? = some (ob o ts ns)) : g_File_trial [.ref k] s = .ok (.ref s.length) (s ++ [tr k ns]) := by
  have e : mMake 10 g_Trial___init__ (mCons (mVar 0) mNil) [some (.ref k)] s = .ok (.ref s.length) (s ++ [tr k ns]) := by
    unfold mMake
    rw [cons_v (w := .ref k) rfl nil_ev, bind_ok, initT_ok hk]
  unfold g_File_trial d_File_trial
  rw [den_ev, show startD 1 [.ref k] = [some (.ref k)] from rfl, ret_v e]
  exact fin_obj rfl
theorem trial_ok (hk : s[k]? = some (ob o ts ns)) (hf : f ρ s = .ok (.ref k) s) : mAsk 9 (some "trial") g_File_trial f mNil ρ s = .ok (.ref s.length) (s ++ [tr k ns]) := ask_v hk rfl hf nil_ev (trial_new hk)
theorem ofO (h : s[t]? = some (tr k ns)) : ofD 10 "_one" s (.ref t) = some (.ref k) := by
  unfold ofD objOf
  dsimp only
  rw [h]
  rfl
theorem ofBf (h : s[t]? = some (tr k ns)) : ofD 10 "_before" s (.ref t) = some (tI ns) := by
  unfold ofD objOf
  dsimp only
  rw [h]
  rfl
theorem objT (h : s[t]? = some (tr k ns)) : objOf 10 s (.ref t) = some [(("_one" : Str), .ref k), ("_before", tI ns)] := by
  unfold objOf
  dsimp only
  rw [h]
  rfl
theorem enter_ok (ht : s[t]? = some (tr k ns0)) (hk : s[k]? = some (ob o ts ns)) : g_Trial___enter__ [.ref t] s = .ok (.ref k) (s.set t (tr k ns)) := by
  have e1 : mFSet 10 "_before" (mVar 0) (mProp 9 g_File_row (mOf 10 "_one" (mVar 0))) [some (.ref t)] s = .nx [some (.ref t)] (s.set t (tr k ns)) :=
    fset_v (m := "_before") (fo := mVar 0) (row_ok (f := mOf 10 "_one" (mVar 0)) (ρ := [some (.ref t)]) hk (of_v (k := t) rfl (ofO ht))) rfl ht (by show 2 < 100; decide)
  unfold g_Trial___enter__ d_Trial___enter__
  rw [den_ev, show startD 1 [.ref t] = [some (.ref t)] from rfl]
  refine fin_nx e1 ?_
  rw [ret_v (of_v (k := t) (f := mVar 0) rfl (ofO (get_set ht)))]
  exact fin_set_rt
theorem exit_ev (ht : s[t]? = some (tr k ns)) (hk : s[k]? = some (ob o ts ns2)) : gx_Trial___exit__ (.ref t) s = .ok .non (s.set k (ob o ts ns)) := by
  have e1 : mFSet 9 "_row" (mOf 10 "_one" (mVar 0)) (mOf 10 "_before" (mVar 0)) [some (.ref t), none, none, none] s = .nx [some (.ref t), none, none, none] (s.set k (ob o ts ns)) := by
    have := fset_v (m := "_row") (fv := mOf 10 "_before" (mVar 0)) (fo := mOf 10 "_one" (mVar 0)) (ρ := [some (.ref t), none, none, none]) (of_v (k := t) rfl (ofBf ht)) (of_v (k := t) rfl (ofO ht)) hk (by show 2 < 100; decide)
    rw [put_row] at this
    exact this
  unfold gx_Trial___exit__ d_Trial___exit__
  rw [show startX 4 (.ref t) = [some (.ref t), none, none, none] from rfl, e1]
  exact fin_set_nx
variable {g : Dv → Sto → R Dv}
theorem exit_rt {dex : Dv → Sto → R Dv} {y : Dv} (e : dex y s = .ok .non s1) : exitC dex y (.rt w s) = .rt w s1 := by
  show (match dex y s with | .ok .non s' => C.rt w s' | _ => .no) = _
  rw [e]
theorem exit_er {dex : Dv → Sto → R Dv} {y : Dv} (e : dex y s = .ok .non s1) : exitC dex y (.er x ρ s) = .er x ρ s1 := by
  show (match dex y s with | .ok .non s' => C.er x ρ s' | _ => .no) = _
  rw [e]
theorem fin_exit {dex : Dv → Sto → R Dv} {y : Dv} {n : Nat} {ρ' : Env} : finC n (exitC dex y (.er x ρ s)) = finC n (exitC dex y (.er x ρ' s)) := by
  show finC n (match dex y s with | .ok .non s' => C.er x ρ s' | _ => .no) = finC n (match dex y s with | .ok .non s' => C.er x ρ' s' | _ => .no)
  cases dex y s with
  | no => rfl
  | er _ _ => rfl
  | ok v s3 => cases v <;> rfl
theorem thk_ev {cl w0 wd : Dv} : mRet (mThk1 1 cl g (mCons (mVar 2) mNil)) [some w0, some cl, some wd] s = (g wd s).thenC [some w0, some cl, some wd] fun v s' => .rt v s' := by
  unfold mRet mThk1
  rw [if_pos (by rfl), cons_v (w := wd) (f := mVar 2) (ρ := [some w0, some cl, some wd]) (s := s) rfl nil_ev, bind_ok]
theorem with_ev {cl : Dv} (ht : s[t]? = some (tr k ns0)) (hk : s[k]? = some (ob o ts ns)) : d_under cl g (startD 3 [.ref t, cl]) s = exitC gx_Trial___exit__ (.ref t) ((g (.ref k) (s.set t (tr k ns))).thenC [some (.ref t), some cl, some (.ref k)] fun v s' => .rt v s') := by
  unfold d_under mWith
  rw [show startD 3 [Dv.ref t, cl] = [some (.ref t), some cl, none] from rfl, show mVar 0 [some (.ref t), some cl, none] s = .ok (.ref t) s from rfl, then_ok, objT ht]
  dsimp only
  rw [enter_ok ht hk, then_ok, show ([some (.ref t), some cl, none] : Env).set 2 (some (.ref k)) = [some (.ref t), some cl, some (.ref k)] from rfl, thk_ev]
theorem under_ok (ht : s[t]? = some (tr k ns0)) (hk : s[k]? = some (ob o ts ns)) (hg : g (.ref k) (s.set t (tr k ns)) = .ok w s2) (h2 : s2[t]? = some (tr k ns)) (h3 : s2[k]? = some (ob o ts ns2)) (hl : s2.length = s.length) : h_under g [.ref t] s = .ok w (s2.set k (ob o ts ns)) := by
  unfold h_under
  dsimp only
  rw [with_ev ht hk, hg, then_ok, exit_rt (exit_ev h2 h3)]
  exact finW_le (by rw [List.length_set, hl]; exact Nat.le_refl _)
theorem under_er (ht : s[t]? = some (tr k ns0)) (hk : s[k]? = some (ob o ts ns)) (hg : g (.ref k) (s.set t (tr k ns)) = .er x s2) (h2 : s2[t]? = some (tr k ns)) (h3 : s2[k]? = some (ob o ts ns2)) (hl : s2.length = s.length) : h_under g [.ref t] s = .er x (s2.set k (ob o ts ns)) := by
  unfold h_under
  dsimp only
  rw [with_ev ht hk, hg]
  show finC s.length (exitC gx_Trial___exit__ (.ref t) (.er x _ s2)) = _
  rw [exit_er (exit_ev h2 h3)]
  show finX s.length x (s2.set k (ob o ts ns)) = _
  unfold finX
  rw [if_pos (by rw [List.length_set, hl]; exact Nat.le_refl _)]
theorem lamU_ev {nt m : Nat} {q : Str} {gb f0 : FE} {den : (Dv → Sto → R Dv) → Fn} {s0 : Sto} {w0 : Dv} (h0 : f0 ρ s = .ok w0 s0) (h : s0[nt]? = some (.tab m q)) : mLamU nt m q gb den f0 ρ s = den (fun wd st => gb (ρ ++ [some wd]) st) [w0] s0 := by
  unfold mLamU
  rw [h0, bind_ok, h]
  dsimp only
  rw [if_pos ⟨rfl, rfl⟩]
theorem hd_under (cl : Dv) (g : Dv → Sto → R Dv) (w0 : Dv) (s : Sto) : finC s.length (d_under cl g (startD 3 [w0, cl]) s) = h_under g [w0] s := by
  unfold h_under d_under mWith
  dsimp only
  rw [show startD 3 [w0, cl] = [some w0, some cl, none] from rfl, show startD 3 [w0, Dv.non] = [some w0, some .non, none] from rfl, show mVar 0 [some w0, some cl, none] s = .ok w0 s from rfl, show mVar 0 [some w0, some .non, none] s = .ok w0 s from rfl, then_ok, then_ok]
  cases objOf 10 s w0 with
  | none => rfl
  | some fs =>
    dsimp only
    cases g_Trial___enter__ [w0] s with
    | no => rfl
    | er x s1 => rfl
    | ok w s1 =>
      rw [then_ok, then_ok, show ([some w0, some cl, none] : Env).set 2 (some w) = [some w0, some cl, some w] from rfl, show ([some w0, some Dv.non, none] : Env).set 2 (some w) = [some w0, some .non, some w] from rfl, thk_ev, thk_ev]
      cases g w s1 with
      | no => rfl
      | ok v s2 => rfl
      | er x s2 =>
        exact fin_exit
end
end MP.K18
set_option Elab.async false
set_option linter.all false
set_option maxRecDepth 100000
set_option maxHeartbeats 400000
namespace MP.K18
open PySem PySem.Spec PyProof.Rows L2 MP
section
variable {os : Sto} {cs : List Int} {l p : Int} {j : Nat} {o : Int} {ts : List Term} {ns ms : List Int} {s : Sto} {x : Ob}
theorem ob_clean (n : Nat) : (ob o ts ns).clean n = true := by
  show ((clean n (bi o ts) && (cleans n (ns.map .int) && true))) = true
  rw [clean_bi, cleans_int]
  rfl
theorem tr_clean {k n : Nat} (h : k < n) : (tr k ns).clean n = true := by
  show (decide (k < n) && (cleans n (ns.map .int) && true)) = true
  rw [cleans_int, decide_eq_true h]
  rfl
theorem cl_set {y : Ob} (ho : ClP P2 os) (h : ∀ n, r1 P2 os ≤ n → y.clean n = true) : ClP P2 (os.set j y) := fun n hn => by
  have hn1 : r1 P2 os ≤ n := by unfold r1 at *; rw [List.length_set] at hn; exact hn
  have hn : r1 P2 os ≤ n := by unfold r1 at *; rw [List.length_set] at hn; exact hn
  refine ⟨(ho n hn).1, List.all_eq_true.mpr fun z hz => ?_⟩
  rcases List.mem_or_eq_of_mem_set hz with hz | rfl
  · exact List.all_eq_true.mp (ho n hn).2 z hz
  · exact h n hn1
theorem cl_app {y : Ob} (ho : ClP P2 os) (h : ∀ n, r1 P2 os < n → y.clean n = true) : ClP P2 (os ++ [y]) := fun n hn => by
  have hn' : r1 P2 os < n := by unfold r1 at *; rw [List.length_append] at hn; simp at hn ⊢; omega
  refine ⟨(ho n (Nat.le_of_lt hn')).1, ?_⟩
  rw [List.all_append, (ho n (Nat.le_of_lt hn')).2]
  show (true && (y.clean n && true)) = true
  rw [h n hn']
  rfl
/-- what a def made goes with it -/
theorem fin_drop {w : Dv} {l' p' : Int} {us : Sto} (ho : ClP P2 os) (hw : ∀ n, clean n w = true) : finC (3 + os.length) (.rt w (S (os ++ us) cs l' p')) = .ok w (S os cs l' p') := by
  have hl : (S (os ++ us) cs l' p').take (3 + os.length) = S os cs l' p' := by
    show (Ob.tab 0 lq__law_block :: Ob.tab 1 lq__law_tried :: Dc cs l' p' :: (os ++ us)).take (3 + os.length) = _
    rw [Nat.add_comm]
    show _ :: _ :: _ :: (os ++ us).take os.length = _
    rw [List.take_left' rfl]
    rfl
  show finW (3 + os.length) w (S (os ++ us) cs l' p') = _
  unfold finW
  split
  · rename_i h
    have : us = [] := by
      rw [S_len, List.length_append] at h
      exact List.length_eq_zero_iff.mp (by omega)
    rw [this, List.append_nil]
  · rw [hl, if_pos (St_clean ho (by unfold r1; exact Nat.le_refl _))]
    have e : fz 4 (S (os ++ us) cs l' p') (3 + os.length) w = some w := by
      unfold fz
      exact if_pos (hw _)
    rw [e]
theorem cut_end {ns : List Int} {v : Int} (h : ns.length ≤ 1000) : cutD ((ns ++ [v]).map Dv.int) (some (-1)) none = [.int v] := by
  have hl : ((ns ++ [v]).map Dv.int).length = ns.length + 1 := by rw [List.length_map, List.length_append]; rfl
  unfold cutD
  rw [hl]
  have e1 : HT.sIx (ns.length + 1) 0 (some (-1)) = ns.length := by
    show (if (-1 : Int) < 0 then (-1 + ((ns.length + 1 : Nat) : Int)).toNat else min (-1 : Int).toNat (ns.length + 1)) = _
    rw [if_pos (by decide)]
    omega
  rw [HT.sIx_none, e1, List.map_append, List.drop_left' (by rw [List.length_map])]
  show ([Dv.int v]).take (ns.length + 1 - ns.length) = _
  rw [show ns.length + 1 - ns.length = 1 by omega]
  rfl
theorem is_int_non : g_is_result [.non] s = .ok (.bl false) s := by
  unfold g_is_result d_is_result
  have hi : isiD s [.non, .ty "int"] = some (.bl false) := rfl
  have e : g_is_int_within [.non, .int 0, .int 1000000] s = .ok (.bl false) s := by simp [g_is_int_within, d_is_int_within, g_is_int, d_is_int, hi, andK, R.of]
  rw [den_ev, show startD 1 [Dv.non] = [some .non] from rfl, ret_v (call_v (cons_v (w := .non) rfl (cons_v k_ev (cons_v k_ev nil_ev))) e)]
  exact finC_rt
theorem add_non {k : Nat} : g_File_add [.ref k, .non] s = .er ⟨4, "value", .non⟩ s := by
  have e0 : startD 2 [.ref k, .non] = [some (.ref k), some .non] := rfl
  have t1 : mNot (mTest (mCall (g_is_result) (mCons (mVar 1) mNil))) [some (.ref k), some .non] s = .ok true s :=
    not_v (test_v (call_v (cons_v (w := .non) rfl nil_ev) is_int_non))
  unfold g_File_add d_File_add
  rw [den_ev, e0]
  refine fin_erS (ifS_t t1) ?_
  show finX s.length ⟨4, "value", .non⟩ s = _
  unfold finX
  rw [if_pos (Nat.le_refl _)]
abbrev eb (j : Nat) (way : Int) (x : Option Dv) : Env := [some (.ref 2), some (.ref (3 + j)), some (.ref (3 + j)), some (.int way), x]
/-- the inner trial of a block -/
theorem inner_ok {way : Int} {y : Option Dv} (hj : os[j]? = some (ob o ts ns)) (hb : Bill o ts) (hn : Row ns) (hl : ns.length + 2 ≤ 200) (hc : cs ≠ []) (hp : 0 ≤ p) (hp2 : p < 800000) :
    ∃ ms l' p', mLamU 0 0 lq__law_block l__law_block_1 h_under (mAsk 9 (some "trial") g_File_trial (mVar 2) mNil) (eb j way y) (S os cs l p) = .ok (.str (sh o ts ms)) (S (os ++ [tr (3 + j) ns]) cs l' p') ∧ 0 ≤ p' ∧ p' ≤ p + 6 := by
  have t0 := trial_ok (f := mVar 2) (ρ := eb j way y) (at_j (cs := cs) (l := l) (p := p) hj) rfl
  have hj' : (os ++ [tr (3 + j) ns])[j]? = some (ob o ts ns) := app_get hj
  have ht : (S (os ++ [tr (3 + j) ns]) cs l p)[3 + os.length]? = some (tr (3 + j) ns) := at_j app_at
  obtain ⟨ms, l2, p2, d1, hr, hlen, q0, q1⟩ := led_ok (n := 2) (l := l) hj' hb hn hl hc hp hp2
  have hne : os.length ≠ j := fun z => by have := get_lt hj; omega
  have hu := under_ok (g := fun wd st => l__law_block_1 (eb j way y ++ [some wd]) st) (s := S (os ++ [tr (3 + j) ns]) cs l p) (t := 3 + os.length) (ns2 := ms) ht (at_j hj')
    (w := .str (sh o ts ms)) (s2 := S ((os ++ [tr (3 + j) ns]).set j (ob o ts ms)) cs l2 p2) (by
      rw [S_set, set_self app_at]
      exact call_v (cons_v (w := .ref 2) rfl (cons_v (w := .ref (3 + j)) rfl (cons_v k_ev nil_ev))) d1)
    (by rw [S_get, get_other hne]; exact app_at) (at_j (get_j hj')) (by rw [S_len, S_len, List.length_set])
  rw [S_set, List.set_set, set_self hj'] at hu
  refine ⟨ms, l2, p2, ?_, q0, by omega⟩
  rw [lamU_ev (w0 := .ref (3 + os.length)) (s0 := S (os ++ [tr (3 + j) ns]) cs l p) (by rw [t0, S_len]; rfl) (by rfl)]
  exact hu
theorem block_ok {way : Nat} (hw : way < 4) (ho : ClP P2 os) (hj : os[j]? = some (ob o ts ns)) (hb : Bill o ts) (hn : Row ns) (hl : ns.length + 10 ≤ 200) (hc : cs ≠ []) (hp : 0 ≤ p) (hp2 : p < 700000) :
    ∃ ms l' p', g__law_block [.ref 2, .ref (3 + j), .ref (3 + j), .int (way : Int)] (S os cs l p) = (if way = 1 then .er ⟨4, "value", .non⟩ (S (os.set j (ob o ts ms)) cs l' p') else .ok (.str "done") (S (os.set j (ob o ts ms)) cs l' p')) ∧ Row ms ∧ 0 ≤ p' ∧ p' ≤ p + 20 := by
  have e0 : startD 5 [.ref 2, .ref (3 + j), .ref (3 + j), .int (way : Int)] = eb j way none := rfl
  obtain ⟨ms, l1, p1, d1, hr, hlen, q0, q1⟩ := led_ok (n := 3) (l := l) hj hb hn (by omega) hc hp (by omega)
  have hj1 := get_j (y := ob o ts ms) hj
  have t1 : mOr (mTest (mBin neD (mCall (g__law_led) (mCons (mVar 0) (mCons (mVar 2) (mCons (mK (.int 3)) mNil)))) (mCall (g__law_shown) (mCons (mVar 1) mNil)))) (mTest (mEqO true 9 g_File___eq__ (mVar 2) (mVar 1))) (eb j way none) (S os cs l p) = .ok false (S (os.set j (ob o ts ms)) cs l1 p1) :=
    or_f (test_v (bin_v (call_v (cons_v (w := .ref 2) rfl (cons_v (w := .ref (3 + j)) rfl (cons_v k_ev nil_ev))) d1) (call_v (cons_v (w := .ref (3 + j)) rfl nil_ev) (shown_ok (at_j hj1) hb hr)) (ne_of_eq eq_refl_ss)))
      (test_v (eqo_v (neg := true) (at_j hj1) (at_j hj1) rfl rfl (eqB_refl hb) (eqR_refl hr)))
  have tw : ∀ (i : Int) (y : Option Dv) (s : Sto), mTest (mBin eqD (mVar 3) (mK (.int i))) (eb j way y) s = .ok (decide ((way : Int) = i)) s := fun i y s => test_v (bin_v (x := .int (way : Int)) rfl k_ev eq_ii)
  by_cases h1 : way = 1
  · subst h1
    refine ⟨ms, l1, p1, ?_, hr, q0, by omega⟩
    rw [if_pos rfl]
    have e2 : mExpr (mAsk 9 (some "add") g_File_add (mVar 2) (mCons (mK .non) mNil)) (eb j (1 : Nat) none) (S (os.set j (ob o ts ms)) cs l1 p1) = .er ⟨4, "value", .non⟩ (eb j (1 : Nat) none) (S (os.set j (ob o ts ms)) cs l1 p1) := by
      have a := ask_e (mm := some "add") (fo := mVar 2) (fa := mCons (mK .non) mNil) (ρ := eb j (1 : Nat) none) (at_j (cs := cs) (l := l1) (p := p1) hj1) rfl rfl (cons_v k_ev nil_ev) add_non
      unfold mExpr
      rw [a]
      rfl
    unfold g__law_block d__law_block
    rw [den_ev, e0]
    refine fin_nx ((ifS_f t1).trans next_ev) (fin_erS ((ifS_t (tw 1 none _)).trans e2) ?_)
    show finX _ _ _ = _
    unfold finX
    rw [if_pos (by rw [S_len, S_len, List.length_set]; exact Nat.le_refl _)]
  · -- what is there behind the second and the third statement
    obtain ⟨y, us, l2, p2, e3, q20, q21⟩ : ∃ (y : Option Dv) (us : Sto) (l2 p2 : Int), mIfS (mTest (mBin eqD (mVar 3) (mK (.int 2)))) (mSeq (mAsg (mCall (g__law_shown) (mCons (mVar 2) mNil)) (gN 4))
        (mIfS (mOr (mTest (mBin eqD (mLamU 0 0 lq__law_block l__law_block_1 h_under (mAsk 9 (some "trial") g_File_trial (mVar 2) mNil)) (mK (.str "")))) (mTest (mBin neD (mCall (g__law_shown) (mCons (mVar 1) mNil)) (mVar 4)))) (mRet (mK (.str "inner"))) mNext)) mNext (eb j way none) (S (os.set j (ob o ts ms)) cs l1 p1) = .nx (eb j way y) (S (os.set j (ob o ts ms) ++ us) cs l2 p2) ∧ 0 ≤ p2 ∧ p2 ≤ p1 + 6 := by
      by_cases h2 : way = 2
      · subst h2
        obtain ⟨m2, l2, p2, d2, r0, r1⟩ := inner_ok (way := ((2 : Nat) : Int)) (y := some (.str (sh o ts ms))) (l := l1) hj1 hb hr (by omega) hc q0 (by omega)
        have s1 : mAsg (mCall (g__law_shown) (mCons (mVar 2) mNil)) (gN 4) (eb j (2 : Nat) none) (S (os.set j (ob o ts ms)) cs l1 p1) = .nx (eb j (2 : Nat) (some (.str (sh o ts ms)))) (S (os.set j (ob o ts ms)) cs l1 p1) :=
          (asg_v (call_v (cons_v (w := .ref (3 + j)) rfl nil_ev) (shown_ok (at_j hj1) hb hr))).trans rfl
        have t2 : mOr (mTest (mBin eqD (mLamU 0 0 lq__law_block l__law_block_1 h_under (mAsk 9 (some "trial") g_File_trial (mVar 2) mNil)) (mK (.str "")))) (mTest (mBin neD (mCall (g__law_shown) (mCons (mVar 1) mNil)) (mVar 4))) (eb j (2 : Nat) (some (.str (sh o ts ms)))) (S (os.set j (ob o ts ms)) cs l1 p1) = .ok false (S (os.set j (ob o ts ms) ++ [tr (3 + j) ms]) cs l2 p2) :=
          or_f (test_v (bin_v d2 k_ev (by rw [eq_ss, decide_eq_false sh_ne])))
            (test_v (bin_v (call_v (cons_v (w := .ref (3 + j)) rfl nil_ev) (shown_ok (at_j (app_get hj1)) hb hr)) (y := .str (sh o ts ms)) rfl (ne_of_eq eq_refl_ss)))
        exact ⟨some (.str (sh o ts ms)), [tr (3 + j) ms], l2, p2, (ifS_t (tw 2 none _)).trans (seq_nx s1 ((ifS_f t2).trans next_ev)), r0, r1⟩
      · refine ⟨none, [], l1, p1, ?_, q0, by omega⟩
        rw [List.append_nil]
        have := tw 2 none (S (os.set j (ob o ts ms)) cs l1 p1)
        rw [decide_eq_false (by omega)] at this
        exact (ifS_f this).trans next_ev
    have hj2 : (os.set j (ob o ts ms) ++ us)[j]? = some (ob o ts ms) := by
      rw [List.getElem?_append_left (get_lt hj1)]
      exact hj1
    have hr9 : Row (ms ++ [9]) := row_snoc hr (by omega) (by decide) (by decide)
    have e4 : mExpr (mAsk 9 (some "add") g_File_add (mVar 1) (mCons (mK (.int 9)) mNil)) (eb j way y) (S (os.set j (ob o ts ms) ++ us) cs l2 p2) = .nx (eb j way y) (S (os.set j (ob o ts (ms ++ [9])) ++ us) cs l2 p2) := by
      have a := add_ok (f := mVar 1) (fv := mK (.int 9)) (ρ := eb j way y) (at_j (cs := cs) (l := l2) (p := p2) hj2) hb (by omega) (show (0 : Int) ≤ 9 by decide) (by decide) rfl k_ev
      rw [S_set, List.set_append_left _ _ (get_lt hj1), List.set_set] at a
      exact expr_v a
    have hj3 : (os.set j (ob o ts (ms ++ [9])) ++ us)[j]? = some (ob o ts (ms ++ [9])) := by
      rw [List.getElem?_append_left (by rw [List.length_set]; exact get_lt hj)]
      exact get_j hj
    have t5 : mTest (mBin eqD (mSl slA (mProp 9 g_File_row (mVar 2)) (mPart (mUn negD (mK (.int 1)))) mNoPart) (mTup (mCons (mK (.int 9)) mNil))) (eb j way y) (S (os.set j (ob o ts (ms ++ [9])) ++ us) cs l2 p2) = .ok true (S (os.set j (ob o ts (ms ++ [9])) ++ us) cs l2 p2) :=
      test_v (bin_v (sl_v (row_ok (at_j hj3) rfl) (part_v (un_v k_ev neg_ev)) nopart_ev ((by rw [sl_tup, cut_end (by omega)]) : slA (S (os.set j (ob o ts (ms ++ [9])) ++ us) cs l2 p2) (tI (ms ++ [9])) (some (-1)) none = some (.tup [.int 9]))) (tup_v (cons_v k_ev nil_ev) (by show 1 ≤ _; decide)) (eqR_refl (ns := [9]) ⟨by decide, by decide⟩))
    refine ⟨ms ++ [9], l2, p2, ?_, hr9, q20, by omega⟩
    rw [if_neg h1]
    unfold g__law_block d__law_block
    rw [den_ev, e0]
    have t3 := tw 1 none (S (os.set j (ob o ts ms)) cs l1 p1)
    rw [decide_eq_false (by omega)] at t3
    refine fin_nx ((ifS_f t1).trans next_ev) (fin_nx ((ifS_f t3).trans next_ev) (fin_nx e3 (fin_nx e4 ?_)))
    rw [ret_v (if_vt t5 k_ev), S_len, show os.length = (os.set j (ob o ts (ms ++ [9]))).length by rw [List.length_set]]
    exact fin_drop (cl_set ho fun n _ => ob_clean n) fun n => rfl
end
end MP.K18
set_option Elab.async false
set_option linter.all false
set_option maxRecDepth 100000
set_option maxHeartbeats 400000
namespace MP.K18
open PySem PySem.Spec PyProof.Rows L2 MP
section
variable {os : Sto} {cs : List Int} {l p : Int} {i j : Nat} {o : Int} {ts : List Term} {ns ns0 ms : List Int} {s : Sto} {x : Ob}
abbrev et (j e : Nat) (way : Int) (x y z : Option Dv) : Env := [some (.ref 2), some (.ref (3 + j)), some (.ref e), some (.int way), x, y, z]
theorem cl_tr (ho : ClP P2 os) (hj : os[j]? = some x) : ∀ n, r1 P2 os ≤ n → (tr (3 + j) ns).clean n = true := fun n hn => tr_clean (by
  have := get_lt hj
  unfold r1 at hn
  have : P2.length = 2 := rfl
  omega)
/-- a block within a trial at the place i -/
theorem within_ok {way : Nat} {y z : Option Dv} {e : Nat} (hw : way < 4) (ho : ClP P2 os) (hj : os[j]? = some (ob o ts ns)) (hi : os[i]? = some (tr (3 + j) ns0)) (hb : Bill o ts) (hn : Row ns) (hl : ns.length + 10 ≤ 200) (hc : cs ≠ []) (hp : 0 ≤ p) (hp2 : p < 700000) :
    ∃ l' p', h_under (fun wd st => l__law_tried_1 (et j e way y z none ++ [some wd]) st) [.ref (3 + i)] (S os cs l p) = (if way = 1 then .er ⟨4, "value", .non⟩ (S (os.set i (tr (3 + j) ns)) cs l' p') else .ok (.str "done") (S (os.set i (tr (3 + j) ns)) cs l' p')) ∧ 0 ≤ p' ∧ p' ≤ p + 20 := by
  have hne : i ≠ j := fun z => by
    subst z
    rw [hj] at hi
    cases hi
  have hj' : (os.set i (tr (3 + j) ns))[j]? = some (ob o ts ns) := (get_other hne.symm).trans hj
  have hi' : ∀ m, ((os.set i (tr (3 + j) ns)).set j (ob o ts m))[i]? = some (tr (3 + j) ns) := fun m => (get_other hne).trans (get_j hi)
  obtain ⟨m, l2, p2, d, hr, q0, q1⟩ := block_ok (l := l) (way := way) hw (cl_set ho (cl_tr ho hj)) hj' hb hn hl hc hp hp2
  refine ⟨l2, p2, ?_, q0, q1⟩
  have hg : (fun wd st => l__law_tried_1 (et j e way y z none ++ [some wd]) st) (.ref (3 + j)) ((S os cs l p).set (3 + i) (tr (3 + j) ns)) = g__law_block [.ref 2, .ref (3 + j), .ref (3 + j), .int (way : Int)] (S (os.set i (tr (3 + j) ns)) cs l p) := by
    rw [S_set]
    exact call_v (cons_v (w := .ref 2) rfl (cons_v (w := .ref (3 + j)) rfl (cons_v (w := .ref (3 + j)) rfl (cons_v (w := .int (way : Int)) rfl nil_ev)))) rfl
  have e0 : (S ((os.set i (tr (3 + j) ns)).set j (ob o ts m)) cs l2 p2).length = (S os cs l p).length := by rw [S_len, S_len, List.length_set, List.length_set]
  have e1 : (S ((os.set i (tr (3 + j) ns)).set j (ob o ts m)) cs l2 p2).set (3 + j) (ob o ts ns) = S (os.set i (tr (3 + j) ns)) cs l2 p2 := by rw [S_set, List.set_set, set_self hj']
  by_cases h1 : way = 1
  · rw [if_pos h1] at d ⊢
    rw [← e1]
    exact under_er (at_j hi) (at_j hj) (hg.trans d) (at_j (hi' m)) (at_j (get_j hj')) e0
  · rw [if_neg h1] at d ⊢
    rw [← e1]
    exact under_ok (at_j hi) (at_j hj) (hg.trans d) (at_j (hi' m)) (at_j (get_j hj')) e0
theorem tried_ok {way : Nat} (hw : way < 4) (ho : ClP P2 os) (hj : os[j]? = some (ob o ts ns)) (hi : os[i]? = some (tr (3 + j) ns0)) (hb : Bill o ts) (hn : Row ns) (hl : ns.length + 10 ≤ 200) (hc : cs ≠ []) (hp : 0 ≤ p) (hp2 : p < 700000) :
    ∃ ms l' p', g__law_tried [.ref 2, .ref (3 + j), .ref (3 + i), .int (way : Int)] (S os cs l p) = .ok (.bl true) (S (os.set i (tr (3 + j) ms)) cs l' p') ∧ 0 ≤ p' ∧ p' ≤ p + 20 := by
  have hne : i ≠ j := fun z => by
    subst z
    rw [hj] at hi
    cases hi
  have e0 : startD 7 [.ref 2, .ref (3 + j), .ref (3 + i), .int (way : Int)] = et j (3 + i) way none none none := rfl
  have s1 : mPar 4 5 (mCons (mCall (g__law_shown) (mCons (mVar 1) mNil)) (mCons (mK (.str "none")) mNil)) (et j (3 + i) way none none none) (S os cs l p) = .nx (et j (3 + i) way (some (.str (sh o ts ns))) (some (.str "none")) none) (S os cs l p) := by
    unfold mPar
    rw [cons_v (call_v (cons_v (w := .ref (3 + j)) rfl nil_ev) (shown_ok (at_j hj) hb hn)) (cons_v k_ev nil_ev), then_ok]
    rfl
  have tw : ∀ (k : Int) (x y z : Option Dv) (s : Sto), mTest (mBin eqD (mVar 3) (mK (.int k))) (et j (3 + i) way x y z) s = .ok (decide ((way : Int) = k)) s := fun k x y z s => test_v (bin_v (x := .int (way : Int)) rfl k_ev eq_ii)
  -- the trial, and what comes of it
  obtain ⟨us, m, l2, p2, hU, q0, q1⟩ : ∃ (us : Sto) (m : List Int) (l2 p2 : Int), mLamU 1 1 lq__law_tried l__law_tried_1 h_under (mIf (mTest (mBin eqD (mVar 3) (mK (.int 3)))) (mVar 2) (mAsk 9 (some "trial") g_File_trial (mVar 1) mNil)) (et j (3 + i) way (some (.str (sh o ts ns))) (some (.str "none")) none) (S os cs l p) =
      (if way = 1 then .er ⟨4, "value", .non⟩ (S (os.set i (tr (3 + j) m) ++ us) cs l2 p2) else .ok (.str "done") (S (os.set i (tr (3 + j) m) ++ us) cs l2 p2)) ∧ 0 ≤ p2 ∧ p2 ≤ p + 20 := by
    by_cases h3 : way = 3
    · subst h3
      obtain ⟨l2, p2, d, q0, q1⟩ := within_ok (way := 3) (y := some (.str (sh o ts ns))) (z := some (.str "none")) (e := 3 + i) (l := l) (by decide) ho hj hi hb hn hl hc hp hp2
      refine ⟨[], ns, l2, p2, ?_, q0, q1⟩
      rw [List.append_nil, lamU_ev (w0 := .ref (3 + i)) (s0 := S os cs l p) (if_vt (tw 3 _ _ _ _) rfl) (by rfl)]
      exact d
    · have t0 := trial_ok (f := mVar 1) (ρ := et j (3 + i) way (some (.str (sh o ts ns))) (some (.str "none")) none) (at_j (cs := cs) (l := l) (p := p) hj) rfl
      have tn := tw 3 (some (.str (sh o ts ns))) (some (.str "none")) none (S os cs l p)
      rw [decide_eq_false (by omega)] at tn
      obtain ⟨l2, p2, d, q0, q1⟩ := within_ok (i := os.length) (way := way) (y := some (.str (sh o ts ns))) (z := some (.str "none")) (e := 3 + i) (l := l) hw (cl_app (y := tr (3 + j) ns) ho fun n hn => cl_tr ho hj n (Nat.le_of_lt hn)) (app_get hj) app_at hb hn hl hc hp hp2
      rw [app_set] at d
      refine ⟨[tr (3 + j) ns], ns0, l2, p2, ?_, q0, q1⟩
      rw [set_self hi, lamU_ev (w0 := .ref (3 + os.length)) (s0 := S (os ++ [tr (3 + j) ns]) cs l p) (if_vf tn (by rw [t0, S_len]; rfl)) (by rfl)]
      exact d
  have hj2 : (os.set i (tr (3 + j) m) ++ us)[j]? = some (ob o ts ns) := by
    rw [List.getElem?_append_left (by rw [List.length_set]; exact get_lt hj)]
    exact (get_other hne.symm).trans hj
  refine ⟨m, l2, p2, ?_, q0, q1⟩
  have fin : ∀ (y z : Option Dv), y = some (.str (if way = 1 then "raised" else "done")) → finC (S os cs l p).length (mRet (mAndV (mBin eqD (mVar 5) (mIf (mTest (mBin eqD (mVar 3) (mK (.int 1)))) (mK (.str "raised")) (mK (.str "done")))) (mBin eqD (mCall (g__law_shown) (mCons (mVar 1) mNil)) (mVar 4))) (et j (3 + i) way (some (.str (sh o ts ns))) y z) (S (os.set i (tr (3 + j) m) ++ us) cs l2 p2)) = .ok (.bl true) (S (os.set i (tr (3 + j) m)) cs l2 p2) := by
    intro y z hy
    subst hy
    have a1 : mBin eqD (mVar 5) (mIf (mTest (mBin eqD (mVar 3) (mK (.int 1)))) (mK (.str "raised")) (mK (.str "done"))) (et j (3 + i) way (some (.str (sh o ts ns))) (some (.str (if way = 1 then "raised" else "done"))) z) (S (os.set i (tr (3 + j) m) ++ us) cs l2 p2) = .ok (.bl true) (S (os.set i (tr (3 + j) m) ++ us) cs l2 p2) := by
      have tn := tw 1 (some (.str (sh o ts ns))) (some (.str (if way = 1 then "raised" else "done"))) z (S (os.set i (tr (3 + j) m) ++ us) cs l2 p2)
      by_cases h1 : way = 1
      · rw [decide_eq_true (by omega)] at tn
        exact bin_v (x := .str (if way = 1 then "raised" else "done")) rfl (if_vt tn k_ev) (by rw [if_pos h1]; exact eq_refl_ss)
      · rw [decide_eq_false (by omega)] at tn
        exact bin_v (x := .str (if way = 1 then "raised" else "done")) rfl (if_vf tn k_ev) (by rw [if_neg h1]; exact eq_refl_ss)
    have a2 : mBin eqD (mCall (g__law_shown) (mCons (mVar 1) mNil)) (mVar 4) (et j (3 + i) way (some (.str (sh o ts ns))) (some (.str (if way = 1 then "raised" else "done"))) z) (S (os.set i (tr (3 + j) m) ++ us) cs l2 p2) = .ok (.bl true) (S (os.set i (tr (3 + j) m) ++ us) cs l2 p2) :=
      bin_v (call_v (cons_v (w := .ref (3 + j)) rfl nil_ev) (shown_ok (at_j hj2) hb hn)) (y := .str (sh o ts ns)) rfl eq_refl_ss
    rw [ret_v (andV_v a1 a2), S_len, show os.length = (os.set i (tr (3 + j) m)).length by rw [List.length_set]]
    exact fin_drop (cl_set ho (cl_tr ho hj)) fun n => rfl
  unfold g__law_tried d__law_tried
  rw [den_ev, e0]
  refine fin_nx s1 ?_
  by_cases h1 : way = 1
  · rw [if_pos h1] at hU
    have s2 : mTry1 6 4 (mAsg (mLamU 1 1 lq__law_tried l__law_tried_1 h_under (mIf (mTest (mBin eqD (mVar 3) (mK (.int 3)))) (mVar 2) (mAsk 9 (some "trial") g_File_trial (mVar 1) mNil))) (gN 5)) (mAsg (mIf (mTest (mBin isD (mUn (fld1 4 "value") (mVar 6)) (mK .non))) (mK (.str "raised")) (mK (.str "other"))) (gN 5)) (et j (3 + i) way (some (.str (sh o ts ns))) (some (.str "none")) none) (S os cs l p) = .nx (et j (3 + i) way (some (.str (sh o ts ns))) (some (.str "raised")) none) (S (os.set i (tr (3 + j) m) ++ us) cs l2 p2) := by
      have e1 : mAsg (mLamU 1 1 lq__law_tried l__law_tried_1 h_under (mIf (mTest (mBin eqD (mVar 3) (mK (.int 3)))) (mVar 2) (mAsk 9 (some "trial") g_File_trial (mVar 1) mNil))) (gN 5) (et j (3 + i) way (some (.str (sh o ts ns))) (some (.str "none")) none) (S os cs l p) = .er ⟨4, "value", .non⟩ (et j (3 + i) way (some (.str (sh o ts ns))) (some (.str "none")) none) (S (os.set i (tr (3 + j) m) ++ us) cs l2 p2) := by
        unfold mAsg
        rw [hU]
        rfl
      have e2 : mAsg (mIf (mTest (mBin isD (mUn (fld1 4 "value") (mVar 6)) (mK .non))) (mK (.str "raised")) (mK (.str "other"))) (gN 5) (et j (3 + i) way (some (.str (sh o ts ns))) (some (.str "none")) (some (.exc 4 "value" .non))) (S (os.set i (tr (3 + j) m) ++ us) cs l2 p2) = .nx (et j (3 + i) way (some (.str (sh o ts ns))) (some (.str "raised")) (some (.exc 4 "value" .non))) (S (os.set i (tr (3 + j) m) ++ us) cs l2 p2) :=
        (asg_v (if_vt (test_v (bin_v (un_v (x := .exc 4 "value" .non) rfl (by unfold fld1; exact if_pos ⟨rfl, rfl⟩)) k_ev rfl)) k_ev)).trans rfl
      unfold mTry1
      rw [e1]
      dsimp only
      rw [if_pos ⟨rfl, by decide⟩]
      show delC 6 (mAsg _ (gN 5) (et j (3 + i) way (some (.str (sh o ts ns))) (some (.str "none")) (some (.exc 4 "value" .non))) (S (os.set i (tr (3 + j) m) ++ us) cs l2 p2)) = _
      rw [e2]
      rfl
    exact fin_nx s2 (fin _ _ (by rw [if_pos h1]))
  · rw [if_neg h1] at hU
    have s2 : mTry1 6 4 (mAsg (mLamU 1 1 lq__law_tried l__law_tried_1 h_under (mIf (mTest (mBin eqD (mVar 3) (mK (.int 3)))) (mVar 2) (mAsk 9 (some "trial") g_File_trial (mVar 1) mNil))) (gN 5)) (mAsg (mIf (mTest (mBin isD (mUn (fld1 4 "value") (mVar 6)) (mK .non))) (mK (.str "raised")) (mK (.str "other"))) (gN 5)) (et j (3 + i) way (some (.str (sh o ts ns))) (some (.str "none")) none) (S os cs l p) = .nx (et j (3 + i) way (some (.str (sh o ts ns))) (some (.str "done")) none) (S (os.set i (tr (3 + j) m) ++ us) cs l2 p2) := by
      unfold mTry1
      rw [asg_v hU]
      rfl
    exact fin_nx s2 (fin _ _ (by rw [if_neg h1]))
theorem copy_new {k : Nat} (hk : s[k]? = some (ob o ts ns)) (hb : Bill o ts) : g_File_copy [.ref k] s = .ok (.ref s.length) (s ++ [ob o ts ns]) := by
  have e1 : mAsg (mMake 9 g_File___init__ (mCons (mOf 9 "_bill" (mVar 0)) mNil)) (gN 1) [some (.ref k), none] s = .nx [some (.ref k), some (.ref s.length)] (s ++ [ob o ts []]) :=
    (asg_v (make_ok (of_v (k := k) rfl (ofB hk)) hb)).trans rfl
  have e2 : mFSet 9 "_row" (mVar 1) (mOf 9 "_row" (mVar 0)) [some (.ref k), some (.ref s.length)] (s ++ [ob o ts []]) = .nx [some (.ref k), some (.ref s.length)] (s ++ [ob o ts ns]) := by
    have := fset_v (m := "_row") (fv := mOf 9 "_row" (mVar 0)) (fo := mVar 1) (ρ := [some (.ref k), some (.ref s.length)]) (s := s ++ [ob o ts []]) (of_v (k := k) rfl (ofR (app_get hk))) rfl app_at (by show 2 < 100; decide)
    rw [put_row, app_set] at this
    exact this
  unfold g_File_copy d_File_copy
  rw [den_ev, show startD 2 [.ref k] = [some (.ref k), none] from rfl]
  refine fin_nx e1 (fin_nx e2 ?_)
  rw [ret_v (w := .ref s.length) rfl]
  exact fin_obj rfl
theorem eqR_ne {ns ms : List Int} (h1 : Row ns) (h2 : Row ms) (hl : ns.length ≠ ms.length) : eqD s (tI ns) (tI ms) = some (.bl false) := by
  rw [eq_tt (pl_tI (row_sm h1)) (pl_tI (row_sm h2)) (by decide) (by decide), PyData.eqv, PySem.SeqAt.eqvAll_other_length (by rw [List.length_map, List.length_map]; exact hl)]
abbrev ec (j : Nat) (x y : Option Dv) : Env := [some (.ref 2), some (.ref (3 + j)), x, y]
theorem copy_right (ho : ClP P2 os) (hj : os[j]? = some (ob o ts ns)) (hb : Bill o ts) (hn : Row ns) (hl : ns.length + 10 ≤ 200) : g__law_copy_right [.ref 2, .ref (3 + j)] (S os cs l p) = .ok (.bl true) (S os cs l p) := by
  have e0 : startD 4 [.ref 2, .ref (3 + j)] = ec j none none := rfl
  -- the twin stands behind all
  have tw : ∀ {m : List Int}, (S (os ++ [ob o ts m]) cs l p)[3 + os.length]? = some (ob o ts m) := fun {m} => at_j app_at
  have on : ∀ {m : List Int}, (S (os ++ [ob o ts m]) cs l p)[3 + j]? = some (ob o ts ns) := fun {m} => at_j (app_get hj)
  let E : Env := ec j (some (.ref (3 + os.length))) (some (.str (sh o ts ns)))
  have h3 : Row (ns ++ [3]) := row_snoc hn (by omega) (by decide) (by decide)
  have s1 : mPar 2 3 (mCons (mAsk 9 (some "copy") g_File_copy (mVar 1) mNil) (mCons (mCall (g__law_shown) (mCons (mVar 1) mNil)) mNil)) (ec j none none) (S os cs l p) = .nx E (S (os ++ [ob o ts ns]) cs l p) := by
    have a := ask_v (mm := some "copy") (fa := mNil) (f := mVar 1) (ρ := ec j none none) (at_j (cs := cs) (l := l) (p := p) hj) rfl rfl nil_ev (copy_new (at_j hj) hb)
    rw [S_len] at a
    unfold mPar
    rw [cons_v a (cons_v (call_v (cons_v (w := .ref (3 + j)) rfl nil_ev) (shown_ok (s := S (os ++ [ob o ts ns]) cs l p) on hb hn)) nil_ev), then_ok]
    rfl
  have t1 : mOr (mNot (mTest (mEqO false 9 g_File___eq__ (mVar 2) (mVar 1)))) (mOr (mTest (mEqO true 9 g_File___eq__ (mVar 2) (mVar 1))) (mTest (mBin neD (mCall (g__law_shown) (mCons (mVar 2) mNil)) (mVar 3)))) E (S (os ++ [ob o ts ns]) cs l p) = .ok false (S (os ++ [ob o ts ns]) cs l p) :=
    or_f (not_vt (test_v (eqo_v (neg := false) tw on rfl rfl (eqB_refl hb) (eqR_refl hn)))) (or_f (test_v (eqo_v (neg := true) tw on rfl rfl (eqB_refl hb) (eqR_refl hn)))
      (test_v (bin_v (call_v (cons_v (w := .ref (3 + os.length)) rfl nil_ev) (shown_ok tw hb hn)) (y := .str (sh o ts ns)) rfl (ne_of_eq eq_refl_ss))))
  have s2 : mExpr (mAsk 9 (some "add") g_File_add (mVar 2) (mCons (mK (.int 3)) mNil)) E (S (os ++ [ob o ts ns]) cs l p) = .nx E (S (os ++ [ob o ts (ns ++ [3])]) cs l p) := by
    have a := add_ok (f := mVar 2) (fv := mK (.int 3)) (ρ := E) (tw (m := ns)) hb (by omega) (show (0 : Int) ≤ 3 by decide) (by decide) rfl k_ev
    rw [S_set, app_set] at a
    exact expr_v a
  have hlen : (ns ++ [3]).length = ns.length + 1 := by rw [List.length_append]; rfl
  have t2 : mOr (mTest (mEqO false 9 g_File___eq__ (mVar 2) (mVar 1))) (mOr (mNot (mTest (mEqO true 9 g_File___eq__ (mVar 2) (mVar 1)))) (mTest (mBin neD (mCall (g__law_shown) (mCons (mVar 1) mNil)) (mVar 3)))) E (S (os ++ [ob o ts (ns ++ [3])]) cs l p) = .ok false (S (os ++ [ob o ts (ns ++ [3])]) cs l p) :=
    or_f (test_v (eqo_v (neg := false) tw on rfl rfl (eqB_refl hb) (eqR_ne h3 hn (by omega)))) (or_f (not_vt (test_v (eqo_v (neg := true) tw on rfl rfl (eqB_refl hb) (eqR_ne h3 hn (by omega)))))
      (test_v (bin_v (call_v (cons_v (w := .ref (3 + j)) rfl nil_ev) (shown_ok on hb hn)) (y := .str (sh o ts ns)) rfl (ne_of_eq eq_refl_ss))))
  have s3 : mExpr (mAsk 9 (some "back") (fun ws => g_File_back (ws ++ [.int 1])) (mVar 2) mNil) E (S (os ++ [ob o ts (ns ++ [3])]) cs l p) = .nx E (S (os ++ [ob o ts ns]) cs l p) := by
    have a := back1_ok (f := mVar 2) (ρ := E) (tw (m := ns ++ [3])) (by omega) rfl
    rw [S_set, app_set, hlen, Nat.add_sub_cancel, List.take_left' rfl] at a
    exact expr_v a
  have s4 : mExpr (mAsk 9 (some "add") g_File_add (mVar 1) (mCons (mK (.int 4)) mNil)) E (S (os ++ [ob o ts ns]) cs l p) = .nx E (S ((os ++ [ob o ts ns]).set j (ob o ts (ns ++ [4]))) cs l p) := by
    have a := add_ok (f := mVar 1) (fv := mK (.int 4)) (ρ := E) (on (m := ns)) hb (by omega) (show (0 : Int) ≤ 4 by decide) (by decide) rfl k_ev
    rw [S_set] at a
    exact expr_v a
  have s5 : mExpr (mAsk 9 (some "back") (fun ws => g_File_back (ws ++ [.int 1])) (mVar 1) mNil) E (S ((os ++ [ob o ts ns]).set j (ob o ts (ns ++ [4]))) cs l p) = .nx E (S (os ++ [ob o ts ns]) cs l p) := by
    have hlen : (ns ++ [4]).length = ns.length + 1 := by rw [List.length_append]; rfl
    have a := back1_ok (f := mVar 1) (ρ := E) (at_j (cs := cs) (l := l) (p := p) (get_j (y := ob o ts (ns ++ [4])) (app_get (y := ob o ts ns) hj))) (by omega) rfl
    rw [S_set, List.set_set, hlen, Nat.add_sub_cancel, List.take_left' rfl, set_self (app_get hj)] at a
    exact expr_v a
  have s6 : mAndV (mEqO false 9 g_File___eq__ (mVar 2) (mVar 1)) (mBin eqD (mCall (g__law_shown) (mCons (mVar 2) mNil)) (mVar 3)) E (S (os ++ [ob o ts ns]) cs l p) = .ok (.bl true) (S (os ++ [ob o ts ns]) cs l p) :=
    andV_v (eqo_v (neg := false) tw on rfl rfl (eqB_refl hb) (eqR_refl hn)) (bin_v (call_v (cons_v (w := .ref (3 + os.length)) rfl nil_ev) (shown_ok tw hb hn)) (y := .str (sh o ts ns)) rfl eq_refl_ss)
  unfold g__law_copy_right d__law_copy_right
  rw [den_ev, e0]
  refine fin_nx s1 (fin_nx ((ifS_f t1).trans next_ev) (fin_nx s2 (fin_nx ((ifS_f t2).trans next_ev) (fin_nx s3 (fin_nx s4 (fin_nx s5 ?_))))))
  rw [ret_v s6, S_len]
  exact fin_drop ho fun n => rfl
end
end MP.K18
set_option Elab.async false
set_option linter.all false
set_option maxRecDepth 100000
set_option maxHeartbeats 1000000
namespace MP.K18
open PySem PySem.Spec PyProof.Rows L2 MP
abbrev T1 : List Term := [⟨[0], 0, 0⟩]
theorem B1 : Bill 1 T1 := ⟨by decide, by decide, by decide, fun t ht => by
  rcases List.mem_cons.mp ht with rfl | ht
  · exact ⟨⟨by decide, by decide, by decide⟩, by decide, by decide, by decide, by decide⟩
  · cases ht⟩
theorem B0 : Bill 1 [] := ⟨by decide, by decide, by decide, fun t ht => nomatch ht⟩
/-- the files: their terms, their rows -/
abbrev FS : List (Bool × List Int) := [(false, []), (true, []), (false, [1]), (false, [1, 2]), (false, [2, 1]), (true, [1])]
def tsOf (b : Bool) : List Term := if b = true then T1 else []
theorem BT (b : Bool) : Bill 1 (tsOf b) := by cases b <;> first | exact B1 | exact B0
theorem rowF : ∀ x ∈ FS, Row x.2 := by
  intro x hx
  have : x.2.length ≤ 200 ∧ ∀ i ∈ x.2, 0 ≤ i ∧ i ≤ 1000000 := by
    revert x
    decide
  exact ⟨this.1, this.2⟩
abbrev fob (x : Bool × List Int) : Ob := ob 1 (tsOf x.1) x.2
abbrev rowD (x : Bool × List Int) : Dv := .tup [bi 1 (tsOf x.1), tI x.2]
section
variable {s : Sto}
theorem eqB_dec : ∀ (a b : Bool), eqD s (bi 1 (tsOf a)) (bi 1 (tsOf b)) = some (.bl (decide (a = b)))
  | true, true => eqB_refl B1
  | false, false => eqB_refl B0
  | true, false => (eq_tt (pl_bi B1) (pl_bi B0) (by decide) (by decide)).trans (congrArg (fun b => some (Dv.bl b)) (by decide +kernel : PyData.eqv (bd 1 T1) (bd 1 []) = decide (true = false)))
  | false, true => (eq_tt (pl_bi B0) (pl_bi B1) (by decide) (by decide)).trans (congrArg (fun b => some (Dv.bl b)) (by decide +kernel : PyData.eqv (bd 1 []) (bd 1 T1) = decide (false = true)))
theorem eqR_dec {ns ms : List Int} (h1 : Row ns) (h2 : Row ms) : eqD s (tI ns) (tI ms) = some (.bl (PyData.eqvAll (ns.map .int) (ms.map .int))) := by
  rw [eq_tt (pl_tI (row_sm h1)) (pl_tI (row_sm h2)) (by decide) (by decide), PyData.eqv]
theorem like_all : ∀ i, i < 6 → ∀ k, k < 6 → ∀ x y, FS[i]? = some x → FS[k]? = some y → (decide (x.1 = y.1) && PyData.eqvAll (x.2.map .int) (y.2.map .int)) = decide (i = k) := by
  intro i hi k hk x y hx hy
  have : ∀ i : Fin 6, ∀ k : Fin 6, (decide ((FS[i.1]).1 = (FS[k.1]).1) && PyData.eqvAll ((FS[i.1]).2.map .int) ((FS[k.1]).2.map .int)) = decide (i.1 = k.1) := by decide +kernel
  have := this ⟨i, hi⟩ ⟨k, hk⟩
  obtain ⟨_, rfl⟩ := List.getElem?_eq_some_iff.mp hx
  obtain ⟨_, rfl⟩ := List.getElem?_eq_some_iff.mp hy
  exact this
abbrev ek (n : Nat) (x4 x5 x6 x7 x8 x9 x10 : Option Dv) : Env := [some (bi 1 []), some (bi 1 T1), some (.lst (FS.map rowD)), some (.ref n), x4, x5, x6, x7, x8, x9, x10]
abbrev refs (n i : Nat) : List Dv := (List.range i).map fun k => Dv.ref (n + 1 + k)
abbrev Sf (s : Sto) (i : Nat) : Sto := s ++ .lst (refs s.length i) :: (FS.map fob).take i
theorem atI_nat {ws : List Dv} {w : Dv} {i : Nat} (h : ws[i]? = some w) : atI ws (i : Int) = some w := by
  have hl := (List.getElem?_eq_some_iff.mp h).1
  unfold atI ixN
  rw [if_pos (by omega), if_pos (by omega)]
  show ws[(i : Int).toNat]? = _
  rw [Int.toNat_natCast]
  exact h
theorem ixA_ref {k i : Nat} {ws : List Dv} {w : Dv} (h : s[k]? = some (.lst ws)) (hi : ws[i]? = some w) : ixA s (.ref k) (.int (i : Int)) = some w := by
  have e : ixL s (.ref k) (.int (i : Int)) = some w := by
    show (match s[k]? with | some (.lst ws) => some ws | _ => none).bind (fun ws => atI ws i) = _
    rw [h]
    show atI ws (i : Int) = some w
    exact atI_nat hi
  show orO (orO ixL ixT) ixD s (.ref k) (.int (i : Int)) = _
  unfold orO
  rw [e]
theorem Sf_lst {i : Nat} : (Sf s i)[s.length]? = some (.lst (refs s.length i)) := by
  rw [List.getElem?_append_right (Nat.le_refl _), Nat.sub_self]
  rfl
theorem Sf_len {i : Nat} (h : i ≤ 6) : (Sf s i).length = s.length + 1 + i := by
  rw [List.length_append, List.length_cons, List.length_take]
  show s.length + (min i 6 + 1) = _
  omega
theorem Sf_at {i k : Nat} {x : Bool × List Int} (hi : i ≤ 6) (hk : k < i) (hx : FS[k]? = some x) : (Sf s i)[s.length + 1 + k]? = some (fob x) := by
  rw [List.getElem?_append_right (by omega), show s.length + 1 + k - s.length = k + 1 by omega, List.getElem?_cons_succ, List.getElem?_take_of_lt hk, List.getElem?_map, hx]
  rfl
theorem Sf_next {i : Nat} {x : Bool × List Int} (hx : FS[i]? = some x) : (Sf s i ++ [fob x]).set s.length (.lst (refs s.length i ++ [.ref (s.length + 1 + i)])) = Sf s (i + 1) := by
  unfold Sf
  rw [List.append_assoc, List.set_append_right _ _ (Nat.le_refl _), Nat.sub_self]
  show s ++ (.lst _ :: ((FS.map fob).take i ++ [fob x])) = s ++ (.lst _ :: (FS.map fob).take (i + 1))
  have e1 : refs s.length (i + 1) = refs s.length i ++ [.ref (s.length + 1 + i)] := by
    unfold refs
    rw [List.range_succ, List.map_append]
    rfl
  have e2 : (FS.map fob).take (i + 1) = (FS.map fob).take i ++ [fob x] := by
    rw [List.take_succ, List.getElem?_map, hx]
    rfl
  rw [e1, e2]
/-- one file more -/
theorem file_turn {i : Nat} {x : Bool × List Int} {x6 x7 : Option Dv} (hi : i < 6) (hx : FS[i]? = some x) : ∃ y6 y7, b__law_likes_right_2 (ek s.length (some (bi 1 (tsOf x.1))) (some (tI x.2)) x6 x7 none none none) (Sf s i) = .nx (ek s.length (some (bi 1 (tsOf x.1))) (some (tI x.2)) y6 y7 none none none) (Sf s (i + 1)) := by
  have hr := rowF x (List.mem_of_getElem? hx)
  have hlen := Sf_len (s := s) (i := i) (by omega)
  have e1 : mAsg (mMake 9 g_File___init__ (mCons (mVar 4) mNil)) (gN 6) (ek s.length (some (bi 1 (tsOf x.1))) (some (tI x.2)) x6 x7 none none none) (Sf s i) = .nx (ek s.length (some (bi 1 (tsOf x.1))) (some (tI x.2)) (some (.ref (Sf s i).length)) x7 none none none) (Sf s i ++ [ob 1 (tsOf x.1) []]) :=
    (asg_v (make_ok (f := mVar 4) rfl (BT _))).trans rfl
  have hF : F__law_likes_right_1 (ek s.length (some (bi 1 (tsOf x.1))) (some (tI x.2)) (some (.ref (Sf s i).length)) x7 none none none) (Sf s i ++ [ob 1 (tsOf x.1) []]) = .ok { ws := x.2.map .int } (Sf s i ++ [ob 1 (tsOf x.1) []]) := rfl
  obtain ⟨ρ', s', f1, y7, rfl, rfl⟩ := for_ix (g := t__law_likes_right_1) (body := b__law_likes_right_1)
    (fun k ρ s' => ∃ y7, s' = Sf s i ++ [ob 1 (tsOf x.1) (x.2.take k)] ∧ ρ = ek s.length (some (bi 1 (tsOf x.1))) (some (tI x.2)) (some (.ref (Sf s i).length)) y7 none none none)
    hF ⟨x7, rfl, rfl⟩ fun k w ρ s' hw hJ => by
      obtain ⟨y7, rfl, rfl⟩ := hJ
      rw [List.getElem?_map] at hw
      cases q : x.2[k]? with
      | none => rw [q] at hw; cases hw
      | some v =>
        rw [q] at hw
        cases hw
        have hv := hr.2 v (List.mem_of_getElem? q)
        have a := add_ok (f := mVar 6) (fv := mVar 7) (ρ := ek s.length (some (bi 1 (tsOf x.1))) (some (tI x.2)) (some (.ref (Sf s i).length)) (some (.int v)) none none none) (s := Sf s i ++ [ob 1 (tsOf x.1) (x.2.take k)]) app_at (BT _) (by
          rw [List.length_take]
          have := (List.getElem?_eq_some_iff.mp q).1
          have := hr.1
          omega) hv.1 hv.2 rfl rfl
        rw [app_set, show x.2.take k ++ [v] = x.2.take (k + 1) by rw [List.take_succ, q]; rfl] at a
        exact ⟨_, _, _, rfl, .inl (expr_v a), _, rfl, rfl⟩
  rw [List.length_map, List.take_length] at f1
  have e3 : mExpr (mApp (mVar 3) (mVar 6)) (ek s.length (some (bi 1 (tsOf x.1))) (some (tI x.2)) (some (.ref (Sf s i).length)) y7 none none none) (Sf s i ++ [fob x]) = .nx (ek s.length (some (bi 1 (tsOf x.1))) (some (tI x.2)) (some (.ref (Sf s i).length)) y7 none none none) (Sf s (i + 1)) := by
    have h1 : (Sf s i ++ [fob x])[s.length]? = some (.lst (refs s.length i)) := app_get Sf_lst
    have a := app_v (f := mVar 3) (g := mVar 6) (ρ := ek s.length (some (bi 1 (tsOf x.1))) (some (tI x.2)) (some (.ref (Sf s i).length)) y7 none none none) (s := Sf s i ++ [fob x]) (y := .ref (Sf s i).length) rfl h1 rfl h1 (by rw [List.length_map, List.length_range]; unfold lim; omega)
    rw [hlen, Sf_next hx] at a
    rw [hlen]
    exact expr_v a
  refine ⟨some (.ref (Sf s i).length), y7, ?_⟩
  unfold b__law_likes_right_2
  exact seq_nx e1 (seq_nx f1 e3)
theorem pair_ok {i k : Nat} {x y : Bool × List Int} {x4 x5 x6 x7 x10 : Option Dv} (hi : i < 6) (hk : k < 6) (hx : FS[i]? = some x) (hy : FS[k]? = some y) : b__law_likes_right_3 (ek s.length x4 x5 x6 x7 (some (.int (i : Int))) (some (.int (k : Int))) x10) (Sf s 6) = .nx (ek s.length x4 x5 x6 x7 (some (.int (i : Int))) (some (.int (k : Int))) x10) (Sf s 6) := by
  have rf : ∀ {j : Nat}, j < 6 → (refs s.length 6)[j]? = some (.ref (s.length + 1 + j)) := fun {j} hj => by rw [List.getElem?_map, List.getElem?_range hj]; rfl
  have a := eqo_v (neg := false) (fo := mBin ixA (mVar 3) (mVar 8)) (fv := mBin ixA (mVar 3) (mVar 9)) (ρ := ek s.length x4 x5 x6 x7 (some (.int (i : Int))) (some (.int (k : Int))) x10) (s := Sf s 6) (Sf_at (Nat.le_refl _) hi hx) (Sf_at (Nat.le_refl _) hk hy)
    (bin_v (x := .ref s.length) (y := .int (i : Int)) rfl rfl (ixA_ref Sf_lst (rf hi))) (bin_v (x := .ref s.length) (y := .int (k : Int)) rfl rfl (ixA_ref Sf_lst (rf hk))) (eqB_dec x.1 y.1) (eqR_dec (rowF x (List.mem_of_getElem? hx)) (rowF y (List.mem_of_getElem? hy)))
  rw [like_all i hi k hk x y hx hy] at a
  have t : mTest (mBin neD (mEqO false 9 g_File___eq__ (mBin ixA (mVar 3) (mVar 8)) (mBin ixA (mVar 3) (mVar 9))) (mBin eqD (mVar 8) (mVar 9))) (ek s.length x4 x5 x6 x7 (some (.int (i : Int))) (some (.int (k : Int))) x10) (Sf s 6) = .ok false (Sf s 6) := by
    refine test_v (bin_v a (bin_v (x := .int (i : Int)) (y := .int (k : Int)) rfl rfl eq_ii) ?_)
    have e : decide ((i : Int) = (k : Int)) = decide (i = k) := by
      by_cases h : i = k
      · rw [decide_eq_true h, decide_eq_true (by omega)]
      · rw [decide_eq_false h, decide_eq_false (by omega)]
    rw [e]
    cases decide (i = k) <;> rfl
  unfold b__law_likes_right_3
  exact (ifS_f t).trans next_ev
theorem fin_ex {n : Nat} {b : Bool} {st : Sto} : ∃ s', finC n (.rt (.bl b) st) = .ok (.bl b) s' := by
  show ∃ s', finW n (.bl b) st = .ok (.bl b) s'
  unfold finW
  split
  · exact ⟨_, rfl⟩
  · split
    · rw [show fz 4 st n (.bl b) = some (.bl b) by unfold fz; exact if_pos rfl]
      exact ⟨_, rfl⟩
    · exact ⟨_, rfl⟩
theorem FS_get {i : Nat} (h : i < 6) : ∃ x, FS[i]? = some x := ⟨FS[i], List.getElem?_eq_getElem h⟩
theorem likes_ok : ∃ s', g__law_likes_right [] s = .ok (.bl true) s' := by
  have e0 : startD 11 [] = [none, none, none, none, none, none, none, none, none, none, none] := rfl
  have e1 : mAsg (mTup (mCons (mTup (mCons (mK (.int 1)) (mCons (mTup mNil) mNil))) (mCons (mTup (mCons (mK (.int 1)) (mCons (mTup (mCons (mTup (mCons (mTup (mCons (mK (.int 0)) mNil)) (mCons (mK (.int 0)) (mCons (mK (.int 0)) mNil)))) mNil)) mNil))) mNil))) (gT 2 (gsC (gN 0) (gsC (gN 1) gs0))) [none, none, none, none, none, none, none, none, none, none, none] s = .nx [some (bi 1 []), some (bi 1 T1), none, none, none, none, none, none, none, none, none] s := rfl
  have e2 : mAsg (mTup (mCons (mLst (mCons (mTup (mCons (mVar 0) (mCons (mTup mNil) mNil))) (mCons (mTup (mCons (mVar 1) (mCons (mTup mNil) mNil))) (mCons (mTup (mCons (mVar 0) (mCons (mTup (mCons (mK (.int 1)) mNil)) mNil))) (mCons (mTup (mCons (mVar 0) (mCons (mTup (mCons (mK (.int 1)) (mCons (mK (.int 2)) mNil))) mNil))) (mCons (mTup (mCons (mVar 0) (mCons (mTup (mCons (mK (.int 2)) (mCons (mK (.int 1)) mNil))) mNil))) (mCons (mTup (mCons (mVar 1) (mCons (mTup (mCons (mK (.int 1)) mNil)) mNil))) mNil))))))) (mCons (mLstM mNil) mNil))) (gT 2 (gsC (gN 2) (gsC (gN 3) gs0))) [some (bi 1 []), some (bi 1 T1), none, none, none, none, none, none, none, none, none] s = .nx (ek s.length none none none none none none none) (Sf s 0) := rfl
  have hF2 : F__law_likes_right_2 (ek s.length none none none none none none none) (Sf s 0) = .ok { ws := FS.map rowD } (Sf s 0) := rfl
  obtain ⟨ρ2, s2, f2, y4, y5, y6, y7, rfl, rfl⟩ := for_ix (g := t__law_likes_right_2) (body := b__law_likes_right_2)
    (fun k ρ s' => ∃ y4 y5 y6 y7, s' = Sf s k ∧ ρ = ek s.length y4 y5 y6 y7 none none none) hF2 ⟨none, none, none, none, rfl, rfl⟩ fun k w ρ s' hw hJ => by
      obtain ⟨y4, y5, y6, y7, rfl, rfl⟩ := hJ
      have hk : k < 6 := by have := (List.getElem?_eq_some_iff.mp hw).1; exact this
      obtain ⟨x, hx⟩ := FS_get hk
      rw [List.getElem?_map, hx] at hw
      cases hw
      obtain ⟨z6, z7, h⟩ := file_turn (s := s) (x6 := y6) (x7 := y7) hk hx
      exact ⟨_, _, _, rfl, .inl h, _, _, _, _, rfl, rfl⟩
  have hF4 : F__law_likes_right_4 (ek s.length y4 y5 y6 y7 none none none) (Sf s 6) = .ok { ws := rng 0 (6 : Int).toNat } (Sf s 6) := range1_ok (cons_v k_ev nil_ev) (okR_s (by decide) (by decide))
  obtain ⟨ρ4, s4, f4, z8, z9, rfl, rfl⟩ := for_ix (g := t__law_likes_right_4) (body := b__law_likes_right_4)
    (fun i ρ s' => ∃ z8 z9, s' = Sf s 6 ∧ ρ = ek s.length y4 y5 y6 y7 z8 z9 none) hF4 ⟨none, none, rfl, rfl⟩ fun i w ρ s' hw hJ => by
      obtain ⟨z8, z9, rfl, rfl⟩ := hJ
      obtain ⟨hi, rfl⟩ := rng_get hw
      have hi : i < 6 := hi
      obtain ⟨x, hx⟩ := FS_get hi
      have hF3 : F__law_likes_right_3 (ek s.length y4 y5 y6 y7 (some (.int (i : Int))) z9 none) (Sf s 6) = .ok { ws := rng 0 (6 : Int).toNat } (Sf s 6) := range1_ok (cons_v k_ev nil_ev) (okR_s (by decide) (by decide))
      obtain ⟨ρ3, s3, f3, z9', rfl, rfl⟩ := for_ix (g := t__law_likes_right_3) (body := b__law_likes_right_3)
        (fun k ρ s' => ∃ z9, s' = Sf s 6 ∧ ρ = ek s.length y4 y5 y6 y7 (some (.int (i : Int))) z9 none) hF3 ⟨z9, rfl, rfl⟩ fun k w ρ s' hw hJ => by
          obtain ⟨z9, rfl, rfl⟩ := hJ
          obtain ⟨hk, rfl⟩ := rng_get hw
          have hk : k < 6 := hk
          obtain ⟨y, hy⟩ := FS_get hk
          have h := pair_ok (s := s) (x4 := y4) (x5 := y5) (x6 := y6) (x7 := y7) (x10 := none) hi hk hx hy
          exact ⟨ek s.length y4 y5 y6 y7 (some (.int (i : Int))) (some (.int (k : Int))) none, _, _, by rw [Int.zero_add]; rfl, .inl h, _, rfl, rfl⟩
      exact ⟨ek s.length y4 y5 y6 y7 (some (.int (i : Int))) z9 none, _, _, by rw [Int.zero_add]; rfl, .inl f3, _, _, rfl, rfl⟩
  have hc : mComp cF__law_likes_right_1 [10] ct__law_likes_right_1 ci__law_likes_right_1 ce__law_likes_right_1 (ek s.length y4 y5 y6 y7 z8 z9 none) (Sf s 6) = .ok (.lst (([.non, bi 1 [], .tup [], .int 0, .lst []] : List Dv).map fun _ => .bl false)) (Sf s 6) := by
    refine comp_map (fun _ => .bl false) rfl (by show 5 ≤ _; unfold lim; decide) fun w hw => ⟨ek s.length y4 y5 y6 y7 z8 z9 (some w), rfl, ?_⟩
    have hk : ∃ T, kindD 9 (Sf s 6) w = some (some T) := by
      rcases List.mem_cons.mp hw with rfl | hw
      · exact ⟨_, rfl⟩
      rcases List.mem_cons.mp hw with rfl | hw
      · exact ⟨_, rfl⟩
      rcases List.mem_cons.mp hw with rfl | hw
      · exact ⟨_, rfl⟩
      rcases List.mem_cons.mp hw with rfl | hw
      · exact ⟨_, rfl⟩
      rcases List.mem_cons.mp hw with rfl | hw
      · exact ⟨_, rfl⟩
      · cases hw
    obtain ⟨T, hk⟩ := hk
    exact eqo_odd (neg := false) (Sf_at (s := s) (i := 6) (k := 0) (x := (false, [])) (Nat.le_refl _) (by decide) rfl) hk (bin_v (x := .ref s.length) (y := .int 0) rfl k_ev (ixA_ref (i := 0) Sf_lst rfl)) rfl
  have hm : mBin mulD (mLst (mCons (mK (.bl false)) mNil)) (mK (.int 5)) (ek s.length y4 y5 y6 y7 z8 z9 none) (Sf s 6) = .ok (.lst (List.replicate 5 (.bl false))) (Sf s 6) :=
    bin_v (lst_v (cons_v k_ev nil_ev) (by show 1 ≤ _; decide)) k_ev (mul_lst1 (k := 5) (by decide))
  have hr := ret_v (bin_v hc hm (eq_l_refl (pl_lst (pls_cons pl_bl (pls_cons pl_bl (pls_cons pl_bl (pls_cons pl_bl (pls_cons pl_bl pls_nil)))))) (by decide)))
  obtain ⟨s', h'⟩ := fin_ex (n := s.length) (b := true) (st := Sf s 6)
  refine ⟨s', ?_⟩
  unfold g__law_likes_right d__law_likes_right
  rw [den_ev, e0]
  refine fin_nx e1 (fin_nx e2 (fin_nx f2 (fin_nx f4 ?_)))
  rw [hr]
  exact h'
end
end MP.K18
set_option Elab.async false
set_option linter.all false
set_option maxRecDepth 100000
set_option maxHeartbeats 400000
namespace MP.K18
open PySem PySem.Spec PyProof.Rows L2 MP
section
variable {os : Sto} {cs : List Int} {l p : Int} {o : Int} {ts : List Term} {ns ms : List Int}
abbrev two (os : Sto) (o : Int) (ts : List Term) (ns ms : List Int) : Sto := os ++ [ob o ts ns, tr (3 + os.length) ms]
theorem two_ob : (two os o ts ns ms)[os.length]? = some (ob o ts ns) := by
  rw [List.getElem?_append_right (Nat.le_refl _), Nat.sub_self]
  rfl
theorem two_tr : (two os o ts ns ms)[os.length + 1]? = some (tr (3 + os.length) ms) := by
  rw [List.getElem?_append_right (by omega), show os.length + 1 - os.length = 1 by omega]
  rfl
theorem two_set {m : List Int} : (two os o ts ns ms).set os.length (ob o ts m) = two os o ts m ms := by
  rw [List.set_append_right _ _ (Nat.le_refl _), Nat.sub_self]
  rfl
theorem two_set1 {m : List Int} : (two os o ts ns ms).set (os.length + 1) (tr (3 + os.length) m) = two os o ts ns m := by
  rw [List.set_append_right _ _ (by omega), show os.length + 1 - os.length = 1 by omega]
  rfl
theorem cl_two (ho : ClP P2 os) : ClP P2 (two os o ts ns ms) := by
  have h1 : ClP P2 (os ++ [ob o ts ns]) := cl_app ho fun n _ => ob_clean n
  have h2 : ClP P2 (os ++ [ob o ts ns] ++ [tr (3 + os.length) ms]) := cl_app h1 fun n hn => tr_clean (by
    unfold r1 at hn
    rw [List.length_append] at hn
    have : P2.length = 2 := rfl
    simp at hn
    omega)
  rw [List.append_assoc] at h2
  exact h2
abbrev ew (sc : Option Dv) (k : Dv) (x y z : Option Dv) : Env := [sc, some (.ref 2), some k, x, y, z]
theorem lap_ok (ho : ClP P2 os) {sc x y z : Option Dv} {k : Dv} (hc : cs ≠ []) (hp : 0 ≤ p) (hp2 : p < 600000) :
    ∃ (os' : Sto) (l' p' : Int) (x' y' z' : Option Dv), b_law_2 (ew sc k x y z) (S os cs l p) = .nx (ew sc k x' y' z') (S os' cs l' p') ∧ ClP P2 os' ∧ 0 ≤ p' ∧ p' ≤ p + 400 := by
  obtain ⟨o, ts, l1, p1, d1, hb, q0, q1⟩ := drawn_bill_ok (pre := P2) ho (l := l) (most := 4) hc hp (by omega) (by omega) (by omega)
  have m1 := make_ok (f := mCall (g__law_drawn_bill) (mCons (mVar 1) (mCons (mK (.int 4)) mNil))) (ρ := ew sc k x y z) (s := S os cs l p) (call_v (cons_v (w := .ref 2) rfl (cons_v k_ev nil_ev)) d1) hb
  rw [S_len, S_app] at m1
  have e1 : mAsg (mMake 9 g_File___init__ (mCons (mCall (g__law_drawn_bill) (mCons (mVar 1) (mCons (mK (.int 4)) mNil))) mNil)) (gN 3) (ew sc k x y z) (S os cs l p) = .nx (ew sc k (some (.ref (3 + os.length))) y z) (S (os ++ [ob o ts []]) cs l1 p1) := (asg_v m1).trans rfl
  have m2 := trial_ok (f := mVar 3) (ρ := ew sc k (some (.ref (3 + os.length))) y z) (at_j (cs := cs) (l := l1) (p := p1) (app_at (s := os) (y := ob o ts []))) rfl
  rw [S_len, S_app, List.append_assoc, List.length_append] at m2
  have e2 : mAsg (mAsk 9 (some "trial") g_File_trial (mVar 3) mNil) (gN 4) (ew sc k (some (.ref (3 + os.length))) y z) (S (os ++ [ob o ts []]) cs l1 p1) = .nx (ew sc k (some (.ref (3 + os.length))) (some (.ref (3 + (os.length + 1)))) z) (S (two os o ts [] []) cs l1 p1) := (asg_v m2).trans rfl
  obtain ⟨d, l2, p2, d2, d0, d8, p20, p21⟩ := (draw_ok (pre := P2) (tl := two os o ts [] []) (l := l1) hc (show (0 : Int) < 8 by decide) (by decide) q0 (by omega)).ok
  obtain ⟨n, rfl⟩ := Int.eq_ofNat_of_zero_le d0
  obtain ⟨ms, l3, p3, d3, hr, hlen, p30, p31⟩ := led_ok (os := two os o ts [] []) (n := 4 + n) (l := l2) two_ob hb ⟨by decide, by decide⟩ (by show 0 + (4 + n) ≤ 200; omega) hc p20 (by omega)
  rw [two_set] at d3
  have e3 : mExpr (mCall (g__law_led) (mCons (mVar 1) (mCons (mVar 3) (mCons (mBin addD (mK (.int 4)) (mCall (g__law_draw) (mCons (mVar 1) (mCons (mK (.int 8)) mNil)))) mNil)))) (ew sc k (some (.ref (3 + os.length))) (some (.ref (3 + (os.length + 1)))) z) (S (two os o ts [] []) cs l1 p1) = .nx (ew sc k (some (.ref (3 + os.length))) (some (.ref (3 + (os.length + 1)))) z) (S (two os o ts ms []) cs l3 p3) :=
    expr_v (call_v (cons_v (w := .ref 2) rfl (cons_v (w := .ref (3 + os.length)) rfl (cons_v (w := .int ((4 + n : Nat) : Int)) (bin_v k_ev (call_v (cons_v (w := .ref 2) rfl (cons_v k_ev nil_ev)) d2) (by rw [add_ii, show (4 : Int) + (n : Int) = ((4 + n : Nat) : Int) by omega])) nil_ev))) d3)
  have hl10 : ms.length + 10 ≤ 200 := by
    have : ([] : List Int).length = 0 := rfl
    omega
  have hF : F_law_1 (ew sc k (some (.ref (3 + os.length))) (some (.ref (3 + (os.length + 1)))) z) (S (two os o ts ms []) cs l3 p3) = .ok { ws := rng 0 (4 : Int).toNat } (S (two os o ts ms []) cs l3 p3) := range1_ok (cons_v k_ev nil_ev) (okR_s (by decide) (by decide))
  obtain ⟨ρ', s', f4, m4, l4, p4, z4, rfl, p40, p41, rfl⟩ := for_ix (g := t_law_1) (body := b_law_1)
    (fun i ρ s' => ∃ (m : List Int) (l4 p4 : Int) (z4 : Option Dv), s' = S (two os o ts ms m) cs l4 p4 ∧ 0 ≤ p4 ∧ p4 ≤ p3 + 20 * (i : Int) ∧ ρ = ew sc k (some (.ref (3 + os.length))) (some (.ref (3 + (os.length + 1)))) z4)
    hF ⟨[], l3, p3, z, rfl, p30, by omega, rfl⟩ fun i w ρ s' hw hJ => by
      obtain ⟨m, l4, p4, z4, rfl, p40, p41, rfl⟩ := hJ
      obtain ⟨hi, rfl⟩ := rng_get hw
      have hi : i < 4 := hi
      obtain ⟨m', l5, p5, d5, p50, p51⟩ := tried_ok (os := two os o ts ms m) (i := os.length + 1) (j := os.length) (way := i) (l := l4) hi (cl_two ho) two_ob two_tr hb hr hl10 hc p40 (by omega)
      rw [two_set1] at d5
      refine ⟨ew sc k (some (.ref (3 + os.length))) (some (.ref (3 + (os.length + 1)))) (some (.int (i : Int))), _, _, by rw [Int.zero_add]; rfl, .inl ?_, m', l5, p5, some (.int (i : Int)), rfl, p50, by omega, rfl⟩
      unfold b_law_1
      exact (ifS_f (not_vt (test_v (call_v (cons_v (w := .ref 2) rfl (cons_v (w := .ref (3 + os.length)) rfl (cons_v (w := .ref (3 + (os.length + 1))) rfl (cons_v (w := .int (i : Int)) rfl nil_ev)))) d5)))).trans next_ev
  rw [rng_len] at p41
  have e5 := copy_right (l := l4) (p := p4) (cs := cs) (cl_two (o := o) (ts := ts) (ns := ms) (ms := m4) ho) two_ob hb hr hl10
  have t5 : mNot (mTest (mCall (g__law_copy_right) (mCons (mVar 1) (mCons (mVar 3) mNil)))) (ew sc k (some (.ref (3 + os.length))) (some (.ref (3 + (os.length + 1)))) z4) (S (two os o ts ms m4) cs l4 p4) = .ok false (S (two os o ts ms m4) cs l4 p4) :=
    not_vt (test_v (call_v (cons_v (w := .ref 2) rfl (cons_v (w := .ref (3 + os.length)) rfl nil_ev)) e5))
  refine ⟨two os o ts ms m4, l4, p4, some (.ref (3 + os.length)), some (.ref (3 + (os.length + 1))), z4, ?_, cl_two ho, p40, by have : ((4 : Int).toNat : Int) = 4 := rfl; omega⟩
  unfold b_law_2
  exact seq_nx e1 (seq_nx e2 (seq_nx e3 (seq_nx f4 ((ifS_f t5).trans next_ev))))
end
theorem fact (ns : List Int) (hn : ns.length ≤ 63) : ∃ s', g_law [.sq (ns.map .int)] [.tab 0 lq__law_block, .tab 1 lq__law_tried] = .ok (.bl true) s' := by
  obtain ⟨l, hb⟩ := begun_ok (pre := P2) hn
  have hc : ns ++ [(ns.length : Int)] ≠ [] := by intro z; exact absurd (congrArg List.length z) (by simp)
  obtain ⟨cs, ecs⟩ : ∃ cs, cs = ns ++ [(ns.length : Int)] := ⟨_, rfl⟩
  rw [← ecs] at hb hc
  have e0 : startD 6 [.sq (ns.map .int)] = [some (.sq (ns.map .int)), none, none, none, none, none] := rfl
  have e1 : mAsg (mCall (g__law_begun) (mCons (mVar 0) mNil)) (gN 1) [some (.sq (ns.map .int)), none, none, none, none, none] P2 = .nx [some (.sq (ns.map .int)), some (.ref 2), none, none, none, none] (S [] cs l 0) :=
    (asg_v (call_v (cons_v (w := .sq (ns.map .int)) rfl nil_ev) hb)).trans rfl
  obtain ⟨j, hj, j0, j1⟩ : ∃ j : Int, min2D (S [] cs l 0) [.int (ns.length : Int), .int 6] = some (.int j) ∧ 0 ≤ j ∧ j ≤ 6 := by
    refine ⟨if (6 : Int) < ns.length then 6 else ns.length, rfl, ?_, ?_⟩ <;> split <;> omega
  have hF : F_law_2 [some (.sq (ns.map .int)), some (.ref 2), none, none, none, none] (S [] cs l 0) = .ok { ws := rng 0 (3 + j).toNat } (S [] cs l 0) :=
    range1_ok (cons_v (bin_v k_ev (blt_v (cons_v (blt_v (cons_v (w := .sq (ns.map .int)) rfl nil_ev) (len_sq.trans (by rw [List.length_map]))) (cons_v k_ev nil_ev)) hj) add_ii) nil_ev) (okR_s (by omega) (by omega))
  obtain ⟨ρ', s', f1, os, l', p', y, x3, x4, x5, rfl, ho, g0, g1, rfl⟩ := for_ix (g := t_law_2) (body := b_law_2)
    (fun i ρ s' => ∃ os l p y x3 x4 x5, s' = S os cs l p ∧ ClP P2 os ∧ 0 ≤ p ∧ p ≤ 400 * (i : Int) ∧ ρ = [some (.sq (ns.map .int)), some (.ref 2), y, x3, x4, x5]) hF ⟨[], l, 0, none, none, none, none, rfl, fun n _ => ⟨rfl, rfl⟩, by omega, by omega, rfl⟩ fun i x ρ s' hx hJ => by
      obtain ⟨os, l', p', y, x3, x4, x5, rfl, ho, g0, g1, rfl⟩ := hJ
      obtain ⟨hi, rfl⟩ := rng_get hx
      obtain ⟨os2, l2, p2, z3, z4, z5, hb, ho2, q0, q1⟩ := lap_ok (l := l') (sc := some (.sq (ns.map .int))) (x := x3) (y := x4) (z := x5) (k := .int (0 + (i : Int))) ho hc g0 (by omega)
      exact ⟨_, _, _, rfl, .inl hb, os2, l2, p2, _, z3, z4, z5, rfl, ho2, q0, by omega, rfl⟩
  obtain ⟨s2, hl⟩ := likes_ok (s := S os cs l' p')
  obtain ⟨s3, h3⟩ := fin_ex (n := (P2 : Sto).length) (b := true) (st := s2)
  refine ⟨s3, ?_⟩
  unfold g_law d_law
  rw [den_ev, e0]
  refine fin_nx e1 (fin_nx f1 ?_)
  rw [ret_v (call_v nil_ev hl)]
  exact h3
end MP.K18
set_option Elab.async false
set_option linter.all false
set_option maxRecDepth 100000
open PySem PySem.W PyProof.Rows
set_option maxHeartbeats 0 in
theorem PySem.Challenge.cw_bestoflast_k18_copies_and_trials_holds : PySem.Challenge.rw_bestoflast_k18_copies_and_trials.Holds := by
  w_on; o_law; k_head; (case hw => w_witness2)
  k_fill
  refine MP.walk_GTs (l := PySem.Challenge.rw_bestoflast_k18_copies_and_trials) (n := 63) (k := 22) (x := "script") (ys := ["_law_block", "_law_tried"]) (qs := [MP.K18.lq__law_block, MP.K18.lq__law_tried]) rfl (by decide) rfl ⟨rfl, by decide, by decide⟩ (fun w h Y => PySem.W.km_in_of Y) ?Y ?F
  case Y =>
    intro y hy
    simp only [List.mem_cons, List.mem_nil_iff, or_false] at hy
    rcases hy with rfl | rfl <;> exact ⟨_, rfl⟩
  case F =>
    intro w mg fa h KX G hmg
    refine' MP.K18.all_mk KX G hmg ?ya10 ?yp10 ?yd10 ?yo10 ?ys10 ?ym10 ?yk10 ?ya9 ?yp9 ?yd9 ?yo9 ?ys9 ?ym9 ?yk9 ?yc9 ?yr9 ?yi9 ?yt9 ?yn9 ?yf9__bill ?yf9__row ?yf10__before ?yf10__one ?a0 ?l0 ?c0 ?k0 ?a1 ?l1 ?c1 ?k1 ?a2 ?l2 ?c2 ?k2 ?a3 ?l3 ?c3 ?k3 ?a4 ?l4 ?c4 ?k4 ?a5 ?l5 ?c5 ?k5 ?a6 ?l6 ?c6 ?k6 ?a7 ?l7 ?c7 ?k7 ?a8 ?l8 ?c8 ?k8 ?a9 ?l9 ?c9 ?k9 ?a10 ?l10 ?c10 ?k10 ?a11 ?l11 ?c11 ?k11 ?a12 ?l12 ?c12 ?k12 ?a13 ?l13 ?c13 ?k13 ?fa14 ?fg14 ?ft14 ?fr14 ?l14 ?c14 ?k14 ?fa15 ?fi15 ?l15 ?c15 ?k15 ?fa16 ?fi16 ?l16 ?c16 ?k16 ?fa17 ?fi17 ?l17 ?c17 ?k17 ?fa18 ?fi18 ?l18 ?c18 ?k18 ?fa19 ?fg19 ?ft19 ?fr19 ?l19 ?c19 ?k19 ?fa20 ?fi20 ?l20 ?c20 ?k20 ?fa21 ?fi21 ?fn21 ?l21 ?c21 ?k21 ?fa22 ?fi22 ?l22 ?c22 ?k22 ?fa23 ?fi23 ?l23 ?c23 ?k23 ?kd23 ?fa24 ?fi24 ?l24 ?c24 ?k24 ?fa25 ?fi25 ?l25 ?c25 ?k25 ?fa26 ?fi26 ?l26 ?c26 ?k26 ?a27 ?l27 ?c27 ?k27 ?a28 ?l28 ?c28 ?k28 ?a29 ?l29 ?c29 ?k29 ?a30 ?l30 ?c30 ?k30 ?a31 ?l31 ?c31 ?k31 ?a32 ?l32 ?c32 ?k32 ?a33 ?l33 ?c33 ?k33 ?a34 ?l34 ?c34 ?k34 ?a35 ?l35 ?c35 ?k35 ?a36 ?l36 ?c36 ?k36 ?a37 ?l37 ?c37 ?k37 ?a38 ?l38 ?c38 ?k38 ?a39 ?l39 ?c39 ?k39 ?z0 ?z1 ?z2 ?z3 ?z4 ?z5 ?z6 ?z7 ?z8 ?z9 ?z10 ?z11 ?z12 ?v0 ?v1 ?v2 ?v3 ?v4 ?v5 ?xt0 ?xp0 ?xn0 ?xt1 ?xp1 ?xn1 ?xd0_1 ?ka4 ?kg4 ?kk4 ?ks4 ?kd4 ?kc4 ?km4 ?ki4 ?ky4 ?kv4 ?kw4 ?kf4_value ?s4_4 ?kn ?kt ?xl4 ?xr4 ?xs4 ?xk4 ?xi4 ?xy4 ?xf4 ?xc4 MP.K18.hd_under MP.K18.fact
    (case ya10 => k_is)
    (case yp10 => k_is)
    (case yd10 => k_is)
    (case yo10 => k_is)
    (case ys10 => k_is)
    (case ym10 => k_is)
    (case yk10 => k_is)
    (case ya9 => k_is)
    (case yp9 => k_is)
    (case yd9 => k_is)
    (case yo9 => k_is)
    (case ys9 => k_is)
    (case ym9 => k_is)
    (case yk9 => k_is)
    (case yc9 => k_is)
    (case yr9 => k_is)
    (case yi9 => k_is)
    (case yt9 => k_is)
    (case yn9 => k_is)
    (case yf9__bill => k_is)
    (case yf9__row => k_is)
    (case yf10__before => k_is)
    (case yf10__one => k_is)
    (case a0 => k_is)
    (case l0 => k_is)
    (case c0 => k_is)
    (case k0 => k_is)
    (case a1 => k_is)
    (case l1 => k_is)
    (case c1 => k_is)
    (case k1 => k_is)
    (case a2 => k_is)
    (case l2 => k_is)
    (case c2 => k_is)
    (case k2 => k_is)
    (case a3 => k_is)
    (case l3 => k_is)
    (case c3 => k_is)
    (case k3 => k_is)
    (case a4 => k_is)
    (case l4 => k_is)
    (case c4 => k_is)
    (case k4 => k_is)
    (case a5 => k_is)
    (case l5 => k_is)
    (case c5 => k_is)
    (case k5 => k_is)
    (case a6 => k_is)
    (case l6 => k_is)
    (case c6 => k_is)
    (case k6 => k_is)
    (case a7 => k_is)
    (case l7 => k_is)
    (case c7 => k_is)
    (case k7 => k_is)
    (case a8 => k_is)
    (case l8 => k_is)
    (case c8 => k_is)
    (case k8 => k_is)
    (case a9 => k_is)
    (case l9 => k_is)
    (case c9 => k_is)
    (case k9 => k_is)
    (case a10 => k_is)
    (case l10 => k_is)
    (case c10 => k_is)
    (case k10 => k_is)
    (case a11 => k_is)
    (case l11 => k_is)
    (case c11 => k_is)
    (case k11 => k_is)
    (case a12 => k_is)
    (case l12 => k_is)
    (case c12 => k_is)
    (case k12 => k_is)
    (case a13 => k_is)
    (case l13 => k_is)
    (case c13 => k_is)
    (case k13 => k_is)
    (case fa14 => k_is)
    (case fg14 => k_is)
    (case ft14 => k_is)
    (case fr14 => k_is)
    (case l14 => k_is)
    (case c14 => k_is)
    (case k14 => k_is)
    (case fa15 => k_is)
    (case fi15 => k_is)
    (case l15 => k_is)
    (case c15 => k_is)
    (case k15 => k_is)
    (case fa16 => k_is)
    (case fi16 => k_is)
    (case l16 => k_is)
    (case c16 => k_is)
    (case k16 => k_is)
    (case fa17 => k_is)
    (case fi17 => k_is)
    (case l17 => k_is)
    (case c17 => k_is)
    (case k17 => k_is)
    (case fa18 => k_is)
    (case fi18 => k_is)
    (case l18 => k_is)
    (case c18 => k_is)
    (case k18 => k_is)
    (case fa19 => k_is)
    (case fg19 => k_is)
    (case ft19 => k_is)
    (case fr19 => k_is)
    (case l19 => k_is)
    (case c19 => k_is)
    (case k19 => k_is)
    (case fa20 => k_is)
    (case fi20 => k_is)
    (case l20 => k_is)
    (case c20 => k_is)
    (case k20 => k_is)
    (case fa21 => k_is)
    (case fi21 => k_is)
    (case fn21 => k_is)
    (case l21 => k_is)
    (case c21 => k_is)
    (case k21 => k_is)
    (case fa22 => k_is)
    (case fi22 => k_is)
    (case l22 => k_is)
    (case c22 => k_is)
    (case k22 => k_is)
    (case fa23 => k_is)
    (case fi23 => k_is)
    (case l23 => k_is)
    (case c23 => k_is)
    (case k23 => k_is)
    (case kd23 => k_is)
    (case fa24 => k_is)
    (case fi24 => k_is)
    (case l24 => k_is)
    (case c24 => k_is)
    (case k24 => k_is)
    (case fa25 => k_is)
    (case fi25 => k_is)
    (case l25 => k_is)
    (case c25 => k_is)
    (case k25 => k_is)
    (case fa26 => k_is)
    (case fi26 => k_is)
    (case l26 => k_is)
    (case c26 => k_is)
    (case k26 => k_is)
    (case a27 => k_is)
    (case l27 => k_is)
    (case c27 => k_is)
    (case k27 => k_is)
    (case a28 => k_is)
    (case l28 => k_is)
    (case c28 => k_is)
    (case k28 => k_is)
    (case a29 => k_is)
    (case l29 => k_is)
    (case c29 => k_is)
    (case k29 => k_is)
    (case a30 => k_is)
    (case l30 => k_is)
    (case c30 => k_is)
    (case k30 => k_is)
    (case a31 => k_is)
    (case l31 => k_is)
    (case c31 => k_is)
    (case k31 => k_is)
    (case a32 => k_is)
    (case l32 => k_is)
    (case c32 => k_is)
    (case k32 => k_is)
    (case a33 => k_is)
    (case l33 => k_is)
    (case c33 => k_is)
    (case k33 => k_is)
    (case a34 => k_is)
    (case l34 => k_is)
    (case c34 => k_is)
    (case k34 => k_is)
    (case a35 => k_is)
    (case l35 => k_is)
    (case c35 => k_is)
    (case k35 => k_is)
    (case a36 => k_is)
    (case l36 => k_is)
    (case c36 => k_is)
    (case k36 => k_is)
    (case a37 => k_is)
    (case l37 => k_is)
    (case c37 => k_is)
    (case k37 => k_is)
    (case a38 => k_is)
    (case l38 => k_is)
    (case c38 => k_is)
    (case k38 => k_is)
    (case a39 => k_is)
    (case l39 => k_is)
    (case c39 => k_is)
    (case k39 => k_is)
    (case z0 => k_is)
    (case z1 => k_is)
    (case z2 => k_is)
    (case z3 => k_is)
    (case z4 => k_is)
    (case z5 => k_is)
    (case z6 => k_is)
    (case z7 => k_is)
    (case z8 => k_is)
    (case z9 => k_is)
    (case z10 => k_is)
    (case z11 => k_is)
    (case z12 => k_is)
    (case v0 => k_is)
    (case v1 => k_is)
    (case v2 => k_is)
    (case v3 => k_is)
    (case v4 => k_is)
    (case v5 => k_is)
    (case xt0 => k_is)
    (case xp0 => rfl)
    (case xn0 => kernel_rfl)
    (case xt1 => k_is)
    (case xp1 => rfl)
    (case xn1 => kernel_rfl)
    (case xd0_1 => rfl)
    (case ka4 => k_is)
    (case kg4 => k_is)
    (case kk4 => k_is)
    (case ks4 => k_is)
    (case kd4 => k_is)
    (case kc4 => k_is)
    (case km4 => k_is)
    (case ki4 => k_is)
    (case ky4 => k_is)
    (case kv4 => k_is)
    (case kw4 => k_is)
    (case kf4_value => k_is)
    (case s4_4 => k_is)
    (case kn => k_is)
    (case kt => k_is)
    (case xl4 => k_is)
    (case xr4 => rfl)
    (case xs4 => k_is)
    (case xk4 => k_is)
    (case xi4 => k_is)
    (case xy4 => k_is)
    (case xf4 => k_is)
    (case xc4 => k_is)
